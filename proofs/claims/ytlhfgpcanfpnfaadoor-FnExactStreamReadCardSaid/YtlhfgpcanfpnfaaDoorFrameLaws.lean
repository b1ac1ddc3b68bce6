/-
  FrameRight and FrameText of the model, and the walks of both laws. For every frame.
-/
import Derived.Test.YtlhfgpcanfpnfaaDoorFrameSpec
namespace Go.Proofs.YtlhfgpcanfpnfaaDoor.frame
open Go.ChangeShapes Go.WideShapes Go.ChangeAt Go.RowKit
open Go.Proofs.YtlhfgpcanfpnfaaDoor.line Go.Proofs.YtlhfgpcanfpnfaaDoor.all_
theorem plB_0 : plB 0 = true := by decide
set_option maxHeartbeats 1600000 in
theorem specFrame_any (k a : Int) (t : ByteArray) (ht : t.size ≤ maxLen) (w : World) :
    Calls Tryd.prog 26 #[fV k a t] w fun e w' => e = .returned (.bool (frB k a t)) ∧ Below w.heap.size w w' := by
  have H := Lib.hid ht
  clear ht
  have hB : Below w.heap.size w (w.alloc (.cells #[.int .i64 k, .int .i64 a, .string t] 23)) := (Below.refl _ w).alloc (Nat.le_refl _) _
  have HB := Lib.hid hB
  clear hB
  cases hp : plB a
  · have hf : frB k a t = false := by
      have h0 : decide (a = 0) = false := by simp; rintro rfl; rw [plB_0] at hp; cases hp
      simp [frB, hp, h0]
    have HF := Lib.hid hf
    clear hf
    unfold fV
    go_enter Tryd.func26, Tryd.ntmps26
    go_wp2_with (go_at_call 32; refine (is_any _ _ _ _).mono ?_; rw [show (decide ((0 : Int) ≤ a) && decide (a ≤ 60)) = plB a from rfl, hp]; rintro e w1 ⟨rfl, rfl⟩)
    go_ret
    exact ⟨by rw [HF.out]; rfl, HB.out⟩
  unfold fV
  by_cases h1 : k = 1
  · subst h1
    have HE := Lib.hid (show frB 1 a t = (textB t && decide (t.size ≠ 0)) by rw [frB_1, hp]; rfl)
    cases ht : textB t
    · go_enter Tryd.func26, Tryd.ntmps26
      go_wp2_with (first | (go_at_call 32; refine (is_any _ _ _ _).mono ?_; rw [show (decide ((0 : Int) ≤ a) && decide (a ≤ 60)) = plB a from rfl, hp]; rintro e w1 ⟨rfl, rfl⟩) | (go_at_call 33; refine (specRight_any _ H.out _).mono ?_; rw [ht]; rintro e w1 ⟨rfl, rfl⟩))
      go_ret
      exact ⟨by rw [HE.out, ht]; rfl, HB.out⟩
    · by_cases hz : t.size = 0
      · have hem := empty_t (s := t) (by omega)
        go_enter Tryd.func26, Tryd.ntmps26
        go_wp2_with (first | (go_at_call 32; refine (is_any _ _ _ _).mono ?_; rw [show (decide ((0 : Int) ≤ a) && decide (a ≤ 60)) = plB a from rfl, hp]; rintro e w1 ⟨rfl, rfl⟩) | (go_at_call 33; refine (specRight_any _ H.out _).mono ?_; rw [ht]; rintro e w1 ⟨rfl, rfl⟩))
        go_ret
        exact ⟨by rw [HE.out, ht, hz]; rfl, HB.out⟩
      · have hem := empty_f (s := t) (by omega)
        have hz' : decide (t.size ≠ 0) = true := by simpa using hz
        go_enter Tryd.func26, Tryd.ntmps26
        go_wp2_with (first | (go_at_call 32; refine (is_any _ _ _ _).mono ?_; rw [show (decide ((0 : Int) ≤ a) && decide (a ≤ 60)) = plB a from rfl, hp]; rintro e w1 ⟨rfl, rfl⟩) | (go_at_call 33; refine (specRight_any _ H.out _).mono ?_; rw [ht]; rintro e w1 ⟨rfl, rfl⟩))
        go_ret
        exact ⟨by rw [HE.out, ht, hz']; rfl, HB.out⟩
  by_cases h2 : k = 2
  · subst h2
    have HE := Lib.hid (show frB 2 a t = (textB t && decide (t.size ≠ 0)) by rw [frB_2, hp]; rfl)
    cases ht : textB t
    · go_enter Tryd.func26, Tryd.ntmps26
      go_wp2_with (first | (go_at_call 32; refine (is_any _ _ _ _).mono ?_; rw [show (decide ((0 : Int) ≤ a) && decide (a ≤ 60)) = plB a from rfl, hp]; rintro e w1 ⟨rfl, rfl⟩) | (go_at_call 33; refine (specRight_any _ H.out _).mono ?_; rw [ht]; rintro e w1 ⟨rfl, rfl⟩))
      go_ret
      exact ⟨by rw [HE.out, ht]; rfl, HB.out⟩
    · by_cases hz : t.size = 0
      · have hem := empty_t (s := t) (by omega)
        go_enter Tryd.func26, Tryd.ntmps26
        go_wp2_with (first | (go_at_call 32; refine (is_any _ _ _ _).mono ?_; rw [show (decide ((0 : Int) ≤ a) && decide (a ≤ 60)) = plB a from rfl, hp]; rintro e w1 ⟨rfl, rfl⟩) | (go_at_call 33; refine (specRight_any _ H.out _).mono ?_; rw [ht]; rintro e w1 ⟨rfl, rfl⟩))
        go_ret
        exact ⟨by rw [HE.out, ht, hz]; rfl, HB.out⟩
      · have hem := empty_f (s := t) (by omega)
        have hz' : decide (t.size ≠ 0) = true := by simpa using hz
        go_enter Tryd.func26, Tryd.ntmps26
        go_wp2_with (first | (go_at_call 32; refine (is_any _ _ _ _).mono ?_; rw [show (decide ((0 : Int) ≤ a) && decide (a ≤ 60)) = plB a from rfl, hp]; rintro e w1 ⟨rfl, rfl⟩) | (go_at_call 33; refine (specRight_any _ H.out _).mono ?_; rw [ht]; rintro e w1 ⟨rfl, rfl⟩))
        go_ret
        exact ⟨by rw [HE.out, ht, hz']; rfl, HB.out⟩
  by_cases h3 : k = 3
  · subst h3
    have HE := Lib.hid (show frB 3 a t = decide (t.size = 0) by rw [frB_3, hp]; rfl)
    by_cases hz : t.size = 0
    · have hem := empty_t (s := t) (by omega)
      go_enter Tryd.func26, Tryd.ntmps26
      go_wp2_with (go_at_call 32; refine (is_any _ _ _ _).mono ?_; rw [show (decide ((0 : Int) ≤ a) && decide (a ≤ 60)) = plB a from rfl, hp]; rintro e w1 ⟨rfl, rfl⟩)
      go_ret
      exact ⟨by rw [HE.out, hz]; rfl, HB.out⟩
    · have hem := empty_f (s := t) (by omega)
      have hz' : decide (t.size = 0) = false := by simpa using hz
      go_enter Tryd.func26, Tryd.ntmps26
      go_wp2_with (go_at_call 32; refine (is_any _ _ _ _).mono ?_; rw [show (decide ((0 : Int) ≤ a) && decide (a ≤ 60)) = plB a from rfl, hp]; rintro e w1 ⟨rfl, rfl⟩)
      go_ret
      exact ⟨by rw [HE.out, hz']; rfl, HB.out⟩
  by_cases h4 : k = 4
  · subst h4
    have HE := Lib.hid (show frB 4 a t = textB t by rw [frB_4, hp]; rfl)
    go_enter Tryd.func26, Tryd.ntmps26
    go_wp2_with (first | (go_at_call 32; refine (is_any _ _ _ _).mono ?_; rw [show (decide ((0 : Int) ≤ a) && decide (a ≤ 60)) = plB a from rfl, hp]; rintro e w1 ⟨rfl, rfl⟩) | (go_at_call 33; refine (specRight_any _ H.out _).mono ?_; rintro e w1 ⟨rfl, rfl⟩))
    go_ret
    exact ⟨by rw [HE.out]; rfl, HB.out⟩
  by_cases h5 : k = 5
  · subst h5
    by_cases hz : a = 0
    · subst hz
      have HE := Lib.hid (show frB 5 0 t = sayB t by rw [frB_5]; rfl)
      go_enter Tryd.func26, Tryd.ntmps26
      go_wp2_with (first | (go_at_call 32; refine (is_any _ _ _ _).mono ?_; rw [show (decide ((0 : Int) ≤ 0) && decide ((0 : Int) ≤ 60)) = true from rfl]; rintro e w1 ⟨rfl, rfl⟩) | (go_at_call 34; refine (specSay_any _ H.out _).mono ?_; rintro e w1 ⟨rfl, rfl⟩))
      go_ret
      exact ⟨by rw [HE.out]; rfl, HB.out⟩
    · have hz0 : decide (a = 0) = false := by simpa using hz
      have HE := Lib.hid (show frB 5 a t = false by rw [frB_5, hz0]; rfl)
      have hz2 : (a == 0) = false := by simpa using hz
      go_enter Tryd.func26, Tryd.ntmps26
      go_wp2_with (go_at_call 32; refine (is_any _ _ _ _).mono ?_; rw [show (decide ((0 : Int) ≤ a) && decide (a ≤ 60)) = plB a from rfl, hp]; rintro e w1 ⟨rfl, rfl⟩)
      go_ret
      exact ⟨by rw [HE.out]; rfl, HB.out⟩
  by_cases h6 : k = 6
  · subst h6
    by_cases hz : a = 0
    · subst hz
      have HE := Lib.hid (show frB 6 0 t = decide (t.size = 0) by rw [frB_6]; rfl)
      by_cases hy : t.size = 0
      · have hem := empty_t (s := t) (by omega)
        go_enter Tryd.func26, Tryd.ntmps26
        go_wp2_with (go_at_call 32; refine (is_any _ _ _ _).mono ?_; rw [show (decide ((0 : Int) ≤ 0) && decide ((0 : Int) ≤ 60)) = true from rfl]; rintro e w1 ⟨rfl, rfl⟩)
        go_ret
        exact ⟨by rw [HE.out, hy]; rfl, HB.out⟩
      · have hem := empty_f (s := t) (by omega)
        have hz' : decide (t.size = 0) = false := by simpa using hy
        go_enter Tryd.func26, Tryd.ntmps26
        go_wp2_with (go_at_call 32; refine (is_any _ _ _ _).mono ?_; rw [show (decide ((0 : Int) ≤ 0) && decide ((0 : Int) ≤ 60)) = true from rfl]; rintro e w1 ⟨rfl, rfl⟩)
        go_ret
        exact ⟨by rw [HE.out, hz']; rfl, HB.out⟩
    · have hz0 : decide (a = 0) = false := by simpa using hz
      have HE := Lib.hid (show frB 6 a t = false by rw [frB_6, hz0]; rfl)
      have hz2 : (a == 0) = false := by simpa using hz
      go_enter Tryd.func26, Tryd.ntmps26
      go_wp2_with (go_at_call 32; refine (is_any _ _ _ _).mono ?_; rw [show (decide ((0 : Int) ≤ a) && decide (a ≤ 60)) = plB a from rfl, hp]; rintro e w1 ⟨rfl, rfl⟩)
      go_ret
      exact ⟨by rw [HE.out]; rfl, HB.out⟩
  by_cases h7 : k = 7
  · subst h7
    by_cases hz : a = 0
    · subst hz
      have HE := Lib.hid (show frB 7 0 t = textB t by rw [frB_7]; rfl)
      go_enter Tryd.func26, Tryd.ntmps26
      go_wp2_with (first | (go_at_call 32; refine (is_any _ _ _ _).mono ?_; rw [show (decide ((0 : Int) ≤ 0) && decide ((0 : Int) ≤ 60)) = true from rfl]; rintro e w1 ⟨rfl, rfl⟩) | (go_at_call 33; refine (specRight_any _ H.out _).mono ?_; rintro e w1 ⟨rfl, rfl⟩))
      go_ret
      exact ⟨by rw [HE.out]; rfl, HB.out⟩
    · have hz0 : decide (a = 0) = false := by simpa using hz
      have HE := Lib.hid (show frB 7 a t = false by rw [frB_7, hz0]; rfl)
      have hz2 : (a == 0) = false := by simpa using hz
      go_enter Tryd.func26, Tryd.ntmps26
      go_wp2_with (go_at_call 32; refine (is_any _ _ _ _).mono ?_; rw [show (decide ((0 : Int) ≤ a) && decide (a ≤ 60)) = plB a from rfl, hp]; rintro e w1 ⟨rfl, rfl⟩)
      go_ret
      exact ⟨by rw [HE.out]; rfl, HB.out⟩
  have HE := Lib.hid (frB_else a t h1 h2 h3 h4 h5 h6 h7)
  have e1 : (k == 1) = false := by simpa using h1
  have e2 : (k == 2) = false := by simpa using h2
  have e3 : (k == 3) = false := by simpa using h3
  have e4 : (k == 4) = false := by simpa using h4
  have e5 : (k == 5) = false := by simpa using h5
  have e6 : (k == 6) = false := by simpa using h6
  have e7 : (k == 7) = false := by simpa using h7
  clear h1 h2 h3 h4 h5 h6 h7
  go_enter Tryd.func26, Tryd.ntmps26
  go_wp2_with (go_at_call 32; refine (is_any _ _ _ _).mono ?_; rw [show (decide ((0 : Int) ≤ a) && decide (a ≤ 60)) = plB a from rfl, hp]; rintro e w1 ⟨rfl, rfl⟩)
  go_ret
  exact ⟨by rw [HE.out]; rfl, HB.out⟩
theorem specText_any (k a : Int) (t : ByteArray) (ht : t.size ≤ maxLen) (w : World) :
    Calls Tryd.prog 16 #[fV k a t] w fun e w' => e = .returned (.string (frTx k a t)) ∧ Below w.heap.size w w' := by
  have HS := Lib.hid (specFrame_any k a t ht)
  cases hr : frB k a t
  · have HV := Lib.hid (frTx_f hr)
    rw [hr] at HS
    clear hr
    unfold fV at HS ⊢
    go_enter Tryd.func16, Tryd.ntmps16
    go_wp2_with fail
    refine (HS.out _).mono ?_
    rintro e w1 ⟨rfl, hb⟩
    have HB := Lib.hid (bthen ((Below.refl _ w).alloc (Nat.le_refl _) _) hb (by simp))
    clear hb
    go_wp2
    go_ret
    exact ⟨by rw [HV.out]; rfl, HB.out⟩
  · have HV := Lib.hid (frTx_t hr)
    have HT := Lib.hid (specTx_any k a t hr)
    rw [hr] at HS
    clear hr
    unfold fV at HS HT ⊢
    go_enter Tryd.func16, Tryd.ntmps16
    go_wp2_with fail
    refine (HS.out _).mono ?_
    rintro e w1 ⟨rfl, hb⟩
    obtain ⟨k1, _⟩ := keepC hb (g := w.heap.size) (by simp)
    have HB := Lib.hid (bthen ((Below.refl _ w).alloc (Nat.le_refl _) _) hb (by simp))
    clear hb
    go_wp2_with fail
    refine (HT.out _).mono ?_
    rintro e w2 ⟨rfl, hb⟩
    have HB := Lib.hid (bthen HB.out hb HB.out.size)
    clear hb
    go_wp2
    go_ret
    exact ⟨by rw [HV.out]; rfl, HB.out⟩
end Go.Proofs.YtlhfgpcanfpnfaaDoor.frame
