/-
  The walks of WordBack's and WordOn's laws. For every line that the row reads.
-/
import Derived.Test.YtdkdkdbdnfhonaaDoorWordsOn
namespace Go.Proofs.YtdkdkdbdnfhonaaDoor.line
open Go.ChangeShapes Go.WideShapes Go.ChangeAt Go.RowKit
noncomputable def onV (s : ByteArray) (a : Int) : Int := if lineB s a then (onN s a.toNat : Nat) else -1
theorem specWordOn_any (s : ByteArray) (a : Int) (hs : s.size ≤ maxLen) (w : World) :
    Calls Tryd.prog 29 #[.agg #[.string s, .int .i64 a]] w fun e w' => e = .returned (.int .i64 (onV s a)) ∧ Below w.heap.size w w' := by
  have H := Lib.hid hs
  cases hb : lineB s a
  · have hv : onV s a = -1 := by simp [onV, hb]
    have HV := Lib.hid hv
    clear hv
    go_enter Tryd.func29, Tryd.ntmps29
    go_wp2_with fail
    refine (specLine_any _ _ H.out _).mono ?_
    rintro e w1 ⟨rfl, hb1⟩
    rw [hb]
    go_wp2
    go_ret
    exact ⟨by rw [HV.out]; rfl, bthen ((Below.refl _ w).alloc (Nat.le_refl _) _) hb1 (by simp)⟩
  · obtain ⟨h6, hp, h0, hn⟩ := lineB_ok hb
    obtain ⟨k, rfl⟩ : ∃ k : Nat, a = k := ⟨a.toNat, by omega⟩
    have hv : onV s (k : Int) = (onN s k : Nat) := by simp [onV, hb]
    have HV := Lib.hid hv
    clear hv hp
    go_enter Tryd.func29, Tryd.ntmps29
    go_wp2_with fail
    refine (specLine_any _ _ H.out _).mono ?_
    rintro e w1 ⟨rfl, hb1⟩
    rw [hb]
    obtain ⟨k1, _⟩ := keepC hb1 (g := w.heap.size) (by simp)
    have hs1 : w.heap.size < w1.heap.size := by have := hb1.size; simp at this; omega
    have HB1 := Lib.hid (bthen ((Below.refl _ w).alloc (Nat.le_refl _) _) hb1 (by simp))
    clear hb1
    go_wp2_with fail
    refine (specOn_any s k h6 (by omega) _).mono ?_
    rintro e w2 ⟨rfl, hb2⟩
    have HB2 := Lib.hid (bthen HB1.out hb2 (by omega))
    clear hb2 HB1
    go_wp2
    go_ret
    exact ⟨by rw [HV.out]; rfl, HB2.out⟩
theorem implWordOn_any (s : ByteArray) (a : Int) (hs : s.size ≤ maxLen) (w : World) :
    Calls Tryd.prog 28 #[.agg #[.string s, .int .i64 a]] w fun e w' => e = .returned (.int .i64 (onV s a)) ∧ Below w.heap.size w w' := by
  have H := Lib.hid hs
  cases hb : lineB s a
  · have hv : onV s a = -1 := by simp [onV, hb]
    have HV := Lib.hid hv
    clear hv
    go_enter Tryd.func28, Tryd.ntmps28
    go_wp2_with fail
    refine (implLine_any _ _ H.out _).mono ?_
    rintro e w1 ⟨rfl, hb1⟩
    rw [hb]
    go_wp2
    go_ret
    exact ⟨by rw [HV.out]; rfl, bthen ((Below.refl _ w).alloc (Nat.le_refl _) _) hb1 (by simp)⟩
  · obtain ⟨h6, hp, h0, hn⟩ := lineB_ok hb
    obtain ⟨k, rfl⟩ : ∃ k : Nat, a = k := ⟨a.toNat, by omega⟩
    have hv : onV s (k : Int) = (onN s k : Nat) := by simp [onV, hb]
    rw [hv]
    exact implOn_any s k h6 hp (by omega) w
noncomputable def backV (s : ByteArray) (a : Int) : Int := if lineB s a then (backN s a.toNat : Nat) else -1
theorem specWordBack_any (s : ByteArray) (a : Int) (hs : s.size ≤ maxLen) (w : World) :
    Calls Tryd.prog 27 #[.agg #[.string s, .int .i64 a]] w fun e w' => e = .returned (.int .i64 (backV s a)) ∧ Below w.heap.size w w' := by
  have H := Lib.hid hs
  cases hb : lineB s a
  · have hv : backV s a = -1 := by simp [backV, hb]
    have HV := Lib.hid hv
    clear hv
    go_enter Tryd.func27, Tryd.ntmps27
    go_wp2_with fail
    refine (specLine_any _ _ H.out _).mono ?_
    rintro e w1 ⟨rfl, hb1⟩
    rw [hb]
    go_wp2
    go_ret
    exact ⟨by rw [HV.out]; rfl, bthen ((Below.refl _ w).alloc (Nat.le_refl _) _) hb1 (by simp)⟩
  · obtain ⟨h6, hp, h0, hn⟩ := lineB_ok hb
    obtain ⟨k, rfl⟩ : ∃ k : Nat, a = k := ⟨a.toNat, by omega⟩
    have hv : backV s (k : Int) = (backN s k : Nat) := by simp [backV, hb]
    have HV := Lib.hid hv
    clear hv hp
    go_enter Tryd.func27, Tryd.ntmps27
    go_wp2_with fail
    refine (specLine_any _ _ H.out _).mono ?_
    rintro e w1 ⟨rfl, hb1⟩
    rw [hb]
    obtain ⟨k1, _⟩ := keepC hb1 (g := w.heap.size) (by simp)
    have hs1 : w.heap.size < w1.heap.size := by have := hb1.size; simp at this; omega
    have HB1 := Lib.hid (bthen ((Below.refl _ w).alloc (Nat.le_refl _) _) hb1 (by simp))
    clear hb1
    go_wp2_with fail
    refine (specBack_any s k h6 (by omega) _).mono ?_
    rintro e w2 ⟨rfl, hb2⟩
    have HB2 := Lib.hid (bthen HB1.out hb2 (by omega))
    clear hb2 HB1
    go_wp2
    go_ret
    exact ⟨by rw [HV.out]; rfl, HB2.out⟩
theorem implWordBack_any (s : ByteArray) (a : Int) (hs : s.size ≤ maxLen) (w : World) :
    Calls Tryd.prog 26 #[.agg #[.string s, .int .i64 a]] w fun e w' => e = .returned (.int .i64 (backV s a)) ∧ Below w.heap.size w w' := by
  have H := Lib.hid hs
  cases hb : lineB s a
  · have hv : backV s a = -1 := by simp [backV, hb]
    have HV := Lib.hid hv
    clear hv
    go_enter Tryd.func26, Tryd.ntmps26
    go_wp2_with fail
    refine (implLine_any _ _ H.out _).mono ?_
    rintro e w1 ⟨rfl, hb1⟩
    rw [hb]
    go_wp2
    go_ret
    exact ⟨by rw [HV.out]; rfl, bthen ((Below.refl _ w).alloc (Nat.le_refl _) _) hb1 (by simp)⟩
  · obtain ⟨h6, hp, h0, hn⟩ := lineB_ok hb
    obtain ⟨k, rfl⟩ : ∃ k : Nat, a = k := ⟨a.toNat, by omega⟩
    have hv : backV s (k : Int) = (backN s k : Nat) := by simp [backV, hb]
    rw [hv]
    exact implBack_any s k h6 hp (by omega) w
end Go.Proofs.YtdkdkdbdnfhonaaDoor.line
