/-
  The walks of WordBack's and WordOn's laws. For every line that the row reads.
-/
import Derived.Test.YtnnmcenmnmmfpaaWordsOn
namespace Go.Proofs.Ytnnmcenmnmmfpaa.line
open Go.ChangeShapes Go.WideShapes Go.ChangeAt Go.RowKit
noncomputable def onV (s : ByteArray) (a : Int) : Int := if lineB s a then (onN s a.toNat : Nat) else -1
theorem specWordOn_any (s : ByteArray) (a : Int) (hs : s.size ≤ maxLen) (w : World) :
    Calls Try.prog 23 #[.agg #[.string s, .int .i64 a]] w fun e w' => e = .returned (.int .i64 (onV s a)) ∧ Below w.heap.size w w' := by
  have H := Lib.hid hs
  cases hb : lineB s a
  · have hv : onV s a = -1 := by simp [onV, hb]
    have HV := Lib.hid hv
    clear hv
    go_enter Try.func23, Try.ntmps23
    go_wp2_with fail
    refine (specLine_any _ _ H.out _).mono ?_
    rintro e w1 ⟨rfl, hb1⟩
    rw [hb]
    go_wp2
    go_ret
    exact ⟨by rw [HV.out]; rfl, bthen ((Below.refl _ w).alloc (Nat.le_refl _) _) hb1 (by simp)⟩
  · obtain ⟨h6, hp, h0, hn⟩ := lineB_ok hb
    obtain ⟨k, rfl⟩ : ∃ k : Nat, a = k := ⟨a.toNat, by omega⟩
    have hv : onV s (k : Int) = (onN s k : Nat) := by simp [onV, hb]
    have HV := Lib.hid hv
    clear hv hp
    go_enter Try.func23, Try.ntmps23
    go_wp2_with fail
    refine (specLine_any _ _ H.out _).mono ?_
    rintro e w1 ⟨rfl, hb1⟩
    rw [hb]
    obtain ⟨k1, _⟩ := keepC hb1 (g := w.heap.size) (by simp)
    have hs1 : w.heap.size < w1.heap.size := by have := hb1.size; simp at this; omega
    have HB1 := Lib.hid (bthen ((Below.refl _ w).alloc (Nat.le_refl _) _) hb1 (by simp))
    clear hb1
    go_wp2_with fail
    refine (specOn_any s k h6 (by omega) _).mono ?_
    rintro e w2 ⟨rfl, hb2⟩
    have HB2 := Lib.hid (bthen HB1.out hb2 (by omega))
    clear hb2 HB1
    go_wp2
    go_ret
    exact ⟨by rw [HV.out]; rfl, HB2.out⟩
theorem implWordOn_any (s : ByteArray) (a : Int) (hs : s.size ≤ maxLen) (w : World) :
    Calls Try.prog 24 #[.agg #[.string s, .int .i64 a]] w fun e w' => e = .returned (.int .i64 (onV s a)) ∧ Below w.heap.size w w' := by
  have H := Lib.hid hs
  cases hb : lineB s a
  · have hv : onV s a = -1 := by simp [onV, hb]
    have HV := Lib.hid hv
    clear hv
    go_enter Try.func24, Try.ntmps24
    go_wp2_with fail
    refine (implLine_any _ _ H.out _).mono ?_
    rintro e w1 ⟨rfl, hb1⟩
    rw [hb]
    go_wp2
    go_ret
    exact ⟨by rw [HV.out]; rfl, bthen ((Below.refl _ w).alloc (Nat.le_refl _) _) hb1 (by simp)⟩
  · obtain ⟨h6, hp, h0, hn⟩ := lineB_ok hb
    obtain ⟨k, rfl⟩ : ∃ k : Nat, a = k := ⟨a.toNat, by omega⟩
    have hv : onV s (k : Int) = (onN s k : Nat) := by simp [onV, hb]
    rw [hv]
    exact implOn_any s k h6 hp (by omega) w
theorem walkWordOn (a0 : ByteArray) (a1 : Int) (w0 : a0.size ≤ maxLen) (_ : (Lit.int .i64 a1).wf = true) (w : World) :
    Calls Try.prog 8 #[.agg #[.string a0, .int .i64 a1]] w fun e w' => e = .returned (.bool true) ∧ Below w.heap.size w w' := by
  have H := Lib.hid w0
  by_cases hl : (1048576 : Int) < a0.size
  · unfold maxLen at w0
    go_enter Try.func8, Try.ntmps8
    go_wp2_with fail
    refine (szLine_any _ _ _ H.out (by omega) (by omega) _).mono ?_
    rintro e w1 ⟨rfl, hb⟩
    rw [if_pos hl]
    go_wp2
    go_ret
    exact ⟨rfl, bthen ((Below.refl _ _).alloc (Nat.le_refl _) _) hb (by simp)⟩
  · unfold maxLen at w0
    go_enter Try.func8, Try.ntmps8
    go_wp2_with fail
    refine (szLine_any _ _ _ H.out (by omega) (by omega) _).mono ?_
    rintro e w1 ⟨rfl, hb1⟩
    rw [if_neg (by omega)]
    obtain ⟨k1, _⟩ := keepC hb1 (g := w.heap.size) (by simp)
    have hs1 : w.heap.size < w1.heap.size := by have := hb1.size; simp at this; omega
    have HB1 := Lib.hid (bthen ((Below.refl _ w).alloc (Nat.le_refl _) _) hb1 (by simp))
    clear hb1
    go_wp2_with fail
    refine (toLine_any _ _ _).mono ?_
    rintro e w2 ⟨rfl, hb2⟩
    obtain ⟨k2, _⟩ := keepC hb2 (g := w.heap.size) (by omega)
    have hs2 : w.heap.size < w2.heap.size := by have := hb2.size; omega
    have HB2 := Lib.hid (bthen HB1.out hb2 (by omega))
    clear hb2 HB1
    go_wp2_with fail
    refine (specWordOn_any _ _ H.out _).mono ?_
    rintro e w3 ⟨rfl, hb3⟩
    obtain ⟨k3, _⟩ := keepC hb3 (g := w.heap.size) (by omega)
    have hs3 : w.heap.size < w3.heap.size := by have := hb3.size; omega
    have HB3 := Lib.hid (bthen HB2.out hb3 (by omega))
    clear hb3 HB2
    go_wp2_with fail
    refine (toLine_any _ _ _).mono ?_
    rintro e w4 ⟨rfl, hb4⟩
    have hs4 : w.heap.size < w4.heap.size := by have := hb4.size; omega
    have HB4 := Lib.hid (bthen HB3.out hb4 (by omega))
    clear hb4 HB3
    go_wp2_with fail
    refine (implWordOn_any _ _ H.out _).mono ?_
    rintro e w5 ⟨rfl, hb5⟩
    have HB5 := Lib.hid (bthen HB4.out hb5 (by omega))
    clear hb5 HB4
    go_wp2
    go_ret
    exact ⟨rfl, HB5.out⟩
noncomputable def backV (s : ByteArray) (a : Int) : Int := if lineB s a then (backN s a.toNat : Nat) else -1
theorem specWordBack_any (s : ByteArray) (a : Int) (hs : s.size ≤ maxLen) (w : World) :
    Calls Try.prog 21 #[.agg #[.string s, .int .i64 a]] w fun e w' => e = .returned (.int .i64 (backV s a)) ∧ Below w.heap.size w w' := by
  have H := Lib.hid hs
  cases hb : lineB s a
  · have hv : backV s a = -1 := by simp [backV, hb]
    have HV := Lib.hid hv
    clear hv
    go_enter Try.func21, Try.ntmps21
    go_wp2_with fail
    refine (specLine_any _ _ H.out _).mono ?_
    rintro e w1 ⟨rfl, hb1⟩
    rw [hb]
    go_wp2
    go_ret
    exact ⟨by rw [HV.out]; rfl, bthen ((Below.refl _ w).alloc (Nat.le_refl _) _) hb1 (by simp)⟩
  · obtain ⟨h6, hp, h0, hn⟩ := lineB_ok hb
    obtain ⟨k, rfl⟩ : ∃ k : Nat, a = k := ⟨a.toNat, by omega⟩
    have hv : backV s (k : Int) = (backN s k : Nat) := by simp [backV, hb]
    have HV := Lib.hid hv
    clear hv hp
    go_enter Try.func21, Try.ntmps21
    go_wp2_with fail
    refine (specLine_any _ _ H.out _).mono ?_
    rintro e w1 ⟨rfl, hb1⟩
    rw [hb]
    obtain ⟨k1, _⟩ := keepC hb1 (g := w.heap.size) (by simp)
    have hs1 : w.heap.size < w1.heap.size := by have := hb1.size; simp at this; omega
    have HB1 := Lib.hid (bthen ((Below.refl _ w).alloc (Nat.le_refl _) _) hb1 (by simp))
    clear hb1
    go_wp2_with fail
    refine (specBack_any s k h6 (by omega) _).mono ?_
    rintro e w2 ⟨rfl, hb2⟩
    have HB2 := Lib.hid (bthen HB1.out hb2 (by omega))
    clear hb2 HB1
    go_wp2
    go_ret
    exact ⟨by rw [HV.out]; rfl, HB2.out⟩
theorem implWordBack_any (s : ByteArray) (a : Int) (hs : s.size ≤ maxLen) (w : World) :
    Calls Try.prog 22 #[.agg #[.string s, .int .i64 a]] w fun e w' => e = .returned (.int .i64 (backV s a)) ∧ Below w.heap.size w w' := by
  have H := Lib.hid hs
  cases hb : lineB s a
  · have hv : backV s a = -1 := by simp [backV, hb]
    have HV := Lib.hid hv
    clear hv
    go_enter Try.func22, Try.ntmps22
    go_wp2_with fail
    refine (implLine_any _ _ H.out _).mono ?_
    rintro e w1 ⟨rfl, hb1⟩
    rw [hb]
    go_wp2
    go_ret
    exact ⟨by rw [HV.out]; rfl, bthen ((Below.refl _ w).alloc (Nat.le_refl _) _) hb1 (by simp)⟩
  · obtain ⟨h6, hp, h0, hn⟩ := lineB_ok hb
    obtain ⟨k, rfl⟩ : ∃ k : Nat, a = k := ⟨a.toNat, by omega⟩
    have hv : backV s (k : Int) = (backN s k : Nat) := by simp [backV, hb]
    rw [hv]
    exact implBack_any s k h6 hp (by omega) w
theorem walkWordBack (a0 : ByteArray) (a1 : Int) (w0 : a0.size ≤ maxLen) (_ : (Lit.int .i64 a1).wf = true) (w : World) :
    Calls Try.prog 7 #[.agg #[.string a0, .int .i64 a1]] w fun e w' => e = .returned (.bool true) ∧ Below w.heap.size w w' := by
  have H := Lib.hid w0
  by_cases hl : (1048576 : Int) < a0.size
  · unfold maxLen at w0
    go_enter Try.func7, Try.ntmps7
    go_wp2_with fail
    refine (szLine_any _ _ _ H.out (by omega) (by omega) _).mono ?_
    rintro e w1 ⟨rfl, hb⟩
    rw [if_pos hl]
    go_wp2
    go_ret
    exact ⟨rfl, bthen ((Below.refl _ _).alloc (Nat.le_refl _) _) hb (by simp)⟩
  · unfold maxLen at w0
    go_enter Try.func7, Try.ntmps7
    go_wp2_with fail
    refine (szLine_any _ _ _ H.out (by omega) (by omega) _).mono ?_
    rintro e w1 ⟨rfl, hb1⟩
    rw [if_neg (by omega)]
    obtain ⟨k1, _⟩ := keepC hb1 (g := w.heap.size) (by simp)
    have hs1 : w.heap.size < w1.heap.size := by have := hb1.size; simp at this; omega
    have HB1 := Lib.hid (bthen ((Below.refl _ w).alloc (Nat.le_refl _) _) hb1 (by simp))
    clear hb1
    go_wp2_with fail
    refine (toLine_any _ _ _).mono ?_
    rintro e w2 ⟨rfl, hb2⟩
    obtain ⟨k2, _⟩ := keepC hb2 (g := w.heap.size) (by omega)
    have hs2 : w.heap.size < w2.heap.size := by have := hb2.size; omega
    have HB2 := Lib.hid (bthen HB1.out hb2 (by omega))
    clear hb2 HB1
    go_wp2_with fail
    refine (specWordBack_any _ _ H.out _).mono ?_
    rintro e w3 ⟨rfl, hb3⟩
    obtain ⟨k3, _⟩ := keepC hb3 (g := w.heap.size) (by omega)
    have hs3 : w.heap.size < w3.heap.size := by have := hb3.size; omega
    have HB3 := Lib.hid (bthen HB2.out hb3 (by omega))
    clear hb3 HB2
    go_wp2_with fail
    refine (toLine_any _ _ _).mono ?_
    rintro e w4 ⟨rfl, hb4⟩
    have hs4 : w.heap.size < w4.heap.size := by have := hb4.size; omega
    have HB4 := Lib.hid (bthen HB3.out hb4 (by omega))
    clear hb4 HB3
    go_wp2_with fail
    refine (implWordBack_any _ _ H.out _).mono ?_
    rintro e w5 ⟨rfl, hb5⟩
    have HB5 := Lib.hid (bthen HB4.out hb5 (by omega))
    clear hb5 HB4
    go_wp2
    go_ret
    exact ⟨rfl, HB5.out⟩
end Go.Proofs.Ytnnmcenmnmmfpaa.line
