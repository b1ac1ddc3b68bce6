/-
  The walk of CaseWord's law. For every line that the row reads.
-/
import Derived.Test.YtnnmcenmnmmfpaaDoorCaseImpl
namespace Go.Proofs.YtnnmcenmnmmfpaaDoor.line
open Go.ChangeShapes Go.WideShapes Go.ChangeAt Go.RowKit
set_option maxHeartbeats 800000 in
theorem walkCaseWord (a0 : ByteArray) (a1 : Int) (a2 : Bool) (w0 : a0.size ≤ maxLen) (w1_ : (Lit.int .i64 a1).wf = true) (w : World) :
    Calls Tryd.prog 3 #[.agg #[.string a0, .int .i64 a1], .bool a2] w fun e w' => e = .returned (.bool true) ∧ Below w.heap.size w w' := by
  have H := Lib.hid w0
  have HW := Lib.hid w1_
  clear w1_
  obtain ⟨x1, x2, x3, x4, hX⟩ := caseV_form a0 a1 a2
  have HX := Lib.hid hX
  clear hX
  by_cases hl : (1048576 : Int) < a0.size
  · unfold maxLen at w0
    go_enter Tryd.func3, Tryd.ntmps3
    go_wp2_with fail
    refine (szLine_any _ _ _ H.out (by omega) (by omega) _).mono ?_
    rintro e w1 ⟨rfl, hb⟩
    rw [if_pos hl]
    go_wp2
    go_ret
    exact ⟨rfl, bthen ((Below.refl _ _).alloc (Nat.le_refl _) _) hb (by simp)⟩
  · unfold maxLen at w0
    go_enter Tryd.func3, Tryd.ntmps3
    go_wp2_with fail
    refine (szLine_any _ _ _ H.out (by omega) (by omega) _).mono ?_
    rintro e w1 ⟨rfl, hb1⟩
    rw [if_neg (by omega)]
    obtain ⟨k1, _⟩ := keepC hb1 (g := w.heap.size) (by simp)
    have hs1 : w.heap.size < w1.heap.size := by have := hb1.size; simp at this; omega
    have HB1 := Lib.hid (bthen ((Below.refl _ w).alloc (Nat.le_refl _) _) hb1 (by simp))
    clear hb1
    go_wp2_with fail
    refine (toLine_any _ _ _).mono ?_
    rintro e w2 ⟨rfl, hb2⟩
    obtain ⟨k2, _⟩ := keepC hb2 (g := w.heap.size) (by omega)
    have hs2 : w.heap.size < w2.heap.size := by have := hb2.size; omega
    have HB2 := Lib.hid (bthen HB1.out hb2 (by omega))
    clear hb2 HB1
    go_wp2_with fail
    refine (specCase_any _ _ _ H.out _).mono ?_
    rintro e w3 ⟨rfl, hb3⟩
    rw [HX.out]
    obtain ⟨k3, _⟩ := keepC hb3 (g := w.heap.size) (by omega)
    have hs3 : w.heap.size < w3.heap.size := by have := hb3.size; omega
    have HB3 := Lib.hid (bthen HB2.out hb3 (by omega))
    clear hb3 HB2
    go_wp2_with fail
    refine (toLine_any _ _ _).mono ?_
    rintro e w4 ⟨rfl, hb4⟩
    obtain ⟨k4, _⟩ := keepC hb4 (g := w3.heap.size) (by simp)
    have hs4 : w3.heap.size < w4.heap.size := by have := hb4.size; simp at this; omega
    have HB4 := Lib.hid (bthen (HB3.out.alloc (by omega) _) hb4 (by simp; omega))
    clear hb4 HB3
    go_wp2_with fail
    refine (implCase_any _ _ _ H.out _).mono ?_
    rintro e w5 ⟨rfl, hb5⟩
    rw [HX.out]
    obtain ⟨k5, _⟩ := keepC hb5 (g := w3.heap.size) (by omega)
    have hs5 : w3.heap.size < w5.heap.size := by have := hb5.size; omega
    have hs5' : w3.heap.size ≠ w5.heap.size := by omega
    have HB5 := Lib.hid (bthen HB4.out hb5 (by omega))
    clear hb5 HB4
    go_wp2_with fail
    refine (eqOut_same _ _ _ _ _).mono ?_
    rintro e w6 ⟨rfl, hb6⟩
    have HB6 := Lib.hid (bthen (HB5.out.alloc (by omega) _) hb6 (by simp; omega))
    clear hb6 HB5
    go_wp2
    go_ret
    exact ⟨rfl, HB6.out⟩
end Go.Proofs.YtnnmcenmnmmfpaaDoor.line
