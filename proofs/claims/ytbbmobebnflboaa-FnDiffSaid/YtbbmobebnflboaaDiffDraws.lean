/-
  The draws of FnDiff's law. For every row of bytes that can be read.
-/
import Derived.Test.YtbbmobebnflboaaDrawOdd
namespace Go.Proofs.Ytbbmobebnflboaa.src
open Go.ChangeShapes Go.WideShapes Go.ChangeAt Go.RowKit
open Go.Proofs.Ytbbmobebnflboaa.diff
theorem drew_all {N : Nat} {w w1 w2 : World} (hb : Below w.heap.size w w1) (h : Drew N w.heap.size w1 w2) : Below w.heap.size w w2 :=
  hb.grown h.2 hb.size (fun k e => by injection e with e; omega)
theorem drawDiff_any (N : Nat) (a : Option Addr) (n C : Nat) (hn : n ≤ 1048576) (w : World) (hN : N ≤ w.heap.size) (hb : BytesA N a n w) :
    Calls Try.prog 9 #[.slice a n C] w fun e w' => ∃ A B : ByteArray, e = .returned (.tuple #[.string A, .string B]) ∧ A.size ≤ 61 ∧ B.size ≤ 70 ∧ Below w.heap.size w w' := by
  go_enter Try.func9, Try.ntmps9
  go_wp2_with fail
  refine (source_any N a n C hn _ hb).mono ?_
  rintro e w1 ⟨rfl, hs, hb1⟩
  have HB1 := Lib.hid hb1
  go_wp2_with fail
  refine (two_any N _ _ hs (by have := hb1.size; omega)).mono ?_
  rintro e w2 ⟨A, B, rfl, hA, hB, hd⟩
  have HB2 := Lib.hid (drew_all HB1.out hd)
  clear hd hs hb1
  go_wp2
  go_ret2
  exact ⟨A, B, rfl, hA, hB, HB2.out⟩
theorem drawApply_any (N : Nat) (a : Option Addr) (n C : Nat) (hn : n ≤ 1048576) (w : World) (hN : N ≤ w.heap.size) (hb : BytesA N a n w) :
    Calls Try.prog 12 #[.slice a n C] w fun e w' => ∃ (A : ByteArray) (b o n C : Nat) (K : Nat → Int) (X : Nat → ByteArray), e = .returned (.tuple #[.string A, .slice (some ⟨b, o, none⟩) n C]) ∧
      A.size ≤ 61 ∧ n ≤ 200 ∧ (∀ i, i < n → (X i).size ≤ 200) ∧ RowO w' b o n K X ∧ Below w.heap.size w w' := by
  go_enter Try.func12, Try.ntmps12
  go_wp2_with fail
  refine (source_any N a n C hn _ hb).mono ?_
  rintro e w1 ⟨rfl, hs, hb1⟩
  have HB1 := Lib.hid hb1
  go_wp2_with fail
  refine (odd3_any N _ _ hs (by have := hb1.size; omega)).mono ?_
  rintro e w2 ⟨A, b, o, m, C', K, X, rfl, hA, hm, hX, hr, hd⟩
  have HB2 := Lib.hid (drew_all HB1.out hd)
  have HR := Lib.hid hr
  have HX := Lib.hid hX
  clear hd hs hb1 hr hX
  go_wp2
  go_ret2
  exact ⟨A, b, o, m, C', K, X, rfl, hA, hm, HX.out, HR.out, HB2.out⟩
end Go.Proofs.Ytbbmobebnflboaa.src
