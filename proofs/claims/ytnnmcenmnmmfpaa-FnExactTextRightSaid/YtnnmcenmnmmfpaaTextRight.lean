/-
  The walk of TextRight's law. For every text that the row reads.
-/
import Derived.Test.YtnnmcenmnmmfpaaLine
namespace Go.Proofs.Ytnnmcenmnmmfpaa.line
open Go.ChangeShapes Go.WideShapes Go.ChangeAt Go.RowKit
theorem walkText (a0 : ByteArray) (w0 : a0.size ≤ maxLen) (w : World) :
    Calls Try.prog 3 #[.string a0] w fun e w' => e = .returned (.bool true) ∧ Below w.heap.size w w' := by
  have H := Lib.hid w0
  by_cases hl : (1048576 : Int) < a0.size
  · unfold maxLen at w0
    go_enter Try.func3, Try.ntmps3
    go_wp2
    go_ret
    exact ⟨rfl, Below.refl _ _⟩
  · unfold maxLen at w0
    go_enter Try.func3, Try.ntmps3
    go_wp2_with fail
    refine (specRight_any _ H.out _).mono ?_
    rintro e w1 ⟨rfl, rfl⟩
    go_wp2_with fail
    refine (implRight_any _ H.out _).mono ?_
    rintro e w2 ⟨rfl, hb⟩
    go_wp2
    go_ret
    exact ⟨rfl, hb⟩
end Go.Proofs.Ytnnmcenmnmmfpaa.line
