/-
  What a string's bytes, made a row of the call's own, read as. For every string.
-/
import Derived.Test.YtnnmcenmnmmfpaaDoorBase
import Derived.Lib.ConvBytes
import Derived.Lib.IndexBytes
namespace Go.Proofs.YtnnmcenmnmmfpaaDoor.line
open Go.ChangeShapes Go.WideShapes Go.ChangeAt Go.RowKit
/-- what '[]byte(s)' makes: a new row of s's bytes; what was there stays -/
theorem bw_facts (W0 : World) (s : ByteArray) :
    Below W0.heap.size W0 (Lib.bytesWorld W0 5 s) ∧ (Lib.bytesWorld W0 5 s).heap.size = W0.heap.size + 1 ∧
    (∀ j, j < s.size → (Lib.bytesWorld W0 5 s).cell? ⟨W0.heap.size, j, none⟩ = some (.int .u8 (byteAt s j : Nat))) ∧
    (∀ j, j < s.size → (Lib.bytesWorld W0 5 s).frozen? ⟨W0.heap.size, j, none⟩ = false) := by
  refine ⟨⟨rfl, rfl, rfl, by rw [Lib.bytesWorld_size]; omega, fun j hj => Lib.bytesWorld_at_old W0 _ s j hj⟩, Lib.bytesWorld_size _ _ _, fun j hj => ?_, fun j hj => ?_⟩
  · rw [Lib.bytesWorld_cell W0 _ s j hj, byteAt_eq hj, List.getD_eq_getElem?_getD, Lib.data_getElem? s j hj]; rfl
  · have hz : s.size ≤ (Lib.bytesCells W0 5 s).size := by
      have : s.data.size = s.size := rfl
      simp [Lib.bytesCells]
    simp [World.frozen?, Lib.bytesWorld_at_new]; omega
end Go.Proofs.YtnnmcenmnmmfpaaDoor.line
