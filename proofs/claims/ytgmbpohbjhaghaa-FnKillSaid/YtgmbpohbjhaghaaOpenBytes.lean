/-
  An argument that is a list of bytes, opened: none, or a row of bytes that can be read. Own work.
-/
import Derived.Test.YtgmbpohbjhaghaaSource
import Derived.Test.YtgmbpohbjhaghaaSpot
import Derived.ChangeSlices
namespace Go.Proofs.Ytgmbpohbjhaghaa.src
open Go.ChangeShapes Go.WideShapes Go.ChangeAt Go.RowKit
theorem open_Bytes {H : Type} {enc : TypeId × Value → H} {P : Program} {w : World} {base : Nat} {spare : Nat → Bool} {held : Bool} {t e : TypeId} {a : Option Addr} {n C : Nat} {d : DataW H} {p : List MemPlace}
    (ht : P.underlying t = some (.slice e)) (he : P.underlying e = some (.int .u8)) (hc : P.cellsOf e = 1) (h : DataW.Trod enc P w base spare held t (.slice a n C) d p) : BytesA w.heap.size a n w := by
  obtain ⟨fuel, hf⟩ := h
  rcases Go.ChangeShapes.open_ints ht he hc hf with ⟨hcs, _⟩ | ⟨x, len, cap, zs, hcs, _, hl, _, hz, _, hcell, hwf⟩
  · simp [Value.cells] at hcs
    obtain ⟨_, rfl, _⟩ := hcs
    intro i hi
    omega
  · simp [Value.cells] at hcs
    obtain ⟨rfl, rfl, rfl⟩ := hcs
    intro i hi
    have hzl : n ≤ zs.length := by rw [hz]; split <;> omega
    have h0 := hcell 0 (by omega)
    have hi' := hcell i (by omega)
    have hsp : x.spot = none := spot_none (show w.cell? x = some _ from h0)
    rw [add_plain hsp] at hi'
    have hw := hwf (zs.getD i 0) (by rw [List.getD_eq_getElem?_getD, List.getElem?_eq_getElem (by omega)]; exact List.getElem_mem _)
    have hr : 0 ≤ zs.getD i 0 ∧ zs.getD i 0 < 256 := by
      simp only [Lit.wf, IntKind.min, IntKind.max, IntKind.signed, IntKind.bits, Bool.and_eq_true] at hw
      obtain ⟨h1, h2⟩ := hw
      simp at h1 h2
      constructor
      · simpa using h1
      · have : zs[i]?.getD 0 < 256 := by omega
        simpa [List.getD_eq_getElem?_getD] using this
    obtain ⟨b, o, s⟩ := x
    obtain rfl : s = none := hsp
    exact ⟨b, o, (zs.getD i 0).toNat, rfl, blk_lt hi', by omega, by rw [hi']; congr 2; omega⟩
end Go.Proofs.Ytgmbpohbjhaghaa.src
