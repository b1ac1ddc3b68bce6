/-
  GetNum: the law's walk: the program's answer is the model's, field by field. For every text and place that the row reads, where errors.errorType holds what the program's text lays.
-/
import Derived.Test.YtgmbpohbjhaghaaDoorReadNum
namespace Go.Proofs.YtgmbpohbjhaghaaDoor.read
open Go.ChangeShapes Go.WideShapes Go.ChangeAt Go.RowKit
open Go.Proofs.YtgmbpohbjhaghaaDoor.as_

theorem keepC {W w1 : World} (hb : Below W.heap.size W w1) {g : Nat} (hg : g < W.heap.size) :
    (∀ o, w1.cell? ⟨g, o, none⟩ = W.cell? ⟨g, o, none⟩) ∧ (∀ o, w1.frozen? ⟨g, o, none⟩ = W.frozen? ⟨g, o, none⟩) :=
  ⟨fun o => hb.cell (p := ⟨g, o, none⟩) hg, fun o => hb.frozen (p := ⟨g, o, none⟩) hg⟩
theorem blk_lt {w : World} {g o : Nat} {v : Value} (h : w.cell? ⟨g, o, none⟩ = some v) : g < w.heap.size := by
  rcases Nat.lt_or_ge g w.heap.size with h' | h'
  · exact h'
  · simp [World.cell?, Array.getElem?_eq_none h'] at h
theorem codeOf_any (c : Int) (w : World) (hg : w.cell? ⟨0, 0, none⟩ = some handleE) :
    Calls Tryd.prog 23 #[errV c] w fun e w' => e = .returned (.int .i64 c) ∧ Below w.heap.size w w' := by
  unfold errV
  by_cases h : c = 0
  · subst h; rw [if_pos rfl]; exact codeOf_nil w
  · rw [if_neg h]; exact codeOf_wrong c w hg
end Go.Proofs.YtgmbpohbjhaghaaDoor.read
