/-
  The walk of the law of HistFind. For every such value.
-/
import Derived.Test.YtgmbpohbjhaghaaHistLaws
import Derived.Test.YtgmbpohbjhaghaaHistFindImpl
namespace Go.Proofs.Ytgmbpohbjhaghaa.hist
open Go.ChangeShapes Go.WideShapes Go.ChangeAt Go.RowKit
open Go.Proofs.Ytgmbpohbjhaghaa.strs Go.Proofs.Ytgmbpohbjhaghaa.line
open Go.Proofs.Ytgmbpohbjhaghaa.kill (IsTS)
theorem walkHF (a : Option Addr) (n C : Nat) (l : List ByteArray) (t : Int) (k x : ByteArray) (b : Int) (_ht : (Lit.int .i64 t).wf = true) (hk : k.size ≤ maxLen) (_hx : x.size ≤ maxLen) (_hb : (Lit.int .i64 b).wf = true) (w : World)
    (hm : ∃ m, w.cell? ⟨0, 0, none⟩ = some (.int .i64 m)) (s : IsTS w a n C l) :
    Calls Try.prog 11 #[hV a n C t k, .string x, .int .i64 b] w fun e w' => e = .returned (.bool true) ∧ Below w.heap.size w w' := by
  obtain ⟨m, hm⟩ := hm
  exact walkHF_of a n C l t k x b (findV l t k x b) hk w s
    (fun hx g W hn hl hk h => specFind_any (some ⟨g, 0, none⟩) l.length l t k x b hn hl hk hx W h)
    (fun hx g W hb hn hl hk h => implFind_any (some ⟨g, 0, none⟩) l.length l t k x b m hn hl hk hx W h (by rw [hb.cell (p := ⟨0, 0, none⟩) (blk_lt hm)]; exact hm))
end Go.Proofs.Ytgmbpohbjhaghaa.hist
