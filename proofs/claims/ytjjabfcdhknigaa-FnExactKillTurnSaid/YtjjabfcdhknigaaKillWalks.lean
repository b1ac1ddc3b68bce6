/-
  The walks of the laws of KillsRight, KillTop and KillTurn. For every Kills.
-/
import Derived.Test.YtjjabfcdhknigaaKillLaws
import Derived.Test.YtjjabfcdhknigaaKillOwn
namespace Go.Proofs.Ytjjabfcdhknigaa.kill
open Go.ChangeShapes Go.WideShapes Go.ChangeAt Go.RowKit
open Go.Proofs.Ytjjabfcdhknigaa.strs Go.Proofs.Ytjjabfcdhknigaa.line
theorem walkKR (a : Option Addr) (n C : Nat) (l : List ByteArray) (t : Int) (_ht : (Lit.int .i64 t).wf = true) (w : World) (s : IsTS w a n C l) :
    Calls Try.prog 3 #[kV a n C t] w fun e w' => e = .returned (.bool true) ∧ Below w.heap.size w w' :=
  walkKR_of a n C l t w s fun g W hn hl h => implKR_any (some ⟨g, 0, none⟩) l.length l t hn (fun s hs => by have := hl s hs; unfold maxLen; omega) W h
theorem walkTop (a : Option Addr) (n C : Nat) (l : List ByteArray) (t : Int) (_ht : (Lit.int .i64 t).wf = true) (w : World) (s : IsTS w a n C l) :
    Calls Try.prog 4 #[kV a n C t] w fun e w' => e = .returned (.bool true) ∧ Below w.heap.size w w' :=
  walkTop_of a n C l t w s fun g W hn hl h => implTop_any (some ⟨g, 0, none⟩) l.length l t hn hl W h
theorem walkTurn (a : Option Addr) (n C : Nat) (l : List ByteArray) (t : Int) (ht : (Lit.int .i64 t).wf = true) (w : World) (s : IsTS w a n C l) :
    Calls Try.prog 5 #[kV a n C t] w fun e w' => e = .returned (.bool true) ∧ Below w.heap.size w w' :=
  walkTurn_of a n C l t ht w s fun g W hn hl h => implTurn_any (some ⟨g, 0, none⟩) l.length l t hn hl W h
end Go.Proofs.Ytjjabfcdhknigaa.kill
