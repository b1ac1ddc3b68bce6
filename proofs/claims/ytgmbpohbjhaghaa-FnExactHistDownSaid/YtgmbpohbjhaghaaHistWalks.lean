/-
  The walks of the laws of HistRight, HistUp and HistDown. For every such value.
-/
import Derived.Test.YtgmbpohbjhaghaaHistLaws
import Derived.Test.YtgmbpohbjhaghaaHistUpImpl
namespace Go.Proofs.Ytgmbpohbjhaghaa.hist
open Go.ChangeShapes Go.WideShapes Go.ChangeAt Go.RowKit
open Go.Proofs.Ytgmbpohbjhaghaa.strs Go.Proofs.Ytgmbpohbjhaghaa.line
open Go.Proofs.Ytgmbpohbjhaghaa.kill (IsTS)
theorem big_max {n : Nat} (h : n ≤ 1048576) : n ≤ maxLen := by unfold maxLen; omega
theorem walkHR (a : Option Addr) (n C : Nat) (l : List ByteArray) (t : Int) (k : ByteArray) (_ht : (Lit.int .i64 t).wf = true) (hk : k.size ≤ maxLen) (w : World) (s : IsTS w a n C l) :
    Calls Try.prog 8 #[hV a n C t k] w fun e w' => e = .returned (.bool true) ∧ Below w.heap.size w w' :=
  walkHR_of a n C l t k hk w s
    (fun g W hn hl hk h => specHist_any (some ⟨g, 0, none⟩) l.length l t k hn (fun s hs => big_max (hl s hs)) (big_max hk) W h)
    (fun g W hn hl hk h => implHist_any (some ⟨g, 0, none⟩) l.length l t k hn (fun s hs => big_max (hl s hs)) (big_max hk) W h)
theorem up_len (l : List ByteArray) (t : Int) (k x : ByteArray) (h : l.length ≤ 1048576) : (specUpV l t k x).1.length ≤ 1048576 := by
  unfold specUpV upV illV
  split
  · split
    · split
      · exact Nat.zero_le _
      · exact h
    · exact Nat.zero_le _
  · exact Nat.zero_le _
theorem down_len (l : List ByteArray) (t : Int) (k x : ByteArray) (h : l.length ≤ 1048576) : (specDownV l t k x).1.length ≤ 1048576 := by
  unfold specDownV downV illV
  split
  · split
    · split
      · exact Nat.zero_le _
      · exact h
    · exact Nat.zero_le _
  · exact Nat.zero_le _
theorem walkUp (a : Option Addr) (n C : Nat) (l : List ByteArray) (t : Int) (k x : ByteArray) (_ht : (Lit.int .i64 t).wf = true) (hk : k.size ≤ maxLen) (_hx : x.size ≤ maxLen) (w : World) (s : IsTS w a n C l) :
    Calls Try.prog 9 #[hV a n C t k, .string x] w fun e w' => e = .returned (.bool true) ∧ Below w.heap.size w w' :=
  walkUp_gen a n C l t k x hk (specUpV l t k x).1 (specUpV l t k x).2.1 (specUpV l t k x).2.2.1 (specUpV l t k x).2.2.2.1 (specUpV l t k x).2.2.2.2 (up_len l t k x) w s
    (fun hx g W hn hl hk h => (specUp_any (some ⟨g, 0, none⟩) l.length l t k x (fun e => by cases e) hn hl hk hx W h).mono fun _ _ ⟨a', c', e1, e2, e3⟩ => ⟨a', c', e1, e2.row, e3⟩)
    (fun hx g W hn hl hk h => implUp_any (some ⟨g, 0, none⟩) l.length l t k x hn hl hk hx W h)
theorem walkDown (a : Option Addr) (n C : Nat) (l : List ByteArray) (t : Int) (k x : ByteArray) (_ht : (Lit.int .i64 t).wf = true) (hk : k.size ≤ maxLen) (_hx : x.size ≤ maxLen) (w : World) (s : IsTS w a n C l) :
    Calls Try.prog 10 #[hV a n C t k, .string x] w fun e w' => e = .returned (.bool true) ∧ Below w.heap.size w w' :=
  walkDown_gen a n C l t k x hk (specDownV l t k x).1 (specDownV l t k x).2.1 (specDownV l t k x).2.2.1 (specDownV l t k x).2.2.2.1 (specDownV l t k x).2.2.2.2 (down_len l t k x) w s
    (fun hx g W hn hl hk h => (specDown_any (some ⟨g, 0, none⟩) l.length l t k x (fun e => by cases e) hn hl hk hx W h).mono fun _ _ ⟨a', c', e1, e2, e3⟩ => ⟨a', c', e1, e2.row, e3⟩)
    (fun hx g W hn hl hk h => implDown_any (some ⟨g, 0, none⟩) l.length l t k x hn hl hk hx W h)
end Go.Proofs.Ytgmbpohbjhaghaa.hist
