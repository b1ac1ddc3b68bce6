/-
  The walks of DiffRight's and CostOf's laws, out of the program's own contracts. For every list that the row reads.
-/
import Derived.Test.YthdnhopkkgdclaaOpenKS
namespace Go.Proofs.Ythdnhopkkgdclaa.diff
open Go.ChangeShapes Go.WideShapes Go.ChangeAt Go.RowKit
theorem sum_size (X : Nat → ByteArray) (n : Nat) : ∀ i, i < n → (X i).size ≤ sumTo X n := by
  induction n with
  | zero => intro i hi; omega
  | succ n ih =>
    intro i hi
    have h : sumTo X (n + 1) = sumTo X n + (X n).size := rfl
    by_cases e : i = n
    · subst e; omega
    · have := ih i (by omega); omega
/-- both kinds of list: what szDiffS says, and what toDiffS makes -/
theorem sz_KS {w : World} {a : Option Addr} {n C : Nat} {K : Nat → Int} {X : Nat → ByteArray} (s : IsKS w a n C K X) (W : World) (hW : Below w.heap.size w W) :
    Calls Try.prog 25 #[.slice a n C, .int .i64 1048576] W fun e w' =>
      e = .returned (.int .i64 (if 1048576 < n + sumTo X n then -1 else 1048576 - n - sumTo X n)) ∧ Below W.heap.size W w' := by
  rcases s with ⟨rfl, rfl, rfl⟩ | ⟨x, rfl, hn, hr, hX, _⟩
  · exact szDiffS_nil W
  · exact szDiffS_any x n C K X hn hX W (hr.below hW)
theorem to_KS {w : World} {a : Option Addr} {n C : Nat} {K : Nat → Int} {X : Nat → ByteArray} (s : IsKS w a n C K X) (hn : n ≤ 1048576) (W : World) (hW : Below w.heap.size w W) :
    Calls Try.prog 26 #[.slice a n C] W fun e w' =>
      e = .returned (.slice (some ⟨W.heap.size, 0, none⟩) n n) ∧ RowD w' W.heap.size n K X ∧ Below W.heap.size W w' ∧ W.heap.size < w'.heap.size := by
  rcases s with ⟨rfl, rfl, rfl⟩ | ⟨x, rfl, _, hr, _, _⟩
  · exact toDiffS_nil K X W
  · exact toDiffS_any x n C K X hn W (hr.below hW)
end Go.Proofs.Ythdnhopkkgdclaa.diff
