/-
  No right list that makes of the one text the other one costs less than all bytes of both but for those that can be left of both.
-/
import Derived.Test.YtbbmobebnflboaaApply
import Derived.Test.YtbbmobebnflboaaLcs
namespace Go.Proofs.Ytbbmobebnflboaa.diff
open Go.Proofs.Ytbbmobebnflboaa.table
def keepTo (K : Nat → Int) (X : Nat → ByteArray) : Nat → List UInt8
  | 0 => []
  | i + 1 => if K i = 1 then keepTo K X i ++ (X i).data.toList else keepTo K X i
theorem keepTo_all (K : Nat → Int) (X : Nat → ByteArray) (n : Nat) (h : GoodTo K X n) : ∀ i, i ≤ n →
    (keepTo K X i).Sublist (wasTo K X i).data.toList ∧ (keepTo K X i).Sublist (isTo K X i).data.toList ∧
      costTo K X i + 2 * (keepTo K X i).length = (wasTo K X i).size + (isTo K X i).size := by
  intro i
  induction i with
  | zero => intro _; exact ⟨List.Sublist.refl _, List.Sublist.refl _, rfl⟩
  | succ i ih =>
    intro hi
    obtain ⟨h1, h2, h3⟩ := ih (by omega)
    obtain ⟨⟨k1, k3⟩, _, _⟩ := h i (by omega)
    have hl : (X i).data.toList.length = (X i).size := rfl
    unfold keepTo wasTo isTo costTo
    rcases (show K i = 1 ∨ K i = 2 ∨ K i = 3 by omega) with e | e | e
    · simp only [e, if_true, show ¬ ((1 : Int) = 3) by decide, show ¬ ((1 : Int) = 2) by decide, if_false, ByteArray.data_append, Array.toList_append, ByteArray.size_append, List.length_append, hl]
      exact ⟨h1.append (List.Sublist.refl _), h2.append (List.Sublist.refl _), by omega⟩
    · simp only [e, if_true, show ¬ ((2 : Int) = 3) by decide, show ¬ ((2 : Int) = 1) by decide, if_false, ByteArray.data_append, Array.toList_append, ByteArray.size_append]
      exact ⟨h1.trans (List.sublist_append_left _ _), h2, by omega⟩
    · simp only [e, if_true, show ¬ ((3 : Int) = 2) by decide, show ¬ ((3 : Int) = 1) by decide, if_false, ByteArray.data_append, Array.toList_append, ByteArray.size_append]
      exact ⟨h1, h2.trans (List.sublist_append_left _ _), by omega⟩
theorem cost_least (K : Nat → Int) (X : Nat → ByteArray) (n : Nat) (h : GoodTo K X n) : (wasTo K X n).size + (isTo K X n).size ≤ costTo K X n + 2 * tab (wasTo K X n) (isTo K X n) 0 0 := by
  obtain ⟨h1, h2, h3⟩ := keepTo_all K X n h n (Nat.le_refl _)
  have := tab_most _ _ _ h1 h2
  omega
end Go.Proofs.Ytbbmobebnflboaa.diff
