/-
  What two lists have in common at most: the same of the one with the other as of the other with the one, and no less than any list that is left of both.
-/
import Derived.Test.YtbbmobebnflboaaTable
namespace Go.Proofs.Ytbbmobebnflboaa.table
theorem lcsL_swap : ∀ (n : Nat) (l r : List UInt8), l.length + r.length ≤ n → lcsL l r = lcsL r l := by
  intro n
  induction n with
  | zero =>
    intro l r h
    have : l = [] := List.length_eq_zero_iff.mp (by omega)
    have : r = [] := List.length_eq_zero_iff.mp (by omega)
    subst_vars; rfl
  | succ n ih =>
    intro l r h
    match l, r, h with
    | [], r, _ => rw [lcsL_nil]; simp [lcsL]
    | x :: xs, [], _ => rw [lcsL_nil]; simp [lcsL]
    | x :: xs, y :: ys, h =>
      simp only [List.length_cons] at h
      rw [lcsL_cons, lcsL_cons, ih xs ys (by omega), ih xs (y :: ys) (by simp only [List.length_cons]; omega), ih (x :: xs) ys (by simp only [List.length_cons]; omega)]
      by_cases e : x = y
      · rw [if_pos e, if_pos e.symm]
      · rw [if_neg e, if_neg (fun h => e h.symm), Nat.max_comm]
theorem tab_swap (a b : ByteArray) : tab a b 0 0 = tab b a 0 0 := lcsL_swap _ _ _ (Nat.le_refl _)
theorem lcsL_most : ∀ (n : Nat) (l r s : List UInt8), l.length + r.length ≤ n → s.Sublist l → s.Sublist r → s.length ≤ lcsL l r := by
  intro n
  induction n with
  | zero =>
    intro l r s h h1 _
    have := h1.length_le
    omega
  | succ n ih =>
    intro l r s h h1 h2
    match l, r, h with
    | [], r, _ => have := h1.length_le; simp at this; simp [this]
    | x :: xs, [], _ => have := h2.length_le; simp at this; simp [this]
    | x :: xs, y :: ys, h =>
      simp only [List.length_cons] at h
      rw [lcsL_cons]
      by_cases e : x = y
      · rw [if_pos e]
        have := ih xs ys s.tail (by omega) (by simpa using h1.tail) (by simpa using h2.tail)
        simp only [List.length_tail] at this
        omega
      · rw [if_neg e]
        rcases List.sublist_cons_iff.mp h1 with h3 | ⟨t, rfl, h3⟩
        · have := ih xs (y :: ys) s (by simp only [List.length_cons]; omega) h3 h2
          omega
        · rcases List.sublist_cons_iff.mp h2 with h4 | ⟨t', h5, _⟩
          · have := ih (x :: xs) ys (x :: t) (by simp only [List.length_cons]; omega) h1 h4
            omega
          · simp at h5; exact absurd h5.1 e
theorem tab_most (a b : ByteArray) (s : List UInt8) (h1 : s.Sublist a.data.toList) (h2 : s.Sublist b.data.toList) : s.length ≤ tab a b 0 0 :=
  lcsL_most _ _ _ _ (Nat.le_refl _) h1 h2
end Go.Proofs.Ytbbmobebnflboaa.table
