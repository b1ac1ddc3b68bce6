/-
  DiffOf's runs laid on the one text give the other one; they are a right list; what they cost.
-/
import Derived.Test.YtbbmobebnflboaaDiffMath
import Derived.Test.YtbbmobebnflboaaDiffLaw
import Derived.Test.YtbbmobebnflboaaApply
namespace Go.Proofs.Ytbbmobebnflboaa.put
open Go.Proofs.Ytbbmobebnflboaa.table Go.Proofs.Ytbbmobebnflboaa.line Go.Proofs.Ytbbmobebnflboaa.diff
theorem take_more (R : List Run) (i : Nat) (h : i < R.length) : R.take (i + 1) = R.take i ++ [(atK R i, atX R i)] := by
  have e : (atK R i, atX R i) = R[i] := by simp [atK, atX, List.getElem?_eq_getElem h]
  rw [e, List.take_add_one, List.getElem?_eq_getElem h]
  rfl
theorem wasTo_list (R : List Run) : ∀ i, i ≤ R.length → (wasTo (atK R) (atX R) i).data.toList = wasB (R.take i) := by
  intro i
  induction i with
  | zero => intro _; rfl
  | succ i ih =>
    intro h
    rw [take_more R i (by omega)]
    have h1 := ih (by omega)
    unfold wasTo
    by_cases e : atK R i = 3
    · rw [if_pos e, h1]; simp [wasB, e]
    · rw [if_neg e, ByteArray.data_append, Array.toList_append, h1]; simp [wasB, e]
theorem isTo_list (R : List Run) : ∀ i, i ≤ R.length → (isTo (atK R) (atX R) i).data.toList = isB (R.take i) := by
  intro i
  induction i with
  | zero => intro _; rfl
  | succ i ih =>
    intro h
    rw [take_more R i (by omega)]
    have h1 := ih (by omega)
    unfold isTo
    by_cases e : atK R i = 2
    · rw [if_pos e, h1]; simp [isB, e]
    · rw [if_neg e, ByteArray.data_append, Array.toList_append, h1]; simp [isB, e]
theorem costTo_list (R : List Run) : ∀ i, i ≤ R.length → costTo (atK R) (atX R) i = costB (R.take i) := by
  intro i
  induction i with
  | zero => intro _; rfl
  | succ i ih =>
    intro h
    rw [take_more R i (by omega)]
    have h1 := ih (by omega)
    unfold costTo
    rw [h1]
    simp [costB]
def lastK (R : List Run) : Option Int := R.getLast?.map (·.1)
/-- a right list: kinds, no empty text, no two of one kind side by side -/
def GoodL (R : List Run) : Prop := ∀ i, i < R.length → GoodAt (atK R) (atX R) i
theorem GoodL.nil : GoodL [] := fun i hi => absurd hi (by simp)
theorem at_front (R S : List Run) (i : Nat) (h : i < R.length) : atK (R ++ S) i = atK R i ∧ atX (R ++ S) i = atX R i := by
  simp [atK, atX, List.getElem?_append_left h]
theorem at_last (R : List Run) (d : Run) : atK (R ++ [d]) R.length = d.1 ∧ atX (R ++ [d]) R.length = d.2 := by simp [atK, atX]
theorem GoodL.snoc {R : List Run} {d : Run} (h : GoodL R) (h1 : 1 ≤ d.1 ∧ d.1 ≤ 3) (h2 : 1 ≤ d.2.size) (h3 : 0 < R.length → atK R (R.length - 1) ≠ d.1) : GoodL (R ++ [d]) := by
  intro i hi
  simp at hi
  by_cases e : i = R.length
  · subst e
    obtain ⟨a1, a2⟩ := at_last R d
    refine ⟨by rw [a1]; exact h1, by rw [a2]; exact h2, fun h0 => ?_⟩
    rw [a1, (at_front R [d] (R.length - 1) (by omega)).1]
    exact h3 h0
  · obtain ⟨a1, a2⟩ := at_front R [d] i (by omega)
    obtain ⟨g1, g2, g3⟩ := h i (by omega)
    refine ⟨by rw [a1]; exact g1, by rw [a2]; exact g2, fun h0 => ?_⟩
    rw [a1, (at_front R [d] (i - 1) (by omega)).1]
    exact g3 h0
theorem GoodL.front {R : List Run} {d : Run} (h : GoodL (R ++ [d])) : GoodL R := by
  intro i hi
  obtain ⟨g1, g2, g3⟩ := h i (by simp; omega)
  obtain ⟨a1, a2⟩ := at_front R [d] i hi
  rw [a1] at g1 g3
  rw [a2] at g2
  refine ⟨g1, g2, fun h0 => ?_⟩
  have := g3 h0
  rwa [(at_front R [d] (i - 1) (by omega)).1] at this
theorem GoodL.put {R : List Run} {k : Int} {c : UInt8} (h : GoodL R) (hk : 1 ≤ k ∧ k ≤ 3) : GoodL (putL R k c) := by
  rcases List.eq_nil_or_concat R with rfl | ⟨L, ⟨k', x⟩, rfl⟩
  · rw [putL_nil]
    exact GoodL.snoc (R := []) GoodL.nil hk (Nat.le_refl 1) (fun h => absurd h (by simp))
  · rw [List.concat_eq_append] at h ⊢
    by_cases e : k' = k
    · subst e
      rw [putL_same]
      refine h.front.snoc hk (by show 1 ≤ (x ++ oneB c).size; rw [ByteArray.size_append]; exact Nat.le_add_left _ _) (fun h0 => ?_)
      have := (h L.length (by simp)).2.2 h0
      rwa [(at_last L (k', x)).1, (at_front L [(k', x)] (L.length - 1) (by omega)).1] at this
    · rw [putL_other _ _ _ _ _ e]
      refine h.snoc hk (Nat.le_refl 1) (fun _ => ?_)
      have : (L ++ [((k', x) : Run)]).length - 1 = L.length := by simp
      rw [this, (at_last L (k', x)).1]
      exact e
theorem GoodL.diff (a b : ByteArray) : ∀ (f i k : Nat) (ds : List Run), GoodL ds → GoodL (diffR a b f i k ds) := by
  intro f
  induction f with
  | zero => intro i k ds h; exact h
  | succ f ih =>
    intro i k ds h
    unfold diffR
    split
    · exact ih _ _ _ (h.put (by decide))
    · split
      · exact ih _ _ _ (h.put (by decide))
      · split
        · exact ih _ _ _ (h.put (by decide))
        · exact h
/-- DiffOf of right texts: a right list, of the one text and of the other one, and what it costs -/
theorem diffL_good (a b : ByteArray) (hl : (diffL a b).length ≤ 400) :
    drB (diffL a b).length (atK (diffL a b)) (atX (diffL a b)) = true ∧ wasTo (atK (diffL a b)) (atX (diffL a b)) (diffL a b).length = a ∧ isTo (atK (diffL a b)) (atX (diffL a b)) (diffL a b).length = b ∧
      costTo (atK (diffL a b)) (atX (diffL a b)) (diffL a b).length + 2 * tab a b 0 0 = a.size + b.size := by
  obtain ⟨h1, h2, h3⟩ := diffR_all a b (a.size + b.size) 0 0 [] (Nat.zero_le _) (Nat.zero_le _) (by omega)
  have hg := GoodL.diff a b (a.size + b.size) 0 0 [] GoodL.nil
  obtain ⟨R, hR⟩ : ∃ R, R = diffL a b := ⟨_, rfl⟩
  have hR2 : diffR a b (a.size + b.size) 0 0 [] = R := hR.symm
  rw [hR2] at h1 h2 h3 hg
  rw [← hR] at hl ⊢
  have e1 := wasTo_list R R.length (Nat.le_refl _)
  have e2 := isTo_list R R.length (Nat.le_refl _)
  have e3 := costTo_list R R.length (Nat.le_refl _)
  rw [List.take_length] at e1 e2 e3
  refine ⟨drB_t ⟨hl, hg⟩, ?_, ?_, ?_⟩
  · apply ByteArray.ext; apply Array.ext'; rw [e1, h1]; rfl
  · apply ByteArray.ext; apply Array.ext'; rw [e2, h2]; rfl
  · rw [e3, h3]; simp [costB]
end Go.Proofs.Ytbbmobebnflboaa.put
