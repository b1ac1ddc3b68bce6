/-
  The runs that DiffOf comes to: what they make of which text, and what they cost.
-/
import Derived.Test.YtbbmobebnflboaaDiffOf
import Derived.Test.YtbbmobebnflboaaLcs
namespace Go.Proofs.Ytbbmobebnflboaa.put
open Go.Proofs.Ytbbmobebnflboaa.table Go.Proofs.Ytbbmobebnflboaa.line
def wasB (R : List Run) : List UInt8 := R.flatMap fun d => if d.1 = 3 then [] else d.2.data.toList
def isB (R : List Run) : List UInt8 := R.flatMap fun d => if d.1 = 2 then [] else d.2.data.toList
def costB (R : List Run) : Nat := (R.map fun d => if d.1 = 1 then 0 else d.2.size).sum
theorem toList_one (x : ByteArray) (c : UInt8) : (x ++ oneB c).data.toList = x.data.toList ++ [c] := by
  rw [ByteArray.data_append, Array.toList_append]; rfl
theorem wasB_put (ds : List Run) (k : Int) (c : UInt8) : wasB (putL ds k c) = wasB ds ++ if k = 3 then [] else [c] := by
  rcases List.eq_nil_or_concat ds with rfl | ⟨L, ⟨k', x⟩, rfl⟩
  · rw [putL_nil]; simp [wasB, oneB]
  · rw [List.concat_eq_append]
    by_cases h : k' = k
    · subst h
      rw [putL_same]
      simp only [wasB, List.flatMap_append, List.flatMap_cons, List.flatMap_nil, toList_one]
      split <;> simp
    · rw [putL_other _ _ _ _ _ h]
      simp [wasB, oneB]
theorem isB_put (ds : List Run) (k : Int) (c : UInt8) : isB (putL ds k c) = isB ds ++ if k = 2 then [] else [c] := by
  rcases List.eq_nil_or_concat ds with rfl | ⟨L, ⟨k', x⟩, rfl⟩
  · rw [putL_nil]; simp [isB, oneB]
  · rw [List.concat_eq_append]
    by_cases h : k' = k
    · subst h
      rw [putL_same]
      simp only [isB, List.flatMap_append, List.flatMap_cons, List.flatMap_nil, toList_one]
      split <;> simp
    · rw [putL_other _ _ _ _ _ h]
      simp [isB, oneB]
theorem costB_put (ds : List Run) (k : Int) (c : UInt8) : costB (putL ds k c) = costB ds + if k = 1 then 0 else 1 := by
  have h1 : (oneB c).size = 1 := rfl
  rcases List.eq_nil_or_concat ds with rfl | ⟨L, ⟨k', x⟩, rfl⟩
  · rw [putL_nil]; simp [costB, h1]
  · rw [List.concat_eq_append]
    by_cases h : k' = k
    · subst h
      rw [putL_same]
      simp only [costB, List.map_append, List.sum_append, List.map_cons, List.map_nil, ByteArray.size_append, h1]
      split <;> simp <;> omega
    · rw [putL_other _ _ _ _ _ h]
      simp [costB, h1, Nat.add_assoc]
theorem drop_at (a : ByteArray) (i : Nat) (h : i < a.size) : a.data.toList.drop i = a[i] :: a.data.toList.drop (i + 1) := by
  rw [List.drop_eq_getElem_cons (by exact h)]; rfl
theorem drop_end (a : ByteArray) (i : Nat) (h : ¬ i < a.size) : a.data.toList.drop i = [] := by
  have hl : a.data.toList.length = a.size := rfl
  exact List.drop_of_length_le (by omega)
theorem diffR_all (a b : ByteArray) : ∀ (f i k : Nat) (ds : List Run), i ≤ a.size → k ≤ b.size → (a.size - i) + (b.size - k) ≤ f →
    wasB (diffR a b f i k ds) = wasB ds ++ a.data.toList.drop i ∧ isB (diffR a b f i k ds) = isB ds ++ b.data.toList.drop k ∧
      costB (diffR a b f i k ds) + 2 * tab a b i k = costB ds + (a.size - i) + (b.size - k) := by
  intro f
  induction f with
  | zero =>
    intro i k ds hi hk hf
    rw [drop_end a i (by omega), drop_end b k (by omega), tab_endA a b i k (by omega)]
    exact ⟨by simp [diffR], by simp [diffR], by simp [diffR]; omega⟩
  | succ f ih =>
    intro i k ds hi hk hf
    unfold diffR
    split
    · rename_i h
      obtain ⟨h1, h2, h3⟩ := ih (i + 1) (k + 1) (putL ds 1 (a[i]'h.1)) (by omega) (by omega) (by omega)
      rw [h1, h2, wasB_put, isB_put, drop_at a i h.1, drop_at b k h.2.1]
      rw [costB_put] at h3
      have he : a[i]'h.1 = b[k]'h.2.1 := UInt8.toNat_inj.mp ((byteAt_eq h.1).symm.trans (h.2.2.trans (byteAt_eq h.2.1)))
      have hs := tab_step a b i k h.1 h.2.1
      refine ⟨by simp, by simp [he], ?_⟩
      rw [if_pos (congrArg UInt8.toNat he)] at hs
      rw [if_pos rfl] at h3
      omega
    · split
      · rename_i h0 h
        obtain ⟨h1, h2, h3⟩ := ih (i + 1) k (putL ds 2 (a[i]'h.1)) (by omega) (by omega) (by omega)
        rw [h1, h2, wasB_put, isB_put, drop_at a i h.1]
        rw [costB_put] at h3
        refine ⟨by simp, by simp, ?_⟩
        have := h.2
        rw [if_neg (by decide)] at h3
        omega
      · split
        · rename_i h0 h1' h
          obtain ⟨h1, h2, h3⟩ := ih i (k + 1) (putL ds 3 (b[k]'h)) (by omega) (by omega) (by omega)
          rw [h1, h2, wasB_put, isB_put, drop_at b k h]
          rw [costB_put] at h3
          refine ⟨by simp, by simp, ?_⟩
          have ht : tab a b i k = tab a b i (k + 1) := by
            by_cases hin : i < a.size
            · have hs := tab_step a b i k hin h
              have hne : ¬ a[i].toNat = b[k].toNat := fun e => h0 ⟨hin, h, by rw [byteAt_eq hin, byteAt_eq h]; exact e⟩
              have hnt : ¬ tab a b (i + 1) k = tab a b i k := fun e => h1' ⟨hin, e⟩
              rw [if_neg hne] at hs
              omega
            · rw [tab_endA a b i k (by omega), tab_endA a b i (k + 1) (by omega)]
          rw [if_neg (by decide)] at h3
          omega
        · rename_i h0 h1' h
          have hin : ¬ i < a.size := fun hin => h1' ⟨hin, by rw [tab_endB a b (i + 1) k (by omega), tab_endB a b i k (by omega)]⟩
          rw [drop_end a i hin, drop_end b k h, tab_endA a b i k (by omega)]
          exact ⟨by simp, by simp, by omega⟩
end Go.Proofs.Ytbbmobebnflboaa.put
