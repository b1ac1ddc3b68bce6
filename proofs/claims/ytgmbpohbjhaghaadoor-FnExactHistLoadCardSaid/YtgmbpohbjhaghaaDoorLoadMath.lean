/-
  What HistLoad comes to, as a plain function. No condition.
-/
import Derived.Test.YtgmbpohbjhaghaaDoorGetText
import Derived.Test.YtgmbpohbjhaghaaDoorUnseal
import Derived.Test.YtgmbpohbjhaghaaDoorAll
namespace Go.Proofs.YtgmbpohbjhaghaaDoor.load
open Go.Proofs.YtgmbpohbjhaghaaDoor.read (textV getV rd getV_in)
open Go.Proofs.YtgmbpohbjhaghaaDoor.seal_ Go.Proofs.YtgmbpohbjhaghaaDoor.unseal_
open Go.Proofs.YtgmbpohbjhaghaaDoor.all_ (goodB)
/-- text and code of Unseal -/
def unT (s : ByteArray) : ByteArray × Int :=
  if 8000 < s.size then (ByteArray.empty, 2) else if s.size < 4 then (ByteArray.empty, 4) else
  if fourB (crcN (headB s)) = tailB s then (headB s, 0) else (ByteArray.empty, 5)
theorem unV_T (s : ByteArray) : unV s = .agg #[.string (unT s).1, .int .i64 0, .int .i64 (unT s).2] := by
  unfold unV unT
  split
  · rfl
  · split
    · rfl
    · split <;> rfl
theorem unT_size (s : ByteArray) : (unT s).1.size ≤ 8000 := by
  unfold unT
  split
  · exact Nat.zero_le _
  · split
    · exact Nat.zero_le _
    · split
      · have := headB_size s; show (headB s).size ≤ 8000; omega
      · exact Nat.zero_le _
/-- the line that a kept text tells, if it tells one -/
noncomputable def keepL (t : ByteArray) : List ByteArray := if (unT t).2 = 0 ∧ goodB (unT t).1 = true then [(unT t).1] else []
noncomputable def loadF (s : ByteArray) : Nat → Nat → List ByteArray
  | 0, _ => []
  | f + 1, p => if (textV s p).2.2 = 0 then keepL (textV s p).1 ++ loadF s f (textV s p).2.1.toNat else []
/-- all the lines there are -/
noncomputable def allL (s : ByteArray) : List ByteArray := loadF s (s.size + 1) 0
/-- the last twelve -/
def last12 (l : List ByteArray) : List ByteArray := l.drop (l.length - 12)
noncomputable def loadV (s : ByteArray) : List ByteArray := last12 (allL s)
theorem rd_pos (s : ByteArray) (p : Nat) : ∀ (f k x : Nat), (rd s p f k x).2.2 = 0 → (p : Int) + k < (rd s p f k x).2.1
  | 0, k, x, h => by simp [rd] at h
  | f + 1, k, x, h => by
    rw [rd] at h ⊢
    split
    · rename_i h1; rw [if_pos h1] at h; simp at h
    · rename_i h1
      rw [if_neg h1] at h
      split
      · rename_i h2; rw [if_pos h2] at h; simp at h
      · rename_i h2
        rw [if_neg h2] at h
        split
        · rename_i h3
          rw [if_pos h3] at h
          split
          · rename_i h4; rw [if_pos h4] at h; simp at h
          · simp; omega
        · rename_i h3
          rw [if_neg h3] at h
          have := rd_pos s p f (k + 1) _ h
          omega
theorem textV_in (s : ByteArray) (p : Nat) (h : (textV s p).2.2 = 0) : s.size ≤ 8000 ∧ (p : Int) < (textV s p).2.1 ∧ (textV s p).2.1 ≤ s.size ∧ (textV s p).1.size ≤ 8000 := by
  unfold textV at h ⊢
  by_cases h0 : (getV s p).2.2 ≠ 0
  · rw [if_pos h0] at h; exact absurd h h0
  · rw [if_neg h0] at h ⊢
    have hz : (getV s p).2.2 = 0 := by omega
    obtain ⟨h1, h2, h3⟩ := getV_in s p hz
    have h4 : (p : Int) < (getV s p).2.1 := by
      unfold getV at hz ⊢
      rw [if_neg (by omega), if_neg (by omega)] at hz ⊢
      have := rd_pos s p 10 0 0 (by simpa using hz)
      simpa using this
    split
    · rename_i h5; rw [if_pos h5] at h; simp at h
    · rename_i h5
      rw [if_neg h5] at h
      split
      · rename_i h6; rw [if_pos h6] at h; simp at h
      · rename_i h6
        refine ⟨h1, ?_, ?_, ?_⟩
        · show (p : Int) < (getV s p).2.1 + (getV s p).1; omega
        · show (getV s p).2.1 + (getV s p).1 ≤ s.size; omega
        · show (s.extract _ _).size ≤ 8000; rw [ByteArray.size_extract]; omega
theorem load_none {s : ByteArray} {p : Nat} (h : (textV s p).2.2 ≠ 0) : ∀ f, loadF s f p = []
  | 0 => rfl
  | f + 1 => by rw [loadF, if_neg h]
/-- one step: the fuel that is left suffices -/
theorem load_step {s : ByteArray} {f p : Nat} (h : (textV s p).2.2 = 0) (hf : s.size < p + f) :
    ∃ f' q : Nat, (textV s p).2.1 = q ∧ p < q ∧ q ≤ s.size ∧ s.size < q + f' ∧ loadF s f p = keepL (textV s p).1 ++ loadF s f' q := by
  obtain ⟨_, h2, h3, _⟩ := textV_in s p h
  cases f with
  | zero => omega
  | succ f => exact ⟨f, (textV s p).2.1.toNat, by omega, by omega, by omega, by omega, by rw [loadF, if_pos h]⟩
theorem keepL_len (t : ByteArray) : (keepL t).length ≤ 1 := by
  unfold keepL; split <;> simp
theorem last12_snoc (l : List ByteArray) (x : ByteArray) : last12 (l ++ [x]) = (last12 l).drop ((last12 l).length + 1 - 12) ++ [x] := by
  unfold last12
  rw [List.length_append, List.length_singleton]
  by_cases h : l.length < 12
  · rw [show l.length + 1 - 12 = 0 by omega, show l.length - 12 = 0 by omega, List.drop_zero, List.drop_zero, show l.length + 1 - 12 = 0 by omega, List.drop_zero]
  · rw [List.drop_append_of_le_length (by omega), List.length_drop, List.drop_drop]
    congr 2
    omega
theorem last12_len (l : List ByteArray) : (last12 l).length ≤ 12 := by unfold last12; rw [List.length_drop]; omega
end Go.Proofs.YtgmbpohbjhaghaaDoor.load
