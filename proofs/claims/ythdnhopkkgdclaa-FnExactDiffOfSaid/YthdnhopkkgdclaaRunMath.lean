/-
  A run of the walk, on the lists of runs that DiffOf comes to. Plain lemmas.
-/
import Derived.Test.YthdnhopkkgdclaaWalk
import Derived.Test.YthdnhopkkgdclaaDiffOf
namespace Go.Proofs.Ythdnhopkkgdclaa.table
open Go.ChangeShapes Go.WideShapes Go.ChangeAt Go.RowKit
open Go.Proofs.Ythdnhopkkgdclaa.put
/-- the last run is of another kind -/
def LastNe (ds : List Run) (k : Int) : Prop := ∀ L d, ds = L ++ [d] → d.1 ≠ k
theorem LastNe.nil (k : Int) : LastNe [] k := fun L d h => by simp at h
theorem LastNe.snoc {L : List Run} {d : Run} {k : Int} (h : d.1 ≠ k) : LastNe (L ++ [d]) k := fun L' d' e => by
  have := (List.append_inj' e rfl).2
  injection this with e1
  rw [← e1]; exact h
theorem putL_new {ds : List Run} {k : Int} (h : LastNe ds k) (c : UInt8) : putL ds k c = ds ++ [(k, oneB c)] := by
  rcases List.eq_nil_or_concat ds with rfl | ⟨L, d, rfl⟩
  · rw [putL_nil]; rfl
  · obtain ⟨k', x⟩ := d
    rw [List.concat_eq_append] at h ⊢
    rw [putL_other _ _ _ _ _ (h L (k', x) rfl)]
/-- the byte that a step goes over -/
def stepB (a b : ByteArray) (k : Int) (i j : Nat) : UInt8 := if k = 3 then b.data.getD j 0 else a.data.getD i 0
theorem ba_getD {s : ByteArray} {i : Nat} (h : i < s.size) : s.data.getD i 0 = s[i] := by
  have h' : i < s.data.size := h
  unfold Array.getD
  rw [dif_pos h', ByteArray.getElem_eq_getElem_data]
  rfl
theorem kindAt_lt {a b : ByteArray} {i j : Nat} {k : Int} (h : kindAt a b i j = k) (h0 : k ≠ 0) : (k = 1 ∨ k = 2 ∨ k = 3) ∧ (k ≠ 3 → i < a.size) ∧ (k ≠ 2 → j < b.size) := by
  subst h
  unfold kindAt at h0 ⊢
  split
  · rename_i h; rw [if_pos h] at h0; exact absurd rfl h0
  · split
    · rename_i h1 h2; exact ⟨.inl rfl, fun _ => h2.1, fun _ => h2.2.1⟩
    · split
      · rename_i h3; exact ⟨.inr (.inl rfl), fun _ => h3.1, fun x => absurd rfl x⟩
      · rename_i h1 h2 h3
        refine ⟨.inr (.inr rfl), fun x => absurd rfl x, fun _ => ?_⟩
        rcases Nat.lt_or_ge j b.size with h | h
        · exact h
        · exfalso
          by_cases hi : i < a.size
          · exact h3 ⟨hi, by rw [tab_endB _ _ _ _ h, tab_endB _ _ _ _ h]⟩
          · exact h1 ⟨hi, by omega⟩
theorem diffR_step {a b : ByteArray} {i j : Nat} {k : Int} (h : kindAt a b i j = k) (h0 : k ≠ 0) (f : Nat) (ds : List Run) :
    diffR a b (f + 1) i j ds = diffR a b f (stepI k i) (stepJ k j) (putL ds k (stepB a b k i j)) := by
  obtain ⟨_, hi, hj⟩ := kindAt_lt h h0
  unfold kindAt at h
  split at h
  · exact absurd h.symm h0
  · split at h
    · rename_i h1 h2
      subst h
      have e1 := hi (by decide)
      have e2 := hj (by decide)
      rw [diffR_keep _ _ _ _ _ _ e1 e2 (by have := h2.2.2; rw [byteAt_eq e1, byteAt_eq e2] at this; exact this)]
      simp [stepI, stepJ, stepB, ← ba_getD e1]
    · split at h
      · rename_i h1 h2 h3
        subst h
        have e1 := hi (by decide)
        rw [diffR_drop _ _ _ _ _ _ e1 (fun hk x => h2 ⟨e1, hk, by rw [byteAt_eq e1, byteAt_eq hk]; exact x⟩) h3.2]
        simp [stepI, stepJ, stepB, ← ba_getD e1]
      · rename_i h1 h2 h3
        subst h
        have e2 := hj (by decide)
        rw [diffR_put _ _ _ _ _ _ e2 (fun hk x => h2 ⟨hk, e2, by rw [byteAt_eq hk, byteAt_eq e2]; exact x⟩) h3]
        simp [stepI, stepJ, stepB, ← ba_getD e2]
/-- n bytes of what a run is of -/
def runT (a b : ByteArray) (k : Int) (i j n : Nat) : ByteArray := if k = 3 then b.extract j (j + n) else a.extract i (i + n)
theorem ext_one (s : ByteArray) (i n : Nat) (h : i + n < s.size) : s.extract i (i + n) ++ oneB (s.data.getD (i + n) 0) = s.extract i (i + (n + 1)) := by
  apply ByteArray.ext
  apply Array.ext'
  have h' : i + n < s.data.toList.length := h
  have e : s.data.getD (i + n) 0 = s.data.toList[i + n] := by
    rw [ba_getD h, ByteArray.getElem_eq_getElem_data]; rfl
  rw [e]
  simp only [ByteArray.data_append, ByteArray.data_extract, Array.toList_append, Array.toList_extract, oneB]
  rw [List.extract_eq_take_drop, List.extract_eq_take_drop]
  rw [show i + n - i = n from by omega, show i + (n + 1) - i = n + 1 from by omega]
  rw [List.take_add_one, List.getElem?_drop, List.getElem?_eq_getElem h']
  rfl
theorem runT_one (a b : ByteArray) (k : Int) (i j n : Nat) (hi : k ≠ 3 → i + n < a.size) (hj : k = 3 → j + n < b.size) :
    runT a b k i j n ++ oneB (stepB a b k (i + n) (j + n)) = runT a b k i j (n + 1) := by
  unfold runT stepB
  by_cases h : k = 3
  · rw [if_pos h, if_pos h, if_pos h]; exact ext_one b j n (hj h)
  · rw [if_neg h, if_neg h, if_neg h]; exact ext_one a i n (hi h)
theorem runT_zero (a b : ByteArray) (k : Int) (i j : Nat) : runT a b k i j 0 = ⟨#[]⟩ := by
  unfold runT
  split <;> (apply ByteArray.ext; simp)
/-- where one stands n bytes on -/
def atI (k : Int) (i n : Nat) : Nat := if k = 3 then i else i + n
def atJ (k : Int) (j n : Nat) : Nat := if k = 2 then j else j + n
theorem atI_step (k : Int) (i n : Nat) : stepI k (atI k i n) = atI k i (n + 1) := by unfold stepI atI; split <;> omega
theorem atJ_step (k : Int) (j n : Nat) : stepJ k (atJ k j n) = atJ k j (n + 1) := by unfold stepJ atJ; split <;> omega
theorem stepB_at (a b : ByteArray) (k : Int) (i j n : Nat) : stepB a b k (atI k i n) (atJ k j n) = stepB a b k (i + n) (j + n) := by
  unfold stepB atI atJ
  by_cases h : k = 3
  · rw [if_pos h, if_pos h, if_neg (by omega)]
  · rw [if_neg h, if_neg h, if_neg h]
theorem run_more (a b : ByteArray) (k : Int) (i j : Nat) (h0 : k ≠ 0) (ds : List Run) (hds : LastNe ds k) : ∀ (n f : Nat), 1 ≤ n → (∀ m, m < n → kindAt a b (atI k i m) (atJ k j m) = k) →
    diffR a b (f + n) i j ds = diffR a b f (atI k i n) (atJ k j n) (ds ++ [(k, runT a b k i j n)]) := by
  have one : ∀ m, kindAt a b (atI k i m) (atJ k j m) = k → runT a b k i j m ++ oneB (stepB a b k (atI k i m) (atJ k j m)) = runT a b k i j (m + 1) := fun m hm => by
    obtain ⟨_, h1, h2⟩ := kindAt_lt hm h0
    rw [stepB_at]
    refine runT_one a b k i j m (fun h => ?_) (fun h => ?_)
    · have := h1 h; unfold atI at this; rw [if_neg h] at this; exact this
    · have := h2 (by omega); unfold atJ at this; rw [if_neg (by omega)] at this; exact this
  intro n
  induction n with
  | zero => intro f h; omega
  | succ n ih =>
    intro f _ hall
    by_cases hn : n = 0
    · subst hn
      have e0 : atI k i 0 = i ∧ atJ k j 0 = j := by unfold atI atJ; constructor <;> split <;> rfl
      have hk := hall 0 (by omega)
      have h1 := one 0 hk
      rw [e0.1, e0.2] at hk h1
      rw [runT_zero] at h1
      rw [diffR_step hk h0, putL_new hds, ← atI_step, ← atJ_step, e0.1, e0.2, ← h1]
      have e : (⟨#[]⟩ : ByteArray) ++ oneB (stepB a b k i j) = oneB (stepB a b k i j) := by apply ByteArray.ext; simp
      rw [e]
    · have hk := hall n (by omega)
      rw [show f + (n + 1) = (f + 1) + n from by omega, ih (f + 1) (by omega) (fun m hm => hall m (by omega)), diffR_step hk h0, putL_same, one n hk, atI_step, atJ_step]
end Go.Proofs.Ythdnhopkkgdclaa.table
