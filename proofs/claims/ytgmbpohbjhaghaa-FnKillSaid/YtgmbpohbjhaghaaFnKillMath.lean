/-
  What the law of what is kept aside says, of lists alone.
-/
import Derived.Test.YtgmbpohbjhaghaaKillPutImpl
import Derived.Test.YtgmbpohbjhaghaaUndoSpec
namespace Go.Proofs.Ytgmbpohbjhaghaa.fk
open Go.Proofs.Ytgmbpohbjhaghaa.strs Go.Proofs.Ytgmbpohbjhaghaa.kill Go.Proofs.Ytgmbpohbjhaghaa.line Go.Proofs.Ytgmbpohbjhaghaa.undo
theorem killsB_make {l : List ByteArray} {t : Int} (h1 : ∀ s ∈ l, goodB s = true) (h2 : l.length ≤ 5) (h3 : (0 ≤ t ∧ t ≤ (l.length : Int) - 1) ∨ (l.length = 0 ∧ t = 0)) : killsB l t = true := by
  unfold killsB textsB topB
  simp only [Bool.and_eq_true, Bool.or_eq_true, decide_eq_true_eq, List.all_eq_true]
  exact ⟨h1, by omega, by omega⟩
theorem killsB_good {l : List ByteArray} {t : Int} (h : killsB l t = true) : ∀ s ∈ l, goodB s = true := by
  unfold killsB textsB at h
  simp only [Bool.and_eq_true, List.all_eq_true] at h
  exact h.1
theorem turn_right {l : List ByteArray} {t : Int} (h : killsB l t = true) : killsB l (turnT l.length t) = true := by
  obtain ⟨h1, h2⟩ := killsB_parts h
  refine killsB_make (killsB_good h) h1 ?_
  unfold turnT
  split
  · omega
  · split <;> omega
/-- where one is behind i turns -/
def turns (n : Nat) (t : Int) (i : Nat) : Int := if n = 0 then t else (t - i) % n
theorem turns_one {n : Nat} {t : Int} (h : (0 ≤ t ∧ t ≤ (n : Int) - 1) ∨ (n = 0 ∧ t = 0)) : turnT n t = turns n t 1 := by
  unfold turnT turns
  by_cases hn : n = 0
  · rw [if_neg (by omega), if_neg (by omega), if_pos hn]
  · rw [if_neg hn]
    by_cases h0 : 0 < t
    · rw [if_pos h0, Int.emod_eq_of_lt (by omega) (by omega)]; simp
    · obtain rfl : t = 0 := by omega
      rw [if_neg h0, if_pos (by omega)]
      rw [show ((0 : Int) - (1 : Nat)) = ((n : Int) - 1) + (n : Int) * (-1) by omega, Int.add_mul_emod_self_left, Int.emod_eq_of_lt (by omega) (by omega)]
theorem turns_in {n : Nat} {t : Int} {i : Nat} (h : (0 ≤ t ∧ t ≤ (n : Int) - 1) ∨ (n = 0 ∧ t = 0)) : (0 ≤ turns n t i ∧ turns n t i ≤ (n : Int) - 1) ∨ (n = 0 ∧ turns n t i = 0) := by
  unfold turns
  by_cases hn : n = 0
  · rw [if_pos hn]; omega
  · rw [if_neg hn]
    have h1 := Int.emod_nonneg (t - i) (show (n : Int) ≠ 0 by omega)
    have h2 := Int.emod_lt_of_pos (t - i) (show (0 : Int) < n by omega)
    omega
theorem turns_step {n : Nat} {t : Int} {i : Nat} (hn : 0 < n) (_h : 0 ≤ t ∧ t ≤ (n : Int) - 1) : turnT n (turns n t i) = turns n t (i + 1) := by
  have h1 := Int.emod_nonneg (t - i) (show (n : Int) ≠ 0 by omega)
  have h2 := Int.emod_lt_of_pos (t - i) (show (0 : Int) < n by omega)
  have h3 : t - i = (n : Int) * ((t - i) / n) + (t - i) % n := (Int.mul_ediv_add_emod (t - i) n).symm
  have e1 : turns n t i = (t - i) % n := if_neg (by omega)
  have e2 : turns n t (i + 1) = (t - (i + 1 : Nat)) % n := if_neg (by omega)
  rw [e1, e2]
  unfold turnT
  obtain ⟨d, hd⟩ : ∃ d, d = (t - i) / (n : Int) := ⟨_, rfl⟩
  obtain ⟨r, hr⟩ : ∃ r, r = (t - i) % (n : Int) := ⟨_, rfl⟩
  rw [← hd, ← hr] at h3
  rw [← hr] at h1 h2 ⊢
  by_cases h0 : 0 < r
  · rw [if_pos h0, show t - ((i + 1 : Nat) : Int) = (r - 1) + (n : Int) * d by omega, Int.add_mul_emod_self_left, Int.emod_eq_of_lt (by omega) (by omega)]
  · rw [if_neg h0, if_pos hn]
    have e : (n : Int) * (d - 1) = n * d - n := by rw [Int.mul_sub, Int.mul_one]
    rw [show t - ((i + 1 : Nat) : Int) = ((n : Int) - 1) + (n : Int) * (d - 1) by omega, Int.add_mul_emod_self_left, Int.emod_eq_of_lt (by omega) (by omega)]
theorem turns_all {n : Nat} {t : Int} (h : (0 ≤ t ∧ t ≤ (n : Int) - 1) ∨ (n = 0 ∧ t = 0)) : turns n t n = t := by
  unfold turns
  by_cases hn : n = 0
  · rw [if_pos hn]
  · rw [if_neg hn, show t - (n : Int) = t + (n : Int) * (-1) by omega, Int.add_mul_emod_self_left, Int.emod_eq_of_lt (by omega) (by omega)]
theorem turns_end {n : Nat} {t : Int} {i : Nat} (h : (0 ≤ t ∧ t ≤ (n : Int) - 1) ∨ (n = 0 ∧ t = 0)) (_h1 : 1 ≤ i) (h2 : i ≤ n ∨ i = 1) (h3 : ¬ i < n) : turns n t i = t := by
  by_cases hn : n = 0
  · unfold turns; rw [if_pos hn]
  · obtain rfl : i = n := by omega
    exact turns_all h
/-- the last one of what is put -/
def lastX (l : List ByteArray) : ByteArray := l[l.length - 1]?.getD ⟨#[]⟩
theorem last_append (l : List ByteArray) (x : ByteArray) : lastX (l ++ [x]) = x := by
  unfold lastX
  rw [List.getElem?_append_right (by simp)]
  simp
theorem last_trim (l : List ByteArray) : lastX (trimV l) = lastX l := by
  unfold lastX trimV
  split
  · rw [List.length_drop, List.getElem?_drop, show 1 + (l.length - 1 - 1) = l.length - 1 by omega]
  · rfl
theorem mid_last {l : List ByteArray} {x : ByteArray} {more : Int} (hx : x.size ≠ 0) (hxt : textB x = true) : 1 ≤ (midV l x more).length ∧ goodB (lastX (midV l x more)) = true ∧ (lastX (midV l x more) = x ∨ (∃ y, 0 < more ∧ lastX (midV l x more) = y ++ x) ∨ (∃ y, more < 0 ∧ lastX (midV l x more) = x ++ y)) := by
  have hgx : goodB x = true := by unfold goodB; rw [hxt, decide_eq_true hx]; rfl
  by_cases hg : goodB (joinV l x more) = true
  · have hl : 0 < l.length := by
      rcases Nat.eq_zero_or_pos l.length with h0 | h0
      · exfalso
        unfold joinV at hg
        rw [if_pos h0] at hg
        have hz : goodB ⟨#[]⟩ = false := by unfold goodB; rw [decide_eq_false (show ¬ (⟨#[]⟩ : ByteArray).size ≠ 0 from fun h => h rfl), Bool.and_false]
        rw [hz] at hg
        cases hg
      · exact h0
    rw [mid_whole hl hg, last_append]
    refine ⟨by simp, hg, .inr ?_⟩
    by_cases hm : more = 0
    · exfalso
      unfold joinV at hg
      rw [if_neg (by omega), if_neg (by omega), if_neg (by omega)] at hg
      have hz : goodB ⟨#[]⟩ = false := by unfold goodB; rw [decide_eq_false (show ¬ (⟨#[]⟩ : ByteArray).size ≠ 0 from fun h => h rfl), Bool.and_false]
      rw [hz] at hg
      cases hg
    · rw [join_grown hm hl]
      by_cases hp : 0 < more
      · rw [if_pos hp]; exact .inl ⟨_, hp, rfl⟩
      · rw [if_neg hp]; exact .inr ⟨_, by omega, rfl⟩
  · have hg : goodB (joinV l x more) = false := by cases h : goodB (joinV l x more) with
      | true => exact absurd h hg
      | false => rfl
    rw [mid_new hg, last_append]
    exact ⟨by simp, hgx, .inl rfl⟩
theorem mid_good {l : List ByteArray} {x : ByteArray} {more : Int} (h : ∀ s ∈ l, goodB s = true) (hgx : goodB x = true) : ∀ s ∈ midV l x more, goodB s = true := fun s hs => by
  unfold midV at hs
  split at hs
  · rename_i hg
    rcases List.mem_or_eq_of_mem_set hs with h2 | h2
    · exact h s h2
    · rw [h2]; exact hg
  · rcases List.mem_append.1 hs with h2 | h2
    · exact h s h2
    · simp at h2; rw [h2]; exact hgx
theorem trim_mem {l : List ByteArray} {s : ByteArray} (h : s ∈ trimV l) : s ∈ l := by
  unfold trimV at h
  split at h
  · exact List.mem_of_mem_drop h
  · exact h
/-- what was killed last is on top, whole -/
theorem put_top {l : List ByteArray} {t : Int} {x : ByteArray} {more : Int} (hk : killsB l t = true) (hx : textB x = true) (h0 : x.size ≠ 0) :
    killsB (specPutV l t x more).1 (specPutV l t x more).2 = true ∧ ∃ y, topV (specPutV l t x more).1 (specPutV l t x more).2 = if more < 0 then x ++ y else y ++ x := by
  have e1 : specPutV l t x more = (trimV (midV l x more), ((trimV (midV l x more)).length : Int) - 1) := by
    unfold specPutV
    rw [if_pos ⟨hk, hx⟩]
    unfold putV
    rw [if_neg h0]
  obtain ⟨hl1, hgl, hlast⟩ := mid_last (l := l) (more := more) h0 hx
  have hlen := putV_len (l := l) (t := t) (x := x) (more := more) (killsB_parts hk).1
  have e2 : putV l t x more = (trimV (midV l x more), ((trimV (midV l x more)).length : Int) - 1) := by unfold putV; rw [if_neg h0]
  rw [e2] at hlen
  rw [e1]
  dsimp only at hlen ⊢
  have hpos : 1 ≤ (trimV (midV l x more)).length := by
    unfold trimV
    split
    · rw [List.length_drop]; omega
    · exact hl1
  have hright : killsB (trimV (midV l x more)) (((trimV (midV l x more)).length : Int) - 1) = true :=
    killsB_make (fun s hs => mid_good (killsB_good hk) (by unfold goodB; rw [hx, decide_eq_true h0]; rfl) s (trim_mem hs)) hlen (by omega)
  refine ⟨hright, ?_⟩
  have ht : topV (trimV (midV l x more)) (((trimV (midV l x more)).length : Int) - 1) = lastX (midV l x more) := by
    unfold topV
    rw [if_pos hright, ← last_trim (midV l x more)]
    unfold lastX
    rw [show (((trimV (midV l x more)).length : Int) - 1).toNat = (trimV (midV l x more)).length - 1 by omega]
  rw [ht]
  rcases hlast with h | ⟨y, hm, h⟩ | ⟨y, hm, h⟩
  · refine ⟨⟨#[]⟩, ?_⟩
    rw [h]
    split
    · exact (ByteArray.append_empty (b := x)).symm
    · exact (ByteArray.empty_append (b := x)).symm
  · exact ⟨y, by rw [h, if_neg (by omega)]⟩
  · exact ⟨y, by rw [h, if_pos hm]⟩
/-- a right line is put, and is the last one then -/
theorem undo_last {l : List (ByteArray × Int)} {s : ByteArray} {z : Int} (h : undosB l = true) (h2 : lineB s z = true) : undosB (undoV l s z) = true ∧ ∃ m, (undoV l s z).length = m + 1 ∧ ∃ hm : m < (undoV l s z).length, ((undoV l s z)[m].1.toList == s.toList) = true := by
  cases he : endsB l s
  · have e : undoV l s z = trimL (l ++ [(s, z)]) := by unfold undoV; rw [if_pos ⟨h, h2, he⟩]
    have h20 := undosB_len h
    obtain ⟨k1, k2⟩ := trimL_len (x := (s, z)) h20
    rw [e]
    refine ⟨?_, (trimL (l ++ [(s, z)])).length - 1, by omega, by omega, ?_⟩
    · unfold undosB at h ⊢
      simp only [Bool.and_eq_true, decide_eq_true_eq, List.all_eq_true] at h ⊢
      refine ⟨fun y hy => ?_, by omega⟩
      rcases trimL_mem hy with h3 | h3
      · exact h.1 y h3
      · rw [h3]; exact h2
    · have : (trimL (l ++ [(s, z)]))[(trimL (l ++ [(s, z)])).length - 1]? = some (s, z) := by
        unfold trimL
        split
        · rw [List.length_drop, List.getElem?_drop, List.length_append, show 1 + (l.length + [(s, z)].length - 1 - 1) = l.length by simp at *; omega, List.getElem?_append_right (Nat.le_refl _)]
          simp
        · rw [List.length_append, show l.length + [(s, z)].length - 1 = l.length by simp, List.getElem?_append_right (Nat.le_refl _)]
          simp
      rw [List.getElem?_eq_getElem (by omega)] at this
      injection this with this
      rw [this]
      simp
  · have e : undoV l s z = l := by unfold undoV; rw [if_neg (by rw [he]; simp)]
    rw [e]
    refine ⟨h, ?_⟩
    unfold endsB at he
    cases hl : l[l.length - 1]? with
    | none => rw [hl] at he; cases he
    | some y =>
      rw [hl] at he
      have hlt : l.length - 1 < l.length := by
        rcases Nat.lt_or_ge (l.length - 1) l.length with h3 | h3
        · exact h3
        · rw [List.getElem?_eq_none h3] at hl; cases hl
      refine ⟨l.length - 1, by omega, hlt, ?_⟩
      rw [List.getElem?_eq_getElem hlt] at hl
      injection hl with hl
      rw [hl]
      exact he
end Go.Proofs.Ytgmbpohbjhaghaa.fk
