/-
  What FnDiff's law rests on: what ApplyTo answers to DiffOf's runs, what these cost, and that none costs less; the program's functions on a list that may be none.
-/
import Derived.Test.YtbbmobebnflboaaLw
import Derived.Test.YtbbmobebnflboaaDiffBack
import Derived.Test.YtbbmobebnflboaaDiffLeast
import Derived.Test.YtbbmobebnflboaaDiffWalks
import Derived.Test.YtbbmobebnflboaaCommonImpl
import Derived.Test.YtbbmobebnflboaaDrawOdd
namespace Go.Proofs.Ytbbmobebnflboaa.diff
open Go.ChangeShapes Go.WideShapes Go.ChangeAt Go.RowKit
open Go.Proofs.Ytbbmobebnflboaa.line Go.Proofs.Ytbbmobebnflboaa.put Go.Proofs.Ytbbmobebnflboaa.table
theorem atTo_le (K : Nat → Int) (X : Nat → ByteArray) : ∀ i, atTo K X i ≤ (isTo K X i).size
  | 0 => by simp [atTo, isTo, emptyB, ByteArray.size]
  | i + 1 => by
    have ih := atTo_le K X i
    unfold atTo
    split
    · have : (isTo K X i).size ≤ (isTo K X (i + 1)).size := by
        simp only [isTo]
        split
        · exact Nat.le_refl _
        · rw [ByteArray.size_append]; omega
      omega
    · exact Int.le_refl _
/-- what an answer without a fault tells -/
theorem applyV_ok {a : ByteArray} {n : Nat} {K : Nat → Int} {X : Nat → ByteArray} {s g : ByteArray} {i : Int} (h : applyV a n K X = .agg #[.string s, .int .i64 i, .string g, .int .i64 0]) :
    textB a = true ∧ drB n K X = true ∧ wasTo K X n = a ∧ isTo K X n = s ∧ textB s = true ∧ lineB s i = true := by
  unfold applyV illO at h
  split at h
  · simp at h
  · split at h
    · simp at h
    · rename_i h2
      split at h
      · simp at h
      · rename_i h3
        split at h
        · simp at h
        · rename_i h4
          simp at h
          obtain ⟨e1, e2, _⟩ := h
          have ta : textB a = true := by cases ht : textB a; exact absurd (.inl ht) h2; rfl
          have td : drB n K X = true := by cases ht : drB n K X; exact absurd (.inr ht) h2; rfl
          have ts : textB (isTo K X n) = true := by cases ht : textB (isTo K X n); exact absurd ht h4; rfl
          have hw : wasTo K X n = a := by simpa using h3
          refine ⟨ta, td, hw, e1, by rw [← e1]; exact ts, ?_⟩
          have hge := atTo_ge K X n
          have hle := atTo_le K X n
          unfold lineB
          rw [← e1, ts, ← e2]
          simp only [Bool.true_and, Bool.and_eq_true, decide_eq_true_eq]
          split <;> omega
/-- DiffOf's runs make of the one text the other one -/
theorem applyV_diff (a b : ByteArray) (ta : textB a = true) (tb : textB b = true) :
    ∃ i : Int, applyV a (diffV a b).length (atK (diffV a b)) (atX (diffV a b)) = .agg #[.string b, .int .i64 i, .string ⟨#[]⟩, .int .i64 0] := by
  have hl := diffV_len a b
  have hv : diffV a b = diffL a b := by simp [diffV, ta, tb]
  rw [hv] at hl ⊢
  obtain ⟨h1, h2, h3, _⟩ := diffL_good a b (by omega)
  have h6 := (textB_ok ta).1
  unfold applyV
  rw [if_neg (by omega), if_neg (by rw [ta, h1]; simp), if_neg (by simpa using h2), if_neg (by rw [h3, tb]; simp), h3]
  exact ⟨_, rfl⟩
theorem costV_diff (a b : ByteArray) (ta : textB a = true) (tb : textB b = true) :
    costV (diffV a b).length (atK (diffV a b)) (atX (diffV a b)) = (a.size : Int) + b.size - 2 * commonV a b := by
  have hl := diffV_len a b
  have hv : diffV a b = diffL a b := by simp [diffV, ta, tb]
  rw [hv] at hl ⊢
  obtain ⟨h1, _, _, h4⟩ := diffL_good a b (by omega)
  have hc : commonV a b = (tab a b 0 0 : Nat) := by simp [commonV, ta, tb]
  rw [hc]
  unfold costV
  rw [if_pos h1]
  omega
theorem cost_ge {c s g : ByteArray} {n : Nat} {K : Nat → Int} {X : Nat → ByteArray} {i : Int} (h : applyV c n K X = .agg #[.string s, .int .i64 i, .string g, .int .i64 0]) :
    costV (diffV c s).length (atK (diffV c s)) (atX (diffV c s)) ≤ costV n K X := by
  obtain ⟨tc, td, h1, h2, ts, _⟩ := applyV_ok h
  have hl := cost_least K X n (drB_ok td).2
  rw [h1, h2] at hl
  rw [costV_diff c s tc ts]
  have hc : commonV c s = (tab c s 0 0 : Nat) := by simp [commonV, tc, ts]
  rw [hc]
  unfold costV
  rw [if_pos td]
  omega
theorem commonV_swap (a b : ByteArray) : commonV b a = commonV a b := by
  unfold commonV
  rw [Bool.and_comm, tab_swap b a]
/-- a list of runs in memory, or none -/
def ListD (v : Value) (R : List Run) (W : World) : Prop := (v = .slice none 0 0 ∧ R = []) ∨ ∃ g C, v = .slice (some ⟨g, 0, none⟩) R.length C ∧ RowD W g R.length (atK R) (atX R)
theorem ListD.below {v : Value} {R : List Run} {w w' : World} (h : ListD v R w) (hb : Below w.heap.size w w') : ListD v R w' := h.imp id (fun ⟨g, C, e, hr⟩ => ⟨g, C, e, hr.below hb⟩)
theorem ListD.of {v : Value} {R : List Run} {w : World} {base : Nat} (hs : SliceOr v R) (ho : w.ownsRow base 55 2 v R.length (dCells R)) : ListD v R w := by
  rcases ho.2 with ⟨h0, _⟩ | ⟨g, cap, cur, rfl, _⟩
  · exact .inl ⟨h0, hs.1 h0⟩
  · exact .inr ⟨g, cap, rfl, own_row ho⟩
theorem costD_any (v : Value) (R : List Run) (w : World) (h : ListD v R w) (hl : R.length ≤ 200) (hX : ∀ i, i < R.length → (atX R i).size ≤ 200) :
    Calls Try.prog 21 #[v] w fun e w' => e = .returned (.int .i64 (costV R.length (atK R) (atX R))) ∧ Below w.heap.size w w' := by
  rcases h with ⟨rfl, rfl⟩ | ⟨g, C, rfl, hr⟩
  · refine (implCost_nil w).mono ?_
    rintro e w' ⟨rfl, hb⟩
    exact ⟨by rw [show ([] : List Run).length = 0 from rfl, costV_nil], hb⟩
  · exact implCost_any g 0 _ C _ _ (by omega) (fun i hi => by have := hX i hi; omega) w hr.o
theorem lwDiffsD (v : Value) (R : List Run) (h E : Nat) (w : World) (hv : ListD v R w) (hh : RowD w h R.length (atK R) (atX R)) (hl : R.length ≤ 200) :
    Calls Try.prog 14 #[v, .slice (some ⟨h, 0, none⟩) R.length E] w fun e w' => e = .returned (.bool true) ∧ Below w.heap.size w w' := by
  rcases hv with ⟨rfl, rfl⟩ | ⟨g, C, rfl, hr⟩
  · exact lwDiffs_nil h E w
  · exact lwDiffs_same g h _ C E _ _ (by omega) w hr hh
theorem comesOf_nil (w : World) : Calls Try.prog 36 #[.string ⟨#[]⟩, .slice none 0 0] w fun e w' => e = .returned (.bool true) ∧ Below w.heap.size w w' := by
  go_enter Try.func36, Try.ntmps36
  go_wp2
  go_loopw [5, 13] (fun r i wr => r = .string ⟨#[]⟩ ∧ i = .int .i64 0 ∧ Below w.heap.size w wr) (fun _ _ _ => 0)
  case atStart => exact ⟨rfl, rfl, Below.refl _ _⟩
  case round =>
    obtain ⟨rfl, rfl, hbel⟩ := hrel
    go_wp2
    go_ret
    exact ⟨rfl, hbel⟩
theorem made_nil (w : World) : Calls Try.prog 37 #[.slice none 0 0] w fun e w' => e = .returned (outO ⟨#[]⟩ 0) ∧ Below w.heap.size w w' := by
  go_enter Try.func37, Try.ntmps37
  go_wp2
  go_loopw [3, 4, 9] (fun t p i wr => t = .string ⟨#[]⟩ ∧ p = .int .i64 (-1) ∧ i = .int .i64 0 ∧ wr = w.alloc (.cells #[.string ⟨#[]⟩, .int .i64 0, .string ⟨#[]⟩, .int .i64 0] 33)) (fun _ _ _ _ => 0)
  case atStart => exact ⟨rfl, rfl, rfl, rfl⟩
  case round =>
    obtain ⟨rfl, rfl, rfl, rfl⟩ := hrel
    go_wp2
    exact bodyPost_ret (v := outO ⟨#[]⟩ 0) (by simp [results, Try.results37, go_sem, outO]) rfl ⟨rfl, by repeat (first | exact (Below.refl _ w).alloc (Nat.le_refl _) _ | refine store_bel ?_)⟩
end Go.Proofs.Ytbbmobebnflboaa.diff
