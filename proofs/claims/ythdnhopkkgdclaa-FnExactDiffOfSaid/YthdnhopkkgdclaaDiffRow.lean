/-
  A row of changes in memory, and the model's DiffRight and CostOf over it. For every such row.
-/
import Derived.Test.YthdnhopkkgdclaaLine
import Derived.BigQuiet
namespace Go.Proofs.Ythdnhopkkgdclaa.diff
open Go.ChangeShapes Go.WideShapes Go.ChangeAt Go.RowKit
open Go.Proofs.Ythdnhopkkgdclaa.line
/-- n changes from the block g's beginning on: kinds K, texts X -/
structure RowD (w : World) (g n : Nat) (K : Nat → Int) (X : Nat → ByteArray) : Prop where
  kind : ∀ i, i < n → w.cell? ⟨g, i * 2, none⟩ = some (.int .i64 (K i))
  text : ∀ i, i < n → w.cell? ⟨g, i * 2 + 1, none⟩ = some (.string (X i))
theorem RowD.below {w w' : World} {g n : Nat} {K : Nat → Int} {X : Nat → ByteArray} (h : RowD w g n K X) (hb : Below w.heap.size w w') : RowD w' g n K X where
  kind i hi := by rw [hb.cell (p := ⟨g, i * 2, none⟩) (blk_lt (h.kind i hi))]; exact h.kind i hi
  text i hi := by rw [hb.cell (p := ⟨g, i * 2 + 1, none⟩) (blk_lt (h.text i hi))]; exact h.text i hi
theorem is_any (n l h : Int) (w : World) :
    Calls Try.prog 40 #[.int .i64 n, .int .i64 l, .int .i64 h] w fun e w' => e = .returned (.bool (decide (l ≤ n) && decide (n ≤ h))) ∧ w = w' := by
  by_cases hl : l ≤ n
  · go_enter Try.func40, Try.ntmps40
    go_wp2
    go_ret
    exact ⟨by simp [hl], rfl⟩
  · have hf : decide (l ≤ n) = false := by simpa using hl
    go_enter Try.func40, Try.ntmps40
    go_wp2
    go_ret
    exact ⟨by simp, rfl⟩
theorem is_of (n l h : Int) (w : World) (b : Bool) (e : (decide (l ≤ n) && decide (n ≤ h)) = b) :
    Calls Try.prog 40 #[.int .i64 n, .int .i64 l, .int .i64 h] w fun e w' => e = .returned (.bool b) ∧ w' = w := by
  rw [← e]
  refine (is_any n l h w).mono ?_
  rintro _ _ ⟨rfl, rfl⟩
  exact ⟨rfl, rfl⟩
theorem below_draws (B : Nat) (w : World) (n : Nat) : Below B w (w.drewN n) := ⟨rfl, rfl, rfl, Nat.le_refl _, fun _ _ => rfl⟩
def GoodAt (K : Nat → Int) (X : Nat → ByteArray) (i : Nat) : Prop := (1 ≤ K i ∧ K i ≤ 3) ∧ 1 ≤ (X i).size ∧ (0 < i → K (i - 1) ≠ K i)
def GoodTo (K : Nat → Int) (X : Nat → ByteArray) (n : Nat) : Prop := ∀ i, i < n → GoodAt K X i
theorem GoodTo.succ {K : Nat → Int} {X : Nat → ByteArray} {n : Nat} (h : GoodTo K X n) (g : GoodAt K X n) : GoodTo K X (n + 1) := by
  intro i hi
  by_cases e : i = n
  · subst e; exact g
  · exact h i (by omega)
noncomputable def drB (n : Nat) (K : Nat → Int) (X : Nat → ByteArray) : Bool := open Classical in decide (n ≤ 400 ∧ GoodTo K X n)
theorem drB_t {n : Nat} {K : Nat → Int} {X : Nat → ByteArray} (h : n ≤ 400 ∧ GoodTo K X n) : drB n K X = true := by simp [drB, h]
theorem drB_f {n : Nat} {K : Nat → Int} {X : Nat → ByteArray} (h : ¬ (n ≤ 400 ∧ GoodTo K X n)) : drB n K X = false := by simp only [drB, decide_eq_false_iff_not]; exact h
theorem drB_ok {n : Nat} {K : Nat → Int} {X : Nat → ByteArray} (h : drB n K X = true) : n ≤ 400 ∧ GoodTo K X n := by simpa [drB] using h
theorem drB_bad {n : Nat} {K : Nat → Int} {X : Nat → ByteArray} {i : Nat} (hi : i < n) (h : ¬ GoodAt K X i) : drB n K X = false := drB_f fun x => h (x.2 i hi)
set_option maxHeartbeats 4000000 in
theorem specDR_any (g n C : Nat) (K : Nat → Int) (X : Nat → ByteArray) (hn : n ≤ 1048576) (w : World) (hr : RowD w g n K X) :
    Calls Try.prog 18 #[.slice (some ⟨g, 0, none⟩) n C] w fun e w' => e = .returned (.bool (drB n K X)) ∧ Below w.heap.size w w' := by
  have HR := Lib.hid hr
  clear hr
  by_cases h4 : (400 : Int) < n
  · have HF := Lib.hid (drB_f (n := n) (K := K) (X := X) (by omega))
    go_enter Try.func18, Try.ntmps18
    go_wp2
    go_ret
    exact ⟨by rw [HF.out]; rfl, Below.refl _ _⟩
  go_enter Try.func18, Try.ntmps18
  go_wp2
  go_loopw [3] (fun i w' => ∃ k : Nat, k ≤ n ∧ i = .int .i64 k ∧ GoodTo K X k ∧ Below w.heap.size w w') (fun i _ => n - (intOf i).toNat)
  case atStart => exact ⟨0, Nat.zero_le _, rfl, fun _ h => absurd h (by omega), Below.refl _ _⟩
  case round =>
    obtain ⟨k, hk, rfl, HG, hbel⟩ := hrel
    rename World => wr
    have HS := Lib.hid (HR.out.below hbel)
    have HB := Lib.hid hbel
    have HG := Lib.hid HG
    clear hbel
    by_cases hlt : k < n
    · have hc := HS.out.kind k hlt
      have ht := HS.out.text k hlt
      by_cases hr1 : 1 ≤ K k ∧ K k ≤ 3
      · by_cases hz : 1 ≤ (X k).size
        · have e2 := empty_f hz
          by_cases hk0 : 0 < k
          · obtain ⟨m, rfl⟩ : ∃ m, k = m + 1 := ⟨k - 1, by omega⟩
            have hc0 := HS.out.kind m (by omega)
            have e1 : (decide (1 ≤ K (m + 1)) && decide (K (m + 1) ≤ 3)) = true := by simp [hr1]
            have ed : decide (0 < m + 1) = true := by simp
            have b1 : (0 : Int) ≤ (m : Int) + 1 := by omega
            have b2 : (m : Int) + 1 < n := by omega
            have b3 : IntKind.i64.wrap ((m : Int) + 1 - 1) = m := by rw [IntWalk.i64_in _ (by omega)]; omega
            have b6 : IntKind.i64.wrap (m : Int) = m := IntWalk.i64_in _ (by omega)
            have b7 : (0 : Int) ≤ m := by omega
            have b4 : (m : Int) < n := by omega
            have b5 : ((m : Int) + 1).toNat = m + 1 := by omega
            by_cases he : K m = K (m + 1)
            · have e3 : (K m == K (m + 1)) = true := by simpa using he
              have HV := Lib.hid (drB_bad (K := K) (X := X) hlt (fun x => x.2.2 hk0 (by simpa using he)))
              clear he hr1 hz
              go_wp2
              go_quiet (first | (go_at_call 40; refine Calls.quiet_of_same (is_of _ _ _ _ _ e1)))
              go_wp2
              go_ret
              exact ⟨by rw [HV.out]; rfl, HB.out.trans (below_draws _ _ _)⟩
            · have e3 : (K m == K (m + 1)) = false := by simpa using he
              have HV := Lib.hid (HG.out.succ ⟨hr1, hz, fun _ => by simpa using he⟩)
              clear he hr1 hz
              go_wp2
              go_quiet (first | (go_at_call 40; refine Calls.quiet_of_same (is_of _ _ _ _ _ e1)))
              go_wp2
              go_roundw
              case rel => exact ⟨m + 1 + 1, by omega, by go_num, HV.out, HB.out.trans (below_draws _ _ _)⟩
              case measure => simp [intOf]; omega
          · obtain rfl : k = 0 := by omega
            have e1 : (decide (1 ≤ K 0) && decide (K 0 ≤ 3)) = true := by simp [hr1]
            have hc' : wr.cell? ⟨g, 0, none⟩ = some (.int .i64 (K 0)) := hc
            have ht' : wr.cell? ⟨g, 1, none⟩ = some (.string (X 0)) := ht
            have HV := Lib.hid (HG.out.succ ⟨hr1, hz, fun x => absurd x hk0⟩)
            clear hr1 hz hc ht
            go_wp2
            go_quiet (first | (go_at_call 40; refine Calls.quiet_of_same (is_of _ _ _ _ _ e1)))
            go_wp2
            go_roundw
            case rel => exact ⟨0 + 1, by omega, by go_num, HV.out, HB.out.trans (below_draws _ _ _)⟩
            case measure => simp [intOf]; omega
        · have e1 : (decide (1 ≤ K k) && decide (K k ≤ 3)) = true := by simp [hr1]
          have e2 := empty_t (s := X k) (by omega)
          have HV := Lib.hid (drB_bad (K := K) (X := X) hlt (fun x => hz x.2.1))
          clear hr1 hz
          go_wp2
          go_quiet (first | (go_at_call 40; refine Calls.quiet_of_same (is_of _ _ _ _ _ e1)))
          go_wp2
          go_ret
          exact ⟨by rw [HV.out]; rfl, HB.out.trans (below_draws _ _ _)⟩
      · have e1 : (decide (1 ≤ K k) && decide (K k ≤ 3)) = false := by
          apply Bool.eq_false_iff.2; simpa using fun x => Int.lt_of_not_ge fun y => hr1 ⟨x, y⟩
        have HV := Lib.hid (drB_bad (K := K) (X := X) hlt (fun x => hr1 x.1))
        clear hr1
        go_wp2
        go_quiet (first | (go_at_call 40; refine Calls.quiet_of_same (is_of _ _ _ _ _ e1)))
        go_wp2
        go_ret
        exact ⟨by rw [HV.out]; rfl, HB.out.trans (below_draws _ _ _)⟩
    · have HV := Lib.hid (drB_t (n := n) (K := K) (X := X) ⟨by omega, fun i hi => HG.out i (by omega)⟩)
      go_wp2
      go_ret
      exact ⟨by rw [HV.out]; rfl, HB.out⟩
end Go.Proofs.Ythdnhopkkgdclaa.diff
