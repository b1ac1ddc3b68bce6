/-
  The program's DiffRight and CostOf over a row of changes in memory. For every such row.
-/
import Derived.Test.YthdnhopkkgdclaaDiffHarness
namespace Go.Proofs.Ythdnhopkkgdclaa.diff
open Go.ChangeShapes Go.WideShapes Go.ChangeAt Go.RowKit
open Go.Proofs.Ythdnhopkkgdclaa.line
/-- n changes in the block g from the cell o on -/
structure RowO (w : World) (g o n : Nat) (K : Nat → Int) (X : Nat → ByteArray) : Prop where
  kind : ∀ i, i < n → w.cell? ⟨g, o + i * 2, none⟩ = some (.int .i64 (K i))
  text : ∀ i, i < n → w.cell? ⟨g, o + i * 2 + 1, none⟩ = some (.string (X i))
theorem RowO.below {w w' : World} {g o n : Nat} {K : Nat → Int} {X : Nat → ByteArray} (h : RowO w g o n K X) (hb : Below w.heap.size w w') : RowO w' g o n K X where
  kind i hi := by rw [hb.cell (p := ⟨g, o + i * 2, none⟩) (blk_lt (h.kind i hi))]; exact h.kind i hi
  text i hi := by rw [hb.cell (p := ⟨g, o + i * 2 + 1, none⟩) (blk_lt (h.text i hi))]; exact h.text i hi
theorem RowD.o {w : World} {g n : Nat} {K : Nat → Int} {X : Nat → ByteArray} (h : RowD w g n K X) : RowO w g 0 n K X where
  kind i hi := by rw [Nat.zero_add]; exact h.kind i hi
  text i hi := by rw [Nat.zero_add]; exact h.text i hi
set_option maxHeartbeats 4000000 in
theorem implDR_any (g o n C : Nat) (K : Nat → Int) (X : Nat → ByteArray) (hn : n ≤ 1048576) (w : World) (hr : RowO w g o n K X) :
    Calls Try.prog 17 #[.slice (some ⟨g, o, none⟩) n C] w fun e w' => e = .returned (.bool (drB n K X)) ∧ Below w.heap.size w w' := by
  have HR := Lib.hid hr
  clear hr
  by_cases h4 : (400 : Int) < n
  · have HF := Lib.hid (drB_f (n := n) (K := K) (X := X) (by omega))
    go_enter Try.func17, Try.ntmps17
    go_wp2
    go_ret
    exact ⟨by rw [HF.out]; rfl, Below.refl _ _⟩
  go_enter Try.func17, Try.ntmps17
  go_wp2
  go_loopw [10] (fun i w' => ∃ k : Nat, k ≤ n ∧ i = .int .i64 k ∧ GoodTo K X k ∧ Below w.heap.size w w') (fun i _ => n - (intOf i).toNat)
  case atStart => exact ⟨0, Nat.zero_le _, rfl, fun _ h => absurd h (by omega), Below.refl _ _⟩
  case round =>
    obtain ⟨k, hk, rfl, HG, hbel⟩ := hrel
    rename World => wr
    have HS := Lib.hid (HR.out.below hbel)
    have HB := Lib.hid hbel
    have HG := Lib.hid HG
    have hsz := hbel.size
    clear hbel
    by_cases hlt : k < n
    · have hc := HS.out.kind k hlt
      have ht := HS.out.text k hlt
      have hne : g ≠ wr.heap.size := Nat.ne_of_lt (blk_lt hc)
      have HBA := Lib.hid (HB.out.alloc hsz (.cells #[.int .i64 (K k), .string (X k)] 54))
      by_cases hr1 : 1 ≤ K k
      · have d1 : decide (K k < 1) = false := by simp; omega
        by_cases hr3 : K k ≤ 3
        · have d3 : decide (3 < K k) = false := by simp; omega
          by_cases hz : 1 ≤ (X k).size
          · have e2 := empty_f hz
            by_cases hk0 : 0 < k
            · obtain ⟨m, rfl⟩ : ∃ m, k = m + 1 := ⟨k - 1, by omega⟩
              have hc0 := HS.out.kind m (by omega)
              have hg := blk_lt hc0
              have hc0' : (wr.alloc (.cells #[.int .i64 (K (m + 1)), .string (X (m + 1))] 54)).cell? ⟨g, o + m * 2, none⟩ = some (.int .i64 (K m)) := by
                rw [(keepC ((Below.refl _ wr).alloc (Nat.le_refl _) (.cells #[.int .i64 (K (m + 1)), .string (X (m + 1))] 54)) hg).1]; exact hc0
              have ed : decide (0 < m + 1) = true := by simp
              have b1 : (0 : Int) ≤ (m : Int) + 1 := by omega
              have b2 : (m : Int) + 1 < n := by omega
              have b3 : IntKind.i64.wrap ((m : Int) + 1 - 1) = m := by rw [IntWalk.i64_in _ (by omega)]; omega
              have b6 : IntKind.i64.wrap (m : Int) = m := IntWalk.i64_in _ (by omega)
              have b7 : (0 : Int) ≤ m := by omega
              have b4 : (m : Int) < n := by omega
              have b5 : ((m : Int) + 1).toNat = m + 1 := by omega
              by_cases he : K (m + 1) = K m
              · have e3 : (K (m + 1) == K m) = true := by simpa using he
                have HV := Lib.hid (drB_bad (K := K) (X := X) hlt (fun x => x.2.2 hk0 (by simpa using he.symm)))
                clear he hz hr1 hr3
                go_wp2
                go_quiet (fail)
                go_wp2
                go_ret
                exact ⟨by rw [HV.out]; rfl, HBA.out.trans (below_draws _ _ _)⟩
              · have e3 : (K (m + 1) == K m) = false := by simpa using he
                have HV := Lib.hid (HG.out.succ ⟨⟨hr1, hr3⟩, hz, fun _ => by simpa using fun x => he x.symm⟩)
                clear he hz hr1 hr3
                go_wp2
                go_quiet (fail)
                go_wp2
                go_roundw
                case rel => exact ⟨m + 1 + 1, by omega, by go_num, HV.out, HBA.out.trans (below_draws _ _ _)⟩
                case measure => simp [intOf]; omega
            · obtain rfl : k = 0 := by omega
              have hc' : wr.cell? ⟨g, o, none⟩ = some (.int .i64 (K 0)) := hc
              have ht' : wr.cell? ⟨g, o + 1, none⟩ = some (.string (X 0)) := ht
              have HV := Lib.hid (HG.out.succ ⟨⟨hr1, hr3⟩, hz, fun x => absurd x hk0⟩)
              clear hz hc ht hr1 hr3
              go_wp2
              go_quiet (fail)
              go_wp2
              go_roundw
              case rel => exact ⟨0 + 1, by omega, by go_num, HV.out, HBA.out.trans (below_draws _ _ _)⟩
              case measure => simp [intOf]; omega
          · have e2 := empty_t (s := X k) (by omega)
            have HV := Lib.hid (drB_bad (K := K) (X := X) hlt (fun x => hz x.2.1))
            clear hz hr1 hr3
            go_wp2
            go_ret
            exact ⟨by rw [HV.out]; rfl, HBA.out⟩
        · have HV := Lib.hid (drB_bad (K := K) (X := X) hlt (fun x => hr3 x.1.2))
          have d3 : decide (3 < K k) = true := by simp; omega
          clear hr1 hr3
          go_wp2
          go_ret
          exact ⟨by rw [HV.out]; rfl, HBA.out⟩
      · have HV := Lib.hid (drB_bad (K := K) (X := X) hlt (fun x => hr1 x.1.1))
        have d1 : decide (K k < 1) = true := by simp; omega
        clear hr1
        go_wp2
        go_ret
        exact ⟨by rw [HV.out]; rfl, HBA.out⟩
    · have HV := Lib.hid (drB_t (n := n) (K := K) (X := X) ⟨by omega, fun i hi => HG.out i (by omega)⟩)
      go_wp2
      go_ret
      exact ⟨by rw [HV.out]; rfl, HB.out⟩
end Go.Proofs.Ythdnhopkkgdclaa.diff
