/-
  The program's CostOf over a row of changes in memory; DiffRight and CostOf of no list. For every such row.
-/
import Derived.Test.YthdnhopkkgdclaaDiffImpl
namespace Go.Proofs.Ythdnhopkkgdclaa.diff
open Go.ChangeShapes Go.WideShapes Go.ChangeAt Go.RowKit
open Go.Proofs.Ythdnhopkkgdclaa.line
set_option maxHeartbeats 4000000 in
theorem implCost_any (g o n C : Nat) (K : Nat → Int) (X : Nat → ByteArray) (hn : n ≤ 1048576) (hX : ∀ i, i < n → (X i).size ≤ 1048576) (w : World) (hr : RowO w g o n K X) :
    Calls Try.prog 19 #[.slice (some ⟨g, o, none⟩) n C] w fun e w' => e = .returned (.int .i64 (costV n K X)) ∧ Below w.heap.size w w' := by
  have HR := Lib.hid hr
  clear hr
  cases hd : drB n K X
  · have HV := Lib.hid (show costV n K X = -1 by simp [costV, hd])
    go_enter Try.func19, Try.ntmps19
    go_wp2_with fail
    refine (implDR_any g o n C K X hn _ HR.out).mono ?_
    rintro e w1 ⟨rfl, hb⟩
    rw [hd]
    go_wp2
    go_ret
    exact ⟨by rw [HV.out]; rfl, hb⟩
  · have HV := Lib.hid (show costV n K X = (costTo K X n : Nat) by simp [costV, hd])
    have h4 := (drB_ok hd).1
    go_enter Try.func19, Try.ntmps19
    go_wp2_with fail
    refine (implDR_any g o n C K X hn _ HR.out).mono ?_
    rintro e w1 ⟨rfl, hb⟩
    rw [hd]
    have HS := Lib.hid (HR.out.below hb)
    have HB := Lib.hid hb
    clear hb
    go_wp2
    go_loopw [3, 11] (fun c i wr => ∃ k : Nat, k ≤ n ∧ i = .int .i64 k ∧ c = .int .i64 (costTo K X k : Nat) ∧ costTo K X k ≤ k * 1048576 ∧ Below w1.heap.size w1 wr) (fun _ i _ => n - (intOf i).toNat)
    case atStart => exact ⟨0, Nat.zero_le _, rfl, rfl, by simp [costTo], Below.refl _ _⟩
    case round =>
      obtain ⟨k, hk, rfl, rfl, hb, hbel⟩ := hrel
      rename World => wr
      have HS2 := Lib.hid (HS.out.below hbel)
      have hsz := hbel.size
      have HB2 := Lib.hid hbel
      clear hbel
      by_cases hlt : k < n
      · have hc := HS2.out.kind k hlt
        have ht := HS2.out.text k hlt
        have hne : g ≠ wr.heap.size := Nat.ne_of_lt (blk_lt hc)
        have hx := hX k hlt
        have HBA := Lib.hid (HB2.out.alloc hsz (.cells #[.int .i64 (K k), .string (X k)] 54))
        by_cases h1 : K k = 1
        · have e1 : (K k != 1) = false := by simp [h1]
          have HE := Lib.hid (show costTo K X (k + 1) = costTo K X k by simp [costTo, h1])
          clear h1
          go_wp2
          go_roundw
          case rel => exact ⟨k + 1, by omega, by go_num, congrArg (fun z : Nat => Value.int .i64 (z : Int)) HE.out.symm, by have := HE.out; omega, HBA.out⟩
          case measure => simp [intOf]; omega
        · have e1 : (K k != 1) = true := by simpa using h1
          have HE := Lib.hid (show costTo K X (k + 1) = costTo K X k + (X k).size by simp [costTo, h1])
          clear h1
          go_wp2
          go_roundw
          case rel => exact ⟨k + 1, by omega, by go_num, (congrArg (fun z : Nat => Value.int .i64 (z : Int)) HE.out.symm), by have := HE.out; omega, HBA.out⟩
          case measure => simp [intOf]; omega
      · have HE := Lib.hid (show costTo K X k = costTo K X n by congr 1; omega)
        go_wp2
        go_ret
        exact ⟨by rw [HV.out, ← HE.out]; rfl, bthen HB.out HB2.out HB.out.size⟩
theorem drB_nil (K : Nat → Int) (X : Nat → ByteArray) : drB 0 K X = true := drB_t ⟨by omega, fun i hi => absurd hi (by omega)⟩
theorem costV_nil (K : Nat → Int) (X : Nat → ByteArray) : costV 0 K X = 0 := by simp [costV, drB_nil, costTo]
theorem implDR_nil (w : World) :
    Calls Try.prog 17 #[.slice none 0 0] w fun e w' => e = .returned (.bool true) ∧ Below w.heap.size w w' := by
  go_enter Try.func17, Try.ntmps17
  go_wp2
  go_loopw [10] (fun i w' => i = .int .i64 0 ∧ Below w.heap.size w w') (fun _ _ => 0)
  case atStart => exact ⟨rfl, Below.refl _ _⟩
  case round =>
    obtain ⟨rfl, hbel⟩ := hrel
    go_wp2
    go_ret
    exact ⟨rfl, hbel⟩
theorem implCost_nil (w : World) :
    Calls Try.prog 19 #[.slice none 0 0] w fun e w' => e = .returned (.int .i64 0) ∧ Below w.heap.size w w' := by
  go_enter Try.func19, Try.ntmps19
  go_wp2_with fail
  refine (implDR_nil _).mono ?_
  rintro e w1 ⟨rfl, hb⟩
  have HB := Lib.hid hb
  clear hb
  go_wp2
  go_loopw [3, 11] (fun c i wr => i = .int .i64 0 ∧ c = .int .i64 0 ∧ Below w.heap.size w wr) (fun _ _ _ => 0)
  case atStart => exact ⟨rfl, rfl, HB.out⟩
  case round =>
    obtain ⟨rfl, rfl, hbel⟩ := hrel
    go_wp2
    go_ret
    exact ⟨rfl, hbel⟩
end Go.Proofs.Ythdnhopkkgdclaa.diff
