/-
  The model's DiffRight, CostOf and ApplyTo over a row of changes that begins anywhere in its block. For every such row.
-/
import Derived.Test.YtbbmobebnflboaaApply
import Derived.Test.YtbbmobebnflboaaDiffImpl
namespace Go.Proofs.Ytbbmobebnflboaa.diff
open Go.ChangeShapes Go.WideShapes Go.ChangeAt Go.RowKit
open Go.Proofs.Ytbbmobebnflboaa.line
set_option maxHeartbeats 4000000 in
theorem specDR_o (g o n C : Nat) (K : Nat → Int) (X : Nat → ByteArray) (hn : n ≤ 1048576) (w : World) (hr : RowO w g o n K X) :
    Calls Try.prog 20 #[.slice (some ⟨g, o, none⟩) n C] w fun e w' => e = .returned (.bool (drB n K X)) ∧ Below w.heap.size w w' := by
  have HR := Lib.hid hr
  clear hr
  by_cases h4 : (400 : Int) < n
  · have HF := Lib.hid (drB_f (n := n) (K := K) (X := X) (by omega))
    go_enter Try.func20, Try.ntmps20
    go_wp2
    go_ret
    exact ⟨by rw [HF.out]; rfl, Below.refl _ _⟩
  go_enter Try.func20, Try.ntmps20
  go_wp2
  go_loopw [3] (fun i w' => ∃ k : Nat, k ≤ n ∧ i = .int .i64 k ∧ GoodTo K X k ∧ Below w.heap.size w w') (fun i _ => n - (intOf i).toNat)
  case atStart => exact ⟨0, Nat.zero_le _, rfl, fun _ h => absurd h (by omega), Below.refl _ _⟩
  case round =>
    obtain ⟨k, hk, rfl, HG, hbel⟩ := hrel
    rename World => wr
    have HS := Lib.hid (HR.out.below hbel)
    have HB := Lib.hid hbel
    have HG := Lib.hid HG
    clear hbel
    by_cases hlt : k < n
    · have hc := HS.out.kind k hlt
      have ht := HS.out.text k hlt
      by_cases hr1 : 1 ≤ K k ∧ K k ≤ 3
      · by_cases hz : 1 ≤ (X k).size
        · have e2 := empty_f hz
          by_cases hk0 : 0 < k
          · obtain ⟨m, rfl⟩ : ∃ m, k = m + 1 := ⟨k - 1, by omega⟩
            have hc0 := HS.out.kind m (by omega)
            have e1 : (decide (1 ≤ K (m + 1)) && decide (K (m + 1) ≤ 3)) = true := by simp [hr1]
            have ed : decide (0 < m + 1) = true := by simp
            have b1 : (0 : Int) ≤ (m : Int) + 1 := by omega
            have b2 : (m : Int) + 1 < n := by omega
            have b3 : IntKind.i64.wrap ((m : Int) + 1 - 1) = m := by rw [IntWalk.i64_in _ (by omega)]; omega
            have b6 : IntKind.i64.wrap (m : Int) = m := IntWalk.i64_in _ (by omega)
            have b7 : (0 : Int) ≤ m := by omega
            have b4 : (m : Int) < n := by omega
            have b5 : ((m : Int) + 1).toNat = m + 1 := by omega
            by_cases he : K m = K (m + 1)
            · have e3 : (K m == K (m + 1)) = true := by simpa using he
              have HV := Lib.hid (drB_bad (K := K) (X := X) hlt (fun x => x.2.2 hk0 (by simpa using he)))
              clear he hr1 hz
              go_wp2
              go_quiet (first | (go_at_call 42; refine Calls.quiet_of_same (is_of _ _ _ _ _ e1)))
              go_wp2
              go_ret
              exact ⟨by rw [HV.out]; rfl, HB.out.trans (below_draws _ _ _)⟩
            · have e3 : (K m == K (m + 1)) = false := by simpa using he
              have HV := Lib.hid (HG.out.succ ⟨hr1, hz, fun _ => by simpa using he⟩)
              clear he hr1 hz
              go_wp2
              go_quiet (first | (go_at_call 42; refine Calls.quiet_of_same (is_of _ _ _ _ _ e1)))
              go_wp2
              go_roundw
              case rel => exact ⟨m + 1 + 1, by omega, by go_num, HV.out, HB.out.trans (below_draws _ _ _)⟩
              case measure => simp [intOf]; omega
          · obtain rfl : k = 0 := by omega
            have e1 : (decide (1 ≤ K 0) && decide (K 0 ≤ 3)) = true := by simp [hr1]
            have hc' : wr.cell? ⟨g, o, none⟩ = some (.int .i64 (K 0)) := hc
            have ht' : wr.cell? ⟨g, o + 1, none⟩ = some (.string (X 0)) := ht
            have HV := Lib.hid (HG.out.succ ⟨hr1, hz, fun x => absurd x hk0⟩)
            clear hr1 hz hc ht
            go_wp2
            go_quiet (first | (go_at_call 42; refine Calls.quiet_of_same (is_of _ _ _ _ _ e1)))
            go_wp2
            go_roundw
            case rel => exact ⟨0 + 1, by omega, by go_num, HV.out, HB.out.trans (below_draws _ _ _)⟩
            case measure => simp [intOf]; omega
        · have e1 : (decide (1 ≤ K k) && decide (K k ≤ 3)) = true := by simp [hr1]
          have e2 := empty_t (s := X k) (by omega)
          have HV := Lib.hid (drB_bad (K := K) (X := X) hlt (fun x => hz x.2.1))
          clear hr1 hz
          go_wp2
          go_quiet (first | (go_at_call 42; refine Calls.quiet_of_same (is_of _ _ _ _ _ e1)))
          go_wp2
          go_ret
          exact ⟨by rw [HV.out]; rfl, HB.out.trans (below_draws _ _ _)⟩
      · have e1 : (decide (1 ≤ K k) && decide (K k ≤ 3)) = false := by
          apply Bool.eq_false_iff.2; simpa using fun x => Int.lt_of_not_ge fun y => hr1 ⟨x, y⟩
        have HV := Lib.hid (drB_bad (K := K) (X := X) hlt (fun x => hr1 x.1))
        clear hr1
        go_wp2
        go_quiet (first | (go_at_call 42; refine Calls.quiet_of_same (is_of _ _ _ _ _ e1)))
        go_wp2
        go_ret
        exact ⟨by rw [HV.out]; rfl, HB.out.trans (below_draws _ _ _)⟩
    · have HV := Lib.hid (drB_t (n := n) (K := K) (X := X) ⟨by omega, fun i hi => HG.out i (by omega)⟩)
      go_wp2
      go_ret
      exact ⟨by rw [HV.out]; rfl, HB.out⟩
set_option maxHeartbeats 800000 in
theorem specCost_o (g o n C : Nat) (K : Nat → Int) (X : Nat → ByteArray) (hn : n ≤ 1048576) (hX : ∀ i, i < n → (X i).size ≤ 1048576) (w : World) (hr : RowO w g o n K X) :
    Calls Try.prog 22 #[.slice (some ⟨g, o, none⟩) n C] w fun e w' => e = .returned (.int .i64 (costV n K X)) ∧ Below w.heap.size w w' := by
  have HR := Lib.hid hr
  clear hr
  cases hd : drB n K X
  · have HV := Lib.hid (show costV n K X = -1 by simp [costV, hd])
    go_enter Try.func22, Try.ntmps22
    go_wp2_with fail
    refine (specDR_o g o n C K X hn _ HR.out).mono ?_
    rintro e w1 ⟨rfl, hb⟩
    rw [hd]
    go_wp2
    go_ret
    exact ⟨by rw [HV.out]; rfl, hb⟩
  · have HV := Lib.hid (show costV n K X = (costTo K X n : Nat) by simp [costV, hd])
    have h4 := (drB_ok hd).1
    go_enter Try.func22, Try.ntmps22
    go_wp2_with fail
    refine (specDR_o g o n C K X hn _ HR.out).mono ?_
    rintro e w1 ⟨rfl, hb⟩
    rw [hd]
    have HS := Lib.hid (HR.out.below hb)
    have HB := Lib.hid hb
    clear hb
    go_wp2
    go_loop [3, 4] (fun c i => ∃ k : Nat, k ≤ n ∧ i = .int .i64 k ∧ c = .int .i64 (costTo K X k : Nat) ∧ costTo K X k ≤ k * 1048576) (fun _ i => n - (intOf i).toNat)
    case atStart => exact ⟨0, Nat.zero_le _, rfl, rfl, by simp [costTo]⟩
    case round =>
      obtain ⟨k, hk, rfl, rfl, hb⟩ := hrel
      by_cases hlt : k < n
      · have hc := HS.out.kind k hlt
        have ht := HS.out.text k hlt
        have hx := hX k hlt
        by_cases h1 : K k = 1
        · have e1 : (K k != 1) = false := by simp [h1]
          have HE := Lib.hid (show costTo K X (k + 1) = costTo K X k by simp [costTo, h1])
          clear h1
          go_wp2
          go_round
          case rel => exact ⟨k + 1, by omega, by go_num, congrArg (fun z : Nat => Value.int .i64 (z : Int)) HE.out.symm, by have := HE.out; omega⟩
          case measure => simp [intOf]; omega
        · have e1 : (K k != 1) = true := by simpa using h1
          have HE := Lib.hid (show costTo K X (k + 1) = costTo K X k + (X k).size by simp [costTo, h1])
          clear h1
          go_wp2
          go_round
          case rel => exact ⟨k + 1, by omega, by go_num, (congrArg (fun z : Nat => Value.int .i64 (z : Int)) HE.out.symm), by have := HE.out; omega⟩
          case measure => simp [intOf]; omega
      · obtain rfl : k = n := by omega
        go_wp2
        go_ret
        exact ⟨by rw [HV.out]; rfl, HB.out⟩
set_option maxHeartbeats 4000000 in
theorem specApply_o (a : ByteArray) (g o n C : Nat) (K : Nat → Int) (X : Nat → ByteArray) (ha : a.size ≤ maxLen) (hn : n ≤ 1048576) (hX : ∀ i, i < n → (X i).size ≤ 1048576) (w : World) (hr : RowO w g o n K X) :
    Calls Try.prog 18 #[.string a, .slice (some ⟨g, o, none⟩) n C] w fun e w' => e = .returned (applyV a n K X) ∧ Below w.heap.size w w' := by
  have HA := Lib.hid ha
  have HR := Lib.hid hr
  clear hr
  unfold maxLen at ha
  by_cases h8 : (8000 : Int) < a.size
  · have HV := Lib.hid (show applyV a n K X = illO 2 by unfold applyV; rw [if_pos (.inl (by omega))])
    go_enter Try.func18, Try.ntmps18
    go_wp2_with fail
    refine (ill_any _ _).mono ?_
    rintro e wi ⟨rfl, hbi⟩
    obtain ⟨i1, i2⟩ := keepC hbi (g := w.heap.size) (by simp)
    have HBI := Lib.hid (bthen ((Below.refl _ w).alloc (Nat.le_refl _) _) hbi (by simp))
    clear hbi
    go_wp2
    exact bodyPost_ret (v := illO 2) (by simp [results, Try.results18, go_sem, i1, illO]) rfl
      ⟨by rw [HV.out], by repeat (first | exact HBI.out | refine Below.setCell (B := w.heap.size) (p := ⟨w.heap.size, _, none⟩) ?_ (Nat.le_refl _) _)⟩
  by_cases h4 : (400 : Int) < n
  · have HV := Lib.hid (show applyV a n K X = illO 2 by unfold applyV; rw [if_pos (.inr (by omega))])
    go_enter Try.func18, Try.ntmps18
    go_wp2_with fail
    refine (ill_any _ _).mono ?_
    rintro e wi ⟨rfl, hbi⟩
    obtain ⟨i1, i2⟩ := keepC hbi (g := w.heap.size) (by simp)
    have HBI := Lib.hid (bthen ((Below.refl _ w).alloc (Nat.le_refl _) _) hbi (by simp))
    clear hbi
    go_wp2
    exact bodyPost_ret (v := illO 2) (by simp [results, Try.results18, go_sem, i1, illO]) rfl
      ⟨by rw [HV.out], by repeat (first | exact HBI.out | refine Below.setCell (B := w.heap.size) (p := ⟨w.heap.size, _, none⟩) ?_ (Nat.le_refl _) _)⟩
  have hbig : ¬ (8000 < a.size ∨ 400 < n) := by omega
  have HR1 := Lib.hid (HR.out.below ((Below.refl _ w).alloc (Nat.le_refl _) (.cells #[.string ⟨#[]⟩, .int .i64 0, .string ⟨#[]⟩, .int .i64 0] 33)))
  cases ht : textB a
  · have HV := Lib.hid (show applyV a n K X = illO 1 by unfold applyV; rw [if_neg hbig, if_pos (.inl ht)])
    clear hbig
    go_enter Try.func18, Try.ntmps18
    go_wp2_with fail
    refine (specRight_any _ HA.out _).mono ?_
    rintro e wx ⟨rfl, rfl⟩
    rw [ht]
    go_wp2_with fail
    refine (ill_any _ _).mono ?_
    rintro e wi ⟨rfl, hbi⟩
    obtain ⟨i1, i2⟩ := keepC hbi (g := w.heap.size) (by simp)
    have HBI := Lib.hid (bthen ((Below.refl _ w).alloc (Nat.le_refl _) _) hbi (by simp))
    clear hbi
    go_wp2
    exact bodyPost_ret (v := illO 1) (by simp [results, Try.results18, go_sem, i1, illO]) rfl
      ⟨by rw [HV.out], by repeat (first | exact HBI.out | refine Below.setCell (B := w.heap.size) (p := ⟨w.heap.size, _, none⟩) ?_ (Nat.le_refl _) _)⟩
  cases hd : drB n K X
  · have HV := Lib.hid (show applyV a n K X = illO 1 by unfold applyV; rw [if_neg hbig, if_pos (.inr hd)])
    clear hbig
    go_enter Try.func18, Try.ntmps18
    go_wp2_with fail
    refine (specRight_any _ HA.out _).mono ?_
    rintro e wx ⟨rfl, rfl⟩
    rw [ht]
    go_wp2_with fail
    refine (specDR_o g o n C K X (by omega) _ HR1.out).mono ?_
    rintro e w1 ⟨rfl, hb1⟩
    rw [hd]
    obtain ⟨k1, k2⟩ := keepC hb1 (g := w.heap.size) (by simp)
    have hs1 : w.heap.size < w1.heap.size := by have := hb1.size; simp at this; omega
    have HR2 := Lib.hid (HR1.out.below hb1)
    have HB1 := Lib.hid (bthen ((Below.refl _ w).alloc (Nat.le_refl _) _) hb1 (by simp))
    clear hb1
    go_wp2_with fail
    refine (ill_any _ _).mono ?_
    rintro e wi ⟨rfl, hbi⟩
    obtain ⟨i1, i2⟩ := keepC hbi (g := w.heap.size) hs1
    have HBI := Lib.hid (bthen HB1.out hbi (by omega))
    clear hbi
    go_wp2
    exact bodyPost_ret (v := illO 1) (by simp [results, Try.results18, go_sem, i1, k1, illO]) rfl
      ⟨by rw [HV.out], by repeat (first | exact HBI.out | refine Below.setCell (B := w.heap.size) (p := ⟨w.heap.size, _, none⟩) ?_ (Nat.le_refl _) _)⟩
  have hgood := Lib.hid (drB_ok hd).2
  have hno : ¬ (textB a = false ∨ drB n K X = false) := by rw [ht, hd]; simp
  go_enter Try.func18, Try.ntmps18
  go_wp2_with fail
  refine (specRight_any _ HA.out _).mono ?_
  rintro e wx ⟨rfl, rfl⟩
  rw [ht]
  go_wp2_with fail
  refine (specDR_o g o n C K X (by omega) _ HR1.out).mono ?_
  rintro e w1 ⟨rfl, hb1⟩
  rw [hd]
  obtain ⟨k1, k2⟩ := keepC hb1 (g := w.heap.size) (by simp)
  have hs1 : w.heap.size < w1.heap.size := by have := hb1.size; simp at this; omega
  have HR2 := Lib.hid (HR1.out.below hb1)
  have HB1 := Lib.hid (bthen ((Below.refl _ w).alloc (Nat.le_refl _) _) hb1 (by simp))
  clear hb1
  go_wp2
  clear HR1 h8 h4
  go_loop [5, 6, 7, 8] (fun s5 s6 s7 s8 => ∃ k : Nat, k ≤ n ∧ s8 = .int .i64 k ∧ s5 = .string (wasTo K X k) ∧ s6 = .string (isTo K X k) ∧ s7 = .int .i64 (atTo K X k) ∧ (wasTo K X k).size ≤ k * 1048576 ∧ (isTo K X k).size ≤ k * 1048576) (fun _ _ _ i => n - (intOf i).toNat)
  case atStart => exact ⟨0, Nat.zero_le _, rfl, rfl, rfl, rfl, Nat.le_refl 0, Nat.le_refl 0⟩
  case round =>
    obtain ⟨k, hk, rfl, rfl, rfl, rfl, hw5, hw6⟩ := hrel
    by_cases hlt : k < n
    · have hc := HR2.out.kind k hlt
      have hx := HR2.out.text k hlt
      have hz := hX k hlt
      have hk3 := (hgood.out k hlt).1
      have z1 : ¬ 9223372036854775807 < (wasTo K X k).size + (X k).size := by omega
      have z2 : ¬ 9223372036854775807 < (isTo K X k).size + (X k).size := by omega
      have hcase : K k = 1 ∨ K k = 2 ∨ K k = 3 := by omega
      clear hk3
      rcases hcase with hk1 | hk1 | hk1
      · have e1 : (K k != 3) = true := by simp [hk1]
        have e2 : (K k != 2) = true := by simp [hk1]
        have e3 : (K k != 1) = false := by simp [hk1]
        have HW := Lib.hid (show wasTo K X (k + 1) = wasTo K X k ++ X k by simp only [wasTo]; rw [if_neg (by omega)])
        have HI := Lib.hid (show isTo K X (k + 1) = isTo K X k ++ X k by simp only [isTo]; rw [if_neg (by omega)])
        have HT := Lib.hid (show atTo K X (k + 1) = atTo K X k by simp only [atTo]; rw [if_pos hk1])
        clear hk1
        go_wp2
        go_round
        case rel => exact ⟨k + 1, by omega, by go_num, congrArg Value.string HW.out.symm, congrArg Value.string HI.out.symm, congrArg (Value.int .i64) HT.out.symm, by have q := congrArg ByteArray.size HW.out; rw [ByteArray.size_append] at q; omega, by have q := congrArg ByteArray.size HI.out; rw [ByteArray.size_append] at q; omega⟩
        case measure => simp [intOf]; omega
      · have e1 : (K k != 3) = true := by simp [hk1]
        have e2 : (K k != 2) = false := by simp [hk1]
        have e3 : (K k != 1) = true := by simp [hk1]
        have HW := Lib.hid (show wasTo K X (k + 1) = wasTo K X k ++ X k by simp only [wasTo]; rw [if_neg (by omega)])
        have HI := Lib.hid (show isTo K X (k + 1) = isTo K X k by simp only [isTo]; rw [if_pos hk1])
        have HT := Lib.hid (show atTo K X (k + 1) = ((isTo K X k).size : Int) by simp only [atTo, isTo]; rw [if_neg (by omega), if_pos hk1])
        clear hk1
        go_wp2
        go_round
        case rel => exact ⟨k + 1, by omega, by go_num, congrArg Value.string HW.out.symm, congrArg Value.string HI.out.symm, congrArg (Value.int .i64) HT.out.symm, by have q := congrArg ByteArray.size HW.out; rw [ByteArray.size_append] at q; omega, by have q := congrArg ByteArray.size HI.out; omega⟩
        case measure => simp [intOf]; omega
      · have e1 : (K k != 3) = false := by simp [hk1]
        have e2 : (K k != 2) = true := by simp [hk1]
        have e3 : (K k != 1) = true := by simp [hk1]
        have HW := Lib.hid (show wasTo K X (k + 1) = wasTo K X k by simp only [wasTo]; rw [if_pos hk1])
        have HI := Lib.hid (show isTo K X (k + 1) = isTo K X k ++ X k by simp only [isTo]; rw [if_neg (by omega)])
        have HT := Lib.hid (show atTo K X (k + 1) = ((isTo K X k).size : Int) + (X k).size by simp only [atTo, isTo]; rw [if_neg (by omega), if_neg (by omega), ByteArray.size_append]; omega)
        clear hk1
        go_wp2
        go_round
        case rel => exact ⟨k + 1, by omega, by go_num, congrArg Value.string HW.out.symm, congrArg Value.string HI.out.symm, congrArg (Value.int .i64) HT.out.symm, by have q := congrArg ByteArray.size HW.out; omega, by have q := congrArg ByteArray.size HI.out; rw [ByteArray.size_append] at q; omega⟩
        case measure => simp [intOf]; omega
    · obtain rfl : k = n := by omega
      obtain ⟨Wt, hWt⟩ : ∃ z, z = wasTo K X k := ⟨_, rfl⟩
      obtain ⟨It, hIt⟩ : ∃ z, z = isTo K X k := ⟨_, rfl⟩
      obtain ⟨At, hAt⟩ : ∃ z, z = atTo K X k := ⟨_, rfl⟩
      have hge := atTo_ge K X k
      rw [← hAt] at hge
      rw [← hWt] at hw5
      rw [← hIt] at hw6
      rw [← hWt, ← hIt, ← hAt]
      by_cases hwa : Wt = a
      · have hq := beq_toList_t hwa
        have HWA := Lib.hid hwa
        clear hwa
        have HII := Lib.hid (show It.size ≤ maxLen by unfold maxLen; omega)
        cases hti : textB It
        · have HV := Lib.hid (show applyV a k K X = illO 9 by unfold applyV; rw [if_neg hbig, if_neg hno, if_neg (by rw [← hWt]; simpa using HWA.out), if_pos (by rw [← hIt]; exact hti)])
          clear hbig hno hWt hIt hAt
          go_wp2_with fail
          refine (specRight_any _ HII.out _).mono ?_
          rintro e wx ⟨rfl, rfl⟩
          rw [hti]
          go_wp2_with fail
          refine (ill_any _ _).mono ?_
          rintro e wi ⟨rfl, hbi⟩
          obtain ⟨i1, i2⟩ := keepC hbi (g := w.heap.size) hs1
          have HBI := Lib.hid (bthen HB1.out hbi (by omega))
          clear hbi
          go_wp2
          exact bodyPost_ret (v := illO 9) (by simp [results, Try.results18, go_sem, i1, k1, illO]) rfl
            ⟨by rw [HV.out], by repeat (first | exact HBI.out | refine Below.setCell (B := w.heap.size) (p := ⟨w.heap.size, _, none⟩) ?_ (Nat.le_refl _) _)⟩
        · by_cases hA : At < 0
          · have HV := Lib.hid (show applyV a k K X = .agg #[.string It, .int .i64 (It.size : Int), .string ⟨#[]⟩, .int .i64 0] by unfold applyV; rw [if_neg hbig, if_neg hno, if_neg (by rw [← hWt]; simpa using HWA.out), if_neg (by rw [← hIt, hti]; simp), if_pos (by rw [← hAt]; exact hA), ← hIt])
            clear hbig hno hWt hIt hAt
            go_wp2_with fail
            refine (specRight_any _ HII.out _).mono ?_
            rintro e wx ⟨rfl, rfl⟩
            rw [hti]
            go_wp2
            exact bodyPost_ret (v := .agg #[.string It, .int .i64 (It.size : Int), .string ⟨#[]⟩, .int .i64 0]) (by simp [results, Try.results18, go_sem, k1]) rfl
              ⟨by rw [HV.out], by repeat (first | exact HB1.out | refine Below.setCell (B := w.heap.size) (p := ⟨w.heap.size, _, none⟩) ?_ (Nat.le_refl _) _)⟩
          · have HV := Lib.hid (show applyV a k K X = .agg #[.string It, .int .i64 At, .string ⟨#[]⟩, .int .i64 0] by unfold applyV; rw [if_neg hbig, if_neg hno, if_neg (by rw [← hWt]; simpa using HWA.out), if_neg (by rw [← hIt, hti]; simp), if_neg (by rw [← hAt]; exact hA), ← hIt, ← hAt])
            clear hbig hno hWt hIt hAt
            go_wp2_with fail
            refine (specRight_any _ HII.out _).mono ?_
            rintro e wx ⟨rfl, rfl⟩
            rw [hti]
            go_wp2
            exact bodyPost_ret (v := .agg #[.string It, .int .i64 At, .string ⟨#[]⟩, .int .i64 0]) (by simp [results, Try.results18, go_sem, k1]) rfl
              ⟨by rw [HV.out], by repeat (first | exact HB1.out | refine Below.setCell (B := w.heap.size) (p := ⟨w.heap.size, _, none⟩) ?_ (Nat.le_refl _) _)⟩
      · have hq := beq_toList_f hwa
        have HV := Lib.hid (show applyV a k K X = illO 10 by unfold applyV; rw [if_neg hbig, if_neg hno, if_pos (by rw [← hWt]; exact hwa)])
        clear hwa hbig hno hWt hIt hAt
        go_wp2_with fail
        refine (ill_any _ _).mono ?_
        rintro e wi ⟨rfl, hbi⟩
        obtain ⟨i1, i2⟩ := keepC hbi (g := w.heap.size) hs1
        have HBI := Lib.hid (bthen HB1.out hbi (by omega))
        clear hbi
        go_wp2
        exact bodyPost_ret (v := illO 10) (by simp [results, Try.results18, go_sem, i1, k1, illO]) rfl
          ⟨by rw [HV.out], by repeat (first | exact HBI.out | refine Below.setCell (B := w.heap.size) (p := ⟨w.heap.size, _, none⟩) ?_ (Nat.le_refl _) _)⟩
end Go.Proofs.Ytbbmobebnflboaa.diff
