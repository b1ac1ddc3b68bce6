/-
  The program's ApplyTo: its answer, for every text and every row of changes in memory.
-/
import Derived.Test.YthdnhopkkgdclaaApplyMath
import Derived.Test.YthdnhopkkgdclaaCostImpl
import Derived.Test.YthdnhopkkgdclaaJoin
import Derived.Test.YthdnhopkkgdclaaShelf
namespace Go.Proofs.Ythdnhopkkgdclaa.diff
open Go.ChangeShapes Go.WideShapes Go.ChangeAt Go.RowKit
open Go.Proofs.Ythdnhopkkgdclaa.line Go.Proofs.Ythdnhopkkgdclaa.join
set_option maxHeartbeats 4000000 in
theorem comesOf_any (a : ByteArray) (g o n C : Nat) (K : Nat → Int) (X : Nat → ByteArray) (hn : n ≤ 400) (w : World) (hr : RowO w g o n K X) :
    Calls Try.prog 34 #[.string a, .slice (some ⟨g, o, none⟩) n C] w fun e w' => e = .returned (.bool (open Classical in decide (wasTo K X n = a))) ∧ Below w.heap.size w w' := by
  have HR := Lib.hid hr
  clear hr
  go_enter Try.func34, Try.ntmps34
  go_wp2
  go_loopw [5, 13] (fun r i wr => ∃ (k : Nat) (R : ByteArray), k ≤ n ∧ i = .int .i64 k ∧ r = .string R ∧ a.data.toList = (wasTo K X k).data.toList ++ R.data.toList ∧ Below w.heap.size w wr) (fun _ i _ => n - (intOf i).toNat)
  case atStart => exact ⟨0, a, Nat.zero_le _, rfl, rfl, by simp [wasTo, emptyB], Below.refl _ _⟩
  case round =>
    obtain ⟨k, R, hk, rfl, rfl, hR, hbel⟩ := hrel
    rename World => wr
    have HS := Lib.hid (HR.out.below hbel)
    have HB := Lib.hid hbel
    have HRR := Lib.hid hR
    have hsz := hbel.size
    clear hbel hR
    by_cases hlt : k < n
    · have hc := HS.out.kind k hlt
      have ht := HS.out.text k hlt
      have hne : g ≠ wr.heap.size := Nat.ne_of_lt (blk_lt hc)
      have HBA := Lib.hid (HB.out.alloc hsz (.cells #[.int .i64 (K k), .string (X k)] 54))
      by_cases h3 : K k = 3
      · have e1 : (K k == 3) = true := by simp [h3]
        have HW := Lib.hid (show wasTo K X (k + 1) = wasTo K X k by simp only [wasTo]; rw [if_pos h3])
        clear h3
        go_wp2
        go_roundw
        case rel => exact ⟨k + 1, R, by omega, by go_num, rfl, by rw [HW.out]; exact HRR.out, HBA.out⟩
        case measure => simp [intOf]; omega
      · have e1 : (K k == 3) = false := by simpa using h3
        obtain ⟨p, hp⟩ : ∃ p, p = X k := ⟨_, rfl⟩
        cases hh : Lib.hasPrefix R.data.toList p.data.toList
        · have HV := Lib.hid (rest_miss HRR.out h3 hlt hp hh)
          rw [← hp] at ht
          have HH := Lib.hid hh
          clear h3 hh
          go_wp2_with fail
          refine (Try.strings_CutPrefix R _ _).mono ?_
          rintro e w2 ⟨rfl, rfl⟩
          rw [← hp, HH.out]
          go_wp2
          go_ret
          exact ⟨by simp [HV.out], HBA.out⟩
        · have HV := Lib.hid (rest_hit HRR.out h3 hp hh)
          rw [← hp] at ht
          have HH := Lib.hid hh
          clear h3 hh
          obtain ⟨Y, hY⟩ : ∃ Y : ByteArray, Y = ⟨(Lib.trimPrefix R.data.toList p.data.toList).toArray⟩ := ⟨_, rfl⟩
          have HY := Lib.hid (show a.data.toList = (wasTo K X (k + 1)).data.toList ++ Y.data.toList by rw [hY]; simpa using HV.out)
          go_wp2_with fail
          refine (Try.strings_CutPrefix R _ _).mono ?_
          rintro e w2 ⟨rfl, rfl⟩
          rw [← hp, HH.out, ← hY]
          clear hY
          go_wp2
          go_roundw
          case rel => exact ⟨k + 1, Y, by omega, by go_num, rfl, HY.out, HBA.out⟩
          case measure => simp [intOf]; omega
    · obtain rfl : k = n := by omega
      have HE := Lib.hid (show R.toList.isEmpty = (open Classical in decide (wasTo K X k = a)) by
        have h1 : R.toList = R.data.toList := ByteArray.toList_eq R
        by_cases h : wasTo K X k = a
        · have := HRR.out
          rw [← h] at this
          have h2 : R.data.toList = [] := by simpa using this
          rw [h1, h2]; simp [h]
        · rw [h1]
          simp only [h, decide_false]
          cases hl : R.data.toList with
          | nil => exact absurd (ba_ext (by rw [HRR.out, hl]; simp)) h
          | cons _ _ => rfl)
      go_wp2
      go_ret
      refine ⟨?_, HB.out⟩
      show Ending.returned (Value.bool R.toList.isEmpty) = _
      rw [HE.out]
def outO (s : ByteArray) (i : Int) : Value := .agg #[.string s, .int .i64 i, .string ⟨#[]⟩, .int .i64 0]
theorem textB_empty : textB emptyB = true := textB_t ⟨by simp [emptyB, ByteArray.size], fun i hi _ => absurd hi (by simp [emptyB, ByteArray.size])⟩
noncomputable def madeV (n : Nat) (K : Nat → Int) (X : Nat → ByteArray) : Value :=
  if textB (isTo K X n) = false then illO 9 else outO (isTo K X n) (if atTo K X n < 0 then ((isTo K X n).size : Int) else atTo K X n)
theorem store_bel {w w' : World} {o : Nat} {v : Value} (h : Below w.heap.size w w') : Below w.heap.size w (w'.setCell ⟨w.heap.size, o, none⟩ v) := h.setCell (p := ⟨w.heap.size, o, none⟩) (Nat.le_refl _) _
set_option maxHeartbeats 4000000 in
theorem made_any (g o n C : Nat) (K : Nat → Int) (X : Nat → ByteArray) (hn : n ≤ 400) (hX : ∀ i, i < n → (X i).size ≤ 1048576) (w : World) (hr : RowO w g o n K X) :
    Calls Try.prog 35 #[.slice (some ⟨g, o, none⟩) n C] w fun e w' => e = .returned (madeV n K X) ∧ Below w.heap.size w w' := by
  have HR := Lib.hid hr
  have HXX := Lib.hid hX
  clear hr hX
  obtain ⟨O, hO⟩ : ∃ O, O = Obj.cells #[.string ⟨#[]⟩, .int .i64 0, .string ⟨#[]⟩, .int .i64 0] 33 := ⟨_, rfl⟩
  go_enter Try.func35, Try.ntmps35
  go_wp2
  go_loopw [3, 4, 9] (fun t p i wr => ∃ (k : Nat) (T : ByteArray) (at_ : Int), k ≤ n ∧ i = .int .i64 k ∧ t = .string T ∧ T = isTo K X k ∧ textB T = true ∧ p = .int .i64 at_ ∧ at_ = atTo K X k ∧ Below w.heap.size w wr ∧ w.heap.size < wr.heap.size ∧
      (∀ o, wr.cell? ⟨w.heap.size, o, none⟩ = (w.alloc O).cell? ⟨w.heap.size, o, none⟩) ∧ (∀ o, wr.frozen? ⟨w.heap.size, o, none⟩ = (w.alloc O).frozen? ⟨w.heap.size, o, none⟩))
    (fun _ _ i _ => n - (intOf i).toNat)
  case atStart => exact ⟨0, emptyB, -1, Nat.zero_le _, rfl, rfl, rfl, textB_empty, rfl, rfl, (Below.refl _ _).alloc (Nat.le_refl _) _, by simp, by rw [hO]; exact fun _ => rfl, by rw [hO]; exact fun _ => rfl⟩
  case round =>
    obtain ⟨k, T, at_, hk, rfl, rfl, hT, htt, rfl, hat, hbel, hs, q1, q2⟩ := hrel
    rename World => wr
    have HS := Lib.hid (HR.out.below hbel)
    have HB := Lib.hid hbel
    have HT := Lib.hid hT
    have HTT := Lib.hid htt
    have HAT := Lib.hid hat
    have hts := (textB_ok htt).1
    have hsz := hbel.size
    clear hbel hT htt hat
    by_cases hlt : k < n
    · have hc := HS.out.kind k hlt
      have ht := HS.out.text k hlt
      have hx := HXX.out k hlt
      have hne : g ≠ wr.heap.size := Nat.ne_of_lt (blk_lt hc)
      have hne2 : w.heap.size ≠ wr.heap.size := Nat.ne_of_lt hs
      have hs2 : w.heap.size < wr.heap.size + 1 := by omega
      have HBA := Lib.hid (HB.out.alloc hsz (.cells #[.int .i64 (K k), .string (X k)] 54))
      obtain ⟨p1, p2⟩ := keepC ((Below.refl _ wr).alloc (Nat.le_refl _) (.cells #[.int .i64 (K k), .string (X k)] 54)) hs
      by_cases h2 : K k = 2
      · have e1 : (K k != 2) = false := by simp [h2]
        have e2 : (K k != 1) = true := by simp [h2]
        have HI := Lib.hid (show isTo K X (k + 1) = isTo K X k by simp only [isTo]; rw [if_pos h2])
        have HA := Lib.hid (show atTo K X (k + 1) = (T.size : Int) by simp only [atTo, isTo]; rw [if_neg (by omega), if_pos h2, HT.out])
        clear h2
        go_wp2_with fail
        refine (implRight_any T (by unfold maxLen; omega) _).mono ?_
        rintro e w2 ⟨rfl, hb2⟩
        rw [HTT.out]
        have hc2 := (hb2.cell (p := ⟨wr.heap.size, 0, none⟩) (by simp)).trans (show (wr.alloc (.cells #[.int .i64 (K k), .string (X k)] 54)).cell? ⟨wr.heap.size, 0, none⟩ = some (.int .i64 (K k)) by simp [World.cell?_alloc_mark])
        obtain ⟨r1, r2⟩ := keepC hb2 (g := w.heap.size) (by simp; omega)
        have hz2 := hb2.size
        have HB2 := Lib.hid (bthen HBA.out hb2 (by simp; omega))
        clear hb2
        go_wp2
        go_roundw
        case rel => exact ⟨k + 1, T, _, by omega, by go_num, rfl, by rw [HI.out]; exact HT.out, HTT.out, rfl, HA.out.symm, HB2.out, by simp at hz2; omega, fun o => by rw [r1, p1, q1], fun o => by rw [r2, p2, q2]⟩
        case measure => simp [intOf]; omega
      · have e1 : (K k != 2) = true := by simpa using h2
        have HI := Lib.hid (show isTo K X (k + 1) = T ++ X k by simp only [isTo]; rw [if_neg h2, HT.out])
        obtain ⟨T2, hT2⟩ : ∃ T2, T2 = T ++ X k := ⟨_, rfl⟩
        have hT2s : T2.size = T.size + (X k).size := by rw [hT2, ByteArray.size_append]
        have HT2 := Lib.hid hT2
        clear hT2
        go_wp2_with fail
        refine (joined_any T (X k) (by omega) (by omega) _).mono ?_
        rintro e w2 ⟨rfl, hb2⟩
        rw [← HT2.out]
        have hc2 := (hb2.cell (p := ⟨wr.heap.size, 0, none⟩) (by simp)).trans (show (wr.alloc (.cells #[.int .i64 (K k), .string (X k)] 54)).cell? ⟨wr.heap.size, 0, none⟩ = some (.int .i64 (K k)) by simp [World.cell?_alloc_mark])
        obtain ⟨r1, r2⟩ := keepC hb2 (g := w.heap.size) (by simp; omega)
        have hz2 := hb2.size
        have hwr2 : wr.heap.size < w2.heap.size := by simp at hz2; omega
        have hw2 : w.heap.size < w2.heap.size := by omega
        have HB2 := Lib.hid (bthen HBA.out hb2 (by simp; omega))
        clear hb2
        go_wp2_with fail
        refine (implRight_any T2 (by unfold maxLen; omega) _).mono ?_
        rintro e w3 ⟨rfl, hb3⟩
        have hc3 := (hb3.cell (p := ⟨wr.heap.size, 0, none⟩) hwr2).trans hc2
        obtain ⟨s1, s2⟩ := keepC hb3 (g := w.heap.size) hw2
        have hz3 := hb3.size
        have HB3 := Lib.hid (bthen HB2.out hb3 (by omega))
        clear hb3
        cases ht2 : textB T2
        · have HV := Lib.hid (show madeV n K X = illO 9 by
            unfold madeV
            obtain ⟨t, ht⟩ := isTo_more K X (k + 1) (n - (k + 1))
            rw [show k + 1 + (n - (k + 1)) = n from by omega] at ht
            rw [if_pos (textB_front ht (by rw [HI.out, ← HT2.out]; exact ht2))])
          go_wp2
          exact bodyPost_ret (v := illO 9) (by simp [results, Try.results35, go_sem, s1, r1, p1, q1, hO, illO]) rfl ⟨by rw [HV.out], by repeat (first | exact HB3.out | refine store_bel ?_)⟩
        · by_cases h1 : K k = 1
          · have e2 : (K k != 1) = false := by simp [h1]
            have HA := Lib.hid (show atTo K X (k + 1) = at_ by simp only [atTo]; rw [if_pos h1]; exact HAT.out.symm)
            clear h1 h2
            go_wp2
            go_roundw
            case rel => exact ⟨k + 1, T2, at_, by omega, by go_num, rfl, by rw [HI.out]; exact HT2.out, ht2, rfl, HA.out.symm, HB3.out, by omega, fun o => by rw [s1, r1, p1, q1], fun o => by rw [s2, r2, p2, q2]⟩
            case measure => simp [intOf]; omega
          · have e2 : (K k != 1) = true := by simpa using h1
            have HA := Lib.hid (show atTo K X (k + 1) = (T.size : Int) + (X k).size by simp only [atTo]; rw [if_neg h1, HI.out, ← HT2.out]; omega)
            clear h1 h2
            go_wp2
            go_roundw
            case rel => exact ⟨k + 1, T2, _, by omega, by go_num, rfl, by rw [HI.out]; exact HT2.out, ht2, rfl, HA.out.symm, HB3.out, by omega, fun o => by rw [s1, r1, p1, q1], fun o => by rw [s2, r2, p2, q2]⟩
            case measure => simp [intOf]; omega
    · obtain rfl : k = n := by omega
      have hge : -1 ≤ at_ := by rw [HAT.out]; exact atTo_ge K X k
      by_cases ha : at_ = -1
      · have e1 : (at_ == -1) = true := by simpa using ha
        have HV := Lib.hid (show madeV k K X = outO T (T.size : Int) by
          unfold madeV
          rw [← HT.out, ← HAT.out, if_neg (by rw [HTT.out]; simp), if_pos (by omega)])
        clear ha
        go_wp2
        exact bodyPost_ret (v := outO T (T.size : Int)) (by simp [results, Try.results35, go_sem, q1, hO, outO]) rfl ⟨by rw [HV.out], by repeat (first | exact HB.out | refine store_bel ?_)⟩
      · have e1 : (at_ == -1) = false := by simpa using ha
        have HV := Lib.hid (show madeV k K X = outO T at_ by
          unfold madeV
          rw [← HT.out, ← HAT.out, if_neg (by rw [HTT.out]; simp), if_neg (by omega)])
        clear ha
        go_wp2
        exact bodyPost_ret (v := outO T at_) (by simp [results, Try.results35, go_sem, q1, hO, outO]) rfl ⟨by rw [HV.out], by repeat (first | exact HB.out | refine store_bel ?_)⟩
set_option maxHeartbeats 2000000 in
theorem implApply_any (a : ByteArray) (g o n C : Nat) (K : Nat → Int) (X : Nat → ByteArray) (ha : a.size ≤ maxLen) (hn : n ≤ 1048576) (hX : ∀ i, i < n → (X i).size ≤ 1048576) (w : World) (hr : RowO w g o n K X) :
    Calls Try.prog 11 #[.string a, .slice (some ⟨g, o, none⟩) n C] w fun e w' => e = .returned (applyV a n K X) ∧ Below w.heap.size w w' := by
  have HA := Lib.hid ha
  have HR := Lib.hid hr
  clear hr
  unfold maxLen at ha
  by_cases h8 : (8000 : Int) < a.size
  · have HV := Lib.hid (show applyV a n K X = illO 2 by unfold applyV; rw [if_pos (.inl (by omega))])
    go_enter Try.func11, Try.ntmps11
    go_wp2
    exact bodyPost_ret (v := illO 2) (by simp [results, Try.results11, go_sem, illO]) rfl ⟨by rw [HV.out], by repeat (first | exact (Below.refl _ w).alloc (Nat.le_refl _) _ | refine store_bel ?_)⟩
  by_cases h4 : (400 : Int) < n
  · have HV := Lib.hid (show applyV a n K X = illO 2 by unfold applyV; rw [if_pos (.inr (by omega))])
    go_enter Try.func11, Try.ntmps11
    go_wp2
    exact bodyPost_ret (v := illO 2) (by simp [results, Try.results11, go_sem, illO]) rfl ⟨by rw [HV.out], by repeat (first | exact (Below.refl _ w).alloc (Nat.le_refl _) _ | refine store_bel ?_)⟩
  have hbig : ¬ (8000 < a.size ∨ 400 < n) := by omega
  obtain ⟨O, hO⟩ : ∃ O, O = Obj.cells #[.string ⟨#[]⟩, .int .i64 0, .string ⟨#[]⟩, .int .i64 0] 33 := ⟨_, rfl⟩
  have HR1 := Lib.hid (HR.out.below ((Below.refl _ w).alloc (Nat.le_refl _) O))
  have HO := Lib.hid hO
  cases ht : textB a
  · have HV := Lib.hid (show applyV a n K X = illO 1 by unfold applyV; rw [if_neg hbig, if_pos (.inl ht)])
    clear hbig
    go_enter Try.func11, Try.ntmps11
    go_wp2_with fail
    rw [← HO.out]
    refine (implRight_any _ HA.out _).mono ?_
    rintro e w1 ⟨rfl, hb1⟩
    rw [ht]
    obtain ⟨k1, k2⟩ := keepC hb1 (g := w.heap.size) (by simp)
    have HB1 := Lib.hid (bthen ((Below.refl _ w).alloc (Nat.le_refl _) _) hb1 (by simp))
    clear hb1
    rw [hO] at k1 k2
    go_wp2
    exact bodyPost_ret (v := illO 1) (by simp [results, Try.results11, go_sem, k1, illO]) rfl ⟨by rw [HV.out], by repeat (first | exact HB1.out | refine store_bel ?_)⟩
  cases hd : drB n K X
  · have HV := Lib.hid (show applyV a n K X = illO 1 by unfold applyV; rw [if_neg hbig, if_pos (.inr hd)])
    clear hbig
    go_enter Try.func11, Try.ntmps11
    go_wp2_with fail
    rw [← HO.out]
    refine (implRight_any _ HA.out _).mono ?_
    rintro e w1 ⟨rfl, hb1⟩
    rw [ht]
    obtain ⟨k1, k2⟩ := keepC hb1 (g := w.heap.size) (by simp)
    have hs1 : w.heap.size < w1.heap.size := by have := hb1.size; simp at this; omega
    have HR2 := Lib.hid (HR1.out.below hb1)
    have HB1 := Lib.hid (bthen ((Below.refl _ w).alloc (Nat.le_refl _) _) hb1 (by simp))
    clear hb1
    rw [hO] at k1 k2
    go_wp2_with fail
    refine (implDR_any g o n C K X (by omega) _ HR2.out).mono ?_
    rintro e w2 ⟨rfl, hb2⟩
    rw [hd]
    obtain ⟨r1, r2⟩ := keepC hb2 (g := w.heap.size) hs1
    have HB2 := Lib.hid (bthen HB1.out hb2 (by omega))
    clear hb2
    go_wp2
    exact bodyPost_ret (v := illO 1) (by simp [results, Try.results11, go_sem, r1, k1, illO]) rfl ⟨by rw [HV.out], by repeat (first | exact HB2.out | refine store_bel ?_)⟩
  have hno : ¬ (textB a = false ∨ drB n K X = false) := by rw [ht, hd]; simp
  go_enter Try.func11, Try.ntmps11
  go_wp2_with fail
  rw [← HO.out]
  refine (implRight_any _ HA.out _).mono ?_
  rintro e w1 ⟨rfl, hb1⟩
  rw [ht]
  obtain ⟨k1, k2⟩ := keepC hb1 (g := w.heap.size) (by simp)
  have hs1 : w.heap.size < w1.heap.size := by have := hb1.size; simp at this; omega
  have HR2 := Lib.hid (HR1.out.below hb1)
  have HB1 := Lib.hid (bthen ((Below.refl _ w).alloc (Nat.le_refl _) _) hb1 (by simp))
  clear hb1
  rw [hO] at k1 k2
  go_wp2_with fail
  refine (implDR_any g o n C K X (by omega) _ HR2.out).mono ?_
  rintro e w2 ⟨rfl, hb2⟩
  rw [hd]
  obtain ⟨r1, r2⟩ := keepC hb2 (g := w.heap.size) hs1
  have hs2 : w.heap.size < w2.heap.size := by have := hb2.size; omega
  have HR3 := Lib.hid (HR2.out.below hb2)
  have HB2 := Lib.hid (bthen HB1.out hb2 (by omega))
  clear hb2
  go_wp2_with fail
  refine (comesOf_any a g o n C K X (by omega) _ HR3.out).mono ?_
  rintro e w3 ⟨rfl, hb3⟩
  obtain ⟨s1, s2⟩ := keepC hb3 (g := w.heap.size) hs2
  have hs3 : w.heap.size < w3.heap.size := by have := hb3.size; omega
  have HR4 := Lib.hid (HR3.out.below hb3)
  have HB3 := Lib.hid (bthen HB2.out hb3 (by omega))
  clear hb3
  by_cases hwa : wasTo K X n = a
  · have hq : (open Classical in decide (wasTo K X n = a)) = true := by simp [hwa]
    rw [hq]
    have HV := Lib.hid (show applyV a n K X = madeV n K X by
      unfold applyV madeV
      rw [if_neg hbig, if_neg hno, if_neg (by simpa using hwa)]
      rfl)
    obtain ⟨x1, x2, x3, x4, hM⟩ : ∃ x i g c, madeV n K X = .agg #[.string x, .int .i64 i, .string g, .int .i64 c] := by
      rw [← HV.out]; exact applyV_form a n K X
    have HM := Lib.hid hM
    clear hwa hq hbig hno hM
    go_wp2_with fail
    refine (made_any g o n C K X (by omega) hX _ HR4.out).mono ?_
    rintro e w4 ⟨rfl, hb4⟩
    rw [HM.out]
    obtain ⟨t1, t2⟩ := keepC hb4 (g := w.heap.size) hs3
    have HB4 := Lib.hid (bthen HB3.out hb4 (by omega))
    clear hb4
    go_wp2
    exact bodyPost_ret (v := .agg #[.string x1, .int .i64 x2, .string x3, .int .i64 x4]) (by simp [results, Try.results11, go_sem, t1, s1, r1, k1]) rfl ⟨by rw [HV.out, HM.out], by repeat (first | exact HB4.out | refine store_bel ?_)⟩
  · have hq : (open Classical in decide (wasTo K X n = a)) = false := by simp [hwa]
    rw [hq]
    have HV := Lib.hid (show applyV a n K X = illO 10 by unfold applyV; rw [if_neg hbig, if_neg hno, if_pos hwa])
    clear hwa hq hbig hno
    go_wp2
    exact bodyPost_ret (v := illO 10) (by simp [results, Try.results11, go_sem, s1, r1, k1, illO]) rfl ⟨by rw [HV.out], by repeat (first | exact HB3.out | refine store_bel ?_)⟩
end Go.Proofs.Ythdnhopkkgdclaa.diff
