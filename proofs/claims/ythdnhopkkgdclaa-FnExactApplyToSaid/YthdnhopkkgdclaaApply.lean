/-
  ApplyTo of the model: its answer, for every text and every row of changes; and the walk of its law, out of the program's own contract.
-/
import Derived.Test.YthdnhopkkgdclaaCostLaw
import Derived.Test.YthdnhopkkgdclaaLineRight
namespace Go.Proofs.Ythdnhopkkgdclaa.diff
open Go.ChangeShapes Go.WideShapes Go.ChangeAt Go.RowKit
open Go.Proofs.Ythdnhopkkgdclaa.line
def emptyB : ByteArray := ⟨#[]⟩
/-- what was, as far as i; what is; behind what the last change ends -/
def wasTo (K : Nat → Int) (X : Nat → ByteArray) : Nat → ByteArray
  | 0 => emptyB
  | i + 1 => if K i = 3 then wasTo K X i else wasTo K X i ++ X i
def isTo (K : Nat → Int) (X : Nat → ByteArray) : Nat → ByteArray
  | 0 => emptyB
  | i + 1 => if K i = 2 then isTo K X i else isTo K X i ++ X i
def atTo (K : Nat → Int) (X : Nat → ByteArray) : Nat → Int
  | 0 => -1
  | i + 1 => if K i = 1 then atTo K X i else (isTo K X (i + 1)).size
theorem atTo_ge (K : Nat → Int) (X : Nat → ByteArray) : ∀ i, -1 ≤ atTo K X i
  | 0 => by simp [atTo]
  | i + 1 => by unfold atTo; split; exact atTo_ge K X i; omega
def illO (c : Int) : Value := .agg #[.string ⟨#[]⟩, .int .i64 0, .string ⟨#[]⟩, .int .i64 c]
noncomputable def applyV (a : ByteArray) (n : Nat) (K : Nat → Int) (X : Nat → ByteArray) : Value :=
  open Classical in
  if 8000 < a.size ∨ 400 < n then illO 2
  else if textB a = false ∨ drB n K X = false then illO 1
  else if wasTo K X n ≠ a then illO 10
  else if textB (isTo K X n) = false then illO 9
  else .agg #[.string (isTo K X n), .int .i64 (if atTo K X n < 0 then ((isTo K X n).size : Int) else atTo K X n), .string ⟨#[]⟩, .int .i64 0]
theorem applyV_form (a : ByteArray) (n : Nat) (K : Nat → Int) (X : Nat → ByteArray) : ∃ x i g c, applyV a n K X = .agg #[.string x, .int .i64 i, .string g, .int .i64 c] := by
  unfold applyV illO
  split
  · exact ⟨_, _, _, _, rfl⟩
  · split
    · exact ⟨_, _, _, _, rfl⟩
    · split
      · exact ⟨_, _, _, _, rfl⟩
      · split <;> exact ⟨_, _, _, _, rfl⟩
theorem beq_toList_t {a b : ByteArray} (h : a = b) : (!a.toList == b.toList) = false := by subst h; simp
theorem beq_toList_f {a b : ByteArray} (h : ¬ a = b) : (!a.toList == b.toList) = true := by
  have : ¬ a.toList = b.toList := fun e => h (by
    rw [ByteArray.toList_eq, ByteArray.toList_eq] at e
    exact ByteArray.ext (Array.ext' e))
  simp [this]
set_option maxHeartbeats 4000000 in
theorem specApply_any (a : ByteArray) (g n C : Nat) (K : Nat → Int) (X : Nat → ByteArray) (ha : a.size ≤ maxLen) (hn : n ≤ 1048576) (hX : ∀ i, i < n → (X i).size ≤ 1048576) (w : World) (hr : RowD w g n K X) :
    Calls Try.prog 16 #[.string a, .slice (some ⟨g, 0, none⟩) n C] w fun e w' => e = .returned (applyV a n K X) ∧ Below w.heap.size w w' := by
  have HA := Lib.hid ha
  have HR := Lib.hid hr
  clear hr
  unfold maxLen at ha
  by_cases h8 : (8000 : Int) < a.size
  · have HV := Lib.hid (show applyV a n K X = illO 2 by unfold applyV; rw [if_pos (.inl (by omega))])
    go_enter Try.func16, Try.ntmps16
    go_wp2_with fail
    refine (ill_any _ _).mono ?_
    rintro e wi ⟨rfl, hbi⟩
    obtain ⟨i1, i2⟩ := keepC hbi (g := w.heap.size) (by simp)
    have HBI := Lib.hid (bthen ((Below.refl _ w).alloc (Nat.le_refl _) _) hbi (by simp))
    clear hbi
    go_wp2
    exact bodyPost_ret (v := illO 2) (by simp [results, Try.results16, go_sem, i1, illO]) rfl
      ⟨by rw [HV.out], by repeat (first | exact HBI.out | refine Below.setCell (B := w.heap.size) (p := ⟨w.heap.size, _, none⟩) ?_ (Nat.le_refl _) _)⟩
  by_cases h4 : (400 : Int) < n
  · have HV := Lib.hid (show applyV a n K X = illO 2 by unfold applyV; rw [if_pos (.inr (by omega))])
    go_enter Try.func16, Try.ntmps16
    go_wp2_with fail
    refine (ill_any _ _).mono ?_
    rintro e wi ⟨rfl, hbi⟩
    obtain ⟨i1, i2⟩ := keepC hbi (g := w.heap.size) (by simp)
    have HBI := Lib.hid (bthen ((Below.refl _ w).alloc (Nat.le_refl _) _) hbi (by simp))
    clear hbi
    go_wp2
    exact bodyPost_ret (v := illO 2) (by simp [results, Try.results16, go_sem, i1, illO]) rfl
      ⟨by rw [HV.out], by repeat (first | exact HBI.out | refine Below.setCell (B := w.heap.size) (p := ⟨w.heap.size, _, none⟩) ?_ (Nat.le_refl _) _)⟩
  have hbig : ¬ (8000 < a.size ∨ 400 < n) := by omega
  have HR1 := Lib.hid (HR.out.below ((Below.refl _ w).alloc (Nat.le_refl _) (.cells #[.string ⟨#[]⟩, .int .i64 0, .string ⟨#[]⟩, .int .i64 0] 33)))
  cases ht : textB a
  · have HV := Lib.hid (show applyV a n K X = illO 1 by unfold applyV; rw [if_neg hbig, if_pos (.inl ht)])
    clear hbig
    go_enter Try.func16, Try.ntmps16
    go_wp2_with fail
    refine (specRight_any _ HA.out _).mono ?_
    rintro e wx ⟨rfl, rfl⟩
    rw [ht]
    go_wp2_with fail
    refine (ill_any _ _).mono ?_
    rintro e wi ⟨rfl, hbi⟩
    obtain ⟨i1, i2⟩ := keepC hbi (g := w.heap.size) (by simp)
    have HBI := Lib.hid (bthen ((Below.refl _ w).alloc (Nat.le_refl _) _) hbi (by simp))
    clear hbi
    go_wp2
    exact bodyPost_ret (v := illO 1) (by simp [results, Try.results16, go_sem, i1, illO]) rfl
      ⟨by rw [HV.out], by repeat (first | exact HBI.out | refine Below.setCell (B := w.heap.size) (p := ⟨w.heap.size, _, none⟩) ?_ (Nat.le_refl _) _)⟩
  cases hd : drB n K X
  · have HV := Lib.hid (show applyV a n K X = illO 1 by unfold applyV; rw [if_neg hbig, if_pos (.inr hd)])
    clear hbig
    go_enter Try.func16, Try.ntmps16
    go_wp2_with fail
    refine (specRight_any _ HA.out _).mono ?_
    rintro e wx ⟨rfl, rfl⟩
    rw [ht]
    go_wp2_with fail
    refine (specDR_any g n C K X (by omega) _ HR1.out).mono ?_
    rintro e w1 ⟨rfl, hb1⟩
    rw [hd]
    obtain ⟨k1, k2⟩ := keepC hb1 (g := w.heap.size) (by simp)
    have hs1 : w.heap.size < w1.heap.size := by have := hb1.size; simp at this; omega
    have HR2 := Lib.hid (HR1.out.below hb1)
    have HB1 := Lib.hid (bthen ((Below.refl _ w).alloc (Nat.le_refl _) _) hb1 (by simp))
    clear hb1
    go_wp2_with fail
    refine (ill_any _ _).mono ?_
    rintro e wi ⟨rfl, hbi⟩
    obtain ⟨i1, i2⟩ := keepC hbi (g := w.heap.size) hs1
    have HBI := Lib.hid (bthen HB1.out hbi (by omega))
    clear hbi
    go_wp2
    exact bodyPost_ret (v := illO 1) (by simp [results, Try.results16, go_sem, i1, k1, illO]) rfl
      ⟨by rw [HV.out], by repeat (first | exact HBI.out | refine Below.setCell (B := w.heap.size) (p := ⟨w.heap.size, _, none⟩) ?_ (Nat.le_refl _) _)⟩
  have hgood := Lib.hid (drB_ok hd).2
  have hno : ¬ (textB a = false ∨ drB n K X = false) := by rw [ht, hd]; simp
  go_enter Try.func16, Try.ntmps16
  go_wp2_with fail
  refine (specRight_any _ HA.out _).mono ?_
  rintro e wx ⟨rfl, rfl⟩
  rw [ht]
  go_wp2_with fail
  refine (specDR_any g n C K X (by omega) _ HR1.out).mono ?_
  rintro e w1 ⟨rfl, hb1⟩
  rw [hd]
  obtain ⟨k1, k2⟩ := keepC hb1 (g := w.heap.size) (by simp)
  have hs1 : w.heap.size < w1.heap.size := by have := hb1.size; simp at this; omega
  have HR2 := Lib.hid (HR1.out.below hb1)
  have HB1 := Lib.hid (bthen ((Below.refl _ w).alloc (Nat.le_refl _) _) hb1 (by simp))
  clear hb1
  go_wp2
  clear HR1 h8 h4
  go_loop [5, 6, 7, 8] (fun s5 s6 s7 s8 => ∃ k : Nat, k ≤ n ∧ s8 = .int .i64 k ∧ s5 = .string (wasTo K X k) ∧ s6 = .string (isTo K X k) ∧ s7 = .int .i64 (atTo K X k) ∧ (wasTo K X k).size ≤ k * 1048576 ∧ (isTo K X k).size ≤ k * 1048576) (fun _ _ _ i => n - (intOf i).toNat)
  case atStart => exact ⟨0, Nat.zero_le _, rfl, rfl, rfl, rfl, Nat.le_refl 0, Nat.le_refl 0⟩
  case round =>
    obtain ⟨k, hk, rfl, rfl, rfl, rfl, hw5, hw6⟩ := hrel
    by_cases hlt : k < n
    · have hc := HR2.out.kind k hlt
      have hx := HR2.out.text k hlt
      have hz := hX k hlt
      have hk3 := (hgood.out k hlt).1
      have z1 : ¬ 9223372036854775807 < (wasTo K X k).size + (X k).size := by omega
      have z2 : ¬ 9223372036854775807 < (isTo K X k).size + (X k).size := by omega
      have hcase : K k = 1 ∨ K k = 2 ∨ K k = 3 := by omega
      clear hk3
      rcases hcase with hk1 | hk1 | hk1
      · have e1 : (K k != 3) = true := by simp [hk1]
        have e2 : (K k != 2) = true := by simp [hk1]
        have e3 : (K k != 1) = false := by simp [hk1]
        have HW := Lib.hid (show wasTo K X (k + 1) = wasTo K X k ++ X k by simp only [wasTo]; rw [if_neg (by omega)])
        have HI := Lib.hid (show isTo K X (k + 1) = isTo K X k ++ X k by simp only [isTo]; rw [if_neg (by omega)])
        have HT := Lib.hid (show atTo K X (k + 1) = atTo K X k by simp only [atTo]; rw [if_pos hk1])
        clear hk1
        go_wp2
        go_round
        case rel => exact ⟨k + 1, by omega, by go_num, congrArg Value.string HW.out.symm, congrArg Value.string HI.out.symm, congrArg (Value.int .i64) HT.out.symm, by have q := congrArg ByteArray.size HW.out; rw [ByteArray.size_append] at q; omega, by have q := congrArg ByteArray.size HI.out; rw [ByteArray.size_append] at q; omega⟩
        case measure => simp [intOf]; omega
      · have e1 : (K k != 3) = true := by simp [hk1]
        have e2 : (K k != 2) = false := by simp [hk1]
        have e3 : (K k != 1) = true := by simp [hk1]
        have HW := Lib.hid (show wasTo K X (k + 1) = wasTo K X k ++ X k by simp only [wasTo]; rw [if_neg (by omega)])
        have HI := Lib.hid (show isTo K X (k + 1) = isTo K X k by simp only [isTo]; rw [if_pos hk1])
        have HT := Lib.hid (show atTo K X (k + 1) = ((isTo K X k).size : Int) by simp only [atTo, isTo]; rw [if_neg (by omega), if_pos hk1])
        clear hk1
        go_wp2
        go_round
        case rel => exact ⟨k + 1, by omega, by go_num, congrArg Value.string HW.out.symm, congrArg Value.string HI.out.symm, congrArg (Value.int .i64) HT.out.symm, by have q := congrArg ByteArray.size HW.out; rw [ByteArray.size_append] at q; omega, by have q := congrArg ByteArray.size HI.out; omega⟩
        case measure => simp [intOf]; omega
      · have e1 : (K k != 3) = false := by simp [hk1]
        have e2 : (K k != 2) = true := by simp [hk1]
        have e3 : (K k != 1) = true := by simp [hk1]
        have HW := Lib.hid (show wasTo K X (k + 1) = wasTo K X k by simp only [wasTo]; rw [if_pos hk1])
        have HI := Lib.hid (show isTo K X (k + 1) = isTo K X k ++ X k by simp only [isTo]; rw [if_neg (by omega)])
        have HT := Lib.hid (show atTo K X (k + 1) = ((isTo K X k).size : Int) + (X k).size by simp only [atTo, isTo]; rw [if_neg (by omega), if_neg (by omega), ByteArray.size_append]; omega)
        clear hk1
        go_wp2
        go_round
        case rel => exact ⟨k + 1, by omega, by go_num, congrArg Value.string HW.out.symm, congrArg Value.string HI.out.symm, congrArg (Value.int .i64) HT.out.symm, by have q := congrArg ByteArray.size HW.out; omega, by have q := congrArg ByteArray.size HI.out; rw [ByteArray.size_append] at q; omega⟩
        case measure => simp [intOf]; omega
    · obtain rfl : k = n := by omega
      obtain ⟨Wt, hWt⟩ : ∃ z, z = wasTo K X k := ⟨_, rfl⟩
      obtain ⟨It, hIt⟩ : ∃ z, z = isTo K X k := ⟨_, rfl⟩
      obtain ⟨At, hAt⟩ : ∃ z, z = atTo K X k := ⟨_, rfl⟩
      have hge := atTo_ge K X k
      rw [← hAt] at hge
      rw [← hWt] at hw5
      rw [← hIt] at hw6
      rw [← hWt, ← hIt, ← hAt]
      by_cases hwa : Wt = a
      · have hq := beq_toList_t hwa
        have HWA := Lib.hid hwa
        clear hwa
        have HII := Lib.hid (show It.size ≤ maxLen by unfold maxLen; omega)
        cases hti : textB It
        · have HV := Lib.hid (show applyV a k K X = illO 9 by unfold applyV; rw [if_neg hbig, if_neg hno, if_neg (by rw [← hWt]; simpa using HWA.out), if_pos (by rw [← hIt]; exact hti)])
          clear hbig hno hWt hIt hAt
          go_wp2_with fail
          refine (specRight_any _ HII.out _).mono ?_
          rintro e wx ⟨rfl, rfl⟩
          rw [hti]
          go_wp2_with fail
          refine (ill_any _ _).mono ?_
          rintro e wi ⟨rfl, hbi⟩
          obtain ⟨i1, i2⟩ := keepC hbi (g := w.heap.size) hs1
          have HBI := Lib.hid (bthen HB1.out hbi (by omega))
          clear hbi
          go_wp2
          exact bodyPost_ret (v := illO 9) (by simp [results, Try.results16, go_sem, i1, k1, illO]) rfl
            ⟨by rw [HV.out], by repeat (first | exact HBI.out | refine Below.setCell (B := w.heap.size) (p := ⟨w.heap.size, _, none⟩) ?_ (Nat.le_refl _) _)⟩
        · by_cases hA : At < 0
          · have HV := Lib.hid (show applyV a k K X = .agg #[.string It, .int .i64 (It.size : Int), .string ⟨#[]⟩, .int .i64 0] by unfold applyV; rw [if_neg hbig, if_neg hno, if_neg (by rw [← hWt]; simpa using HWA.out), if_neg (by rw [← hIt, hti]; simp), if_pos (by rw [← hAt]; exact hA), ← hIt])
            clear hbig hno hWt hIt hAt
            go_wp2_with fail
            refine (specRight_any _ HII.out _).mono ?_
            rintro e wx ⟨rfl, rfl⟩
            rw [hti]
            go_wp2
            exact bodyPost_ret (v := .agg #[.string It, .int .i64 (It.size : Int), .string ⟨#[]⟩, .int .i64 0]) (by simp [results, Try.results16, go_sem, k1]) rfl
              ⟨by rw [HV.out], by repeat (first | exact HB1.out | refine Below.setCell (B := w.heap.size) (p := ⟨w.heap.size, _, none⟩) ?_ (Nat.le_refl _) _)⟩
          · have HV := Lib.hid (show applyV a k K X = .agg #[.string It, .int .i64 At, .string ⟨#[]⟩, .int .i64 0] by unfold applyV; rw [if_neg hbig, if_neg hno, if_neg (by rw [← hWt]; simpa using HWA.out), if_neg (by rw [← hIt, hti]; simp), if_neg (by rw [← hAt]; exact hA), ← hIt, ← hAt])
            clear hbig hno hWt hIt hAt
            go_wp2_with fail
            refine (specRight_any _ HII.out _).mono ?_
            rintro e wx ⟨rfl, rfl⟩
            rw [hti]
            go_wp2
            exact bodyPost_ret (v := .agg #[.string It, .int .i64 At, .string ⟨#[]⟩, .int .i64 0]) (by simp [results, Try.results16, go_sem, k1]) rfl
              ⟨by rw [HV.out], by repeat (first | exact HB1.out | refine Below.setCell (B := w.heap.size) (p := ⟨w.heap.size, _, none⟩) ?_ (Nat.le_refl _) _)⟩
      · have hq := beq_toList_f hwa
        have HV := Lib.hid (show applyV a k K X = illO 10 by unfold applyV; rw [if_neg hbig, if_neg hno, if_pos (by rw [← hWt]; exact hwa)])
        clear hwa hbig hno hWt hIt hAt
        go_wp2_with fail
        refine (ill_any _ _).mono ?_
        rintro e wi ⟨rfl, hbi⟩
        obtain ⟨i1, i2⟩ := keepC hbi (g := w.heap.size) hs1
        have HBI := Lib.hid (bthen HB1.out hbi (by omega))
        clear hbi
        go_wp2
        exact bodyPost_ret (v := illO 10) (by simp [results, Try.results16, go_sem, i1, k1, illO]) rfl
          ⟨by rw [HV.out], by repeat (first | exact HBI.out | refine Below.setCell (B := w.heap.size) (p := ⟨w.heap.size, _, none⟩) ?_ (Nat.le_refl _) _)⟩
set_option maxHeartbeats 1600000 in
theorem walkApply_of (a0 : ByteArray) (a : Option Addr) (n C : Nat) (K : Nat → Int) (X : Nat → ByteArray) (w0 : a0.size ≤ maxLen) (w : World) (s : IsKS w a n C K X)
    (him : ∀ (g : Nat) (W : World), n ≤ 1048576 → (∀ i, i < n → (X i).size ≤ 1048576) → RowD W g n K X → Calls Try.prog 11 #[.string a0, .slice (some ⟨g, 0, none⟩) n n] W fun e w' => e = .returned (applyV a0 n K X) ∧ Below W.heap.size W w') :
    Calls Try.prog 6 #[.string a0, .slice a n C] w fun e w' => e = .returned (.bool true) ∧ Below w.heap.size w w' := by
  have HS := Lib.hid s
  have HI := Lib.hid him
  have H := Lib.hid w0
  clear him
  have hz := sz_KS s w (Below.refl _ _)
  clear s
  obtain ⟨x1, x2, x3, x4, hV⟩ := applyV_form a0 n K X
  have HV := Lib.hid hV
  clear hV
  by_cases ha : (1048576 : Int) < a0.size
  · unfold maxLen at w0
    clear hz
    go_enter Try.func6, Try.ntmps6
    go_wp2
    go_ret
    exact ⟨rfl, Below.refl _ _⟩
  unfold maxLen at w0
  by_cases hl : 1048576 < n + sumTo X n
  · rw [if_pos hl] at hz
    have HZ := Lib.hid hz
    clear hz
    go_enter Try.func6, Try.ntmps6
    go_wp2_with fail
    refine HZ.out.mono ?_
    rintro e w1 ⟨rfl, hb⟩
    go_wp2
    go_ret
    exact ⟨rfl, hb⟩
  · rw [if_neg hl] at hz
    have HZ := Lib.hid hz
    have hge : 0 ≤ 1048576 - (n : Int) - sumTo X n := by omega
    have hn : n ≤ 1048576 := by omega
    have HX := Lib.hid (show ∀ i, i < n → (X i).size ≤ 1048576 from fun i hi => by have := sum_size X n i hi; omega)
    obtain ⟨L, hL⟩ : ∃ L : Int, L = 1048576 - (n : Int) - sumTo X n := ⟨_, rfl⟩
    rw [← hL] at hz hge HZ
    clear hz hL hl
    go_enter Try.func6, Try.ntmps6
    go_wp2_with fail
    refine HZ.out.mono ?_
    rintro e w1 ⟨rfl, hb1⟩
    have HB1 := Lib.hid hb1
    clear hb1 HZ
    go_wp2_with fail
    refine (to_KS HS.out hn w1 HB1.out).mono ?_
    rintro e w2 ⟨rfl, hr2, hb2, hz2⟩
    have HR2 := Lib.hid hr2
    have HB2 := Lib.hid (bthen HB1.out hb2 HB1.out.size)
    clear hr2 hb2
    go_wp2_with fail
    refine (specApply_any a0 _ _ _ K X H.out hn HX.out _ HR2.out).mono ?_
    rintro e w3 ⟨rfl, hb3⟩
    rw [HV.out]
    have HB3 := Lib.hid (bthen HB2.out hb3 HB2.out.size)
    clear hb3
    go_wp2_with fail
    refine (to_KS HS.out hn (w3.alloc (.cells #[.string x1, .int .i64 x2, .string x3, .int .i64 x4] 33)) (HB3.out.alloc HB3.out.size _)).mono ?_
    rintro e w4 ⟨rfl, hr4, hb4, hz4⟩
    rw [show (w3.alloc (.cells #[.string x1, .int .i64 x2, .string x3, .int .i64 x4] 33)).heap.size = w3.heap.size + 1 from by simp] at hr4
    have HR4 := Lib.hid hr4
    obtain ⟨k4, _⟩ := keepC hb4 (g := w3.heap.size) (by simp)
    have hs4 : w3.heap.size < w4.heap.size := by have := hb4.size; simp at this; omega
    have HB4 := Lib.hid (bthen (HB3.out.alloc HB3.out.size _) hb4 (by have := HB3.out.size; simp; omega))
    clear hr4 hb4
    go_wp2_with fail
    refine (HI.out (w3.heap.size + 1) w4 hn HX.out HR4.out).mono ?_
    rintro e w5 ⟨rfl, hb5⟩
    rw [HV.out]
    have HR5 := Lib.hid (HR4.out.below hb5)
    obtain ⟨k5, _⟩ := keepC hb5 (g := w3.heap.size) hs4
    have hs5 : w3.heap.size < w5.heap.size := by have := hb5.size; omega
    have hs5' : w3.heap.size ≠ w5.heap.size := by omega
    have HB5 := Lib.hid (bthen HB4.out hb5 HB4.out.size)
    clear hb5
    go_wp2_with fail
    refine (eqOut_same _ _ _ _ _).mono ?_
    rintro e w6 ⟨rfl, hb6⟩
    have HR6 := Lib.hid ((HR5.out.below ((Below.refl _ w5).alloc (Nat.le_refl _) _)).below hb6)
    have HB6 := Lib.hid (bthen (HB5.out.alloc HB5.out.size _) hb6 (by have := HB5.out.size; simp; omega))
    clear hb6
    go_wp2_with fail
    refine (to_KS HS.out hn w6 HB6.out).mono ?_
    rintro e w7 ⟨rfl, hr7, hb7, hz7⟩
    have HR7 := Lib.hid hr7
    have HR8 := Lib.hid (HR6.out.below hb7)
    have HB7 := Lib.hid (bthen HB6.out hb7 HB6.out.size)
    clear hr7 hb7
    go_wp2_with fail
    refine (eqDiffS_same (w3.heap.size + 1) w6.heap.size n n n K X hn w7 HR8.out HR7.out).mono ?_
    rintro e w8 ⟨rfl, hb8⟩
    have HB8 := Lib.hid (bthen HB7.out hb8 HB7.out.size)
    clear hb8
    go_wp2
    go_ret
    exact ⟨rfl, HB8.out⟩
end Go.Proofs.Ythdnhopkkgdclaa.diff
