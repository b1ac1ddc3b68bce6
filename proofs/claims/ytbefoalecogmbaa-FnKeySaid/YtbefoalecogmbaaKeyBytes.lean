/-
  The walk of BytesOf's law: the program and the model tell the same bytes of a key. For every key.
-/
import Derived.Test.YtbefoalecogmbaaKeyLaw
namespace Go.Proofs.Ytbefoalecogmbaa.key
open Go.ChangeShapes Go.WideShapes Go.ChangeAt Go.RowKit
/-- the first of the first n rows that is of this kind tells its first text -/
def rowOfK (k : Int) : Nat → Option Nat
  | 0 => none
  | i + 1 => match rowOfK k i with
    | some x => some x
    | none => if tabK i = k then some i else none
def mRowOfK (k : Int) : Nat → Option Nat
  | 0 => none
  | i + 1 => match mRowOfK k i with
    | some x => some x
    | none => if mK i = k then some i else none
def bytesV (k y : Int) : ByteArray :=
  if keyB k y then (if k = 1 ∨ k = 25 then oneB (UInt8.ofNat y.toNat) else match mRowOfK k 29 with | some i => mB i | none => ⟨#[]⟩) else ⟨#[]⟩
def alikeB (n : Nat) : Bool := match rowOfK n 23, mRowOfK n 29 with
  | some i, some j => decide (tabT i 0 = mB j)
  | _, _ => false
theorem alike_all : ∀ n, n < 25 → 2 ≤ n → alikeB n = true := by decide +kernel
theorem rows_alike (n : Nat) (h1 : n < 25) (h2 : 2 ≤ n) : ∃ i j, rowOfK n 23 = some i ∧ mRowOfK n 29 = some j ∧ tabT i 0 = mB j := by
  have h := alike_all n h1 h2
  unfold alikeB at h
  split at h
  · rename_i i j e1 e2
    exact ⟨i, j, e1, e2, of_decide_eq_true h⟩
  · cases h
theorem none_alike : mRowOfK 1 29 = none ∧ mRowOfK 25 29 = none := by decide +kernel
theorem row_hit {k : Int} {i : Nat} (h : rowOfK k i = none) (e : tabK i = k) : rowOfK k (i + 1) = some i := by simp [rowOfK, h, e]
theorem row_miss {k : Int} {i : Nat} (h : rowOfK k i = none) (e : ¬ tabK i = k) : rowOfK k (i + 1) = none := by simp [rowOfK, h, e]
theorem row_up {k : Int} {i v : Nat} (h : rowOfK k i = some v) : ∀ m, i ≤ m → rowOfK k m = some v := by
  intro m
  induction m with
  | zero => intro hm; obtain rfl : i = 0 := by omega
            exact h
  | succ m ih =>
    intro hm
    by_cases e : i = m + 1
    · rw [← e]; exact h
    · simp [rowOfK, ih (by omega)]
theorem mrow_hit {k : Int} {i : Nat} (h : mRowOfK k i = none) (e : mK i = k) : mRowOfK k (i + 1) = some i := by simp [mRowOfK, h, e]
theorem mrow_miss {k : Int} {i : Nat} (h : mRowOfK k i = none) (e : ¬ mK i = k) : mRowOfK k (i + 1) = none := by simp [mRowOfK, h, e]
theorem mrow_up {k : Int} {i v : Nat} (h : mRowOfK k i = some v) : ∀ m, i ≤ m → mRowOfK k m = some v := by
  intro m
  induction m with
  | zero => intro hm; obtain rfl : i = 0 := by omega
            exact h
  | succ m ih =>
    intro hm
    by_cases e : i = m + 1
    · rw [← e]; exact h
    · simp [mRowOfK, ih (by omega)]
theorem tab_one : ∀ i, i < 23 → 1 ≤ tabN i := by decide +kernel
set_option maxHeartbeats 1600000 in
theorem first_any (k : Int) (i0 : Nat) (hk : rowOfK k 23 = some i0) (w : World) :
    Calls Try.prog 37 #[.int .i64 k] w fun e w' => e = .returned (.string (tabT i0 0)) ∧ Below w.heap.size w w' := by
  have HK := Lib.hid hk
  clear hk
  go_enter Try.func37, Try.ntmps37
  go_wp2_with fail
  refine (keyTable_any _).mono ?_
  rintro e w1 ⟨g, rfl, ht, hb1⟩
  have HT := Lib.hid ht
  have HB := Lib.hid hb1
  have z1 := hb1.size
  clear ht hb1
  go_wp2
  go_loopw [7] (fun iv wr => ∃ i : Nat, i ≤ 23 ∧ iv = .int .i64 i ∧ rowOfK k i = none ∧ Below w1.heap.size w1 wr) (fun iv _ => 23 - (intOf iv).toNat)
  case atStart => exact ⟨0, Nat.zero_le _, rfl, rfl, Below.refl _ _⟩
  case round =>
    obtain ⟨i, hi, rfl, hn, hb⟩ := hrel
    rename World => wr
    have HN := Lib.hid hn
    have HR := Lib.hid hb
    have HX := Lib.hid (HB.out.trans (hb.mono z1))
    have z2 := hb.size
    have HTW := HT.out.below hb
    clear hn hb
    by_cases hlt : i < 23
    · obtain ⟨_, G, hG⟩ := HTW
      obtain ⟨c0, c1, c2⟩ := hG i hlt
      have d0 := c2 0 (tab_one i hlt)
      have n0 := tab_one i hlt
      have HA := Lib.hid (fun e : tabK i = k => row_up (row_hit HN.out e) 23 (by omega))
      have HM := Lib.hid (fun e : ¬ tabK i = k => row_miss HN.out e)
      obtain ⟨K, hK⟩ : ∃ K, K = tabK i := ⟨_, rfl⟩
      obtain ⟨N, hN⟩ : ∃ N, N = tabN i := ⟨_, rfl⟩
      obtain ⟨Y, hY⟩ : ∃ Y, Y = G i := ⟨_, rfl⟩
      obtain ⟨T, hT⟩ : ∃ T, T = tabT i 0 := ⟨_, rfl⟩
      rw [← hK] at c0 HA HM
      rw [← hN] at c1 n0
      rw [← hY] at c1 d0
      rw [← hT] at d0
      have HTT := Lib.hid hT
      have yz := blk_lt d0
      clear hK hN hY hT c2 hG
      by_cases he : K = k
      · have HE := Lib.hid (HA.out he)
        have hd : (K == k) = true := by simpa using he
        clear he
        go_wp2
        go_ret
        have hi0 := (Option.some.inj (HE.out.symm.trans HK.out))
        exact ⟨by rw [← hi0, ← HTT.out]; rfl, HX.out.alloc HX.out.size _⟩
      · have HE := Lib.hid (HM.out he)
        have hd : (K == k) = false := by simpa using he
        clear he
        go_wp2
        go_roundw
        case rel => exact ⟨i + 1, by omega, by go_num, HE.out, HR.out.alloc HR.out.size _⟩
        case measure => simp [intOf]; omega
    · obtain rfl : i = 23 := by omega
      exact absurd (HN.out.symm.trans HK.out) (by simp)
theorem bytesV_bad {k y : Int} (h : keyB k y = false) : bytesV k y = ⟨#[]⟩ := by simp [bytesV, h]
theorem bytesV_one {k y : Int} (h : keyB k y = true) (hk : k = 1 ∨ k = 25) : bytesV k y = oneB (UInt8.ofNat y.toNat) := by simp [bytesV, h, hk]
theorem bytesV_row {k y : Int} {j : Nat} (h : keyB k y = true) (h1 : ¬ k = 1) (h2 : ¬ k = 25) (hj : mRowOfK k 29 = some j) : bytesV k y = mB j := by simp [bytesV, h, h1, h2, hj]
theorem keyB_byte {k y : Int} (h : keyB k y = true) (hk : k = 1 ∨ k = 25) : 0 ≤ y ∧ y ≤ 255 := by
  rcases hk with rfl | rfl
  · rw [keyB_1] at h; simp [betB] at h; omega
  · rw [keyB_25] at h; simp [betB] at h; omega
theorem keyB_kind {k y : Int} (h : keyB k y = true) (h1 : ¬ k = 1) (h2 : ¬ k = 25) : 2 ≤ k ∧ k ≤ 24 := by
  rw [keyB_else y h1 h2] at h; simp [betB] at h; omega
theorem u8_of (y : Int) (h0 : 0 ≤ y) (h1 : y ≤ 255) : ∃ x : UInt8, y = ((x.toNat : Nat) : Int) := ⟨UInt8.ofNat y.toNat, by rw [UInt8.toNat_ofNat_of_lt' (show y.toNat < 256 by omega)]; omega⟩
set_option maxHeartbeats 1600000 in
theorem implBytes_any (k y : Int) (w : World) :
    Calls Try.prog 13 #[.agg #[.int .i64 k, .int .i64 y]] w fun e w' => e = .returned (.string (bytesV k y)) ∧ Below w.heap.size w w' := by
  have HR := Lib.hid (implKey_any k y)
  cases hb : keyB k y
  · have HV := Lib.hid (bytesV_bad hb)
    rw [hb] at HR
    clear hb
    go_enter Try.func13, Try.ntmps13
    go_wp2_with fail
    refine (HR.out _).mono ?_
    rintro e w1 ⟨rfl, hb1⟩
    have HB := Lib.hid (bthen ((Below.refl _ w).alloc (Nat.le_refl _) _) hb1 (by simp))
    clear hb1
    go_wp2
    go_ret
    exact ⟨by rw [HV.out]; rfl, HB.out⟩
  · rw [hb] at HR
    by_cases hk : k = 1 ∨ k = 25
    · obtain ⟨y0, y1⟩ := keyB_byte hb hk
      have hv := bytesV_one hb hk
      obtain ⟨x, rfl⟩ := u8_of y y0 y1
      rw [Int.toNat_natCast, UInt8.ofNat_toNat] at hv
      have HV := Lib.hid hv
      have hlt := x.toNat_lt
      have hwr : IntKind.u8.wrap ((x.toNat : Nat) : Int) = x.toNat := by simp [IntKind.wrap, IntKind.bits, IntKind.signed]; omega
      clear hb hv
      rcases hk with rfl | rfl
      all_goals
        go_enter Try.func13, Try.ntmps13
        go_wp2_with fail
        refine (HR.out _).mono ?_
        rintro e w1 ⟨rfl, hb1⟩
        have HB := Lib.hid (bthen ((Below.refl _ w).alloc (Nat.le_refl _) _) hb1 (by simp))
        obtain ⟨p0, _⟩ := keepC hb1 (g := w.heap.size) (by simp)
        clear hb1
        go_wp2_with fail
        refine (oneByte_any _ _).mono ?_
        rintro e w2 ⟨rfl, hb2⟩
        have HB2 := Lib.hid (bthen HB.out hb2 HB.out.size)
        clear hb2
        go_wp2
        go_ret
        exact ⟨by rw [HV.out]; rfl, HB2.out⟩
    · have h1 : ¬ k = 1 := fun e => hk (.inl e)
      have h2 : ¬ k = 25 := fun e => hk (.inr e)
      obtain ⟨k0, k1⟩ := keyB_kind hb h1 h2
      obtain ⟨i, j, e1, e2, e3⟩ := rows_alike k.toNat (by omega) (by omega)
      rw [Int.toNat_of_nonneg (by omega)] at e1 e2
      have HV := Lib.hid (bytesV_row hb h1 h2 e2)
      have HF := Lib.hid (first_any k i e1)
      rw [e3] at HF
      obtain ⟨T, hT⟩ : ∃ T, T = mB j := ⟨_, rfl⟩
      rw [← hT] at HF HV
      have d1 : (k == 1) = false := by simpa using h1
      have d2 : (k == 25) = false := by simpa using h2
      clear hb hk e1 e2 e3 hT h1 h2
      go_enter Try.func13, Try.ntmps13
      go_wp2_with fail
      refine (HR.out _).mono ?_
      rintro e w1 ⟨rfl, hb1⟩
      have HB := Lib.hid (bthen ((Below.refl _ w).alloc (Nat.le_refl _) _) hb1 (by simp))
      obtain ⟨p0, _⟩ := keepC hb1 (g := w.heap.size) (by simp)
      clear hb1
      go_wp2_with fail
      refine (HF.out _).mono ?_
      rintro e w2 ⟨rfl, hb2⟩
      have HB2 := Lib.hid (bthen HB.out hb2 HB.out.size)
      clear hb2
      go_wp2
      go_ret
      exact ⟨by rw [HV.out]; rfl, HB2.out⟩
set_option maxHeartbeats 1600000 in
theorem specBytes_any (k y : Int) (w : World) :
    Calls Try.prog 17 #[.agg #[.int .i64 k, .int .i64 y]] w fun e w' => e = .returned (.string (bytesV k y)) ∧ Below w.heap.size w w' := by
  have HR := Lib.hid (specKey_any k y)
  cases hb : keyB k y
  · have HV := Lib.hid (bytesV_bad hb)
    rw [hb] at HR
    clear hb
    go_enter Try.func17, Try.ntmps17
    go_wp2_with fail
    refine (HR.out _).mono ?_
    rintro e w1 ⟨rfl, hb1⟩
    have HB := Lib.hid (bthen ((Below.refl _ w).alloc (Nat.le_refl _) _) hb1 (by simp))
    clear hb1
    go_wp2
    go_ret
    exact ⟨by rw [HV.out]; rfl, HB.out⟩
  · rw [hb] at HR
    have HBB := Lib.hid hb
    clear hb
    go_enter Try.func17, Try.ntmps17
    go_wp2_with fail
    refine (HR.out _).mono ?_
    rintro e w1 ⟨rfl, hb1⟩
    have HB := Lib.hid (bthen ((Below.refl _ w).alloc (Nat.le_refl _) _) hb1 (by simp))
    obtain ⟨p0, _⟩ := keepC hb1 (g := w.heap.size) (by simp)
    have k0 : w1.cell? ⟨w.heap.size, 0, none⟩ = some (.int .i64 k) := by rw [p0, World.cell?_alloc_at _ _ _ _ rfl]; rfl
    have k1 : w1.cell? ⟨w.heap.size, 1, none⟩ = some (.int .i64 y) := by rw [p0, World.cell?_alloc_at _ _ _ _ rfl]; rfl
    clear hb1 p0
    go_wp2_with fail
    refine (rows_any _).mono ?_
    rintro e w2 ⟨g, h, rfl, hr, hb2⟩
    have HB2 := Lib.hid (bthen HB.out hb2 HB.out.size)
    have HRW := Lib.hid hr
    have k2 : w2.cell? ⟨w.heap.size, 0, none⟩ = some (.int .i64 k) := by rw [hb2.cell (p := ⟨w.heap.size, 0, none⟩) (blk_lt k0)]; exact k0
    have k3 : w2.cell? ⟨w.heap.size, 1, none⟩ = some (.int .i64 y) := by rw [hb2.cell (p := ⟨w.heap.size, 1, none⟩) (blk_lt k1)]; exact k1
    clear hb2 hr k0 k1
    go_wp2
    go_loopw [5] (fun iv wr => ∃ i q : Nat, i ≤ 29 ∧ iv = .int .i64 i ∧ mRowOfK k i = none ∧ wr = w2.drewN q) (fun iv _ => 29 - (intOf iv).toNat)
    case atStart => exact ⟨0, 0, Nat.zero_le _, rfl, rfl, rfl⟩
    case round =>
      obtain ⟨i, q, hi, rfl, hn, rfl⟩ := hrel
      have HN := Lib.hid hn
      clear hn
      by_cases hlt : i < 29
      · have c0 := HRW.out.text i hlt
        have c1 := HRW.out.kind i hlt
        have HA := Lib.hid (fun e : mK i = k => mrow_up (mrow_hit HN.out e) 29 (by omega))
        have HM := Lib.hid (fun e : ¬ mK i = k => mrow_miss HN.out e)
        obtain ⟨K, hK⟩ : ∃ K, K = mK i := ⟨_, rfl⟩
        obtain ⟨T, hT⟩ : ∃ T, T = mB i := ⟨_, rfl⟩
        rw [← hK] at c1 HA HM
        rw [← hT] at c0
        have HTT := Lib.hid hT
        clear hK hT
        by_cases he : K = k
        · have HE := Lib.hid (HA.out he)
          subst he
          go_wp2
          go_quiet (fail)
          go_wp2
          go_ret
          have h12 : ¬ K = 1 ∧ ¬ K = 25 := by
            have hh := HE.out
            constructor
            · intro e1
              rw [e1, none_alike.1] at hh
              cases hh
            · intro e1
              rw [e1, none_alike.2] at hh
              cases hh
          exact ⟨by rw [bytesV_row HBB.out h12.1 h12.2 HE.out, ← HTT.out]; rfl, HB2.out.trans (draws_below _ _ _)⟩
        · have HE := Lib.hid (HM.out he)
          have hd : (K == k) = false := by simpa using he
          clear he
          go_wp2
          go_quiet (fail)
          go_wp2
          go_roundw
          case rel => exact ⟨i + 1, _, by omega, by go_num, HE.out, rfl⟩
          case measure => simp [intOf]; omega
      · obtain rfl : i = 29 := by omega
        have hk : k = 1 ∨ k = 25 := by
          by_cases h1 : k = 1
          · exact .inl h1
          by_cases h2 : k = 25
          · exact .inr h2
          exfalso
          obtain ⟨q0, q1⟩ := keyB_kind HBB.out h1 h2
          obtain ⟨i, j, e1, e2, e3⟩ := rows_alike k.toNat (by omega) (by omega)
          rw [Int.toNat_of_nonneg (by omega), HN.out] at e2
          cases e2
        obtain ⟨y0, y1⟩ := keyB_byte HBB.out hk
        have hv := bytesV_one HBB.out hk
        obtain ⟨x, rfl⟩ := u8_of y y0 y1
        rw [Int.toNat_natCast, UInt8.ofNat_toNat] at hv
        have HV := Lib.hid hv
        have hlt2 := x.toNat_lt
        have hwr : IntKind.u8.wrap ((x.toNat : Nat) : Int) = x.toNat := by simp [IntKind.wrap, IntKind.bits, IntKind.signed]; omega
        have hcv := conv_one x (w2.drewN q)
        have hcv2 : (convert 22 9 (.slice (some ⟨w2.heap.size, 0, none⟩) 1 1)).run Try.prog ((w2.drewN q).alloc (.cells #[.int .u8 (x.toNat : Nat)] 5)) = .ok (.string (oneB x)) ((w2.drewN q).alloc (.cells #[.int .u8 (x.toNat : Nat)] 5)) := conv_one x (w2.drewN q)
        obtain ⟨O, hO⟩ : ∃ O, O = oneB x := ⟨_, rfl⟩
        rw [← hO] at hcv hcv2 HV
        clear hk hv hO
        go_wp2
        go_ret
        exact ⟨by rw [HV.out]; rfl, (HB2.out.trans (draws_below _ _ _)).alloc HB2.out.size _⟩
set_option maxHeartbeats 1600000 in
theorem walkBytesOf (a0 a1 : Int) (_ : (Lit.int .i64 a0).wf = true) (_ : (Lit.int .i64 a1).wf = true) (w : World) :
    Calls Try.prog 6 #[.agg #[.int .i64 a0, .int .i64 a1]] w fun e w' => e = .returned (.bool true) ∧ Below w.heap.size w w' := by
  have HS := Lib.hid (specBytes_any a0 a1)
  have HI := Lib.hid (implBytes_any a0 a1)
  obtain ⟨B, hB⟩ : ∃ B, B = bytesV a0 a1 := ⟨_, rfl⟩
  rw [← hB] at HS HI
  clear hB
  go_enter Try.func6, Try.ntmps6
  go_wp2_with fail
  refine (toKey_any _ _ _).mono ?_
  rintro e w1 ⟨rfl, h1⟩
  obtain ⟨p1, _⟩ := keepC h1 (g := w.heap.size) (by simp)
  have H1 := Lib.hid (bthen ((Below.refl _ w).alloc (Nat.le_refl _) _) h1 (by simp))
  have z1 : w.heap.size < w1.heap.size := by have := h1.size; simp at this; omega
  clear h1
  go_wp2_with fail
  refine (HS.out _).mono ?_
  rintro e w2 ⟨rfl, h2⟩
  obtain ⟨p2, _⟩ := keepC h2 (g := w.heap.size) z1
  have H2 := Lib.hid (bthen H1.out h2 H1.out.size)
  have z2 : w.heap.size < w2.heap.size := by have := h2.size; omega
  clear h2
  go_wp2_with fail
  refine (toKey_any _ _ _).mono ?_
  rintro e w3 ⟨rfl, h3⟩
  have H3 := Lib.hid (bthen H2.out h3 H2.out.size)
  clear h3
  go_wp2_with fail
  refine (HI.out _).mono ?_
  rintro e w4 ⟨rfl, h4⟩
  have H4 := Lib.hid (bthen H3.out h4 H3.out.size)
  clear h4
  go_wp2
  go_ret
  exact ⟨rfl, H4.out⟩
end Go.Proofs.Ytbefoalecogmbaa.key
