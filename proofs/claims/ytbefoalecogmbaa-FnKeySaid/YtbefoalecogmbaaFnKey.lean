/-
  The walk of FnKey: of whatever bytes the keys are right ones; more bytes turn none that was there; each but those of no use comes back from its bytes. For every two codes.
-/
import Derived.Test.YtbefoalecogmbaaKeyDraws2
import Derived.Test.YtbefoalecogmbaaOpenBytes
import Derived.Test.YtbefoalecogmbaaFnKeyMath
namespace Go.Proofs.Ytbefoalecogmbaa.key
open Go.ChangeShapes Go.WideShapes Go.ChangeAt Go.RowKit
open Go.Proofs.Ytbefoalecogmbaa.src
/-- a number out of a code -/
theorem lwAt_zero (a : Option Addr) (n C most : Nat) (hm : 1 ≤ most) (hm2 : most ≤ 1000000) (hn : n ≤ 1048576) (N : Nat) (w : World) (hb : BytesA N a n w) :
    Calls Try.prog 20 #[.slice a n C, .int .i64 0, .int .i64 (most : Nat)] w fun e w' => ∃ r : Nat, e = .returned (.int .i64 (r : Nat)) ∧ r < most ∧ Below w.heap.size w w' := by
  by_cases h1 : most = 1
  · have d1 : (most : Int) ≤ 1 := by omega
    have d2 : decide ((most : Int) ≤ 1) = true := decide_eq_true d1
    go_enter Try.func20, Try.ntmps20
    go_wp2
    go_ret
    exact ⟨0, rfl, by omega, (Below.refl _ w)⟩
  have d1 : ¬ (most : Int) ≤ 1 := by omega
  by_cases h0 : n = 0
  · subst h0
    go_enter Try.func20, Try.ntmps20
    go_wp2
    go_ret
    exact ⟨0, rfl, by omega, (Below.refl _ w)⟩
  · obtain ⟨b, o, v, rfl, hbN, hv, hc⟩ := hb 0 (by omega)
    have d2 : ¬ (n : Int) = 0 := by omega
    have d3 : 0 < n := by omega
    rw [Nat.add_zero] at hc
    go_enter Try.func20, Try.ntmps20
    go_wp2
    go_ret
    exact ⟨v % most, rfl, Nat.mod_lt _ (by omega), (Below.refl _ w)⟩
set_option maxHeartbeats 1600000 in
/-- two lists of the same keys -/
theorem lwKeys_same (a b : Option Addr) (C D : Nat) (l : List KK) (hn : l.length ≤ 1048576) (w : World) (ha : KRow w a l) (hb : KRow w b l) :
    Calls Try.prog 14 #[.slice a l.length C, .slice b l.length D] w fun e w' => e = .returned (.bool true) ∧ Below w.heap.size w w' := by
  obtain ⟨n, hn'⟩ : ∃ n, n = l.length := ⟨_, rfl⟩
  have HA := Lib.hid ha
  have HB := Lib.hid hb
  have HN := Lib.hid hn'
  rw [← hn'] at hn ⊢
  clear ha hb hn'
  go_enter Try.func14, Try.ntmps14
  go_wp2
  go_loopw [5] (fun i w' => ∃ k : Nat, k ≤ n ∧ i = .int .i64 k ∧ Below w.heap.size w w') (fun i _ => n - (intOf i).toNat)
  case atStart => exact ⟨0, Nat.zero_le _, rfl, Below.refl _ _⟩
  case round =>
    obtain ⟨k, hk, rfl, hbel⟩ := hrel
    rename World => wr
    have HBB := Lib.hid hbel
    by_cases hlt : k < n
    · obtain ⟨g, rfl, g1, g2⟩ := (HA.out.below hbel).at (i := k) (by rw [← HN.out]; exact hlt)
      obtain ⟨h, rfl, h1, h2⟩ := (HB.out.below hbel).at (i := k) (by rw [← HN.out]; exact hlt)
      obtain ⟨⟨K, Y⟩, hK⟩ : ∃ d, d = l[k]'(by rw [← HN.out]; exact hlt) := ⟨_, rfl⟩
      rw [← hK] at g1 g2 h1 h2
      dsimp only at g1 g2 h1 h2
      clear hbel hK
      go_wp2
      go_quiet (fail)
      go_wp2
      go_roundw
      case rel => exact ⟨k + 1, by omega, by go_num, HBB.out.trans (draws_below _ _ _)⟩
      case measure => simp [intOf]; omega
    · clear hbel
      go_wp2
      go_ret
      exact ⟨rfl, HBB.out⟩
theorem KRow.take {w : World} {a : Option Addr} {l : List KK} (h : KRow w a l) (m : Nat) : KRow w a (l.take m) where
  it hl := by
    have hne : l ≠ [] := fun e => hl (by rw [e]; simp)
    obtain ⟨g, e, h1⟩ := h.it hne
    refine ⟨g, e, fun i hi => ?_⟩
    have hi' : i < l.length := by rw [List.length_take] at hi; omega
    rw [List.getElem_take]
    exact h1 i hi'
theorem keysAt_open2 {base : Nat} {w : World} {v : Value} {l : List KK} (h : KeysAt base w v l) : ∃ a c, v = .slice a l.length c ∧ l.length ≤ c ∧ c ≤ maxLen ∧ KRow w a l := by
  have h0 := h
  obtain ⟨h1, ⟨rfl, hn⟩ | ⟨g, cap, cur, rfl, h2, h3, h4, h5, h6, h7⟩⟩ := h
  · have hl : l = [] := List.eq_nil_of_length_eq_zero hn
    subst hl
    exact ⟨none, 0, rfl, Nat.le_refl _, Nat.zero_le _, ⟨fun e => absurd rfl e⟩⟩
  · refine ⟨_, _, rfl, h4, h5, ⟨fun _ => ⟨g, rfl, fun i hi => ⟨?_, ?_⟩⟩⟩⟩
    · rw [h0.cellAt (i * 2) (by omega)]; exact (kCells_at l i hi).1
    · rw [h0.cellAt (i * 2 + 1) (by omega)]; exact (kCells_at l i hi).2
theorem mB_small (i : Nat) : (mB i).size ≤ 3 := by
  by_cases h : i < 29
  · exact mB_size i h
  · unfold mB
    rw [List.getD_eq_getElem?_getD, List.getElem?_eq_none (show mRows.length ≤ i by show 29 ≤ i; omega)]
    exact Nat.zero_le _
theorem lwKeys_one (a b : Option Addr) (C D : Nat) (k y : Int) (w : World) (ha : KRow w a [(k, y)]) (hb : KRow w b [(k, y)]) :
    Calls Try.prog 14 #[.slice a 1 C, .slice b 1 D] w fun e w' => e = .returned (.bool true) ∧ Below w.heap.size w w' :=
  lwKeys_same a b C D [(k, y)] (by simp) w ha hb
theorem keys_one (S : ByteArray) (k y : Int) (h : keysV S = [(k, y)]) (hs : S.size ≤ maxLen) (w : World) :
    Calls Try.prog 9 #[.string S] w fun e w' => ∃ a c, e = .returned (.slice a 1 c) ∧ KRow w' a [(k, y)] ∧ Below w.heap.size w w' := by
  refine (implKeys_any S hs w).mono ?_
  rintro e w' ⟨v, rfl, ho, hb⟩
  rw [h] at ho
  obtain ⟨a, c, rfl, _, _, hl⟩ := keysAt_open2 ho
  exact ⟨a, c, rfl, hl, hb⟩
theorem krow_new (w : World) (k y : Int) : KRow (w.alloc (.cells #[.int .i64 k, .int .i64 y] 29)) (some ⟨w.heap.size, 0, none⟩) [(k, y)] where
  it _ := ⟨_, rfl, fun i hi => by
    obtain rfl : i = 0 := by simp at hi; omega
    exact ⟨by rw [World.cell?_alloc_at _ _ _ _ rfl]; rfl, by rw [World.cell?_alloc_at _ _ _ _ rfl]; rfl⟩⟩
theorem bytesV_size (k y : Int) : (bytesV k y).size ≤ 3 := by
  unfold bytesV
  split
  · split
    · exact (by decide : 1 ≤ 3)
    · split
      · rename_i i hi
        exact mB_small i
      · exact Nat.zero_le _
  · exact Nat.zero_le _
/-- what stands through the law: the keys, x and k in their blocks -/
structure FS (w : World) (a : Option Addr) (L : List KK) (xb : Nat) (xw : ByteArray) (xk xy : Int) (xh : Bool) (xc : Int) (kb : Nat) (kk ky : Int) (W : World) : Prop where
  l_ : KRow W a L
  x0 : W.cell? ⟨xb, 0, none⟩ = some (.string xw)
  x1 : W.cell? ⟨xb, 1, none⟩ = some (.int .i64 xk)
  x2 : W.cell? ⟨xb, 2, none⟩ = some (.int .i64 xy)
  x3 : W.cell? ⟨xb, 3, none⟩ = some (.bool xh)
  x4 : W.cell? ⟨xb, 4, none⟩ = some (.int .i64 xc)
  k0 : W.cell? ⟨kb, 0, none⟩ = some (.int .i64 kk)
  k1 : W.cell? ⟨kb, 1, none⟩ = some (.int .i64 ky)
  bel : Below w.heap.size w W
section
variable {w W W' : World} {a : Option Addr} {L : List KK} {xb kb : Nat} {xw : ByteArray} {xk xy xc kk ky : Int} {xh : Bool}
theorem FS.below (h : FS w a L xb xw xk xy xh xc kb kk ky W) (hb : Below W.heap.size W W') : FS w a L xb xw xk xy xh xc kb kk ky W' where
  l_ := h.l_.below hb
  x0 := by rw [hb.cell (p := ⟨xb, 0, none⟩) (blk_lt h.x0)]; exact h.x0
  x1 := by rw [hb.cell (p := ⟨xb, 1, none⟩) (blk_lt h.x1)]; exact h.x1
  x2 := by rw [hb.cell (p := ⟨xb, 2, none⟩) (blk_lt h.x2)]; exact h.x2
  x3 := by rw [hb.cell (p := ⟨xb, 3, none⟩) (blk_lt h.x3)]; exact h.x3
  x4 := by rw [hb.cell (p := ⟨xb, 4, none⟩) (blk_lt h.x4)]; exact h.x4
  k0 := by rw [hb.cell (p := ⟨kb, 0, none⟩) (blk_lt h.k0)]; exact h.k0
  k1 := by rw [hb.cell (p := ⟨kb, 1, none⟩) (blk_lt h.k1)]; exact h.k1
  bel := bthen h.bel hb h.bel.size
end
set_option maxHeartbeats 6400000 in
set_option maxRecDepth 100000 in
theorem walkFnKey (a0 : Option Addr) (n0 C0 : Nat) (a1 : Option Addr) (n1 C1 : Nat) (w : World) (h0 : BytesA w.heap.size a0 n0 w) (h1 : BytesA w.heap.size a1 n1 w) :
    Calls Try.prog 3 #[.slice a0 n0 C0, .slice a1 n1 C1] w fun e w' => e = .returned (.bool true) ∧ Below w.heap.size w w' := by
  by_cases hn0 : (1048576 : Int) < n0
  · go_enter Try.func3, Try.ntmps3
    go_wp2
    go_ret
    exact ⟨rfl, Below.refl _ _⟩
  by_cases hn1 : (1048576 : Int) < n1
  · go_enter Try.func3, Try.ntmps3
    go_wp2
    go_ret
    exact ⟨rfl, Below.refl _ _⟩
  have H1 := Lib.hid h1
  go_enter Try.func3, Try.ntmps3
  go_wp2_with fail
  refine (drawKeysOf_any a0 n0 C0 (by omega) w.heap.size _ h0 (Nat.le_refl _)).mono ?_
  rintro e w1 ⟨t, rfl, ht, hb1⟩
  have HB1 := Lib.hid hb1
  clear h0 h1 hb1
  go_wp2_with fail
  refine (implKeys_any t (by unfold maxLen; omega) _).mono ?_
  rintro e w2 ⟨v, rfl, ho, hb2⟩
  obtain ⟨la, lc, rfl, hlc, hcm, hl⟩ := keysAt_open2 ho
  have HL2 := Lib.hid hl
  have HB2 := Lib.hid (bthen HB1.out hb2 HB1.out.size)
  have hln := keysV_len t
  obtain ⟨L, hL⟩ : ∃ L, L = keysV t := ⟨_, rfl⟩
  rw [← hL] at HL2 hln hlc ⊢
  have HL := Lib.hid hL
  clear ho hb2 hl hL HB1
  go_wp2_with fail
  refine (drawKeyOf_any a1 n1 C1 (by omega) w.heap.size _ (H1.out.below HB2.out)).mono ?_
  rintro e w3 ⟨q, qb, rfl, hq, hb3⟩
  have HL3 := Lib.hid (HL2.out.below hb3)
  have HB3 := Lib.hid (bthen HB2.out hb3 HB2.out.size)
  clear hb3 HL2 HB2
  have HKS := Lib.hid (specKeyOf_any q qb (by unfold maxLen; omega))
  have HKI := Lib.hid (implKeyOf_any q qb (by unfold maxLen; omega))
  obtain ⟨xw, xk, xy, xh, xc, hx⟩ := keyOfV_ko q qb
  rw [hx] at HKS HKI
  unfold koV at HKS HKI
  clear hx
  go_wp2_with fail
  refine (HKI.out _).mono ?_
  rintro e w4 ⟨rfl, hb4⟩
  have hal4 := (Below.refl _ w4).alloc (Nat.le_refl _) (.cells #[.string xw, .int .i64 xk, .int .i64 xy, .bool xh, .int .i64 xc] 31)
  have HL4 := Lib.hid ((HL3.out.below hb4).below hal4)
  have HB4 := Lib.hid (bthen (bthen HB3.out hb4 HB3.out.size) hal4 (by have := HB3.out.size; have := hb4.size; omega))
  clear hb4 hal4 HL3 HB3
  go_wp2_with fail
  refine (drawBytesOf_any a1 n1 C1 (by omega) w.heap.size _ (H1.out.below HB4.out) HB4.out.size).mono ?_
  rintro e w5 ⟨kk, ky, rfl, hb5⟩
  have z4 : w4.heap.size < w5.heap.size := by have := hb5.size; simp at this; omega
  have hx5 : ∀ o, w5.cell? ⟨w4.heap.size, o, none⟩ = #[Value.string xw, .int .i64 xk, .int .i64 xy, .bool xh, .int .i64 xc][o]? := fun o => by
    rw [hb5.cell (p := ⟨w4.heap.size, o, none⟩) (by show w4.heap.size < _; simp), World.cell?_alloc_at _ _ _ _ rfl]
  have hal5 := (Below.refl _ w5).alloc (Nat.le_refl _) (.cells #[.int .i64 kk, .int .i64 ky] 29)
  have HS0 := Lib.hid (show FS w la L w4.heap.size xw xk xy xh xc w5.heap.size kk ky (w5.alloc (.cells #[.int .i64 kk, .int .i64 ky] 29)) from
    ⟨(HL4.out.below hb5).below hal5, by rw [old_cell z4, hx5]; rfl, by rw [old_cell z4, hx5]; rfl, by rw [old_cell z4, hx5]; rfl, by rw [old_cell z4, hx5]; rfl, by rw [old_cell z4, hx5]; rfl,
      by rw [World.cell?_alloc_at _ _ _ _ rfl]; rfl, by rw [World.cell?_alloc_at _ _ _ _ rfl]; rfl, bthen (bthen HB4.out hb5 HB4.out.size) hal5 (by have := HB4.out.size; have := hb5.size; omega)⟩)
  obtain ⟨xb, hxb⟩ : ∃ xb, xb = w4.heap.size := ⟨_, rfl⟩
  obtain ⟨kb, hkb⟩ : ∃ kb, kb = w5.heap.size := ⟨_, rfl⟩
  rw [← hxb, ← hkb] at HS0
  clear hb5 hx5 hal5 HL4 HB4
  have HKB := Lib.hid (implBytes_any kk ky)
  have HSB := Lib.hid (specBytes_any kk ky)
  have HKR := Lib.hid (implKey_any kk ky)
  have HSR := Lib.hid (specKey_any kk ky)
  obtain ⟨S, hS⟩ : ∃ S, S = bytesV kk ky := ⟨_, rfl⟩
  obtain ⟨R, hR⟩ : ∃ R, R = keyB kk ky := ⟨_, rfl⟩
  rw [← hS] at HKB HSB
  rw [← hR] at HKR HSR
  have HS := Lib.hid hS
  have HR := Lib.hid hR
  clear hS hR z4
  go_wp2_with fail
  rw [← hxb, ← hkb]
  clear hxb hkb
  refine (HKB.out _).mono ?_
  rintro e w6 ⟨rfl, hb6⟩
  have HF := Lib.hid (HS0.out.below hb6)
  clear hb6
  go_wp2_with fail
  have HF := Lib.hid (HF.out.below (drew_below w6))
  have y0 : w6.cell? ⟨xb, 0, none⟩ = _ := HF.out.x0
  have y1 : w6.cell? ⟨xb, 1, none⟩ = _ := HF.out.x1
  have y2 : w6.cell? ⟨xb, 2, none⟩ = _ := HF.out.x2
  have y3 : w6.cell? ⟨xb, 3, none⟩ = _ := HF.out.x3
  have y4 : w6.cell? ⟨xb, 4, none⟩ = _ := HF.out.x4
  have y5 : w6.cell? ⟨kb, 0, none⟩ = _ := HF.out.k0
  have y6 : w6.cell? ⟨kb, 1, none⟩ = _ := HF.out.k1
  go_region_held3 (fun w' => w'.cell? ⟨xb, 0, none⟩ = some (.string xw) ∧ w'.cell? ⟨xb, 1, none⟩ = some (.int .i64 xk) ∧ w'.cell? ⟨xb, 2, none⟩ = some (.int .i64 xy) ∧ w'.cell? ⟨xb, 3, none⟩ = some (.bool xh) ∧ w'.cell? ⟨xb, 4, none⟩ = some (.int .i64 xc) ∧ w'.cell? ⟨kb, 0, none⟩ = some (.int .i64 kk) ∧ w'.cell? ⟨kb, 1, none⟩ = some (.int .i64 ky)) (go_keep)
    (first
      | (go_at_call 15
         refine (specKeys_any t (by unfold maxLen; omega) _).mono ?_
         rintro e W7 ⟨v7, rfl, ho, hb⟩
         obtain ⟨sa, sc, rfl, _, _, hl⟩ := keysAt_open2 ho
         rw [← HL.out] at hl ⊢
         have HSP := Lib.hid hl
         clear ho hl
         have HF := Lib.hid (HF.out.below hb)
         have y0 := HF.out.x0
         have y1 := HF.out.x1
         have y2 := HF.out.x2
         have y3 := HF.out.x3
         have y4 := HF.out.x4
         have y5 := HF.out.k0
         have y6 := HF.out.k1
         clear hb)
      | (go_at_call 14
         refine (lwKeys_same la sa lc sc L (by omega) _ HF.out.l_ HSP.out).mono ?_
         rintro e W7 ⟨rfl, hb⟩
         have HF := Lib.hid (HF.out.below hb)
         have y0 := HF.out.x0
         have y1 := HF.out.x1
         have y2 := HF.out.x2
         have y3 := HF.out.x3
         have y4 := HF.out.x4
         have y5 := HF.out.k0
         have y6 := HF.out.k1
         clear hb)
      | (go_at_call 16
         refine (HKS.out _).mono ?_
         rintro e W7 ⟨rfl, hb⟩
         have HF := Lib.hid (HF.out.below hb)
         have y0 := HF.out.x0
         have y1 := HF.out.x1
         have y2 := HF.out.x2
         have y3 := HF.out.x3
         have y4 := HF.out.x4
         have y5 := HF.out.k0
         have y6 := HF.out.k1
         clear hb)
      | (go_at_call 17
         refine (HSB.out _).mono ?_
         rintro e W7 ⟨rfl, hb⟩
         have HF := Lib.hid (HF.out.below hb)
         have y0 := HF.out.x0
         have y1 := HF.out.x1
         have y2 := HF.out.x2
         have y3 := HF.out.x3
         have y4 := HF.out.x4
         have y5 := HF.out.k0
         have y6 := HF.out.k1
         clear hb)
      | (go_at_call 18
         refine (HKR.out _).mono ?_
         rintro e W7 ⟨rfl, hb⟩
         have HF := Lib.hid (HF.out.below hb)
         have y0 := HF.out.x0
         have y1 := HF.out.x1
         have y2 := HF.out.x2
         have y3 := HF.out.x3
         have y4 := HF.out.x4
         have y5 := HF.out.k0
         have y6 := HF.out.k1
         clear hb)
      | (go_at_call 19
         refine (HSR.out _).mono ?_
         rintro e W7 ⟨rfl, hb⟩
         have HF := Lib.hid (HF.out.below hb)
         have y0 := HF.out.x0
         have y1 := HF.out.x1
         have y2 := HF.out.x2
         have y3 := HF.out.x3
         have y4 := HF.out.x4
         have y5 := HF.out.k0
         have y6 := HF.out.k1
         clear hb))
  obtain ⟨m, hm⟩ : ∃ m, m = L.length := ⟨_, rfl⟩
  have HM := Lib.hid hm
  rw [← hm] at hln hlc ⊢
  clear hm y0 y1 y2 y3 y4 y5 y6
  go_wp2
  go_loopw [12] (fun iv wr => ∃ i : Nat, i ≤ m ∧ iv = .int .i64 i ∧ FS w la L xb xw xk xy xh xc kb kk ky wr) (fun iv _ => m - (intOf iv).toNat)
  case atStart => exact ⟨0, Nat.zero_le _, rfl, HF.out⟩
  case round =>
    obtain ⟨i, hi, rfl, hf⟩ := hrel
    rename World => wr
    by_cases hlt : i < m
    · have hiL : i < L.length := by rw [← HM.out]; exact hlt
      obtain ⟨lg, rfl, l0, l1⟩ := hf.l_.at hiL
      have hkb : keyB L[i].1 L[i].2 = true := keysV_right t L[i] (by rw [← HL.out]; exact List.getElem_mem hiL)
      have HI := Lib.hid (implKey_any L[i].1 L[i].2)
      rw [hkb] at HI
      obtain ⟨⟨K, Y⟩, hKY⟩ : ∃ d, d = L[i] := ⟨_, rfl⟩
      rw [← hKY] at l0 l1 HI
      dsimp only at l0 l1 HI
      have HFF := Lib.hid hf
      clear hf hkb hKY
      go_wp2_with fail
      refine (HI.out _).mono ?_
      rintro e w8 ⟨rfl, hb⟩
      have HF8 := Lib.hid (HFF.out.below hb)
      clear hb
      go_wp2
      go_roundw
      case rel => exact ⟨i + 1, by omega, by go_num, HF8.out⟩
      case measure => simp [intOf]; omega
    · obtain rfl : i = m := by omega
      have HFF := Lib.hid hf
      clear hf
      go_wp2_with fail
      have hat := lwAt_zero a1 n1 C1 (t.size + 1) (by omega) (by omega) (by omega) w.heap.size wr (H1.out.below HFF.out.bel)
      rw [show ((t.size + 1 : Nat) : Int) = (t.size : Int) + 1 by omega] at hat
      refine hat.mono ?_
      rintro e w8 ⟨r, rfl, hr, hb⟩
      have HF8 := Lib.hid (HFF.out.below hb)
      clear hb hat HFF
      have hrt : r ≤ t.size := by omega
      obtain ⟨hcut, hcl⟩ := keysV_cut (s := t) (by omega) hrt
      have hx8 := ext_size t r hrt
      have HKC := Lib.hid (implKeys_any (t.extract 0 r) (by rw [hx8]; unfold maxLen; omega))
      obtain ⟨P, hP⟩ : ∃ P, P = keysV (t.extract 0 r) := ⟨_, rfl⟩
      rw [← hP, ← HL.out] at hcut hcl
      rw [← hP] at HKC
      have HCUT := Lib.hid hcut
      have hcl2 : P.length ≤ i := by rw [HM.out]; exact hcl
      clear hcut hcl hP hx8
      go_wp2_with fail
      refine (HKC.out _).mono ?_
      rintro e w9 ⟨pv, rfl, ho, hb⟩
      obtain ⟨pa, pc, rfl, _, _, hp⟩ := keysAt_open2 ho
      have HP9 := Lib.hid hp
      have HF9 := Lib.hid (HF8.out.below hb)
      obtain ⟨pn, hpn⟩ : ∃ pn, pn = P.length := ⟨_, rfl⟩
      have HPN := Lib.hid hpn
      rw [← hpn] at hcl2 ⊢
      clear ho hb hp hpn HF8
      go_wp2_with fail
      refine (lwKeys_same pa la pc lc P (by rw [← HPN.out]; omega) w9 HP9.out (by rw [HCUT.out]; exact HF9.out.l_.take _) |> fun h => ?_)
      rw [← HPN.out] at h
      refine h.mono ?_
      rintro e w10 ⟨rfl, hb⟩
      have HF10 := Lib.hid (HF9.out.below hb)
      clear hb h HF9 HP9
      have hSz := bytesV_size kk ky
      rw [← HS.out] at hSz
      go_wp2_with fail
      have y5 := HF10.out.k0
      have y6 := HF10.out.k1
      have HFA := Lib.hid (HF10.out.below (show Below w10.heap.size w10 (w10.alloc (.cells #[.int .i64 kk, .int .i64 ky] 29)).drew from ((Below.refl _ w10).alloc (Nat.le_refl _) _).drew))
      have HB10 := Lib.hid HF10.out.bel
      have hkz := blk_lt y5
      have HF10 := Lib.hid (HF10.out.below (drew_below w10))
      cases hse : S.toList.isEmpty
      · by_cases hk : kk = 25
        · have d1 : (kk == 25) = true := by simpa using hk
          clear hk
          go_quiet (fail)
          go_wp2
          go_ret
          exact ⟨rfl, HB10.out.trans (draws_below _ _ _)⟩
        · have d1 : (kk == 25) = false := by simpa using hk
          have hR1 : R = true := by
            cases hR2 : R
            · exfalso
              rw [hR2] at HR
              have hs0 := bytesV_bad HR.out.symm
              rw [← HS.out] at hs0
              rw [hs0] at hse
              rw [ByteArray.toList_eq] at hse
              cases hse
            · rfl
          rw [hR1] at HR
          have HK1 := Lib.hid (fun W => keys_one S kk ky (by rw [HS.out]; exact back_any HR.out.symm hk) (by unfold maxLen; omega) W)
          have hk1 : Calls Try.prog 9 #[.string S] w10.drew fun e w' => ∃ sa sc, e = .returned (.slice sa 1 sc) ∧ KRow w' sa [(kk, ky)] ∧ FS w la L xb xw xk xy xh xc kb kk ky w' := by
            refine (HK1.out _).mono ?_
            rintro e W7 ⟨sa, sc, rfl, hl, hb⟩
            exact ⟨sa, sc, rfl, hl, HF10.out.below hb⟩
          have hk2 : Calls Try.prog 9 #[.string S] (w10.alloc (.cells #[.int .i64 kk, .int .i64 ky] 29)).drew fun e w' => ∃ sa sc, e = .returned (.slice sa 1 sc) ∧ KRow w' sa [(kk, ky)] ∧ KRow w' (some ⟨w10.heap.size, 0, none⟩) [(kk, ky)] ∧ FS w la L xb xw xk xy xh xc kb kk ky w' := by
            refine (HK1.out _).mono ?_
            rintro e W7 ⟨sa, sc, rfl, hl, hb⟩
            exact ⟨sa, sc, rfl, hl, ((krow_new w10 kk ky).below (drew_below _)).below hb, HFA.out.below hb⟩
          have HC1 := Lib.hid hk1
          have HC2 := Lib.hid hk2
          clear hk hk1 hk2
          go_region_held3 (fun w' => w'.cell? ⟨kb, 0, none⟩ = some (.int .i64 kk) ∧ w'.cell? ⟨kb, 1, none⟩ = some (.int .i64 ky)) (go_keep)
            (first
              | (go_at_call 9
                 refine HC1.out.mono ?_
                 rintro e W7 ⟨sa, sc, rfl, hl, hf⟩
                 have HSP := Lib.hid hl
                 have HF10 := Lib.hid hf
                 have y5 := HF10.out.k0
                 have y6 := HF10.out.k1
                 have kz := blk_lt y5
                 clear hl hf)
              | (go_at_call 9
                 refine HC2.out.mono ?_
                 rintro e W7 ⟨sa, sc, rfl, hl, hl2, hf⟩
                 have HSQ := Lib.hid hl
                 have HNB := Lib.hid hl2
                 have HF10 := Lib.hid hf
                 have y5 := HF10.out.k0
                 have y6 := HF10.out.k1
                 have kz := blk_lt y5
                 clear hl hl2 hf)
              | (go_at_call 14
                 refine (lwKeys_one sa _ sc 1 kk ky _ HSQ.out HNB.out).mono ?_
                 rintro e W8 ⟨rfl, hb⟩
                 have HF10 := Lib.hid (HF10.out.below hb)
                 have y5 := HF10.out.k0
                 have y6 := HF10.out.k1
                 clear hb)
              | (go_at_call 14
                 refine (lwKeys_one sa _ sc 1 kk ky _ (HSP.out.below ((Below.refl _ W7).alloc (Nat.le_refl _) _)) (krow_new W7 kk ky)).mono ?_
                 rintro e W8 ⟨rfl, hb⟩
                 have HF10 := Lib.hid (HF10.out.below (((Below.refl _ W7).alloc (Nat.le_refl _) (.cells #[.int .i64 kk, .int .i64 ky] 29)).trans (hb.mono (by simp))))
                 have y5 := HF10.out.k0
                 have y6 := HF10.out.k1
                 clear hb))
          all_goals
            have HE := Lib.hid HF10.out.bel
            go_wp2
            go_ret
            exact ⟨rfl, HE.out⟩
      · go_quiet (fail)
        go_wp2
        go_ret
        exact ⟨rfl, HB10.out.trans (draws_below _ _ _)⟩
end Go.Proofs.Ytbefoalecogmbaa.key
