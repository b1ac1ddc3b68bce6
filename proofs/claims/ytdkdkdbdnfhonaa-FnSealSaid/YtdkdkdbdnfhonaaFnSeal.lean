/-
  The walk of FnSeal's law. For every two rows of bytes that can be read.
-/
import Derived.Test.YtdkdkdbdnfhonaaSealMath
import Derived.Test.YtdkdkdbdnfhonaaDrawSeal
import Derived.Test.YtdkdkdbdnfhonaaBytesOf
import Derived.Deep.RegionHeld3
import Derived.Deep.RegionWith
namespace Go.Proofs.Ytdkdkdbdnfhonaa.seal_
open Go.ChangeShapes Go.WideShapes Go.ChangeAt Go.RowKit
open Go.Proofs.Ytdkdkdbdnfhonaa.crc Go.Proofs.Ytdkdkdbdnfhonaa.unseal_ Go.Proofs.Ytdkdkdbdnfhonaa.src Go.Proofs.Ytdkdkdbdnfhonaa.line
/-- a number out of a code -/
theorem lwAt_any (a : Option Addr) (n C at_ most : Nat) (ha : at_ ≤ 1) (hm : 2 ≤ most) (hm2 : most ≤ 1000000) (hn : n ≤ 1048576) (N : Nat) (w : World) (hb : BytesA N a n w) :
    Calls Try.prog 7 #[.slice a n C, .int .i64 (at_ : Nat), .int .i64 (most : Nat)] w fun e w' => ∃ r : Nat, e = .returned (.int .i64 (r : Nat)) ∧ r < most ∧ Below w.heap.size w w' := by
  have d1 : ¬ (most : Int) ≤ 1 := by omega
  by_cases h0 : n = 0
  · subst h0
    go_enter Try.func7, Try.ntmps7
    go_wp2
    go_ret
    exact ⟨0, rfl, by omega, (Below.refl _ w)⟩
  · obtain ⟨b, o, v, rfl, hbN, hv, hc⟩ := hb (at_ % n) (Nat.mod_lt _ (by omega))
    have hlt : at_ % n < n := Nat.mod_lt _ (by omega)
    have d2 : ¬ (n : Int) = 0 := by omega
    go_enter Try.func7, Try.ntmps7
    go_wp2
    go_ret
    exact ⟨v % most, rfl, Nat.mod_lt _ (by omega), (Below.refl _ w)⟩
theorem lwAt_turn (a : Option Addr) (n C : Nat) (hn : n ≤ 1048576) (N : Nat) (w : World) (hb : BytesA N a n w) :
    Calls Try.prog 7 #[.slice a n C, .int .i64 1, .int .i64 255] w fun e w' => ∃ r : Nat, e = .returned (.int .i64 (r : Nat)) ∧ r < 255 ∧ Below w.heap.size w w' :=
  lwAt_any a n C 1 255 (by omega) (by omega) (by omega) hn N w hb
/-- the row of S's bytes in the block B, a new one -/
structure RS (w : World) (B : Nat) (S : ByteArray) (W : World) : Prop where
  c_ : ∀ j, j < S.size → W.cell? ⟨B, j, none⟩ = some (.int .u8 (byteAt S j : Nat))
  f_ : ∀ j, j < S.size → W.frozen? ⟨B, j, none⟩ = false
  lt : B < W.heap.size
  ge : w.heap.size ≤ B
  bel : Below w.heap.size w W
theorem RS.below {w : World} {B : Nat} {S : ByteArray} {W W' : World} (h : RS w B S W) (hb : Below W.heap.size W W') : RS w B S W' :=
  ⟨fun j hj => (hb.cell (p := ⟨B, j, none⟩) h.lt).trans (h.c_ j hj), fun j hj => (hb.frozen (p := ⟨B, j, none⟩) h.lt).trans (h.f_ j hj), Nat.lt_of_lt_of_le h.lt hb.size, h.ge, bthen h.bel hb h.bel.size⟩
/-- one byte put in the place of another -/
def turned (S : ByteArray) (m y : Nat) : ByteArray := ⟨(S.data.toList.set m (UInt8.ofNat y)).toArray⟩
theorem turned_size (S : ByteArray) (m y : Nat) : (turned S m y).size = S.size := by
  show (S.data.toList.set m (UInt8.ofNat y)).toArray.size = S.data.size
  rw [List.size_toArray, List.length_set]; rfl
theorem turned_at {S : ByteArray} {m y : Nat} (hm : m < S.size) (hy : y < 256) (j : Nat) : byteAt (turned S m y) j = if j = m then y else byteAt S j := by
  have hl : S.data.toList.length = S.size := rfl
  rw [byteAt_opt, byteAt_opt]
  show ((S.data.toList.set m (UInt8.ofNat y))[j]?.getD 0).toNat = _
  by_cases e : j = m
  · subst e
    rw [if_pos rfl, List.getElem?_set_self (by omega)]
    show (UInt8.ofNat y).toNat = y
    rw [UInt8.toNat_ofNat']; omega
  · rw [if_neg e, List.getElem?_set_ne (by omega)]
theorem RS.turn {w : World} {B : Nat} {S : ByteArray} {W : World} (h : RS w B S W) {m y : Nat} (hm : m < S.size) (hy : y < 256) : RS w B (turned S m y) (W.setCell ⟨B, m, none⟩ (.int .u8 (y : Nat))) where
  c_ j hj := by
    rw [turned_size] at hj
    rw [turned_at hm hy]
    by_cases e : j = m
    · subst e; rw [if_pos rfl]; exact set_same (h.c_ _ hj)
    · rw [if_neg e, set_other (addr_ne (by omega))]; exact h.c_ j hj
  f_ j hj := by
    rw [turned_size] at hj
    rw [World.frozen?_setCell]; exact h.f_ j hj
  lt := by have := h.lt; simpa [World.setCell] using this
  ge := h.ge
  bel := h.bel.setCell h.ge _
theorem RS.conv {w : World} {B : Nat} {T : ByteArray} {W : World} (h : RS w B T W) (C : Nat) :
    (convert 22 9 (.slice (some ⟨B, 0, none⟩) T.size C)).run Try.prog W = .ok (.string T) W :=
  conv_row (P := Try.prog) (w := W) (g := B) (cap := C) 22 5 Try.underlying22 Try.underlying5 T.data.toList (fun j hj => by
    have := h.c_ j hj
    rw [byteAt_opt] at this
    rw [List.getD_eq_getElem?_getD]; exact this) 9 Try.underlying9
theorem xor_diff {x q : Nat} (hx : x < 256) (hq : q < 255) : ∃ y : Nat, y < 256 ∧ y ≠ x ∧ bits BinOp.xor IntKind.u8 (x : Int) (IntKind.u8.wrap (IntKind.i64.wrap (1 + (q : Int)))) = (y : Int) := by
  have e1 : IntKind.i64.wrap (1 + (q : Int)) = ((1 + q : Nat) : Int) := by rw [IntWalk.i64_in _ (by omega)]; omega
  have e2 : IntKind.u8.wrap (((1 + q : Nat)) : Int) = ((1 + q : Nat) : Int) := by
    show ((1 + q : Nat) : Int) % 256 = _
    omega
  rw [e1, e2, u8_xor_nat _ _ hx (by omega)]
  refine ⟨x ^^^ (1 + q), Nat.xor_lt_two_pow (n := 8) hx (by omega), fun e => ?_, rfl⟩
  have := congrArg (fun z => x ^^^ z) e
  simp [← Nat.xor_assoc] at this
set_option maxHeartbeats 8000000 in
set_option maxRecDepth 100000 in
theorem walkFnSeal (a0 : Option Addr) (n0 C0 : Nat) (a1 : Option Addr) (n1 C1 : Nat) (w : World) (h0 : BytesA w.heap.size a0 n0 w) (h1 : BytesA w.heap.size a1 n1 w) :
    Calls Try.prog 3 #[.slice a0 n0 C0, .slice a1 n1 C1] w fun e w' => e = .returned (.bool true) ∧ Below w.heap.size w w' := by
  by_cases hn0 : (1048576 : Int) < n0
  · go_enter Try.func3, Try.ntmps3
    go_wp2
    go_ret
    exact ⟨rfl, Below.refl _ _⟩
  by_cases hn1 : (1048576 : Int) < n1
  · go_enter Try.func3, Try.ntmps3
    go_wp2
    go_ret
    exact ⟨rfl, Below.refl _ _⟩
  have H1 := Lib.hid h1
  go_enter Try.func3, Try.ntmps3
  go_wp2_with fail
  refine (drawSeal_any w.heap.size a0 n0 C0 (by omega) _ (Nat.le_refl _) h0).mono ?_
  rintro e w1 ⟨t, rfl, ht, hb1⟩
  have HB1 := Lib.hid hb1
  clear h0 h1 hb1
  have htm : t.size ≤ maxLen := by unfold maxLen; omega
  have HTM := Lib.hid htm
  clear htm
  go_wp2_with fail
  refine (implSeal_any t HTM.out _).mono ?_
  rintro e w2 ⟨rfl, hb2⟩
  have HB2 := Lib.hid (bthen HB1.out hb2 HB1.out.size)
  clear hb2
  go_wp2_with fail
  refine (specSeal_any t HTM.out _).mono ?_
  rintro e w3 ⟨rfl, hb3⟩
  have HB3 := Lib.hid (bthen HB2.out hb3 HB2.out.size)
  clear hb3
  obtain ⟨S, hS⟩ : ∃ S, S = sealB t := ⟨_, rfl⟩
  rw [← hS]
  rcases ht with ht | ⟨ht1, ht2⟩
  · have HZ := Lib.hid (show S.size = t.size + 4 by rw [hS]; exact fits_size (by omega))
    have h4 : 4 ≤ S.size := by have := HZ.out; omega
    have h24 : S.size ≤ 24 := by have := HZ.out; omega
    have hne : S.toList.isEmpty = false := empty_f (by omega)
    have HS := Lib.hid hS
    have hcv := Lib.run_convert_string_bytes (P := Try.prog) w3 9 22 5 S Try.underlying9 Try.underlying22 Try.underlying5
    obtain ⟨hbel, hzB, hcB, hfB⟩ := bw_facts w3 S
    obtain ⟨WB, hWB⟩ : ∃ WB, WB = Lib.bytesWorld w3 5 S := ⟨_, rfl⟩
    obtain ⟨C, hC⟩ : ∃ C, C = grownCap w3 S.size 0 5 := ⟨_, rfl⟩
    rw [← hWB, ← hC] at hcv
    rw [← hWB] at hbel hzB hcB hfB
    have HR := Lib.hid (show RS w w3.heap.size S WB from ⟨hcB, hfB, by omega, HB3.out.size, bthen HB3.out hbel HB3.out.size⟩)
    obtain ⟨B, hB⟩ : ∃ B, B = w3.heap.size := ⟨_, rfl⟩
    rw [← hB] at hcv HR
    clear hS hcB hfB hbel hWB hC hzB hB
    go_wp2_with fail
    refine (lwAt_any a1 n1 C1 0 S.size (by omega) (by omega) (by omega) (by omega) w.heap.size _ (H1.out.below HR.out.bel)).mono ?_
    rintro e w4 ⟨m, rfl, hm, hb4⟩
    have HR := Lib.hid (HR.out.below hb4)
    obtain ⟨x, hx⟩ : ∃ x : Nat, x = byteAt S m := ⟨_, rfl⟩
    have hxl : x < 256 := by rw [hx]; exact byteAt_lt S m
    have y0 := HR.out.c_ m hm
    have f0 := HR.out.f_ m hm
    rw [← hx] at y0
    have HX := Lib.hid hx
    have HR := Lib.hid (HR.out.below (drew_below w4))
    clear hx hb4 hcv hne
    go_wp2_with fail
    go_region_with
      (first
        | (go_at_call 7
           refine (lwAt_turn a1 n1 C1 (by omega) w.heap.size _ (H1.out.below HR.out.bel)).mono ?_
           rintro e W7 ⟨q, rfl, hq, hb⟩
           have HR := Lib.hid (HR.out.below hb)
           have y0 := HR.out.c_ m hm
           have f0 := HR.out.f_ m hm
           rw [← HX.out] at y0
           clear hb))
    all_goals
      obtain ⟨y, hy, hyx, hv⟩ := xor_diff hxl hq
      rw [hv]
      refine absW (P := fun W => Exit.then _ _ .normal _ W) (fun W' => RS w B (turned S m y) W') (HR.out.turn hm hy) (fun W8 h8 => ?_)
      have hTz := turned_size S m y
      have hTV : unV (turned S m y) = tout ByteArray.empty 0 5 := by
        have e := HS.out
        refine unV_turned (t := t) (m := m) (by omega) (by rw [hTz, e]) (fun i hi => ?_) ?_
        · rw [turned_at hm hy, if_neg hi, ← e]
        · rw [turned_at hm hy, if_pos rfl, ← e, ← HX.out]; exact fun e => hyx e.symm
      have hSV : unV S = tout t 0 0 := by rw [HS.out]; exact unV_seal (by omega)
      generalize turned S m y = T at h8 hTz hTV
      have HR8 := Lib.hid h8
      have HTV := Lib.hid (hTV.trans (tout_def _ _ _))
      have HSV := Lib.hid (hSV.trans (tout_def _ _ _))
      have HTL := Lib.hid (show T.size ≤ maxLen by rw [hTz]; unfold maxLen; omega)
      have HSL := Lib.hid (show S.size ≤ maxLen by unfold maxLen; omega)
      have hcs := h8.conv C
      rw [hTz] at hcs
      have HTZ := Lib.hid hTz
      clear h8 hTV hSV hTz hv hyx y0 f0
    all_goals
      clear hcs
      go_wp2_with fail
      refine (implUn_any S HSL.out _).mono ?_
      rintro e W9 ⟨rfl, hb9⟩
      rw [HSV.out]
      have HR9 := Lib.hid (HR8.out.below hb9)
      have hcs := HR9.out.conv C
      rw [HTZ.out] at hcs
      clear hb9 HR8
      go_wp2_with fail
      refine (implUn_any T HTL.out _).mono ?_
      rintro e W10 ⟨rfl, hb10⟩
      rw [HTV.out]
      have HR10 := Lib.hid (HR9.out.below hb10)
      clear hb10 HR9 hcs
      have hfld : ∀ W : World, (Instr.field 27 (.agg #[.string ByteArray.empty, .int .i64 0, .int .i64 5]) 2).run Try.prog W = .ok (.int .i64 5) W := fun _ => by kernel_rfl
      go_wp2_with fail
      refine (drawCrcMore_any w.heap.size a1 n1 C1 (by omega) _ HR10.out.bel.size (H1.out.below HR10.out.bel)).mono ?_
      rintro e w11 ⟨c, u, rfl, hu, hb11⟩
      have HB11 := Lib.hid (bthen HR10.out.bel hb11 HR10.out.bel.size)
      have HU := Lib.hid (show u.size ≤ maxLen by unfold maxLen; omega)
      have HTU := Lib.hid (show (t ++ u).size ≤ maxLen by rw [ByteArray.size_append]; unfold maxLen; omega)
      have HC := Lib.hid (crc_on t u (by omega))
      clear hb11 HR10
      go_wp2_with fail
    all_goals
      refine (implMore_all c u HU.out _).mono ?_
      rintro e wx ⟨rfl, rfl⟩
      go_wp2_with fail
      refine (specMore_all c u HU.out _).mono ?_
      rintro e wx ⟨rfl, rfl⟩
      go_wp2_with fail
      refine (implCrc_all t HTM.out _).mono ?_
      rintro e wx ⟨rfl, rfl⟩
      go_wp2_with fail
      refine (implMore_all (crcFrom 0 t) u HU.out _).mono ?_
      rintro e wx ⟨rfl, rfl⟩
      rw [HC.out]
      go_wp2_with fail
      refine (implCrc_all (t ++ u) HTU.out _).mono ?_
      rintro e wx ⟨rfl, rfl⟩
      go_wp2
      go_ret
      exact ⟨rfl, HB11.out⟩
  · have hS0 : S = ByteArray.empty := by rw [hS]; unfold sealB; rw [if_pos (by omega)]
    have he : ByteArray.empty.toList.isEmpty = true := empty_t (by decide)
    subst hS0
    clear hS
    go_wp2_with fail
    refine (drawCrcMore_any w.heap.size a1 n1 C1 (by omega) _ HB3.out.size (H1.out.below HB3.out)).mono ?_
    rintro e w11 ⟨c, u, rfl, hu, hb11⟩
    have HB11 := Lib.hid (bthen HB3.out hb11 HB3.out.size)
    have d8 : (8000 : Int) < (t.size : Int) + (u.size : Int) := by omega
    have hw : IntKind.i64.wrap ((t.size : Int) + (u.size : Int)) = (t.size : Int) + (u.size : Int) := IntWalk.i64_in _ (by omega)
    clear hb11
    go_wp2
    go_ret
    exact ⟨rfl, HB11.out⟩
end Go.Proofs.Ytdkdkdbdnfhonaa.seal_
