/-
  The walk of StreamRead's law. For every text that the row reads; of the library's variables it asks what the row tells.
-/
import Derived.Test.YtlhfgpcanfpnfaaDoorStreamRdS
import Derived.Test.YtlhfgpcanfpnfaaDoorFrameMark
namespace Go.Proofs.YtlhfgpcanfpnfaaDoor.frames
open Go.ChangeShapes Go.WideShapes Go.ChangeAt Go.RowKit Go.Deep
open Go.Proofs.YtlhfgpcanfpnfaaDoor.strs Go.Proofs.YtlhfgpcanfpnfaaDoor.frame Go.Proofs.YtlhfgpcanfpnfaaDoor.varb
theorem eqSO_same (a b : Option Addr) (C D : Nat) (l : List FT) (c : Int) (hn : l.length ≤ 1048576) (w : World) (ha : FRow w a l) (hb : FRow w b l) :
    Calls Tryd.prog 10 #[.agg #[.slice a l.length C, .int .i64 c], .agg #[.slice b l.length D, .int .i64 c]] w fun e w' => e = .returned (.bool true) ∧ Below w.heap.size w w' := by
  have hal := ((Below.refl _ w).alloc (Nat.le_refl _) (.cells #[.slice a l.length C, .int .i64 c] 31)).alloc (by simp) (.cells #[.slice b l.length D, .int .i64 c] 31)
  have HE := Lib.hid (eqFrameS_same a b C D l hn _ (ha.below hal) (hb.below hal))
  have HB := Lib.hid hal
  obtain ⟨n, hn'⟩ : ∃ n, n = l.length := ⟨_, rfl⟩
  rw [← hn'] at HE HB ⊢
  clear hal hn' ha hb
  go_enter Tryd.func10, Tryd.ntmps10
  go_wp2_with fail
  refine HE.out.mono ?_
  rintro e w1 ⟨rfl, hb1⟩
  obtain ⟨k1, _⟩ := keepC hb1 (g := w.heap.size) (by simp; omega)
  obtain ⟨k2, _⟩ := keepC hb1 (g := w.heap.size + 1) (by simp)
  have HB1 := Lib.hid (bthen HB.out hb1 (by simp; omega))
  clear hb1
  go_wp2
  go_ret
  exact ⟨rfl, HB1.out⟩
theorem markSO_any (base : Nat) (a : Option Addr) (n C : Nat) (c : Int) (hn : n ≤ 400) (w : World) (h : FBlk base w a n) :
    Calls Tryd.prog 11 #[.agg #[.slice a n C, .int .i64 c], .int .i64 1] w fun e w' => e = .returned (.int .i64 (1 + 3 * n : Nat)) ∧ FRow w' a (markF 1 n) ∧ w.grownBy w' (blkN a n) := by
  have hal := (Below.refl _ w).alloc (Nat.le_refl _) (.cells #[.slice a n C, .int .i64 c] 31)
  have HM := Lib.hid (markFrameS_any base a n C 1 (by omega) (by omega) _ (h.below hal))
  have HG := Lib.hid (show w.grownBy (w.alloc (.cells #[.slice a n C, .int .i64 c] 31)) (blkN a n) from grown_below hal)
  clear hal h
  go_enter Tryd.func11, Tryd.ntmps11
  go_wp2_with fail
  refine HM.out.mono ?_
  rintro e w1 ⟨rfl, hr, hg⟩
  have HR := Lib.hid hr
  have HG2 := Lib.hid (grown_trans HG.out hg)
  clear hr hg
  go_wp2
  go_ret
  exact ⟨rfl, HR.out, HG2.out⟩
theorem heldSO_any (a : Option Addr) (n C : Nat) (c : Int) (hn : n ≤ 400) (w : World) (h : FRow w a (markF 1 n)) :
    Calls Tryd.prog 12 #[.agg #[.slice a n C, .int .i64 c], .int .i64 1] w fun e w' => e = .returned (.int .i64 (1 + 3 * n : Nat)) ∧ Below w.heap.size w w' := by
  have hal := (Below.refl _ w).alloc (Nat.le_refl _) (.cells #[.slice a n C, .int .i64 c] 31)
  have HM := Lib.hid (heldFrameS_any a n C 1 (by omega) (by omega) _ (h.below hal))
  have HB := Lib.hid hal
  clear hal h
  go_enter Tryd.func12, Tryd.ntmps12
  go_wp2_with fail
  refine HM.out.mono ?_
  rintro e w1 ⟨rfl, hb⟩
  have HB1 := Lib.hid (bthen HB.out hb (by simp))
  clear hb
  go_wp2
  go_ret
  exact ⟨rfl, HB1.out⟩
theorem strRd_len (s : ByteArray) : (strRd s).1.length ≤ 400 := by
  unfold strRd
  split
  · simp
  · split
    · rename_i h
      exact h.choose_spec.1
    · simp
set_option maxHeartbeats 3200000 in
theorem walkSR (a0 : ByteArray) (w0 : a0.size ≤ maxLen) (w : World) (h : Vars w) :
    Calls Tryd.prog 4 #[.string a0] w fun e w' => e = .returned (.bool true) ∧ Below w.heap.size w w' := by
  by_cases hl : (1048576 : Int) < a0.size
  · unfold maxLen at w0
    go_enter Tryd.func4, Tryd.ntmps4
    go_wp2
    go_ret
    exact ⟨rfl, Below.refl _ _⟩
  have HS := Lib.hid (specStreamRd_any a0 w0)
  have HI := Lib.hid (fun w1 (h1 : Vars w1) => implStreamRd_any a0 w0 w1 h1)
  have hln := strRd_len a0
  obtain ⟨O, hO⟩ : ∃ O, O = strRd a0 := ⟨_, rfl⟩
  rw [← hO] at HS HI hln
  obtain ⟨l, c⟩ := O
  dsimp only at HS HI hln
  have HE := Lib.hid (fun a b C D W (h1 : FRow W a l) (h2 : FRow W b l) => eqSO_same a b C D l c (by omega) W h1 h2)
  obtain ⟨n, hn⟩ : ∃ n, n = l.length := ⟨_, rfl⟩
  have HN := Lib.hid hn
  rw [← hn] at HS HI HE hln
  have HH := Lib.hid h
  unfold maxLen at w0
  clear hO hn h
  go_enter Tryd.func4, Tryd.ntmps4
  go_wp2_with fail
  refine (HS.out _).mono ?_
  rintro e w1 ⟨a1, C1, rfl, hr1, hb⟩
  have HB1 := Lib.hid (hb.alloc hb.size (.cells #[.slice a1 n C1, .int .i64 c] 31))
  have HR1 := Lib.hid (hr1.below ((Below.refl _ w1).alloc (Nat.le_refl _) (.cells #[.slice a1 n C1, .int .i64 c] 31)))
  have HV1 := Lib.hid (VarB.new w1 #[.slice a1 n C1, .int .i64 c] 31)
  clear hb hr1
  go_wp2_with fail
  refine (HI.out _ (HH.out.below HB1.out)).mono ?_
  rintro e w2 ⟨a2, C2, rfl, hr2, hk2, hb⟩
  have HB2 := Lib.hid (bthen HB1.out hb HB1.out.size)
  have HR1b := Lib.hid (HR1.out.below hb)
  have HV1b := Lib.hid (HV1.out.below hb)
  have hwn : w1.heap.size < (w1.alloc (.cells #[.slice a1 n C1, .int .i64 c] 31)).heap.size := by simp
  have HNE := Lib.hid (show ∀ x, blkN a1 n = some x → blkN a2 n ≠ some x from fun x h1 h2 => by
    have := HR1.out.lt x (by rw [← HN.out]; exact h1)
    have := hk2.lt x h2
    omega)
  have HNV := Lib.hid (show blkN a2 n ≠ some w1.heap.size from fun h2 => by have := hk2.lt _ h2; omega)
  have HNG := Lib.hid (show blkN a2 n ≠ some w2.heap.size from fun h2 => by
    have := hr2.lt w2.heap.size (by rw [← HN.out]; exact h2)
    omega)
  have HNB := Lib.hid (show ∀ x, blkN a2 n = some x → w.heap.size ≤ x from fun x h2 => by have := hk2.lt x h2; have := HB1.out.size; omega)
  have HV2 := Lib.hid (VarB.new w2 #[.slice a2 n C2, .int .i64 c] 31)
  have hal := (Below.refl _ w2).alloc (Nat.le_refl _) (.cells #[.slice a2 n C2, .int .i64 c] 31)
  have HR1c := Lib.hid (HR1b.out.below hal)
  have HV1c := Lib.hid (HV1b.out.below hal)
  have HR2 := Lib.hid (hr2.below hal)
  have HK2 := Lib.hid (hk2.below hal)
  have HB2b := Lib.hid (HB2.out.alloc HB2.out.size (.cells #[.slice a2 n C2, .int .i64 c] 31))
  have y1 := HV1c.out.cell (i := 0) rfl
  have y2 := HV1c.out.cell (i := 1) rfl
  clear hb hal hr2 hk2 hwn HR1b HV1b HB2
  go_wp2_with fail
  refine (HE.out a2 a1 C2 C1 _ HR2.out HR1c.out).mono ?_
  rintro e w3 ⟨rfl, hb⟩
  have HB3 := Lib.hid (bthen HB2b.out hb HB2b.out.size)
  have HR1d := Lib.hid (HR1c.out.below hb)
  have HV1d := Lib.hid (HV1c.out.below hb)
  have HV2d := Lib.hid (HV2.out.below hb)
  have HK3 := Lib.hid (HK2.out.below hb)
  have y1 := HV2d.out.cell (i := 0) rfl
  have y2 := HV2d.out.cell (i := 1) rfl
  clear hb
  go_wp2_with fail
  refine (markSO_any _ a2 n C2 c hln _ HK3.out).mono ?_
  rintro e w4 ⟨rfl, hrm, hg⟩
  have HRM := Lib.hid hrm
  have HB4 := Lib.hid (HB3.out.grown hg HB3.out.size (fun x hx => HNB.out x hx))
  have HR1e := Lib.hid (HR1d.out.off (n := n) hg (fun x hx => HNE.out x (by rw [HN.out]; exact hx)))
  have HV1e := Lib.hid (HV1d.out.grown hg HNV.out)
  have HV2e := Lib.hid (HV2d.out.grown hg HNG.out)
  have y1 := HV2e.out.cell (i := 0) rfl
  have y2 := HV2e.out.cell (i := 1) rfl
  clear hrm hg
  go_wp2_with fail
  refine (heldSO_any a2 n C2 c hln _ HRM.out).mono ?_
  rintro e w5 ⟨rfl, hb⟩
  have HB5 := Lib.hid (bthen HB4.out hb HB4.out.size)
  have HRM5 := Lib.hid (HRM.out.below hb)
  have HR1f := Lib.hid (HR1e.out.below hb)
  have HV1f := Lib.hid (HV1e.out.below hb)
  have HV2f := Lib.hid (HV2e.out.below hb)
  clear hb
  go_wp2_with fail
  refine (HI.out _ (HH.out.below HB5.out)).mono ?_
  rintro e w6 ⟨a3, C3, rfl, hr3, _, hb⟩
  have hal := (Below.refl _ w6).alloc (Nat.le_refl _) (.cells #[.slice a3 n C3, .int .i64 c] 31)
  have HB6 := Lib.hid ((bthen HB5.out hb HB5.out.size).alloc (Nat.le_trans HB5.out.size hb.size) (.cells #[.slice a3 n C3, .int .i64 c] 31))
  have HRM6 := Lib.hid ((HRM5.out.below hb).below hal)
  have HR1g := Lib.hid ((HR1f.out.below hb).below hal)
  have HV1g := Lib.hid ((HV1f.out.below hb).below hal)
  have HV2g := Lib.hid ((HV2f.out.below hb).below hal)
  have HR3 := Lib.hid (hr3.below hal)
  have y3 := HV1g.out.cell (i := 0) rfl
  have y4 := HV1g.out.cell (i := 1) rfl
  clear hb hr3 hal
  go_wp2_with fail
  refine (HE.out a3 a1 C3 C1 _ HR3.out HR1g.out).mono ?_
  rintro e w7 ⟨rfl, hb⟩
  have HB7 := Lib.hid (bthen HB6.out hb HB6.out.size)
  have HRM7 := Lib.hid (HRM6.out.below hb)
  have HV2h := Lib.hid (HV2g.out.below hb)
  have y5 := HV2h.out.cell (i := 0) rfl
  have y6 := HV2h.out.cell (i := 1) rfl
  clear hb
  go_wp2_with fail
  refine (heldSO_any a2 n C2 c hln _ HRM7.out).mono ?_
  rintro e w8 ⟨rfl, hb⟩
  have HB8 := Lib.hid (bthen HB7.out hb HB7.out.size)
  clear hb
  go_wp2
  go_ret
  exact ⟨rfl, HB8.out⟩
end Go.Proofs.YtlhfgpcanfpnfaaDoor.frames
