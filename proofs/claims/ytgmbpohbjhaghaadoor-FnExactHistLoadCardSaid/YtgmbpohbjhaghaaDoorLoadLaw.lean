/-
  The walk of the law of HistLoad. For every text, where errors.errorType holds what the program's text lays. Written by wip/tool/gen_loadlaw.py.
-/
import Derived.Test.YtgmbpohbjhaghaaDoorLoadSpec
import Derived.Test.YtgmbpohbjhaghaaDoorLoadImpl
import Derived.Test.YtgmbpohbjhaghaaDoorTexts
namespace Go.Proofs.YtgmbpohbjhaghaaDoor.load
open Go.ChangeShapes Go.WideShapes Go.ChangeAt Go.RowKit
open Go.Proofs.YtgmbpohbjhaghaaDoor.strs Go.Proofs.YtgmbpohbjhaghaaDoor.hist
open Go.Proofs.YtgmbpohbjhaghaaDoor.kill (SRow.off SBlk.off)
set_option maxRecDepth 20000 in
set_option maxHeartbeats 6400000 in
theorem walkHL (s : ByteArray) (hs : s.size ≤ maxLen) (w : World) (hg : w.cell? ⟨0, 0, none⟩ = some as_.handleE) :
    Calls Tryd.prog 3 #[.string s] w fun e w' => e = .returned (.bool true) ∧ Below w.heap.size w w' := by
  unfold maxLen at hs
  by_cases hx1 : 1048576 < s.size
  · go_enter Tryd.func3, Tryd.ntmps3
    go_wp2
    go_ret
    exact ⟨rfl, Below.refl _ _⟩
  have hx2 : s.size ≤ 1048576 := by omega
  have HS := Lib.hid (fun W => specLoad_any s hx2 W)
  have HP := Lib.hid (fun W (hb : Below w.heap.size w W) => implLoad_any s hx2 W (by rw [hb.cell (p := ⟨0, 0, none⟩) (blk_lt hg)]; exact hg))
  have hm12 := last12_len (allL s)
  have hm0 : (loadV s).length ≤ 12 := hm12
  obtain ⟨L, hL⟩ : ∃ L, L = loadV s := ⟨_, rfl⟩
  rw [← hL] at HS HP hm0
  have HE2 := Lib.hid (fun a b C D W (h1 : SRow W a L) (h2 : SRow W b L) => eqHist_same a b C D L (L.length : Nat) ⟨#[]⟩ (by omega) W h1 h2)
  have HLT := Lib.hid (fun (W : World) (a : Option Addr) (h : SRow W a L) => h.lt)
  obtain ⟨m, hm'⟩ : ∃ m, m = L.length := ⟨_, rfl⟩
  have HMM := Lib.hid hm'
  rw [← hm'] at HS HP HE2 HLT hm0
  have HK2 := Lib.hid (fun a c W B (h : SBlk B W a m) => markHist_any B a m c 1 (m : Nat) ⟨#[]⟩ (by omega) (by omega) W h)
  have HH := Lib.hid (fun a c W (h : SRow W a (markS 1 m)) => heldHist_any a m c 1 (m : Nat) ⟨#[]⟩ (by omega) (by omega) W h)
  have hp2 : ¬ ((1 + m : Nat) : Int) < 0 := by omega
  clear hL hm12 hm' hg
  unfold hV at *
  go_enter Tryd.func3, Tryd.ntmps3
  have HX0 := Lib.hid (Below.refl w.heap.size w)
  have HC := Lib.hid (HS.out w)
  go_wp2_with fail
  refine HC.out.mono ?_
  clear HC
  rintro e w1 ⟨a0, c0', rfl, hw, hb⟩
  have HX1 := Lib.hid (bthen HX0.out hb HX0.out.size)
  have T1 := Lib.hid hb.size
  have HW := Lib.hid hw
  clear hb hw
  have HWL := Lib.hid (HLT.out _ _ HW.out)
  have HA := Lib.hid ((Below.refl _ w1).alloc (Nat.le_refl _) (.cells #[.slice a0 m c0', .int .i64 (m : Nat), .string ⟨#[]⟩] 24))
  have HC := Lib.hid (HP.out _ (HX1.out.alloc HX1.out.size (.cells #[.slice a0 m c0', .int .i64 (m : Nat), .string ⟨#[]⟩] 24)))
  go_wp2_with fail
  refine HC.out.mono ?_
  clear HC
  rintro e w2 ⟨a5, c5, rfl, hg, hgb, hb⟩
  have hq := HX1.out.size
  have HX2 := Lib.hid (bthen (HX1.out.alloc HX1.out.size (.cells #[.slice a0 m c0', .int .i64 (m : Nat), .string ⟨#[]⟩] 24)) hb (by first | (simp; done) | (simp; omega)))
  clear hq
  have T2 := Lib.hid (Nat.le_trans HA.out.size hb.size)
  obtain ⟨r, _⟩ := keepC hb (g := w1.heap.size) (by simp)
  have v0c0 : w2.cell? ⟨w1.heap.size, 0, none⟩ = some (.slice a0 m c0') := by rw [r 0]; simp [go_sem]
  have v0c1 : w2.cell? ⟨w1.heap.size, 1, none⟩ = some (.int .i64 (m : Nat)) := by rw [r 1]; simp [go_sem]
  have v0c2 : w2.cell? ⟨w1.heap.size, 2, none⟩ = some (.string ⟨#[]⟩) := by rw [r 2]; simp [go_sem]
  have v0z : w1.heap.size < w2.heap.size := by have := hb.size; simp at this; omega
  clear r
  have U0 := Lib.hid v0z
  have HW := Lib.hid ((HW.out.below HA.out).below hb)
  clear HA
  have HG := Lib.hid hg
  have HGB := Lib.hid hgb
  clear hb hg hgb
  have HGB := Lib.hid (HGB.out.lo (b' := w1.heap.size + 1) (by simp))
  have HGL := Lib.hid (HLT.out _ _ HG.out)
  have HA := Lib.hid ((Below.refl _ w2).alloc (Nat.le_refl _) (.cells #[.slice a5 m c5, .int .i64 (m : Nat), .string ⟨#[]⟩] 24))
  have HC := Lib.hid (HE2.out a5 a0 c5 c0' _ (HG.out.below HA.out) (HW.out.below HA.out))
  go_wp2_with fail
  refine HC.out.mono ?_
  clear HC
  rintro e w3 ⟨rfl, hb⟩
  have hq := HX2.out.size
  have HX3 := Lib.hid (bthen (HX2.out.alloc HX2.out.size (.cells #[.slice a5 m c5, .int .i64 (m : Nat), .string ⟨#[]⟩] 24)) hb (by first | (simp; done) | (simp; omega)))
  clear hq
  have T3 := Lib.hid (Nat.le_trans HA.out.size hb.size)
  obtain ⟨r, _⟩ := keepC hb (g := w1.heap.size) (by simp; omega)
  have v0c0 := (r 0).trans ((HA.out.cell (p := ⟨w1.heap.size, 0, none⟩) v0z).trans v0c0)
  have v0c1 := (r 1).trans ((HA.out.cell (p := ⟨w1.heap.size, 1, none⟩) v0z).trans v0c1)
  have v0c2 := (r 2).trans ((HA.out.cell (p := ⟨w1.heap.size, 2, none⟩) v0z).trans v0c2)
  have v0z := Nat.lt_of_lt_of_le v0z (Nat.le_trans HA.out.size hb.size)
  clear r
  obtain ⟨r, _⟩ := keepC hb (g := w2.heap.size) (by simp)
  have v1c0 : w3.cell? ⟨w2.heap.size, 0, none⟩ = some (.slice a5 m c5) := by rw [r 0]; simp [go_sem]
  have v1c1 : w3.cell? ⟨w2.heap.size, 1, none⟩ = some (.int .i64 (m : Nat)) := by rw [r 1]; simp [go_sem]
  have v1c2 : w3.cell? ⟨w2.heap.size, 2, none⟩ = some (.string ⟨#[]⟩) := by rw [r 2]; simp [go_sem]
  have v1z : w2.heap.size < w3.heap.size := by have := hb.size; simp at this; omega
  clear r
  have U1 := Lib.hid v1z
  have HW := Lib.hid ((HW.out.below HA.out).below hb)
  have HG := Lib.hid ((HG.out.below HA.out).below hb)
  have HGB := Lib.hid ((HGB.out.below HA.out).below hb)
  clear HA
  clear hb 
  have HC := Lib.hid (HK2.out a5 c5 _ (w1.heap.size + 1) HGB.out)
  go_wp2_with fail
  refine HC.out.mono ?_
  clear HC
  rintro e w4 ⟨rfl, hr, hg⟩
  have HX4 := Lib.hid (HX3.out.grown hg HX3.out.size (fun j hj => by have := HGB.out.lt j hj; have := U0.out; have := U1.out; have := T1.out; have := T2.out; have := T3.out; omega))
  have ne : some (w1.heap.size) ≠ blkN a5 m := fun e => by have := HGB.out.lt _ e.symm; have := HGL.out _ e.symm; have := U0.out; have := U1.out; have := T1.out; have := T2.out; have := T3.out; omega
  have v0c0 := (hg.cell_far ⟨w1.heap.size, 0, none⟩ v0z ne).trans v0c0
  have v0c1 := (hg.cell_far ⟨w1.heap.size, 1, none⟩ v0z ne).trans v0c1
  have v0c2 := (hg.cell_far ⟨w1.heap.size, 2, none⟩ v0z ne).trans v0c2
  have v0z := Nat.lt_of_lt_of_le v0z hg.size
  clear ne
  have ne : some (w2.heap.size) ≠ blkN a5 m := fun e => by have := HGB.out.lt _ e.symm; have := HGL.out _ e.symm; have := U0.out; have := U1.out; have := T1.out; have := T2.out; have := T3.out; omega
  have v1c0 := (hg.cell_far ⟨w2.heap.size, 0, none⟩ v1z ne).trans v1c0
  have v1c1 := (hg.cell_far ⟨w2.heap.size, 1, none⟩ v1z ne).trans v1c1
  have v1c2 := (hg.cell_far ⟨w2.heap.size, 2, none⟩ v1z ne).trans v1c2
  have v1z := Nat.lt_of_lt_of_le v1z hg.size
  clear ne
  have HW := Lib.hid (SRow.off HW.out hg (fun x e1 e2 => by have := HWL.out x (by rw [HMM.out]; exact e1); have := HGB.out.lt x e2; have := HGL.out x e2; have := U0.out; have := U1.out; have := T1.out; have := T2.out; have := T3.out; omega))
  have HGM := Lib.hid hr
  clear hr hg
  clear HG HGB HGL
  have HC := Lib.hid (HH.out a5 c5 _ HGM.out)
  go_wp2_with fail
  refine HC.out.mono ?_
  clear HC
  rintro e w5 ⟨rfl, hb⟩
  have HX5 := Lib.hid (bthen HX4.out hb HX4.out.size)
  have T5 := Lib.hid hb.size
  obtain ⟨r, _⟩ := keepC hb (g := w1.heap.size) v0z
  have v0c0 := (r 0).trans v0c0
  have v0c1 := (r 1).trans v0c1
  have v0c2 := (r 2).trans v0c2
  have v0z := Nat.lt_of_lt_of_le v0z hb.size
  clear r
  obtain ⟨r, _⟩ := keepC hb (g := w2.heap.size) v1z
  have v1c0 := (r 0).trans v1c0
  have v1c1 := (r 1).trans v1c1
  have v1c2 := (r 2).trans v1c2
  have v1z := Nat.lt_of_lt_of_le v1z hb.size
  clear r
  have HW := Lib.hid (HW.out.below hb)
  have HGM := Lib.hid (HGM.out.below hb)
  clear hb 
  have HC := Lib.hid (HP.out _ HX5.out)
  go_wp2_with fail
  refine HC.out.mono ?_
  clear HC
  rintro e w6 ⟨a6, c6, rfl, hi, _, hb⟩
  have HX6 := Lib.hid (bthen HX5.out hb HX5.out.size)
  have T6 := Lib.hid hb.size
  obtain ⟨r, _⟩ := keepC hb (g := w1.heap.size) v0z
  have v0c0 := (r 0).trans v0c0
  have v0c1 := (r 1).trans v0c1
  have v0c2 := (r 2).trans v0c2
  have v0z := Nat.lt_of_lt_of_le v0z hb.size
  clear r
  obtain ⟨r, _⟩ := keepC hb (g := w2.heap.size) v1z
  have v1c0 := (r 0).trans v1c0
  have v1c1 := (r 1).trans v1c1
  have v1c2 := (r 2).trans v1c2
  have v1z := Nat.lt_of_lt_of_le v1z hb.size
  clear r
  have HW := Lib.hid (HW.out.below hb)
  have HGM := Lib.hid (HGM.out.below hb)
  have HI := Lib.hid hi
  clear hb hi
  have HA := Lib.hid ((Below.refl _ w6).alloc (Nat.le_refl _) (.cells #[.slice a6 m c6, .int .i64 (m : Nat), .string ⟨#[]⟩] 24))
  have HC := Lib.hid (HE2.out a6 a0 c6 c0' _ (HI.out.below HA.out) (HW.out.below HA.out))
  go_wp2_with fail
  refine HC.out.mono ?_
  clear HC
  rintro e w7 ⟨rfl, hb⟩
  have hq := HX6.out.size
  have HX7 := Lib.hid (bthen (HX6.out.alloc HX6.out.size (.cells #[.slice a6 m c6, .int .i64 (m : Nat), .string ⟨#[]⟩] 24)) hb (by first | (simp; done) | (simp; omega)))
  clear hq
  have T7 := Lib.hid (Nat.le_trans HA.out.size hb.size)
  obtain ⟨r, _⟩ := keepC hb (g := w1.heap.size) (by simp; omega)
  have v0c0 := (r 0).trans ((HA.out.cell (p := ⟨w1.heap.size, 0, none⟩) v0z).trans v0c0)
  have v0c1 := (r 1).trans ((HA.out.cell (p := ⟨w1.heap.size, 1, none⟩) v0z).trans v0c1)
  have v0c2 := (r 2).trans ((HA.out.cell (p := ⟨w1.heap.size, 2, none⟩) v0z).trans v0c2)
  have v0z := Nat.lt_of_lt_of_le v0z (Nat.le_trans HA.out.size hb.size)
  clear r
  obtain ⟨r, _⟩ := keepC hb (g := w2.heap.size) (by simp; omega)
  have v1c0 := (r 0).trans ((HA.out.cell (p := ⟨w2.heap.size, 0, none⟩) v1z).trans v1c0)
  have v1c1 := (r 1).trans ((HA.out.cell (p := ⟨w2.heap.size, 1, none⟩) v1z).trans v1c1)
  have v1c2 := (r 2).trans ((HA.out.cell (p := ⟨w2.heap.size, 2, none⟩) v1z).trans v1c2)
  have v1z := Nat.lt_of_lt_of_le v1z (Nat.le_trans HA.out.size hb.size)
  clear r
  obtain ⟨r, _⟩ := keepC hb (g := w6.heap.size) (by simp)
  have v2c0 : w7.cell? ⟨w6.heap.size, 0, none⟩ = some (.slice a6 m c6) := by rw [r 0]; simp [go_sem]
  have v2c1 : w7.cell? ⟨w6.heap.size, 1, none⟩ = some (.int .i64 (m : Nat)) := by rw [r 1]; simp [go_sem]
  have v2c2 : w7.cell? ⟨w6.heap.size, 2, none⟩ = some (.string ⟨#[]⟩) := by rw [r 2]; simp [go_sem]
  have v2z : w6.heap.size < w7.heap.size := by have := hb.size; simp at this; omega
  clear r
  have U2 := Lib.hid v2z
  have HW := Lib.hid ((HW.out.below HA.out).below hb)
  have HGM := Lib.hid ((HGM.out.below HA.out).below hb)
  have HI := Lib.hid ((HI.out.below HA.out).below hb)
  clear HA
  clear hb 
  have HC := Lib.hid (HH.out a5 c5 _ HGM.out)
  go_wp2_with fail
  refine HC.out.mono ?_
  clear HC
  rintro e w8 ⟨rfl, hb⟩
  have HX8 := Lib.hid (bthen HX7.out hb HX7.out.size)
  have T8 := Lib.hid hb.size
  obtain ⟨r, _⟩ := keepC hb (g := w1.heap.size) v0z
  have v0c0 := (r 0).trans v0c0
  have v0c1 := (r 1).trans v0c1
  have v0c2 := (r 2).trans v0c2
  have v0z := Nat.lt_of_lt_of_le v0z hb.size
  clear r
  obtain ⟨r, _⟩ := keepC hb (g := w2.heap.size) v1z
  have v1c0 := (r 0).trans v1c0
  have v1c1 := (r 1).trans v1c1
  have v1c2 := (r 2).trans v1c2
  have v1z := Nat.lt_of_lt_of_le v1z hb.size
  clear r
  obtain ⟨r, _⟩ := keepC hb (g := w6.heap.size) v2z
  have v2c0 := (r 0).trans v2c0
  have v2c1 := (r 1).trans v2c1
  have v2c2 := (r 2).trans v2c2
  have v2z := Nat.lt_of_lt_of_le v2z hb.size
  clear r
  have HW := Lib.hid (HW.out.below hb)
  have HGM := Lib.hid (HGM.out.below hb)
  have HI := Lib.hid (HI.out.below hb)
  clear hb 
  go_wp2
  go_ret
  exact ⟨rfl, HX8.out⟩
end Go.Proofs.YtgmbpohbjhaghaaDoor.load
