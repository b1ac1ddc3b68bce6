/-
  The draws of the law of what is kept aside. What comes is bounded; nothing else is said of it.
-/
import Derived.Test.YtgmbpohbjhaghaaDrawKills
import Derived.Test.YtgmbpohbjhaghaaDrawUndos
import Derived.Test.YtgmbpohbjhaghaaSource
namespace Go.Proofs.Ytgmbpohbjhaghaa.src
open Go.ChangeShapes Go.WideShapes Go.ChangeAt Go.RowKit
open Go.Proofs.Ytgmbpohbjhaghaa.strs Go.Proofs.Ytgmbpohbjhaghaa.lines Go.Proofs.Ytgmbpohbjhaghaa.undo Go.Proofs.Ytgmbpohbjhaghaa.kill
/-- Kills that came by a draw -/
structure KGot (w : World) (a : Option Addr) (C : Nat) (l : List ByteArray) (t : Int) : Prop where
  ln : l.length ≤ 11
  sz : ∀ s ∈ l, s.size ≤ 60
  tt : -1 ≤ t ∧ t ≤ 10
  le : l.length ≤ C
  nil : a = none → C = 0 ∧ l = []
  row : SRow w a l
theorem KGot.below {w w' : World} {a : Option Addr} {C : Nat} {l : List ByteArray} {t : Int} (h : KGot w a C l t) (hb : Below w.heap.size w w') : KGot w' a C l t := ⟨h.ln, h.sz, h.tt, h.le, h.nil, h.row.below hb⟩
set_option maxRecDepth 20000 in
set_option maxHeartbeats 3200000 in
theorem drawTurn_any (N : Nat) (a : Option Addr) (n C : Nat) (hn : n ≤ 1048576) (w : World) (hN : N ≤ w.heap.size) (hb : BytesA N a n w) :
    Calls Try.prog 15 #[.slice a n C] w fun e w' => ∃ a' C' l t, e = .returned (kV a' l.length C' t) ∧ KGot w' a' C' l t ∧ Below w.heap.size w w' := by
  have hal := (Below.refl _ w).alloc (Nat.le_refl _) (.cells #[.slice none 0 0, .int .i64 0] 25)
  have HB := Lib.hid hal
  have HS := Lib.hid (source_any N a n C hn _ (hb.below (hal.mono hN)))
  unfold kV
  clear hal hb
  go_enter Try.func15, Try.ntmps15
  go_wp2_with fail
  refine HS.out.mono ?_
  rintro e w1 ⟨rfl, hs, hb⟩
  have HX1 := Lib.hid (HB.out.trans (hb.mono (by simp)))
  have HSS := Lib.hid (show Src N (w.heap.size + 1) w1 from by simpa using hs)
  have HB1 := Lib.hid hb
  obtain ⟨p0, q0⟩ := keepC hb (g := w.heap.size) (by simp)
  have z1 : w.heap.size < w1.heap.size := by have := hs.lt; simp at this; omega
  clear hb hs
  have HK := Lib.hid (kills_draw N (w.heap.size + 1) w1 HSS.out (by omega))
  unfold kV at HK
  go_wp2_with fail
  refine HK.out.mono ?_
  rintro e w2 ⟨a2, C2, l2, t2, rfl, hf, hk, hd⟩
  have HX2 := Lib.hid (show Below w.heap.size w w2 from HX1.out.grown hd.2 (by omega) (fun k e => by injection e with e; omega))
  obtain ⟨p1, q1⟩ := hd.keep (k := w.heap.size) (by omega) (by omega)
  have c0 : w2.cell? ⟨w.heap.size, 0, none⟩ = some (.slice none 0 0) := by rw [p1 0, p0 0]; simp [go_sem]
  have c1 : w2.cell? ⟨w.heap.size, 1, none⟩ = some (.int .i64 0) := by rw [p1 1, p0 1]; simp [go_sem]
  have f0 : w2.frozen? ⟨w.heap.size, 0, none⟩ = false := by rw [q1 0, q0 0]; simp [go_sem]
  have f1 : w2.frozen? ⟨w.heap.size, 1, none⟩ = false := by rw [q1 1, q0 1]; simp [go_sem]
  have HF := Lib.hid hf
  have HKR := Lib.hid hk
  have hz2 := hd.2.size
  obtain ⟨q, hq⟩ : ∃ q, q = l2.length := ⟨_, rfl⟩
  have HQ := Lib.hid hq
  rw [← hq]
  clear hd p0 q0 p1 q1 hf hk hq
  go_wp2
  exact bodyPost_ret (v := kV a2 q C2 t2) (by simp [kV, results, Try.results15, go_sem, c0, c1]) rfl ⟨a2, C2, l2, t2, by rw [← HQ.out]; rfl,
    ⟨HF.out.ln, HF.out.sz, HF.out.tt, HKR.out.le, HKR.out.nil, ((HKR.out.set (by omega)).set (by omega)).row⟩, (HX2.out.setCell (p := ⟨w.heap.size, 0, none⟩) (Nat.le_refl _) _).setCell (p := ⟨w.heap.size, 1, none⟩) (Nat.le_refl _) _⟩
set_option maxRecDepth 20000 in
set_option maxHeartbeats 3200000 in
theorem drawPut_any (N : Nat) (a : Option Addr) (n C : Nat) (hn : n ≤ 1048576) (w : World) (hN : N ≤ w.heap.size) (hb : BytesA N a n w) :
    Calls Try.prog 13 #[.slice a n C] w fun e w' => ∃ a' C' l t x m, e = .returned (.tuple #[kV a' l.length C' t, .string x, .int .i64 m]) ∧ KGot w' a' C' l t ∧ x.size ≤ 61 ∧ (-1 ≤ m ∧ m ≤ 1) ∧ Below w.heap.size w w' := by
  have hal := (Below.refl _ w).alloc (Nat.le_refl _) (.cells #[.slice none 0 0, .int .i64 0] 25)
  have HB := Lib.hid hal
  have HS := Lib.hid (source_any N a n C hn _ (hb.below (hal.mono hN)))
  unfold kV
  clear hal hb
  go_enter Try.func13, Try.ntmps13
  go_wp2_with fail
  refine HS.out.mono ?_
  rintro e w1 ⟨rfl, hs, hb⟩
  have HX1 := Lib.hid (HB.out.trans (hb.mono (by simp)))
  have HSS := Lib.hid (show Src N (w.heap.size + 1) w1 from by simpa using hs)
  obtain ⟨p0, q0⟩ := keepC hb (g := w.heap.size) (by simp)
  have z1 : w.heap.size + 1 < w1.heap.size := HSS.out.lt
  clear hb hs
  have HK := Lib.hid (kills_draw N (w.heap.size + 1) w1 HSS.out (by omega))
  unfold kV at HK
  go_wp2_with fail
  refine HK.out.mono ?_
  rintro e w2 ⟨a2, C2, l2, t2, rfl, hf, hk, hd⟩
  have HX2 := Lib.hid (show Below w.heap.size w w2 from HX1.out.grown hd.2 (by omega) (fun k e => by injection e with e; omega))
  obtain ⟨p1, q1⟩ := hd.keep (k := w.heap.size) (by omega) (by omega)
  have c0 : w2.cell? ⟨w.heap.size, 0, none⟩ = some (.slice none 0 0) := by rw [p1 0, p0 0]; simp [go_sem]
  have c1 : w2.cell? ⟨w.heap.size, 1, none⟩ = some (.int .i64 0) := by rw [p1 1, p0 1]; simp [go_sem]
  have f0 : w2.frozen? ⟨w.heap.size, 0, none⟩ = false := by rw [q1 0, q0 0]; simp [go_sem]
  have f1 : w2.frozen? ⟨w.heap.size, 1, none⟩ = false := by rw [q1 1, q0 1]; simp [go_sem]
  have HF := Lib.hid hf
  have hz2 := hd.2.size
  have HS2 := Lib.hid (show Src N (w.heap.size + 1) (w2.alloc (.cells #[.slice a2 l2.length C2, .int .i64 t2] 25)) from hd.1.below ((Below.refl _ w2).alloc (Nat.le_refl _) _))
  have HKR := Lib.hid (hk.alloc (.cells #[.slice a2 l2.length C2, .int .i64 t2] 25))
  have HX2b := Lib.hid (HX2.out.alloc HX2.out.size (.cells #[.slice a2 l2.length C2, .int .i64 t2] 25))
  obtain ⟨q, hq⟩ : ∃ q, q = l2.length := ⟨_, rfl⟩
  have HQ := Lib.hid hq
  rw [← hq] at HS2 HKR HX2b ⊢
  clear hd p0 q0 p1 q1 hf hk hq
  have HOD := Lib.hid (odd_any N (w.heap.size + 1) _ HS2.out (by simp; omega))
  go_wp2_with fail
  refine HOD.out.mono ?_
  rintro e w3 ⟨x, rfl, hx, hd⟩
  have HXS := Lib.hid hx
  have HX3 := Lib.hid (show Below w.heap.size w w3 from HX2b.out.grown hd.2 (by simp; omega) (fun k e => by injection e with e; omega))
  obtain ⟨p1, q1⟩ := hd.keep (k := w.heap.size) (by simp; omega) (by omega)
  obtain ⟨p2, q2⟩ := hd.keep (k := w2.heap.size) (by simp) (by omega)
  have zz : w.heap.size < w2.heap.size := by omega
  have c0 : w3.cell? ⟨w.heap.size, 0, none⟩ = some (.slice none 0 0) := by rw [p1 0]; simp [go_sem, c0, zz]
  have c1 : w3.cell? ⟨w.heap.size, 1, none⟩ = some (.int .i64 0) := by rw [p1 1]; simp [go_sem, c1, zz]
  have f0 : w3.frozen? ⟨w.heap.size, 0, none⟩ = false := by rw [q1 0]; simp [go_sem, f0, zz]
  have f1 : w3.frozen? ⟨w.heap.size, 1, none⟩ = false := by rw [q1 1]; simp [go_sem, f1, zz]
  have d0 : w3.cell? ⟨w2.heap.size, 0, none⟩ = some (.slice a2 q C2) := by rw [p2 0]; simp [go_sem]
  have d1 : w3.cell? ⟨w2.heap.size, 1, none⟩ = some (.int .i64 t2) := by rw [p2 1]; simp [go_sem]
  have HK3 := Lib.hid (show KR (w1.heap.size + 1) w3 a2 C2 l2 from HKR.out.kept hd.2 (fun b e => by injection e with e; omega))
  have HS3 := Lib.hid (show Src N (w.heap.size + 1) w3.drew from hd.1.below (drew_below w3))
  have hz3 := hd.2.size
  have zz3 : w2.heap.size < w3.heap.size := by have := hz3; simp at this; omega
  clear hd p1 q1 p2 q2 hx hz3
  go_wp2_with fail
  go_region_with (first
    | (go_at_call 60; refine (n_in N (w.heap.size + 1) 3 (by omega) (by omega) _ HS3.out).mono ?_; rintro e w4 ⟨m, rfl, hm, hd⟩
       obtain ⟨p1, q1⟩ := hd.keep (k := w.heap.size) (by show _ < w3.heap.size; omega) (by omega)
       obtain ⟨p2, q2⟩ := hd.keep (k := w2.heap.size) (by show _ < w3.heap.size; omega) (by omega)
       have e0 : w4.cell? ⟨w.heap.size, 0, none⟩ = some (.slice none 0 0) := (p1 0).trans c0
       have e1 : w4.cell? ⟨w.heap.size, 1, none⟩ = some (.int .i64 0) := (p1 1).trans c1
       have k0 : w4.frozen? ⟨w.heap.size, 0, none⟩ = false := (q1 0).trans f0
       have k1 : w4.frozen? ⟨w.heap.size, 1, none⟩ = false := (q1 1).trans f1
       have h0 : w4.cell? ⟨w2.heap.size, 0, none⟩ = some (.slice a2 q C2) := (p2 0).trans d0
       have h1 : w4.cell? ⟨w2.heap.size, 1, none⟩ = some (.int .i64 t2) := (p2 1).trans d1
       have HX4 := Lib.hid (show Below w.heap.size w w4 from (HX3.out.trans ((drew_below w3).mono HX3.out.size)).grown hd.2 (by have := HX3.out.size; show _ ≤ w3.heap.size; omega) (fun k e => by injection e with e; omega))
       have HK4 := Lib.hid (show KR (w1.heap.size + 1) w4 a2 C2 l2 from (HK3.out.later (drew_below w3)).kept hd.2 (fun b e => by injection e with e; omega))
       have hm2 : (m : Int) ≤ 2 := by omega
       clear hd p1 q1 p2 q2))
  all_goals
    have hw : IntKind.i64.wrap ((m : Int) - 1) = (m : Int) - 1 := IntWalk.i64_in _ (by omega)
    rw [hw]
    obtain ⟨M, hM⟩ : ∃ M, M = (m : Int) - 1 := ⟨_, rfl⟩
    rw [← hM]
    have HM := Lib.hid (show -1 ≤ M ∧ M ≤ 1 by omega)
    clear hw hM hm hm2 c0 c1 f0 f1 d0 d1
    go_wp2
    exact bodyPost_ret (v := .tuple #[.agg #[.slice a2 q C2, .int .i64 t2], .string x, .int .i64 M]) (by simp [results, Try.results13, go_sem, e0, e1]) rfl ⟨a2, C2, l2, t2, x, M, by rw [← HQ.out],
      ⟨HF.out.ln, HF.out.sz, HF.out.tt, HK4.out.le, HK4.out.nil, ((HK4.out.set (by omega)).set (by omega)).row⟩, HXS.out, HM.out, (HX4.out.setCell (p := ⟨w.heap.size, 0, none⟩) (Nat.le_refl _) _).setCell (p := ⟨w.heap.size, 1, none⟩) (Nat.le_refl _) _⟩
/-- what stands ahead of the last step of the draw -/
structure DU (w : World) (base L : Nat) (a : Option Addr) (l : List (ByteArray × Int)) (s : ByteArray) (z : Int) (W : World) : Prop where
  c0 : W.cell? ⟨w.heap.size, 0, none⟩ = some (.string ⟨#[]⟩)
  c1 : W.cell? ⟨w.heap.size, 1, none⟩ = some (.int .i64 0)
  f0 : W.frozen? ⟨w.heap.size, 0, none⟩ = false
  f1 : W.frozen? ⟨w.heap.size, 1, none⟩ = false
  d0 : W.cell? ⟨L, 0, none⟩ = some (.string s)
  d1 : W.cell? ⟨L, 1, none⟩ = some (.int .i64 z)
  row : LRow W a l
  blk : LBlk base W a l.length
  bel : Below w.heap.size w W
  wb : w.heap.size < base
theorem DU.last {w : World} {base L : Nat} {a : Option Addr} {l : List (ByteArray × Int)} {s : ByteArray} {z : Int} {W : World} (h : DU w base L a l s z W) (u v : Value) : LRow ((W.setCell ⟨w.heap.size, 0, none⟩ u).setCell ⟨w.heap.size, 1, none⟩ v).drew a l := by
  obtain ⟨h1, h2⟩ := row_drawn h.row h.blk (grown_set W w.heap.size 0 u) h.wb
  obtain ⟨h3, _⟩ := row_drawn h1 h2 (grown_set _ w.heap.size 1 v) h.wb
  exact h3.below (drew_below _)
theorem DU.end_ {w : World} {base L : Nat} {a : Option Addr} {l : List (ByteArray × Int)} {s : ByteArray} {z : Int} {W : World} (h : DU w base L a l s z W) (u v : Value) : Below w.heap.size w ((W.setCell ⟨w.heap.size, 0, none⟩ u).setCell ⟨w.heap.size, 1, none⟩ v).drew :=
  ((h.bel.setCell (p := ⟨w.heap.size, 0, none⟩) (Nat.le_refl _) u).setCell (p := ⟨w.heap.size, 1, none⟩) (Nat.le_refl _) v).drew
set_option maxRecDepth 20000 in
set_option maxHeartbeats 3200000 in
theorem drawUndo_any (N : Nat) (a : Option Addr) (n C : Nat) (hn : n ≤ 1048576) (w : World) (hN : N ≤ w.heap.size) (hb : BytesA N a n w) :
    Calls Try.prog 17 #[.slice a n C] w fun e w' => ∃ a' C' l s z, e = .returned (.tuple #[.slice a' l.length C', lV s z]) ∧ LRow w' a' l ∧ l.length ≤ C' ∧ (a' = none → C' = 0 ∧ l = []) ∧ l.length ≤ 30 ∧ (∀ y ∈ l, y.1.size ≤ 60) ∧ s.size ≤ 61 ∧ Below w.heap.size w w' := by
  have hal := (Below.refl _ w).alloc (Nat.le_refl _) (.cells #[.string ⟨#[]⟩, .int .i64 0] 33)
  have HB := Lib.hid hal
  have HS := Lib.hid (source_any N a n C hn _ (hb.below (hal.mono hN)))
  unfold lV
  clear hal hb
  go_enter Try.func17, Try.ntmps17
  go_wp2_with fail
  refine HS.out.mono ?_
  rintro e w1 ⟨rfl, hs, hb⟩
  have HX1 := Lib.hid (HB.out.trans (hb.mono (by simp)))
  have HSS := Lib.hid (show Src N (w.heap.size + 1) w1 from by simpa using hs)
  obtain ⟨p0, q0⟩ := keepC hb (g := w.heap.size) (by simp)
  have z1 : w.heap.size + 1 < w1.heap.size := HSS.out.lt
  have c0 : w1.cell? ⟨w.heap.size, 0, none⟩ = some (.string ⟨#[]⟩) := by rw [p0 0]; simp [go_sem]
  have c1 : w1.cell? ⟨w.heap.size, 1, none⟩ = some (.int .i64 0) := by rw [p0 1]; simp [go_sem]
  have f0 : w1.frozen? ⟨w.heap.size, 0, none⟩ = false := by rw [q0 0]; simp [go_sem]
  have f1 : w1.frozen? ⟨w.heap.size, 1, none⟩ = false := by rw [q0 1]; simp [go_sem]
  clear hb hs p0 q0
  have HK := Lib.hid (undos_draw N (w.heap.size + 1) w1 HSS.out (by omega))
  go_wp2_with fail
  refine HK.out.mono ?_
  rintro e w2 ⟨a2, C2, l2, rfl, hrow, hblk, hle, hnil, hln, hsz, hd⟩
  have HX2 := Lib.hid (show Below w.heap.size w w2 from HX1.out.grown hd.2 (by omega) (fun k e => by injection e with e; omega))
  obtain ⟨p1, q1⟩ := hd.keep (k := w.heap.size) (by omega) (by omega)
  have c0 := (p1 0).trans c0
  have c1 := (p1 1).trans c1
  have f0 := (q1 0).trans f0
  have f1 := (q1 1).trans f1
  have HR2 := Lib.hid (And.intro hrow hblk)
  have HLE := Lib.hid hle
  have HNI := Lib.hid hnil
  have HLN := Lib.hid hln
  have HSZ := Lib.hid hsz
  have HS2 := Lib.hid hd.1
  have z2 : w.heap.size + 1 < w2.heap.size := HS2.out.lt
  have zb : w1.heap.size ≤ w2.heap.size := hd.2.size
  obtain ⟨q, hq⟩ : ∃ q, q = l2.length := ⟨_, rfl⟩
  have HQ := Lib.hid hq
  rw [← hq]
  have hq30 : q ≤ 30 := by omega
  clear hd p1 q1 hrow hblk hle hnil hln hsz hq
  have HLI := Lib.hid (line_any N (w.heap.size + 1) w2 HS2.out (by omega))
  go_wp2_with fail
  refine HLI.out.mono ?_
  rintro e w3 ⟨s, z, rfl, hs, hd⟩
  have HX3 := Lib.hid (show Below w.heap.size w w3 from HX2.out.grown hd.2 HX2.out.size (fun k e => by injection e with e; omega))
  obtain ⟨p1, q1⟩ := hd.keep (k := w.heap.size) (by omega) (by omega)
  have c0 := (p1 0).trans c0
  have c1 := (p1 1).trans c1
  have f0 := (q1 0).trans f0
  have f1 := (q1 1).trans f1
  have HR3 := Lib.hid (row_drawn HR2.out.1 HR2.out.2 hd.2 z1)
  have HSS := Lib.hid hs
  have z3 : w.heap.size + 1 < w3.heap.size := hd.1.lt
  have zd : w2.heap.size ≤ w3.heap.size := hd.2.size
  have zc : w1.heap.size ≤ w3.heap.size := Nat.le_trans zb zd
  have hal := (Below.refl _ w3).alloc (Nat.le_refl _) (.cells #[.string s, .int .i64 z] 33)
  have HS3 := Lib.hid (hd.1.below hal)
  have HX3b := Lib.hid (HX3.out.alloc HX3.out.size (.cells #[.string s, .int .i64 z] 33))
  have HR3b := Lib.hid (And.intro (HR3.out.1.below hal) (HR3.out.2.below hal))
  clear hd p1 q1 hs hal
  have z0 : w.heap.size < w3.heap.size := by omega
  by_cases h0 : q = 0
  · subst h0
    go_wp2_with fail
    refine absW (P := fun W => Code.wp _ _ _ _ W) (fun W' => DU w w1.heap.size w3.heap.size a2 l2 s z W') ⟨by simp [go_sem, c0, z0], by simp [go_sem, c1, z0], by simp [go_sem, f0, z0], by simp [go_sem, f1, z0], by simp [go_sem], by simp [go_sem], HR3b.out.1, HR3b.out.2, HX3b.out, by omega⟩ (fun WF hF => ?_)
    have r0 := hF.c0
    have r1 := hF.c1
    have r2 := hF.f0
    have r3 := hF.f1
    have r4 := hF.d0
    have r5 := hF.d1
    have HFF := Lib.hid hF
    have hLw : w.heap.size < WF.heap.size := blk_lt r0
    have ne1 : w3.heap.size ≠ w.heap.size := by omega
    have ne2 : w.heap.size ≠ w3.heap.size := by omega
    clear hF
    go_region
    all_goals
      go_wp2
      exact bodyPost_ret (v := .tuple #[.slice a2 0 C2, .agg #[.string s, .int .i64 z]]) (by simp [results, Try.results17, go_sem, r0, r1]) rfl ⟨a2, C2, l2, s, z, by rw [← HQ.out], HFF.out.last _ _, HLE.out, HNI.out, HLN.out, HSZ.out, HSS.out, HFF.out.end_ _ _⟩
  · have hqn : 0 < q := by omega
    have HON := Lib.hid (one_any N (w.heap.size + 1) 3 (by omega) _ HS3.out)
    go_wp2_with fail
    refine HON.out.mono ?_
    rintro e w4 ⟨b, rfl, hd⟩
    have hz4 := hd.2.size
    obtain ⟨p1, q1⟩ := hd.keep (k := w.heap.size) (by simp; omega) (by omega)
    obtain ⟨p2, q2⟩ := hd.keep (k := w3.heap.size) (by simp) (by omega)
    have e0 : w4.cell? ⟨w.heap.size, 0, none⟩ = some (.string ⟨#[]⟩) := by rw [p1 0]; simp [go_sem, c0, z0]
    have e1 : w4.cell? ⟨w.heap.size, 1, none⟩ = some (.int .i64 0) := by rw [p1 1]; simp [go_sem, c1, z0]
    have k0 : w4.frozen? ⟨w.heap.size, 0, none⟩ = false := by rw [q1 0]; simp [go_sem, f0, z0]
    have k1 : w4.frozen? ⟨w.heap.size, 1, none⟩ = false := by rw [q1 1]; simp [go_sem, f1, z0]
    have d0 : w4.cell? ⟨w3.heap.size, 0, none⟩ = some (.string s) := by rw [p2 0]; simp [go_sem]
    have d1 : w4.cell? ⟨w3.heap.size, 1, none⟩ = some (.int .i64 z) := by rw [p2 1]; simp [go_sem]
    have j0 : w4.frozen? ⟨w3.heap.size, 0, none⟩ = false := by rw [q2 0]; simp [go_sem]
    have j1 : w4.frozen? ⟨w3.heap.size, 1, none⟩ = false := by rw [q2 1]; simp [go_sem]
    have HR4 := Lib.hid (row_drawn HR3b.out.1 HR3b.out.2 hd.2 z1)
    have HX4 := Lib.hid (show Below w.heap.size w w4 from HX3b.out.grown hd.2 HX3b.out.size (fun k e => by injection e with e; omega))
    clear hd p1 q1 p2 q2
    cases b
    · go_wp2_with fail
      refine absW (P := fun W => Code.wp _ _ _ _ W) (fun W' => DU w w1.heap.size w3.heap.size a2 l2 s z W') ⟨e0, e1, k0, k1, d0, d1, HR4.out.1, HR4.out.2, HX4.out, by omega⟩ (fun WF hF => ?_)
      have r0 := hF.c0
      have r1 := hF.c1
      have r2 := hF.f0
      have r3 := hF.f1
      have r4 := hF.d0
      have r5 := hF.d1
      have HFF := Lib.hid hF
      have hLw : w.heap.size < WF.heap.size := blk_lt r0
      have ne1 : w3.heap.size ≠ w.heap.size := by omega
      have ne2 : w.heap.size ≠ w3.heap.size := by omega
      clear hF
      go_region
      all_goals
        go_wp2
        exact bodyPost_ret (v := .tuple #[.slice a2 q C2, .agg #[.string s, .int .i64 z]]) (by simp [results, Try.results17, go_sem, r0, r1]) rfl ⟨a2, C2, l2, s, z, by rw [← HQ.out], HFF.out.last _ _, HLE.out, HNI.out, HLN.out, HSZ.out, HSS.out, HFF.out.end_ _ _⟩
    · obtain ⟨m, hm⟩ : ∃ m, q = m + 1 := ⟨q - 1, by omega⟩
      have hml : m < l2.length := by rw [← HQ.out]; omega
      obtain ⟨b2, o2, rfl, y0, y1⟩ := HR4.out.1.at hml
      have YS := Lib.hid (show l2[m].1.size ≤ 61 by have := HSZ.out l2[m] (List.getElem_mem _); omega)
      obtain ⟨⟨y, i⟩, hy⟩ : ∃ y, y = l2[m] := ⟨_, rfl⟩
      rw [← hy] at y0 y1 YS
      dsimp only at y0 y1 YS
      have hm30 : m ≤ 30 := by omega
      have hbw : b2 ≠ w3.heap.size := by
        obtain ⟨g', o', e', h1, _⟩ := HR2.out.2 (by omega)
        injection e' with e'
        injection e' with e' _
        subst e'
        intro e2
        have h2 := HR2.out.1.lt b2 (by unfold blkN blockOf; rw [if_neg (by omega)]; rfl)
        omega
      have hbo : ∀ {r : Prop}, blockOf (some ⟨b2, o2, none⟩) ≠ some w3.heap.size ∨ r := .inl (fun e => hbw (by injection e))
      have HRS := Lib.hid (And.intro ((HR4.out.1.kept (grown_set w4 w3.heap.size 0 (.string y)) fun _ => hbo).kept (grown_set _ w3.heap.size 1 (.int .i64 i)) fun _ => hbo)
        ((HR4.out.2.kept (grown_set w4 w3.heap.size 0 (.string y)) fun _ => hbo).kept (grown_set _ w3.heap.size 1 (.int .i64 i)) fun _ => hbo))
      have HXS := Lib.hid ((HX4.out.setCell (p := ⟨w3.heap.size, 0, none⟩) (by show w.heap.size ≤ w3.heap.size; omega) (.string y)).setCell (p := ⟨w3.heap.size, 1, none⟩) (by show w.heap.size ≤ w3.heap.size; omega) (.int .i64 i))
      clear hy hml hbo
      subst hm
      go_wp2_with fail
      refine absW (P := fun W => Code.wp _ _ _ _ W) (fun W' => DU w w1.heap.size w3.heap.size (some ⟨b2, o2, none⟩) l2 y i W') ⟨by simp [go_sem, e0], by simp [go_sem, e1], by simp [go_sem, k0], by simp [go_sem, k1], by simp [go_sem, d0], by simp [go_sem, d1], HRS.out.1, HRS.out.2, HXS.out, by omega⟩ (fun WF hF => ?_)
      have r0 := hF.c0
      have r1 := hF.c1
      have r2 := hF.f0
      have r3 := hF.f1
      have r4 := hF.d0
      have r5 := hF.d1
      have HFF := Lib.hid hF
      have hLw : w.heap.size < WF.heap.size := blk_lt r0
      have ne1 : w3.heap.size ≠ w.heap.size := by omega
      have ne2 : w.heap.size ≠ w3.heap.size := by omega
      clear hF
      go_region
      all_goals
        go_wp2
        exact bodyPost_ret (v := .tuple #[.slice (some ⟨b2, o2, none⟩) (m + 1) C2, .agg #[.string y, .int .i64 i]]) (by simp [results, Try.results17, go_sem, r0, r1]) rfl ⟨some ⟨b2, o2, none⟩, C2, l2, y, i, by rw [← HQ.out], HFF.out.last _ _, HLE.out, HNI.out, HLN.out, HSZ.out, YS.out, HFF.out.end_ _ _⟩
end Go.Proofs.Ytgmbpohbjhaghaa.src
