/-
  The draws of FnLine's law. For every row of bytes that can be read.
-/
import Derived.Test.YtdkdkdbdnfhonaaDoorDrawTwo
import Derived.Test.YtdkdkdbdnfhonaaDoorSource
namespace Go.Proofs.YtdkdkdbdnfhonaaDoor.src
open Go.ChangeShapes Go.WideShapes Go.ChangeAt Go.RowKit
theorem drew_from {N g : Nat} {w w1 w2 : World} (hb : Below w.heap.size w w1) (hg : w.heap.size ≤ g) (h : Drew N g w1 w2) : Below w.heap.size w w2 :=
  hb.grown h.2 hb.size (fun k e => by injection e with e; omega)
theorem LineSt.bel {N g : Nat} {w : World} {L : Nat} {s : ByteArray} {i : Int} {W : World} (h : LineSt N g w L s i W) (hg : w.heap.size ≤ g) : Below w.heap.size w W :=
  (Below.refl _ w).grown h.dr.2 (Nat.le_refl _) (fun k e => by injection e with e; omega)
theorem LineSt.bel2 {N g : Nat} {w : World} {L : Nat} {s : ByteArray} {i : Int} {W : World} (h : LineSt N g w L s i W) (hg : w.heap.size ≤ g) (x y : Value) : Below w.heap.size w ((W.setCell ⟨w.heap.size, 0, none⟩ x).setCell ⟨w.heap.size, 1, none⟩ y) :=
  ((h.bel hg).setCell (p := ⟨w.heap.size, 0, none⟩) (Nat.le_refl _) _).setCell (p := ⟨w.heap.size, 1, none⟩) (Nat.le_refl _) _
/-- the source, and the result's variable in the block ahead of it -/
theorem source_of (N : Nat) (a : Option Addr) (n C : Nat) (hn : n ≤ 1048576) (w : World) (hN : N ≤ w.heap.size) (hb : BytesA N a n w) (O : Obj) :
    Calls Tryd.prog 34 #[.slice a n C] (w.alloc O) fun e w' => e = .returned (.pointer (some ⟨w.heap.size + 1, 0, none⟩)) ∧ Src N (w.heap.size + 1) w' ∧ Below w.heap.size w w' ∧ w.heap.size + 1 < w'.heap.size ∧
      (∀ o, w'.cell? ⟨w.heap.size, o, none⟩ = (w.alloc O).cell? ⟨w.heap.size, o, none⟩) ∧ (∀ o, w'.frozen? ⟨w.heap.size, o, none⟩ = (w.alloc O).frozen? ⟨w.heap.size, o, none⟩) := by
  have hz : (w.alloc O).heap.size = w.heap.size + 1 := by simp
  have hal : Below w.heap.size w (w.alloc O) := (Below.refl _ w).alloc (Nat.le_refl _) _
  refine (source_any N a n C hn _ (hb.below (hal.mono hN))).mono ?_
  rintro e w1 ⟨rfl, hs, hb1⟩
  have hlt := hs.lt
  rw [hz] at hs hlt
  exact ⟨by rw [hz], hs, bthen hal hb1 (by omega), hlt, fun o => hb1.cell (p := ⟨w.heap.size, o, none⟩) (by show w.heap.size < _; omega), fun o => hb1.frozen (p := ⟨w.heap.size, o, none⟩) (by show w.heap.size < _; omega)⟩
theorem drawSwap_any (N : Nat) (a : Option Addr) (n C : Nat) (hn : n ≤ 1048576) (w : World) (hN : N ≤ w.heap.size) (hb : BytesA N a n w) :
    Calls Tryd.prog 19 #[.slice a n C] w fun e w' => ∃ (s : ByteArray) (i : Int), e = .returned (.agg #[.string s, .int .i64 i]) ∧ s.size ≤ 61 ∧ Below w.heap.size w w' := by
  go_enter Tryd.func19, Tryd.ntmps19
  go_wp2_with fail
  refine (source_of N a n C hn w hN hb _).mono ?_
  rintro e w1 ⟨rfl, hs, hb1, hs1, k1, k2⟩
  have HB1 := Lib.hid hb1
  go_wp2_with fail
  refine (line_any N _ _ hs (by omega)).mono ?_
  rintro e w2 ⟨s, i, rfl, hz, hd⟩
  have HB2 := Lib.hid (drew_from HB1.out (by omega) hd)
  have HS2 := Lib.hid hd.1
  have hs2 : w.heap.size + 1 < w2.heap.size := hd.1.lt
  have hs2' : w.heap.size < w2.heap.size := by omega
  obtain ⟨q1, q2⟩ := hd.keep (k := w.heap.size) (by omega) (by omega)
  clear hd hs hb1
  go_wp2
  exact bodyPost_ret (v := .agg #[.string s, .int .i64 i]) (by simp [results, Tryd.results19, go_sem, q1, k1]) rfl ⟨s, i, rfl, hz, (HB2.out.setCell (p := ⟨w.heap.size, 0, none⟩) (Nat.le_refl _) _).setCell (p := ⟨w.heap.size, 1, none⟩) (Nat.le_refl _) _⟩
set_option maxHeartbeats 8000000 in
set_option maxRecDepth 20000 in
theorem drawCase_any (N : Nat) (a : Option Addr) (n C : Nat) (hn : n ≤ 1048576) (w : World) (hN : N ≤ w.heap.size) (hb : BytesA N a n w) :
    Calls Tryd.prog 17 #[.slice a n C] w fun e w' => ∃ (s : ByteArray) (i : Int) (u : Bool), e = .returned (.tuple #[.agg #[.string s, .int .i64 i], .bool u]) ∧ s.size ≤ 61 ∧ Below w.heap.size w w' := by
  go_enter Tryd.func17, Tryd.ntmps17
  go_wp2_with fail
  refine (source_of N a n C hn w hN hb _).mono ?_
  rintro e w1 ⟨rfl, hs, hb1, hs1, k1, k2⟩
  have HB1 := Lib.hid hb1
  go_wp2_with fail
  refine (line_any N _ _ hs (by omega)).mono ?_
  rintro e w2 ⟨s, i, rfl, hz, hd⟩
  have hb2 := drew_from HB1.out (by omega) hd
  have hs2 : w.heap.size + 1 < w2.heap.size := hd.1.lt
  have hs2' : w.heap.size < w2.heap.size := by omega
  obtain ⟨q1, q2⟩ := hd.keep (k := w.heap.size) (by omega) (by omega)
  have hdw : Drew N (w.heap.size + 1) w w2 := ⟨hd.1, hb2.os, hb2.tape, hb2.output, hb2.size, fun j hj _ => hb2.block j hj⟩
  have hst : LineSt N (w.heap.size + 1) w w2.heap.size s i (w2.alloc (.cells #[.string s, .int .i64 i] 35)) :=
    ⟨by simp [go_sem], by simp [go_sem], by simp [go_sem], by simp [go_sem], ⟨.string ⟨#[]⟩, by simp [go_sem, q1, k1, hs2']⟩, ⟨.int .i64 0, by simp [go_sem, q1, k1, hs2']⟩, by simp [go_sem, q2, k2, hs2'], by simp [go_sem, q2, k2, hs2'],
      hdw.below ((Below.refl _ w2).alloc (Nat.le_refl _) _), by omega, by omega, hs2', by omega⟩
  have HST := Lib.hid hst
  obtain ⟨L, hL⟩ : ∃ L, L = w2.heap.size := ⟨_, rfl⟩
  clear hd hs hb1 hb2 hdw hst k1 k2 q1 q2
  go_wp2_with fail
  rw [← hL] at HST ⊢
  refine absW (P := fun W => Code.wp _ _ _ _ W) (fun W' => LineSt N (w.heap.size + 1) w L s i W') HST.out (fun W3 h3 => ?_)
  clear HST hL hs2 hs2'
  have hL1 := h3.wL
  have hL2 := h3.gL
  have HST := Lib.hid h3
  obtain ⟨r0, q0⟩ := HST.out.r0
  obtain ⟨r1, q1⟩ := HST.out.r1
  have c0 := HST.out.c0
  have c1 := HST.out.c1
  have f0 := HST.out.f0
  have f1 := HST.out.f1
  have g0 := HST.out.g0
  have g1 := HST.out.g1
  have HST := Lib.hid (h3.below (drew_below W3))
  clear h3
  go_region_with
    (first
      | (go_at_call 40
         refine (one_any N _ 2 (by omega) _ HST.out.dr.1).mono ?_
         rintro e W7 ⟨u, rfl, hd⟩
         have HST := Lib.hid (HST.out.draw hd)
         obtain ⟨r0, q0⟩ := HST.out.r0
         obtain ⟨r1, q1⟩ := HST.out.r1
         have c0 := HST.out.c0
         have c1 := HST.out.c1
         have f0 := HST.out.f0
         have f1 := HST.out.f1
         have g0 := HST.out.g0
         have g1 := HST.out.g1
         clear hd))
  all_goals
    go_wp2
  all_goals
    exact bodyPost_ret (v := .tuple #[.agg #[.string s, .int .i64 i], .bool u]) (by simp [results, Tryd.results17, go_sem, q0, q1]) rfl ⟨s, i, u, rfl, hz, HST.out.bel2 (by omega) _ _⟩
set_option maxHeartbeats 8000000 in
set_option maxRecDepth 20000 in
theorem drawInsert_any (N : Nat) (a : Option Addr) (n C : Nat) (hn : n ≤ 1048576) (w : World) (hN : N ≤ w.heap.size) (hb : BytesA N a n w) :
    Calls Tryd.prog 13 #[.slice a n C] w fun e w' => ∃ (s : ByteArray) (i : Int) (t : ByteArray), e = .returned (.tuple #[.agg #[.string s, .int .i64 i], .string t]) ∧ s.size ≤ 61 ∧ t.size ≤ 61 ∧ Below w.heap.size w w' := by
  go_enter Tryd.func13, Tryd.ntmps13
  go_wp2_with fail
  refine (source_of N a n C hn w hN hb _).mono ?_
  rintro e w1 ⟨rfl, hs, hb1, hs1, k1, k2⟩
  have HB1 := Lib.hid hb1
  go_wp2_with fail
  refine (line_any N _ _ hs (by omega)).mono ?_
  rintro e w2 ⟨s, i, rfl, hz, hd⟩
  have hb2 := drew_from HB1.out (by omega) hd
  have hs2 : w.heap.size + 1 < w2.heap.size := hd.1.lt
  have hs2' : w.heap.size < w2.heap.size := by omega
  obtain ⟨q1, q2⟩ := hd.keep (k := w.heap.size) (by omega) (by omega)
  have hdw : Drew N (w.heap.size + 1) w w2 := ⟨hd.1, hb2.os, hb2.tape, hb2.output, hb2.size, fun j hj _ => hb2.block j hj⟩
  have hst : LineSt N (w.heap.size + 1) w w2.heap.size s i (w2.alloc (.cells #[.string s, .int .i64 i] 35)) :=
    ⟨by simp [go_sem], by simp [go_sem], by simp [go_sem], by simp [go_sem], ⟨.string ⟨#[]⟩, by simp [go_sem, q1, k1, hs2']⟩, ⟨.int .i64 0, by simp [go_sem, q1, k1, hs2']⟩, by simp [go_sem, q2, k2, hs2'], by simp [go_sem, q2, k2, hs2'],
      hdw.below ((Below.refl _ w2).alloc (Nat.le_refl _) _), by omega, by omega, hs2', by omega⟩
  have HST := Lib.hid hst
  obtain ⟨L, hL⟩ : ∃ L, L = w2.heap.size := ⟨_, rfl⟩
  clear hd hs hb1 hb2 hdw hst k1 k2 q1 q2
  go_wp2_with fail
  rw [← hL] at HST ⊢
  refine absW (P := fun W => Code.wp _ _ _ _ W) (fun W' => LineSt N (w.heap.size + 1) w L s i W') HST.out (fun W3 h3 => ?_)
  clear HST hL hs2 hs2'
  have hL1 := h3.wL
  have hL2 := h3.gL
  have HST := Lib.hid h3
  obtain ⟨r0, q0⟩ := HST.out.r0
  obtain ⟨r1, q1⟩ := HST.out.r1
  have c0 := HST.out.c0
  have c1 := HST.out.c1
  have f0 := HST.out.f0
  have f1 := HST.out.f1
  have g0 := HST.out.g0
  have g1 := HST.out.g1
  have HST := Lib.hid (h3.below (drew_below W3))
  clear h3
  go_region_with
    (first
      | (go_at_call 46
         refine (odd_any N _ _ HST.out.dr.1 (by have := HST.out.lt; have := HST.out.nL; omega)).mono ?_
         rintro e W7 ⟨t, rfl, ht, hd⟩
         have HST := Lib.hid (HST.out.draw hd)
         obtain ⟨r0, q0⟩ := HST.out.r0
         obtain ⟨r1, q1⟩ := HST.out.r1
         have c0 := HST.out.c0
         have c1 := HST.out.c1
         have f0 := HST.out.f0
         have f1 := HST.out.f1
         have g0 := HST.out.g0
         have g1 := HST.out.g1
         clear hd))
  all_goals
    go_wp2
  all_goals
    exact bodyPost_ret (v := .tuple #[.agg #[.string s, .int .i64 i], .string t]) (by simp [results, Tryd.results13, go_sem, q0, q1]) rfl ⟨s, i, t, rfl, hz, ht, HST.out.bel2 (by omega) _ _⟩
set_option maxHeartbeats 8000000 in
set_option maxRecDepth 20000 in
theorem drawErase_any (N : Nat) (a : Option Addr) (n C : Nat) (hn : n ≤ 1048576) (w : World) (hN : N ≤ w.heap.size) (hb : BytesA N a n w) :
    Calls Tryd.prog 15 #[.slice a n C] w fun e w' => ∃ (s : ByteArray) (i f t : Int), e = .returned (.tuple #[.agg #[.string s, .int .i64 i], .int .i64 f, .int .i64 t]) ∧ s.size ≤ 61 ∧ Below w.heap.size w w' := by
  go_enter Tryd.func15, Tryd.ntmps15
  go_wp2_with fail
  refine (source_of N a n C hn w hN hb _).mono ?_
  rintro e w1 ⟨rfl, hs, hb1, hs1, k1, k2⟩
  have HB1 := Lib.hid hb1
  go_wp2_with fail
  refine (line_any N _ _ hs (by omega)).mono ?_
  rintro e w2 ⟨s, i, rfl, hz, hd⟩
  have hb2 := drew_from HB1.out (by omega) hd
  have hs2 : w.heap.size + 1 < w2.heap.size := hd.1.lt
  have hs2' : w.heap.size < w2.heap.size := by omega
  obtain ⟨q1, q2⟩ := hd.keep (k := w.heap.size) (by omega) (by omega)
  have hdw : Drew N (w.heap.size + 1) w w2 := ⟨hd.1, hb2.os, hb2.tape, hb2.output, hb2.size, fun j hj _ => hb2.block j hj⟩
  have hst : LineSt N (w.heap.size + 1) w w2.heap.size s i (w2.alloc (.cells #[.string s, .int .i64 i] 35)) :=
    ⟨by simp [go_sem], by simp [go_sem], by simp [go_sem], by simp [go_sem], ⟨.string ⟨#[]⟩, by simp [go_sem, q1, k1, hs2']⟩, ⟨.int .i64 0, by simp [go_sem, q1, k1, hs2']⟩, by simp [go_sem, q2, k2, hs2'], by simp [go_sem, q2, k2, hs2'],
      hdw.below ((Below.refl _ w2).alloc (Nat.le_refl _) _), by omega, by omega, hs2', by omega⟩
  have HST := Lib.hid hst
  obtain ⟨L, hL⟩ : ∃ L, L = w2.heap.size := ⟨_, rfl⟩
  clear hd hs hb1 hb2 hdw hst k1 k2 q1 q2
  have hfld : ∀ W : World, (Instr.field 35 (.agg #[.string s, .int .i64 i]) 0).run Tryd.prog W = .ok (.string s) W := fun _ => by kernel_rfl
  have hwz : IntKind.i64.wrap ((s.size : Int) + 2) = (s.size : Int) + 2 := IntWalk.i64_in _ (by omega)
  go_wp2_with fail
  rw [← hL] at HST ⊢
  refine absW (P := fun W => Code.wp _ _ _ _ W) (fun W' => LineSt N (w.heap.size + 1) w L s i W') HST.out (fun W3 h3 => ?_)
  clear HST hL hs2 hs2'
  have hL1 := h3.wL
  have hL2 := h3.gL
  have HST := Lib.hid h3
  obtain ⟨r0, q0⟩ := HST.out.r0
  obtain ⟨r1, q1⟩ := HST.out.r1
  have c0 := HST.out.c0
  have c1 := HST.out.c1
  have f0 := HST.out.f0
  have f1 := HST.out.f1
  have g0 := HST.out.g0
  have g1 := HST.out.g1
  have HST := Lib.hid (h3.below (drew_below W3))
  clear h3
  go_region_with
    (first
      | (go_at_call 41
         refine (n_in N _ _ (by omega) (by omega) _ HST.out.dr.1).mono ?_
         rintro e W7 ⟨r, rfl, hr, hd⟩
         have HST := Lib.hid (HST.out.draw hd)
         obtain ⟨r0, q0⟩ := HST.out.r0
         obtain ⟨r1, q1⟩ := HST.out.r1
         have c0 := HST.out.c0
         have c1 := HST.out.c1
         have f0 := HST.out.f0
         have f1 := HST.out.f1
         have g0 := HST.out.g0
         have g1 := HST.out.g1
         clear hd))
  all_goals
    go_wp2
  all_goals
    exact bodyPost_ret (v := .tuple #[.agg #[.string s, .int .i64 i], .int .i64 _, .int .i64 _]) (by simp [results, Tryd.results15, go_sem, q0, q1]; exact ⟨rfl, rfl⟩) rfl ⟨s, i, _, _, rfl, hz, HST.out.bel2 (by omega) _ _⟩
end Go.Proofs.YtdkdkdbdnfhonaaDoor.src
