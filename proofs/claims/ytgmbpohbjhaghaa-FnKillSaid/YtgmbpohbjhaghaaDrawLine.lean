/-
  Draws: a line that may not be right, and its text. What comes is bounded; nothing else is said of it.
-/
import Derived.Test.YtgmbpohbjhaghaaDraw
import Derived.Deep.RegionWith
namespace Go.Proofs.Ytgmbpohbjhaghaa.src
open Go.ChangeShapes Go.WideShapes Go.ChangeAt Go.RowKit
theorem two_at (x y : Int) (r : Nat) (hr : r < 2) : ∃ v : Int, (#[Value.int .i64 x, Value.int .i64 y] : Array Value)[r]? = some (.int .i64 v) := by
  have : r = 0 ∨ r = 1 := by omega
  rcases this with rfl | rfl <;> exact ⟨_, rfl⟩
theorem Drew.first {N g : Nat} {a b : World} (h : Drew N g a b) : Drew N g a b.drew := h.below (drew_below b)
/-- a line in the block L, the answer's variable in the block that was the first new one -/
structure LineSt (N g : Nat) (w : World) (L : Nat) (s : ByteArray) (i : Int) (W : World) : Prop where
  c0 : W.cell? ⟨L, 0, none⟩ = some (.string s)
  c1 : W.cell? ⟨L, 1, none⟩ = some (.int .i64 i)
  f0 : W.frozen? ⟨L, 0, none⟩ = false
  f1 : W.frozen? ⟨L, 1, none⟩ = false
  r0 : ∃ v, W.cell? ⟨w.heap.size, 0, none⟩ = some v
  r1 : ∃ v, W.cell? ⟨w.heap.size, 1, none⟩ = some v
  g0 : W.frozen? ⟨w.heap.size, 0, none⟩ = false
  g1 : W.frozen? ⟨w.heap.size, 1, none⟩ = false
  dr : Drew N g w W
  nL : N ≤ L
  gL : L ≠ g
  wL : w.heap.size < L
  gw : w.heap.size ≠ g
section
variable {N g : Nat} {w : World} {L : Nat} {s : ByteArray} {i : Int} {W : World}
theorem LineSt.move (h : LineSt N g w L s i W) {W' : World} (hd : Drew N g w W') (h1 : W'.heap[L]? = W.heap[L]?) (h2 : W'.heap[w.heap.size]? = W.heap[w.heap.size]?) : LineSt N g w L s i W' :=
  ⟨(World.cell?_of_block (a := ⟨L, 0, none⟩) h1).trans h.c0, (World.cell?_of_block (a := ⟨L, 1, none⟩) h1).trans h.c1, (World.frozen?_of_block (a := ⟨L, 0, none⟩) h1).trans h.f0, (World.frozen?_of_block (a := ⟨L, 1, none⟩) h1).trans h.f1,
   h.r0.imp fun _ e => (World.cell?_of_block (a := ⟨w.heap.size, 0, none⟩) h2).trans e, h.r1.imp fun _ e => (World.cell?_of_block (a := ⟨w.heap.size, 1, none⟩) h2).trans e,
   (World.frozen?_of_block (a := ⟨w.heap.size, 0, none⟩) h2).trans h.g0, (World.frozen?_of_block (a := ⟨w.heap.size, 1, none⟩) h2).trans h.g1, hd, h.nL, h.gL, h.wL, h.gw⟩
theorem LineSt.lt (h : LineSt N g w L s i W) : L < W.heap.size := blk_lt h.c0
theorem LineSt.below (h : LineSt N g w L s i W) {W' : World} (hb : Below W.heap.size W W') : LineSt N g w L s i W' :=
  h.move (h.dr.below hb) (hb.block _ h.lt) (hb.block _ (by have := h.lt; have := h.wL; omega))
theorem LineSt.draw (h : LineSt N g w L s i W) {W' : World} (hd : Drew N g W W') : LineSt N g w L s i W' :=
  h.move (h.dr.trans hd) (hd.2.block _ h.lt (fun e => h.gL (by injection e))) (hd.2.block _ (by have := h.lt; have := h.wL; omega) (fun e => h.gw (by injection e)))
theorem LineSt.setOther (h : LineSt N g w L s i W) {k o : Nat} {v : Value} (hk : L < k) (hg : k ≠ g) : LineSt N g w L s i (W.setCell ⟨k, o, none⟩ v) :=
  h.move (h.dr.set (by have := h.nL; omega) hg (by have := h.wL; omega)) (heap_setCell_other _ _ _ _ (by show L ≠ k; omega)) (heap_setCell_other _ _ _ _ (by show w.heap.size ≠ k; have := h.wL; omega))
theorem LineSt.set0 (h : LineSt N g w L s i W) (s' : ByteArray) : LineSt N g w L s' i (W.setCell ⟨L, 0, none⟩ (.string s')) :=
  ⟨set_same h.c0, (set_other (addr_ne (by omega))).trans h.c1, by rw [World.frozen?_setCell]; exact h.f0, by rw [World.frozen?_setCell]; exact h.f1,
   h.r0.imp fun _ e => (set_other (addr_nb (Nat.ne_of_lt h.wL))).trans e, h.r1.imp fun _ e => (set_other (addr_nb (Nat.ne_of_lt h.wL))).trans e,
   by rw [World.frozen?_setCell]; exact h.g0, by rw [World.frozen?_setCell]; exact h.g1, h.dr.set h.nL h.gL (Nat.le_of_lt h.wL), h.nL, h.gL, h.wL, h.gw⟩
theorem LineSt.set1 (h : LineSt N g w L s i W) (i' : Int) : LineSt N g w L s i' (W.setCell ⟨L, 1, none⟩ (.int .i64 i')) :=
  ⟨(set_other (addr_ne (by omega))).trans h.c0, set_same h.c1, by rw [World.frozen?_setCell]; exact h.f0, by rw [World.frozen?_setCell]; exact h.f1,
   h.r0.imp fun _ e => (set_other (addr_nb (Nat.ne_of_lt h.wL))).trans e, h.r1.imp fun _ e => (set_other (addr_nb (Nat.ne_of_lt h.wL))).trans e,
   by rw [World.frozen?_setCell]; exact h.g0, by rw [World.frozen?_setCell]; exact h.g1, h.dr.set h.nL h.gL (Nat.le_of_lt h.wL), h.nL, h.gL, h.wL, h.gw⟩
end
set_option maxHeartbeats 4000000 in
set_option maxRecDepth 20000 in
theorem line_any (N g : Nat) (w : World) (h : Src N g w) (hN : N ≤ w.heap.size) :
    Calls Try.prog 68 #[.pointer (some ⟨g, 0, none⟩)] w fun e w' => ∃ (s : ByteArray) (i : Int), e = .returned (.agg #[.string s, .int .i64 i]) ∧ s.size ≤ 61 ∧ Drew N g w w' := by
  have hgl := h.lt
  have hgn : w.heap.size ≠ g := by omega
  go_enter Try.func68, Try.ntmps68
  go_wp2_with fail
  refine (lineOf_any N g _ (h.below ((Below.refl _ w).alloc (Nat.le_refl _) _)) (by simp; omega)).mono ?_
  rintro e w1 ⟨s, i, rfl, hs, hd⟩
  obtain ⟨k1, k2⟩ := hd.keep (k := w.heap.size) (by simp) hgn
  have hs1 : w.heap.size < w1.heap.size := by have := hd.2.size; simp at this; omega
  have hgn1 : w1.heap.size ≠ g := by omega
  have HD1 := Lib.hid (Drew.after ((Below.refl _ w).alloc (Nat.le_refl _) _) hd)
  have hst : LineSt N g w w1.heap.size s i (w1.alloc (.cells #[.string s, .int .i64 i] 33)) :=
    ⟨by simp [go_sem], by simp [go_sem], by simp [go_sem], by simp [go_sem], ⟨.string ⟨#[]⟩, by simp [go_sem, k1, hs1]⟩, ⟨.int .i64 0, by simp [go_sem, k1, hs1]⟩, by simp [go_sem, k2, hs1], by simp [go_sem, k2, hs1],
      HD1.out.below ((Below.refl _ w1).alloc (Nat.le_refl _) _), by omega, hgn1, hs1, hgn⟩
  obtain ⟨L, hL⟩ : ∃ L, L = w1.heap.size := ⟨_, rfl⟩
  have HST := Lib.hid hst
  clear hd h hst k1 k2
  go_wp2_with fail
  refine (n_in N g 16 (by omega) (by omega) _ HST.out.dr.1).mono ?_
  rintro e w2 ⟨r, rfl, _, hd⟩
  have hst := HST.out.draw hd
  rw [← hL] at hst ⊢
  obtain ⟨r0, q0⟩ := hst.r0
  obtain ⟨r1, q1⟩ := hst.r1
  have c0 := hst.c0
  have c1 := hst.c1
  have f0 := hst.f0
  have f1 := hst.f1
  have g0 := hst.g0
  have g1 := hst.g1
  have H2 := Lib.hid hst
  have hgw2 := hst.dr.1.lt
  have hL2 := hst.lt
  have hwL := hst.wL
  have hgL := hst.gL
  clear hd hst HST HD1 hL hs1 hgn1
  by_cases e3 : 3 ≤ r
  · have d0 : ((r : Int) == 0) = false := by simp; omega
    have d1 : ((r : Int) == 1) = false := by simp; omega
    have d2 : ((r : Int) == 2) = false := by simp; omega
    go_wp2
    exact bodyPost_ret (v := .agg #[.string s, .int .i64 i]) (by simp [results, Try.results68, go_sem, q0, q1]) rfl ⟨s, i, rfl, by omega, (H2.out.dr.set hN hgn (Nat.le_refl _)).set hN hgn (Nat.le_refl _)⟩
  · have hr3 : r = 0 ∨ r = 1 ∨ r = 2 := by omega
    clear e3
    rcases hr3 with rfl | rfl | rfl
    · go_wp2_with fail
      have c0' : w2.drew.cell? ⟨L, 0, none⟩ = some (.string s) := c0
      have hwr : IntKind.i64.wrap ((s.size : Int) + 1) = (s.size : Int) + 1 := IntWalk.i64_in _ (by omega)
      have hB := ((Below.refl _ w2).alloc (Nat.le_refl _) (.cells #[.int .i64 (-1), .int .i64 ((s.size : Int) + 1)] 2)).drew
      have hrow : (w2.alloc (.cells #[.int .i64 (-1), .int .i64 ((s.size : Int) + 1)] 2)).drew.heap[w2.heap.size]? = some (.cells #[.int .i64 (-1), .int .i64 ((s.size : Int) + 1)] 2 (0, 0)) := heap_alloc_new w2 _
      have HB := Lib.hid (H2.out.below hB)
      go_region_with (first
        | (go_at_call 60
           refine (n_in N g 2 (by omega) (by omega) _ HB.out.dr.1).mono ?_
           rintro e w3 ⟨r, rfl, hr, hd⟩
           have hr0 : (0 : Int) ≤ (r : Int) := by omega
           obtain ⟨v, hv⟩ := two_at (-1) ((s.size : Int) + 1) r (by omega)
           have hst := HB.out.draw hd
           have hcv : w3.cell? ⟨w2.heap.size, r, none⟩ = some (.int .i64 v) := ((hd.keep (k := w2.heap.size) (by show _ < (w2.alloc _).heap.size; simp) (by omega)).1 r).trans ((cell_of_row _ _ _ _ _ _ hrow).trans hv)
           have g0 := hst.c0
           have g1 := hst.c1
           have e1 := hst.f1
           have H3 := Lib.hid hst
           clear hd hst)
        | (go_at_call 60
           refine (n_in N g 2 (by omega) (by omega) _ (H2.out.below (drew_below _)).dr.1).mono ?_
           rintro e w3 ⟨r, rfl, hr, hd⟩
           have hr0 : (0 : Int) ≤ (r : Int) := by omega
           obtain ⟨v, hv⟩ := two_at (-1) ((s.size : Int) + 1) r (by omega)
           have hst := (H2.out.below (drew_below _)).draw hd
           have g0 := hst.c0
           have g1 := hst.c1
           have e1 := hst.f1
           have hL3 := hst.lt
           have hL4 : L ≠ w3.heap.size := by omega
           have hv2 := hv
           rw [List.getElem?_toArray] at hv2
           have hv1 : (w3.alloc (.cells #[.int .i64 (-1), .int .i64 ((s.size : Int) + 1)] 2)).cell? ⟨w3.heap.size, r, none⟩ = some (.int .i64 v) := (cell_of_row _ _ _ _ _ _ (heap_alloc_new w3 _)).trans hv
           have H3 := Lib.hid hst
           clear hd hst))
      all_goals
        refine absW (P := fun W => Exit.inBlock 0 (Exit.then _ _) .normal _ W) (fun W' => LineSt N g w L s v W') (by first | exact H3.out.set1 v | exact (H3.out.set1 v).below ((Below.refl _ _).alloc (Nat.le_refl _) _)) (fun WF hF => ?_)
        obtain ⟨u0, hq0⟩ := hF.r0
        obtain ⟨u1, hq1⟩ := hF.r1
        have hc0 := hF.c0
        have hc1 := hF.c1
        have hg0 := hF.g0
        have hg1 := hF.g1
        have hlt := hF.wL
        go_wp2
        exact bodyPost_ret (v := .agg #[.string s, .int .i64 v]) (by simp [results, Try.results68, go_sem, hq0, hq1]) rfl ⟨s, v, rfl, by omega, (hF.dr.set hN hgn (Nat.le_refl _)).set hN hgn (Nat.le_refl _)⟩
    · go_wp2_with fail
      have c0' : w2.drew.cell? ⟨L, 0, none⟩ = some (.string s) := c0
      have hB := ((Below.refl _ w2).alloc (Nat.le_refl _) (.cells #[.string ⟨#[31]⟩, .string ⟨#[127]⟩, .string ⟨#[128]⟩] 9)).drew
      have hrow : (w2.alloc (.cells #[.string ⟨#[31]⟩, .string ⟨#[127]⟩, .string ⟨#[128]⟩] 9)).drew.heap[w2.heap.size]? = some (.cells #[.string ⟨#[31]⟩, .string ⟨#[127]⟩, .string ⟨#[128]⟩] 9 (0, 0)) := heap_alloc_new w2 _
      have HB := Lib.hid (H2.out.below hB)
      have hstr : StrRow (#[Value.string ⟨#[31]⟩, .string ⟨#[127]⟩, .string ⟨#[128]⟩] : Array Value).toList 1 := by
        intro v hv
        simp at hv
        rcases hv with rfl | rfl | rfl <;> exact ⟨_, rfl, by decide⟩
      go_region_with (first
        | (go_at_call 111
           refine (pick_any N g w2.heap.size 3 _ _ _ 1 (by omega) (by omega) rfl hstr (by omega) _ HB.out.dr.1 hrow).mono ?_
           rintro e w3 ⟨t, rfl, ht, hd⟩
           have hst := HB.out.draw hd
           have g0 := hst.c0
           have g1 := hst.c1
           have e0 := hst.f0
           have z1 : ¬ 9223372036854775807 < s.size + t.size := by omega
           have H3 := Lib.hid hst
           clear hd hst))
      all_goals
        refine absW (P := fun W => Exit.inBlock 0 (Exit.then _ _) .normal _ W) (fun W' => LineSt N g w L (s ++ t) i W') (H3.out.set0 (s ++ t)) (fun WF hF => ?_)
        obtain ⟨st, hst⟩ : ∃ st, st = s ++ t := ⟨_, rfl⟩
        rw [← hst] at hF ⊢
        have hsz : st.size ≤ 61 := by rw [hst, ByteArray.size_append]; omega
        clear hst
        obtain ⟨u0, hq0⟩ := hF.r0
        obtain ⟨u1, hq1⟩ := hF.r1
        have hc0 := hF.c0
        have hc1 := hF.c1
        have hg0 := hF.g0
        have hg1 := hF.g1
        have hlt := hF.wL
        go_wp2
        exact bodyPost_ret (v := .agg #[.string st, .int .i64 i]) (by simp [results, Try.results68, go_sem, hq0, hq1]) rfl ⟨st, i, rfl, hsz, (hF.dr.set hN hgn (Nat.le_refl _)).set hN hgn (Nat.le_refl _)⟩
    · go_wp2_with fail
      refine (n_in N g 3 (by omega) (by omega) _ H2.out.dr.1).mono ?_
      rintro e w3 ⟨q, rfl, hq, hd⟩
      have H3 := Lib.hid (H2.out.draw hd)
      clear hd c0 c1 f0 f1 g0 g1 q0 q1 H2 hgw2 hL2
      obtain ⟨i0, hi, hz0, hz1, hz2⟩ := info_parts info5
      obtain ⟨m, hm⟩ : ∃ m : Nat, m = 59 + q := ⟨_, rfl⟩
      have hw59 : IntKind.i64.wrap (59 + (q : Int)) = (m : Int) := by rw [IntWalk.i64_in _ (by omega)]; omega
      have hmk : ∀ W : World, (Instr.makeSlice 22 (.int .i64 (m : Int)) (.int .i64 (m : Int))).run Try.prog W = .ok (.slice (some ⟨W.heap.size, 0, none⟩) m m) (W.alloc (.cells (rowOf [] m) 5)) := fun W => by
        have h := run_make (P := Try.prog) W 22 5 i0 (.int .u8 0) Try.underlying22 hi hz0 .i64 .i64 (m : Int) (m : Int) (by omega) (by omega) (by rw [hz2]; omega) (by omega)
        have e : madeCells (Value.int .u8 0).cells ((m : Int).toNat * i0.size) = rowOf [] m := by
          rw [hz1, Nat.mul_one, rowOf_nil]
          apply Array.ext'
          rw [Int.toNat_natCast]
          exact toList_madeCells_one _ _
        rw [e, Int.toNat_natCast] at h
        exact h
      have hm61 : m ≤ 61 := by omega
      have hL3 := H3.out.lt
      have hg3 := H3.out.dr.1.lt
      have hal := H3.out.below ((Below.refl _ w3).alloc (Nat.le_refl _) (.cells (rowOf [] m) 5))
      obtain ⟨B, hB⟩ : ∃ B, B = w3.heap.size := ⟨_, rfl⟩
      have hrow : (w3.alloc (.cells (rowOf [] m) 5)).heap[B]? = some (.cells (rowOf [] m) 5 (0, 0)) := by rw [hB]; exact heap_alloc_new w3 _
      have HA := Lib.hid hal
      have HR := Lib.hid hrow
      clear hal hrow hq hi hz0 hz1 hz2 H3 hm
      have hgB : B ≠ g := by omega
      have hLB : L < B := by omega
      go_wp2
      rw [← hB]
      clear hB hL3 hg3
      go_loopw [5] (fun x wr => ∃ k : Nat, k ≤ m ∧ x = .int .i64 k ∧ wr.heap[B]? = some (.cells (rowOf (List.replicate k 122) m) 5 (0, 0)) ∧ LineSt N g w L s i wr) (fun x _ => m - (intOf x).toNat)
      case atStart => exact ⟨0, Nat.zero_le _, rfl, HR.out, HA.out⟩
      case round =>
        obtain ⟨k, hk, rfl, hrow, hst⟩ := hrel
        rename World => wr
        by_cases hlt : k < m
        · have hcB : wr.cell? ⟨B, k, none⟩ = some (.int .u8 0) := by
            rw [cell_of_row _ _ _ _ _ _ hrow]
            have := rowOf_free (List.replicate k 122) m (by simpa using hlt)
            simpa using this
          have hfB : wr.frozen? ⟨B, k, none⟩ = false := frozen_of_row _ _ _ _ _ hrow
          have hnew : (wr.setCell ⟨B, k, none⟩ (.int .u8 122)).heap[B]? = some (.cells (rowOf (List.replicate (k + 1) 122) m) 5 (0, 0)) := by
            rw [heap_setCell_same _ _ _ _ _ _ hrow]
            have := rowOf_set (List.replicate k 122) m 122 (by simpa using hlt)
            rw [List.length_replicate] at this
            rw [List.replicate_succ']
            exact congrArg (fun x => some (Obj.cells x 5 (0, 0))) this
          have hst2 := hst.setOther (k := B) (o := k) (v := .int .u8 122) hLB hgB
          have HN := Lib.hid hnew
          have HS := Lib.hid hst2
          clear hnew hst2 hst hrow
          go_wp2
          go_roundw
          case rel => exact ⟨k + 1, by omega, by go_num, HN.out, HS.out⟩
          case measure => simp [intOf]; omega
        · obtain rfl : k = m := by omega
          have hcv := conv_row (P := Try.prog) (w := wr) (g := B) (cap := k) 22 5 Try.underlying22 Try.underlying5 (List.replicate k 122) (fun j hj => by
            rw [cell_of_row _ _ _ _ _ _ hrow]; exact rowOf_at _ _ _ hj) 9 Try.underlying9
          rw [List.length_replicate] at hcv
          obtain ⟨st, hst'⟩ : ∃ st : ByteArray, st = ⟨(List.replicate k (122 : UInt8)).toArray⟩ := ⟨_, rfl⟩
          rw [← hst'] at hcv
          have hsz : st.size ≤ 61 := by rw [hst']; simp [ByteArray.size]; omega
          have hc0 := hst.c0
          have hf0 := hst.f0
          have hc1 := hst.c1
          obtain ⟨u0, hq0⟩ := hst.r0
          obtain ⟨u1, hq1⟩ := hst.r1
          have hg0 := hst.g0
          have hg1 := hst.g1
          have HS := Lib.hid (hst.set0 st)
          clear hst hrow hst' hw59 hmk HR HA
          go_wp2
          exact bodyPost_ret (v := .agg #[.string st, .int .i64 i]) (by simp [results, Try.results68, go_sem, hq0, hq1]) rfl ⟨st, i, rfl, hsz, (HS.out.dr.set hN hgn (Nat.le_refl _)).set hN hgn (Nat.le_refl _)⟩
end Go.Proofs.Ytgmbpohbjhaghaa.src
