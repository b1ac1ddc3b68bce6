/-
  Draws: Kills, right ones as a rule. What comes is bounded; nothing else is said of it.
-/
import Derived.Test.YtgmbpohbjhaghaaDrawTwo
import Derived.Test.YtgmbpohbjhaghaaKillLaws
import Derived.Test.YtgmbpohbjhaghaaKillPutImpl
import Derived.Test.YtgmbpohbjhaghaaKillApp
import Derived.Test.YtgmbpohbjhaghaaUndoSpec
namespace Go.Proofs.Ytgmbpohbjhaghaa.src
open Go.ChangeShapes Go.WideShapes Go.ChangeAt Go.RowKit
open Go.Proofs.Ytgmbpohbjhaghaa.strs Go.Proofs.Ytgmbpohbjhaghaa.kill
/-- what is known of Kills that are drawn -/
structure KFit (a : Option Addr) (C : Nat) (l : List ByteArray) (t : Int) : Prop where
  ln : l.length ≤ 11
  sz : ∀ s ∈ l, s.size ≤ 60
  tt : -1 ≤ t ∧ t ≤ 10
structure KSt (N g : Nat) (w : World) (K : Nat) (a : Option Addr) (C : Nat) (l : List ByteArray) (t : Int) (W : World) : Prop where
  c0 : W.cell? ⟨K, 0, none⟩ = some (.slice a l.length C)
  c1 : W.cell? ⟨K, 1, none⟩ = some (.int .i64 t)
  f0 : W.frozen? ⟨K, 0, none⟩ = false
  f1 : W.frozen? ⟨K, 1, none⟩ = false
  r0 : ∃ v, W.cell? ⟨w.heap.size, 0, none⟩ = some v
  r1 : ∃ v, W.cell? ⟨w.heap.size, 1, none⟩ = some v
  g0 : W.frozen? ⟨w.heap.size, 0, none⟩ = false
  g1 : W.frozen? ⟨w.heap.size, 1, none⟩ = false
  kr : KR (K + 1) W a C l
  dr : Drew N g w W
  nK : N ≤ K
  gK : g < K
  wK : w.heap.size < K
  gw : g < w.heap.size
section
variable {N g : Nat} {w : World} {K : Nat} {a : Option Addr} {C : Nat} {l : List ByteArray} {t : Int} {W : World}
theorem KSt.move (h : KSt N g w K a C l t W) {W' : World} (hd : Drew N g w W') (hk : KR (K + 1) W' a C l) (h1 : W'.heap[K]? = W.heap[K]?) (h2 : W'.heap[w.heap.size]? = W.heap[w.heap.size]?) : KSt N g w K a C l t W' :=
  ⟨(World.cell?_of_block (a := ⟨K, 0, none⟩) h1).trans h.c0, (World.cell?_of_block (a := ⟨K, 1, none⟩) h1).trans h.c1, (World.frozen?_of_block (a := ⟨K, 0, none⟩) h1).trans h.f0, (World.frozen?_of_block (a := ⟨K, 1, none⟩) h1).trans h.f1,
   h.r0.imp fun _ e => (World.cell?_of_block (a := ⟨w.heap.size, 0, none⟩) h2).trans e, h.r1.imp fun _ e => (World.cell?_of_block (a := ⟨w.heap.size, 1, none⟩) h2).trans e,
   (World.frozen?_of_block (a := ⟨w.heap.size, 0, none⟩) h2).trans h.g0, (World.frozen?_of_block (a := ⟨w.heap.size, 1, none⟩) h2).trans h.g1, hk, hd, h.nK, h.gK, h.wK, h.gw⟩
theorem KSt.lt (h : KSt N g w K a C l t W) : K < W.heap.size := blk_lt h.c0
theorem KSt.below (h : KSt N g w K a C l t W) {W' : World} (hb : Below W.heap.size W W') : KSt N g w K a C l t W' :=
  h.move (h.dr.below hb) (h.kr.later hb) (hb.block _ h.lt) (hb.block _ (by have := h.lt; have := h.wK; omega))
theorem KSt.draw (h : KSt N g w K a C l t W) {W' : World} (hd : Drew N g W W') : KSt N g w K a C l t W' :=
  h.move (h.dr.trans hd) (h.kr.kept hd.2 (fun b e => by injection e with e; have := h.gK; omega)) (hd.2.block _ h.lt (fun e => by have := h.gK; injection e; omega)) (hd.2.block _ (by have := h.lt; have := h.wK; omega) (fun e => by have := h.gw; injection e; omega))
theorem KSt.set (h : KSt N g w K a C l t W) {a' : Option Addr} {C' : Nat} {l' : List ByteArray} {t' : Int} (hk : KR (K + 1) W a' C' l') : KSt N g w K a' C' l' t' ((W.setCell ⟨K, 0, none⟩ (.slice a' l'.length C')).setCell ⟨K, 1, none⟩ (.int .i64 t')) :=
  ⟨(set_other (addr_ne (by omega))).trans (set_same h.c0), set_same ((set_other (addr_ne (by omega))).trans h.c1), by rw [World.frozen?_setCell, World.frozen?_setCell]; exact h.f0, by rw [World.frozen?_setCell, World.frozen?_setCell]; exact h.f1,
   h.r0.imp fun _ e => (set_other (addr_nb (Nat.ne_of_lt h.wK))).trans ((set_other (addr_nb (Nat.ne_of_lt h.wK))).trans e), h.r1.imp fun _ e => (set_other (addr_nb (Nat.ne_of_lt h.wK))).trans ((set_other (addr_nb (Nat.ne_of_lt h.wK))).trans e),
   by rw [World.frozen?_setCell, World.frozen?_setCell]; exact h.g0, by rw [World.frozen?_setCell, World.frozen?_setCell]; exact h.g1, (hk.set (by omega)).set (by omega), (h.dr.set h.nK (by have := h.gK; omega) (Nat.le_of_lt h.wK)).set h.nK (by have := h.gK; omega) (Nat.le_of_lt h.wK), h.nK, h.gK, h.wK, h.gw⟩
theorem KSt.set0 (h : KSt N g w K a C l t W) {a' : Option Addr} {C' : Nat} {l' : List ByteArray} (hk : KR (K + 1) W a' C' l') : KSt N g w K a' C' l' t (W.setCell ⟨K, 0, none⟩ (.slice a' l'.length C')) :=
  ⟨set_same h.c0, (set_other (addr_ne (by omega))).trans h.c1, by rw [World.frozen?_setCell]; exact h.f0, by rw [World.frozen?_setCell]; exact h.f1,
   h.r0.imp fun _ e => (set_other (addr_nb (Nat.ne_of_lt h.wK))).trans e, h.r1.imp fun _ e => (set_other (addr_nb (Nat.ne_of_lt h.wK))).trans e,
   by rw [World.frozen?_setCell]; exact h.g0, by rw [World.frozen?_setCell]; exact h.g1, hk.set (by omega), h.dr.set h.nK (by have := h.gK; omega) (Nat.le_of_lt h.wK), h.nK, h.gK, h.wK, h.gw⟩
theorem KSt.set1 (h : KSt N g w K a C l t W) (t' : Int) : KSt N g w K a C l t' (W.setCell ⟨K, 1, none⟩ (.int .i64 t')) :=
  ⟨(set_other (addr_ne (by omega))).trans h.c0, set_same h.c1, by rw [World.frozen?_setCell]; exact h.f0, by rw [World.frozen?_setCell]; exact h.f1,
   h.r0.imp fun _ e => (set_other (addr_nb (Nat.ne_of_lt h.wK))).trans e, h.r1.imp fun _ e => (set_other (addr_nb (Nat.ne_of_lt h.wK))).trans e,
   by rw [World.frozen?_setCell]; exact h.g0, by rw [World.frozen?_setCell]; exact h.g1, h.kr.set (by omega), h.dr.set h.nK (by have := h.gK; omega) (Nat.le_of_lt h.wK), h.nK, h.gK, h.wK, h.gw⟩
theorem KSt.app (h : KSt N g w K a C l t W) {W' : World} {r : Option Nat} (hg : W.grownBy W' r) (hr : ∀ x, r = some x → K < x) {a' : Option Addr} {C' : Nat} {l' : List ByteArray} (hk : KR (K + 1) W' a' C' l') :
    (W'.cell? ⟨K, 0, none⟩ = some (.slice a l.length C) ∧ W'.frozen? ⟨K, 0, none⟩ = false) ∧ (W'.cell? ⟨K, 1, none⟩ = some (.int .i64 t) ∧ (∃ v, W'.cell? ⟨w.heap.size, 0, none⟩ = some v) ∧ (∃ v, W'.cell? ⟨w.heap.size, 1, none⟩ = some v) ∧ W'.frozen? ⟨w.heap.size, 0, none⟩ = false ∧ W'.frozen? ⟨w.heap.size, 1, none⟩ = false) ∧ KSt N g w K a' C' l' t (W'.setCell ⟨K, 0, none⟩ (.slice a' l'.length C')) := by
  have hK : W'.heap[K]? = W.heap[K]? := hg.block K h.lt (fun e => by have := hr K e.symm; omega)
  have hR : W'.heap[w.heap.size]? = W.heap[w.heap.size]? := hg.block _ (by have := h.lt; have := h.wK; omega) (fun e => by have := hr _ e.symm; have := h.wK; omega)
  have hd : Drew N g w W' := by
    cases r with
    | none => exact drew_own h.dr (k := K) ⟨hg.os, hg.tape, hg.output, hg.size, fun i hi _ => hg.block i hi (by simp)⟩ h.nK (by have := h.gK; omega) (Nat.le_of_lt h.wK)
    | some k => exact drew_own h.dr hg (by have := hr k rfl; have := h.nK; omega) (by have := hr k rfl; have := h.gK; omega) (by have := hr k rfl; have := h.wK; omega)
  have c0 := (World.cell?_of_block (a := ⟨K, 0, none⟩) hK).trans h.c0
  have f0 := (World.frozen?_of_block (a := ⟨K, 0, none⟩) hK).trans h.f0
  refine ⟨⟨c0, f0⟩, ⟨(World.cell?_of_block (a := ⟨K, 1, none⟩) hK).trans h.c1, h.r0.imp fun _ e => (World.cell?_of_block (a := ⟨w.heap.size, 0, none⟩) hR).trans e, h.r1.imp fun _ e => (World.cell?_of_block (a := ⟨w.heap.size, 1, none⟩) hR).trans e, (World.frozen?_of_block (a := ⟨w.heap.size, 0, none⟩) hR).trans h.g0, (World.frozen?_of_block (a := ⟨w.heap.size, 1, none⟩) hR).trans h.g1⟩, set_same c0, (set_other (addr_ne (by omega))).trans ((World.cell?_of_block (a := ⟨K, 1, none⟩) hK).trans h.c1), by rw [World.frozen?_setCell]; exact f0, by rw [World.frozen?_setCell]; exact (World.frozen?_of_block (a := ⟨K, 1, none⟩) hK).trans h.f1,
    h.r0.imp fun _ e => (set_other (addr_nb (Nat.ne_of_lt h.wK))).trans ((World.cell?_of_block (a := ⟨w.heap.size, 0, none⟩) hR).trans e), h.r1.imp fun _ e => (set_other (addr_nb (Nat.ne_of_lt h.wK))).trans ((World.cell?_of_block (a := ⟨w.heap.size, 1, none⟩) hR).trans e),
    by rw [World.frozen?_setCell]; exact (World.frozen?_of_block (a := ⟨w.heap.size, 0, none⟩) hR).trans h.g0, by rw [World.frozen?_setCell]; exact (World.frozen?_of_block (a := ⟨w.heap.size, 1, none⟩) hR).trans h.g1, hk.set (by omega), hd.set h.nK (by have := h.gK; omega) (Nat.le_of_lt h.wK), h.nK, h.gK, h.wK, h.gw⟩
end
theorem fit_app {C' : Nat} {a' : Option Addr} {l xs : List ByteArray} {t : Int} (hl : l.length ≤ 5) (hs : ∀ s ∈ l, s.size ≤ 60) (ht : 0 ≤ t ∧ t ≤ 5) (hx : xs.length ≤ 6) (hxs : ∀ s ∈ xs, s.size ≤ 60) : KFit a' C' (l ++ xs) t :=
  ⟨by rw [List.length_append]; omega, fun s h => (List.mem_append.1 h).elim (hs s) (hxs s), by omega⟩
theorem put_fit {l : List ByteArray} {t : Int} {x : ByteArray} {more : Int} (hl : l.length ≤ 5) (hs : ∀ s ∈ l, s.size ≤ 60) (ht : 0 ≤ t ∧ t ≤ 5) (hx : x.size ≤ 28) :
    (putV l t x more).1.length ≤ 5 ∧ (∀ s ∈ (putV l t x more).1, s.size ≤ 60) ∧ 0 ≤ (putV l t x more).2 ∧ (putV l t x more).2 ≤ 5 := by
  have hlen := putV_len (l := l) (t := t) (x := x) (more := more) hl
  refine ⟨hlen, ?_⟩
  unfold putV at hlen ⊢
  split at hlen <;> split
  · exact ⟨hs, ht.1, ht.2⟩
  · omega
  · omega
  · refine ⟨fun s h => ?_, ?_, ?_⟩
    · rcases mem_trim (more := more) h with h1 | h1 | h1
      · exact hs s h1
      · rw [h1]; omega
      · have hm : s ∈ midV l x more := by
          show s ∈ midV l x more
          have h2 : s ∈ trimV (midV l x more) := h
          unfold trimV at h2
          split at h2
          · exact List.mem_of_mem_drop h2
          · exact h2
        unfold midV at hm
        split at hm
        · rename_i hg
          unfold goodB at hg
          simp only [Bool.and_eq_true] at hg
          have := (line.textB_ok hg.1).1
          rw [h1]; exact this
        · rcases List.mem_append.1 hm with h2 | h2
          · exact hs s h2
          · simp at h2; rw [h2]; omega
    · dsimp only
      have : 1 ≤ (trimV (midV l x more)).length := by
        have h1 : 1 ≤ (midV l x more).length := by
          unfold midV
          split
          · rename_i hg
            rw [List.length_set]
            rcases Nat.eq_zero_or_pos l.length with h0 | h0
            · exfalso
              unfold joinV at hg
              rw [if_pos h0] at hg
              have hz : goodB ⟨#[]⟩ = false := by unfold goodB; rw [decide_eq_false (show ¬ (⟨#[]⟩ : ByteArray).size ≠ 0 from fun h => h rfl), Bool.and_false]
              rw [hz] at hg
              cases hg
            · exact h0
          · simp
        unfold trimV
        split
        · rw [List.length_drop]; omega
        · exact h1
      omega
    · dsimp only at hlen ⊢
      omega
theorem turn_fit {n : Nat} {t : Int} (hn : n ≤ 5) (ht : 0 ≤ t ∧ t ≤ 5) : 0 ≤ turnT n t ∧ turnT n t ≤ 5 := by
  unfold turnT
  split
  · omega
  · split <;> omega
theorem Src.lt' {N g : Nat} {w : World} (h : Src N g w) : g < w.heap.size := h.lt
set_option maxHeartbeats 6400000 in
set_option maxRecDepth 20000 in
theorem kills_draw (N g : Nat) (w : World) (h : Src N g w) (hN : N ≤ w.heap.size) :
    Calls Try.prog 58 #[.pointer (some ⟨g, 0, none⟩)] w fun e w' => ∃ a C l t, e = .returned (kV a l.length C t) ∧ KFit a C l t ∧ KR (w.heap.size + 1) w' a C l ∧ Drew N g w w' := by
  have hgl := h.lt
  have hgn : w.heap.size ≠ g := by omega
  have hst : KSt N g w (w.heap.size + 1) none 0 [] 0 ((w.alloc (.cells #[.slice none 0 0, .int .i64 0] 25)).alloc (.cells #[.slice none 0 0, .int .i64 0] 25)) :=
    ⟨by simp [go_sem], by simp [go_sem], by simp [go_sem], by simp [go_sem], ⟨.slice none 0 0, by simp [go_sem]⟩, ⟨.int .i64 0, by simp [go_sem]⟩, by simp [go_sem], by simp [go_sem],
     ⟨Nat.le_refl _, by decide, fun _ => ⟨rfl, rfl⟩, fun e => absurd rfl e⟩, ((drew0 h).below ((Below.refl _ w).alloc (Nat.le_refl _) _)).below ((Below.refl _ _).alloc (Nat.le_refl _) _), by omega, by omega, by omega, hgl⟩
  have HST := Lib.hid hst
  clear hst h
  unfold kV
  go_enter Try.func58, Try.ntmps58
  go_wp2_with fail
  refine (n_in N g 8 (by omega) (by omega) _ HST.out.dr.1).mono ?_
  rintro e w1 ⟨r, rfl, hr, hd⟩
  have HS1 := Lib.hid (HST.out.draw hd)
  have hr7 : r ≤ 7 := by omega
  clear hd HST hr
  go_wp2
  go_loopw [4] (fun iv wr => ∃ k : Nat, iv = .int .i64 k ∧ k ≤ 7 ∧ ∃ a C l t, KSt N g w (w.heap.size + 1) a C l t wr ∧ l.length ≤ 5 ∧ (∀ s ∈ l, s.size ≤ 60) ∧ 0 ≤ t ∧ t ≤ 5) (fun iv _ => (intOf iv).toNat)
  case atStart => exact ⟨r, rfl, hr7, none, 0, [], 0, HS1.out, by simp, fun s h => absurd h List.not_mem_nil, by omega, by omega⟩
  case round =>
    obtain ⟨k, rfl, hk, a, C, l, t, hst, hl, hs, ht⟩ := hrel
    rename World => wr
    have HSW := Lib.hid hst
    have HL := Lib.hid hl
    have HS := Lib.hid hs
    have HT := Lib.hid ht
    clear hst hl hs ht
    by_cases hpos : 0 < k
    · have HP := Lib.hid (fun x more W (hx : x.size ≤ 28) (hk : KR (w.heap.size + 1 + 1) W a C l) => put_any a C l t x more hk.nil (by have := HL.out; omega) (fun s h => by have := HS.out s h; omega) (by omega) W hk.row)
      obtain ⟨n, hn⟩ : ∃ n, n = l.length := ⟨_, rfl⟩
      have HD := Lib.hid (HSW.out.below (drew_below wr))
      have e0 := HSW.out.c0
      have e1 := HSW.out.c1
      have HN := Lib.hid hn
      rw [← hn] at e0 HP
      clear hn
      unfold kV at HP
      go_wp2_with fail
      go_region_with (first
        | (go_at_call 110; refine (textOf_any N g _ HD.out.dr.1).mono ?_; rintro e w2 ⟨x, rfl, hx, hd⟩
           have HS2 := Lib.hid (HD.out.draw hd)
           have e0 := HS2.out.c0
           have e1 := HS2.out.c1
           rw [← HN.out] at e0
           have HX := Lib.hid hx
           clear hd hx)
        | (go_at_call 60; refine (n_in N g 3 (by omega) (by omega) _ HS2.out.dr.1).mono ?_; rintro e w3 ⟨q, rfl, hq, hd⟩
           have HS3 := Lib.hid (HS2.out.draw hd)
           have e0 := HS3.out.c0
           have e1 := HS3.out.c1
           rw [← HN.out] at e0
           have hq2 : (q : Int) ≤ 2 := by omega
           clear hd hq)
        | (go_at_call 77; refine (HP.out _ _ _ HX.out HS3.out.kr).mono ?_; rintro e w4 ⟨a', c', rfl, hk4, hb⟩
           have HS4 := Lib.hid (HS3.out.below hb)
           have HK4 := Lib.hid (hk4.lo HS3.out.lt)
           have e0 := HS4.out.c0
           have e1 := HS4.out.c1
           have f0 := HS4.out.f0
           have f1 := HS4.out.f1
           rw [← HN.out] at e0
           clear hb hk4))
      all_goals
        obtain ⟨M, hM⟩ : ∃ M : Int, M = IntKind.i64.wrap ((q : Int) - 1) := ⟨_, rfl⟩
        rw [← hM] at HK4 ⊢
        have hfit := put_fit (t := t) (more := M) HL.out HS.out HT.out HX.out
        obtain ⟨⟨L2, T2⟩, hLT⟩ : ∃ L, L = putV l t x M := ⟨_, rfl⟩
        rw [← hLT] at HK4 hfit ⊢
        dsimp only at HK4 hfit ⊢
        have HF := Lib.hid hfit
        have HKW := Lib.hid (show KSt N g w (w.heap.size + 1) a' c' L2 T2 ((w4.setCell ⟨w.heap.size + 1, 0, none⟩ (.slice a' L2.length c')).setCell ⟨w.heap.size + 1, 1, none⟩ (.int .i64 T2)) from HS4.out.set HK4.out)
        clear hfit hLT hM hq2 e0 e1 f0 f1
        refine absW (P := fun W => Exit.then _ _ .normal _ W) (fun W' => KSt N g w (w.heap.size + 1) a' c' L2 T2 W') HKW.out (fun WF hF => ?_)
        clear HKW HS4 HK4 HS3 HS2 HD HP HSW HX
        have HSF := Lib.hid hF
        clear hF
        go_wp2_with fail
        refine (one_any N g 3 (by omega) _ HSF.out.dr.1).mono ?_
        rintro e w5 ⟨b, rfl, hd⟩
        have HS5 := Lib.hid (HSF.out.draw hd)
        clear hd HSF
        cases b
        · go_wp2
          go_roundw
          case rel => exact ⟨k - 1, by go_num, by omega, a', c', L2, T2, HS5.out, HF.out.1, HF.out.2.1, HF.out.2.2.1, HF.out.2.2.2⟩
          case measure => simp [intOf]; omega
        · have e0 := HS5.out.c0
          have e1 := HS5.out.c1
          have HTU := Lib.hid (turn_any a' c' L2 T2 HS5.out.kr.nil (by have := HF.out.1; omega) (by have := HF.out.2.2; omega) w5 HS5.out.kr.row)
          obtain ⟨n2, hn2⟩ : ∃ n, n = L2.length := ⟨_, rfl⟩
          have HN2 := Lib.hid hn2
          rw [← hn2] at e0 HTU
          have htf := turn_fit (n := n2) (t := T2) (by rw [hn2]; exact HF.out.1) HF.out.2.2
          obtain ⟨T3, hT3⟩ : ∃ T, T = turnT n2 T2 := ⟨_, rfl⟩
          rw [← hT3] at HTU htf
          unfold kV at HTU
          clear hn2 hT3
          go_wp2_with fail
          refine HTU.out.mono ?_
          rintro e w6 ⟨a6, c6, rfl, hk6, hb⟩
          have HS6 := Lib.hid (HS5.out.below hb)
          have HK6 := Lib.hid (show KR (w.heap.size + 1 + 1) w6 a6 c6 L2 from (own_kr hk6).lo HS5.out.lt)
          have e0 := HS6.out.c0
          have e1 := HS6.out.c1
          have f0 := HS6.out.f0
          have f1 := HS6.out.f1
          rw [← HN2.out] at e0
          clear hb hk6
          go_wp2
          go_roundw
          case rel => exact ⟨k - 1, by go_num, by omega, a6, c6, L2, T3, by rw [HN2.out]; exact HS6.out.set HK6.out, HF.out.1, HF.out.2.1, htf.1, htf.2⟩
          case measure => simp [intOf]; omega
    · obtain rfl : k = 0 := by omega
      have HF0 := Lib.hid (show KFit a C l t from ⟨by have := HL.out; omega, HS.out, by have := HT.out; omega⟩)
      clear hpos
      go_wp2_with fail
      refine (one_any N g 12 (by omega) _ HSW.out.dr.1).mono ?_
      rintro e w2 ⟨b, rfl, hd⟩
      have HS2 := Lib.hid (HSW.out.draw hd)
      clear hd HSW
      cases b
      · obtain ⟨aZ, haZ⟩ : ∃ x, x = a := ⟨_, rfl⟩
        obtain ⟨cZ, hcZ⟩ : ∃ x, x = C := ⟨_, rfl⟩
        obtain ⟨LZ, hLZ⟩ : ∃ x, x = l := ⟨_, rfl⟩
        obtain ⟨tZ, htZ⟩ : ∃ x, x = t := ⟨_, rfl⟩
        have HZ := Lib.hid (show KSt N g w (w.heap.size + 1) aZ cZ LZ tZ w2 by rw [haZ, hcZ, hLZ, htZ]; exact HS2.out)
        have HZF := Lib.hid (show KFit aZ cZ LZ tZ by rw [haZ, hcZ, hLZ, htZ]; exact HF0.out)
        clear haZ hcZ hLZ htZ
        obtain ⟨u0, hu0⟩ := HZ.out.r0
        obtain ⟨u1, hu1⟩ := HZ.out.r1
        have e0 := HZ.out.c0
        have e1 := HZ.out.c1
        have g0 := HZ.out.g0
        have g1 := HZ.out.g1
        obtain ⟨n, hn⟩ : ∃ n, n = LZ.length := ⟨_, rfl⟩
        have HNN := Lib.hid hn
        rw [← hn] at e0
        clear hn
        go_wp2
        exact bodyPost_ret (v := kV aZ n cZ tZ) (by simp [kV, results, Try.results58, go_sem, hu0, hu1]) rfl ⟨aZ, cZ, LZ, tZ, by rw [← HNN.out]; rfl, HZF.out, ((HZ.out.kr.set (by omega)).set (by omega)).lo (by omega), (HZ.out.dr.set hN hgn (Nat.le_refl _)).set hN hgn (Nat.le_refl _)⟩
      go_wp2_with fail
      refine (n_in N g 3 (by omega) (by omega) _ HS2.out.dr.1).mono ?_
      rintro e w3 ⟨q, rfl, hq, hd⟩
      have HS3 := Lib.hid (HS2.out.draw hd)
      clear hd HS2
      have hq3 : q = 0 ∨ q = 1 ∨ q = 2 := by omega
      rcases hq3 with rfl | rfl | rfl
      · have HD := Lib.hid (HS3.out.below (drew_below w3))
        have e1 := HS3.out.c1
        have f1 := HS3.out.f1
        have hT0 := HT.out
        go_wp2_with fail
        go_region_with (first
          | (go_at_call 60; refine (n_in N g 4 (by omega) (by omega) _ HD.out.dr.1).mono ?_; rintro e w4 ⟨m, rfl, hm, hd⟩
             have HS4 := Lib.hid (HD.out.draw hd)
             have e1 := HS4.out.c1
             have f1 := HS4.out.f1
             have hm3 : (m : Int) ≤ 3 := by omega
             clear hd hm))
        all_goals
          have hw1 : IntKind.i64.wrap (t + (m : Int)) = t + m := IntWalk.i64_in _ (by omega)
          have hw2 : IntKind.i64.wrap (IntKind.i64.wrap (t + (m : Int)) - 1) = t + m - 1 := by rw [hw1]; exact IntWalk.i64_in _ (by omega)
          rw [hw2, hw1]
          obtain ⟨tZ, htZ⟩ : ∃ x, x = t + (m : Int) - 1 := ⟨_, rfl⟩
          rw [← htZ]
          have HZF := Lib.hid (show KFit a C l tZ from ⟨by have := HL.out; omega, HS.out, by omega⟩)
          clear hw1 hw2 htZ hm3 hT0 e1 f1
          refine absW (P := fun W => Exit.inBlock 2 (Exit.then _ _) .normal _ W) (fun W' => KSt N g w (w.heap.size + 1) a C l tZ W') (HS4.out.set1 tZ) (fun WF hF => ?_)
          have HZ := Lib.hid hF
          clear hF HS4 HD HS3
          obtain ⟨aZ, haZ⟩ : ∃ x, x = a := ⟨_, rfl⟩
          obtain ⟨cZ, hcZ⟩ : ∃ x, x = C := ⟨_, rfl⟩
          obtain ⟨LZ, hLZ⟩ : ∃ x, x = l := ⟨_, rfl⟩
          rw [← haZ, ← hcZ, ← hLZ] at HZ HZF
          clear haZ hcZ hLZ
          obtain ⟨u0, hu0⟩ := HZ.out.r0
          obtain ⟨u1, hu1⟩ := HZ.out.r1
          have e0 := HZ.out.c0
          have e1 := HZ.out.c1
          have g0 := HZ.out.g0
          have g1 := HZ.out.g1
          obtain ⟨n, hn⟩ : ∃ n, n = LZ.length := ⟨_, rfl⟩
          have HNN := Lib.hid hn
          rw [← hn] at e0
          clear hn
          go_wp2
          exact bodyPost_ret (v := kV aZ n cZ tZ) (by simp [kV, results, Try.results58, go_sem, hu0, hu1]) rfl ⟨aZ, cZ, LZ, tZ, by rw [← HNN.out]; rfl, HZF.out, ((HZ.out.kr.set (by omega)).set (by omega)).lo (by omega), (HZ.out.dr.set hN hgn (Nat.le_refl _)).set hN hgn (Nat.le_refl _)⟩
      · have e0 := HS3.out.c0
        have f0 := HS3.out.f0
        have HD := Lib.hid (HS3.out.below (((Below.refl _ w3).alloc (Nat.le_refl _) (.cells #[.string ⟨#[]⟩, .string ⟨#[1]⟩, .string ⟨#[111, 107]⟩] 9)).drew))
        have hrow : (w3.alloc (.cells #[.string ⟨#[]⟩, .string ⟨#[1]⟩, .string ⟨#[111, 107]⟩] 9)).drew.heap[w3.heap.size]? = some (.cells #[.string ⟨#[]⟩, .string ⟨#[1]⟩, .string ⟨#[111, 107]⟩] 9 (0, 0)) := heap_alloc_new w3 _
        have hg3 : g < w3.heap.size := HS3.out.dr.1.lt
        have hK3 : w.heap.size + 1 < w3.heap.size := HS3.out.lt
        go_wp2_with fail
        obtain ⟨n, hn⟩ : ∃ n, n = l.length := ⟨_, rfl⟩
        have HNN := Lib.hid hn
        rw [← hn] at e0
        clear hn
        go_region_law (first
          | (obtain ⟨a6, c6, W6, hrun, hk6, hg6, hb6⟩ := append_kr (w4.alloc (.cells #[.string x] 9)) (w.heap.size + 1 + 1) a C l (HS4.out.kr.alloc _) (by have := HS4.out.lt; simp; omega) w4.heap.size 1 [x] (fun i hi => by
               have h0 : i = 0 := by simp at hi; exact hi
               subst h0
               exact cell_of_row _ _ _ _ _ _ (heap_alloc_new w4 _)) (by simp) (by have := HL.out; simp; omega) 23
             obtain ⟨⟨d0, b0⟩, _, hst⟩ := (HS4.out.below ((Below.refl _ w4).alloc (Nat.le_refl _) _)).app hg6 (fun x e => hb6 x e) hk6
             have HZ0 := Lib.hid hst
             have HRUN := Lib.hid hrun
             have hfit := Lib.hid (show KFit a6 c6 (l ++ [x]) t from fit_app HL.out HS.out HT.out (by simp) (fun s h => by simp at h; rw [h]; have := HX.out; omega))
             rw [← HNN.out] at d0 HRUN
             clear hst hrun hk6 hg6 hb6
             refine step_append_run rfl _ _ _ rfl _ _ rfl rfl _ _ HRUN.out ?_)
          | (go_simp
             go_at_call 111
             refine (pick_any N g w3.heap.size 3 _ _ _ 2 (by omega) (by omega) rfl ?_ (by omega) _ HD.out.dr.1 hrow).mono ?_
             · intro v hv
               simp at hv
               rcases hv with rfl | rfl | rfl <;> exact ⟨_, rfl, by decide⟩
             rintro e w4 ⟨x, rfl, hx, hd⟩
             have HS4 := Lib.hid (HD.out.draw hd)
             have HX := Lib.hid hx
             have e0 := HS4.out.c0
             rw [← HNN.out] at e0
             have hK4 : w.heap.size + 1 < w4.heap.size := HS4.out.lt
             clear hd hx))
        all_goals
          refine absW (P := fun W => Exit.inBlock 2 (Exit.then _ _) .normal _ W) (fun W' => KSt N g w (w.heap.size + 1) a6 c6 (l ++ [x]) t W') (by have hz := HZ0.out; rw [show (l ++ [x]).length = n + 1 by rw [HNN.out]; simp] at hz; exact hz) (fun WF hF => ?_)
          have HZ := Lib.hid hF
          have HZF := Lib.hid hfit.out
          clear hF HS4 HS3 HD hrow e0 d0 b0 HZ0 HRUN hfit
          obtain ⟨aZ, haZ⟩ : ∃ x, x = a6 := ⟨_, rfl⟩
          obtain ⟨cZ, hcZ⟩ : ∃ x, x = c6 := ⟨_, rfl⟩
          obtain ⟨tZ, htZ⟩ : ∃ x, x = t := ⟨_, rfl⟩
          obtain ⟨LZ, hLZ⟩ : ∃ q, q = l ++ [x] := ⟨_, rfl⟩
          rw [← haZ, ← hcZ, ← htZ, ← hLZ] at HZ HZF
          clear haZ hcZ htZ hLZ HNN
          obtain ⟨u0, hu0⟩ := HZ.out.r0
          obtain ⟨u1, hu1⟩ := HZ.out.r1
          have e0 := HZ.out.c0
          have e1 := HZ.out.c1
          have g0 := HZ.out.g0
          have g1 := HZ.out.g1
          obtain ⟨n, hn⟩ : ∃ n, n = LZ.length := ⟨_, rfl⟩
          have HNN := Lib.hid hn
          rw [← hn] at e0
          clear hn
          go_wp2
          exact bodyPost_ret (v := kV aZ n cZ tZ) (by simp [kV, results, Try.results58, go_sem, hu0, hu1]) rfl ⟨aZ, cZ, LZ, tZ, by rw [← HNN.out]; rfl, HZF.out, ((HZ.out.kr.set (by omega)).set (by omega)).lo (by omega), (HZ.out.dr.set hN hgn (Nat.le_refl _)).set hN hgn (Nat.le_refl _)⟩
      · have e0 := HS3.out.c0
        have f0 := HS3.out.f0
        have hx6 : ∀ i (hi : i < ([⟨#[97]⟩, ⟨#[98]⟩, ⟨#[99]⟩, ⟨#[100]⟩, ⟨#[101]⟩, ⟨#[102]⟩] : List ByteArray).length), (w3.alloc (.cells #[.string ⟨#[97]⟩, .string ⟨#[98]⟩, .string ⟨#[99]⟩, .string ⟨#[100]⟩, .string ⟨#[101]⟩, .string ⟨#[102]⟩] 9)).cell? ⟨w3.heap.size, i, none⟩ = some (.string ([⟨#[97]⟩, ⟨#[98]⟩, ⟨#[99]⟩, ⟨#[100]⟩, ⟨#[101]⟩, ⟨#[102]⟩] : List ByteArray)[i]) := fun i hi => by
          rw [cell_of_row _ _ _ _ _ _ (heap_alloc_new w3 _)]
          match i, hi with
          | 0, _ => rfl
          | 1, _ => rfl
          | 2, _ => rfl
          | 3, _ => rfl
          | 4, _ => rfl
          | 5, _ => rfl
        obtain ⟨a6, c6, W6, hrun, hk6, hg6, hb6⟩ := append_kr (w3.alloc (.cells #[.string ⟨#[97]⟩, .string ⟨#[98]⟩, .string ⟨#[99]⟩, .string ⟨#[100]⟩, .string ⟨#[101]⟩, .string ⟨#[102]⟩] 9)) (w.heap.size + 1 + 1) a C l (HS3.out.kr.alloc _) (by have := HS3.out.lt; simp; omega) w3.heap.size 6 [⟨#[97]⟩, ⟨#[98]⟩, ⟨#[99]⟩, ⟨#[100]⟩, ⟨#[101]⟩, ⟨#[102]⟩] hx6 (by simp) (by have := HL.out; simp; omega) 23
        obtain ⟨⟨d0, b0⟩, ⟨d1, ⟨v0, dr0⟩, ⟨v1, dr1⟩, b2, b3⟩, hst⟩ := (HS3.out.below ((Below.refl _ w3).alloc (Nat.le_refl _) _)).app hg6 (fun x e => hb6 x e) hk6
        obtain ⟨LZ, hLZ⟩ : ∃ x, x = l ++ [⟨#[97]⟩, ⟨#[98]⟩, ⟨#[99]⟩, ⟨#[100]⟩, ⟨#[101]⟩, ⟨#[102]⟩] := ⟨_, rfl⟩
        have HZF := Lib.hid (show KFit a6 c6 LZ t by rw [hLZ]; exact fit_app HL.out HS.out HT.out (by simp) (fun s h => by simp at h; rcases h with rfl | rfl | rfl | rfl | rfl | rfl <;> decide))
        have hlen : LZ.length = l.length + 6 := by rw [hLZ]; simp
        rw [← hLZ] at hst
        rw [hlen] at hst
        have HZ0 := Lib.hid hst
        have HRUN := Lib.hid hrun
        have HLZ := Lib.hid hlen
        obtain ⟨n, hn⟩ : ∃ n, n = l.length := ⟨_, rfl⟩
        rw [← hn] at e0 d0 HZ0 HRUN HLZ
        have hKw : w.heap.size + 1 ≠ w.heap.size := by omega
        clear hn hst hrun hlen hLZ hk6 hg6 hb6 hx6
        go_wp2_with (first | (refine undo.list_append_run rfl _ _ _ rfl _ _ rfl rfl _ _ HRUN.out ?_))
        exact bodyPost_ret (v := kV a6 (n + 6) c6 t) (by simp [kV, results, Try.results58, go_sem, dr0, dr1]) rfl ⟨a6, c6, LZ, t, by rw [HLZ.out]; rfl, HZF.out, ((HZ0.out.kr.set (by omega)).set (by omega)).lo (by omega), (HZ0.out.dr.set hN hgn (Nat.le_refl _)).set hN hgn (Nat.le_refl _)⟩
end Go.Proofs.Ytgmbpohbjhaghaa.src
