/-
  The program's HistUp and HistDown. For every such value. Written by wip/tool/gen_histup.py.
-/
import Derived.Test.YtgmbpohbjhaghaaHistFace
namespace Go.Proofs.Ytgmbpohbjhaghaa.hist
open Go.ChangeShapes Go.WideShapes Go.ChangeAt Go.RowKit
open Go.Proofs.Ytgmbpohbjhaghaa.strs Go.Proofs.Ytgmbpohbjhaghaa.line
theorem sblk0 (b : Nat) (w : World) : SBlk b w none 0 := fun h => absurd rfl h
theorem fault_or (l : List ByteArray) (t : Int) (k x : ByteArray) : (faultV l t k x = 0 ∧ x.size ≤ 8000 ∧ histB l t k = true ∧ textB x = true) ∨ (faultV l t k x ≠ 0 ∧ specUpV l t k x = illV (faultV l t k x) ∧ specDownV l t k x = illV (faultV l t k x)) := by
  unfold faultV specUpV specDownV
  by_cases h : x.size ≤ 8000
  · by_cases h2 : histB l t k = true ∧ textB x = true
    · exact .inl ⟨by rw [if_pos h, if_pos h2], h, h2.1, h2.2⟩
    · exact .inr (by rw [if_pos h, if_neg h2, if_pos h, if_neg h2, if_pos h, if_neg h2]; exact ⟨by decide, rfl, rfl⟩)
  · exact .inr (by rw [if_neg h, if_neg h, if_neg h]; exact ⟨by decide, rfl, rfl⟩)
theorem param_ne {w : World} {a : Option Addr} {l : List ByteArray} (h : SRow w a l) (i : Nat) (hi : w.heap.size ≤ i) : l ≠ [] → blockOf a ≠ some i := fun hl e => by
    obtain ⟨g, o, rfl, h1⟩ := h.it hl
    have h2 := blk_lt (h1 0 (List.length_pos_iff.2 hl))
    have : g = i := by simpa [blockOf] using e
    omega
set_option maxRecDepth 20000 in
set_option maxHeartbeats 1600000 in
theorem implUp_any (a : Option Addr) (C : Nat) (l : List ByteArray) (t : Int) (k x : ByteArray) (hn : l.length ≤ 1048576) (hl : ∀ s ∈ l, s.size ≤ 1048576) (hk : k.size ≤ 1048576) (hx : x.size ≤ 1048576) (w : World) (h : SRow w a l) :
    Calls Try.prog 46 #[hV a l.length C t k, .string x] w fun e w' => ∃ a' c', e = .returned (hoV a' c' (specUpV l t k x)) ∧ SRow w' a' (specUpV l t k x).1 ∧ SBlk w.heap.size w' a' (specUpV l t k x).1.length ∧ Below w.heap.size w w' := by
  have hal := (((Below.refl _ w).alloc (Nat.le_refl _) (.cells #[.slice a l.length C, .int .i64 t, .string k] 58)).alloc (by simp) (.cells #[.slice none 0 0, .int .i64 0, .string ⟨#[]⟩, .string ⟨#[]⟩, .int .i64 0] 63))
  have HW := Lib.hid (fun W (hb : Below w.heap.size w W) => fault_any a C l t k x hn hl hk hx W (h.below hb))
  have HE := Lib.hid (fun k W => histEnd_any a l.length C t k W)
  have HC := Lib.hid (fun T K (hK : K.size ≤ 1048576) (hT : 0 ≤ T) W (h : SRow W a l) => came_any a C l T K hn hl hK hT W h)
  have HB := Lib.hid hal
  have HSR := Lib.hid (fun W (hb : Below w.heap.size w W) => h.below hb)
  have HPN := Lib.hid (param_ne h)
  rcases fault_or l t k x with ⟨hf, hx8, hh, hxt⟩ | ⟨hf, hv, hv2⟩
  · have hv : specUpV l t k x = upV l t k x := by unfold specUpV; rw [if_pos hx8, if_pos ⟨hh, hxt⟩]
    obtain ⟨_, _, h0, h1, _⟩ := histB_parts hh
    rw [hv]
    rw [hf] at HW
    clear hh hxt hx8 hv hf h hal
    by_cases hz : t = 0
    · rw [show upV l t k x = illV 6 by unfold upV; rw [if_pos hz]]
      subst hz
      obtain ⟨n, hn'⟩ : ∃ n, n = l.length := ⟨_, rfl⟩
      rw [← hn'] at HB HW ⊢
      clear HC HE hl hn hn' h1 h0 hk hx HSR HPN
      unfold hoV illV oV hV at *
      go_enter Try.func46, Try.ntmps46
      go_wp2_with fail
      refine (HW.out _ HB.out).mono ?_
      rintro e w1 ⟨rfl, hb⟩
      have z1 : w.heap.size + 1 < w1.heap.size := by have := hb.size; simp at this; omega
      obtain ⟨p0, q0⟩ := keepC hb (g := w.heap.size) (by simp; omega)
      obtain ⟨p1, q1⟩ := keepC hb (g := w.heap.size + 1) (by simp)
      have HB := Lib.hid (bthen HB.out hb (by simp; omega))
      clear hb
      go_wp2
      exact bodyPost_ret (v := .agg #[.slice none 0 0, .int .i64 0, .string ⟨#[]⟩, .string ⟨#[]⟩, .int .i64 6]) (by simp [results, Try.results46, go_sem, p1]) rfl ⟨none, 0, rfl, SRow.nil _ _, sblk0 _ _, five HB.out (by omega) _ _ _ _ _⟩
    · obtain ⟨m, hm⟩ : ∃ m : Nat, t = (m : Int) + 1 := ⟨(t - 1).toNat, by omega⟩
      have hml : m < l.length := by omega
      obtain ⟨K, hK⟩ : ∃ K, K = (if t = (l.length : Int) then x else k) := ⟨_, rfl⟩
      have hKs : K.size ≤ 1048576 := by rw [hK]; split <;> omega
      have hV : upV l t k x = cameV l (m : Int) K := by
        unfold upV cameV
        rw [if_neg hz, if_pos (show (m : Int) < (l.length : Int) by omega), ← hK, show t - 1 = (m : Int) by omega]
      rw [hV]
      have HCC := Lib.hid (HC.out m K hKs (by omega))
      have hw1 : wrap64 (m : Int) = (m : Int) := IntWalk.wrap64_in _ (by omega)
      subst hm
      have HEE := Lib.hid (HE.out k)
      have hb0 : ((m : Int) + 1 == 0) = false := by simpa using hz
      have HV1 := Lib.hid (show (cameV l (m : Int) K).1 = l from rfl)
      rw [HV1.out]
      unfold hoV cameV oV at *
      dsimp only at *
      obtain ⟨X, hX⟩ : ∃ X, X = (if (m : Int) < (l.length : Int) then l[((m : Nat) : Int).toNat]?.getD ⟨#[]⟩ else K) := ⟨_, rfl⟩
      rw [← hX] at HCC ⊢
      obtain ⟨n, hn'⟩ : ∃ n, n = l.length := ⟨_, rfl⟩
      rw [← hn'] at HB HW HEE HCC hK hml ⊢
      clear HC HE hl hn hn' hk hx hV HV1 hz h0 h1 hX hKs
      by_cases h2 : ((m : Int) + 1) = (n : Int)
      · rw [if_pos h2] at hK
        subst hK
        have h3 : ((m : Int) + 1 == (n : Int)) = true := by simpa using h2
        clear h2
        unfold hV at *
        go_enter Try.func46, Try.ntmps46
        go_wp2_with fail
        refine (HW.out _ HB.out).mono ?_
        rintro e w1 ⟨rfl, hb⟩
        have z1 : w.heap.size + 1 < w1.heap.size := by have := hb.size; simp at this; omega
        obtain ⟨p0, q0⟩ := keepC hb (g := w.heap.size) (by simp; omega)
        obtain ⟨p1, q1⟩ := keepC hb (g := w.heap.size + 1) (by simp)
        have HB := Lib.hid (bthen HB.out hb (by simp; omega))
        clear hb
        go_wp2_with fail
        have HS : w1.drew.cell? ⟨w.heap.size, 0, none⟩ = some (.slice a n C) ∧ w1.drew.cell? ⟨w.heap.size, 1, none⟩ = some (.int .i64 ((m : Int) + 1)) ∧ w1.drew.cell? ⟨w.heap.size, 2, none⟩ = some (.string k) := by
          refine ⟨?_, ?_, ?_⟩ <;> simp [go_sem, p0]
        refine wp_region_held_drew (S := fun w' => w'.cell? ⟨w.heap.size, 0, none⟩ = some (.slice a n C) ∧ w'.cell? ⟨w.heap.size, 1, none⟩ = some (.int .i64 ((m : Int) + 1)) ∧ w'.cell? ⟨w.heap.size, 2, none⟩ = some (.string k)) (by kernel_rfl) HS (fun hHeld => ?_)
        refine wpAnyH_take (i := 0) rfl (by kernel_rfl) (by kernel_rfl) (by kernel_rfl) (fun _ _ _ h => h) (Or.inl ⟨by kernel_rfl, by rintro w ⟨y0, y1, y2⟩; go_simp; try with_reducible rfl⟩) (by assumption) ?_
        refine wpAnyH_take (i := 1) rfl (by kernel_rfl) (by kernel_rfl) (by kernel_rfl) (fun _ _ _ h => h) (Or.inl ⟨by kernel_rfl, by rintro w ⟨y0, y1, y2⟩; go_simp; try with_reducible rfl⟩) (by assumption) ?_
        refine wpAnyH_take (i := 2) rfl (by kernel_rfl) (by kernel_rfl) (by kernel_rfl) (fun _ _ _ h => h) (Or.inl ⟨by kernel_rfl, by rintro w ⟨y0, y1, y2⟩; go_simp; try with_reducible rfl⟩) (by assumption) ?_
        refine wpAnyH_ready (rs := [3]) (by kernel_rfl) (by simp) (AllReadyH.cons rfl (fun K hK => ?_) AllReadyH.nil)
        go_simp
        refine (HEE.out _).mono ?_
        rintro e w2 ⟨rfl, hb⟩
        obtain ⟨p2, q2⟩ := keepC hb (g := w.heap.size) (by show w.heap.size < w1.heap.size; omega)
        obtain ⟨p3, q3⟩ := keepC hb (g := w.heap.size + 1) z1
        have z2 : w.heap.size + 1 < w2.heap.size := by have := hb.size; simp at this; omega
        have hS := cell3_keep hHeld hb
        have HB := Lib.hid (bthen HB.out.drew hb (by have := HB.out.size; simpa using this))
        clear hHeld hb
        refine hK.out _ _ hS (fun hHeld => ?_)
        clear hK K
        refine wpAnyH_take (i := 4) rfl (by kernel_rfl) (by kernel_rfl) (by kernel_rfl) (fun _ _ _ h => h) (Or.inl ⟨by kernel_rfl, by rintro w ⟨y0, y1, y2⟩; go_simp; try with_reducible rfl⟩) (by assumption) ?_
        refine wpAnyH_done (by kernel_rfl) ?_ _
        go_simp
        obtain ⟨r0, r1, r2⟩ := hHeld
        clear HS
        go_wp2_with fail
        refine (HCC.out _ (((HSR.out _ HB.out).setA (HPN.out _ (Nat.le_refl _))).setA (HPN.out _ (Nat.le_refl _)))).mono ?_
        rintro e w4 ⟨a', c', rfl, hr, hs, hb⟩
        have HB := Lib.hid ((HB.out.setCell (p := ⟨w.heap.size, 2, none⟩) (Nat.le_refl _) (.string K)).setCell (p := ⟨w.heap.size, 1, none⟩) (Nat.le_refl _) (.int .i64 (m : Int)))
        obtain ⟨p4, q4⟩ := keepC hb (g := w.heap.size + 1) (by simpa using z2)
        have z4 : w.heap.size + 1 < w4.heap.size := by have := hb.size; simp at this; omega
        have HR := Lib.hid hr
        have HT := Lib.hid (SBlk.lo (b' := w.heap.size) hs (by simp; omega))
        have hne := hs.ne (b := w.heap.size + 1) (by simpa using z2)
        have HNE := Lib.hid (show l ≠ [] → blockOf a' ≠ some (w.heap.size + 1) from fun _ => hne (by omega))
        have HNF := Lib.hid hne
        have HB := Lib.hid (bthen HB.out hb HB.out.size)
        clear hb hr hs hne
        go_wp2
        refine bodyPost_ret (v := .agg #[.slice a' n c', .int .i64 (m : Int), .string K, .string X, .int .i64 0]) (by simp [results, Try.results46, go_sem, p1, p3, p4]) rfl ⟨a', c', rfl, ((((HR.out.setA HNE.out).setA HNE.out).setA HNE.out).setA HNE.out).setA HNE.out, ((((HT.out.setA HNF.out).setA HNF.out).setA HNF.out).setA HNF.out).setA HNF.out, five HB.out (by omega) _ _ _ _ _⟩
      · rw [if_neg h2] at hK
        have hK := hK.symm
        subst hK
        have h3 : ((m : Int) + 1 == (n : Int)) = false := by simpa using h2
        clear h2
        unfold hV at *
        go_enter Try.func46, Try.ntmps46
        go_wp2_with fail
        refine (HW.out _ HB.out).mono ?_
        rintro e w1 ⟨rfl, hb⟩
        have z1 : w.heap.size + 1 < w1.heap.size := by have := hb.size; simp at this; omega
        obtain ⟨p0, q0⟩ := keepC hb (g := w.heap.size) (by simp; omega)
        obtain ⟨p1, q1⟩ := keepC hb (g := w.heap.size + 1) (by simp)
        have HB := Lib.hid (bthen HB.out hb (by simp; omega))
        clear hb
        go_wp2_with fail
        have HS : w1.drew.cell? ⟨w.heap.size, 0, none⟩ = some (.slice a n C) ∧ w1.drew.cell? ⟨w.heap.size, 1, none⟩ = some (.int .i64 ((m : Int) + 1)) ∧ w1.drew.cell? ⟨w.heap.size, 2, none⟩ = some (.string k) := by
          refine ⟨?_, ?_, ?_⟩ <;> simp [go_sem, p0]
        refine wp_region_held_drew (S := fun w' => w'.cell? ⟨w.heap.size, 0, none⟩ = some (.slice a n C) ∧ w'.cell? ⟨w.heap.size, 1, none⟩ = some (.int .i64 ((m : Int) + 1)) ∧ w'.cell? ⟨w.heap.size, 2, none⟩ = some (.string k)) (by kernel_rfl) HS (fun hHeld => ?_)
        refine wpAnyH_take (i := 0) rfl (by kernel_rfl) (by kernel_rfl) (by kernel_rfl) (fun _ _ _ h => h) (Or.inl ⟨by kernel_rfl, by rintro w ⟨y0, y1, y2⟩; go_simp; try with_reducible rfl⟩) (by assumption) ?_
        refine wpAnyH_take (i := 1) rfl (by kernel_rfl) (by kernel_rfl) (by kernel_rfl) (fun _ _ _ h => h) (Or.inl ⟨by kernel_rfl, by rintro w ⟨y0, y1, y2⟩; go_simp; try with_reducible rfl⟩) (by assumption) ?_
        refine wpAnyH_take (i := 2) rfl (by kernel_rfl) (by kernel_rfl) (by kernel_rfl) (fun _ _ _ h => h) (Or.inl ⟨by kernel_rfl, by rintro w ⟨y0, y1, y2⟩; go_simp; try with_reducible rfl⟩) (by assumption) ?_
        refine wpAnyH_ready (rs := [3]) (by kernel_rfl) (by simp) (AllReadyH.cons rfl (fun K hK => ?_) AllReadyH.nil)
        go_simp
        refine (HEE.out _).mono ?_
        rintro e w2 ⟨rfl, hb⟩
        obtain ⟨p2, q2⟩ := keepC hb (g := w.heap.size) (by show w.heap.size < w1.heap.size; omega)
        obtain ⟨p3, q3⟩ := keepC hb (g := w.heap.size + 1) z1
        have z2 : w.heap.size + 1 < w2.heap.size := by have := hb.size; simp at this; omega
        have hS := cell3_keep hHeld hb
        have HB := Lib.hid (bthen HB.out.drew hb (by have := HB.out.size; simpa using this))
        clear hHeld hb
        refine hK.out _ _ hS (fun hHeld => ?_)
        clear hK K
        refine wpAnyH_take (i := 4) rfl (by kernel_rfl) (by kernel_rfl) (by kernel_rfl) (fun _ _ _ h => h) (Or.inl ⟨by kernel_rfl, by rintro w ⟨y0, y1, y2⟩; go_simp; try with_reducible rfl⟩) (by assumption) ?_
        refine wpAnyH_done (by kernel_rfl) ?_ _
        go_simp
        obtain ⟨r0, r1, r2⟩ := hHeld
        clear HS
        go_wp2_with fail
        refine (HCC.out _ (((HSR.out _ HB.out)).setA (HPN.out _ (Nat.le_refl _)))).mono ?_
        rintro e w4 ⟨a', c', rfl, hr, hs, hb⟩
        have HB := Lib.hid ((HB.out).setCell (p := ⟨w.heap.size, 1, none⟩) (Nat.le_refl _) (.int .i64 (m : Int)))
        obtain ⟨p4, q4⟩ := keepC hb (g := w.heap.size + 1) (by simpa using z2)
        have z4 : w.heap.size + 1 < w4.heap.size := by have := hb.size; simp at this; omega
        have HR := Lib.hid hr
        have HT := Lib.hid (SBlk.lo (b' := w.heap.size) hs (by simp; omega))
        have hne := hs.ne (b := w.heap.size + 1) (by simpa using z2)
        have HNE := Lib.hid (show l ≠ [] → blockOf a' ≠ some (w.heap.size + 1) from fun _ => hne (by omega))
        have HNF := Lib.hid hne
        have HB := Lib.hid (bthen HB.out hb HB.out.size)
        clear hb hr hs hne
        go_wp2
        refine bodyPost_ret (v := .agg #[.slice a' n c', .int .i64 (m : Int), .string k, .string X, .int .i64 0]) (by simp [results, Try.results46, go_sem, p1, p3, p4]) rfl ⟨a', c', rfl, ((((HR.out.setA HNE.out).setA HNE.out).setA HNE.out).setA HNE.out).setA HNE.out, ((((HT.out.setA HNF.out).setA HNF.out).setA HNF.out).setA HNF.out).setA HNF.out, five HB.out (by omega) _ _ _ _ _⟩
  · rw [hv]
    obtain ⟨F, hF⟩ : ∃ F, F = faultV l t k x := ⟨_, rfl⟩
    rw [← hF] at HW hf ⊢
    obtain ⟨n, hn'⟩ : ∃ n, n = l.length := ⟨_, rfl⟩
    rw [← hn'] at HB HW ⊢
    clear HC HE hl hn hn' hF hv hv2 h hal hk hx HSR HPN
    unfold hoV illV oV hV at *
    go_enter Try.func46, Try.ntmps46
    go_wp2_with fail
    refine (HW.out _ HB.out).mono ?_
    rintro e w1 ⟨rfl, hb⟩
    have z1 : w.heap.size + 1 < w1.heap.size := by have := hb.size; simp at this; omega
    obtain ⟨p0, q0⟩ := keepC hb (g := w.heap.size) (by simp; omega)
    obtain ⟨p1, q1⟩ := keepC hb (g := w.heap.size + 1) (by simp)
    have HB := Lib.hid (bthen HB.out hb (by simp; omega))
    clear hb
    go_wp2
    exact bodyPost_ret (v := .agg #[.slice none 0 0, .int .i64 0, .string ⟨#[]⟩, .string ⟨#[]⟩, .int .i64 F]) (by simp [results, Try.results46, go_sem, p1]) rfl ⟨none, 0, rfl, SRow.nil _ _, sblk0 _ _, five HB.out (by omega) _ _ _ _ _⟩
set_option maxRecDepth 20000 in
set_option maxHeartbeats 1600000 in
theorem implDown_any (a : Option Addr) (C : Nat) (l : List ByteArray) (t : Int) (k x : ByteArray) (hn : l.length ≤ 1048576) (hl : ∀ s ∈ l, s.size ≤ 1048576) (hk : k.size ≤ 1048576) (hx : x.size ≤ 1048576) (w : World) (h : SRow w a l) :
    Calls Try.prog 52 #[hV a l.length C t k, .string x] w fun e w' => ∃ a' c', e = .returned (hoV a' c' (specDownV l t k x)) ∧ SRow w' a' (specDownV l t k x).1 ∧ SBlk w.heap.size w' a' (specDownV l t k x).1.length ∧ Below w.heap.size w w' := by
  have hal := (((Below.refl _ w).alloc (Nat.le_refl _) (.cells #[.slice a l.length C, .int .i64 t, .string k] 58)).alloc (by simp) (.cells #[.slice none 0 0, .int .i64 0, .string ⟨#[]⟩, .string ⟨#[]⟩, .int .i64 0] 63))
  have HW := Lib.hid (fun W (hb : Below w.heap.size w W) => fault_any a C l t k x hn hl hk hx W (h.below hb))
  have HE := Lib.hid (fun k W => histEnd_any a l.length C t k W)
  have HC := Lib.hid (fun T K (hK : K.size ≤ 1048576) (hT : 0 ≤ T) W (h : SRow W a l) => came_any a C l T K hn hl hK hT W h)
  have HB := Lib.hid hal
  have HSR := Lib.hid (fun W (hb : Below w.heap.size w W) => h.below hb)
  have HPN := Lib.hid (param_ne h)
  rcases fault_or l t k x with ⟨hf, hx8, hh, hxt⟩ | ⟨hf, hv, hv2⟩
  · have hv : specDownV l t k x = downV l t k := by unfold specDownV; rw [if_pos hx8, if_pos ⟨hh, hxt⟩]
    obtain ⟨_, _, h0, h1, _⟩ := histB_parts hh
    rw [hv]
    rw [hf] at HW
    clear hh hxt hx8 hv hf h hal
    by_cases hz : t = (l.length : Int)
    · rw [show downV l t k = illV 6 by unfold downV; rw [if_pos hz]]
      subst hz
      have HEE := Lib.hid (HE.out k)
      obtain ⟨n, hn'⟩ : ∃ n, n = l.length := ⟨_, rfl⟩
      rw [← hn'] at HB HW HEE ⊢
      clear HC HE hl hn hn' h1 h0 hk hx HSR HPN
      have h3 : ((n : Int) == (n : Int)) = true := by simp
      unfold hoV illV oV hV at *
      go_enter Try.func52, Try.ntmps52
      go_wp2_with fail
      refine (HW.out _ HB.out).mono ?_
      rintro e w1 ⟨rfl, hb⟩
      have z1 : w.heap.size + 1 < w1.heap.size := by have := hb.size; simp at this; omega
      obtain ⟨p0, q0⟩ := keepC hb (g := w.heap.size) (by simp; omega)
      obtain ⟨p1, q1⟩ := keepC hb (g := w.heap.size + 1) (by simp)
      have HB := Lib.hid (bthen HB.out hb (by simp; omega))
      clear hb
      go_wp2_with fail
      have HS : w1.drew.cell? ⟨w.heap.size, 0, none⟩ = some (.slice a n C) ∧ w1.drew.cell? ⟨w.heap.size, 1, none⟩ = some (.int .i64 (n : Int)) ∧ w1.drew.cell? ⟨w.heap.size, 2, none⟩ = some (.string k) := by
        refine ⟨?_, ?_, ?_⟩ <;> simp [go_sem, p0]
      refine wp_region_held_drew (S := fun w' => w'.cell? ⟨w.heap.size, 0, none⟩ = some (.slice a n C) ∧ w'.cell? ⟨w.heap.size, 1, none⟩ = some (.int .i64 (n : Int)) ∧ w'.cell? ⟨w.heap.size, 2, none⟩ = some (.string k)) (by kernel_rfl) HS (fun hHeld => ?_)
      refine wpAnyH_take (i := 0) rfl (by kernel_rfl) (by kernel_rfl) (by kernel_rfl) (fun _ _ _ h => h) (Or.inl ⟨by kernel_rfl, by rintro w ⟨y0, y1, y2⟩; go_simp; try with_reducible rfl⟩) (by assumption) ?_
      refine wpAnyH_take (i := 1) rfl (by kernel_rfl) (by kernel_rfl) (by kernel_rfl) (fun _ _ _ h => h) (Or.inl ⟨by kernel_rfl, by rintro w ⟨y0, y1, y2⟩; go_simp; try with_reducible rfl⟩) (by assumption) ?_
      refine wpAnyH_take (i := 2) rfl (by kernel_rfl) (by kernel_rfl) (by kernel_rfl) (fun _ _ _ h => h) (Or.inl ⟨by kernel_rfl, by rintro w ⟨y0, y1, y2⟩; go_simp; try with_reducible rfl⟩) (by assumption) ?_
      refine wpAnyH_ready (rs := [3]) (by kernel_rfl) (by simp) (AllReadyH.cons rfl (fun K hK => ?_) AllReadyH.nil)
      go_simp
      refine (HEE.out _).mono ?_
      rintro e w2 ⟨rfl, hb⟩
      obtain ⟨p2, q2⟩ := keepC hb (g := w.heap.size) (by show w.heap.size < w1.heap.size; omega)
      obtain ⟨p3, q3⟩ := keepC hb (g := w.heap.size + 1) z1
      have z2 : w.heap.size + 1 < w2.heap.size := by have := hb.size; simp at this; omega
      have hS := cell3_keep hHeld hb
      have HB := Lib.hid (bthen HB.out.drew hb (by have := HB.out.size; simpa using this))
      clear hHeld hb
      refine hK.out _ _ hS (fun hHeld => ?_)
      clear hK K
      refine wpAnyH_take (i := 4) rfl (by kernel_rfl) (by kernel_rfl) (by kernel_rfl) (fun _ _ _ h => h) (Or.inl ⟨by kernel_rfl, by rintro w ⟨y0, y1, y2⟩; go_simp; try with_reducible rfl⟩) (by assumption) ?_
      refine wpAnyH_done (by kernel_rfl) ?_ _
      go_simp
      clear HS
      go_wp2
      exact bodyPost_ret (v := .agg #[.slice none 0 0, .int .i64 0, .string ⟨#[]⟩, .string ⟨#[]⟩, .int .i64 6]) (by simp [results, Try.results52, go_sem, p1, p3]) rfl ⟨none, 0, rfl, SRow.nil _ _, sblk0 _ _, five HB.out (by omega) _ _ _ _ _⟩
    · obtain ⟨m, hm⟩ : ∃ m : Nat, t = (m : Int) := ⟨t.toNat, by omega⟩
      have hml : m < l.length := by omega
      have hV : downV l t k = cameV l ((m : Int) + 1) k := by
        unfold downV cameV
        rw [if_neg hz, hm]
        by_cases e : (m : Int) + 1 = (l.length : Int)
        · rw [if_pos e, if_neg (by omega)]
        · rw [if_neg e, if_pos (by omega)]
      rw [hV]
      have HCC := Lib.hid (HC.out ((m : Int) + 1) k hk (by omega))
      have hw1 : IntKind.i64.wrap ((m : Int) + 1) = (m : Int) + 1 := IntWalk.i64_in _ (by omega)
      subst hm
      have HEE := Lib.hid (HE.out k)
      have h3 : ((m : Int) == (l.length : Int)) = false := by simpa using hz
      have HV1 := Lib.hid (show (cameV l ((m : Int) + 1) k).1 = l from rfl)
      rw [HV1.out]
      unfold hoV cameV oV at *
      dsimp only at *
      obtain ⟨X, hX⟩ : ∃ X, X = (if (m : Int) + 1 < (l.length : Int) then l[((m : Int) + 1).toNat]?.getD ⟨#[]⟩ else k) := ⟨_, rfl⟩
      rw [← hX] at HCC ⊢
      obtain ⟨n, hn'⟩ : ∃ n, n = l.length := ⟨_, rfl⟩
      rw [← hn'] at HB HW HEE HCC hml h3 ⊢
      clear HC HE hl hn hn' hk hx hV HV1 hz h0 h1 hX
      unfold hV at *
      go_enter Try.func52, Try.ntmps52
      go_wp2_with fail
      refine (HW.out _ HB.out).mono ?_
      rintro e w1 ⟨rfl, hb⟩
      have z1 : w.heap.size + 1 < w1.heap.size := by have := hb.size; simp at this; omega
      obtain ⟨p0, q0⟩ := keepC hb (g := w.heap.size) (by simp; omega)
      obtain ⟨p1, q1⟩ := keepC hb (g := w.heap.size + 1) (by simp)
      have HB := Lib.hid (bthen HB.out hb (by simp; omega))
      clear hb
      go_wp2_with fail
      have HS : w1.drew.cell? ⟨w.heap.size, 0, none⟩ = some (.slice a n C) ∧ w1.drew.cell? ⟨w.heap.size, 1, none⟩ = some (.int .i64 (m : Int)) ∧ w1.drew.cell? ⟨w.heap.size, 2, none⟩ = some (.string k) := by
        refine ⟨?_, ?_, ?_⟩ <;> simp [go_sem, p0]
      refine wp_region_held_drew (S := fun w' => w'.cell? ⟨w.heap.size, 0, none⟩ = some (.slice a n C) ∧ w'.cell? ⟨w.heap.size, 1, none⟩ = some (.int .i64 (m : Int)) ∧ w'.cell? ⟨w.heap.size, 2, none⟩ = some (.string k)) (by kernel_rfl) HS (fun hHeld => ?_)
      refine wpAnyH_take (i := 0) rfl (by kernel_rfl) (by kernel_rfl) (by kernel_rfl) (fun _ _ _ h => h) (Or.inl ⟨by kernel_rfl, by rintro w ⟨y0, y1, y2⟩; go_simp; try with_reducible rfl⟩) (by assumption) ?_
      refine wpAnyH_take (i := 1) rfl (by kernel_rfl) (by kernel_rfl) (by kernel_rfl) (fun _ _ _ h => h) (Or.inl ⟨by kernel_rfl, by rintro w ⟨y0, y1, y2⟩; go_simp; try with_reducible rfl⟩) (by assumption) ?_
      refine wpAnyH_take (i := 2) rfl (by kernel_rfl) (by kernel_rfl) (by kernel_rfl) (fun _ _ _ h => h) (Or.inl ⟨by kernel_rfl, by rintro w ⟨y0, y1, y2⟩; go_simp; try with_reducible rfl⟩) (by assumption) ?_
      refine wpAnyH_ready (rs := [3]) (by kernel_rfl) (by simp) (AllReadyH.cons rfl (fun K hK => ?_) AllReadyH.nil)
      go_simp
      refine (HEE.out _).mono ?_
      rintro e w2 ⟨rfl, hb⟩
      obtain ⟨p2, q2⟩ := keepC hb (g := w.heap.size) (by show w.heap.size < w1.heap.size; omega)
      obtain ⟨p3, q3⟩ := keepC hb (g := w.heap.size + 1) z1
      have z2 : w.heap.size + 1 < w2.heap.size := by have := hb.size; simp at this; omega
      have hS := cell3_keep hHeld hb
      have HB := Lib.hid (bthen HB.out.drew hb (by have := HB.out.size; simpa using this))
      clear hHeld hb
      refine hK.out _ _ hS (fun hHeld => ?_)
      clear hK K
      refine wpAnyH_take (i := 4) rfl (by kernel_rfl) (by kernel_rfl) (by kernel_rfl) (fun _ _ _ h => h) (Or.inl ⟨by kernel_rfl, by rintro w ⟨y0, y1, y2⟩; go_simp; try with_reducible rfl⟩) (by assumption) ?_
      refine wpAnyH_done (by kernel_rfl) ?_ _
      go_simp
      obtain ⟨r0, r1, r2⟩ := hHeld
      clear HS
      go_wp2_with fail
      refine (HCC.out _ (((HSR.out _ HB.out)).setA (HPN.out _ (Nat.le_refl _)))).mono ?_
      rintro e w4 ⟨a', c', rfl, hr, hs, hb⟩
      have HB := Lib.hid ((HB.out).setCell (p := ⟨w.heap.size, 1, none⟩) (Nat.le_refl _) (.int .i64 ((m : Int) + 1)))
      obtain ⟨p4, q4⟩ := keepC hb (g := w.heap.size + 1) (by simpa using z2)
      have z4 : w.heap.size + 1 < w4.heap.size := by have := hb.size; simp at this; omega
      have HR := Lib.hid hr
      have HT := Lib.hid (SBlk.lo (b' := w.heap.size) hs (by simp; omega))
      have hne := hs.ne (b := w.heap.size + 1) (by simpa using z2)
      have HNE := Lib.hid (show l ≠ [] → blockOf a' ≠ some (w.heap.size + 1) from fun _ => hne (by omega))
      have HNF := Lib.hid hne
      have HB := Lib.hid (bthen HB.out hb HB.out.size)
      clear hb hr hs hne
      go_wp2
      refine bodyPost_ret (v := .agg #[.slice a' n c', .int .i64 ((m : Int) + 1), .string k, .string X, .int .i64 0]) (by simp [results, Try.results52, go_sem, p1, p3, p4]) rfl ⟨a', c', rfl, ((((HR.out.setA HNE.out).setA HNE.out).setA HNE.out).setA HNE.out).setA HNE.out, ((((HT.out.setA HNF.out).setA HNF.out).setA HNF.out).setA HNF.out).setA HNF.out, five HB.out (by omega) _ _ _ _ _⟩
  · rw [hv2]
    obtain ⟨F, hF⟩ : ∃ F, F = faultV l t k x := ⟨_, rfl⟩
    rw [← hF] at HW hf ⊢
    obtain ⟨n, hn'⟩ : ∃ n, n = l.length := ⟨_, rfl⟩
    rw [← hn'] at HB HW ⊢
    clear HC HE hl hn hn' hF hv hv2 h hal hk hx HSR HPN
    unfold hoV illV oV hV at *
    go_enter Try.func52, Try.ntmps52
    go_wp2_with fail
    refine (HW.out _ HB.out).mono ?_
    rintro e w1 ⟨rfl, hb⟩
    have z1 : w.heap.size + 1 < w1.heap.size := by have := hb.size; simp at this; omega
    obtain ⟨p0, q0⟩ := keepC hb (g := w.heap.size) (by simp; omega)
    obtain ⟨p1, q1⟩ := keepC hb (g := w.heap.size + 1) (by simp)
    have HB := Lib.hid (bthen HB.out hb (by simp; omega))
    clear hb
    go_wp2
    exact bodyPost_ret (v := .agg #[.slice none 0 0, .int .i64 0, .string ⟨#[]⟩, .string ⟨#[]⟩, .int .i64 F]) (by simp [results, Try.results52, go_sem, p1]) rfl ⟨none, 0, rfl, SRow.nil _ _, sblk0 _ _, five HB.out (by omega) _ _ _ _ _⟩
end Go.Proofs.Ytgmbpohbjhaghaa.hist
