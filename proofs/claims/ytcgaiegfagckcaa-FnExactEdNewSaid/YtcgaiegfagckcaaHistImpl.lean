/-
  The program's HistRight, and what its faces hand back. For every such value. Written by wip/tool/gen_histimpl.py.
-/
import Derived.Test.YtcgaiegfagckcaaHistRight
import Derived.Test.YtcgaiegfagckcaaKillOwn
namespace Go.Proofs.Ytcgaiegfagckcaa.hist
open Go.ChangeShapes Go.WideShapes Go.ChangeAt Go.RowKit
open Go.Proofs.Ytcgaiegfagckcaa.strs Go.Proofs.Ytcgaiegfagckcaa.line
theorem histEnd_any (a : Option Addr) (n C : Nat) (t : Int) (k : ByteArray) (w : World) :
    Calls Try.prog 54 #[hV a n C t k] w fun e w' => e = .returned (.int .i64 n) ∧ Below w.heap.size w w' := by
  unfold hV
  go_enter Try.func54, Try.ntmps54
  go_wp2
  go_ret
  exact ⟨rfl, (Below.refl _ w).alloc (Nat.le_refl _) _⟩
theorem histB_all (l : List ByteArray) (t : Int) (k : ByteArray) : histB l t k = (all_.allB 12 l && (decide (0 ≤ t) && (decide (t ≤ (l.length : Int)) && textB k))) := by
  unfold histB textsB all_.allB
  rw [show all_.goodB = goodB from rfl]
  cases decide ((l.length : Int) ≤ 12) <;> cases l.all goodB <;> cases decide (0 ≤ t) <;> cases decide (t ≤ (l.length : Int)) <;> cases textB k <;> rfl
theorem cell3_keep {W W' : World} {g : Nat} {u0 u1 u2 : Value} (h : W.cell? ⟨g, 0, none⟩ = some u0 ∧ W.cell? ⟨g, 1, none⟩ = some u1 ∧ W.cell? ⟨g, 2, none⟩ = some u2) (hb : Below W.heap.size W W') :
    W'.cell? ⟨g, 0, none⟩ = some u0 ∧ W'.cell? ⟨g, 1, none⟩ = some u1 ∧ W'.cell? ⟨g, 2, none⟩ = some u2 :=
  ⟨by rw [hb.cell (p := ⟨g, 0, none⟩) (blk_lt h.1)]; exact h.1, by rw [hb.cell (p := ⟨g, 1, none⟩) (blk_lt h.2.1)]; exact h.2.1, by rw [hb.cell (p := ⟨g, 2, none⟩) (blk_lt h.2.2)]; exact h.2.2⟩
set_option maxHeartbeats 1600000 in
theorem implHist_any (a : Option Addr) (C : Nat) (l : List ByteArray) (t : Int) (k : ByteArray) (hn : l.length ≤ 1048576) (hl : ∀ s ∈ l, s.size ≤ maxLen) (hk : k.size ≤ maxLen) (w : World) (h : SRow w a l) :
    Calls Try.prog 33 #[hV a l.length C t k] w fun e w' => e = .returned (.bool (histB l t k)) ∧ Below w.heap.size w w' := by
  have HA := Lib.hid (fun W (hb : Below w.heap.size w W) => all_.areAllS_any a C l 12 hn hl W (h.below hb))
  have HE := Lib.hid (fun W => histEnd_any a l.length C t k W)
  have HK := Lib.hid (implRight_any k hk)
  have HV := Lib.hid (histB_all l t k)
  rw [HV.out]
  clear HV
  obtain ⟨B, hB⟩ : ∃ B, B = all_.allB 12 l := ⟨_, rfl⟩
  rw [← hB] at HA ⊢
  obtain ⟨T, hT⟩ : ∃ T, T = textB k := ⟨_, rfl⟩
  rw [← hT] at HK ⊢
  obtain ⟨n, hn'⟩ : ∃ n, n = l.length := ⟨_, rfl⟩
  rw [← hn'] at HA HE ⊢
  have hal := (Below.refl _ w).alloc (Nat.le_refl _) (.cells #[.slice a n C, .int .i64 t, .string k] 37)
  have HB := Lib.hid hal.drew
  have hcells : (w.alloc (.cells #[.slice a n C, .int .i64 t, .string k] 37)).drew.cell? ⟨w.heap.size, 0, none⟩ = some (.slice a n C) ∧ (w.alloc (.cells #[.slice a n C, .int .i64 t, .string k] 37)).drew.cell? ⟨w.heap.size, 1, none⟩ = some (.int .i64 t) ∧ (w.alloc (.cells #[.slice a n C, .int .i64 t, .string k] 37)).drew.cell? ⟨w.heap.size, 2, none⟩ = some (.string k) := by
    refine ⟨?_, ?_, ?_⟩ <;> simp [go_sem]
  have HS := Lib.hid hcells
  clear hn' hB hn hl h hal hk hT hcells
  unfold hV at HE ⊢
  cases B
  · go_enter Try.func33, Try.ntmps33
    go_wp2_with fail
    refine wp_region_held_drew (S := fun w' => w'.cell? ⟨w.heap.size, 0, none⟩ = some (.slice a n C) ∧ w'.cell? ⟨w.heap.size, 1, none⟩ = some (.int .i64 t) ∧ w'.cell? ⟨w.heap.size, 2, none⟩ = some (.string k)) (by kernel_rfl) HS.out (fun hHeld => ?_)
    refine wpAnyH_take (i := 0) rfl (by kernel_rfl) (by kernel_rfl) (by kernel_rfl) (fun _ _ _ h => h) (Or.inl ⟨by kernel_rfl, by rintro w ⟨q0, q1, q2⟩; go_simp; try with_reducible rfl⟩) (by assumption) ?_
    refine wpAnyH_take (i := 1) rfl (by kernel_rfl) (by kernel_rfl) (by kernel_rfl) (fun _ _ _ h => h) (Or.inl ⟨by kernel_rfl, by rintro w ⟨q0, q1, q2⟩; go_simp; try with_reducible rfl⟩) (by assumption) ?_
    refine wpAnyH_ready (rs := [2]) (by kernel_rfl) (by simp) (AllReadyH.cons rfl (fun K hK => ?_) AllReadyH.nil)
    go_simp
    refine (HA.out _ HB.out).mono ?_
    rintro e w1 ⟨rfl, hb⟩
    have hS := cell3_keep hHeld hb
    have HB := Lib.hid (bthen HB.out hb HB.out.size)
    clear hHeld hb
    refine hK.out _ _ hS (fun hHeld => ?_)
    clear hK K
    refine wpAnyH_take (i := 3) rfl (by kernel_rfl) (by kernel_rfl) (by kernel_rfl) (fun _ _ _ h => h) (Or.inl ⟨by kernel_rfl, by rintro w ⟨q0, q1, q2⟩; go_simp; try with_reducible rfl⟩) (by assumption) ?_
    refine wpAnyH_take (i := 4) (v := undef) rfl (by kernel_rfl) (by kernel_rfl) (by kernel_rfl) (fun _ _ _ h => h) (Or.inr ⟨by kernel_rfl, rfl⟩) (by assumption) ?_
    refine wpAnyH_take (i := 5) (v := undef) rfl (by kernel_rfl) (by kernel_rfl) (by kernel_rfl) (fun _ _ _ h => h) (Or.inr ⟨by kernel_rfl, rfl⟩) (by assumption) ?_
    refine wpAnyH_take (i := 6) (v := undef) rfl (by kernel_rfl) (by kernel_rfl) (by kernel_rfl) (fun _ _ _ h => h) (Or.inr ⟨by kernel_rfl, rfl⟩) (by assumption) ?_
    refine wpAnyH_take (i := 7) rfl (by kernel_rfl) (by kernel_rfl) (by kernel_rfl) (fun _ _ _ h => h) (Or.inl ⟨by kernel_rfl, by rintro w ⟨q0, q1, q2⟩; go_simp; try with_reducible rfl⟩) (by assumption) ?_
    refine wpAnyH_take (i := 8) rfl (by kernel_rfl) (by kernel_rfl) (by kernel_rfl) (fun _ _ _ h => h) (Or.inl ⟨by kernel_rfl, by rintro w ⟨q0, q1, q2⟩; go_simp; try with_reducible rfl⟩) (by assumption) ?_
    refine wpAnyH_take (i := 9) (v := undef) rfl (by kernel_rfl) (by kernel_rfl) (by kernel_rfl) (fun _ _ _ h => h) (Or.inr ⟨by kernel_rfl, rfl⟩) (by assumption) ?_
    refine wpAnyH_take (i := 10) (v := undef) rfl (by kernel_rfl) (by kernel_rfl) (by kernel_rfl) (fun _ _ _ h => h) (Or.inr ⟨by kernel_rfl, rfl⟩) (by assumption) ?_
    refine wpAnyH_take (i := 11) (v := undef) rfl (by kernel_rfl) (by kernel_rfl) (by kernel_rfl) (fun _ _ _ h => h) (Or.inr ⟨by kernel_rfl, rfl⟩) (by assumption) ?_
    refine wpAnyH_take (i := 12) (v := undef) rfl (by kernel_rfl) (by kernel_rfl) (by kernel_rfl) (fun _ _ _ h => h) (Or.inr ⟨by kernel_rfl, rfl⟩) (by assumption) ?_
    refine wpAnyH_take (i := 13) (v := undef) rfl (by kernel_rfl) (by kernel_rfl) (by kernel_rfl) (fun _ _ _ h => h) (Or.inr ⟨by kernel_rfl, rfl⟩) (by assumption) ?_
    refine wpAnyH_take (i := 14) rfl (by kernel_rfl) (by kernel_rfl) (by kernel_rfl) (fun _ _ _ h => h) (Or.inl ⟨by kernel_rfl, by rintro w ⟨q0, q1, q2⟩; go_simp; try with_reducible rfl⟩) (by assumption) ?_
    refine wpAnyH_take (i := 15) rfl (by kernel_rfl) (by kernel_rfl) (by kernel_rfl) (fun _ _ _ h => h) (Or.inl ⟨by kernel_rfl, by rintro w ⟨q0, q1, q2⟩; go_simp; try with_reducible rfl⟩) (by assumption) ?_
    refine wpAnyH_take (i := 16) (v := undef) rfl (by kernel_rfl) (by kernel_rfl) (by kernel_rfl) (fun _ _ _ h => h) (Or.inr ⟨by kernel_rfl, rfl⟩) (by assumption) ?_
    refine wpAnyH_take (i := 17) (v := undef) rfl (by kernel_rfl) (by kernel_rfl) (by kernel_rfl) (fun _ _ _ h => h) (Or.inr ⟨by kernel_rfl, rfl⟩) (by assumption) ?_
    refine wpAnyH_take (i := 18) (v := undef) rfl (by kernel_rfl) (by kernel_rfl) (by kernel_rfl) (fun _ _ _ h => h) (Or.inr ⟨by kernel_rfl, rfl⟩) (by assumption) ?_
    refine wpAnyH_take (i := 19) rfl (by kernel_rfl) (by kernel_rfl) (by kernel_rfl) (fun _ _ _ h => h) (Or.inl ⟨by kernel_rfl, by rintro w ⟨q0, q1, q2⟩; go_simp; try with_reducible rfl⟩) (by assumption) ?_
    refine wpAnyH_take (i := 20) rfl (by kernel_rfl) (by kernel_rfl) (by kernel_rfl) (fun _ _ _ h => h) (Or.inl ⟨by kernel_rfl, by rintro w ⟨q0, q1, q2⟩; go_simp; try with_reducible rfl⟩) (by assumption) ?_
    refine wpAnyH_done (by kernel_rfl) ?_ _
    go_simp
    go_wp2
    go_ret
    exact ⟨rfl, HB.out⟩
  · rw [Bool.true_and]
    by_cases h0 : 0 ≤ t
    · have hd0 : decide (0 ≤ t) = true := decide_eq_true h0
      rw [hd0, Bool.true_and]
      cases hd1 : decide (t ≤ (n : Int))
      · rw [Bool.false_and]
        go_enter Try.func33, Try.ntmps33
        go_wp2_with fail
        refine wp_region_held_drew (S := fun w' => w'.cell? ⟨w.heap.size, 0, none⟩ = some (.slice a n C) ∧ w'.cell? ⟨w.heap.size, 1, none⟩ = some (.int .i64 t) ∧ w'.cell? ⟨w.heap.size, 2, none⟩ = some (.string k)) (by kernel_rfl) HS.out (fun hHeld => ?_)
        refine wpAnyH_take (i := 0) rfl (by kernel_rfl) (by kernel_rfl) (by kernel_rfl) (fun _ _ _ h => h) (Or.inl ⟨by kernel_rfl, by rintro w ⟨q0, q1, q2⟩; go_simp; try with_reducible rfl⟩) (by assumption) ?_
        refine wpAnyH_take (i := 1) rfl (by kernel_rfl) (by kernel_rfl) (by kernel_rfl) (fun _ _ _ h => h) (Or.inl ⟨by kernel_rfl, by rintro w ⟨q0, q1, q2⟩; go_simp; try with_reducible rfl⟩) (by assumption) ?_
        refine wpAnyH_ready (rs := [2]) (by kernel_rfl) (by simp) (AllReadyH.cons rfl (fun K hK => ?_) AllReadyH.nil)
        go_simp
        refine (HA.out _ HB.out).mono ?_
        rintro e w1 ⟨rfl, hb⟩
        have hS := cell3_keep hHeld hb
        have HB := Lib.hid (bthen HB.out hb HB.out.size)
        clear hHeld hb
        refine hK.out _ _ hS (fun hHeld => ?_)
        clear hK K
        refine wpAnyH_take (i := 3) rfl (by kernel_rfl) (by kernel_rfl) (by kernel_rfl) (fun _ _ _ h => h) (Or.inl ⟨by kernel_rfl, by rintro w ⟨q0, q1, q2⟩; go_simp; try with_reducible rfl⟩) (by assumption) ?_
        refine wpAnyH_take (i := 4) rfl (by kernel_rfl) (by kernel_rfl) (by kernel_rfl) (fun _ _ _ h => h) (Or.inl ⟨by kernel_rfl, by rintro w ⟨q0, q1, q2⟩; go_simp; try with_reducible rfl⟩) (by assumption) ?_
        refine wpAnyH_take (i := 5) rfl (by kernel_rfl) (by kernel_rfl) (by kernel_rfl) (fun _ _ _ h => h) (Or.inl ⟨by kernel_rfl, by rintro w ⟨q0, q1, q2⟩; go_simp; try with_reducible rfl⟩) (by assumption) ?_
        refine wpAnyH_take (i := 6) rfl (by kernel_rfl) (by kernel_rfl) (by kernel_rfl) (fun _ _ _ h => h) (Or.inl ⟨by kernel_rfl, by rintro w ⟨q0, q1, q2⟩; go_simp; try with_reducible rfl⟩) (by assumption) ?_
        refine wpAnyH_take (i := 7) rfl (by kernel_rfl) (by kernel_rfl) (by kernel_rfl) (fun _ _ _ h => h) (Or.inl ⟨by kernel_rfl, by rintro w ⟨q0, q1, q2⟩; go_simp; try with_reducible rfl⟩) (by assumption) ?_
        refine wpAnyH_take (i := 8) rfl (by kernel_rfl) (by kernel_rfl) (by kernel_rfl) (fun _ _ _ h => h) (Or.inl ⟨by kernel_rfl, by rintro w ⟨q0, q1, q2⟩; go_simp; try with_reducible rfl⟩) (by assumption) ?_
        refine wpAnyH_take (i := 9) rfl (by kernel_rfl) (by kernel_rfl) (by kernel_rfl) (fun _ _ _ h => h) (Or.inl ⟨by kernel_rfl, by rintro w ⟨q0, q1, q2⟩; go_simp; try with_reducible rfl⟩) (by assumption) ?_
        refine wpAnyH_take (i := 10) rfl (by kernel_rfl) (by kernel_rfl) (by kernel_rfl) (fun _ _ _ h => h) (Or.inl ⟨by kernel_rfl, by rintro w ⟨q0, q1, q2⟩; go_simp; try with_reducible rfl⟩) (by assumption) ?_
        refine wpAnyH_take (i := 11) rfl (by kernel_rfl) (by kernel_rfl) (by kernel_rfl) (fun _ _ _ h => h) (Or.inl ⟨by kernel_rfl, by rintro w ⟨q0, q1, q2⟩; go_simp; try with_reducible rfl⟩) (by assumption) ?_
        refine wpAnyH_ready (rs := [12]) (by kernel_rfl) (by simp) (AllReadyH.cons rfl (fun K hK => ?_) AllReadyH.nil)
        go_simp
        refine (HE.out _).mono ?_
        rintro e w1 ⟨rfl, hb⟩
        have hS := cell3_keep hHeld hb
        have HB := Lib.hid (bthen HB.out hb HB.out.size)
        clear hHeld hb
        refine hK.out _ _ hS (fun hHeld => ?_)
        clear hK K
        refine wpAnyH_take (i := 13) rfl (by kernel_rfl) (by kernel_rfl) (by kernel_rfl) (fun _ _ _ h => h) (Or.inl ⟨by kernel_rfl, by rintro w ⟨q0, q1, q2⟩; go_simp; try with_reducible rfl⟩) (by assumption) ?_
        refine wpAnyH_take (i := 14) rfl (by kernel_rfl) (by kernel_rfl) (by kernel_rfl) (fun _ _ _ h => h) (Or.inl ⟨by kernel_rfl, by rintro w ⟨q0, q1, q2⟩; go_simp; try with_reducible rfl⟩) (by assumption) ?_
        refine wpAnyH_take (i := 15) rfl (by kernel_rfl) (by kernel_rfl) (by kernel_rfl) (fun _ _ _ h => h) (Or.inl ⟨by kernel_rfl, by rintro w ⟨q0, q1, q2⟩; go_simp; try with_reducible rfl⟩) (by assumption) ?_
        refine wpAnyH_take (i := 16) (v := undef) rfl (by kernel_rfl) (by kernel_rfl) (by kernel_rfl) (fun _ _ _ h => h) (Or.inr ⟨by kernel_rfl, rfl⟩) (by assumption) ?_
        refine wpAnyH_take (i := 17) (v := undef) rfl (by kernel_rfl) (by kernel_rfl) (by kernel_rfl) (fun _ _ _ h => h) (Or.inr ⟨by kernel_rfl, rfl⟩) (by assumption) ?_
        refine wpAnyH_take (i := 18) (v := undef) rfl (by kernel_rfl) (by kernel_rfl) (by kernel_rfl) (fun _ _ _ h => h) (Or.inr ⟨by kernel_rfl, rfl⟩) (by assumption) ?_
        refine wpAnyH_take (i := 19) rfl (by kernel_rfl) (by kernel_rfl) (by kernel_rfl) (fun _ _ _ h => h) (Or.inl ⟨by kernel_rfl, by rintro w ⟨q0, q1, q2⟩; go_simp; try with_reducible rfl⟩) (by assumption) ?_
        refine wpAnyH_take (i := 20) rfl (by kernel_rfl) (by kernel_rfl) (by kernel_rfl) (fun _ _ _ h => h) (Or.inl ⟨by kernel_rfl, by rintro w ⟨q0, q1, q2⟩; go_simp; try with_reducible rfl⟩) (by assumption) ?_
        refine wpAnyH_done (by kernel_rfl) ?_ _
        go_simp
        go_wp2
        go_ret
        exact ⟨rfl, HB.out⟩
      · rw [Bool.true_and]
        go_enter Try.func33, Try.ntmps33
        go_wp2_with fail
        refine wp_region_held_drew (S := fun w' => w'.cell? ⟨w.heap.size, 0, none⟩ = some (.slice a n C) ∧ w'.cell? ⟨w.heap.size, 1, none⟩ = some (.int .i64 t) ∧ w'.cell? ⟨w.heap.size, 2, none⟩ = some (.string k)) (by kernel_rfl) HS.out (fun hHeld => ?_)
        refine wpAnyH_take (i := 0) rfl (by kernel_rfl) (by kernel_rfl) (by kernel_rfl) (fun _ _ _ h => h) (Or.inl ⟨by kernel_rfl, by rintro w ⟨q0, q1, q2⟩; go_simp; try with_reducible rfl⟩) (by assumption) ?_
        refine wpAnyH_take (i := 1) rfl (by kernel_rfl) (by kernel_rfl) (by kernel_rfl) (fun _ _ _ h => h) (Or.inl ⟨by kernel_rfl, by rintro w ⟨q0, q1, q2⟩; go_simp; try with_reducible rfl⟩) (by assumption) ?_
        refine wpAnyH_ready (rs := [2]) (by kernel_rfl) (by simp) (AllReadyH.cons rfl (fun K hK => ?_) AllReadyH.nil)
        go_simp
        refine (HA.out _ HB.out).mono ?_
        rintro e w1 ⟨rfl, hb⟩
        have hS := cell3_keep hHeld hb
        have HB := Lib.hid (bthen HB.out hb HB.out.size)
        clear hHeld hb
        refine hK.out _ _ hS (fun hHeld => ?_)
        clear hK K
        refine wpAnyH_take (i := 3) rfl (by kernel_rfl) (by kernel_rfl) (by kernel_rfl) (fun _ _ _ h => h) (Or.inl ⟨by kernel_rfl, by rintro w ⟨q0, q1, q2⟩; go_simp; try with_reducible rfl⟩) (by assumption) ?_
        refine wpAnyH_take (i := 4) rfl (by kernel_rfl) (by kernel_rfl) (by kernel_rfl) (fun _ _ _ h => h) (Or.inl ⟨by kernel_rfl, by rintro w ⟨q0, q1, q2⟩; go_simp; try with_reducible rfl⟩) (by assumption) ?_
        refine wpAnyH_take (i := 5) rfl (by kernel_rfl) (by kernel_rfl) (by kernel_rfl) (fun _ _ _ h => h) (Or.inl ⟨by kernel_rfl, by rintro w ⟨q0, q1, q2⟩; go_simp; try with_reducible rfl⟩) (by assumption) ?_
        refine wpAnyH_take (i := 6) rfl (by kernel_rfl) (by kernel_rfl) (by kernel_rfl) (fun _ _ _ h => h) (Or.inl ⟨by kernel_rfl, by rintro w ⟨q0, q1, q2⟩; go_simp; try with_reducible rfl⟩) (by assumption) ?_
        refine wpAnyH_take (i := 7) rfl (by kernel_rfl) (by kernel_rfl) (by kernel_rfl) (fun _ _ _ h => h) (Or.inl ⟨by kernel_rfl, by rintro w ⟨q0, q1, q2⟩; go_simp; try with_reducible rfl⟩) (by assumption) ?_
        refine wpAnyH_take (i := 8) rfl (by kernel_rfl) (by kernel_rfl) (by kernel_rfl) (fun _ _ _ h => h) (Or.inl ⟨by kernel_rfl, by rintro w ⟨q0, q1, q2⟩; go_simp; try with_reducible rfl⟩) (by assumption) ?_
        refine wpAnyH_take (i := 9) rfl (by kernel_rfl) (by kernel_rfl) (by kernel_rfl) (fun _ _ _ h => h) (Or.inl ⟨by kernel_rfl, by rintro w ⟨q0, q1, q2⟩; go_simp; try with_reducible rfl⟩) (by assumption) ?_
        refine wpAnyH_take (i := 10) rfl (by kernel_rfl) (by kernel_rfl) (by kernel_rfl) (fun _ _ _ h => h) (Or.inl ⟨by kernel_rfl, by rintro w ⟨q0, q1, q2⟩; go_simp; try with_reducible rfl⟩) (by assumption) ?_
        refine wpAnyH_take (i := 11) rfl (by kernel_rfl) (by kernel_rfl) (by kernel_rfl) (fun _ _ _ h => h) (Or.inl ⟨by kernel_rfl, by rintro w ⟨q0, q1, q2⟩; go_simp; try with_reducible rfl⟩) (by assumption) ?_
        refine wpAnyH_ready (rs := [12]) (by kernel_rfl) (by simp) (AllReadyH.cons rfl (fun K hK => ?_) AllReadyH.nil)
        go_simp
        refine (HE.out _).mono ?_
        rintro e w1 ⟨rfl, hb⟩
        have hS := cell3_keep hHeld hb
        have HB := Lib.hid (bthen HB.out hb HB.out.size)
        clear hHeld hb
        refine hK.out _ _ hS (fun hHeld => ?_)
        clear hK K
        refine wpAnyH_take (i := 13) rfl (by kernel_rfl) (by kernel_rfl) (by kernel_rfl) (fun _ _ _ h => h) (Or.inl ⟨by kernel_rfl, by rintro w ⟨q0, q1, q2⟩; go_simp; try with_reducible rfl⟩) (by assumption) ?_
        refine wpAnyH_take (i := 14) rfl (by kernel_rfl) (by kernel_rfl) (by kernel_rfl) (fun _ _ _ h => h) (Or.inl ⟨by kernel_rfl, by rintro w ⟨q0, q1, q2⟩; go_simp; try with_reducible rfl⟩) (by assumption) ?_
        refine wpAnyH_take (i := 15) rfl (by kernel_rfl) (by kernel_rfl) (by kernel_rfl) (fun _ _ _ h => h) (Or.inl ⟨by kernel_rfl, by rintro w ⟨q0, q1, q2⟩; go_simp; try with_reducible rfl⟩) (by assumption) ?_
        refine wpAnyH_take (i := 16) rfl (by kernel_rfl) (by kernel_rfl) (by kernel_rfl) (fun _ _ _ h => h) (Or.inl ⟨by kernel_rfl, by rintro w ⟨q0, q1, q2⟩; go_simp; try with_reducible rfl⟩) (by assumption) ?_
        refine wpAnyH_take (i := 17) rfl (by kernel_rfl) (by kernel_rfl) (by kernel_rfl) (fun _ _ _ h => h) (Or.inl ⟨by kernel_rfl, by rintro w ⟨q0, q1, q2⟩; go_simp; try with_reducible rfl⟩) (by assumption) ?_
        refine wpAnyH_ready (rs := [18]) (by kernel_rfl) (by simp) (AllReadyH.cons rfl (fun K hK => ?_) AllReadyH.nil)
        go_simp
        refine (HK.out _).mono ?_
        rintro e w1 ⟨rfl, hb⟩
        have hS := cell3_keep hHeld hb
        have HB := Lib.hid (bthen HB.out hb HB.out.size)
        clear hHeld hb
        refine hK.out _ _ hS (fun hHeld => ?_)
        clear hK K
        refine wpAnyH_take (i := 19) rfl (by kernel_rfl) (by kernel_rfl) (by kernel_rfl) (fun _ _ _ h => h) (Or.inl ⟨by kernel_rfl, by rintro w ⟨q0, q1, q2⟩; go_simp; try with_reducible rfl⟩) (by assumption) ?_
        refine wpAnyH_take (i := 20) rfl (by kernel_rfl) (by kernel_rfl) (by kernel_rfl) (fun _ _ _ h => h) (Or.inl ⟨by kernel_rfl, by rintro w ⟨q0, q1, q2⟩; go_simp; try with_reducible rfl⟩) (by assumption) ?_
        refine wpAnyH_done (by kernel_rfl) ?_ _
        go_simp
        go_wp2
        go_ret
        exact ⟨rfl, HB.out⟩
    · have hd0 : decide (0 ≤ t) = false := decide_eq_false h0
      rw [hd0, Bool.false_and]
      go_enter Try.func33, Try.ntmps33
      go_wp2_with fail
      refine wp_region_held_drew (S := fun w' => w'.cell? ⟨w.heap.size, 0, none⟩ = some (.slice a n C) ∧ w'.cell? ⟨w.heap.size, 1, none⟩ = some (.int .i64 t) ∧ w'.cell? ⟨w.heap.size, 2, none⟩ = some (.string k)) (by kernel_rfl) HS.out (fun hHeld => ?_)
      refine wpAnyH_take (i := 0) rfl (by kernel_rfl) (by kernel_rfl) (by kernel_rfl) (fun _ _ _ h => h) (Or.inl ⟨by kernel_rfl, by rintro w ⟨q0, q1, q2⟩; go_simp; try with_reducible rfl⟩) (by assumption) ?_
      refine wpAnyH_take (i := 1) rfl (by kernel_rfl) (by kernel_rfl) (by kernel_rfl) (fun _ _ _ h => h) (Or.inl ⟨by kernel_rfl, by rintro w ⟨q0, q1, q2⟩; go_simp; try with_reducible rfl⟩) (by assumption) ?_
      refine wpAnyH_ready (rs := [2]) (by kernel_rfl) (by simp) (AllReadyH.cons rfl (fun K hK => ?_) AllReadyH.nil)
      go_simp
      refine (HA.out _ HB.out).mono ?_
      rintro e w1 ⟨rfl, hb⟩
      have hS := cell3_keep hHeld hb
      have HB := Lib.hid (bthen HB.out hb HB.out.size)
      clear hHeld hb
      refine hK.out _ _ hS (fun hHeld => ?_)
      clear hK K
      refine wpAnyH_take (i := 3) rfl (by kernel_rfl) (by kernel_rfl) (by kernel_rfl) (fun _ _ _ h => h) (Or.inl ⟨by kernel_rfl, by rintro w ⟨q0, q1, q2⟩; go_simp; try with_reducible rfl⟩) (by assumption) ?_
      refine wpAnyH_take (i := 4) rfl (by kernel_rfl) (by kernel_rfl) (by kernel_rfl) (fun _ _ _ h => h) (Or.inl ⟨by kernel_rfl, by rintro w ⟨q0, q1, q2⟩; go_simp; try with_reducible rfl⟩) (by assumption) ?_
      refine wpAnyH_take (i := 5) rfl (by kernel_rfl) (by kernel_rfl) (by kernel_rfl) (fun _ _ _ h => h) (Or.inl ⟨by kernel_rfl, by rintro w ⟨q0, q1, q2⟩; go_simp; try with_reducible rfl⟩) (by assumption) ?_
      refine wpAnyH_take (i := 6) rfl (by kernel_rfl) (by kernel_rfl) (by kernel_rfl) (fun _ _ _ h => h) (Or.inl ⟨by kernel_rfl, by rintro w ⟨q0, q1, q2⟩; go_simp; try with_reducible rfl⟩) (by assumption) ?_
      refine wpAnyH_take (i := 7) rfl (by kernel_rfl) (by kernel_rfl) (by kernel_rfl) (fun _ _ _ h => h) (Or.inl ⟨by kernel_rfl, by rintro w ⟨q0, q1, q2⟩; go_simp; try with_reducible rfl⟩) (by assumption) ?_
      refine wpAnyH_take (i := 8) rfl (by kernel_rfl) (by kernel_rfl) (by kernel_rfl) (fun _ _ _ h => h) (Or.inl ⟨by kernel_rfl, by rintro w ⟨q0, q1, q2⟩; go_simp; try with_reducible rfl⟩) (by assumption) ?_
      refine wpAnyH_take (i := 9) (v := undef) rfl (by kernel_rfl) (by kernel_rfl) (by kernel_rfl) (fun _ _ _ h => h) (Or.inr ⟨by kernel_rfl, rfl⟩) (by assumption) ?_
      refine wpAnyH_take (i := 10) (v := undef) rfl (by kernel_rfl) (by kernel_rfl) (by kernel_rfl) (fun _ _ _ h => h) (Or.inr ⟨by kernel_rfl, rfl⟩) (by assumption) ?_
      refine wpAnyH_take (i := 11) (v := undef) rfl (by kernel_rfl) (by kernel_rfl) (by kernel_rfl) (fun _ _ _ h => h) (Or.inr ⟨by kernel_rfl, rfl⟩) (by assumption) ?_
      refine wpAnyH_take (i := 12) (v := undef) rfl (by kernel_rfl) (by kernel_rfl) (by kernel_rfl) (fun _ _ _ h => h) (Or.inr ⟨by kernel_rfl, rfl⟩) (by assumption) ?_
      refine wpAnyH_take (i := 13) (v := undef) rfl (by kernel_rfl) (by kernel_rfl) (by kernel_rfl) (fun _ _ _ h => h) (Or.inr ⟨by kernel_rfl, rfl⟩) (by assumption) ?_
      refine wpAnyH_take (i := 14) rfl (by kernel_rfl) (by kernel_rfl) (by kernel_rfl) (fun _ _ _ h => h) (Or.inl ⟨by kernel_rfl, by rintro w ⟨q0, q1, q2⟩; go_simp; try with_reducible rfl⟩) (by assumption) ?_
      refine wpAnyH_take (i := 15) rfl (by kernel_rfl) (by kernel_rfl) (by kernel_rfl) (fun _ _ _ h => h) (Or.inl ⟨by kernel_rfl, by rintro w ⟨q0, q1, q2⟩; go_simp; try with_reducible rfl⟩) (by assumption) ?_
      refine wpAnyH_take (i := 16) (v := undef) rfl (by kernel_rfl) (by kernel_rfl) (by kernel_rfl) (fun _ _ _ h => h) (Or.inr ⟨by kernel_rfl, rfl⟩) (by assumption) ?_
      refine wpAnyH_take (i := 17) (v := undef) rfl (by kernel_rfl) (by kernel_rfl) (by kernel_rfl) (fun _ _ _ h => h) (Or.inr ⟨by kernel_rfl, rfl⟩) (by assumption) ?_
      refine wpAnyH_take (i := 18) (v := undef) rfl (by kernel_rfl) (by kernel_rfl) (by kernel_rfl) (fun _ _ _ h => h) (Or.inr ⟨by kernel_rfl, rfl⟩) (by assumption) ?_
      refine wpAnyH_take (i := 19) rfl (by kernel_rfl) (by kernel_rfl) (by kernel_rfl) (fun _ _ _ h => h) (Or.inl ⟨by kernel_rfl, by rintro w ⟨q0, q1, q2⟩; go_simp; try with_reducible rfl⟩) (by assumption) ?_
      refine wpAnyH_take (i := 20) rfl (by kernel_rfl) (by kernel_rfl) (by kernel_rfl) (fun _ _ _ h => h) (Or.inl ⟨by kernel_rfl, by rintro w ⟨q0, q1, q2⟩; go_simp; try with_reducible rfl⟩) (by assumption) ?_
      refine wpAnyH_done (by kernel_rfl) ?_ _
      go_simp
      go_wp2
      go_ret
      exact ⟨rfl, HB.out⟩
end Go.Proofs.Ytcgaiegfagckcaa.hist
