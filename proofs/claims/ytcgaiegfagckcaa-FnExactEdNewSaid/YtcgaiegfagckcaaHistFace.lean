/-
  What the program's faces of a Hist hand back. For every such value. Written by wip/tool/gen_histface.py.
-/
import Derived.Test.YtcgaiegfagckcaaHistImpl
import Derived.Test.YtcgaiegfagckcaaHistUp
import Derived.Test.YtcgaiegfagckcaaHistDown
namespace Go.Proofs.Ytcgaiegfagckcaa.hist
open Go.ChangeShapes Go.WideShapes Go.ChangeAt Go.RowKit
open Go.Proofs.Ytcgaiegfagckcaa.strs Go.Proofs.Ytcgaiegfagckcaa.line
open Go.Proofs.Ytcgaiegfagckcaa.kill (cloneS_any ownStrs_own)
theorem three {n b : Nat} {w w1 : World} (h : Below n w w1) (hb : n ≤ b) (v0 v1 v2 : Value) : Below n w (((w1.setCell ⟨b, 0, none⟩ v0).setCell ⟨b, 1, none⟩ v1).setCell ⟨b, 2, none⟩ v2) :=
  ((h.setCell (p := ⟨b, 0, none⟩) hb _).setCell (p := ⟨b, 1, none⟩) hb _).setCell (p := ⟨b, 2, none⟩) hb _
theorem cell3_set {W : World} {g b : Nat} {u0 u1 u2 v0 v1 v2 : Value} (h : W.cell? ⟨g, 0, none⟩ = some u0 ∧ W.cell? ⟨g, 1, none⟩ = some u1 ∧ W.cell? ⟨g, 2, none⟩ = some u2) (hne : b ≠ g) :
    (((W.setCell ⟨b, 0, none⟩ v0).setCell ⟨b, 1, none⟩ v1).setCell ⟨b, 2, none⟩ v2).cell? ⟨g, 0, none⟩ = some u0 ∧ (((W.setCell ⟨b, 0, none⟩ v0).setCell ⟨b, 1, none⟩ v1).setCell ⟨b, 2, none⟩ v2).cell? ⟨g, 1, none⟩ = some u1 ∧ (((W.setCell ⟨b, 0, none⟩ v0).setCell ⟨b, 1, none⟩ v1).setCell ⟨b, 2, none⟩ v2).cell? ⟨g, 2, none⟩ = some u2 := by
  have e : ∀ i j, (⟨b, i, none⟩ : Addr) ≠ ⟨g, j, none⟩ := fun i j e => hne (by injection e)
  simp only [set_other (e _ _)]
  exact h
set_option maxHeartbeats 1600000 in
theorem ownHist_any (a : Option Addr) (C : Nat) (l : List ByteArray) (t : Int) (k : ByteArray) (hn : l.length ≤ 1048576) (hl : ∀ s ∈ l, s.size ≤ 1048576) (hk : k.size ≤ 1048576) (w : World) (h : SRow w a l) :
    Calls Try.prog 40 #[hV a l.length C t k] w fun e w' => ∃ a' c', e = .returned (hV a' l.length c' t k) ∧ SRow w' a' l ∧ SBlk w.heap.size w' a' l.length ∧ Below w.heap.size w w' := by
  have hal := (((Below.refl _ w).alloc (Nat.le_refl _) (.cells #[.slice a l.length C, .int .i64 t, .string k] 37)).alloc (by simp) (.cells #[.slice none 0 0, .int .i64 0, .string ⟨#[]⟩] 37)).drew
  have HC := Lib.hid (ownStrs_own a C l hn hl _ (h.below hal))
  have HK := Lib.hid (fun W => cloneS_any k (by omega) W)
  obtain ⟨n, hn'⟩ : ∃ n, n = l.length := ⟨_, rfl⟩
  have HN := Lib.hid hn'
  rw [← hn'] at HC hal ⊢
  have HB := Lib.hid hal
  have hcells : ∀ W : World, (((W.alloc (.cells #[.slice a n C, .int .i64 t, .string k] 37)).alloc (.cells #[.slice none 0 0, .int .i64 0, .string ⟨#[]⟩] 37)).drew).cell? ⟨W.heap.size, 0, none⟩ = some (.slice a n C) ∧ (((W.alloc (.cells #[.slice a n C, .int .i64 t, .string k] 37)).alloc (.cells #[.slice none 0 0, .int .i64 0, .string ⟨#[]⟩] 37)).drew).cell? ⟨W.heap.size, 1, none⟩ = some (.int .i64 t) ∧ (((W.alloc (.cells #[.slice a n C, .int .i64 t, .string k] 37)).alloc (.cells #[.slice none 0 0, .int .i64 0, .string ⟨#[]⟩] 37)).drew).cell? ⟨W.heap.size, 2, none⟩ = some (.string k) := by
    intro W
    refine ⟨?_, ?_, ?_⟩ <;> simp [go_sem]
  have HS := Lib.hid (hcells w)
  clear hn' hn hl h hal hk hcells
  unfold hV
  go_enter Try.func40, Try.ntmps40
  go_wp2_with fail
  refine wp_region_held_drew (S := fun w' => w'.cell? ⟨w.heap.size, 0, none⟩ = some (.slice a n C) ∧ w'.cell? ⟨w.heap.size, 1, none⟩ = some (.int .i64 t) ∧ w'.cell? ⟨w.heap.size, 2, none⟩ = some (.string k)) (by kernel_rfl) HS.out (fun hHeld => ?_)
  refine wpAnyH_take (i := 0) rfl (by kernel_rfl) (by kernel_rfl) (by kernel_rfl) (fun _ _ _ h => h) (Or.inl ⟨by kernel_rfl, by rintro w ⟨q0, q1, q2⟩; go_simp; try with_reducible rfl⟩) (by assumption) ?_
  refine wpAnyH_take (i := 1) rfl (by kernel_rfl) (by kernel_rfl) (by kernel_rfl) (fun _ _ _ h => h) (Or.inl ⟨by kernel_rfl, by rintro w ⟨q0, q1, q2⟩; go_simp; try with_reducible rfl⟩) (by assumption) ?_
  refine wpAnyH_take (i := 3) rfl (by kernel_rfl) (by kernel_rfl) (by kernel_rfl) (fun _ _ _ h => h) (Or.inl ⟨by kernel_rfl, by rintro w ⟨q0, q1, q2⟩; go_simp; try with_reducible rfl⟩) (by assumption) ?_
  refine wpAnyH_take (i := 4) rfl (by kernel_rfl) (by kernel_rfl) (by kernel_rfl) (fun _ _ _ h => h) (Or.inl ⟨by kernel_rfl, by rintro w ⟨q0, q1, q2⟩; go_simp; try with_reducible rfl⟩) (by assumption) ?_
  refine wpAnyH_take (i := 5) rfl (by kernel_rfl) (by kernel_rfl) (by kernel_rfl) (fun _ _ _ h => h) (Or.inl ⟨by kernel_rfl, by rintro w ⟨q0, q1, q2⟩; go_simp; try with_reducible rfl⟩) (by assumption) ?_
  refine wpAnyH_take (i := 6) rfl (by kernel_rfl) (by kernel_rfl) (by kernel_rfl) (fun _ _ _ h => h) (Or.inl ⟨by kernel_rfl, by rintro w ⟨q0, q1, q2⟩; go_simp; try with_reducible rfl⟩) (by assumption) ?_
  refine wpAnyH_ready (rs := [2]) (by kernel_rfl) (by simp) (AllReadyH.cons rfl (fun K hK => ?_) AllReadyH.nil)
  go_simp
  refine HC.out.mono ?_
  rintro e w1 ⟨a', c', rfl, hr, hs, hb⟩
  obtain ⟨p1, q1⟩ := keepC hb (g := w.heap.size + 1) (by simp)
  have z1 : w.heap.size + 1 < w1.heap.size := by have := hb.size; simp at this; omega
  have HR := Lib.hid hr
  have HT := Lib.hid (SBlk.lo (b' := w.heap.size) hs (by simp; omega))
  have hne := hs.ne (b := w.heap.size + 1) (by simp)
  have HNE := Lib.hid (show l ≠ [] → blockOf a' ≠ some (w.heap.size + 1) from fun e => hne (fun e2 => e (List.eq_nil_of_length_eq_zero (by rw [← HN.out]; exact e2))))
  have HNF := Lib.hid hne
  have hS := cell3_keep hHeld hb
  have HB := Lib.hid (bthen HB.out hb HB.out.size)
  clear hHeld hb hr hs hne
  refine hK.out _ _ hS (fun hHeld => ?_)
  clear hK K
  refine wpAnyH_ready (rs := [7]) (by kernel_rfl) (by simp) (AllReadyH.cons rfl (fun K hK => ?_) AllReadyH.nil)
  go_simp
  refine (HK.out _).mono ?_
  rintro e w2 ⟨rfl, hb⟩
  obtain ⟨p2, q2⟩ := keepC hb (g := w.heap.size + 1) z1
  have z2 : w.heap.size + 1 < w2.heap.size := by have := hb.size; omega
  have HR := Lib.hid (HR.out.below hb)
  have HT := Lib.hid (HT.out.below hb)
  have hS := cell3_keep hHeld hb
  have HB := Lib.hid (bthen HB.out hb HB.out.size)
  clear hHeld hb
  refine hK.out _ _ hS (fun hHeld => ?_)
  clear hK K
  refine wpAnyH_take (i := 8) rfl (by kernel_rfl) (by kernel_rfl) (by kernel_rfl) (fun _ _ _ h => h) (Or.inl ⟨by kernel_rfl, by rintro w ⟨q0, q1, q2⟩; go_simp; try with_reducible rfl⟩) (by assumption) ?_
  refine wpAnyH_ready (rs := [9]) (by kernel_rfl) (by simp) (AllReadyH.cons rfl (fun K hK => ?_) AllReadyH.nil)
  go_simp
  have hS := cell3_set (b := w.heap.size + 1) (v0 := .slice a' n c') (v1 := .int .i64 t) (v2 := .string k) hHeld (by omega)
  refine hK.out _ _ hS (fun hHeld => ?_)
  clear hK K
  refine wpAnyH_done (by kernel_rfl) ?_ _
  go_simp
  go_wp2
  refine bodyPost_ret (v := hV a' n c' t k) (by simp [hV, results, Try.results40, go_sem, p1, p2]) rfl ⟨a', c', rfl, ((HR.out.setA HNE.out).setA HNE.out).setA HNE.out, ((HT.out.setA HNF.out).setA HNF.out).setA HNF.out, three HB.out (by omega) _ _ _⟩
noncomputable def cameV (l : List ByteArray) (t : Int) (k : ByteArray) : HO := (l, t, k, if t < (l.length : Int) then l[t.toNat]?.getD ⟨#[]⟩ else k, 0)
noncomputable def faultV (l : List ByteArray) (t : Int) (k x : ByteArray) : Int := if x.size ≤ 8000 then (if histB l t k = true ∧ textB x = true then 0 else 1) else 2
end Go.Proofs.Ytcgaiegfagckcaa.hist
