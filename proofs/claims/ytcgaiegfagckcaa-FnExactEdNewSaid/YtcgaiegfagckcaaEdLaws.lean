/-
  The walks of the laws of EdRight and EdNew, given what the functions answer. Written by wip/tool/gen_edlaws.py.
-/
import Derived.Test.YtcgaiegfagckcaaEdHarness
import Derived.Deep.RegionHeld3
namespace Go.Proofs.Ytcgaiegfagckcaa.ed
open Go.ChangeShapes Go.WideShapes Go.ChangeAt Go.RowKit
open Go.Proofs.Ytcgaiegfagckcaa.strs Go.Proofs.Ytcgaiegfagckcaa.lines Go.Proofs.Ytcgaiegfagckcaa.kill Go.Proofs.Ytcgaiegfagckcaa.hist

/-- what is known on the way through a law's drawn region -/
structure RP (w : World) (F : World → Prop) (V : List (Nat × Nat × Value)) (W : World) : Prop where
  bel : Below w.heap.size w W
  st : ∀ W W', Below W.heap.size W W' → F W → F W'
  fact : F W
  vars : ∀ v ∈ V, W.cell? ⟨v.1, v.2.1, none⟩ = some v.2.2
theorem drew_belowW (W : World) : Below W.heap.size W W.drew := (Below.refl _ W).drew
theorem RP.below {w W W2 : World} {F : World → Prop} {V : List (Nat × Nat × Value)} (h : RP w F V W) (hb : Below W.heap.size W W2) : RP w F V W2 :=
  ⟨bthen h.bel hb h.bel.size, h.st, h.st _ _ hb h.fact, fun v hv => by rw [hb.cell (p := ⟨v.1, v.2.1, none⟩) (blk_lt (h.vars v hv))]; exact h.vars v hv⟩
theorem ERow.off1 {W W' : World} {A : EA} {v : E} {b : Option Addr} {n : Nat} (h : ERow W A v) (hg : W.grownBy W' (blkN b n)) (hne : ∀ x, ein A v x → blkN b n ≠ some x) : ERow W' A v :=
  ⟨SRow.off h.k hg (fun x e => hne x (.inl e)), LRow.off h.u hg (fun x e => hne x (.inr (.inl e))), SRow.off h.h hg (fun x e => hne x (.inr (.inr e)))⟩
theorem EBlk.off1 {B : Nat} {W W' : World} {A : EA} {v : E} {b : Option Addr} {n : Nat} (h : EBlk B W A v) (hg : W.grownBy W' (blkN b n)) (hne : ∀ x, ein A v x → blkN b n ≠ some x) : EBlk B W' A v :=
  ⟨SBlk.off h.k hg (fun x e => hne x (.inl e)), LBlk.off h.u hg (fun x e => hne x (.inr (.inl e))), SBlk.off h.h hg (fun x e => hne x (.inr (.inr e))), h.ku, h.kh, h.uh⟩
set_option maxRecDepth 20000 in
set_option maxHeartbeats 3200000 in
theorem walkER_of (v : E) (A : EA) (V : Bool) (w : World) (s : EIn w A v)
    (HM : EFit v → ∀ A' W, ERow W A' v → Calls Try.prog 6 #[eV v A'] W fun e w' => e = .returned (.bool V) ∧ Below W.heap.size W w')
    (HI : EFit v → ∀ A' W, ERow W A' v → Calls Try.prog 8 #[eV v A'] W fun e w' => e = .returned (.bool V) ∧ Below W.heap.size W w') :
    Calls Try.prog 3 #[eV v A] w fun e w' => e = .returned (.bool true) ∧ Below w.heap.size w w' := by
  have hal := (Below.refl _ w).alloc (Nat.le_refl _) (.cells (eC v A).toArray 31)
  have HZ := Lib.hid (szEd_any v A 1048576 (by omega) (by omega) s.x s.k1 s.k2 s.u1 s.u2 s.h1 s.h2 s.hk _ (s.row.below hal))
  have HB := Lib.hid hal
  rcases szE_or v with hv | ⟨hv, hfit⟩
  · rw [hv] at HZ
    clear hv HI HM hal s
    unfold eV eC at *
    go_enter Try.func3, Try.ntmps3
    go_wp2_with fail
    refine HZ.out.mono ?_
    rintro e w1 ⟨rfl, hb1⟩
    have HX := Lib.hid (bthen HB.out hb1 (by simp))
    clear hb1
    go_wp2
    go_ret
    exact ⟨rfl, HX.out⟩
  · have HT := Lib.hid (fun W (hb : Below w.heap.size w W) => toEd_any v A hfit W (s.row.below hb))
    have HS := Lib.hid (fun A' W (h : ERow W A' v) => HM hfit A' W h)
    have HP := Lib.hid (fun A' W (h : ERow W A' v) => HI hfit A' W h)
    have HE := Lib.hid (fun A' A'' W (h1 : ERow W A' v) (h2 : ERow W A'' v) => eqEd_same v A' A'' hfit.k hfit.u hfit.h W h1 h2)
    obtain ⟨Z, hZ⟩ : ∃ Z, Z = szE v 1048576 := ⟨_, rfl⟩
    rw [← hZ] at HZ hv
    obtain ⟨vv, hvv⟩ : ∃ vv, vv = v := ⟨_, rfl⟩
    have HVV := Lib.hid hvv
    clear hal s hfit HM HI hZ hvv
    unfold eV eC at *
    go_enter Try.func3, Try.ntmps3
    have HX0 := Lib.hid (Below.refl w.heap.size w)
    have HA := Lib.hid ((Below.refl _ w).alloc (Nat.le_refl _) (.cells #[.string v.x, .int .i64 v.i, .slice A.a v.ks.length A.c, .int .i64 v.kt, .slice A.b v.us.length A.d, .slice A.g v.hl.length A.f, .int .i64 v.ht, .string v.hk, .int .i64 v.la] 31))
    have HC := Lib.hid (HZ.out)
    go_wp2_with fail
    refine HC.out.mono ?_
    clear HC
    rintro e w1 ⟨rfl, hb⟩
    have hq := HX0.out.size
    have HX1 := Lib.hid (bthen (HX0.out.alloc HX0.out.size (.cells #[.string v.x, .int .i64 v.i, .slice A.a v.ks.length A.c, .int .i64 v.kt, .slice A.b v.us.length A.d, .slice A.g v.hl.length A.f, .int .i64 v.ht, .string v.hk, .int .i64 v.la] 31)) hb (by first | (simp; done) | (simp; omega)))
    clear hq
    have T1 := Lib.hid (Nat.le_trans HA.out.size hb.size)
    obtain ⟨r, _⟩ := keepC hb (g := w.heap.size) (by simp)
    have v0c0 : w1.cell? ⟨w.heap.size, 0, none⟩ = some (.string v.x) := by rw [r 0]; simp [go_sem]
    have v0c1 : w1.cell? ⟨w.heap.size, 1, none⟩ = some (.int .i64 v.i) := by rw [r 1]; simp [go_sem]
    have v0c2 : w1.cell? ⟨w.heap.size, 2, none⟩ = some (.slice A.a v.ks.length A.c) := by rw [r 2]; simp [go_sem]
    have v0c3 : w1.cell? ⟨w.heap.size, 3, none⟩ = some (.int .i64 v.kt) := by rw [r 3]; simp [go_sem]
    have v0c4 : w1.cell? ⟨w.heap.size, 4, none⟩ = some (.slice A.b v.us.length A.d) := by rw [r 4]; simp [go_sem]
    have v0c5 : w1.cell? ⟨w.heap.size, 5, none⟩ = some (.slice A.g v.hl.length A.f) := by rw [r 5]; simp [go_sem]
    have v0c6 : w1.cell? ⟨w.heap.size, 6, none⟩ = some (.int .i64 v.ht) := by rw [r 6]; simp [go_sem]
    have v0c7 : w1.cell? ⟨w.heap.size, 7, none⟩ = some (.string v.hk) := by rw [r 7]; simp [go_sem]
    have v0c8 : w1.cell? ⟨w.heap.size, 8, none⟩ = some (.int .i64 v.la) := by rw [r 8]; simp [go_sem]
    have v0z : w.heap.size < w1.heap.size := by have := hb.size; simp at this; omega
    clear r
    have U0 := Lib.hid v0z
    clear HA
    clear hb 
    have HC := Lib.hid (HT.out _ HX1.out)
    go_wp2_with fail
    refine HC.out.mono ?_
    clear HC
    rintro e w2 ⟨A1, rfl, hx, _, hb⟩
    have HX2 := Lib.hid (bthen HX1.out hb HX1.out.size)
    have T2 := Lib.hid hb.size
    obtain ⟨r, _⟩ := keepC hb (g := w.heap.size) v0z
    have v0c0 := (r 0).trans v0c0
    have v0c1 := (r 1).trans v0c1
    have v0c2 := (r 2).trans v0c2
    have v0c3 := (r 3).trans v0c3
    have v0c4 := (r 4).trans v0c4
    have v0c5 := (r 5).trans v0c5
    have v0c6 := (r 6).trans v0c6
    have v0c7 := (r 7).trans v0c7
    have v0c8 := (r 8).trans v0c8
    have v0z := Nat.lt_of_lt_of_le v0z hb.size
    clear r
    have HX := Lib.hid hx
    clear hb hx
    have HC := Lib.hid (HS.out A1 _ HX.out)
    go_wp2_with fail
    refine HC.out.mono ?_
    clear HC
    rintro e w3 ⟨rfl, hb⟩
    have HX3 := Lib.hid (bthen HX2.out hb HX2.out.size)
    have T3 := Lib.hid hb.size
    obtain ⟨r, _⟩ := keepC hb (g := w.heap.size) v0z
    have v0c0 := (r 0).trans v0c0
    have v0c1 := (r 1).trans v0c1
    have v0c2 := (r 2).trans v0c2
    have v0c3 := (r 3).trans v0c3
    have v0c4 := (r 4).trans v0c4
    have v0c5 := (r 5).trans v0c5
    have v0c6 := (r 6).trans v0c6
    have v0c7 := (r 7).trans v0c7
    have v0c8 := (r 8).trans v0c8
    have v0z := Nat.lt_of_lt_of_le v0z hb.size
    clear r
    clear hb 
    have HC := Lib.hid (HT.out _ HX3.out)
    go_wp2_with fail
    refine HC.out.mono ?_
    clear HC
    rintro e w4 ⟨A2, rfl, hy, _, hb⟩
    have HX4 := Lib.hid (bthen HX3.out hb HX3.out.size)
    have T4 := Lib.hid hb.size
    obtain ⟨r, _⟩ := keepC hb (g := w.heap.size) v0z
    have v0c0 := (r 0).trans v0c0
    have v0c1 := (r 1).trans v0c1
    have v0c2 := (r 2).trans v0c2
    have v0c3 := (r 3).trans v0c3
    have v0c4 := (r 4).trans v0c4
    have v0c5 := (r 5).trans v0c5
    have v0c6 := (r 6).trans v0c6
    have v0c7 := (r 7).trans v0c7
    have v0c8 := (r 8).trans v0c8
    have v0z := Nat.lt_of_lt_of_le v0z hb.size
    clear r
    have HY := Lib.hid hy
    clear hb hy
    have HA := Lib.hid ((Below.refl _ w4).alloc (Nat.le_refl _) (.cells #[.string v.x, .int .i64 v.i, .slice A2.a v.ks.length A2.c, .int .i64 v.kt, .slice A2.b v.us.length A2.d, .slice A2.g v.hl.length A2.f, .int .i64 v.ht, .string v.hk, .int .i64 v.la] 39))
    have HC := Lib.hid (HP.out A2 _ (HY.out.below HA.out))
    go_wp2_with fail
    refine HC.out.mono ?_
    clear HC
    rintro e w5 ⟨rfl, hb⟩
    have hq := HX4.out.size
    have HX5 := Lib.hid (bthen (HX4.out.alloc HX4.out.size (.cells #[.string v.x, .int .i64 v.i, .slice A2.a v.ks.length A2.c, .int .i64 v.kt, .slice A2.b v.us.length A2.d, .slice A2.g v.hl.length A2.f, .int .i64 v.ht, .string v.hk, .int .i64 v.la] 39)) hb (by first | (simp; done) | (simp; omega)))
    clear hq
    have T5 := Lib.hid (Nat.le_trans HA.out.size hb.size)
    obtain ⟨r, _⟩ := keepC hb (g := w.heap.size) (by simp; omega)
    have v0c0 := (r 0).trans ((HA.out.cell (p := ⟨w.heap.size, 0, none⟩) v0z).trans v0c0)
    have v0c1 := (r 1).trans ((HA.out.cell (p := ⟨w.heap.size, 1, none⟩) v0z).trans v0c1)
    have v0c2 := (r 2).trans ((HA.out.cell (p := ⟨w.heap.size, 2, none⟩) v0z).trans v0c2)
    have v0c3 := (r 3).trans ((HA.out.cell (p := ⟨w.heap.size, 3, none⟩) v0z).trans v0c3)
    have v0c4 := (r 4).trans ((HA.out.cell (p := ⟨w.heap.size, 4, none⟩) v0z).trans v0c4)
    have v0c5 := (r 5).trans ((HA.out.cell (p := ⟨w.heap.size, 5, none⟩) v0z).trans v0c5)
    have v0c6 := (r 6).trans ((HA.out.cell (p := ⟨w.heap.size, 6, none⟩) v0z).trans v0c6)
    have v0c7 := (r 7).trans ((HA.out.cell (p := ⟨w.heap.size, 7, none⟩) v0z).trans v0c7)
    have v0c8 := (r 8).trans ((HA.out.cell (p := ⟨w.heap.size, 8, none⟩) v0z).trans v0c8)
    have v0z := Nat.lt_of_lt_of_le v0z (Nat.le_trans HA.out.size hb.size)
    clear r
    obtain ⟨r, _⟩ := keepC hb (g := w4.heap.size) (by simp)
    have v1c0 : w5.cell? ⟨w4.heap.size, 0, none⟩ = some (.string v.x) := by rw [r 0]; simp [go_sem]
    have v1c1 : w5.cell? ⟨w4.heap.size, 1, none⟩ = some (.int .i64 v.i) := by rw [r 1]; simp [go_sem]
    have v1c2 : w5.cell? ⟨w4.heap.size, 2, none⟩ = some (.slice A2.a v.ks.length A2.c) := by rw [r 2]; simp [go_sem]
    have v1c3 : w5.cell? ⟨w4.heap.size, 3, none⟩ = some (.int .i64 v.kt) := by rw [r 3]; simp [go_sem]
    have v1c4 : w5.cell? ⟨w4.heap.size, 4, none⟩ = some (.slice A2.b v.us.length A2.d) := by rw [r 4]; simp [go_sem]
    have v1c5 : w5.cell? ⟨w4.heap.size, 5, none⟩ = some (.slice A2.g v.hl.length A2.f) := by rw [r 5]; simp [go_sem]
    have v1c6 : w5.cell? ⟨w4.heap.size, 6, none⟩ = some (.int .i64 v.ht) := by rw [r 6]; simp [go_sem]
    have v1c7 : w5.cell? ⟨w4.heap.size, 7, none⟩ = some (.string v.hk) := by rw [r 7]; simp [go_sem]
    have v1c8 : w5.cell? ⟨w4.heap.size, 8, none⟩ = some (.int .i64 v.la) := by rw [r 8]; simp [go_sem]
    have v1z : w4.heap.size < w5.heap.size := by have := hb.size; simp at this; omega
    clear r
    have U1 := Lib.hid v1z
    have HY := Lib.hid ((HY.out.below HA.out).below hb)
    clear HA
    clear hb 
    go_wp2
    have HS := Lib.hid (show RP w (fun W => ERow W A2 v) [(w.heap.size, 0, .string v.x), (w.heap.size, 1, .int .i64 v.i), (w.heap.size, 2, .slice A.a v.ks.length A.c), (w.heap.size, 3, .int .i64 v.kt), (w.heap.size, 4, .slice A.b v.us.length A.d), (w.heap.size, 5, .slice A.g v.hl.length A.f), (w.heap.size, 6, .int .i64 v.ht), (w.heap.size, 7, .string v.hk), (w.heap.size, 8, .int .i64 v.la), (w4.heap.size, 0, .string v.x), (w4.heap.size, 1, .int .i64 v.i), (w4.heap.size, 2, .slice A2.a v.ks.length A2.c), (w4.heap.size, 3, .int .i64 v.kt), (w4.heap.size, 4, .slice A2.b v.us.length A2.d), (w4.heap.size, 5, .slice A2.g v.hl.length A2.f), (w4.heap.size, 6, .int .i64 v.ht), (w4.heap.size, 7, .string v.hk), (w4.heap.size, 8, .int .i64 v.la)] w5.drew from RP.below ⟨HX5.out, fun W W' hb h => h.below hb, HY.out, by
      intro v hv
      simp only [List.mem_cons, List.not_mem_nil, or_false] at hv
      rcases hv with rfl | rfl | rfl | rfl | rfl | rfl | rfl | rfl | rfl | rfl | rfl | rfl | rfl | rfl | rfl | rfl | rfl | rfl
      · exact v0c0
      · exact v0c1
      · exact v0c2
      · exact v0c3
      · exact v0c4
      · exact v0c5
      · exact v0c6
      · exact v0c7
      · exact v0c8
      · exact v1c0
      · exact v1c1
      · exact v1c2
      · exact v1c3
      · exact v1c4
      · exact v1c5
      · exact v1c6
      · exact v1c7
      · exact v1c8⟩ (drew_belowW _))
    clear v0c0 v0c1 v0c2 v0c3 v0c4 v0c5 v0c6 v0c7 v0c8 v1c0 v1c1 v1c2 v1c3 v1c4 v1c5 v1c6 v1c7 v1c8 v0z v1z
    have v0c0 := HS.out.vars (w.heap.size, 0, .string v.x) (by simp)
    have v0c1 := HS.out.vars (w.heap.size, 1, .int .i64 v.i) (by simp)
    have v0c2 := HS.out.vars (w.heap.size, 2, .slice A.a v.ks.length A.c) (by simp)
    have v0c3 := HS.out.vars (w.heap.size, 3, .int .i64 v.kt) (by simp)
    have v0c4 := HS.out.vars (w.heap.size, 4, .slice A.b v.us.length A.d) (by simp)
    have v0c5 := HS.out.vars (w.heap.size, 5, .slice A.g v.hl.length A.f) (by simp)
    have v0c6 := HS.out.vars (w.heap.size, 6, .int .i64 v.ht) (by simp)
    have v0c7 := HS.out.vars (w.heap.size, 7, .string v.hk) (by simp)
    have v0c8 := HS.out.vars (w.heap.size, 8, .int .i64 v.la) (by simp)
    have v1c0 := HS.out.vars (w4.heap.size, 0, .string v.x) (by simp)
    have v1c1 := HS.out.vars (w4.heap.size, 1, .int .i64 v.i) (by simp)
    have v1c2 := HS.out.vars (w4.heap.size, 2, .slice A2.a v.ks.length A2.c) (by simp)
    have v1c3 := HS.out.vars (w4.heap.size, 3, .int .i64 v.kt) (by simp)
    have v1c4 := HS.out.vars (w4.heap.size, 4, .slice A2.b v.us.length A2.d) (by simp)
    have v1c5 := HS.out.vars (w4.heap.size, 5, .slice A2.g v.hl.length A2.f) (by simp)
    have v1c6 := HS.out.vars (w4.heap.size, 6, .int .i64 v.ht) (by simp)
    have v1c7 := HS.out.vars (w4.heap.size, 7, .string v.hk) (by simp)
    have v1c8 := HS.out.vars (w4.heap.size, 8, .int .i64 v.la) (by simp)
    go_region_held3 (fun w' => w'.cell? ⟨w.heap.size, 0, none⟩ = some (.string v.x) ∧ w'.cell? ⟨w.heap.size, 1, none⟩ = some (.int .i64 v.i) ∧ w'.cell? ⟨w.heap.size, 2, none⟩ = some (.slice A.a v.ks.length A.c) ∧ w'.cell? ⟨w.heap.size, 3, none⟩ = some (.int .i64 v.kt) ∧ w'.cell? ⟨w.heap.size, 4, none⟩ = some (.slice A.b v.us.length A.d) ∧ w'.cell? ⟨w.heap.size, 5, none⟩ = some (.slice A.g v.hl.length A.f) ∧ w'.cell? ⟨w.heap.size, 6, none⟩ = some (.int .i64 v.ht) ∧ w'.cell? ⟨w.heap.size, 7, none⟩ = some (.string v.hk) ∧ w'.cell? ⟨w.heap.size, 8, none⟩ = some (.int .i64 v.la) ∧ w'.cell? ⟨w4.heap.size, 0, none⟩ = some (.string v.x) ∧ w'.cell? ⟨w4.heap.size, 1, none⟩ = some (.int .i64 v.i) ∧ w'.cell? ⟨w4.heap.size, 2, none⟩ = some (.slice A2.a v.ks.length A2.c) ∧ w'.cell? ⟨w4.heap.size, 3, none⟩ = some (.int .i64 v.kt) ∧ w'.cell? ⟨w4.heap.size, 4, none⟩ = some (.slice A2.b v.us.length A2.d) ∧ w'.cell? ⟨w4.heap.size, 5, none⟩ = some (.slice A2.g v.hl.length A2.f) ∧ w'.cell? ⟨w4.heap.size, 6, none⟩ = some (.int .i64 v.ht) ∧ w'.cell? ⟨w4.heap.size, 7, none⟩ = some (.string v.hk) ∧ w'.cell? ⟨w4.heap.size, 8, none⟩ = some (.int .i64 v.la)) (go_keep)
      (first
        | (go_at_call 7
           refine (HT.out _ HS.out.bel).mono ?_
           rintro e w6 ⟨A3, rfl, hu, _, hb⟩
           have HU := Lib.hid hu
           have HS := Lib.hid (HS.out.below hb)
           clear v0c0 v0c1 v0c2 v0c3 v0c4 v0c5 v0c6 v0c7 v0c8 v1c0 v1c1 v1c2 v1c3 v1c4 v1c5 v1c6 v1c7 v1c8
           have v0c0 := HS.out.vars (w.heap.size, 0, .string v.x) (by simp)
           have v0c1 := HS.out.vars (w.heap.size, 1, .int .i64 v.i) (by simp)
           have v0c2 := HS.out.vars (w.heap.size, 2, .slice A.a v.ks.length A.c) (by simp)
           have v0c3 := HS.out.vars (w.heap.size, 3, .int .i64 v.kt) (by simp)
           have v0c4 := HS.out.vars (w.heap.size, 4, .slice A.b v.us.length A.d) (by simp)
           have v0c5 := HS.out.vars (w.heap.size, 5, .slice A.g v.hl.length A.f) (by simp)
           have v0c6 := HS.out.vars (w.heap.size, 6, .int .i64 v.ht) (by simp)
           have v0c7 := HS.out.vars (w.heap.size, 7, .string v.hk) (by simp)
           have v0c8 := HS.out.vars (w.heap.size, 8, .int .i64 v.la) (by simp)
           have v1c0 := HS.out.vars (w4.heap.size, 0, .string v.x) (by simp)
           have v1c1 := HS.out.vars (w4.heap.size, 1, .int .i64 v.i) (by simp)
           have v1c2 := HS.out.vars (w4.heap.size, 2, .slice A2.a v.ks.length A2.c) (by simp)
           have v1c3 := HS.out.vars (w4.heap.size, 3, .int .i64 v.kt) (by simp)
           have v1c4 := HS.out.vars (w4.heap.size, 4, .slice A2.b v.us.length A2.d) (by simp)
           have v1c5 := HS.out.vars (w4.heap.size, 5, .slice A2.g v.hl.length A2.f) (by simp)
           have v1c6 := HS.out.vars (w4.heap.size, 6, .int .i64 v.ht) (by simp)
           have v1c7 := HS.out.vars (w4.heap.size, 7, .string v.hk) (by simp)
           have v1c8 := HS.out.vars (w4.heap.size, 8, .int .i64 v.la) (by simp)
           clear hb hu)
        | (go_at_call 9
           refine (HE.out A2 A3 _ HS.out.fact HU.out).mono ?_
           rintro e w7 ⟨rfl, hb⟩
           have HS := Lib.hid (HS.out.below hb)
           clear v0c0 v0c1 v0c2 v0c3 v0c4 v0c5 v0c6 v0c7 v0c8 v1c0 v1c1 v1c2 v1c3 v1c4 v1c5 v1c6 v1c7 v1c8
           have v0c0 := HS.out.vars (w.heap.size, 0, .string v.x) (by simp)
           have v0c1 := HS.out.vars (w.heap.size, 1, .int .i64 v.i) (by simp)
           have v0c2 := HS.out.vars (w.heap.size, 2, .slice A.a v.ks.length A.c) (by simp)
           have v0c3 := HS.out.vars (w.heap.size, 3, .int .i64 v.kt) (by simp)
           have v0c4 := HS.out.vars (w.heap.size, 4, .slice A.b v.us.length A.d) (by simp)
           have v0c5 := HS.out.vars (w.heap.size, 5, .slice A.g v.hl.length A.f) (by simp)
           have v0c6 := HS.out.vars (w.heap.size, 6, .int .i64 v.ht) (by simp)
           have v0c7 := HS.out.vars (w.heap.size, 7, .string v.hk) (by simp)
           have v0c8 := HS.out.vars (w.heap.size, 8, .int .i64 v.la) (by simp)
           have v1c0 := HS.out.vars (w4.heap.size, 0, .string v.x) (by simp)
           have v1c1 := HS.out.vars (w4.heap.size, 1, .int .i64 v.i) (by simp)
           have v1c2 := HS.out.vars (w4.heap.size, 2, .slice A2.a v.ks.length A2.c) (by simp)
           have v1c3 := HS.out.vars (w4.heap.size, 3, .int .i64 v.kt) (by simp)
           have v1c4 := HS.out.vars (w4.heap.size, 4, .slice A2.b v.us.length A2.d) (by simp)
           have v1c5 := HS.out.vars (w4.heap.size, 5, .slice A2.g v.hl.length A2.f) (by simp)
           have v1c6 := HS.out.vars (w4.heap.size, 6, .int .i64 v.ht) (by simp)
           have v1c7 := HS.out.vars (w4.heap.size, 7, .string v.hk) (by simp)
           have v1c8 := HS.out.vars (w4.heap.size, 8, .int .i64 v.la) (by simp)
           clear hb ))
    all_goals
      go_wp2
      go_ret
      exact ⟨rfl, HS.out.bel⟩
set_option maxRecDepth 20000 in
set_option maxHeartbeats 6400000 in
theorem walkEN_of (a : Option Addr) (n C : Nat) (l : List ByteArray) (t : Int) (k : ByteArray) (hk : k.size ≤ maxLen) (O : EO) (hO : l.length ≤ 1048576 → O.e.ks.length ≤ 1048576 ∧ O.e.us.length ≤ 1048576 ∧ O.e.hl.length ≤ 1048576) (w : World) (s : IsTS w a n C l)
    (HM : l.length ≤ 1048576 → (∀ s ∈ l, s.size ≤ 1048576) → k.size ≤ 1048576 → ∀ g W, SRow W (some ⟨g, 0, none⟩) l →
      Calls Try.prog 11 #[hV (some ⟨g, 0, none⟩) l.length l.length t k] W fun e w' => ∃ A', e = .returned (oV O A') ∧ ERow w' A' O.e ∧ Below W.heap.size W w')
    (HI : l.length ≤ 1048576 → (∀ s ∈ l, s.size ≤ 1048576) → k.size ≤ 1048576 → ∀ g W, SRow W (some ⟨g, 0, none⟩) l →
      Calls Try.prog 13 #[hV (some ⟨g, 0, none⟩) l.length l.length t k] W fun e w' => ∃ A', e = .returned (oV O A') ∧ ERow w' A' O.e ∧ EBlk W.heap.size w' A' O.e ∧ Below W.heap.size W w') :
    Calls Try.prog 4 #[hV a n C t k] w fun e w' => e = .returned (.bool true) ∧ Below w.heap.size w w' := by
  obtain ⟨hlen, hmax, hnil, hrow, hsz⟩ := s
  subst hlen
  have hal := (Below.refl _ w).alloc (Nat.le_refl _) (.cells #[.slice a l.length C, .int .i64 t, .string k] 29)
  have HZ := Lib.hid (szHist_any a C l t k 1048576 (by omega) (by omega) hmax hsz hk _ (hrow.below hal))
  have HB := Lib.hid hal
  rcases (show szH l k 1048576 = -1 ∨ (0 ≤ szH l k 1048576 ∧ l.length ≤ 1048576 ∧ (∀ s ∈ l, s.size ≤ 1048576) ∧ k.size ≤ 1048576) from by
    rcases szH_bd l k 1048576 with h | ⟨h, _⟩
    · exact .inl h
    · refine .inr ⟨h, ?_⟩
      unfold szH at h
      split at h
      · omega
      · rename_i h6
        split at h
        · omega
        · have b4 := szV_bd l 1048576
          have f5 := szV_fit (l := l) (z := 1048576) (by omega) (by omega)
          exact ⟨f5.1, f5.2, by omega⟩) with hv | ⟨hv, hn, hl, hk2⟩
  · rw [hv] at HZ
    clear hv HI HM hnil hrow hsz hmax hal hk hO
    unfold hV at *
    go_enter Try.func4, Try.ntmps4
    go_wp2_with fail
    refine HZ.out.mono ?_
    rintro e w1 ⟨rfl, hb1⟩
    have HX := Lib.hid (bthen HB.out hb1 (by simp))
    clear hb1
    go_wp2
    go_ret
    exact ⟨rfl, HX.out⟩
  · have HT := Lib.hid (fun w1 (hb : Below w.heap.size w w1) => toHist_any a C l t k hn w1 (hrow.below hb))
    have HS := Lib.hid (fun g W (h : SRow W (some ⟨g, 0, none⟩) l) => HM hn hl hk2 g W h)
    have HP := Lib.hid (fun g W (h : SRow W (some ⟨g, 0, none⟩) l) => HI hn hl hk2 g W h)
    obtain ⟨o1, o2, o3⟩ := hO hn
    have HE := Lib.hid (fun g h W (h1 : SRow W (some ⟨g, 0, none⟩) l) (h2 : SRow W (some ⟨h, 0, none⟩) l) => eqHist_same (some ⟨g, 0, none⟩) (some ⟨h, 0, none⟩) l.length l.length l t k hn W h1 h2)
    have HE2 := Lib.hid (fun A B W (h1 : ERow W A O.e) (h2 : ERow W B O.e) => eqEdOut_same O A B o1 o2 o3 W h1 h2)
    have HLT := Lib.hid (fun (W : World) (A : EA) (h : ERow W A O.e) => h.lt)
    have HLN := Lib.hid (fun (W : World) (a : Option Addr) (h : SRow W a l) => h.lt)
    obtain ⟨Z, hZ⟩ : ∃ Z, Z = szH l k 1048576 := ⟨_, rfl⟩
    rw [← hZ] at HZ hv
    obtain ⟨n, hn'⟩ : ∃ n, n = l.length := ⟨_, rfl⟩
    rw [← hn'] at HZ HT HS HP HE HB HLN hn ⊢
    have HKM := Lib.hid (fun g W B (h : SBlk B W (some ⟨g, 0, none⟩) n) => markHist_any B (some ⟨g, 0, none⟩) n n 1 t k (by omega) (by omega) W h)
    have HK2 := Lib.hid (fun A W B (h : EBlk B W A O.e) => markOut_any B O A 1 (by omega) (by omega) o2 o3 W h)
    have HH := Lib.hid (fun A W (h : EMark 1 W A O.e) => heldOut_any O A 1 (by omega) (by omega) o2 o3 W h)
    obtain ⟨M, hM⟩ : ∃ M, M = 1 + eN O.e := ⟨_, rfl⟩
    rw [← hM] at HK2 HH
    have hp1 : ¬ ((1 + n : Nat) : Int) < 0 := by omega
    have hp2 : ¬ (M : Int) < 0 := by omega
    clear hnil hrow hsz hmax HI HM hZ hn' hl hal hk hk2 hO o1 o2 o3 hM
    unfold hV oV at *
    go_enter Try.func4, Try.ntmps4
    have HX0 := Lib.hid (Below.refl w.heap.size w)
    have HA := Lib.hid ((Below.refl _ w).alloc (Nat.le_refl _) (.cells #[.slice a n C, .int .i64 t, .string k] 29))
    have HC := Lib.hid (HZ.out)
    go_wp2_with fail
    refine HC.out.mono ?_
    clear HC
    rintro e w1 ⟨rfl, hb⟩
    have hq := HX0.out.size
    have HX1 := Lib.hid (bthen (HX0.out.alloc HX0.out.size (.cells #[.slice a n C, .int .i64 t, .string k] 29)) hb (by first | (simp; done) | (simp; omega)))
    clear hq
    have T1 := Lib.hid (Nat.le_trans HA.out.size hb.size)
    obtain ⟨r, _⟩ := keepC hb (g := w.heap.size) (by simp)
    have v0c0 : w1.cell? ⟨w.heap.size, 0, none⟩ = some (.slice a n C) := by rw [r 0]; simp [go_sem]
    have v0c1 : w1.cell? ⟨w.heap.size, 1, none⟩ = some (.int .i64 t) := by rw [r 1]; simp [go_sem]
    have v0c2 : w1.cell? ⟨w.heap.size, 2, none⟩ = some (.string k) := by rw [r 2]; simp [go_sem]
    have v0z : w.heap.size < w1.heap.size := by have := hb.size; simp at this; omega
    clear r
    have U0 := Lib.hid v0z
    clear HA
    clear hb 
    have HC := Lib.hid (HT.out _ HX1.out)
    go_wp2_with fail
    refine HC.out.mono ?_
    clear HC
    rintro e w2 ⟨g1, rfl, hx, _, hb⟩
    have HX2 := Lib.hid (bthen HX1.out hb HX1.out.size)
    have T2 := Lib.hid hb.size
    obtain ⟨r, _⟩ := keepC hb (g := w.heap.size) v0z
    have v0c0 := (r 0).trans v0c0
    have v0c1 := (r 1).trans v0c1
    have v0c2 := (r 2).trans v0c2
    have v0z := Nat.lt_of_lt_of_le v0z hb.size
    clear r
    have HX := Lib.hid hx
    clear hb hx
    have HC := Lib.hid (HS.out g1 _ HX.out)
    go_wp2_with fail
    refine HC.out.mono ?_
    clear HC
    rintro e w3 ⟨A0, rfl, hw, hb⟩
    have HX3 := Lib.hid (bthen HX2.out hb HX2.out.size)
    have T3 := Lib.hid hb.size
    obtain ⟨r, _⟩ := keepC hb (g := w.heap.size) v0z
    have v0c0 := (r 0).trans v0c0
    have v0c1 := (r 1).trans v0c1
    have v0c2 := (r 2).trans v0c2
    have v0z := Nat.lt_of_lt_of_le v0z hb.size
    clear r
    have HW := Lib.hid hw
    clear hb hw
    have HWL := Lib.hid (HLT.out _ _ HW.out)
    clear HX
    have HA := Lib.hid ((Below.refl _ w3).alloc (Nat.le_refl _) (.cells #[.string O.e.x, .int .i64 O.e.i, .slice A0.a O.e.ks.length A0.c, .int .i64 O.e.kt, .slice A0.b O.e.us.length A0.d, .slice A0.g O.e.hl.length A0.f, .int .i64 O.e.ht, .string O.e.hk, .int .i64 O.e.la, .bool O.bell, .bool O.dn, .string O.tx, .int .i64 O.co] 45))
    have HC := Lib.hid (HT.out _ (HX3.out.alloc HX3.out.size (.cells #[.string O.e.x, .int .i64 O.e.i, .slice A0.a O.e.ks.length A0.c, .int .i64 O.e.kt, .slice A0.b O.e.us.length A0.d, .slice A0.g O.e.hl.length A0.f, .int .i64 O.e.ht, .string O.e.hk, .int .i64 O.e.la, .bool O.bell, .bool O.dn, .string O.tx, .int .i64 O.co] 45)))
    go_wp2_with fail
    refine HC.out.mono ?_
    clear HC
    rintro e w4 ⟨g2, rfl, hy, hyb, hb⟩
    have hq := HX3.out.size
    have HX4 := Lib.hid (bthen (HX3.out.alloc HX3.out.size (.cells #[.string O.e.x, .int .i64 O.e.i, .slice A0.a O.e.ks.length A0.c, .int .i64 O.e.kt, .slice A0.b O.e.us.length A0.d, .slice A0.g O.e.hl.length A0.f, .int .i64 O.e.ht, .string O.e.hk, .int .i64 O.e.la, .bool O.bell, .bool O.dn, .string O.tx, .int .i64 O.co] 45)) hb (by first | (simp; done) | (simp; omega)))
    clear hq
    have T4 := Lib.hid (Nat.le_trans HA.out.size hb.size)
    obtain ⟨r, _⟩ := keepC hb (g := w.heap.size) (by simp; omega)
    have v0c0 := (r 0).trans ((HA.out.cell (p := ⟨w.heap.size, 0, none⟩) v0z).trans v0c0)
    have v0c1 := (r 1).trans ((HA.out.cell (p := ⟨w.heap.size, 1, none⟩) v0z).trans v0c1)
    have v0c2 := (r 2).trans ((HA.out.cell (p := ⟨w.heap.size, 2, none⟩) v0z).trans v0c2)
    have v0z := Nat.lt_of_lt_of_le v0z (Nat.le_trans HA.out.size hb.size)
    clear r
    obtain ⟨r, _⟩ := keepC hb (g := w3.heap.size) (by simp)
    have v1c0 : w4.cell? ⟨w3.heap.size, 0, none⟩ = some (.string O.e.x) := by rw [r 0]; simp [go_sem]
    have v1c1 : w4.cell? ⟨w3.heap.size, 1, none⟩ = some (.int .i64 O.e.i) := by rw [r 1]; simp [go_sem]
    have v1c2 : w4.cell? ⟨w3.heap.size, 2, none⟩ = some (.slice A0.a O.e.ks.length A0.c) := by rw [r 2]; simp [go_sem]
    have v1c3 : w4.cell? ⟨w3.heap.size, 3, none⟩ = some (.int .i64 O.e.kt) := by rw [r 3]; simp [go_sem]
    have v1c4 : w4.cell? ⟨w3.heap.size, 4, none⟩ = some (.slice A0.b O.e.us.length A0.d) := by rw [r 4]; simp [go_sem]
    have v1c5 : w4.cell? ⟨w3.heap.size, 5, none⟩ = some (.slice A0.g O.e.hl.length A0.f) := by rw [r 5]; simp [go_sem]
    have v1c6 : w4.cell? ⟨w3.heap.size, 6, none⟩ = some (.int .i64 O.e.ht) := by rw [r 6]; simp [go_sem]
    have v1c7 : w4.cell? ⟨w3.heap.size, 7, none⟩ = some (.string O.e.hk) := by rw [r 7]; simp [go_sem]
    have v1c8 : w4.cell? ⟨w3.heap.size, 8, none⟩ = some (.int .i64 O.e.la) := by rw [r 8]; simp [go_sem]
    have v1c9 : w4.cell? ⟨w3.heap.size, 9, none⟩ = some (.bool O.bell) := by rw [r 9]; simp [go_sem]
    have v1c10 : w4.cell? ⟨w3.heap.size, 10, none⟩ = some (.bool O.dn) := by rw [r 10]; simp [go_sem]
    have v1c11 : w4.cell? ⟨w3.heap.size, 11, none⟩ = some (.string O.tx) := by rw [r 11]; simp [go_sem]
    have v1c12 : w4.cell? ⟨w3.heap.size, 12, none⟩ = some (.int .i64 O.co) := by rw [r 12]; simp [go_sem]
    have v1z : w3.heap.size < w4.heap.size := by have := hb.size; simp at this; omega
    clear r
    have U1 := Lib.hid v1z
    have HW := Lib.hid ((HW.out.below HA.out).below hb)
    clear HA
    have HY := Lib.hid hy
    have HYB := Lib.hid hyb
    clear hb hy hyb
    have HYB := Lib.hid (HYB.out.lo (b' := w3.heap.size + 1) (by simp))
    have HYL := Lib.hid (HLN.out _ _ HY.out)
    have HA := Lib.hid ((Below.refl _ w4).alloc (Nat.le_refl _) (.cells #[.slice (some ⟨g2, 0, none⟩) n n, .int .i64 t, .string k] 37))
    have HC := Lib.hid (HP.out g2 _ (HY.out.below HA.out))
    go_wp2_with fail
    refine HC.out.mono ?_
    clear HC
    rintro e w5 ⟨A5, rfl, hg, hgb, hb⟩
    have hq := HX4.out.size
    have HX5 := Lib.hid (bthen (HX4.out.alloc HX4.out.size (.cells #[.slice (some ⟨g2, 0, none⟩) n n, .int .i64 t, .string k] 37)) hb (by first | (simp; done) | (simp; omega)))
    clear hq
    have T5 := Lib.hid (Nat.le_trans HA.out.size hb.size)
    obtain ⟨r, _⟩ := keepC hb (g := w.heap.size) (by simp; omega)
    have v0c0 := (r 0).trans ((HA.out.cell (p := ⟨w.heap.size, 0, none⟩) v0z).trans v0c0)
    have v0c1 := (r 1).trans ((HA.out.cell (p := ⟨w.heap.size, 1, none⟩) v0z).trans v0c1)
    have v0c2 := (r 2).trans ((HA.out.cell (p := ⟨w.heap.size, 2, none⟩) v0z).trans v0c2)
    have v0z := Nat.lt_of_lt_of_le v0z (Nat.le_trans HA.out.size hb.size)
    clear r
    obtain ⟨r, _⟩ := keepC hb (g := w3.heap.size) (by simp; omega)
    have v1c0 := (r 0).trans ((HA.out.cell (p := ⟨w3.heap.size, 0, none⟩) v1z).trans v1c0)
    have v1c1 := (r 1).trans ((HA.out.cell (p := ⟨w3.heap.size, 1, none⟩) v1z).trans v1c1)
    have v1c2 := (r 2).trans ((HA.out.cell (p := ⟨w3.heap.size, 2, none⟩) v1z).trans v1c2)
    have v1c3 := (r 3).trans ((HA.out.cell (p := ⟨w3.heap.size, 3, none⟩) v1z).trans v1c3)
    have v1c4 := (r 4).trans ((HA.out.cell (p := ⟨w3.heap.size, 4, none⟩) v1z).trans v1c4)
    have v1c5 := (r 5).trans ((HA.out.cell (p := ⟨w3.heap.size, 5, none⟩) v1z).trans v1c5)
    have v1c6 := (r 6).trans ((HA.out.cell (p := ⟨w3.heap.size, 6, none⟩) v1z).trans v1c6)
    have v1c7 := (r 7).trans ((HA.out.cell (p := ⟨w3.heap.size, 7, none⟩) v1z).trans v1c7)
    have v1c8 := (r 8).trans ((HA.out.cell (p := ⟨w3.heap.size, 8, none⟩) v1z).trans v1c8)
    have v1c9 := (r 9).trans ((HA.out.cell (p := ⟨w3.heap.size, 9, none⟩) v1z).trans v1c9)
    have v1c10 := (r 10).trans ((HA.out.cell (p := ⟨w3.heap.size, 10, none⟩) v1z).trans v1c10)
    have v1c11 := (r 11).trans ((HA.out.cell (p := ⟨w3.heap.size, 11, none⟩) v1z).trans v1c11)
    have v1c12 := (r 12).trans ((HA.out.cell (p := ⟨w3.heap.size, 12, none⟩) v1z).trans v1c12)
    have v1z := Nat.lt_of_lt_of_le v1z (Nat.le_trans HA.out.size hb.size)
    clear r
    obtain ⟨r, _⟩ := keepC hb (g := w4.heap.size) (by simp)
    have v2c0 : w5.cell? ⟨w4.heap.size, 0, none⟩ = some (.slice (some ⟨g2, 0, none⟩) n n) := by rw [r 0]; simp [go_sem]
    have v2c1 : w5.cell? ⟨w4.heap.size, 1, none⟩ = some (.int .i64 t) := by rw [r 1]; simp [go_sem]
    have v2c2 : w5.cell? ⟨w4.heap.size, 2, none⟩ = some (.string k) := by rw [r 2]; simp [go_sem]
    have v2z : w4.heap.size < w5.heap.size := by have := hb.size; simp at this; omega
    clear r
    have U2 := Lib.hid v2z
    have HW := Lib.hid ((HW.out.below HA.out).below hb)
    have HY := Lib.hid ((HY.out.below HA.out).below hb)
    have HYB := Lib.hid ((HYB.out.below HA.out).below hb)
    clear HA
    have HG := Lib.hid hg
    have HGB := Lib.hid hgb
    clear hb hg hgb
    have HGB := Lib.hid (HGB.out.lo (B' := w4.heap.size + 1) (by simp))
    have HGL := Lib.hid (HLT.out _ _ HG.out)
    have HA := Lib.hid ((Below.refl _ w5).alloc (Nat.le_refl _) (.cells #[.string O.e.x, .int .i64 O.e.i, .slice A5.a O.e.ks.length A5.c, .int .i64 O.e.kt, .slice A5.b O.e.us.length A5.d, .slice A5.g O.e.hl.length A5.f, .int .i64 O.e.ht, .string O.e.hk, .int .i64 O.e.la, .bool O.bell, .bool O.dn, .string O.tx, .int .i64 O.co] 45))
    have HC := Lib.hid (HE2.out A5 A0 _ (HG.out.below HA.out) (HW.out.below HA.out))
    go_wp2_with fail
    refine HC.out.mono ?_
    clear HC
    rintro e w6 ⟨rfl, hb⟩
    have hq := HX5.out.size
    have HX6 := Lib.hid (bthen (HX5.out.alloc HX5.out.size (.cells #[.string O.e.x, .int .i64 O.e.i, .slice A5.a O.e.ks.length A5.c, .int .i64 O.e.kt, .slice A5.b O.e.us.length A5.d, .slice A5.g O.e.hl.length A5.f, .int .i64 O.e.ht, .string O.e.hk, .int .i64 O.e.la, .bool O.bell, .bool O.dn, .string O.tx, .int .i64 O.co] 45)) hb (by first | (simp; done) | (simp; omega)))
    clear hq
    have T6 := Lib.hid (Nat.le_trans HA.out.size hb.size)
    obtain ⟨r, _⟩ := keepC hb (g := w.heap.size) (by simp; omega)
    have v0c0 := (r 0).trans ((HA.out.cell (p := ⟨w.heap.size, 0, none⟩) v0z).trans v0c0)
    have v0c1 := (r 1).trans ((HA.out.cell (p := ⟨w.heap.size, 1, none⟩) v0z).trans v0c1)
    have v0c2 := (r 2).trans ((HA.out.cell (p := ⟨w.heap.size, 2, none⟩) v0z).trans v0c2)
    have v0z := Nat.lt_of_lt_of_le v0z (Nat.le_trans HA.out.size hb.size)
    clear r
    obtain ⟨r, _⟩ := keepC hb (g := w3.heap.size) (by simp; omega)
    have v1c0 := (r 0).trans ((HA.out.cell (p := ⟨w3.heap.size, 0, none⟩) v1z).trans v1c0)
    have v1c1 := (r 1).trans ((HA.out.cell (p := ⟨w3.heap.size, 1, none⟩) v1z).trans v1c1)
    have v1c2 := (r 2).trans ((HA.out.cell (p := ⟨w3.heap.size, 2, none⟩) v1z).trans v1c2)
    have v1c3 := (r 3).trans ((HA.out.cell (p := ⟨w3.heap.size, 3, none⟩) v1z).trans v1c3)
    have v1c4 := (r 4).trans ((HA.out.cell (p := ⟨w3.heap.size, 4, none⟩) v1z).trans v1c4)
    have v1c5 := (r 5).trans ((HA.out.cell (p := ⟨w3.heap.size, 5, none⟩) v1z).trans v1c5)
    have v1c6 := (r 6).trans ((HA.out.cell (p := ⟨w3.heap.size, 6, none⟩) v1z).trans v1c6)
    have v1c7 := (r 7).trans ((HA.out.cell (p := ⟨w3.heap.size, 7, none⟩) v1z).trans v1c7)
    have v1c8 := (r 8).trans ((HA.out.cell (p := ⟨w3.heap.size, 8, none⟩) v1z).trans v1c8)
    have v1c9 := (r 9).trans ((HA.out.cell (p := ⟨w3.heap.size, 9, none⟩) v1z).trans v1c9)
    have v1c10 := (r 10).trans ((HA.out.cell (p := ⟨w3.heap.size, 10, none⟩) v1z).trans v1c10)
    have v1c11 := (r 11).trans ((HA.out.cell (p := ⟨w3.heap.size, 11, none⟩) v1z).trans v1c11)
    have v1c12 := (r 12).trans ((HA.out.cell (p := ⟨w3.heap.size, 12, none⟩) v1z).trans v1c12)
    have v1z := Nat.lt_of_lt_of_le v1z (Nat.le_trans HA.out.size hb.size)
    clear r
    obtain ⟨r, _⟩ := keepC hb (g := w4.heap.size) (by simp; omega)
    have v2c0 := (r 0).trans ((HA.out.cell (p := ⟨w4.heap.size, 0, none⟩) v2z).trans v2c0)
    have v2c1 := (r 1).trans ((HA.out.cell (p := ⟨w4.heap.size, 1, none⟩) v2z).trans v2c1)
    have v2c2 := (r 2).trans ((HA.out.cell (p := ⟨w4.heap.size, 2, none⟩) v2z).trans v2c2)
    have v2z := Nat.lt_of_lt_of_le v2z (Nat.le_trans HA.out.size hb.size)
    clear r
    obtain ⟨r, _⟩ := keepC hb (g := w5.heap.size) (by simp)
    have v3c0 : w6.cell? ⟨w5.heap.size, 0, none⟩ = some (.string O.e.x) := by rw [r 0]; simp [go_sem]
    have v3c1 : w6.cell? ⟨w5.heap.size, 1, none⟩ = some (.int .i64 O.e.i) := by rw [r 1]; simp [go_sem]
    have v3c2 : w6.cell? ⟨w5.heap.size, 2, none⟩ = some (.slice A5.a O.e.ks.length A5.c) := by rw [r 2]; simp [go_sem]
    have v3c3 : w6.cell? ⟨w5.heap.size, 3, none⟩ = some (.int .i64 O.e.kt) := by rw [r 3]; simp [go_sem]
    have v3c4 : w6.cell? ⟨w5.heap.size, 4, none⟩ = some (.slice A5.b O.e.us.length A5.d) := by rw [r 4]; simp [go_sem]
    have v3c5 : w6.cell? ⟨w5.heap.size, 5, none⟩ = some (.slice A5.g O.e.hl.length A5.f) := by rw [r 5]; simp [go_sem]
    have v3c6 : w6.cell? ⟨w5.heap.size, 6, none⟩ = some (.int .i64 O.e.ht) := by rw [r 6]; simp [go_sem]
    have v3c7 : w6.cell? ⟨w5.heap.size, 7, none⟩ = some (.string O.e.hk) := by rw [r 7]; simp [go_sem]
    have v3c8 : w6.cell? ⟨w5.heap.size, 8, none⟩ = some (.int .i64 O.e.la) := by rw [r 8]; simp [go_sem]
    have v3c9 : w6.cell? ⟨w5.heap.size, 9, none⟩ = some (.bool O.bell) := by rw [r 9]; simp [go_sem]
    have v3c10 : w6.cell? ⟨w5.heap.size, 10, none⟩ = some (.bool O.dn) := by rw [r 10]; simp [go_sem]
    have v3c11 : w6.cell? ⟨w5.heap.size, 11, none⟩ = some (.string O.tx) := by rw [r 11]; simp [go_sem]
    have v3c12 : w6.cell? ⟨w5.heap.size, 12, none⟩ = some (.int .i64 O.co) := by rw [r 12]; simp [go_sem]
    have v3z : w5.heap.size < w6.heap.size := by have := hb.size; simp at this; omega
    clear r
    have U3 := Lib.hid v3z
    have HW := Lib.hid ((HW.out.below HA.out).below hb)
    have HY := Lib.hid ((HY.out.below HA.out).below hb)
    have HYB := Lib.hid ((HYB.out.below HA.out).below hb)
    have HG := Lib.hid ((HG.out.below HA.out).below hb)
    have HGB := Lib.hid ((HGB.out.below HA.out).below hb)
    clear HA
    clear hb 
    go_wp2
    have HS := Lib.hid (show RP w (fun W => ERow W A0 O.e ∧ SRow W (some ⟨g2, 0, none⟩) l ∧ SBlk (w3.heap.size + 1) W (some ⟨g2, 0, none⟩) n ∧ ERow W A5 O.e ∧ EBlk (w4.heap.size + 1) W A5 O.e) [(w.heap.size, 0, .slice a n C), (w.heap.size, 1, .int .i64 t), (w.heap.size, 2, .string k), (w3.heap.size, 0, .string O.e.x), (w3.heap.size, 1, .int .i64 O.e.i), (w3.heap.size, 2, .slice A0.a O.e.ks.length A0.c), (w3.heap.size, 3, .int .i64 O.e.kt), (w3.heap.size, 4, .slice A0.b O.e.us.length A0.d), (w3.heap.size, 5, .slice A0.g O.e.hl.length A0.f), (w3.heap.size, 6, .int .i64 O.e.ht), (w3.heap.size, 7, .string O.e.hk), (w3.heap.size, 8, .int .i64 O.e.la), (w3.heap.size, 9, .bool O.bell), (w3.heap.size, 10, .bool O.dn), (w3.heap.size, 11, .string O.tx), (w3.heap.size, 12, .int .i64 O.co), (w4.heap.size, 0, .slice (some ⟨g2, 0, none⟩) n n), (w4.heap.size, 1, .int .i64 t), (w4.heap.size, 2, .string k), (w5.heap.size, 0, .string O.e.x), (w5.heap.size, 1, .int .i64 O.e.i), (w5.heap.size, 2, .slice A5.a O.e.ks.length A5.c), (w5.heap.size, 3, .int .i64 O.e.kt), (w5.heap.size, 4, .slice A5.b O.e.us.length A5.d), (w5.heap.size, 5, .slice A5.g O.e.hl.length A5.f), (w5.heap.size, 6, .int .i64 O.e.ht), (w5.heap.size, 7, .string O.e.hk), (w5.heap.size, 8, .int .i64 O.e.la), (w5.heap.size, 9, .bool O.bell), (w5.heap.size, 10, .bool O.dn), (w5.heap.size, 11, .string O.tx), (w5.heap.size, 12, .int .i64 O.co)] w6.drew from RP.below ⟨HX6.out, fun W W' hb h => ⟨h.1.below hb, h.2.1.below hb, h.2.2.1.below hb, h.2.2.2.1.below hb, h.2.2.2.2.below hb⟩, ⟨HW.out, HY.out, HYB.out, HG.out, HGB.out⟩, by
      intro v hv
      simp only [List.mem_cons, List.not_mem_nil, or_false] at hv
      rcases hv with rfl | rfl | rfl | rfl | rfl | rfl | rfl | rfl | rfl | rfl | rfl | rfl | rfl | rfl | rfl | rfl | rfl | rfl | rfl | rfl | rfl | rfl | rfl | rfl | rfl | rfl | rfl | rfl | rfl | rfl | rfl | rfl
      · exact v0c0
      · exact v0c1
      · exact v0c2
      · exact v1c0
      · exact v1c1
      · exact v1c2
      · exact v1c3
      · exact v1c4
      · exact v1c5
      · exact v1c6
      · exact v1c7
      · exact v1c8
      · exact v1c9
      · exact v1c10
      · exact v1c11
      · exact v1c12
      · exact v2c0
      · exact v2c1
      · exact v2c2
      · exact v3c0
      · exact v3c1
      · exact v3c2
      · exact v3c3
      · exact v3c4
      · exact v3c5
      · exact v3c6
      · exact v3c7
      · exact v3c8
      · exact v3c9
      · exact v3c10
      · exact v3c11
      · exact v3c12⟩ (drew_belowW _))
    clear v0c0 v0c1 v0c2 v1c0 v1c1 v1c2 v1c3 v1c4 v1c5 v1c6 v1c7 v1c8 v1c9 v1c10 v1c11 v1c12 v2c0 v2c1 v2c2 v3c0 v3c1 v3c2 v3c3 v3c4 v3c5 v3c6 v3c7 v3c8 v3c9 v3c10 v3c11 v3c12 v0z v1z v2z v3z
    have v0c0 := HS.out.vars (w.heap.size, 0, .slice a n C) (by simp)
    have v0c1 := HS.out.vars (w.heap.size, 1, .int .i64 t) (by simp)
    have v0c2 := HS.out.vars (w.heap.size, 2, .string k) (by simp)
    have v1c0 := HS.out.vars (w3.heap.size, 0, .string O.e.x) (by simp)
    have v1c1 := HS.out.vars (w3.heap.size, 1, .int .i64 O.e.i) (by simp)
    have v1c2 := HS.out.vars (w3.heap.size, 2, .slice A0.a O.e.ks.length A0.c) (by simp)
    have v1c3 := HS.out.vars (w3.heap.size, 3, .int .i64 O.e.kt) (by simp)
    have v1c4 := HS.out.vars (w3.heap.size, 4, .slice A0.b O.e.us.length A0.d) (by simp)
    have v1c5 := HS.out.vars (w3.heap.size, 5, .slice A0.g O.e.hl.length A0.f) (by simp)
    have v1c6 := HS.out.vars (w3.heap.size, 6, .int .i64 O.e.ht) (by simp)
    have v1c7 := HS.out.vars (w3.heap.size, 7, .string O.e.hk) (by simp)
    have v1c8 := HS.out.vars (w3.heap.size, 8, .int .i64 O.e.la) (by simp)
    have v1c9 := HS.out.vars (w3.heap.size, 9, .bool O.bell) (by simp)
    have v1c10 := HS.out.vars (w3.heap.size, 10, .bool O.dn) (by simp)
    have v1c11 := HS.out.vars (w3.heap.size, 11, .string O.tx) (by simp)
    have v1c12 := HS.out.vars (w3.heap.size, 12, .int .i64 O.co) (by simp)
    have v2c0 := HS.out.vars (w4.heap.size, 0, .slice (some ⟨g2, 0, none⟩) n n) (by simp)
    have v2c1 := HS.out.vars (w4.heap.size, 1, .int .i64 t) (by simp)
    have v2c2 := HS.out.vars (w4.heap.size, 2, .string k) (by simp)
    have v3c0 := HS.out.vars (w5.heap.size, 0, .string O.e.x) (by simp)
    have v3c1 := HS.out.vars (w5.heap.size, 1, .int .i64 O.e.i) (by simp)
    have v3c2 := HS.out.vars (w5.heap.size, 2, .slice A5.a O.e.ks.length A5.c) (by simp)
    have v3c3 := HS.out.vars (w5.heap.size, 3, .int .i64 O.e.kt) (by simp)
    have v3c4 := HS.out.vars (w5.heap.size, 4, .slice A5.b O.e.us.length A5.d) (by simp)
    have v3c5 := HS.out.vars (w5.heap.size, 5, .slice A5.g O.e.hl.length A5.f) (by simp)
    have v3c6 := HS.out.vars (w5.heap.size, 6, .int .i64 O.e.ht) (by simp)
    have v3c7 := HS.out.vars (w5.heap.size, 7, .string O.e.hk) (by simp)
    have v3c8 := HS.out.vars (w5.heap.size, 8, .int .i64 O.e.la) (by simp)
    have v3c9 := HS.out.vars (w5.heap.size, 9, .bool O.bell) (by simp)
    have v3c10 := HS.out.vars (w5.heap.size, 10, .bool O.dn) (by simp)
    have v3c11 := HS.out.vars (w5.heap.size, 11, .string O.tx) (by simp)
    have v3c12 := HS.out.vars (w5.heap.size, 12, .int .i64 O.co) (by simp)
    go_region_held3 (fun w' => w'.cell? ⟨w.heap.size, 0, none⟩ = some (.slice a n C) ∧ w'.cell? ⟨w.heap.size, 1, none⟩ = some (.int .i64 t) ∧ w'.cell? ⟨w.heap.size, 2, none⟩ = some (.string k) ∧ w'.cell? ⟨w3.heap.size, 0, none⟩ = some (.string O.e.x) ∧ w'.cell? ⟨w3.heap.size, 1, none⟩ = some (.int .i64 O.e.i) ∧ w'.cell? ⟨w3.heap.size, 2, none⟩ = some (.slice A0.a O.e.ks.length A0.c) ∧ w'.cell? ⟨w3.heap.size, 3, none⟩ = some (.int .i64 O.e.kt) ∧ w'.cell? ⟨w3.heap.size, 4, none⟩ = some (.slice A0.b O.e.us.length A0.d) ∧ w'.cell? ⟨w3.heap.size, 5, none⟩ = some (.slice A0.g O.e.hl.length A0.f) ∧ w'.cell? ⟨w3.heap.size, 6, none⟩ = some (.int .i64 O.e.ht) ∧ w'.cell? ⟨w3.heap.size, 7, none⟩ = some (.string O.e.hk) ∧ w'.cell? ⟨w3.heap.size, 8, none⟩ = some (.int .i64 O.e.la) ∧ w'.cell? ⟨w3.heap.size, 9, none⟩ = some (.bool O.bell) ∧ w'.cell? ⟨w3.heap.size, 10, none⟩ = some (.bool O.dn) ∧ w'.cell? ⟨w3.heap.size, 11, none⟩ = some (.string O.tx) ∧ w'.cell? ⟨w3.heap.size, 12, none⟩ = some (.int .i64 O.co) ∧ w'.cell? ⟨w4.heap.size, 0, none⟩ = some (.slice (some ⟨g2, 0, none⟩) n n) ∧ w'.cell? ⟨w4.heap.size, 1, none⟩ = some (.int .i64 t) ∧ w'.cell? ⟨w4.heap.size, 2, none⟩ = some (.string k) ∧ w'.cell? ⟨w5.heap.size, 0, none⟩ = some (.string O.e.x) ∧ w'.cell? ⟨w5.heap.size, 1, none⟩ = some (.int .i64 O.e.i) ∧ w'.cell? ⟨w5.heap.size, 2, none⟩ = some (.slice A5.a O.e.ks.length A5.c) ∧ w'.cell? ⟨w5.heap.size, 3, none⟩ = some (.int .i64 O.e.kt) ∧ w'.cell? ⟨w5.heap.size, 4, none⟩ = some (.slice A5.b O.e.us.length A5.d) ∧ w'.cell? ⟨w5.heap.size, 5, none⟩ = some (.slice A5.g O.e.hl.length A5.f) ∧ w'.cell? ⟨w5.heap.size, 6, none⟩ = some (.int .i64 O.e.ht) ∧ w'.cell? ⟨w5.heap.size, 7, none⟩ = some (.string O.e.hk) ∧ w'.cell? ⟨w5.heap.size, 8, none⟩ = some (.int .i64 O.e.la) ∧ w'.cell? ⟨w5.heap.size, 9, none⟩ = some (.bool O.bell) ∧ w'.cell? ⟨w5.heap.size, 10, none⟩ = some (.bool O.dn) ∧ w'.cell? ⟨w5.heap.size, 11, none⟩ = some (.string O.tx) ∧ w'.cell? ⟨w5.heap.size, 12, none⟩ = some (.int .i64 O.co)) (go_keep)
      (first
        | (go_at_call 12
           refine (HT.out _ HS.out.bel).mono ?_
           rintro e w7 ⟨gu, rfl, hu, _, hb⟩
           have HU := Lib.hid hu
           have HS := Lib.hid (HS.out.below hb)
           clear v0c0 v0c1 v0c2 v1c0 v1c1 v1c2 v1c3 v1c4 v1c5 v1c6 v1c7 v1c8 v1c9 v1c10 v1c11 v1c12 v2c0 v2c1 v2c2 v3c0 v3c1 v3c2 v3c3 v3c4 v3c5 v3c6 v3c7 v3c8 v3c9 v3c10 v3c11 v3c12
           have v0c0 := HS.out.vars (w.heap.size, 0, .slice a n C) (by simp)
           have v0c1 := HS.out.vars (w.heap.size, 1, .int .i64 t) (by simp)
           have v0c2 := HS.out.vars (w.heap.size, 2, .string k) (by simp)
           have v1c0 := HS.out.vars (w3.heap.size, 0, .string O.e.x) (by simp)
           have v1c1 := HS.out.vars (w3.heap.size, 1, .int .i64 O.e.i) (by simp)
           have v1c2 := HS.out.vars (w3.heap.size, 2, .slice A0.a O.e.ks.length A0.c) (by simp)
           have v1c3 := HS.out.vars (w3.heap.size, 3, .int .i64 O.e.kt) (by simp)
           have v1c4 := HS.out.vars (w3.heap.size, 4, .slice A0.b O.e.us.length A0.d) (by simp)
           have v1c5 := HS.out.vars (w3.heap.size, 5, .slice A0.g O.e.hl.length A0.f) (by simp)
           have v1c6 := HS.out.vars (w3.heap.size, 6, .int .i64 O.e.ht) (by simp)
           have v1c7 := HS.out.vars (w3.heap.size, 7, .string O.e.hk) (by simp)
           have v1c8 := HS.out.vars (w3.heap.size, 8, .int .i64 O.e.la) (by simp)
           have v1c9 := HS.out.vars (w3.heap.size, 9, .bool O.bell) (by simp)
           have v1c10 := HS.out.vars (w3.heap.size, 10, .bool O.dn) (by simp)
           have v1c11 := HS.out.vars (w3.heap.size, 11, .string O.tx) (by simp)
           have v1c12 := HS.out.vars (w3.heap.size, 12, .int .i64 O.co) (by simp)
           have v2c0 := HS.out.vars (w4.heap.size, 0, .slice (some ⟨g2, 0, none⟩) n n) (by simp)
           have v2c1 := HS.out.vars (w4.heap.size, 1, .int .i64 t) (by simp)
           have v2c2 := HS.out.vars (w4.heap.size, 2, .string k) (by simp)
           have v3c0 := HS.out.vars (w5.heap.size, 0, .string O.e.x) (by simp)
           have v3c1 := HS.out.vars (w5.heap.size, 1, .int .i64 O.e.i) (by simp)
           have v3c2 := HS.out.vars (w5.heap.size, 2, .slice A5.a O.e.ks.length A5.c) (by simp)
           have v3c3 := HS.out.vars (w5.heap.size, 3, .int .i64 O.e.kt) (by simp)
           have v3c4 := HS.out.vars (w5.heap.size, 4, .slice A5.b O.e.us.length A5.d) (by simp)
           have v3c5 := HS.out.vars (w5.heap.size, 5, .slice A5.g O.e.hl.length A5.f) (by simp)
           have v3c6 := HS.out.vars (w5.heap.size, 6, .int .i64 O.e.ht) (by simp)
           have v3c7 := HS.out.vars (w5.heap.size, 7, .string O.e.hk) (by simp)
           have v3c8 := HS.out.vars (w5.heap.size, 8, .int .i64 O.e.la) (by simp)
           have v3c9 := HS.out.vars (w5.heap.size, 9, .bool O.bell) (by simp)
           have v3c10 := HS.out.vars (w5.heap.size, 10, .bool O.dn) (by simp)
           have v3c11 := HS.out.vars (w5.heap.size, 11, .string O.tx) (by simp)
           have v3c12 := HS.out.vars (w5.heap.size, 12, .int .i64 O.co) (by simp)
           clear hb hu)
        | (go_at_call 15
           refine (HE.out g2 gu _ HS.out.fact.2.1 HU.out).mono ?_
           rintro e w8 ⟨rfl, hb⟩
           have HS := Lib.hid (HS.out.below hb)
           clear v0c0 v0c1 v0c2 v1c0 v1c1 v1c2 v1c3 v1c4 v1c5 v1c6 v1c7 v1c8 v1c9 v1c10 v1c11 v1c12 v2c0 v2c1 v2c2 v3c0 v3c1 v3c2 v3c3 v3c4 v3c5 v3c6 v3c7 v3c8 v3c9 v3c10 v3c11 v3c12
           have v0c0 := HS.out.vars (w.heap.size, 0, .slice a n C) (by simp)
           have v0c1 := HS.out.vars (w.heap.size, 1, .int .i64 t) (by simp)
           have v0c2 := HS.out.vars (w.heap.size, 2, .string k) (by simp)
           have v1c0 := HS.out.vars (w3.heap.size, 0, .string O.e.x) (by simp)
           have v1c1 := HS.out.vars (w3.heap.size, 1, .int .i64 O.e.i) (by simp)
           have v1c2 := HS.out.vars (w3.heap.size, 2, .slice A0.a O.e.ks.length A0.c) (by simp)
           have v1c3 := HS.out.vars (w3.heap.size, 3, .int .i64 O.e.kt) (by simp)
           have v1c4 := HS.out.vars (w3.heap.size, 4, .slice A0.b O.e.us.length A0.d) (by simp)
           have v1c5 := HS.out.vars (w3.heap.size, 5, .slice A0.g O.e.hl.length A0.f) (by simp)
           have v1c6 := HS.out.vars (w3.heap.size, 6, .int .i64 O.e.ht) (by simp)
           have v1c7 := HS.out.vars (w3.heap.size, 7, .string O.e.hk) (by simp)
           have v1c8 := HS.out.vars (w3.heap.size, 8, .int .i64 O.e.la) (by simp)
           have v1c9 := HS.out.vars (w3.heap.size, 9, .bool O.bell) (by simp)
           have v1c10 := HS.out.vars (w3.heap.size, 10, .bool O.dn) (by simp)
           have v1c11 := HS.out.vars (w3.heap.size, 11, .string O.tx) (by simp)
           have v1c12 := HS.out.vars (w3.heap.size, 12, .int .i64 O.co) (by simp)
           have v2c0 := HS.out.vars (w4.heap.size, 0, .slice (some ⟨g2, 0, none⟩) n n) (by simp)
           have v2c1 := HS.out.vars (w4.heap.size, 1, .int .i64 t) (by simp)
           have v2c2 := HS.out.vars (w4.heap.size, 2, .string k) (by simp)
           have v3c0 := HS.out.vars (w5.heap.size, 0, .string O.e.x) (by simp)
           have v3c1 := HS.out.vars (w5.heap.size, 1, .int .i64 O.e.i) (by simp)
           have v3c2 := HS.out.vars (w5.heap.size, 2, .slice A5.a O.e.ks.length A5.c) (by simp)
           have v3c3 := HS.out.vars (w5.heap.size, 3, .int .i64 O.e.kt) (by simp)
           have v3c4 := HS.out.vars (w5.heap.size, 4, .slice A5.b O.e.us.length A5.d) (by simp)
           have v3c5 := HS.out.vars (w5.heap.size, 5, .slice A5.g O.e.hl.length A5.f) (by simp)
           have v3c6 := HS.out.vars (w5.heap.size, 6, .int .i64 O.e.ht) (by simp)
           have v3c7 := HS.out.vars (w5.heap.size, 7, .string O.e.hk) (by simp)
           have v3c8 := HS.out.vars (w5.heap.size, 8, .int .i64 O.e.la) (by simp)
           have v3c9 := HS.out.vars (w5.heap.size, 9, .bool O.bell) (by simp)
           have v3c10 := HS.out.vars (w5.heap.size, 10, .bool O.dn) (by simp)
           have v3c11 := HS.out.vars (w5.heap.size, 11, .string O.tx) (by simp)
           have v3c12 := HS.out.vars (w5.heap.size, 12, .int .i64 O.co) (by simp)
           clear hb ))
    all_goals
      have HX8 := Lib.hid HS.out.bel
      have HW := Lib.hid HS.out.fact.1
      have HY := Lib.hid HS.out.fact.2.1
      have HYB := Lib.hid HS.out.fact.2.2.1
      have HG := Lib.hid HS.out.fact.2.2.2.1
      have HGB := Lib.hid HS.out.fact.2.2.2.2
      have v0z : w.heap.size < w8.heap.size := blk_lt v0c0
      have v1z : w3.heap.size < w8.heap.size := blk_lt v1c0
      have v2z : w4.heap.size < w8.heap.size := blk_lt v2c0
      have v3z : w5.heap.size < w8.heap.size := blk_lt v3c0
      clear HS
      have HC := Lib.hid (HKM.out g2 _ (w3.heap.size + 1) HYB.out)
      go_wp2_with fail
      refine HC.out.mono ?_
      clear HC
      rintro e w9 ⟨rfl, hr, hg⟩
      have HX9 := Lib.hid (HX8.out.grown hg HX8.out.size (fun j hj => by have := HYB.out.lt j hj; have := U0.out; have := T2.out; have := T3.out; have := U1.out; have := U2.out; have := U3.out; omega))
      have ne : some (w.heap.size) ≠ blkN (some ⟨g2, 0, none⟩) n := fun e => by have := HYB.out.lt _ e.symm; have := HYL.out _ e.symm; have := U0.out; have := T2.out; have := T3.out; have := U1.out; have := U2.out; have := U3.out; omega
      have v0c0 := (hg.cell_far ⟨w.heap.size, 0, none⟩ v0z ne).trans v0c0
      have v0c1 := (hg.cell_far ⟨w.heap.size, 1, none⟩ v0z ne).trans v0c1
      have v0c2 := (hg.cell_far ⟨w.heap.size, 2, none⟩ v0z ne).trans v0c2
      have v0z := Nat.lt_of_lt_of_le v0z hg.size
      clear ne
      have ne : some (w3.heap.size) ≠ blkN (some ⟨g2, 0, none⟩) n := fun e => by have := HYB.out.lt _ e.symm; have := HYL.out _ e.symm; have := U0.out; have := T2.out; have := T3.out; have := U1.out; have := U2.out; have := U3.out; omega
      have v1c0 := (hg.cell_far ⟨w3.heap.size, 0, none⟩ v1z ne).trans v1c0
      have v1c1 := (hg.cell_far ⟨w3.heap.size, 1, none⟩ v1z ne).trans v1c1
      have v1c2 := (hg.cell_far ⟨w3.heap.size, 2, none⟩ v1z ne).trans v1c2
      have v1c3 := (hg.cell_far ⟨w3.heap.size, 3, none⟩ v1z ne).trans v1c3
      have v1c4 := (hg.cell_far ⟨w3.heap.size, 4, none⟩ v1z ne).trans v1c4
      have v1c5 := (hg.cell_far ⟨w3.heap.size, 5, none⟩ v1z ne).trans v1c5
      have v1c6 := (hg.cell_far ⟨w3.heap.size, 6, none⟩ v1z ne).trans v1c6
      have v1c7 := (hg.cell_far ⟨w3.heap.size, 7, none⟩ v1z ne).trans v1c7
      have v1c8 := (hg.cell_far ⟨w3.heap.size, 8, none⟩ v1z ne).trans v1c8
      have v1c9 := (hg.cell_far ⟨w3.heap.size, 9, none⟩ v1z ne).trans v1c9
      have v1c10 := (hg.cell_far ⟨w3.heap.size, 10, none⟩ v1z ne).trans v1c10
      have v1c11 := (hg.cell_far ⟨w3.heap.size, 11, none⟩ v1z ne).trans v1c11
      have v1c12 := (hg.cell_far ⟨w3.heap.size, 12, none⟩ v1z ne).trans v1c12
      have v1z := Nat.lt_of_lt_of_le v1z hg.size
      clear ne
      have ne : some (w4.heap.size) ≠ blkN (some ⟨g2, 0, none⟩) n := fun e => by have := HYB.out.lt _ e.symm; have := HYL.out _ e.symm; have := U0.out; have := T2.out; have := T3.out; have := U1.out; have := U2.out; have := U3.out; omega
      have v2c0 := (hg.cell_far ⟨w4.heap.size, 0, none⟩ v2z ne).trans v2c0
      have v2c1 := (hg.cell_far ⟨w4.heap.size, 1, none⟩ v2z ne).trans v2c1
      have v2c2 := (hg.cell_far ⟨w4.heap.size, 2, none⟩ v2z ne).trans v2c2
      have v2z := Nat.lt_of_lt_of_le v2z hg.size
      clear ne
      have ne : some (w5.heap.size) ≠ blkN (some ⟨g2, 0, none⟩) n := fun e => by have := HYB.out.lt _ e.symm; have := HYL.out _ e.symm; have := U0.out; have := T2.out; have := T3.out; have := U1.out; have := U2.out; have := U3.out; omega
      have v3c0 := (hg.cell_far ⟨w5.heap.size, 0, none⟩ v3z ne).trans v3c0
      have v3c1 := (hg.cell_far ⟨w5.heap.size, 1, none⟩ v3z ne).trans v3c1
      have v3c2 := (hg.cell_far ⟨w5.heap.size, 2, none⟩ v3z ne).trans v3c2
      have v3c3 := (hg.cell_far ⟨w5.heap.size, 3, none⟩ v3z ne).trans v3c3
      have v3c4 := (hg.cell_far ⟨w5.heap.size, 4, none⟩ v3z ne).trans v3c4
      have v3c5 := (hg.cell_far ⟨w5.heap.size, 5, none⟩ v3z ne).trans v3c5
      have v3c6 := (hg.cell_far ⟨w5.heap.size, 6, none⟩ v3z ne).trans v3c6
      have v3c7 := (hg.cell_far ⟨w5.heap.size, 7, none⟩ v3z ne).trans v3c7
      have v3c8 := (hg.cell_far ⟨w5.heap.size, 8, none⟩ v3z ne).trans v3c8
      have v3c9 := (hg.cell_far ⟨w5.heap.size, 9, none⟩ v3z ne).trans v3c9
      have v3c10 := (hg.cell_far ⟨w5.heap.size, 10, none⟩ v3z ne).trans v3c10
      have v3c11 := (hg.cell_far ⟨w5.heap.size, 11, none⟩ v3z ne).trans v3c11
      have v3c12 := (hg.cell_far ⟨w5.heap.size, 12, none⟩ v3z ne).trans v3c12
      have v3z := Nat.lt_of_lt_of_le v3z hg.size
      clear ne
      have HW := Lib.hid (HW.out.off1 hg (fun x e1 e2 => by have := HWL.out x e1; have := HYB.out.lt x e2; have := HYL.out x e2; have := U0.out; have := T2.out; have := T3.out; have := U1.out; have := U2.out; have := U3.out; omega))
      have HG := Lib.hid (HG.out.off1 hg (fun x e1 e2 => by have := HGB.out.ge x e1; have := HYB.out.lt x e2; have := HYL.out x e2; have := U0.out; have := T2.out; have := T3.out; have := U1.out; have := U2.out; have := U3.out; omega))
      have HGB := Lib.hid (HGB.out.off1 hg (fun x e1 e2 => by have := HGB.out.ge x e1; have := HYB.out.lt x e2; have := HYL.out x e2; have := U0.out; have := T2.out; have := T3.out; have := U1.out; have := U2.out; have := U3.out; omega))
      have HYM := Lib.hid hr
      clear hr hg
      clear HYB HYL HY HYM
      have HC := Lib.hid (HE2.out A5 A0 _ HG.out HW.out)
      go_wp2_with fail
      refine HC.out.mono ?_
      clear HC
      rintro e w10 ⟨rfl, hb⟩
      have HX10 := Lib.hid (bthen HX9.out hb HX9.out.size)
      have T10 := Lib.hid hb.size
      obtain ⟨r, _⟩ := keepC hb (g := w.heap.size) v0z
      have v0c0 := (r 0).trans v0c0
      have v0c1 := (r 1).trans v0c1
      have v0c2 := (r 2).trans v0c2
      have v0z := Nat.lt_of_lt_of_le v0z hb.size
      clear r
      obtain ⟨r, _⟩ := keepC hb (g := w3.heap.size) v1z
      have v1c0 := (r 0).trans v1c0
      have v1c1 := (r 1).trans v1c1
      have v1c2 := (r 2).trans v1c2
      have v1c3 := (r 3).trans v1c3
      have v1c4 := (r 4).trans v1c4
      have v1c5 := (r 5).trans v1c5
      have v1c6 := (r 6).trans v1c6
      have v1c7 := (r 7).trans v1c7
      have v1c8 := (r 8).trans v1c8
      have v1c9 := (r 9).trans v1c9
      have v1c10 := (r 10).trans v1c10
      have v1c11 := (r 11).trans v1c11
      have v1c12 := (r 12).trans v1c12
      have v1z := Nat.lt_of_lt_of_le v1z hb.size
      clear r
      obtain ⟨r, _⟩ := keepC hb (g := w4.heap.size) v2z
      have v2c0 := (r 0).trans v2c0
      have v2c1 := (r 1).trans v2c1
      have v2c2 := (r 2).trans v2c2
      have v2z := Nat.lt_of_lt_of_le v2z hb.size
      clear r
      obtain ⟨r, _⟩ := keepC hb (g := w5.heap.size) v3z
      have v3c0 := (r 0).trans v3c0
      have v3c1 := (r 1).trans v3c1
      have v3c2 := (r 2).trans v3c2
      have v3c3 := (r 3).trans v3c3
      have v3c4 := (r 4).trans v3c4
      have v3c5 := (r 5).trans v3c5
      have v3c6 := (r 6).trans v3c6
      have v3c7 := (r 7).trans v3c7
      have v3c8 := (r 8).trans v3c8
      have v3c9 := (r 9).trans v3c9
      have v3c10 := (r 10).trans v3c10
      have v3c11 := (r 11).trans v3c11
      have v3c12 := (r 12).trans v3c12
      have v3z := Nat.lt_of_lt_of_le v3z hb.size
      clear r
      have HW := Lib.hid (HW.out.below hb)
      have HG := Lib.hid (HG.out.below hb)
      have HGB := Lib.hid (HGB.out.below hb)
      clear hb 
      have HC := Lib.hid (HK2.out A5 _ (w4.heap.size + 1) HGB.out)
      go_wp2_with fail
      refine HC.out.mono ?_
      clear HC
      rintro e w11 ⟨rfl, hr, wm, hbm, hg⟩
      have HX11 := Lib.hid (hg.bel (bthen HX10.out hbm HX10.out.size) (Nat.le_trans HX10.out.size hbm.size) (fun j hj => by have := HGB.out.ge j hj; have := U0.out; have := T2.out; have := T3.out; have := U1.out; have := U2.out; have := U3.out; omega))
      have ne : ¬ ein A5 O.e (w.heap.size) := fun e => by have := HGB.out.ge _ e; have := HGL.out _ e; have := U0.out; have := T2.out; have := T3.out; have := U1.out; have := U2.out; have := U3.out; omega
      have v0c0 := hg.cell ((hbm.cell (p := ⟨w.heap.size, 0, none⟩) v0z).trans v0c0) ne
      have v0c1 := hg.cell ((hbm.cell (p := ⟨w.heap.size, 1, none⟩) v0z).trans v0c1) ne
      have v0c2 := hg.cell ((hbm.cell (p := ⟨w.heap.size, 2, none⟩) v0z).trans v0c2) ne
      have v0z := Nat.lt_of_lt_of_le v0z (Nat.le_trans hbm.size hg.size)
      clear ne
      have ne : ¬ ein A5 O.e (w3.heap.size) := fun e => by have := HGB.out.ge _ e; have := HGL.out _ e; have := U0.out; have := T2.out; have := T3.out; have := U1.out; have := U2.out; have := U3.out; omega
      have v1c0 := hg.cell ((hbm.cell (p := ⟨w3.heap.size, 0, none⟩) v1z).trans v1c0) ne
      have v1c1 := hg.cell ((hbm.cell (p := ⟨w3.heap.size, 1, none⟩) v1z).trans v1c1) ne
      have v1c2 := hg.cell ((hbm.cell (p := ⟨w3.heap.size, 2, none⟩) v1z).trans v1c2) ne
      have v1c3 := hg.cell ((hbm.cell (p := ⟨w3.heap.size, 3, none⟩) v1z).trans v1c3) ne
      have v1c4 := hg.cell ((hbm.cell (p := ⟨w3.heap.size, 4, none⟩) v1z).trans v1c4) ne
      have v1c5 := hg.cell ((hbm.cell (p := ⟨w3.heap.size, 5, none⟩) v1z).trans v1c5) ne
      have v1c6 := hg.cell ((hbm.cell (p := ⟨w3.heap.size, 6, none⟩) v1z).trans v1c6) ne
      have v1c7 := hg.cell ((hbm.cell (p := ⟨w3.heap.size, 7, none⟩) v1z).trans v1c7) ne
      have v1c8 := hg.cell ((hbm.cell (p := ⟨w3.heap.size, 8, none⟩) v1z).trans v1c8) ne
      have v1c9 := hg.cell ((hbm.cell (p := ⟨w3.heap.size, 9, none⟩) v1z).trans v1c9) ne
      have v1c10 := hg.cell ((hbm.cell (p := ⟨w3.heap.size, 10, none⟩) v1z).trans v1c10) ne
      have v1c11 := hg.cell ((hbm.cell (p := ⟨w3.heap.size, 11, none⟩) v1z).trans v1c11) ne
      have v1c12 := hg.cell ((hbm.cell (p := ⟨w3.heap.size, 12, none⟩) v1z).trans v1c12) ne
      have v1z := Nat.lt_of_lt_of_le v1z (Nat.le_trans hbm.size hg.size)
      clear ne
      have ne : ¬ ein A5 O.e (w4.heap.size) := fun e => by have := HGB.out.ge _ e; have := HGL.out _ e; have := U0.out; have := T2.out; have := T3.out; have := U1.out; have := U2.out; have := U3.out; omega
      have v2c0 := hg.cell ((hbm.cell (p := ⟨w4.heap.size, 0, none⟩) v2z).trans v2c0) ne
      have v2c1 := hg.cell ((hbm.cell (p := ⟨w4.heap.size, 1, none⟩) v2z).trans v2c1) ne
      have v2c2 := hg.cell ((hbm.cell (p := ⟨w4.heap.size, 2, none⟩) v2z).trans v2c2) ne
      have v2z := Nat.lt_of_lt_of_le v2z (Nat.le_trans hbm.size hg.size)
      clear ne
      have ne : ¬ ein A5 O.e (w5.heap.size) := fun e => by have := HGB.out.ge _ e; have := HGL.out _ e; have := U0.out; have := T2.out; have := T3.out; have := U1.out; have := U2.out; have := U3.out; omega
      have v3c0 := hg.cell ((hbm.cell (p := ⟨w5.heap.size, 0, none⟩) v3z).trans v3c0) ne
      have v3c1 := hg.cell ((hbm.cell (p := ⟨w5.heap.size, 1, none⟩) v3z).trans v3c1) ne
      have v3c2 := hg.cell ((hbm.cell (p := ⟨w5.heap.size, 2, none⟩) v3z).trans v3c2) ne
      have v3c3 := hg.cell ((hbm.cell (p := ⟨w5.heap.size, 3, none⟩) v3z).trans v3c3) ne
      have v3c4 := hg.cell ((hbm.cell (p := ⟨w5.heap.size, 4, none⟩) v3z).trans v3c4) ne
      have v3c5 := hg.cell ((hbm.cell (p := ⟨w5.heap.size, 5, none⟩) v3z).trans v3c5) ne
      have v3c6 := hg.cell ((hbm.cell (p := ⟨w5.heap.size, 6, none⟩) v3z).trans v3c6) ne
      have v3c7 := hg.cell ((hbm.cell (p := ⟨w5.heap.size, 7, none⟩) v3z).trans v3c7) ne
      have v3c8 := hg.cell ((hbm.cell (p := ⟨w5.heap.size, 8, none⟩) v3z).trans v3c8) ne
      have v3c9 := hg.cell ((hbm.cell (p := ⟨w5.heap.size, 9, none⟩) v3z).trans v3c9) ne
      have v3c10 := hg.cell ((hbm.cell (p := ⟨w5.heap.size, 10, none⟩) v3z).trans v3c10) ne
      have v3c11 := hg.cell ((hbm.cell (p := ⟨w5.heap.size, 11, none⟩) v3z).trans v3c11) ne
      have v3c12 := hg.cell ((hbm.cell (p := ⟨w5.heap.size, 12, none⟩) v3z).trans v3c12) ne
      have v3z := Nat.lt_of_lt_of_le v3z (Nat.le_trans hbm.size hg.size)
      clear ne
      have HW := Lib.hid ((HW.out.below hbm).off hg (fun x e1 e2 => by have := HWL.out x e1; have := HGB.out.ge x e2; have := HGL.out x e2; have := U0.out; have := T2.out; have := T3.out; have := U1.out; have := U2.out; have := U3.out; omega))
      have HGM := Lib.hid hr
      clear hr hg hbm
      clear HG HGB HGL
      have HC := Lib.hid (HH.out A5 _ HGM.out)
      go_wp2_with fail
      refine HC.out.mono ?_
      clear HC
      rintro e w12 ⟨rfl, hb⟩
      have HX12 := Lib.hid (bthen HX11.out hb HX11.out.size)
      have T12 := Lib.hid hb.size
      obtain ⟨r, _⟩ := keepC hb (g := w.heap.size) v0z
      have v0c0 := (r 0).trans v0c0
      have v0c1 := (r 1).trans v0c1
      have v0c2 := (r 2).trans v0c2
      have v0z := Nat.lt_of_lt_of_le v0z hb.size
      clear r
      obtain ⟨r, _⟩ := keepC hb (g := w3.heap.size) v1z
      have v1c0 := (r 0).trans v1c0
      have v1c1 := (r 1).trans v1c1
      have v1c2 := (r 2).trans v1c2
      have v1c3 := (r 3).trans v1c3
      have v1c4 := (r 4).trans v1c4
      have v1c5 := (r 5).trans v1c5
      have v1c6 := (r 6).trans v1c6
      have v1c7 := (r 7).trans v1c7
      have v1c8 := (r 8).trans v1c8
      have v1c9 := (r 9).trans v1c9
      have v1c10 := (r 10).trans v1c10
      have v1c11 := (r 11).trans v1c11
      have v1c12 := (r 12).trans v1c12
      have v1z := Nat.lt_of_lt_of_le v1z hb.size
      clear r
      obtain ⟨r, _⟩ := keepC hb (g := w4.heap.size) v2z
      have v2c0 := (r 0).trans v2c0
      have v2c1 := (r 1).trans v2c1
      have v2c2 := (r 2).trans v2c2
      have v2z := Nat.lt_of_lt_of_le v2z hb.size
      clear r
      obtain ⟨r, _⟩ := keepC hb (g := w5.heap.size) v3z
      have v3c0 := (r 0).trans v3c0
      have v3c1 := (r 1).trans v3c1
      have v3c2 := (r 2).trans v3c2
      have v3c3 := (r 3).trans v3c3
      have v3c4 := (r 4).trans v3c4
      have v3c5 := (r 5).trans v3c5
      have v3c6 := (r 6).trans v3c6
      have v3c7 := (r 7).trans v3c7
      have v3c8 := (r 8).trans v3c8
      have v3c9 := (r 9).trans v3c9
      have v3c10 := (r 10).trans v3c10
      have v3c11 := (r 11).trans v3c11
      have v3c12 := (r 12).trans v3c12
      have v3z := Nat.lt_of_lt_of_le v3z hb.size
      clear r
      have HW := Lib.hid (HW.out.below hb)
      have HGM := Lib.hid (HGM.out.below hb)
      clear hb 
      have HC := Lib.hid (HT.out _ HX12.out)
      go_wp2_with fail
      refine HC.out.mono ?_
      clear HC
      rintro e w13 ⟨g3, rfl, hr3, _, hb⟩
      have HX13 := Lib.hid (bthen HX12.out hb HX12.out.size)
      have T13 := Lib.hid hb.size
      obtain ⟨r, _⟩ := keepC hb (g := w.heap.size) v0z
      have v0c0 := (r 0).trans v0c0
      have v0c1 := (r 1).trans v0c1
      have v0c2 := (r 2).trans v0c2
      have v0z := Nat.lt_of_lt_of_le v0z hb.size
      clear r
      obtain ⟨r, _⟩ := keepC hb (g := w3.heap.size) v1z
      have v1c0 := (r 0).trans v1c0
      have v1c1 := (r 1).trans v1c1
      have v1c2 := (r 2).trans v1c2
      have v1c3 := (r 3).trans v1c3
      have v1c4 := (r 4).trans v1c4
      have v1c5 := (r 5).trans v1c5
      have v1c6 := (r 6).trans v1c6
      have v1c7 := (r 7).trans v1c7
      have v1c8 := (r 8).trans v1c8
      have v1c9 := (r 9).trans v1c9
      have v1c10 := (r 10).trans v1c10
      have v1c11 := (r 11).trans v1c11
      have v1c12 := (r 12).trans v1c12
      have v1z := Nat.lt_of_lt_of_le v1z hb.size
      clear r
      obtain ⟨r, _⟩ := keepC hb (g := w4.heap.size) v2z
      have v2c0 := (r 0).trans v2c0
      have v2c1 := (r 1).trans v2c1
      have v2c2 := (r 2).trans v2c2
      have v2z := Nat.lt_of_lt_of_le v2z hb.size
      clear r
      obtain ⟨r, _⟩ := keepC hb (g := w5.heap.size) v3z
      have v3c0 := (r 0).trans v3c0
      have v3c1 := (r 1).trans v3c1
      have v3c2 := (r 2).trans v3c2
      have v3c3 := (r 3).trans v3c3
      have v3c4 := (r 4).trans v3c4
      have v3c5 := (r 5).trans v3c5
      have v3c6 := (r 6).trans v3c6
      have v3c7 := (r 7).trans v3c7
      have v3c8 := (r 8).trans v3c8
      have v3c9 := (r 9).trans v3c9
      have v3c10 := (r 10).trans v3c10
      have v3c11 := (r 11).trans v3c11
      have v3c12 := (r 12).trans v3c12
      have v3z := Nat.lt_of_lt_of_le v3z hb.size
      clear r
      have HW := Lib.hid (HW.out.below hb)
      have HGM := Lib.hid (HGM.out.below hb)
      have HR3 := Lib.hid hr3
      clear hb hr3
      have HC := Lib.hid (HP.out g3 _ HR3.out)
      go_wp2_with fail
      refine HC.out.mono ?_
      clear HC
      rintro e w14 ⟨A6, rfl, hi, _, hb⟩
      have HX14 := Lib.hid (bthen HX13.out hb HX13.out.size)
      have T14 := Lib.hid hb.size
      obtain ⟨r, _⟩ := keepC hb (g := w.heap.size) v0z
      have v0c0 := (r 0).trans v0c0
      have v0c1 := (r 1).trans v0c1
      have v0c2 := (r 2).trans v0c2
      have v0z := Nat.lt_of_lt_of_le v0z hb.size
      clear r
      obtain ⟨r, _⟩ := keepC hb (g := w3.heap.size) v1z
      have v1c0 := (r 0).trans v1c0
      have v1c1 := (r 1).trans v1c1
      have v1c2 := (r 2).trans v1c2
      have v1c3 := (r 3).trans v1c3
      have v1c4 := (r 4).trans v1c4
      have v1c5 := (r 5).trans v1c5
      have v1c6 := (r 6).trans v1c6
      have v1c7 := (r 7).trans v1c7
      have v1c8 := (r 8).trans v1c8
      have v1c9 := (r 9).trans v1c9
      have v1c10 := (r 10).trans v1c10
      have v1c11 := (r 11).trans v1c11
      have v1c12 := (r 12).trans v1c12
      have v1z := Nat.lt_of_lt_of_le v1z hb.size
      clear r
      obtain ⟨r, _⟩ := keepC hb (g := w4.heap.size) v2z
      have v2c0 := (r 0).trans v2c0
      have v2c1 := (r 1).trans v2c1
      have v2c2 := (r 2).trans v2c2
      have v2z := Nat.lt_of_lt_of_le v2z hb.size
      clear r
      obtain ⟨r, _⟩ := keepC hb (g := w5.heap.size) v3z
      have v3c0 := (r 0).trans v3c0
      have v3c1 := (r 1).trans v3c1
      have v3c2 := (r 2).trans v3c2
      have v3c3 := (r 3).trans v3c3
      have v3c4 := (r 4).trans v3c4
      have v3c5 := (r 5).trans v3c5
      have v3c6 := (r 6).trans v3c6
      have v3c7 := (r 7).trans v3c7
      have v3c8 := (r 8).trans v3c8
      have v3c9 := (r 9).trans v3c9
      have v3c10 := (r 10).trans v3c10
      have v3c11 := (r 11).trans v3c11
      have v3c12 := (r 12).trans v3c12
      have v3z := Nat.lt_of_lt_of_le v3z hb.size
      clear r
      have HW := Lib.hid (HW.out.below hb)
      have HGM := Lib.hid (HGM.out.below hb)
      have HI := Lib.hid hi
      clear hb hi
      have HA := Lib.hid ((Below.refl _ w14).alloc (Nat.le_refl _) (.cells #[.string O.e.x, .int .i64 O.e.i, .slice A6.a O.e.ks.length A6.c, .int .i64 O.e.kt, .slice A6.b O.e.us.length A6.d, .slice A6.g O.e.hl.length A6.f, .int .i64 O.e.ht, .string O.e.hk, .int .i64 O.e.la, .bool O.bell, .bool O.dn, .string O.tx, .int .i64 O.co] 45))
      have HC := Lib.hid (HE2.out A6 A0 _ (HI.out.below HA.out) (HW.out.below HA.out))
      go_wp2_with fail
      refine HC.out.mono ?_
      clear HC
      rintro e w15 ⟨rfl, hb⟩
      have hq := HX14.out.size
      have HX15 := Lib.hid (bthen (HX14.out.alloc HX14.out.size (.cells #[.string O.e.x, .int .i64 O.e.i, .slice A6.a O.e.ks.length A6.c, .int .i64 O.e.kt, .slice A6.b O.e.us.length A6.d, .slice A6.g O.e.hl.length A6.f, .int .i64 O.e.ht, .string O.e.hk, .int .i64 O.e.la, .bool O.bell, .bool O.dn, .string O.tx, .int .i64 O.co] 45)) hb (by first | (simp; done) | (simp; omega)))
      clear hq
      have T15 := Lib.hid (Nat.le_trans HA.out.size hb.size)
      obtain ⟨r, _⟩ := keepC hb (g := w.heap.size) (by simp; omega)
      have v0c0 := (r 0).trans ((HA.out.cell (p := ⟨w.heap.size, 0, none⟩) v0z).trans v0c0)
      have v0c1 := (r 1).trans ((HA.out.cell (p := ⟨w.heap.size, 1, none⟩) v0z).trans v0c1)
      have v0c2 := (r 2).trans ((HA.out.cell (p := ⟨w.heap.size, 2, none⟩) v0z).trans v0c2)
      have v0z := Nat.lt_of_lt_of_le v0z (Nat.le_trans HA.out.size hb.size)
      clear r
      obtain ⟨r, _⟩ := keepC hb (g := w3.heap.size) (by simp; omega)
      have v1c0 := (r 0).trans ((HA.out.cell (p := ⟨w3.heap.size, 0, none⟩) v1z).trans v1c0)
      have v1c1 := (r 1).trans ((HA.out.cell (p := ⟨w3.heap.size, 1, none⟩) v1z).trans v1c1)
      have v1c2 := (r 2).trans ((HA.out.cell (p := ⟨w3.heap.size, 2, none⟩) v1z).trans v1c2)
      have v1c3 := (r 3).trans ((HA.out.cell (p := ⟨w3.heap.size, 3, none⟩) v1z).trans v1c3)
      have v1c4 := (r 4).trans ((HA.out.cell (p := ⟨w3.heap.size, 4, none⟩) v1z).trans v1c4)
      have v1c5 := (r 5).trans ((HA.out.cell (p := ⟨w3.heap.size, 5, none⟩) v1z).trans v1c5)
      have v1c6 := (r 6).trans ((HA.out.cell (p := ⟨w3.heap.size, 6, none⟩) v1z).trans v1c6)
      have v1c7 := (r 7).trans ((HA.out.cell (p := ⟨w3.heap.size, 7, none⟩) v1z).trans v1c7)
      have v1c8 := (r 8).trans ((HA.out.cell (p := ⟨w3.heap.size, 8, none⟩) v1z).trans v1c8)
      have v1c9 := (r 9).trans ((HA.out.cell (p := ⟨w3.heap.size, 9, none⟩) v1z).trans v1c9)
      have v1c10 := (r 10).trans ((HA.out.cell (p := ⟨w3.heap.size, 10, none⟩) v1z).trans v1c10)
      have v1c11 := (r 11).trans ((HA.out.cell (p := ⟨w3.heap.size, 11, none⟩) v1z).trans v1c11)
      have v1c12 := (r 12).trans ((HA.out.cell (p := ⟨w3.heap.size, 12, none⟩) v1z).trans v1c12)
      have v1z := Nat.lt_of_lt_of_le v1z (Nat.le_trans HA.out.size hb.size)
      clear r
      obtain ⟨r, _⟩ := keepC hb (g := w4.heap.size) (by simp; omega)
      have v2c0 := (r 0).trans ((HA.out.cell (p := ⟨w4.heap.size, 0, none⟩) v2z).trans v2c0)
      have v2c1 := (r 1).trans ((HA.out.cell (p := ⟨w4.heap.size, 1, none⟩) v2z).trans v2c1)
      have v2c2 := (r 2).trans ((HA.out.cell (p := ⟨w4.heap.size, 2, none⟩) v2z).trans v2c2)
      have v2z := Nat.lt_of_lt_of_le v2z (Nat.le_trans HA.out.size hb.size)
      clear r
      obtain ⟨r, _⟩ := keepC hb (g := w5.heap.size) (by simp; omega)
      have v3c0 := (r 0).trans ((HA.out.cell (p := ⟨w5.heap.size, 0, none⟩) v3z).trans v3c0)
      have v3c1 := (r 1).trans ((HA.out.cell (p := ⟨w5.heap.size, 1, none⟩) v3z).trans v3c1)
      have v3c2 := (r 2).trans ((HA.out.cell (p := ⟨w5.heap.size, 2, none⟩) v3z).trans v3c2)
      have v3c3 := (r 3).trans ((HA.out.cell (p := ⟨w5.heap.size, 3, none⟩) v3z).trans v3c3)
      have v3c4 := (r 4).trans ((HA.out.cell (p := ⟨w5.heap.size, 4, none⟩) v3z).trans v3c4)
      have v3c5 := (r 5).trans ((HA.out.cell (p := ⟨w5.heap.size, 5, none⟩) v3z).trans v3c5)
      have v3c6 := (r 6).trans ((HA.out.cell (p := ⟨w5.heap.size, 6, none⟩) v3z).trans v3c6)
      have v3c7 := (r 7).trans ((HA.out.cell (p := ⟨w5.heap.size, 7, none⟩) v3z).trans v3c7)
      have v3c8 := (r 8).trans ((HA.out.cell (p := ⟨w5.heap.size, 8, none⟩) v3z).trans v3c8)
      have v3c9 := (r 9).trans ((HA.out.cell (p := ⟨w5.heap.size, 9, none⟩) v3z).trans v3c9)
      have v3c10 := (r 10).trans ((HA.out.cell (p := ⟨w5.heap.size, 10, none⟩) v3z).trans v3c10)
      have v3c11 := (r 11).trans ((HA.out.cell (p := ⟨w5.heap.size, 11, none⟩) v3z).trans v3c11)
      have v3c12 := (r 12).trans ((HA.out.cell (p := ⟨w5.heap.size, 12, none⟩) v3z).trans v3c12)
      have v3z := Nat.lt_of_lt_of_le v3z (Nat.le_trans HA.out.size hb.size)
      clear r
      obtain ⟨r, _⟩ := keepC hb (g := w14.heap.size) (by simp)
      have v4c0 : w15.cell? ⟨w14.heap.size, 0, none⟩ = some (.string O.e.x) := by rw [r 0]; simp [go_sem]
      have v4c1 : w15.cell? ⟨w14.heap.size, 1, none⟩ = some (.int .i64 O.e.i) := by rw [r 1]; simp [go_sem]
      have v4c2 : w15.cell? ⟨w14.heap.size, 2, none⟩ = some (.slice A6.a O.e.ks.length A6.c) := by rw [r 2]; simp [go_sem]
      have v4c3 : w15.cell? ⟨w14.heap.size, 3, none⟩ = some (.int .i64 O.e.kt) := by rw [r 3]; simp [go_sem]
      have v4c4 : w15.cell? ⟨w14.heap.size, 4, none⟩ = some (.slice A6.b O.e.us.length A6.d) := by rw [r 4]; simp [go_sem]
      have v4c5 : w15.cell? ⟨w14.heap.size, 5, none⟩ = some (.slice A6.g O.e.hl.length A6.f) := by rw [r 5]; simp [go_sem]
      have v4c6 : w15.cell? ⟨w14.heap.size, 6, none⟩ = some (.int .i64 O.e.ht) := by rw [r 6]; simp [go_sem]
      have v4c7 : w15.cell? ⟨w14.heap.size, 7, none⟩ = some (.string O.e.hk) := by rw [r 7]; simp [go_sem]
      have v4c8 : w15.cell? ⟨w14.heap.size, 8, none⟩ = some (.int .i64 O.e.la) := by rw [r 8]; simp [go_sem]
      have v4c9 : w15.cell? ⟨w14.heap.size, 9, none⟩ = some (.bool O.bell) := by rw [r 9]; simp [go_sem]
      have v4c10 : w15.cell? ⟨w14.heap.size, 10, none⟩ = some (.bool O.dn) := by rw [r 10]; simp [go_sem]
      have v4c11 : w15.cell? ⟨w14.heap.size, 11, none⟩ = some (.string O.tx) := by rw [r 11]; simp [go_sem]
      have v4c12 : w15.cell? ⟨w14.heap.size, 12, none⟩ = some (.int .i64 O.co) := by rw [r 12]; simp [go_sem]
      have v4z : w14.heap.size < w15.heap.size := by have := hb.size; simp at this; omega
      clear r
      have U4 := Lib.hid v4z
      have HW := Lib.hid ((HW.out.below HA.out).below hb)
      have HGM := Lib.hid ((HGM.out.below HA.out).below hb)
      have HI := Lib.hid ((HI.out.below HA.out).below hb)
      clear HA
      clear hb 
      have HC := Lib.hid (HH.out A5 _ HGM.out)
      go_wp2_with fail
      refine HC.out.mono ?_
      clear HC
      rintro e w16 ⟨rfl, hb⟩
      have HX16 := Lib.hid (bthen HX15.out hb HX15.out.size)
      have T16 := Lib.hid hb.size
      obtain ⟨r, _⟩ := keepC hb (g := w.heap.size) v0z
      have v0c0 := (r 0).trans v0c0
      have v0c1 := (r 1).trans v0c1
      have v0c2 := (r 2).trans v0c2
      have v0z := Nat.lt_of_lt_of_le v0z hb.size
      clear r
      obtain ⟨r, _⟩ := keepC hb (g := w3.heap.size) v1z
      have v1c0 := (r 0).trans v1c0
      have v1c1 := (r 1).trans v1c1
      have v1c2 := (r 2).trans v1c2
      have v1c3 := (r 3).trans v1c3
      have v1c4 := (r 4).trans v1c4
      have v1c5 := (r 5).trans v1c5
      have v1c6 := (r 6).trans v1c6
      have v1c7 := (r 7).trans v1c7
      have v1c8 := (r 8).trans v1c8
      have v1c9 := (r 9).trans v1c9
      have v1c10 := (r 10).trans v1c10
      have v1c11 := (r 11).trans v1c11
      have v1c12 := (r 12).trans v1c12
      have v1z := Nat.lt_of_lt_of_le v1z hb.size
      clear r
      obtain ⟨r, _⟩ := keepC hb (g := w4.heap.size) v2z
      have v2c0 := (r 0).trans v2c0
      have v2c1 := (r 1).trans v2c1
      have v2c2 := (r 2).trans v2c2
      have v2z := Nat.lt_of_lt_of_le v2z hb.size
      clear r
      obtain ⟨r, _⟩ := keepC hb (g := w5.heap.size) v3z
      have v3c0 := (r 0).trans v3c0
      have v3c1 := (r 1).trans v3c1
      have v3c2 := (r 2).trans v3c2
      have v3c3 := (r 3).trans v3c3
      have v3c4 := (r 4).trans v3c4
      have v3c5 := (r 5).trans v3c5
      have v3c6 := (r 6).trans v3c6
      have v3c7 := (r 7).trans v3c7
      have v3c8 := (r 8).trans v3c8
      have v3c9 := (r 9).trans v3c9
      have v3c10 := (r 10).trans v3c10
      have v3c11 := (r 11).trans v3c11
      have v3c12 := (r 12).trans v3c12
      have v3z := Nat.lt_of_lt_of_le v3z hb.size
      clear r
      obtain ⟨r, _⟩ := keepC hb (g := w14.heap.size) v4z
      have v4c0 := (r 0).trans v4c0
      have v4c1 := (r 1).trans v4c1
      have v4c2 := (r 2).trans v4c2
      have v4c3 := (r 3).trans v4c3
      have v4c4 := (r 4).trans v4c4
      have v4c5 := (r 5).trans v4c5
      have v4c6 := (r 6).trans v4c6
      have v4c7 := (r 7).trans v4c7
      have v4c8 := (r 8).trans v4c8
      have v4c9 := (r 9).trans v4c9
      have v4c10 := (r 10).trans v4c10
      have v4c11 := (r 11).trans v4c11
      have v4c12 := (r 12).trans v4c12
      have v4z := Nat.lt_of_lt_of_le v4z hb.size
      clear r
      have HW := Lib.hid (HW.out.below hb)
      have HGM := Lib.hid (HGM.out.below hb)
      have HI := Lib.hid (HI.out.below hb)
      clear hb 
      go_wp2
      go_ret
      exact ⟨rfl, HX16.out⟩
end Go.Proofs.Ytcgaiegfagckcaa.ed
