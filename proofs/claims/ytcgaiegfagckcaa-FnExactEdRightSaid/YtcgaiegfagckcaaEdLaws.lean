/-
  The walks of the laws of EdRight and EdNew, given what the functions answer. Written by wip/tool/gen_edlaws.py.
-/
import Derived.Test.YtcgaiegfagckcaaEdHarness
import Derived.Deep.RegionHeld3
namespace Go.Proofs.Ytcgaiegfagckcaa.ed
open Go.ChangeShapes Go.WideShapes Go.ChangeAt Go.RowKit
open Go.Proofs.Ytcgaiegfagckcaa.strs Go.Proofs.Ytcgaiegfagckcaa.lines Go.Proofs.Ytcgaiegfagckcaa.kill Go.Proofs.Ytcgaiegfagckcaa.hist

/-- what is known on the way through a law's drawn region -/
structure RP (w : World) (F : World → Prop) (V : List (Nat × Nat × Value)) (W : World) : Prop where
  bel : Below w.heap.size w W
  st : ∀ W W', Below W.heap.size W W' → F W → F W'
  fact : F W
  vars : ∀ v ∈ V, W.cell? ⟨v.1, v.2.1, none⟩ = some v.2.2
theorem drew_belowW (W : World) : Below W.heap.size W W.drew := (Below.refl _ W).drew
theorem RP.below {w W W2 : World} {F : World → Prop} {V : List (Nat × Nat × Value)} (h : RP w F V W) (hb : Below W.heap.size W W2) : RP w F V W2 :=
  ⟨bthen h.bel hb h.bel.size, h.st, h.st _ _ hb h.fact, fun v hv => by rw [hb.cell (p := ⟨v.1, v.2.1, none⟩) (blk_lt (h.vars v hv))]; exact h.vars v hv⟩
theorem ERow.off1 {W W' : World} {A : EA} {v : E} {b : Option Addr} {n : Nat} (h : ERow W A v) (hg : W.grownBy W' (blkN b n)) (hne : ∀ x, ein A v x → blkN b n ≠ some x) : ERow W' A v :=
  ⟨SRow.off h.k hg (fun x e => hne x (.inl e)), LRow.off h.u hg (fun x e => hne x (.inr (.inl e))), SRow.off h.h hg (fun x e => hne x (.inr (.inr e)))⟩
theorem EBlk.off1 {B : Nat} {W W' : World} {A : EA} {v : E} {b : Option Addr} {n : Nat} (h : EBlk B W A v) (hg : W.grownBy W' (blkN b n)) (hne : ∀ x, ein A v x → blkN b n ≠ some x) : EBlk B W' A v :=
  ⟨SBlk.off h.k hg (fun x e => hne x (.inl e)), LBlk.off h.u hg (fun x e => hne x (.inr (.inl e))), SBlk.off h.h hg (fun x e => hne x (.inr (.inr e))), h.ku, h.kh, h.uh⟩
set_option maxRecDepth 20000 in
set_option maxHeartbeats 3200000 in
theorem walkER_of (v : E) (A : EA) (V : Bool) (w : World) (s : EIn w A v)
    (HM : EFit v → ∀ A' W, ERow W A' v → Calls Try.prog 6 #[eV v A'] W fun e w' => e = .returned (.bool V) ∧ Below W.heap.size W w')
    (HI : EFit v → ∀ A' W, ERow W A' v → Calls Try.prog 8 #[eV v A'] W fun e w' => e = .returned (.bool V) ∧ Below W.heap.size W w') :
    Calls Try.prog 3 #[eV v A] w fun e w' => e = .returned (.bool true) ∧ Below w.heap.size w w' := by
  have hal := (Below.refl _ w).alloc (Nat.le_refl _) (.cells (eC v A).toArray 31)
  have HZ := Lib.hid (szEd_any v A 1048576 (by omega) (by omega) s.x s.k1 s.k2 s.u1 s.u2 s.h1 s.h2 s.hk _ (s.row.below hal))
  have HB := Lib.hid hal
  rcases szE_or v with hv | ⟨hv, hfit⟩
  · rw [hv] at HZ
    clear hv HI HM hal s
    unfold eV eC at *
    go_enter Try.func3, Try.ntmps3
    go_wp2_with fail
    refine HZ.out.mono ?_
    rintro e w1 ⟨rfl, hb1⟩
    have HX := Lib.hid (bthen HB.out hb1 (by simp))
    clear hb1
    go_wp2
    go_ret
    exact ⟨rfl, HX.out⟩
  · have HT := Lib.hid (fun W (hb : Below w.heap.size w W) => toEd_any v A hfit W (s.row.below hb))
    have HS := Lib.hid (fun A' W (h : ERow W A' v) => HM hfit A' W h)
    have HP := Lib.hid (fun A' W (h : ERow W A' v) => HI hfit A' W h)
    have HE := Lib.hid (fun A' A'' W (h1 : ERow W A' v) (h2 : ERow W A'' v) => eqEd_same v A' A'' hfit.k hfit.u hfit.h W h1 h2)
    obtain ⟨Z, hZ⟩ : ∃ Z, Z = szE v 1048576 := ⟨_, rfl⟩
    rw [← hZ] at HZ hv
    obtain ⟨vv, hvv⟩ : ∃ vv, vv = v := ⟨_, rfl⟩
    have HVV := Lib.hid hvv
    clear hal s hfit HM HI hZ hvv
    unfold eV eC at *
    go_enter Try.func3, Try.ntmps3
    have HX0 := Lib.hid (Below.refl w.heap.size w)
    have HA := Lib.hid ((Below.refl _ w).alloc (Nat.le_refl _) (.cells #[.string v.x, .int .i64 v.i, .slice A.a v.ks.length A.c, .int .i64 v.kt, .slice A.b v.us.length A.d, .slice A.g v.hl.length A.f, .int .i64 v.ht, .string v.hk, .int .i64 v.la] 31))
    have HC := Lib.hid (HZ.out)
    go_wp2_with fail
    refine HC.out.mono ?_
    clear HC
    rintro e w1 ⟨rfl, hb⟩
    have hq := HX0.out.size
    have HX1 := Lib.hid (bthen (HX0.out.alloc HX0.out.size (.cells #[.string v.x, .int .i64 v.i, .slice A.a v.ks.length A.c, .int .i64 v.kt, .slice A.b v.us.length A.d, .slice A.g v.hl.length A.f, .int .i64 v.ht, .string v.hk, .int .i64 v.la] 31)) hb (by first | (simp; done) | (simp; omega)))
    clear hq
    have T1 := Lib.hid (Nat.le_trans HA.out.size hb.size)
    obtain ⟨r, _⟩ := keepC hb (g := w.heap.size) (by simp)
    have v0c0 : w1.cell? ⟨w.heap.size, 0, none⟩ = some (.string v.x) := by rw [r 0]; simp [go_sem]
    have v0c1 : w1.cell? ⟨w.heap.size, 1, none⟩ = some (.int .i64 v.i) := by rw [r 1]; simp [go_sem]
    have v0c2 : w1.cell? ⟨w.heap.size, 2, none⟩ = some (.slice A.a v.ks.length A.c) := by rw [r 2]; simp [go_sem]
    have v0c3 : w1.cell? ⟨w.heap.size, 3, none⟩ = some (.int .i64 v.kt) := by rw [r 3]; simp [go_sem]
    have v0c4 : w1.cell? ⟨w.heap.size, 4, none⟩ = some (.slice A.b v.us.length A.d) := by rw [r 4]; simp [go_sem]
    have v0c5 : w1.cell? ⟨w.heap.size, 5, none⟩ = some (.slice A.g v.hl.length A.f) := by rw [r 5]; simp [go_sem]
    have v0c6 : w1.cell? ⟨w.heap.size, 6, none⟩ = some (.int .i64 v.ht) := by rw [r 6]; simp [go_sem]
    have v0c7 : w1.cell? ⟨w.heap.size, 7, none⟩ = some (.string v.hk) := by rw [r 7]; simp [go_sem]
    have v0c8 : w1.cell? ⟨w.heap.size, 8, none⟩ = some (.int .i64 v.la) := by rw [r 8]; simp [go_sem]
    have v0z : w.heap.size < w1.heap.size := by have := hb.size; simp at this; omega
    clear r
    have U0 := Lib.hid v0z
    clear HA
    clear hb 
    have HC := Lib.hid (HT.out _ HX1.out)
    go_wp2_with fail
    refine HC.out.mono ?_
    clear HC
    rintro e w2 ⟨A1, rfl, hx, _, hb⟩
    have HX2 := Lib.hid (bthen HX1.out hb HX1.out.size)
    have T2 := Lib.hid hb.size
    obtain ⟨r, _⟩ := keepC hb (g := w.heap.size) v0z
    have v0c0 := (r 0).trans v0c0
    have v0c1 := (r 1).trans v0c1
    have v0c2 := (r 2).trans v0c2
    have v0c3 := (r 3).trans v0c3
    have v0c4 := (r 4).trans v0c4
    have v0c5 := (r 5).trans v0c5
    have v0c6 := (r 6).trans v0c6
    have v0c7 := (r 7).trans v0c7
    have v0c8 := (r 8).trans v0c8
    have v0z := Nat.lt_of_lt_of_le v0z hb.size
    clear r
    have HX := Lib.hid hx
    clear hb hx
    have HC := Lib.hid (HS.out A1 _ HX.out)
    go_wp2_with fail
    refine HC.out.mono ?_
    clear HC
    rintro e w3 ⟨rfl, hb⟩
    have HX3 := Lib.hid (bthen HX2.out hb HX2.out.size)
    have T3 := Lib.hid hb.size
    obtain ⟨r, _⟩ := keepC hb (g := w.heap.size) v0z
    have v0c0 := (r 0).trans v0c0
    have v0c1 := (r 1).trans v0c1
    have v0c2 := (r 2).trans v0c2
    have v0c3 := (r 3).trans v0c3
    have v0c4 := (r 4).trans v0c4
    have v0c5 := (r 5).trans v0c5
    have v0c6 := (r 6).trans v0c6
    have v0c7 := (r 7).trans v0c7
    have v0c8 := (r 8).trans v0c8
    have v0z := Nat.lt_of_lt_of_le v0z hb.size
    clear r
    clear hb 
    have HC := Lib.hid (HT.out _ HX3.out)
    go_wp2_with fail
    refine HC.out.mono ?_
    clear HC
    rintro e w4 ⟨A2, rfl, hy, _, hb⟩
    have HX4 := Lib.hid (bthen HX3.out hb HX3.out.size)
    have T4 := Lib.hid hb.size
    obtain ⟨r, _⟩ := keepC hb (g := w.heap.size) v0z
    have v0c0 := (r 0).trans v0c0
    have v0c1 := (r 1).trans v0c1
    have v0c2 := (r 2).trans v0c2
    have v0c3 := (r 3).trans v0c3
    have v0c4 := (r 4).trans v0c4
    have v0c5 := (r 5).trans v0c5
    have v0c6 := (r 6).trans v0c6
    have v0c7 := (r 7).trans v0c7
    have v0c8 := (r 8).trans v0c8
    have v0z := Nat.lt_of_lt_of_le v0z hb.size
    clear r
    have HY := Lib.hid hy
    clear hb hy
    have HA := Lib.hid ((Below.refl _ w4).alloc (Nat.le_refl _) (.cells #[.string v.x, .int .i64 v.i, .slice A2.a v.ks.length A2.c, .int .i64 v.kt, .slice A2.b v.us.length A2.d, .slice A2.g v.hl.length A2.f, .int .i64 v.ht, .string v.hk, .int .i64 v.la] 39))
    have HC := Lib.hid (HP.out A2 _ (HY.out.below HA.out))
    go_wp2_with fail
    refine HC.out.mono ?_
    clear HC
    rintro e w5 ⟨rfl, hb⟩
    have hq := HX4.out.size
    have HX5 := Lib.hid (bthen (HX4.out.alloc HX4.out.size (.cells #[.string v.x, .int .i64 v.i, .slice A2.a v.ks.length A2.c, .int .i64 v.kt, .slice A2.b v.us.length A2.d, .slice A2.g v.hl.length A2.f, .int .i64 v.ht, .string v.hk, .int .i64 v.la] 39)) hb (by first | (simp; done) | (simp; omega)))
    clear hq
    have T5 := Lib.hid (Nat.le_trans HA.out.size hb.size)
    obtain ⟨r, _⟩ := keepC hb (g := w.heap.size) (by simp; omega)
    have v0c0 := (r 0).trans ((HA.out.cell (p := ⟨w.heap.size, 0, none⟩) v0z).trans v0c0)
    have v0c1 := (r 1).trans ((HA.out.cell (p := ⟨w.heap.size, 1, none⟩) v0z).trans v0c1)
    have v0c2 := (r 2).trans ((HA.out.cell (p := ⟨w.heap.size, 2, none⟩) v0z).trans v0c2)
    have v0c3 := (r 3).trans ((HA.out.cell (p := ⟨w.heap.size, 3, none⟩) v0z).trans v0c3)
    have v0c4 := (r 4).trans ((HA.out.cell (p := ⟨w.heap.size, 4, none⟩) v0z).trans v0c4)
    have v0c5 := (r 5).trans ((HA.out.cell (p := ⟨w.heap.size, 5, none⟩) v0z).trans v0c5)
    have v0c6 := (r 6).trans ((HA.out.cell (p := ⟨w.heap.size, 6, none⟩) v0z).trans v0c6)
    have v0c7 := (r 7).trans ((HA.out.cell (p := ⟨w.heap.size, 7, none⟩) v0z).trans v0c7)
    have v0c8 := (r 8).trans ((HA.out.cell (p := ⟨w.heap.size, 8, none⟩) v0z).trans v0c8)
    have v0z := Nat.lt_of_lt_of_le v0z (Nat.le_trans HA.out.size hb.size)
    clear r
    obtain ⟨r, _⟩ := keepC hb (g := w4.heap.size) (by simp)
    have v1c0 : w5.cell? ⟨w4.heap.size, 0, none⟩ = some (.string v.x) := by rw [r 0]; simp [go_sem]
    have v1c1 : w5.cell? ⟨w4.heap.size, 1, none⟩ = some (.int .i64 v.i) := by rw [r 1]; simp [go_sem]
    have v1c2 : w5.cell? ⟨w4.heap.size, 2, none⟩ = some (.slice A2.a v.ks.length A2.c) := by rw [r 2]; simp [go_sem]
    have v1c3 : w5.cell? ⟨w4.heap.size, 3, none⟩ = some (.int .i64 v.kt) := by rw [r 3]; simp [go_sem]
    have v1c4 : w5.cell? ⟨w4.heap.size, 4, none⟩ = some (.slice A2.b v.us.length A2.d) := by rw [r 4]; simp [go_sem]
    have v1c5 : w5.cell? ⟨w4.heap.size, 5, none⟩ = some (.slice A2.g v.hl.length A2.f) := by rw [r 5]; simp [go_sem]
    have v1c6 : w5.cell? ⟨w4.heap.size, 6, none⟩ = some (.int .i64 v.ht) := by rw [r 6]; simp [go_sem]
    have v1c7 : w5.cell? ⟨w4.heap.size, 7, none⟩ = some (.string v.hk) := by rw [r 7]; simp [go_sem]
    have v1c8 : w5.cell? ⟨w4.heap.size, 8, none⟩ = some (.int .i64 v.la) := by rw [r 8]; simp [go_sem]
    have v1z : w4.heap.size < w5.heap.size := by have := hb.size; simp at this; omega
    clear r
    have U1 := Lib.hid v1z
    have HY := Lib.hid ((HY.out.below HA.out).below hb)
    clear HA
    clear hb 
    go_wp2
    have HS := Lib.hid (show RP w (fun W => ERow W A2 v) [(w.heap.size, 0, .string v.x), (w.heap.size, 1, .int .i64 v.i), (w.heap.size, 2, .slice A.a v.ks.length A.c), (w.heap.size, 3, .int .i64 v.kt), (w.heap.size, 4, .slice A.b v.us.length A.d), (w.heap.size, 5, .slice A.g v.hl.length A.f), (w.heap.size, 6, .int .i64 v.ht), (w.heap.size, 7, .string v.hk), (w.heap.size, 8, .int .i64 v.la), (w4.heap.size, 0, .string v.x), (w4.heap.size, 1, .int .i64 v.i), (w4.heap.size, 2, .slice A2.a v.ks.length A2.c), (w4.heap.size, 3, .int .i64 v.kt), (w4.heap.size, 4, .slice A2.b v.us.length A2.d), (w4.heap.size, 5, .slice A2.g v.hl.length A2.f), (w4.heap.size, 6, .int .i64 v.ht), (w4.heap.size, 7, .string v.hk), (w4.heap.size, 8, .int .i64 v.la)] w5.drew from RP.below ⟨HX5.out, fun W W' hb h => h.below hb, HY.out, by
      intro v hv
      simp only [List.mem_cons, List.not_mem_nil, or_false] at hv
      rcases hv with rfl | rfl | rfl | rfl | rfl | rfl | rfl | rfl | rfl | rfl | rfl | rfl | rfl | rfl | rfl | rfl | rfl | rfl
      · exact v0c0
      · exact v0c1
      · exact v0c2
      · exact v0c3
      · exact v0c4
      · exact v0c5
      · exact v0c6
      · exact v0c7
      · exact v0c8
      · exact v1c0
      · exact v1c1
      · exact v1c2
      · exact v1c3
      · exact v1c4
      · exact v1c5
      · exact v1c6
      · exact v1c7
      · exact v1c8⟩ (drew_belowW _))
    clear v0c0 v0c1 v0c2 v0c3 v0c4 v0c5 v0c6 v0c7 v0c8 v1c0 v1c1 v1c2 v1c3 v1c4 v1c5 v1c6 v1c7 v1c8 v0z v1z
    have v0c0 := HS.out.vars (w.heap.size, 0, .string v.x) (by simp)
    have v0c1 := HS.out.vars (w.heap.size, 1, .int .i64 v.i) (by simp)
    have v0c2 := HS.out.vars (w.heap.size, 2, .slice A.a v.ks.length A.c) (by simp)
    have v0c3 := HS.out.vars (w.heap.size, 3, .int .i64 v.kt) (by simp)
    have v0c4 := HS.out.vars (w.heap.size, 4, .slice A.b v.us.length A.d) (by simp)
    have v0c5 := HS.out.vars (w.heap.size, 5, .slice A.g v.hl.length A.f) (by simp)
    have v0c6 := HS.out.vars (w.heap.size, 6, .int .i64 v.ht) (by simp)
    have v0c7 := HS.out.vars (w.heap.size, 7, .string v.hk) (by simp)
    have v0c8 := HS.out.vars (w.heap.size, 8, .int .i64 v.la) (by simp)
    have v1c0 := HS.out.vars (w4.heap.size, 0, .string v.x) (by simp)
    have v1c1 := HS.out.vars (w4.heap.size, 1, .int .i64 v.i) (by simp)
    have v1c2 := HS.out.vars (w4.heap.size, 2, .slice A2.a v.ks.length A2.c) (by simp)
    have v1c3 := HS.out.vars (w4.heap.size, 3, .int .i64 v.kt) (by simp)
    have v1c4 := HS.out.vars (w4.heap.size, 4, .slice A2.b v.us.length A2.d) (by simp)
    have v1c5 := HS.out.vars (w4.heap.size, 5, .slice A2.g v.hl.length A2.f) (by simp)
    have v1c6 := HS.out.vars (w4.heap.size, 6, .int .i64 v.ht) (by simp)
    have v1c7 := HS.out.vars (w4.heap.size, 7, .string v.hk) (by simp)
    have v1c8 := HS.out.vars (w4.heap.size, 8, .int .i64 v.la) (by simp)
    go_region_held3 (fun w' => w'.cell? ⟨w.heap.size, 0, none⟩ = some (.string v.x) ∧ w'.cell? ⟨w.heap.size, 1, none⟩ = some (.int .i64 v.i) ∧ w'.cell? ⟨w.heap.size, 2, none⟩ = some (.slice A.a v.ks.length A.c) ∧ w'.cell? ⟨w.heap.size, 3, none⟩ = some (.int .i64 v.kt) ∧ w'.cell? ⟨w.heap.size, 4, none⟩ = some (.slice A.b v.us.length A.d) ∧ w'.cell? ⟨w.heap.size, 5, none⟩ = some (.slice A.g v.hl.length A.f) ∧ w'.cell? ⟨w.heap.size, 6, none⟩ = some (.int .i64 v.ht) ∧ w'.cell? ⟨w.heap.size, 7, none⟩ = some (.string v.hk) ∧ w'.cell? ⟨w.heap.size, 8, none⟩ = some (.int .i64 v.la) ∧ w'.cell? ⟨w4.heap.size, 0, none⟩ = some (.string v.x) ∧ w'.cell? ⟨w4.heap.size, 1, none⟩ = some (.int .i64 v.i) ∧ w'.cell? ⟨w4.heap.size, 2, none⟩ = some (.slice A2.a v.ks.length A2.c) ∧ w'.cell? ⟨w4.heap.size, 3, none⟩ = some (.int .i64 v.kt) ∧ w'.cell? ⟨w4.heap.size, 4, none⟩ = some (.slice A2.b v.us.length A2.d) ∧ w'.cell? ⟨w4.heap.size, 5, none⟩ = some (.slice A2.g v.hl.length A2.f) ∧ w'.cell? ⟨w4.heap.size, 6, none⟩ = some (.int .i64 v.ht) ∧ w'.cell? ⟨w4.heap.size, 7, none⟩ = some (.string v.hk) ∧ w'.cell? ⟨w4.heap.size, 8, none⟩ = some (.int .i64 v.la)) (go_keep)
      (first
        | (go_at_call 7
           refine (HT.out _ HS.out.bel).mono ?_
           rintro e w6 ⟨A3, rfl, hu, _, hb⟩
           have HU := Lib.hid hu
           have HS := Lib.hid (HS.out.below hb)
           clear v0c0 v0c1 v0c2 v0c3 v0c4 v0c5 v0c6 v0c7 v0c8 v1c0 v1c1 v1c2 v1c3 v1c4 v1c5 v1c6 v1c7 v1c8
           have v0c0 := HS.out.vars (w.heap.size, 0, .string v.x) (by simp)
           have v0c1 := HS.out.vars (w.heap.size, 1, .int .i64 v.i) (by simp)
           have v0c2 := HS.out.vars (w.heap.size, 2, .slice A.a v.ks.length A.c) (by simp)
           have v0c3 := HS.out.vars (w.heap.size, 3, .int .i64 v.kt) (by simp)
           have v0c4 := HS.out.vars (w.heap.size, 4, .slice A.b v.us.length A.d) (by simp)
           have v0c5 := HS.out.vars (w.heap.size, 5, .slice A.g v.hl.length A.f) (by simp)
           have v0c6 := HS.out.vars (w.heap.size, 6, .int .i64 v.ht) (by simp)
           have v0c7 := HS.out.vars (w.heap.size, 7, .string v.hk) (by simp)
           have v0c8 := HS.out.vars (w.heap.size, 8, .int .i64 v.la) (by simp)
           have v1c0 := HS.out.vars (w4.heap.size, 0, .string v.x) (by simp)
           have v1c1 := HS.out.vars (w4.heap.size, 1, .int .i64 v.i) (by simp)
           have v1c2 := HS.out.vars (w4.heap.size, 2, .slice A2.a v.ks.length A2.c) (by simp)
           have v1c3 := HS.out.vars (w4.heap.size, 3, .int .i64 v.kt) (by simp)
           have v1c4 := HS.out.vars (w4.heap.size, 4, .slice A2.b v.us.length A2.d) (by simp)
           have v1c5 := HS.out.vars (w4.heap.size, 5, .slice A2.g v.hl.length A2.f) (by simp)
           have v1c6 := HS.out.vars (w4.heap.size, 6, .int .i64 v.ht) (by simp)
           have v1c7 := HS.out.vars (w4.heap.size, 7, .string v.hk) (by simp)
           have v1c8 := HS.out.vars (w4.heap.size, 8, .int .i64 v.la) (by simp)
           clear hb hu)
        | (go_at_call 9
           refine (HE.out A2 A3 _ HS.out.fact HU.out).mono ?_
           rintro e w7 ⟨rfl, hb⟩
           have HS := Lib.hid (HS.out.below hb)
           clear v0c0 v0c1 v0c2 v0c3 v0c4 v0c5 v0c6 v0c7 v0c8 v1c0 v1c1 v1c2 v1c3 v1c4 v1c5 v1c6 v1c7 v1c8
           have v0c0 := HS.out.vars (w.heap.size, 0, .string v.x) (by simp)
           have v0c1 := HS.out.vars (w.heap.size, 1, .int .i64 v.i) (by simp)
           have v0c2 := HS.out.vars (w.heap.size, 2, .slice A.a v.ks.length A.c) (by simp)
           have v0c3 := HS.out.vars (w.heap.size, 3, .int .i64 v.kt) (by simp)
           have v0c4 := HS.out.vars (w.heap.size, 4, .slice A.b v.us.length A.d) (by simp)
           have v0c5 := HS.out.vars (w.heap.size, 5, .slice A.g v.hl.length A.f) (by simp)
           have v0c6 := HS.out.vars (w.heap.size, 6, .int .i64 v.ht) (by simp)
           have v0c7 := HS.out.vars (w.heap.size, 7, .string v.hk) (by simp)
           have v0c8 := HS.out.vars (w.heap.size, 8, .int .i64 v.la) (by simp)
           have v1c0 := HS.out.vars (w4.heap.size, 0, .string v.x) (by simp)
           have v1c1 := HS.out.vars (w4.heap.size, 1, .int .i64 v.i) (by simp)
           have v1c2 := HS.out.vars (w4.heap.size, 2, .slice A2.a v.ks.length A2.c) (by simp)
           have v1c3 := HS.out.vars (w4.heap.size, 3, .int .i64 v.kt) (by simp)
           have v1c4 := HS.out.vars (w4.heap.size, 4, .slice A2.b v.us.length A2.d) (by simp)
           have v1c5 := HS.out.vars (w4.heap.size, 5, .slice A2.g v.hl.length A2.f) (by simp)
           have v1c6 := HS.out.vars (w4.heap.size, 6, .int .i64 v.ht) (by simp)
           have v1c7 := HS.out.vars (w4.heap.size, 7, .string v.hk) (by simp)
           have v1c8 := HS.out.vars (w4.heap.size, 8, .int .i64 v.la) (by simp)
           clear hb ))
    all_goals
      go_wp2
      go_ret
      exact ⟨rfl, HS.out.bel⟩
end Go.Proofs.Ytcgaiegfagckcaa.ed
