/-
  The model's EdRight and EdNew. For every such value. Written by wip/tool/gen_edspec.py.
-/
import Derived.Test.YtcgaiegfagckcaaEdHarness
import Derived.Test.YtcgaiegfagckcaaKillRight
import Derived.Test.YtcgaiegfagckcaaUndos
import Derived.Test.YtcgaiegfagckcaaHistRight
import Derived.Test.YtcgaiegfagckcaaHistCopy
import Derived.Deep.RegionHeld3
namespace Go.Proofs.Ytcgaiegfagckcaa.ed
open Go.ChangeShapes Go.WideShapes Go.ChangeAt Go.RowKit
open Go.Proofs.Ytcgaiegfagckcaa.strs Go.Proofs.Ytcgaiegfagckcaa.lines Go.Proofs.Ytcgaiegfagckcaa.line Go.Proofs.Ytcgaiegfagckcaa.varb
open Go.Proofs.Ytcgaiegfagckcaa.kill (kV killsB specKills_any own_krN KR own_lo own_set)
open Go.Proofs.Ytcgaiegfagckcaa.undo (undosB specUndos_any)
open Go.Proofs.Ytcgaiegfagckcaa.hist (hV histB specHist_any copyH_any)
noncomputable def edB (v : E) : Bool := lineB v.x v.i && (killsB v.ks v.kt && (undosB v.us && (histB v.hl v.ht v.hk && (decide (0 ≤ v.la) && decide (v.la ≤ 25)))))
theorem big_le {n : Nat} (h : n ≤ 1048576) : n ≤ maxLen := by unfold maxLen; omega
set_option maxRecDepth 20000 in
set_option maxHeartbeats 1600000 in
theorem specEdRight_any (v : E) (A : EA) (hf : EFit v) (w : World) (h : ERow w A v) :
    Calls Try.prog 6 #[eV v A] w fun e w' => e = .returned (.bool (edB v)) ∧ Below w.heap.size w w' := by
  have hal := (Below.refl _ w).alloc (Nat.le_refl _) (.cells (eC v A).toArray 39)
  have HC1 := Lib.hid (fun W => specLine_any v.x v.i (big_le hf.x) W)
  have HC2 := Lib.hid (fun W (hb : Below w.heap.size w W) => specKills_any A.a A.c v.ks v.kt hf.k (fun s hs => big_le (hf.k1 s hs)) W (h.k.below hb))
  have HC3 := Lib.hid (fun W (hb : Below w.heap.size w W) => specUndos_any A.b A.d v.us hf.u (fun s hs => big_le (hf.u1 s hs)) W (h.u.below hb))
  have HC4 := Lib.hid (fun W (hb : Below w.heap.size w W) => specHist_any A.g A.f v.hl v.ht v.hk hf.h (fun s hs => big_le (hf.h1 s hs)) (big_le hf.hk) W (h.h.below hb))
  have HC5 := Lib.hid (is_any v.la 0 25)
  obtain ⟨D, hD⟩ : ∃ D, D = edB v := ⟨_, rfl⟩
  obtain ⟨B1, h1⟩ : ∃ B, B = lineB v.x v.i := ⟨_, rfl⟩
  obtain ⟨B2, h2⟩ : ∃ B, B = killsB v.ks v.kt := ⟨_, rfl⟩
  obtain ⟨B3, h3⟩ : ∃ B, B = undosB v.us := ⟨_, rfl⟩
  obtain ⟨B4, h4⟩ : ∃ B, B = histB v.hl v.ht v.hk := ⟨_, rfl⟩
  obtain ⟨B5, h5⟩ : ∃ B, B = (decide (0 ≤ v.la) && decide (v.la ≤ 25)) := ⟨_, rfl⟩
  have HV := Lib.hid (show D = (B1 && (B2 && (B3 && (B4 && B5)))) by rw [hD, h1, h2, h3, h4, h5]; rfl)
  rw [← hD]
  rw [← h1] at HC1
  rw [← h2] at HC2
  rw [← h3] at HC3
  rw [← h4] at HC4
  rw [← h5] at HC5
  have HB := Lib.hid hal
  clear hD h1 h2 h3 h4 h5 hal h hf
  unfold eV eC kV hV at *
  cases B1
  · go_enter Try.func6, Try.ntmps6
    go_wp2_with fail
    refine (HC1.out _).mono ?_
    rintro e w1 ⟨rfl, hb⟩
    obtain ⟨p1, _⟩ := keepC hb (g := w.heap.size) (by simp)
    have y1 : w.heap.size < w1.heap.size := by have := hb.size; simp at this; omega
    have HB := Lib.hid (bthen HB.out hb (by simp))
    clear hb
    go_wp2
    go_ret
    exact ⟨by rw [HV.out]; simp, HB.out⟩
  cases B2
  · go_enter Try.func6, Try.ntmps6
    go_wp2_with fail
    refine (HC1.out _).mono ?_
    rintro e w1 ⟨rfl, hb⟩
    obtain ⟨p1, _⟩ := keepC hb (g := w.heap.size) (by simp)
    have y1 : w.heap.size < w1.heap.size := by have := hb.size; simp at this; omega
    have HB := Lib.hid (bthen HB.out hb (by simp))
    clear hb
    go_wp2_with fail
    refine (HC2.out _ HB.out).mono ?_
    rintro e w2 ⟨rfl, hb⟩
    obtain ⟨p2, _⟩ := keepC hb (g := w.heap.size) y1
    have y2 : w.heap.size < w2.heap.size := Nat.lt_of_lt_of_le y1 hb.size
    have HB := Lib.hid (bthen HB.out hb HB.out.size)
    clear hb
    go_wp2
    go_ret
    exact ⟨by rw [HV.out]; simp, HB.out⟩
  cases B3
  · go_enter Try.func6, Try.ntmps6
    go_wp2_with fail
    refine (HC1.out _).mono ?_
    rintro e w1 ⟨rfl, hb⟩
    obtain ⟨p1, _⟩ := keepC hb (g := w.heap.size) (by simp)
    have y1 : w.heap.size < w1.heap.size := by have := hb.size; simp at this; omega
    have HB := Lib.hid (bthen HB.out hb (by simp))
    clear hb
    go_wp2_with fail
    refine (HC2.out _ HB.out).mono ?_
    rintro e w2 ⟨rfl, hb⟩
    obtain ⟨p2, _⟩ := keepC hb (g := w.heap.size) y1
    have y2 : w.heap.size < w2.heap.size := Nat.lt_of_lt_of_le y1 hb.size
    have HB := Lib.hid (bthen HB.out hb HB.out.size)
    clear hb
    go_wp2_with fail
    refine (HC3.out _ HB.out).mono ?_
    rintro e w3 ⟨rfl, hb⟩
    obtain ⟨p3, _⟩ := keepC hb (g := w.heap.size) y2
    have y3 : w.heap.size < w3.heap.size := Nat.lt_of_lt_of_le y2 hb.size
    have HB := Lib.hid (bthen HB.out hb HB.out.size)
    clear hb
    go_wp2
    go_ret
    exact ⟨by rw [HV.out]; simp, HB.out⟩
  cases B4
  · go_enter Try.func6, Try.ntmps6
    go_wp2_with fail
    refine (HC1.out _).mono ?_
    rintro e w1 ⟨rfl, hb⟩
    obtain ⟨p1, _⟩ := keepC hb (g := w.heap.size) (by simp)
    have y1 : w.heap.size < w1.heap.size := by have := hb.size; simp at this; omega
    have HB := Lib.hid (bthen HB.out hb (by simp))
    clear hb
    go_wp2_with fail
    refine (HC2.out _ HB.out).mono ?_
    rintro e w2 ⟨rfl, hb⟩
    obtain ⟨p2, _⟩ := keepC hb (g := w.heap.size) y1
    have y2 : w.heap.size < w2.heap.size := Nat.lt_of_lt_of_le y1 hb.size
    have HB := Lib.hid (bthen HB.out hb HB.out.size)
    clear hb
    go_wp2_with fail
    refine (HC3.out _ HB.out).mono ?_
    rintro e w3 ⟨rfl, hb⟩
    obtain ⟨p3, _⟩ := keepC hb (g := w.heap.size) y2
    have y3 : w.heap.size < w3.heap.size := Nat.lt_of_lt_of_le y2 hb.size
    have HB := Lib.hid (bthen HB.out hb HB.out.size)
    clear hb
    go_wp2_with fail
    refine (HC4.out _ HB.out).mono ?_
    rintro e w4 ⟨rfl, hb⟩
    obtain ⟨p4, _⟩ := keepC hb (g := w.heap.size) y3
    have y4 : w.heap.size < w4.heap.size := Nat.lt_of_lt_of_le y3 hb.size
    have HB := Lib.hid (bthen HB.out hb HB.out.size)
    clear hb
    go_wp2
    go_ret
    exact ⟨by rw [HV.out]; simp, HB.out⟩
  · go_enter Try.func6, Try.ntmps6
    go_wp2_with fail
    refine (HC1.out _).mono ?_
    rintro e w1 ⟨rfl, hb⟩
    obtain ⟨p1, _⟩ := keepC hb (g := w.heap.size) (by simp)
    have y1 : w.heap.size < w1.heap.size := by have := hb.size; simp at this; omega
    have HB := Lib.hid (bthen HB.out hb (by simp))
    clear hb
    go_wp2_with fail
    refine (HC2.out _ HB.out).mono ?_
    rintro e w2 ⟨rfl, hb⟩
    obtain ⟨p2, _⟩ := keepC hb (g := w.heap.size) y1
    have y2 : w.heap.size < w2.heap.size := Nat.lt_of_lt_of_le y1 hb.size
    have HB := Lib.hid (bthen HB.out hb HB.out.size)
    clear hb
    go_wp2_with fail
    refine (HC3.out _ HB.out).mono ?_
    rintro e w3 ⟨rfl, hb⟩
    obtain ⟨p3, _⟩ := keepC hb (g := w.heap.size) y2
    have y3 : w.heap.size < w3.heap.size := Nat.lt_of_lt_of_le y2 hb.size
    have HB := Lib.hid (bthen HB.out hb HB.out.size)
    clear hb
    go_wp2_with fail
    refine (HC4.out _ HB.out).mono ?_
    rintro e w4 ⟨rfl, hb⟩
    obtain ⟨p4, _⟩ := keepC hb (g := w.heap.size) y3
    have y4 : w.heap.size < w4.heap.size := Nat.lt_of_lt_of_le y3 hb.size
    have HB := Lib.hid (bthen HB.out hb HB.out.size)
    clear hb
    go_wp2_with fail
    refine (HC5.out _).mono ?_
    rintro e w5 ⟨rfl, rfl⟩
    go_wp2
    go_ret
    exact ⟨by rw [HV.out]; simp, HB.out⟩
/-- the editor without anything -/
def zE : E := ⟨⟨#[]⟩, 0, [], 0, [], [], 0, ⟨#[]⟩, 0⟩
noncomputable def newV (l : List ByteArray) (t : Int) (k : ByteArray) : EO := if histB l t k = true then ⟨{ zE with hl := l, ht := t, hk := k }, false, false, ⟨#[]⟩, 0⟩ else ⟨zE, false, false, ⟨#[]⟩, 1⟩
theorem new_len (l : List ByteArray) (t : Int) (k : ByteArray) (h : l.length ≤ 1048576) : (newV l t k).e.ks.length ≤ 1048576 ∧ (newV l t k).e.us.length ≤ 1048576 ∧ (newV l t k).e.hl.length ≤ 1048576 := by
  unfold newV
  split
  · exact ⟨Nat.zero_le _, Nat.zero_le _, h⟩
  · exact ⟨Nat.zero_le _, Nat.zero_le _, Nat.zero_le _⟩
def zA : EA := ⟨none, 0, none, 0, none, 0⟩
theorem zRow (W : World) : ERow W zA zE := ⟨SRow.nil _ _, LRow.nil _ _, SRow.nil _ _⟩
theorem bel13 {n b : Nat} {w W : World} (h : Below n w W) (hb : n ≤ b) (v0 v1 v2 v3 v4 v5 v6 v7 v8 v9 v10 v11 v12 : Value) : Below n w (((((((((((((W.setCell ⟨b, 0, none⟩ v0).setCell ⟨b, 1, none⟩ v1).setCell ⟨b, 2, none⟩ v2).setCell ⟨b, 3, none⟩ v3).setCell ⟨b, 4, none⟩ v4).setCell ⟨b, 5, none⟩ v5).setCell ⟨b, 6, none⟩ v6).setCell ⟨b, 7, none⟩ v7).setCell ⟨b, 8, none⟩ v8).setCell ⟨b, 9, none⟩ v9).setCell ⟨b, 10, none⟩ v10).setCell ⟨b, 11, none⟩ v11).setCell ⟨b, 12, none⟩ v12) :=
  (Below.setCell (p := ⟨b, 12, none⟩) (Below.setCell (p := ⟨b, 11, none⟩) (Below.setCell (p := ⟨b, 10, none⟩) (Below.setCell (p := ⟨b, 9, none⟩) (Below.setCell (p := ⟨b, 8, none⟩) (Below.setCell (p := ⟨b, 7, none⟩) (Below.setCell (p := ⟨b, 6, none⟩) (Below.setCell (p := ⟨b, 5, none⟩) (Below.setCell (p := ⟨b, 4, none⟩) (Below.setCell (p := ⟨b, 3, none⟩) (Below.setCell (p := ⟨b, 2, none⟩) (Below.setCell (p := ⟨b, 1, none⟩) (Below.setCell (p := ⟨b, 0, none⟩) h hb v0) hb v1) hb v2) hb v3) hb v4) hb v5) hb v6) hb v7) hb v8) hb v9) hb v10) hb v11) hb v12)
theorem srow13 {W : World} {a : Option Addr} {l : List ByteArray} (h : SRow W a l) (b : Nat) (hne : ∀ x, blkN a l.length = some x → x ≠ b) (v0 v1 v2 v3 v4 v5 v6 v7 v8 v9 v10 v11 v12 : Value) : SRow (((((((((((((W.setCell ⟨b, 0, none⟩ v0).setCell ⟨b, 1, none⟩ v1).setCell ⟨b, 2, none⟩ v2).setCell ⟨b, 3, none⟩ v3).setCell ⟨b, 4, none⟩ v4).setCell ⟨b, 5, none⟩ v5).setCell ⟨b, 6, none⟩ v6).setCell ⟨b, 7, none⟩ v7).setCell ⟨b, 8, none⟩ v8).setCell ⟨b, 9, none⟩ v9).setCell ⟨b, 10, none⟩ v10).setCell ⟨b, 11, none⟩ v11).setCell ⟨b, 12, none⟩ v12) a l :=
  (setA_srow (setA_srow (setA_srow (setA_srow (setA_srow (setA_srow (setA_srow (setA_srow (setA_srow (setA_srow (setA_srow (setA_srow (setA_srow h hne) hne) hne) hne) hne) hne) hne) hne) hne) hne) hne) hne) hne)
theorem lrow13 {W : World} {a : Option Addr} {l : List (ByteArray × Int)} (h : LRow W a l) (b : Nat) (hne : ∀ x, blkN a l.length = some x → x ≠ b) (v0 v1 v2 v3 v4 v5 v6 v7 v8 v9 v10 v11 v12 : Value) : LRow (((((((((((((W.setCell ⟨b, 0, none⟩ v0).setCell ⟨b, 1, none⟩ v1).setCell ⟨b, 2, none⟩ v2).setCell ⟨b, 3, none⟩ v3).setCell ⟨b, 4, none⟩ v4).setCell ⟨b, 5, none⟩ v5).setCell ⟨b, 6, none⟩ v6).setCell ⟨b, 7, none⟩ v7).setCell ⟨b, 8, none⟩ v8).setCell ⟨b, 9, none⟩ v9).setCell ⟨b, 10, none⟩ v10).setCell ⟨b, 11, none⟩ v11).setCell ⟨b, 12, none⟩ v12) a l :=
  (setA_lrow (setA_lrow (setA_lrow (setA_lrow (setA_lrow (setA_lrow (setA_lrow (setA_lrow (setA_lrow (setA_lrow (setA_lrow (setA_lrow (setA_lrow h hne) hne) hne) hne) hne) hne) hne) hne) hne) hne) hne) hne) hne)
theorem sblk13 {W : World} {a : Option Addr} {B n : Nat} (h : SBlk B W a n) (b : Nat) (hne : b < B) (v0 v1 v2 v3 v4 v5 v6 v7 v8 v9 v10 v11 v12 : Value) : SBlk B (((((((((((((W.setCell ⟨b, 0, none⟩ v0).setCell ⟨b, 1, none⟩ v1).setCell ⟨b, 2, none⟩ v2).setCell ⟨b, 3, none⟩ v3).setCell ⟨b, 4, none⟩ v4).setCell ⟨b, 5, none⟩ v5).setCell ⟨b, 6, none⟩ v6).setCell ⟨b, 7, none⟩ v7).setCell ⟨b, 8, none⟩ v8).setCell ⟨b, 9, none⟩ v9).setCell ⟨b, 10, none⟩ v10).setCell ⟨b, 11, none⟩ v11).setCell ⟨b, 12, none⟩ v12) a n :=
  (setA_sblk (setA_sblk (setA_sblk (setA_sblk (setA_sblk (setA_sblk (setA_sblk (setA_sblk (setA_sblk (setA_sblk (setA_sblk (setA_sblk (setA_sblk h hne) hne) hne) hne) hne) hne) hne) hne) hne) hne) hne) hne) hne)
theorem lblk13 {W : World} {a : Option Addr} {B n : Nat} (h : LBlk B W a n) (b : Nat) (hne : b < B) (v0 v1 v2 v3 v4 v5 v6 v7 v8 v9 v10 v11 v12 : Value) : LBlk B (((((((((((((W.setCell ⟨b, 0, none⟩ v0).setCell ⟨b, 1, none⟩ v1).setCell ⟨b, 2, none⟩ v2).setCell ⟨b, 3, none⟩ v3).setCell ⟨b, 4, none⟩ v4).setCell ⟨b, 5, none⟩ v5).setCell ⟨b, 6, none⟩ v6).setCell ⟨b, 7, none⟩ v7).setCell ⟨b, 8, none⟩ v8).setCell ⟨b, 9, none⟩ v9).setCell ⟨b, 10, none⟩ v10).setCell ⟨b, 11, none⟩ v11).setCell ⟨b, 12, none⟩ v12) a n :=
  (setA_lblk (setA_lblk (setA_lblk (setA_lblk (setA_lblk (setA_lblk (setA_lblk (setA_lblk (setA_lblk (setA_lblk (setA_lblk (setA_lblk (setA_lblk h hne) hne) hne) hne) hne) hne) hne) hne) hne) hne) hne) hne) hne)
theorem erow13 {W : World} {A : EA} {v : E} (h : ERow W A v) (b : Nat) (hne : ¬ ein A v b) (v0 v1 v2 v3 v4 v5 v6 v7 v8 v9 v10 v11 v12 : Value) : ERow (((((((((((((W.setCell ⟨b, 0, none⟩ v0).setCell ⟨b, 1, none⟩ v1).setCell ⟨b, 2, none⟩ v2).setCell ⟨b, 3, none⟩ v3).setCell ⟨b, 4, none⟩ v4).setCell ⟨b, 5, none⟩ v5).setCell ⟨b, 6, none⟩ v6).setCell ⟨b, 7, none⟩ v7).setCell ⟨b, 8, none⟩ v8).setCell ⟨b, 9, none⟩ v9).setCell ⟨b, 10, none⟩ v10).setCell ⟨b, 11, none⟩ v11).setCell ⟨b, 12, none⟩ v12) A v :=
  ⟨srow13 h.k b (fun _ e e2 => hne (.inl (e2 ▸ e))) v0 v1 v2 v3 v4 v5 v6 v7 v8 v9 v10 v11 v12, lrow13 h.u b (fun _ e e2 => hne (.inr (.inl (e2 ▸ e)))) v0 v1 v2 v3 v4 v5 v6 v7 v8 v9 v10 v11 v12, srow13 h.h b (fun _ e e2 => hne (.inr (.inr (e2 ▸ e)))) v0 v1 v2 v3 v4 v5 v6 v7 v8 v9 v10 v11 v12⟩
theorem eblk13 {B : Nat} {W : World} {A : EA} {v : E} (h : EBlk B W A v) (b : Nat) (hne : b < B) (v0 v1 v2 v3 v4 v5 v6 v7 v8 v9 v10 v11 v12 : Value) : EBlk B (((((((((((((W.setCell ⟨b, 0, none⟩ v0).setCell ⟨b, 1, none⟩ v1).setCell ⟨b, 2, none⟩ v2).setCell ⟨b, 3, none⟩ v3).setCell ⟨b, 4, none⟩ v4).setCell ⟨b, 5, none⟩ v5).setCell ⟨b, 6, none⟩ v6).setCell ⟨b, 7, none⟩ v7).setCell ⟨b, 8, none⟩ v8).setCell ⟨b, 9, none⟩ v9).setCell ⟨b, 10, none⟩ v10).setCell ⟨b, 11, none⟩ v11).setCell ⟨b, 12, none⟩ v12) A v :=
  ⟨sblk13 h.k b hne v0 v1 v2 v3 v4 v5 v6 v7 v8 v9 v10 v11 v12, lblk13 h.u b hne v0 v1 v2 v3 v4 v5 v6 v7 v8 v9 v10 v11 v12, sblk13 h.h b hne v0 v1 v2 v3 v4 v5 v6 v7 v8 v9 v10 v11 v12, h.ku, h.kh, h.uh⟩
theorem zBlk (B : Nat) (W : World) : EBlk B W zA zE :=
  ⟨fun h => absurd rfl h, fun h => absurd rfl h, fun h => absurd rfl h, fun _ e => by simp [zE, blkN] at e, fun _ e => by simp [zE, blkN] at e, fun _ e => by simp [zE, blkN] at e⟩
set_option maxRecDepth 20000 in
set_option maxHeartbeats 1600000 in
theorem specEdNew_any (a : Option Addr) (C : Nat) (l : List ByteArray) (t : Int) (k : ByteArray) (hz : a = none → C = 0 ∧ l = []) (hn : l.length ≤ 1048576) (hl : ∀ s ∈ l, s.size ≤ 1048576) (hk : k.size ≤ 1048576) (w : World) (h : SRow w a l) :
    Calls Try.prog 11 #[hV a l.length C t k] w fun e w' => ∃ A', e = .returned (oV (newV l t k) A') ∧ ERow w' A' (newV l t k).e ∧ EBlk w.heap.size w' A' (newV l t k).e ∧ Below w.heap.size w w' := by
  have hal := ((Below.refl _ w).alloc (Nat.le_refl _) (.cells #[.slice a l.length C, .int .i64 t, .string k] 37)).alloc (by simp) (.cells #[.string ⟨#[]⟩, .int .i64 0, .slice none 0 0, .int .i64 0, .slice none 0 0, .slice none 0 0, .int .i64 0, .string ⟨#[]⟩, .int .i64 0, .bool false, .bool false, .string ⟨#[]⟩, .int .i64 0] 45)
  have HH := Lib.hid (specHist_any a C l t k hn (fun s hs => big_le (hl s hs)) (big_le hk) _ (h.below hal))
  have HC := Lib.hid (fun W (hb : Below w.heap.size w W) => copyH_any a C l t k hz hn W (h.below hb))
  obtain ⟨n, hn'⟩ : ∃ n, n = l.length := ⟨_, rfl⟩
  have HN := Lib.hid hn'
  rw [← hn'] at HH HC hal ⊢
  have HB := Lib.hid hal
  cases hh : histB l t k
  · have HV := Lib.hid (show newV l t k = ⟨zE, false, false, ⟨#[]⟩, 1⟩ by unfold newV; rw [if_neg (by rw [hh]; simp)])
    rw [HV.out]
    rw [hh] at HH
    clear hh HC h hal hz hn hl hk hn'
    unfold hV oV zE at *
    dsimp only [List.length_nil]
    go_enter Try.func11, Try.ntmps11
    go_wp2_with fail
    refine HH.out.mono ?_
    rintro e w1 ⟨rfl, hb⟩
    obtain ⟨p1, q1⟩ := keepC hb (g := w.heap.size + 1) (by simp)
    have z1 : w.heap.size + 1 < w1.heap.size := by have := hb.size; simp at this; omega
    have HB := Lib.hid (bthen HB.out hb (by simp; omega))
    clear hb
    go_wp2
    exact bodyPost_ret (v := .agg #[.string ⟨#[]⟩, .int .i64 0, .slice none 0 0, .int .i64 0, .slice none 0 0, .slice none 0 0, .int .i64 0, .string ⟨#[]⟩, .int .i64 0, .bool false, .bool false, .string ⟨#[]⟩, .int .i64 1]) (by simp [results, Try.results11, go_sem, p1]) rfl ⟨zA, rfl, zRow _, zBlk _ _, bel13 HB.out (by omega) _ _ _ _ _ _ _ _ _ _ _ _ _⟩
  · have HV := Lib.hid (show newV l t k = ⟨{ zE with hl := l, ht := t, hk := k }, false, false, ⟨#[]⟩, 0⟩ by unfold newV; rw [if_pos hh])
    rw [HV.out]
    rw [hh] at HH
    clear hh h hal hz hn hl hk hn'
    unfold hV oV zE at *
    dsimp only [List.length_nil]
    go_enter Try.func11, Try.ntmps11
    go_wp2_with fail
    refine HH.out.mono ?_
    rintro e w1 ⟨rfl, hb⟩
    obtain ⟨p0, q0⟩ := keepC hb (g := w.heap.size) (by simp; omega)
    obtain ⟨p1, q1⟩ := keepC hb (g := w.heap.size + 1) (by simp)
    have z1 : w.heap.size + 1 < w1.heap.size := by have := hb.size; simp at this; omega
    have HB := Lib.hid (bthen HB.out hb (by simp; omega))
    clear hb
    go_wp2_with fail
    refine (HC.out _ HB.out).mono ?_
    rintro e w2 ⟨a', c', rfl, ho, hb⟩
    obtain ⟨p2, q2⟩ := keepC hb (g := w.heap.size + 1) z1
    have HB := Lib.hid (bthen HB.out hb HB.out.size)
    have HO := Lib.hid (own_lo ho (show w.heap.size + 2 ≤ w1.heap.size by omega))
    clear hb ho
    go_wp2
    have ho := HO.out
    rw [HN.out] at ho
    obtain ⟨a'', c'', e, _, _, o1, o2⟩ := kill.own_open ho
    injection e with ea eb ec
    subst ea
    have hge : ∀ x, blkN a' l.length = some x → w.heap.size + 2 ≤ x := o2.lt
    refine bodyPost_ret (v := .agg #[.string ⟨#[]⟩, .int .i64 0, .slice none 0 0, .int .i64 0, .slice none 0 0, .slice a' n c', .int .i64 t, .string k, .int .i64 0, .bool false, .bool false, .string ⟨#[]⟩, .int .i64 0]) (by simp [results, Try.results11, go_sem, p1, p2]) rfl
      ⟨⟨none, 0, none, 0, a', c'⟩, by rw [HN.out], ⟨SRow.nil _ _, LRow.nil _ _, srow13 o1 _ (fun x e => by have := hge x e; omega) _ _ _ _ _ _ _ _ _ _ _ _ _⟩, ⟨fun h => absurd rfl h, fun h => absurd rfl h, (sblk13 o2 _ (by omega) _ _ _ _ _ _ _ _ _ _ _ _ _).lo (by omega), fun _ e => by simp [blkN] at e, fun _ e => by simp [blkN] at e, fun _ e => by simp [blkN] at e⟩, bel13 HB.out (by omega) _ _ _ _ _ _ _ _ _ _ _ _ _⟩
end Go.Proofs.Ytcgaiegfagckcaa.ed
