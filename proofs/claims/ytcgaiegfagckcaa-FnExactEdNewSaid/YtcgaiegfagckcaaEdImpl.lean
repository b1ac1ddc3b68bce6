/-
  The program's EdRight and EdNew. For every such value. Written by wip/tool/gen_edimpl.py.
-/
import Derived.Test.YtcgaiegfagckcaaEdSpec
import Derived.Test.YtcgaiegfagckcaaKillImpl
import Derived.Test.YtcgaiegfagckcaaUndos
import Derived.Test.YtcgaiegfagckcaaHistImpl
import Derived.Test.YtcgaiegfagckcaaHistFace
namespace Go.Proofs.Ytcgaiegfagckcaa.ed
open Go.ChangeShapes Go.WideShapes Go.ChangeAt Go.RowKit
open Go.Proofs.Ytcgaiegfagckcaa.strs Go.Proofs.Ytcgaiegfagckcaa.lines Go.Proofs.Ytcgaiegfagckcaa.line Go.Proofs.Ytcgaiegfagckcaa.varb
open Go.Proofs.Ytcgaiegfagckcaa.kill (kV killsB implKR_any)
open Go.Proofs.Ytcgaiegfagckcaa.undo (undosB implUndos_any)
open Go.Proofs.Ytcgaiegfagckcaa.hist (hV histB implHist_any ownHist_any)
set_option maxRecDepth 20000 in
set_option maxHeartbeats 1600000 in
theorem implEdRight_any (v : E) (A : EA) (hf : EFit v) (w : World) (h : ERow w A v) :
    Calls Try.prog 8 #[eV v A] w fun e w' => e = .returned (.bool (edB v)) ∧ Below w.heap.size w w' := by
  have hal := (Below.refl _ w).alloc (Nat.le_refl _) (.cells (eC v A).toArray 39)
  have HC1 := Lib.hid (fun W => implLine_any v.x v.i (big_le hf.x) W)
  have HC2 := Lib.hid (fun W (hb : Below w.heap.size w W) => implKR_any A.a A.c v.ks v.kt hf.k (fun s hs => big_le (hf.k1 s hs)) W (h.k.below hb))
  have HC3 := Lib.hid (fun W (hb : Below w.heap.size w W) => implUndos_any A.b A.d v.us hf.u (fun s hs => big_le (hf.u1 s hs)) W (h.u.below hb))
  have HC4 := Lib.hid (fun W (hb : Below w.heap.size w W) => implHist_any A.g A.f v.hl v.ht v.hk hf.h (fun s hs => big_le (hf.h1 s hs)) (big_le hf.hk) W (h.h.below hb))
  obtain ⟨D, hD⟩ : ∃ D, D = edB v := ⟨_, rfl⟩
  obtain ⟨B1, h1⟩ : ∃ B, B = lineB v.x v.i := ⟨_, rfl⟩
  obtain ⟨B2, h2⟩ : ∃ B, B = killsB v.ks v.kt := ⟨_, rfl⟩
  obtain ⟨B3, h3⟩ : ∃ B, B = undosB v.us := ⟨_, rfl⟩
  obtain ⟨B4, h4⟩ : ∃ B, B = histB v.hl v.ht v.hk := ⟨_, rfl⟩
  have HV := Lib.hid (show D = (B1 && (B2 && (B3 && (B4 && (decide (0 ≤ v.la) && decide (v.la ≤ 25)))))) by rw [hD, h1, h2, h3, h4]; rfl)
  rw [← hD]
  rw [← h1] at HC1
  rw [← h2] at HC2
  rw [← h3] at HC3
  rw [← h4] at HC4
  have HB := Lib.hid hal
  clear hD h1 h2 h3 h4 hal h hf
  unfold eV eC kV hV at *
  cases B1
  ·
    go_enter Try.func8, Try.ntmps8
    go_wp2_with fail
    refine (HC1.out _).mono ?_
    rintro e w1 ⟨rfl, hb⟩
    obtain ⟨p1, _⟩ := keepC hb (g := w.heap.size) (by simp)
    have y1 : w.heap.size < w1.heap.size := by have := hb.size; simp at this; omega
    have HB := Lib.hid (bthen HB.out hb (by simp))
    clear hb
    go_wp2
    go_ret
    exact ⟨by rw [HV.out]; simp, HB.out⟩
  cases B2
  ·
    go_enter Try.func8, Try.ntmps8
    go_wp2_with fail
    refine (HC1.out _).mono ?_
    rintro e w1 ⟨rfl, hb⟩
    obtain ⟨p1, _⟩ := keepC hb (g := w.heap.size) (by simp)
    have y1 : w.heap.size < w1.heap.size := by have := hb.size; simp at this; omega
    have HB := Lib.hid (bthen HB.out hb (by simp))
    clear hb
    go_wp2_with fail
    refine (HC2.out _ HB.out).mono ?_
    rintro e w2 ⟨rfl, hb⟩
    obtain ⟨p2, _⟩ := keepC hb (g := w.heap.size) y1
    have y2 : w.heap.size < w2.heap.size := Nat.lt_of_lt_of_le y1 hb.size
    have HB := Lib.hid (bthen HB.out hb HB.out.size)
    clear hb
    go_wp2
    go_ret
    exact ⟨by rw [HV.out]; simp, HB.out⟩
  cases B3
  ·
    go_enter Try.func8, Try.ntmps8
    go_wp2_with fail
    refine (HC1.out _).mono ?_
    rintro e w1 ⟨rfl, hb⟩
    obtain ⟨p1, _⟩ := keepC hb (g := w.heap.size) (by simp)
    have y1 : w.heap.size < w1.heap.size := by have := hb.size; simp at this; omega
    have HB := Lib.hid (bthen HB.out hb (by simp))
    clear hb
    go_wp2_with fail
    refine (HC2.out _ HB.out).mono ?_
    rintro e w2 ⟨rfl, hb⟩
    obtain ⟨p2, _⟩ := keepC hb (g := w.heap.size) y1
    have y2 : w.heap.size < w2.heap.size := Nat.lt_of_lt_of_le y1 hb.size
    have HB := Lib.hid (bthen HB.out hb HB.out.size)
    clear hb
    go_wp2_with fail
    refine (HC3.out _ HB.out).mono ?_
    rintro e w3 ⟨rfl, hb⟩
    obtain ⟨p3, _⟩ := keepC hb (g := w.heap.size) y2
    have y3 : w.heap.size < w3.heap.size := Nat.lt_of_lt_of_le y2 hb.size
    have HB := Lib.hid (bthen HB.out hb HB.out.size)
    clear hb
    go_wp2
    go_ret
    exact ⟨by rw [HV.out]; simp, HB.out⟩
  cases B4
  ·
    go_enter Try.func8, Try.ntmps8
    go_wp2_with fail
    refine (HC1.out _).mono ?_
    rintro e w1 ⟨rfl, hb⟩
    obtain ⟨p1, _⟩ := keepC hb (g := w.heap.size) (by simp)
    have y1 : w.heap.size < w1.heap.size := by have := hb.size; simp at this; omega
    have HB := Lib.hid (bthen HB.out hb (by simp))
    clear hb
    go_wp2_with fail
    refine (HC2.out _ HB.out).mono ?_
    rintro e w2 ⟨rfl, hb⟩
    obtain ⟨p2, _⟩ := keepC hb (g := w.heap.size) y1
    have y2 : w.heap.size < w2.heap.size := Nat.lt_of_lt_of_le y1 hb.size
    have HB := Lib.hid (bthen HB.out hb HB.out.size)
    clear hb
    go_wp2_with fail
    refine (HC3.out _ HB.out).mono ?_
    rintro e w3 ⟨rfl, hb⟩
    obtain ⟨p3, _⟩ := keepC hb (g := w.heap.size) y2
    have y3 : w.heap.size < w3.heap.size := Nat.lt_of_lt_of_le y2 hb.size
    have HB := Lib.hid (bthen HB.out hb HB.out.size)
    clear hb
    go_wp2_with fail
    refine (HC4.out _ HB.out).mono ?_
    rintro e w4 ⟨rfl, hb⟩
    obtain ⟨p4, _⟩ := keepC hb (g := w.heap.size) y3
    have y4 : w.heap.size < w4.heap.size := Nat.lt_of_lt_of_le y3 hb.size
    have HB := Lib.hid (bthen HB.out hb HB.out.size)
    clear hb
    go_wp2
    go_ret
    exact ⟨by rw [HV.out]; simp, HB.out⟩
  by_cases h0 : 0 ≤ v.la
  · have hd : decide (0 ≤ v.la) = true := decide_eq_true h0
    go_enter Try.func8, Try.ntmps8
    go_wp2_with fail
    refine (HC1.out _).mono ?_
    rintro e w1 ⟨rfl, hb⟩
    obtain ⟨p1, _⟩ := keepC hb (g := w.heap.size) (by simp)
    have y1 : w.heap.size < w1.heap.size := by have := hb.size; simp at this; omega
    have HB := Lib.hid (bthen HB.out hb (by simp))
    clear hb
    go_wp2_with fail
    refine (HC2.out _ HB.out).mono ?_
    rintro e w2 ⟨rfl, hb⟩
    obtain ⟨p2, _⟩ := keepC hb (g := w.heap.size) y1
    have y2 : w.heap.size < w2.heap.size := Nat.lt_of_lt_of_le y1 hb.size
    have HB := Lib.hid (bthen HB.out hb HB.out.size)
    clear hb
    go_wp2_with fail
    refine (HC3.out _ HB.out).mono ?_
    rintro e w3 ⟨rfl, hb⟩
    obtain ⟨p3, _⟩ := keepC hb (g := w.heap.size) y2
    have y3 : w.heap.size < w3.heap.size := Nat.lt_of_lt_of_le y2 hb.size
    have HB := Lib.hid (bthen HB.out hb HB.out.size)
    clear hb
    go_wp2_with fail
    refine (HC4.out _ HB.out).mono ?_
    rintro e w4 ⟨rfl, hb⟩
    obtain ⟨p4, _⟩ := keepC hb (g := w.heap.size) y3
    have y4 : w.heap.size < w4.heap.size := Nat.lt_of_lt_of_le y3 hb.size
    have HB := Lib.hid (bthen HB.out hb HB.out.size)
    clear hb
    go_wp2
    go_ret
    exact ⟨by rw [HV.out, hd]; simp, HB.out⟩
  · have hd : decide (0 ≤ v.la) = false := decide_eq_false h0
    go_enter Try.func8, Try.ntmps8
    go_wp2_with fail
    refine (HC1.out _).mono ?_
    rintro e w1 ⟨rfl, hb⟩
    obtain ⟨p1, _⟩ := keepC hb (g := w.heap.size) (by simp)
    have y1 : w.heap.size < w1.heap.size := by have := hb.size; simp at this; omega
    have HB := Lib.hid (bthen HB.out hb (by simp))
    clear hb
    go_wp2_with fail
    refine (HC2.out _ HB.out).mono ?_
    rintro e w2 ⟨rfl, hb⟩
    obtain ⟨p2, _⟩ := keepC hb (g := w.heap.size) y1
    have y2 : w.heap.size < w2.heap.size := Nat.lt_of_lt_of_le y1 hb.size
    have HB := Lib.hid (bthen HB.out hb HB.out.size)
    clear hb
    go_wp2_with fail
    refine (HC3.out _ HB.out).mono ?_
    rintro e w3 ⟨rfl, hb⟩
    obtain ⟨p3, _⟩ := keepC hb (g := w.heap.size) y2
    have y3 : w.heap.size < w3.heap.size := Nat.lt_of_lt_of_le y2 hb.size
    have HB := Lib.hid (bthen HB.out hb HB.out.size)
    clear hb
    go_wp2_with fail
    refine (HC4.out _ HB.out).mono ?_
    rintro e w4 ⟨rfl, hb⟩
    obtain ⟨p4, _⟩ := keepC hb (g := w.heap.size) y3
    have y4 : w.heap.size < w4.heap.size := Nat.lt_of_lt_of_le y3 hb.size
    have HB := Lib.hid (bthen HB.out hb HB.out.size)
    clear hb
    go_wp2
    go_ret
    exact ⟨by rw [HV.out, hd]; simp, HB.out⟩
set_option maxRecDepth 20000 in
set_option maxHeartbeats 1600000 in
theorem implEdNew_any (a : Option Addr) (C : Nat) (l : List ByteArray) (t : Int) (k : ByteArray) (hn : l.length ≤ 1048576) (hl : ∀ s ∈ l, s.size ≤ 1048576) (hk : k.size ≤ 1048576) (w : World) (h : SRow w a l) :
    Calls Try.prog 13 #[hV a l.length C t k] w fun e w' => ∃ A', e = .returned (oV (newV l t k) A') ∧ ERow w' A' (newV l t k).e ∧ EBlk w.heap.size w' A' (newV l t k).e ∧ Below w.heap.size w w' := by
  have hal := ((Below.refl _ w).alloc (Nat.le_refl _) (.cells #[.slice a l.length C, .int .i64 t, .string k] 37)).alloc (by simp) (.cells #[.string ⟨#[]⟩, .int .i64 0, .slice none 0 0, .int .i64 0, .slice none 0 0, .slice none 0 0, .int .i64 0, .string ⟨#[]⟩, .int .i64 0, .bool false, .bool false, .string ⟨#[]⟩, .int .i64 0] 45)
  have HH := Lib.hid (implHist_any a C l t k hn (fun s hs => big_le (hl s hs)) (big_le hk) _ (h.below hal))
  have HC := Lib.hid (fun W (hb : Below w.heap.size w W) => ownHist_any a C l t k hn hl hk W (h.below hb))
  obtain ⟨n, hn'⟩ : ∃ n, n = l.length := ⟨_, rfl⟩
  have HN := Lib.hid hn'
  rw [← hn'] at HH HC hal ⊢
  have HB := Lib.hid hal
  cases hh : histB l t k
  · have HV := Lib.hid (show newV l t k = ⟨zE, false, false, ⟨#[]⟩, 1⟩ by unfold newV; rw [if_neg (by rw [hh]; simp)])
    rw [HV.out]
    rw [hh] at HH
    clear hh HC h hal hn hl hk hn'
    unfold hV oV zE at *
    dsimp only [List.length_nil]
    go_enter Try.func13, Try.ntmps13
    go_wp2_with fail
    refine HH.out.mono ?_
    rintro e w1 ⟨rfl, hb⟩
    obtain ⟨p1, q1⟩ := keepC hb (g := w.heap.size + 1) (by simp)
    have z1 : w.heap.size + 1 < w1.heap.size := by have := hb.size; simp at this; omega
    have HB := Lib.hid (bthen HB.out hb (by simp; omega))
    clear hb
    go_wp2
    exact bodyPost_ret (v := .agg #[.string ⟨#[]⟩, .int .i64 0, .slice none 0 0, .int .i64 0, .slice none 0 0, .slice none 0 0, .int .i64 0, .string ⟨#[]⟩, .int .i64 0, .bool false, .bool false, .string ⟨#[]⟩, .int .i64 1]) (by simp [results, Try.results13, go_sem, p1]) rfl ⟨zA, rfl, zRow _, zBlk _ _, bel13 HB.out (by omega) _ _ _ _ _ _ _ _ _ _ _ _ _⟩
  · have HV := Lib.hid (show newV l t k = ⟨{ zE with hl := l, ht := t, hk := k }, false, false, ⟨#[]⟩, 0⟩ by unfold newV; rw [if_pos hh])
    rw [HV.out]
    rw [hh] at HH
    clear hh h hal hn hl hk hn'
    unfold hV oV zE at *
    dsimp only [List.length_nil]
    go_enter Try.func13, Try.ntmps13
    go_wp2_with fail
    refine HH.out.mono ?_
    rintro e w1 ⟨rfl, hb⟩
    obtain ⟨p0, q0⟩ := keepC hb (g := w.heap.size) (by simp; omega)
    obtain ⟨p1, q1⟩ := keepC hb (g := w.heap.size + 1) (by simp)
    have z1 : w.heap.size + 1 < w1.heap.size := by have := hb.size; simp at this; omega
    have HB := Lib.hid (bthen HB.out hb (by simp; omega))
    clear hb
    go_wp2_with fail
    refine (HC.out _ HB.out).mono ?_
    rintro e w2 ⟨a', c', rfl, s1, s2, hb⟩
    obtain ⟨p2, q2⟩ := keepC hb (g := w.heap.size + 1) z1
    have HB := Lib.hid (bthen HB.out hb HB.out.size)
    have HS1 := Lib.hid s1
    have HS2 := Lib.hid (show SBlk (w.heap.size + 2) w2 a' l.length from by rw [HN.out] at s2; exact SBlk.lo s2 (by omega))
    clear hb s1 s2
    go_wp2
    have o1 := HS1.out
    have o2 := HS2.out
    have hge : ∀ x, blkN a' l.length = some x → w.heap.size + 2 ≤ x := o2.lt
    refine bodyPost_ret (v := .agg #[.string ⟨#[]⟩, .int .i64 0, .slice none 0 0, .int .i64 0, .slice none 0 0, .slice a' n c', .int .i64 t, .string k, .int .i64 0, .bool false, .bool false, .string ⟨#[]⟩, .int .i64 0]) (by simp [results, Try.results13, go_sem, p1, p2]) rfl
      ⟨⟨none, 0, none, 0, a', c'⟩, by rw [HN.out], ⟨SRow.nil _ _, LRow.nil _ _, srow13 o1 _ (fun x e => by have := hge x e; omega) _ _ _ _ _ _ _ _ _ _ _ _ _⟩, ⟨fun h => absurd rfl h, fun h => absurd rfl h, (sblk13 o2 _ (by omega) _ _ _ _ _ _ _ _ _ _ _ _ _).lo (by omega), fun _ e => by simp [blkN] at e, fun _ e => by simp [blkN] at e, fun _ e => by simp [blkN] at e⟩, bel13 HB.out (by omega) _ _ _ _ _ _ _ _ _ _ _ _ _⟩
end Go.Proofs.Ytcgaiegfagckcaa.ed
