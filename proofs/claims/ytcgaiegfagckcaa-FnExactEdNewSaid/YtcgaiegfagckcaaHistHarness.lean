/-
  What the laws do around a Hist: sizes, copies, comparing, writing over. For every such value.
-/
import Derived.Test.YtcgaiegfagckcaaStrs
namespace Go.Proofs.Ytcgaiegfagckcaa.hist
open Go.ChangeShapes Go.WideShapes Go.ChangeAt Go.RowKit
open Go.Proofs.Ytcgaiegfagckcaa.strs
def hV (a : Option Addr) (n c : Nat) (t : Int) (k : ByteArray) : Value := .agg #[.slice a n c, .int .i64 t, .string k]
/-- what is left behind the lines and what is kept -/
def szH (l : List ByteArray) (k : ByteArray) (left : Int) : Int := if szV l left < 0 then -1 else if szV l left < k.size then -1 else szV l left - k.size
theorem szHist_any (a : Option Addr) (C : Nat) (l : List ByteArray) (t : Int) (k : ByteArray) (left : Int) (h0 : 0 ≤ left) (h1 : left ≤ 1048576) (hn : l.length ≤ maxLen) (hl : ∀ s ∈ l, s.size ≤ maxLen) (hk : k.size ≤ maxLen) (w : World) (h : SRow w a l) :
    Calls Try.prog 10 #[hV a l.length C t k, .int .i64 left] w fun e w' => e = .returned (.int .i64 (szH l k left)) ∧ Below w.heap.size w w' := by
  have hal := (Below.refl _ w).alloc (Nat.le_refl _) (.cells #[.slice a l.length C, .int .i64 t, .string k] 29)
  have HC := Lib.hid (szStringS_any a C l left h0 h1 hn hl _ (h.below hal))
  have hzb : szV l left ≤ left := by unfold szV; split <;> omega
  have hz1 : -1 ≤ szV l left := by unfold szV; split <;> omega
  unfold maxLen at hk
  obtain ⟨n, hn'⟩ : ∃ n, n = l.length := ⟨_, rfl⟩
  obtain ⟨z, hz⟩ : ∃ z, z = szV l left := ⟨_, rfl⟩
  have HV := Lib.hid (show szH l k left = if z < 0 then -1 else if z < k.size then -1 else z - k.size by rw [hz]; rfl)
  rw [← hn'] at HC hal ⊢
  rw [← hz] at HC hzb hz1
  have HB := Lib.hid hal
  unfold hV
  clear h hl hn hn' hal hz
  by_cases h2 : z < 0
  · have HV := Lib.hid (show szH l k left = -1 by rw [HV.out, if_pos h2])
    go_enter Try.func10, Try.ntmps10
    go_wp2_with fail
    refine HC.out.mono ?_
    rintro e w1 ⟨rfl, rfl⟩
    go_wp2
    go_ret
    exact ⟨by rw [HV.out]; rfl, HB.out⟩
  by_cases h3 : z < k.size
  · have HV := Lib.hid (show szH l k left = -1 by rw [HV.out, if_neg h2, if_pos h3])
    have hw : z - (k.size : Int) < 0 := by omega
    have hz0 : 0 ≤ z := by omega
    clear h2
    go_enter Try.func10, Try.ntmps10
    go_wp2_with fail
    refine HC.out.mono ?_
    rintro e w1 ⟨rfl, rfl⟩
    go_wp2
    go_ret
    exact ⟨by rw [HV.out]; rfl, HB.out⟩
  · have HV := Lib.hid (show szH l k left = z - k.size by rw [HV.out, if_neg h2, if_neg h3])
    have hw : ¬ z - (k.size : Int) < 0 := by omega
    have hz0 : 0 ≤ z := by omega
    clear h2 h3
    go_enter Try.func10, Try.ntmps10
    go_wp2_with fail
    refine HC.out.mono ?_
    rintro e w1 ⟨rfl, rfl⟩
    go_wp2
    go_ret
    exact ⟨by rw [HV.out]; rfl, HB.out⟩
theorem toStringS_g (a : Option Addr) (C : Nat) (l : List ByteArray) (hn : l.length ≤ 1048576) (w : World) (h : SRow w a l) :
    Calls Try.prog 39 #[.slice a l.length C] w fun e w' => ∃ g, e = .returned (.slice (some ⟨g, 0, none⟩) l.length l.length) ∧ SRow w' (some ⟨g, 0, none⟩) l ∧ SBlk w.heap.size w' (some ⟨g, 0, none⟩) l.length ∧ Below w.heap.size w w' :=
  (toStringS_any a C l hn w h).mono fun _ _ ⟨e1, e2, e3, e4, _⟩ => ⟨_, e1, e2, e3, e4⟩
set_option maxHeartbeats 1600000 in
theorem toHist_any (a : Option Addr) (C : Nat) (l : List ByteArray) (t : Int) (k : ByteArray) (hn : l.length ≤ 1048576) (w : World) (h : SRow w a l) :
    Calls Try.prog 12 #[hV a l.length C t k] w fun e w' => ∃ g, e = .returned (hV (some ⟨g, 0, none⟩) l.length l.length t k) ∧ SRow w' (some ⟨g, 0, none⟩) l ∧ SBlk w.heap.size w' (some ⟨g, 0, none⟩) l.length ∧ Below w.heap.size w w' := by
  have hal := (((Below.refl _ w).alloc (Nat.le_refl _) (.cells #[.slice a l.length C, .int .i64 t, .string k] 29)).alloc (by simp) (.cells #[.slice none 0 0, .int .i64 0, .string ⟨#[]⟩] 37)).alloc (by simp; omega) (.cells #[.slice none 0 0, .int .i64 0, .string ⟨#[]⟩] 37)
  have HC := Lib.hid (toStringS_g a C l hn _ (h.below hal))
  obtain ⟨n, hn'⟩ : ∃ n, n = l.length := ⟨_, rfl⟩
  have hn'' := hn'
  rw [← hn'] at HC hal ⊢
  have HB := Lib.hid hal
  unfold hV
  clear h hn hn' hal
  have HNN := Lib.hid hn''
  clear hn''
  go_enter Try.func12, Try.ntmps12
  go_wp2_with fail
  refine HC.out.mono ?_
  rintro e w1 ⟨g, rfl, hr, hb, hb1⟩
  obtain ⟨p0, q0⟩ := keepC hb1 (g := w.heap.size) (by simp <;> omega)
  obtain ⟨p1, q1⟩ := keepC hb1 (g := w.heap.size + 1) (by simp <;> omega)
  obtain ⟨p2, q2⟩ := keepC hb1 (g := w.heap.size + 1 + 1) (by simp)
  have HR := Lib.hid hr
  have HS := Lib.hid (SBlk.lo (b' := w.heap.size) hb (by simp <;> omega))
  have HX := Lib.hid (bthen HB.out hb1 (by simp <;> omega))
  have HG := Lib.hid (show ∀ (x : Nat), x < w.heap.size + 3 → n ≠ 0 → g ≠ x from fun x hx hn => by
    obtain ⟨g', o, e, h1, _⟩ := hb hn
    injection e with e
    injection e with e
    simp at h1
    omega)
  have HL := Lib.hid (show l ≠ [] → n ≠ 0 from fun e e2 => e (List.eq_nil_of_length_eq_zero (by rw [← HNN.out]; exact e2)))
  clear hr hb hb1
  go_wp2
  refine bodyPost_ret (v := hV (some ⟨g, 0, none⟩) n n t k) (by simp [hV, results, Try.results12, go_sem, p1]) rfl ⟨g, rfl, ?_, ?_, ?_⟩
  · have h1 : ∀ x, x < w.heap.size + 3 → l ≠ [] → g ≠ x := fun x hx hl => HG.out x hx (HL.out hl)
    exact (((((HR.out.set (h1 _ (by omega))).set (h1 _ (by omega))).set (h1 _ (by omega))).set (h1 _ (by omega))).set (h1 _ (by omega))).set (h1 _ (by omega))
  · have h1 : ∀ x, x < w.heap.size + 3 → n ≠ 0 → g ≠ x := HG.out
    exact (((((HS.out.set (h1 _ (by omega))).set (h1 _ (by omega))).set (h1 _ (by omega))).set (h1 _ (by omega))).set (h1 _ (by omega))).set (h1 _ (by omega))
  · have q2 : w.heap.size ≤ w.heap.size + 1 + 1 := by omega
    have q1 : w.heap.size ≤ w.heap.size + 1 := by omega
    exact (((((HX.out.setCell (p := ⟨w.heap.size + 1 + 1, 0, none⟩) q2 _).setCell (p := ⟨w.heap.size + 1 + 1, 1, none⟩) q2 _).setCell (p := ⟨w.heap.size + 1 + 1, 2, none⟩) q2 _).setCell (p := ⟨w.heap.size + 1, 0, none⟩) q1 _).setCell (p := ⟨w.heap.size + 1, 1, none⟩) q1 _).setCell (p := ⟨w.heap.size + 1, 2, none⟩) q1 _
theorem eqHist_same (a b : Option Addr) (C D : Nat) (l : List ByteArray) (t : Int) (k : ByteArray) (hn : l.length ≤ 1048576) (w : World) (ha : SRow w a l) (hb : SRow w b l) :
    Calls Try.prog 15 #[hV a l.length C t k, hV b l.length D t k] w fun e w' => e = .returned (.bool true) ∧ Below w.heap.size w w' := by
  have hal := ((Below.refl _ w).alloc (Nat.le_refl _) (.cells #[.slice a l.length C, .int .i64 t, .string k] 37)).alloc (by simp) (.cells #[.slice b l.length D, .int .i64 t, .string k] 37)
  have HC := Lib.hid (eqStringS_same a b C D l hn _ (ha.below hal) (hb.below hal))
  obtain ⟨n, hn'⟩ : ∃ n, n = l.length := ⟨_, rfl⟩
  rw [← hn'] at HC hal ⊢
  have HB := Lib.hid hal
  unfold hV
  clear ha hb hn hn' hal
  go_enter Try.func15, Try.ntmps15
  go_wp2_with fail
  refine HC.out.mono ?_
  rintro e w1 ⟨rfl, hb1⟩
  obtain ⟨p0, _⟩ := keepC hb1 (g := w.heap.size) (by simp; omega)
  obtain ⟨p1, _⟩ := keepC hb1 (g := w.heap.size + 1) (by simp)
  have HX := Lib.hid (bthen HB.out hb1 (by simp; omega))
  clear hb1
  go_wp2
  go_ret
  exact ⟨rfl, HX.out⟩
theorem markHist_any (base : Nat) (a : Option Addr) (n C p : Nat) (t : Int) (k : ByteArray) (hp : 0 < p) (hn : p + n ≤ 5000000) (w : World) (h : SBlk base w a n) :
    Calls Try.prog 16 #[hV a n C t k, .int .i64 p] w fun e w' => e = .returned (.int .i64 (p + n : Nat)) ∧ SRow w' a (markS p n) ∧ w.grownBy w' (blkN a n) := by
  have hal := (Below.refl _ w).alloc (Nat.le_refl _) (.cells #[.slice a n C, .int .i64 t, .string k] 37)
  have HC := Lib.hid (markStringS_any base a n C p hp hn _ (h.below hal))
  have HB := Lib.hid (grown_below (r := blkN a n) hal)
  unfold hV
  clear h hal
  go_enter Try.func16, Try.ntmps16
  go_wp2_with fail
  refine HC.out.mono ?_
  rintro e w1 ⟨rfl, hr, hg⟩
  have HR := Lib.hid hr
  have HG := Lib.hid (grown_trans HB.out hg)
  clear hr hg
  go_wp2
  go_ret
  exact ⟨rfl, HR.out, HG.out⟩
theorem heldHist_any (a : Option Addr) (n C p : Nat) (t : Int) (k : ByteArray) (hp : 0 < p) (hn : p + n ≤ 5000000) (w : World) (h : SRow w a (markS p n)) :
    Calls Try.prog 63 #[hV a n C t k, .int .i64 p] w fun e w' => e = .returned (.int .i64 (p + n : Nat)) ∧ Below w.heap.size w w' := by
  have hal := (Below.refl _ w).alloc (Nat.le_refl _) (.cells #[.slice a n C, .int .i64 t, .string k] 37)
  have HC := Lib.hid (heldStringS_any a n C p hp hn _ (h.below hal))
  have HB := Lib.hid hal
  have hpos : ¬ ((p + n : Nat) : Int) < 0 := by omega
  unfold hV
  clear h hal
  go_enter Try.func63, Try.ntmps63
  go_wp2_with fail
  refine HC.out.mono ?_
  rintro e w1 ⟨rfl, hb1⟩
  have HX := Lib.hid (bthen HB.out hb1 (by simp))
  clear hb1
  go_wp2
  go_ret
  exact ⟨rfl, HX.out⟩
end Go.Proofs.Ytcgaiegfagckcaa.hist
