/-
  What the laws do around Kills: sizes, copies, comparing, writing over. For every such value.
-/
import Derived.Test.YtjjabfcdhknigaaStrs
namespace Go.Proofs.Ytjjabfcdhknigaa.kill
open Go.ChangeShapes Go.WideShapes Go.ChangeAt Go.RowKit
open Go.Proofs.Ytjjabfcdhknigaa.strs
def kV (a : Option Addr) (n c : Nat) (t : Int) : Value := .agg #[.slice a n c, .int .i64 t]
theorem szKills_any (a : Option Addr) (C : Nat) (l : List ByteArray) (t left : Int) (h0 : 0 ≤ left) (h1 : left ≤ 1048576) (hn : l.length ≤ maxLen) (hl : ∀ s ∈ l, s.size ≤ maxLen) (w : World) (h : SRow w a l) :
    Calls Try.prog 7 #[kV a l.length C t, .int .i64 left] w fun e w' => e = .returned (.int .i64 (szV l left)) ∧ Below w.heap.size w w' := by
  have hal := (Below.refl _ w).alloc (Nat.le_refl _) (.cells #[.slice a l.length C, .int .i64 t] 24)
  have HC := Lib.hid (szStringS_any a C l left h0 h1 hn hl _ (h.below hal))
  have HV := Lib.hid (show szV l left = -1 ∨ 0 ≤ szV l left by unfold szV; split <;> omega)
  obtain ⟨n, hn'⟩ : ∃ n, n = l.length := ⟨_, rfl⟩
  obtain ⟨z, hz⟩ : ∃ z, z = szV l left := ⟨_, rfl⟩
  rw [← hn'] at HC hal ⊢
  rw [← hz] at HC HV ⊢
  have HB := Lib.hid hal
  unfold kV
  clear h hl hn hn' hal hz
  rcases HV.out with h2 | h2
  · subst h2
    go_enter Try.func7, Try.ntmps7
    go_wp2_with fail
    refine HC.out.mono ?_
    rintro e w1 ⟨rfl, rfl⟩
    go_wp2
    go_ret
    exact ⟨rfl, HB.out⟩
  · go_enter Try.func7, Try.ntmps7
    go_wp2_with fail
    refine HC.out.mono ?_
    rintro e w1 ⟨rfl, rfl⟩
    go_wp2
    go_ret
    exact ⟨rfl, HB.out⟩
theorem toStringS_g (a : Option Addr) (C : Nat) (l : List ByteArray) (hn : l.length ≤ 1048576) (w : World) (h : SRow w a l) :
    Calls Try.prog 26 #[.slice a l.length C] w fun e w' => ∃ g, e = .returned (.slice (some ⟨g, 0, none⟩) l.length l.length) ∧ SRow w' (some ⟨g, 0, none⟩) l ∧ SBlk w.heap.size w' (some ⟨g, 0, none⟩) l.length ∧ Below w.heap.size w w' :=
  (toStringS_any a C l hn w h).mono fun _ _ ⟨e1, e2, e3, e4, _⟩ => ⟨_, e1, e2, e3, e4⟩
set_option maxHeartbeats 800000 in
theorem toKills_any (a : Option Addr) (C : Nat) (l : List ByteArray) (t : Int) (hn : l.length ≤ 1048576) (w : World) (h : SRow w a l) :
    Calls Try.prog 9 #[kV a l.length C t] w fun e w' => ∃ g, e = .returned (kV (some ⟨g, 0, none⟩) l.length l.length t) ∧ SRow w' (some ⟨g, 0, none⟩) l ∧ SBlk w.heap.size w' (some ⟨g, 0, none⟩) l.length ∧ Below w.heap.size w w' := by
  have hal := (((Below.refl _ w).alloc (Nat.le_refl _) (.cells #[.slice a l.length C, .int .i64 t] 24)).alloc (by simp) (.cells #[.slice none 0 0, .int .i64 0] 27)).alloc (by simp; omega) (.cells #[.slice none 0 0, .int .i64 0] 27)
  have HC := Lib.hid (toStringS_g a C l hn _ (h.below hal))
  obtain ⟨n, hn'⟩ : ∃ n, n = l.length := ⟨_, rfl⟩
  have hn'' := hn'
  rw [← hn'] at HC hal ⊢
  have HB := Lib.hid hal
  unfold kV
  clear h hn hn' hal
  have HNN := Lib.hid hn''
  clear hn''
  go_enter Try.func9, Try.ntmps9
  go_wp2_with fail
  refine HC.out.mono ?_
  rintro e w1 ⟨g, rfl, hr, hb, hb1⟩
  obtain ⟨p0, q0⟩ := keepC hb1 (g := w.heap.size) (by simp <;> omega)
  obtain ⟨p1, q1⟩ := keepC hb1 (g := w.heap.size + 1) (by simp <;> omega)
  obtain ⟨p2, q2⟩ := keepC hb1 (g := w.heap.size + 1 + 1) (by simp)
  have HR := Lib.hid hr
  have HS := Lib.hid (SBlk.lo (b' := w.heap.size) hb (by simp <;> omega))
  have HX := Lib.hid (bthen HB.out hb1 (by simp <;> omega))
  have HG := Lib.hid (show ∀ (x : Nat), x < w.heap.size + 3 → n ≠ 0 → g ≠ x from fun x hx hn => by
    obtain ⟨g', o, e, h1, _⟩ := hb hn
    injection e with e
    injection e with e
    simp at h1
    omega)
  have HL := Lib.hid (show l ≠ [] → n ≠ 0 from fun e e2 => e (List.eq_nil_of_length_eq_zero (by rw [← HNN.out]; exact e2)))
  clear hr hb hb1
  go_wp2
  refine bodyPost_ret (v := kV (some ⟨g, 0, none⟩) n n t) (by simp [kV, results, Try.results9, go_sem, p1]) rfl ⟨g, rfl, ?_, ?_, ?_⟩
  · have h1 : ∀ x, x < w.heap.size + 3 → l ≠ [] → g ≠ x := fun x hx hl => HG.out x hx (HL.out hl)
    exact (((HR.out.set (h1 _ (by omega))).set (h1 _ (by omega))).set (h1 _ (by omega))).set (h1 _ (by omega))
  · have h1 : ∀ x, x < w.heap.size + 3 → n ≠ 0 → g ≠ x := HG.out
    exact (((HS.out.set (h1 _ (by omega))).set (h1 _ (by omega))).set (h1 _ (by omega))).set (h1 _ (by omega))
  · exact (((HX.out.setCell (p := ⟨w.heap.size + 1 + 1, 0, none⟩) (show w.heap.size ≤ w.heap.size + 1 + 1 by omega) _).setCell (p := ⟨w.heap.size + 1 + 1, 1, none⟩) (show w.heap.size ≤ w.heap.size + 1 + 1 by omega) _).setCell (p := ⟨w.heap.size + 1, 0, none⟩) (show w.heap.size ≤ w.heap.size + 1 by omega) _).setCell (p := ⟨w.heap.size + 1, 1, none⟩) (show w.heap.size ≤ w.heap.size + 1 by omega) _
theorem eqKills_same (a b : Option Addr) (C D : Nat) (l : List ByteArray) (t : Int) (hn : l.length ≤ 1048576) (w : World) (ha : SRow w a l) (hb : SRow w b l) :
    Calls Try.prog 11 #[kV a l.length C t, kV b l.length D t] w fun e w' => e = .returned (.bool true) ∧ Below w.heap.size w w' := by
  have hal := ((Below.refl _ w).alloc (Nat.le_refl _) (.cells #[.slice a l.length C, .int .i64 t] 27)).alloc (by simp) (.cells #[.slice b l.length D, .int .i64 t] 27)
  have HC := Lib.hid (eqStringS_same a b C D l hn _ (ha.below hal) (hb.below hal))
  obtain ⟨n, hn'⟩ : ∃ n, n = l.length := ⟨_, rfl⟩
  rw [← hn'] at HC hal ⊢
  have HB := Lib.hid hal
  unfold kV
  clear ha hb hn hn' hal
  go_enter Try.func11, Try.ntmps11
  go_wp2_with fail
  refine HC.out.mono ?_
  rintro e w1 ⟨rfl, hb1⟩
  obtain ⟨p0, _⟩ := keepC hb1 (g := w.heap.size) (by simp; omega)
  obtain ⟨p1, _⟩ := keepC hb1 (g := w.heap.size + 1) (by simp)
  have HX := Lib.hid (bthen HB.out hb1 (by simp; omega))
  clear hb1
  go_wp2
  go_ret
  exact ⟨rfl, HX.out⟩
theorem markKills_any (base : Nat) (a : Option Addr) (n C p : Nat) (t : Int) (hp : 0 < p) (hn : p + n ≤ 5000000) (w : World) (h : SBlk base w a n) :
    Calls Try.prog 16 #[kV a n C t, .int .i64 p] w fun e w' => e = .returned (.int .i64 (p + n : Nat)) ∧ SRow w' a (markS p n) ∧ w.grownBy w' (blkN a n) := by
  have hal := (Below.refl _ w).alloc (Nat.le_refl _) (.cells #[.slice a n C, .int .i64 t] 27)
  have HC := Lib.hid (markStringS_any base a n C p hp hn _ (h.below hal))
  have HB := Lib.hid (grown_below (r := blkN a n) hal)
  unfold kV
  clear h hal
  go_enter Try.func16, Try.ntmps16
  go_wp2_with fail
  refine HC.out.mono ?_
  rintro e w1 ⟨rfl, hr, hg⟩
  have HR := Lib.hid hr
  have HG := Lib.hid (grown_trans HB.out hg)
  clear hr hg
  go_wp2
  go_ret
  exact ⟨rfl, HR.out, HG.out⟩
theorem heldKills_any (a : Option Addr) (n C p : Nat) (t : Int) (hp : 0 < p) (hn : p + n ≤ 5000000) (w : World) (h : SRow w a (markS p n)) :
    Calls Try.prog 17 #[kV a n C t, .int .i64 p] w fun e w' => e = .returned (.int .i64 (p + n : Nat)) ∧ Below w.heap.size w w' := by
  have hal := (Below.refl _ w).alloc (Nat.le_refl _) (.cells #[.slice a n C, .int .i64 t] 27)
  have HC := Lib.hid (heldStringS_any a n C p hp hn _ (h.below hal))
  have HB := Lib.hid hal
  have hpos : ¬ ((p + n : Nat) : Int) < 0 := by omega
  unfold kV
  clear h hal
  go_enter Try.func17, Try.ntmps17
  go_wp2_with fail
  refine HC.out.mono ?_
  rintro e w1 ⟨rfl, hb1⟩
  have HX := Lib.hid (bthen HB.out hb1 (by simp))
  clear hb1
  go_wp2
  go_ret
  exact ⟨rfl, HX.out⟩
end Go.Proofs.Ytjjabfcdhknigaa.kill
