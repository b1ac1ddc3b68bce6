/-
  What the laws do around a Hist: sizes, copies, comparing, writing over. For every such value.
-/
import Derived.Test.YtgmbpohbjhaghaaDoorStrs
namespace Go.Proofs.YtgmbpohbjhaghaaDoor.hist
open Go.ChangeShapes Go.WideShapes Go.ChangeAt Go.RowKit
open Go.Proofs.YtgmbpohbjhaghaaDoor.strs
def hV (a : Option Addr) (n c : Nat) (t : Int) (k : ByteArray) : Value := .agg #[.slice a n c, .int .i64 t, .string k]
/-- what is left behind the lines and what is kept -/
def szH (l : List ByteArray) (k : ByteArray) (left : Int) : Int := if szV l left < 0 then -1 else if szV l left < k.size then -1 else szV l left - k.size
theorem eqHist_same (a b : Option Addr) (C D : Nat) (l : List ByteArray) (t : Int) (k : ByteArray) (hn : l.length ≤ 1048576) (w : World) (ha : SRow w a l) (hb : SRow w b l) :
    Calls Tryd.prog 6 #[hV a l.length C t k, hV b l.length D t k] w fun e w' => e = .returned (.bool true) ∧ Below w.heap.size w w' := by
  have hal := ((Below.refl _ w).alloc (Nat.le_refl _) (.cells #[.slice a l.length C, .int .i64 t, .string k] 24)).alloc (by simp) (.cells #[.slice b l.length D, .int .i64 t, .string k] 24)
  have HC := Lib.hid (eqStringS_same a b C D l hn _ (ha.below hal) (hb.below hal))
  obtain ⟨n, hn'⟩ : ∃ n, n = l.length := ⟨_, rfl⟩
  rw [← hn'] at HC hal ⊢
  have HB := Lib.hid hal
  unfold hV
  clear ha hb hn hn' hal
  go_enter Tryd.func6, Tryd.ntmps6
  go_wp2_with fail
  refine HC.out.mono ?_
  rintro e w1 ⟨rfl, hb1⟩
  obtain ⟨p0, _⟩ := keepC hb1 (g := w.heap.size) (by simp; omega)
  obtain ⟨p1, _⟩ := keepC hb1 (g := w.heap.size + 1) (by simp)
  have HX := Lib.hid (bthen HB.out hb1 (by simp; omega))
  clear hb1
  go_wp2
  go_ret
  exact ⟨rfl, HX.out⟩
theorem markHist_any (base : Nat) (a : Option Addr) (n C p : Nat) (t : Int) (k : ByteArray) (hp : 0 < p) (hn : p + n ≤ 5000000) (w : World) (h : SBlk base w a n) :
    Calls Tryd.prog 7 #[hV a n C t k, .int .i64 p] w fun e w' => e = .returned (.int .i64 (p + n : Nat)) ∧ SRow w' a (markS p n) ∧ w.grownBy w' (blkN a n) := by
  have hal := (Below.refl _ w).alloc (Nat.le_refl _) (.cells #[.slice a n C, .int .i64 t, .string k] 24)
  have HC := Lib.hid (markStringS_any base a n C p hp hn _ (h.below hal))
  have HB := Lib.hid (grown_below (r := blkN a n) hal)
  unfold hV
  clear h hal
  go_enter Tryd.func7, Tryd.ntmps7
  go_wp2_with fail
  refine HC.out.mono ?_
  rintro e w1 ⟨rfl, hr, hg⟩
  have HR := Lib.hid hr
  have HG := Lib.hid (grown_trans HB.out hg)
  clear hr hg
  go_wp2
  go_ret
  exact ⟨rfl, HR.out, HG.out⟩
theorem heldHist_any (a : Option Addr) (n C p : Nat) (t : Int) (k : ByteArray) (hp : 0 < p) (hn : p + n ≤ 5000000) (w : World) (h : SRow w a (markS p n)) :
    Calls Tryd.prog 8 #[hV a n C t k, .int .i64 p] w fun e w' => e = .returned (.int .i64 (p + n : Nat)) ∧ Below w.heap.size w w' := by
  have hal := (Below.refl _ w).alloc (Nat.le_refl _) (.cells #[.slice a n C, .int .i64 t, .string k] 24)
  have HC := Lib.hid (heldStringS_any a n C p hp hn _ (h.below hal))
  have HB := Lib.hid hal
  have hpos : ¬ ((p + n : Nat) : Int) < 0 := by omega
  unfold hV
  clear h hal
  go_enter Tryd.func8, Tryd.ntmps8
  go_wp2_with fail
  refine HC.out.mono ?_
  rintro e w1 ⟨rfl, hb1⟩
  have HX := Lib.hid (bthen HB.out hb1 (by simp))
  clear hb1
  go_wp2
  go_ret
  exact ⟨rfl, HX.out⟩
end Go.Proofs.YtgmbpohbjhaghaaDoor.hist
