/-
  What the laws do around a HistOut: comparing, writing over. For every such value.
-/
import Derived.Test.YtgmbpohbjhaghaaHistHarness
namespace Go.Proofs.Ytgmbpohbjhaghaa.hist
open Go.ChangeShapes Go.WideShapes Go.ChangeAt Go.RowKit
open Go.Proofs.Ytgmbpohbjhaghaa.strs
def oV (a : Option Addr) (n c : Nat) (t : Int) (k x : ByteArray) (co : Int) : Value := .agg #[.slice a n c, .int .i64 t, .string k, .string x, .int .i64 co]
theorem eqOut_same (a b : Option Addr) (C D : Nat) (l : List ByteArray) (t : Int) (k x : ByteArray) (co : Int) (hn : l.length ≤ 1048576) (w : World) (ha : SRow w a l) (hb : SRow w b l) :
    Calls Try.prog 47 #[oV a l.length C t k x co, oV b l.length D t k x co] w fun e w' => e = .returned (.bool true) ∧ Below w.heap.size w w' := by
  have hal := ((Below.refl _ w).alloc (Nat.le_refl _) (.cells #[.slice a l.length C, .int .i64 t, .string k, .string x, .int .i64 co] 63)).alloc (by simp) (.cells #[.slice b l.length D, .int .i64 t, .string k, .string x, .int .i64 co] 63)
  have HC := Lib.hid (eqHist_same a b C D l t k hn _ (ha.below hal) (hb.below hal))
  obtain ⟨n, hn'⟩ : ∃ n, n = l.length := ⟨_, rfl⟩
  rw [← hn'] at HC hal ⊢
  have HB := Lib.hid hal
  unfold hV at HC
  unfold oV
  clear ha hb hn hn' hal
  go_enter Try.func47, Try.ntmps47
  go_wp2_with fail
  refine HC.out.mono ?_
  rintro e w1 ⟨rfl, hb1⟩
  obtain ⟨p0, _⟩ := keepC hb1 (g := w.heap.size) (by simp; omega)
  obtain ⟨p1, _⟩ := keepC hb1 (g := w.heap.size + 1) (by simp)
  have HX := Lib.hid (bthen HB.out hb1 (by simp; omega))
  clear hb1
  go_wp2
  go_ret
  exact ⟨rfl, HX.out⟩
theorem markOut_any (base : Nat) (a : Option Addr) (n C p : Nat) (t : Int) (k x : ByteArray) (co : Int) (hp : 0 < p) (hn : p + n ≤ 5000000) (w : World) (h : SBlk base w a n) :
    Calls Try.prog 49 #[oV a n C t k x co, .int .i64 p] w fun e w' => e = .returned (.int .i64 (p + n : Nat)) ∧ SRow w' a (markS p n) ∧ w.grownBy w' (blkN a n) := by
  have hal := (Below.refl _ w).alloc (Nat.le_refl _) (.cells #[.slice a n C, .int .i64 t, .string k, .string x, .int .i64 co] 63)
  have HC := Lib.hid (markHist_any base a n C p t k hp hn _ (h.below hal))
  have HB := Lib.hid (grown_below (r := blkN a n) hal)
  unfold hV at HC
  unfold oV
  clear h hal
  go_enter Try.func49, Try.ntmps49
  go_wp2_with fail
  refine HC.out.mono ?_
  rintro e w1 ⟨rfl, hr, hg⟩
  have HR := Lib.hid hr
  have HG := Lib.hid (grown_trans HB.out hg)
  clear hr hg
  go_wp2
  go_ret
  exact ⟨rfl, HR.out, HG.out⟩
theorem heldOut_any (a : Option Addr) (n C p : Nat) (t : Int) (k x : ByteArray) (co : Int) (hp : 0 < p) (hn : p + n ≤ 5000000) (w : World) (h : SRow w a (markS p n)) :
    Calls Try.prog 50 #[oV a n C t k x co, .int .i64 p] w fun e w' => e = .returned (.int .i64 (p + n : Nat)) ∧ Below w.heap.size w w' := by
  have hal := (Below.refl _ w).alloc (Nat.le_refl _) (.cells #[.slice a n C, .int .i64 t, .string k, .string x, .int .i64 co] 63)
  have HC := Lib.hid (heldHist_any a n C p t k hp hn _ (h.below hal))
  have HB := Lib.hid hal
  have hpos : ¬ ((p + n : Nat) : Int) < 0 := by omega
  unfold hV at HC
  unfold oV
  clear h hal
  go_enter Try.func50, Try.ntmps50
  go_wp2_with fail
  refine HC.out.mono ?_
  rintro e w1 ⟨rfl, hb1⟩
  have HX := Lib.hid (bthen HB.out hb1 (by simp))
  clear hb1
  go_wp2
  go_ret
  exact ⟨rfl, HX.out⟩
end Go.Proofs.Ytgmbpohbjhaghaa.hist
