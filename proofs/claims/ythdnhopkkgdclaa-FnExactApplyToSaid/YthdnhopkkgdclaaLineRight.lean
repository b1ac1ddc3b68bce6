/-
  A right line: the program and the model tell the same; two answers that are alike are taken as alike. For every line that the row reads.
-/
import Derived.Test.YthdnhopkkgdclaaLine
namespace Go.Proofs.Ythdnhopkkgdclaa.line
open Go.ChangeShapes Go.WideShapes Go.ChangeAt Go.RowKit
noncomputable def lineB (s : ByteArray) (a : Int) : Bool := textB s && (decide (0 ≤ a) && decide (a ≤ s.size))
theorem lineB_ok {s : ByteArray} {a : Int} (h : lineB s a = true) : s.size ≤ 60 ∧ Pr s s.size ∧ 0 ≤ a ∧ a ≤ s.size := by
  simp only [lineB, Bool.and_eq_true, decide_eq_true_eq] at h
  have := textB_ok h.1
  exact ⟨this.1, this.2, h.2.1, h.2.2⟩
theorem is_any (n l h : Int) (w : World) :
    Calls Try.prog 40 #[.int .i64 n, .int .i64 l, .int .i64 h] w fun e w' => e = .returned (.bool (decide (l ≤ n) && decide (n ≤ h))) ∧ w = w' := by
  by_cases hl : l ≤ n
  · go_enter Try.func40, Try.ntmps40
    go_wp2
    go_ret
    exact ⟨by simp [hl], rfl⟩
  · have hf : decide (l ≤ n) = false := by simpa using hl
    go_enter Try.func40, Try.ntmps40
    go_wp2
    go_ret
    exact ⟨by simp, rfl⟩
def lineV (s : ByteArray) (a : Int) : Value := .agg #[.string s, .int .i64 a]
def outV (s : ByteArray) (a : Int) (g : ByteArray) (c : Int) : Value := .agg #[.string s, .int .i64 a, .string g, .int .i64 c]
theorem specLine_any (s : ByteArray) (a : Int) (hs : s.size ≤ maxLen) (w : World) :
    Calls Try.prog 38 #[.agg #[.string s, .int .i64 a]] w fun e w' => e = .returned (.bool (lineB s a)) ∧ Below w.heap.size w w' := by
  have H := Lib.hid hs
  unfold maxLen at hs
  cases ht : textB s
  · have hl : lineB s a = false := by simp [lineB, ht]
    have HL := Lib.hid hl
    clear hl
    go_enter Try.func38, Try.ntmps38
    go_wp2_with (go_at_call 21; refine (specRight_any _ H.out _).mono ?_; rintro e w1 ⟨rfl, rfl⟩)
    go_ret
    exact ⟨by rw [HL.out]; rfl, (Below.refl _ w).alloc (Nat.le_refl _) _⟩
  · have hl : lineB s a = (decide (0 ≤ a) && decide (a ≤ s.size)) := by simp [lineB, ht]
    have HL := Lib.hid hl
    clear hl
    go_enter Try.func38, Try.ntmps38
    go_wp2_with (first | (go_at_call 21; refine (specRight_any _ H.out _).mono ?_; rintro e w1 ⟨rfl, rfl⟩) | (go_at_call 40; refine (is_any _ _ _ _).mono ?_; rintro e w1 ⟨rfl, rfl⟩))
    go_ret
    exact ⟨by rw [HL.out]; rfl, (Below.refl _ w).alloc (Nat.le_refl _) _⟩
theorem ill_any (c : Int) (w : World) :
    Calls Try.prog 39 #[.int .i64 c] w fun e w' => e = .returned (.agg #[.string ⟨#[]⟩, .int .i64 0, .string ⟨#[]⟩, .int .i64 c]) ∧ Below w.heap.size w w' := by
  go_enter Try.func39, Try.ntmps39
  go_wp2
  exact bodyPost_ret (v := .agg #[.string ⟨#[]⟩, .int .i64 0, .string ⟨#[]⟩, .int .i64 c]) (by simp [results, Try.results39, go_sem]) rfl
    ⟨rfl, (Below.refl _ w).alloc (Nat.le_refl _) _⟩
theorem eqLine_same (s : ByteArray) (a : Int) (w : World) :
    Calls Try.prog 45 #[.agg #[.string s, .int .i64 a], .agg #[.string s, .int .i64 a]] w fun e w' => e = .returned (.bool true) ∧ Below w.heap.size w w' := by
  go_enter Try.func45, Try.ntmps45
  go_wp2
  go_ret
  exact ⟨rfl, ((Below.refl _ _).alloc (Nat.le_refl _) _).alloc (by simp) _⟩
theorem eqOut_same (s : ByteArray) (a : Int) (g : ByteArray) (c : Int) (w : World) :
    Calls Try.prog 27 #[.agg #[.string s, .int .i64 a, .string g, .int .i64 c], .agg #[.string s, .int .i64 a, .string g, .int .i64 c]] w fun e w' => e = .returned (.bool true) ∧ Below w.heap.size w w' := by
  go_enter Try.func27, Try.ntmps27
  go_wp2_with fail
  refine (eqLine_same _ _ _).mono ?_
  rintro e w1 ⟨rfl, hb1⟩
  obtain ⟨k1, k2⟩ := keepC hb1 (g := w.heap.size) (by simp; omega)
  obtain ⟨k3, k4⟩ := keepC hb1 (g := w.heap.size + 1) (by simp)
  have HB1 := Lib.hid hb1
  clear hb1
  go_wp2
  go_ret
  exact ⟨rfl, bthen (((Below.refl _ _).alloc (Nat.le_refl _) _).alloc (by simp) _) HB1.out (by simp; omega)⟩
end Go.Proofs.Ythdnhopkkgdclaa.line
