/-
  A right line: the program and the model tell the same; two answers that are alike are taken as alike. For every line that the row reads.
-/
import Derived.Test.YtjjabfcdhknigaaLine
namespace Go.Proofs.Ytjjabfcdhknigaa.line
open Go.ChangeShapes Go.WideShapes Go.ChangeAt Go.RowKit
noncomputable def lineB (s : ByteArray) (a : Int) : Bool := textB s && (decide (0 ≤ a) && decide (a ≤ s.size))
theorem lineB_ok {s : ByteArray} {a : Int} (h : lineB s a = true) : s.size ≤ 60 ∧ Pr s s.size ∧ 0 ≤ a ∧ a ≤ s.size := by
  simp only [lineB, Bool.and_eq_true, decide_eq_true_eq] at h
  have := textB_ok h.1
  exact ⟨this.1, this.2, h.2.1, h.2.2⟩
theorem hasPlace_any (s : ByteArray) (a : Int) (hs : s.size ≤ maxLen) (w : World) :
    Calls Try.prog 54 #[.string s, .int .i64 a] w fun e w' => e = .returned (.bool (decide (0 ≤ a) && decide (a ≤ s.size))) ∧ w = w' := by
  have _h : s.size ≤ 9223372036854775807 := hs
  by_cases h : 0 ≤ a
  · go_enter Try.func54, Try.ntmps54
    go_wp2
    go_ret
    exact ⟨by simp [h], rfl⟩
  · have hf : decide (0 ≤ a) = false := by simpa using h
    go_enter Try.func54, Try.ntmps54
    go_wp2
    go_ret
    exact ⟨by simp, rfl⟩
theorem is_any (n l h : Int) (w : World) :
    Calls Try.prog 25 #[.int .i64 n, .int .i64 l, .int .i64 h] w fun e w' => e = .returned (.bool (decide (l ≤ n) && decide (n ≤ h))) ∧ w = w' := by
  by_cases hl : l ≤ n
  · go_enter Try.func25, Try.ntmps25
    go_wp2
    go_ret
    exact ⟨by simp [hl], rfl⟩
  · have hf : decide (l ≤ n) = false := by simpa using hl
    go_enter Try.func25, Try.ntmps25
    go_wp2
    go_ret
    exact ⟨by simp, rfl⟩
def lineV (s : ByteArray) (a : Int) : Value := .agg #[.string s, .int .i64 a]
def outV (s : ByteArray) (a : Int) (g : ByteArray) (c : Int) : Value := .agg #[.string s, .int .i64 a, .string g, .int .i64 c]
theorem held_any (s : ByteArray) (a : Int) (w : World) :
    Calls Try.prog 52 #[.agg #[.string s, .int .i64 a]] w fun e w' => e = .returned (.agg #[.string s, .int .i64 a]) ∧ Below w.heap.size w w' := by
  go_enter Try.func52, Try.ntmps52
  go_wp2
  exact bodyPost_ret (v := .agg #[.string s, .int .i64 a]) (by simp [results, Try.results52, go_sem]) rfl
    ⟨rfl, ((Below.refl _ w).alloc (Nat.le_refl _) _).alloc (by simp) _⟩
theorem specLine_any (s : ByteArray) (a : Int) (hs : s.size ≤ maxLen) (w : World) :
    Calls Try.prog 40 #[.agg #[.string s, .int .i64 a]] w fun e w' => e = .returned (.bool (lineB s a)) ∧ Below w.heap.size w w' := by
  have H := Lib.hid hs
  unfold maxLen at hs
  cases ht : textB s
  · have hl : lineB s a = false := by simp [lineB, ht]
    have HL := Lib.hid hl
    clear hl
    go_enter Try.func40, Try.ntmps40
    go_wp2_with (go_at_call 24; refine (specRight_any _ H.out _).mono ?_; rintro e w1 ⟨rfl, rfl⟩)
    go_ret
    exact ⟨by rw [HL.out]; rfl, (Below.refl _ w).alloc (Nat.le_refl _) _⟩
  · have hl : lineB s a = (decide (0 ≤ a) && decide (a ≤ s.size)) := by simp [lineB, ht]
    have HL := Lib.hid hl
    clear hl
    go_enter Try.func40, Try.ntmps40
    go_wp2_with (first | (go_at_call 24; refine (specRight_any _ H.out _).mono ?_; rintro e w1 ⟨rfl, rfl⟩) | (go_at_call 25; refine (is_any _ _ _ _).mono ?_; rintro e w1 ⟨rfl, rfl⟩))
    go_ret
    exact ⟨by rw [HL.out]; rfl, (Below.refl _ w).alloc (Nat.le_refl _) _⟩
theorem implLine_any (s : ByteArray) (a : Int) (hs : s.size ≤ maxLen) (w : World) :
    Calls Try.prog 43 #[.agg #[.string s, .int .i64 a]] w fun e w' => e = .returned (.bool (lineB s a)) ∧ Below w.heap.size w w' := by
  have H := Lib.hid hs
  unfold maxLen at hs
  cases ht : textB s
  · have hl : lineB s a = false := by simp [lineB, ht]
    have HL := Lib.hid hl
    clear hl
    go_enter Try.func43, Try.ntmps43
    go_wp2_with fail
    refine (held_any _ _ _).mono ?_
    rintro e w1 ⟨rfl, hb1⟩
    have h1 := hb1.size
    have HB1 := Lib.hid hb1
    clear hb1
    go_wp2_with fail
    refine (right_any _ H.out _).mono ?_
    rintro e w2 ⟨rfl, hb2⟩
    have HB2 := Lib.hid hb2
    clear hb2
    go_wp2
    go_ret
    exact ⟨by rw [HL.out]; rfl, bthen ((bthen ((Below.refl _ w).alloc (Nat.le_refl _) _) HB1.out (by simp)).alloc (by simp at h1; omega) _) HB2.out (by simp at h1; simp; omega)⟩
  · have hl : lineB s a = (decide (0 ≤ a) && decide (a ≤ s.size)) := by simp [lineB, ht]
    have HL := Lib.hid hl
    clear hl
    go_enter Try.func43, Try.ntmps43
    go_wp2_with fail
    refine (held_any _ _ _).mono ?_
    rintro e w1 ⟨rfl, hb1⟩
    have h1 := hb1.size
    have HB1 := Lib.hid hb1
    clear hb1
    go_wp2_with fail
    refine (right_any _ H.out _).mono ?_
    rintro e w2 ⟨rfl, hb2⟩
    obtain ⟨k1, k2⟩ := keepC hb2 (g := w1.heap.size) (by simp)
    have HB2 := Lib.hid hb2
    clear hb2
    go_wp2_with (go_at_call 54; refine (hasPlace_any _ _ H.out _).mono ?_; rintro e w3 ⟨rfl, rfl⟩)
    go_ret
    exact ⟨by rw [HL.out]; rfl, bthen ((bthen ((Below.refl _ w).alloc (Nat.le_refl _) _) HB1.out (by simp)).alloc (by simp at h1; omega) _) HB2.out (by simp at h1; simp; omega)⟩
theorem toLine_any (s : ByteArray) (a : Int) (w : World) :
    Calls Try.prog 41 #[.agg #[.string s, .int .i64 a]] w fun e w' => e = .returned (.agg #[.string s, .int .i64 a]) ∧ Below w.heap.size w w' := by
  go_enter Try.func41, Try.ntmps41
  go_wp2
  exact bodyPost_ret (v := .agg #[.string s, .int .i64 a]) (by simp [results, Try.results41, go_sem]) rfl
    ⟨rfl, (((Below.refl _ w).alloc (Nat.le_refl _) _).alloc (by simp) _).alloc (by simp; omega) _⟩
theorem szLine_any (s : ByteArray) (a n : Int) (hs : s.size ≤ maxLen) (h0 : 0 ≤ n) (hn : n ≤ 1048576) (w : World) :
    Calls Try.prog 39 #[.agg #[.string s, .int .i64 a], .int .i64 n] w fun e w' => e = .returned (.int .i64 (if n < s.size then -1 else n - s.size)) ∧ Below w.heap.size w w' := by
  unfold maxLen at hs
  by_cases h : n < s.size
  · go_enter Try.func39, Try.ntmps39
    go_wp2
    go_ret
    exact ⟨by rfl, (Below.refl _ w).alloc (Nat.le_refl _) _⟩
  · go_enter Try.func39, Try.ntmps39
    go_wp2
    go_ret
    exact ⟨by rfl, (Below.refl _ w).alloc (Nat.le_refl _) _⟩
theorem eqLine_same (s : ByteArray) (a : Int) (w : World) :
    Calls Try.prog 44 #[.agg #[.string s, .int .i64 a], .agg #[.string s, .int .i64 a]] w fun e w' => e = .returned (.bool true) ∧ Below w.heap.size w w' := by
  go_enter Try.func44, Try.ntmps44
  go_wp2
  go_ret
  exact ⟨rfl, ((Below.refl _ _).alloc (Nat.le_refl _) _).alloc (by simp) _⟩
end Go.Proofs.Ytjjabfcdhknigaa.line
