/-
  Which keys are right: the program and the model tell the same. For every key.
-/
import Derived.Test.YtbefoalecogmbaaBase
import Derived.BigQuiet
namespace Go.Proofs.Ytbefoalecogmbaa.key
open Go.ChangeShapes Go.WideShapes Go.ChangeAt Go.RowKit
def betB (l n h : Int) : Bool := decide (l ≤ n) && decide (n ≤ h)
theorem betB_t {l n h : Int} (h1 : l ≤ n) (h2 : n ≤ h) : betB l n h = true := by simp [betB, h1, h2]
theorem betB_lo {l n h : Int} (h1 : ¬ l ≤ n) : betB l n h = false := by simp [betB, h1]
theorem betB_hi {l n h : Int} (h1 : ¬ n ≤ h) : betB l n h = false := by simp [betB, h1]
theorem is_any (n l h : Int) (w : World) :
    Calls Try.prog 40 #[.int .i64 n, .int .i64 l, .int .i64 h] w fun e w' => e = .returned (.bool (betB l n h)) ∧ w = w' := by
  by_cases hl : l ≤ n
  · go_enter Try.func40, Try.ntmps40
    go_wp2
    go_ret
    exact ⟨by simp [betB, hl], rfl⟩
  · have hf : decide (l ≤ n) = false := by simpa using hl
    have HB := Lib.hid (betB_lo (h := h) hl)
    go_enter Try.func40, Try.ntmps40
    go_wp2
    go_ret
    exact ⟨by rw [HB.out]; simp, rfl⟩
theorem isByte_any (n : Int) (w : World) :
    Calls Try.prog 34 #[.int .i64 n] w fun e w' => e = .returned (.bool (betB 0 n 255)) ∧ w = w' := by
  by_cases hl : 0 ≤ n
  · go_enter Try.func34, Try.ntmps34
    go_wp2
    go_ret
    exact ⟨by simp [betB, hl], rfl⟩
  · have hf : decide (0 ≤ n) = false := by simpa using hl
    have HB := Lib.hid (betB_lo (h := 255) hl)
    go_enter Try.func34, Try.ntmps34
    go_wp2
    go_ret
    exact ⟨by rw [HB.out]; simp, rfl⟩
theorem isPrinted_any (n : Int) (w : World) :
    Calls Try.prog 42 #[.int .i64 n] w fun e w' => e = .returned (.bool (betB 32 n 126)) ∧ w = w' := by
  by_cases hl : 32 ≤ n
  · go_enter Try.func42, Try.ntmps42
    go_wp2
    go_ret
    exact ⟨by simp [betB, hl], rfl⟩
  · have hf : decide (32 ≤ n) = false := by simpa using hl
    have HB := Lib.hid (betB_lo (h := 126) hl)
    go_enter Try.func42, Try.ntmps42
    go_wp2
    go_ret
    exact ⟨by rw [HB.out]; simp, rfl⟩
/-- is the key of this kind, with this byte, a right one? -/
def keyB (k b : Int) : Bool := if k = 1 then betB 32 b 126 else if k = 25 then betB 0 b 255 else betB 2 k 24 && decide (b = 0)
theorem keyB_1 (b : Int) : keyB 1 b = betB 32 b 126 := by simp [keyB]
theorem keyB_25 (b : Int) : keyB 25 b = betB 0 b 255 := by simp [keyB]
theorem keyB_else {k : Int} (b : Int) (h1 : ¬ k = 1) (h2 : ¬ k = 25) : keyB k b = (betB 2 k 24 && decide (b = 0)) := by simp [keyB, h1, h2]
set_option maxHeartbeats 800000 in
theorem specKey_any (k b : Int) (w : World) :
    Calls Try.prog 19 #[.agg #[.int .i64 k, .int .i64 b]] w fun e w' => e = .returned (.bool (keyB k b)) ∧ Below w.heap.size w w' := by
  by_cases h1 : k = 1
  · have HE := Lib.hid (keyB_1 b)
    subst h1
    go_enter Try.func19, Try.ntmps19
    go_wp2_with (go_at_call 40; refine (is_any _ _ _ _).mono ?_; rintro e w' ⟨rfl, rfl⟩)
    go_ret
    exact ⟨by rw [HE.out]; rfl, (Below.refl _ _).alloc (Nat.le_refl _) _⟩
  by_cases h2 : k = 25
  · have HE := Lib.hid (keyB_25 b)
    subst h2
    go_enter Try.func19, Try.ntmps19
    go_wp2_with (go_at_call 40; refine (is_any _ _ _ _).mono ?_; rintro e w' ⟨rfl, rfl⟩)
    go_ret
    exact ⟨by rw [HE.out]; rfl, (Below.refl _ _).alloc (Nat.le_refl _) _⟩
  have HE := Lib.hid (keyB_else b h1 h2)
  have e1 : (k == 1) = false := by simpa using h1
  have e2 : (k == 25) = false := by simpa using h2
  cases hb : betB 2 k 24
  all_goals
    go_enter Try.func19, Try.ntmps19
    go_wp2_with (go_at_call 40; refine (is_any _ _ _ _).mono ?_; rw [hb]; rintro e w' ⟨rfl, rfl⟩)
    go_ret
    exact ⟨by rw [HE.out, hb]; rfl, (Below.refl _ _).alloc (Nat.le_refl _) _⟩
set_option maxHeartbeats 800000 in
theorem implKey_any (k b : Int) (w : World) :
    Calls Try.prog 18 #[.agg #[.int .i64 k, .int .i64 b]] w fun e w' => e = .returned (.bool (keyB k b)) ∧ Below w.heap.size w w' := by
  by_cases h1 : k = 1
  · have HE := Lib.hid (keyB_1 b)
    subst h1
    go_enter Try.func18, Try.ntmps18
    go_wp2_with (go_at_call 42; refine (isPrinted_any _ _).mono ?_; rintro e w' ⟨rfl, rfl⟩)
    go_ret
    exact ⟨by rw [HE.out]; rfl, (Below.refl _ _).alloc (Nat.le_refl _) _⟩
  by_cases h2 : k = 25
  · have HE := Lib.hid (keyB_25 b)
    subst h2
    go_enter Try.func18, Try.ntmps18
    go_wp2_with (go_at_call 34; refine (isByte_any _ _).mono ?_; rintro e w' ⟨rfl, rfl⟩)
    go_ret
    exact ⟨by rw [HE.out]; rfl, (Below.refl _ _).alloc (Nat.le_refl _) _⟩
  have HE := Lib.hid (keyB_else b h1 h2)
  have e1 : (k == 1) = false := by simpa using h1
  have e2 : (k == 25) = false := by simpa using h2
  by_cases hlo : (1 : Int) < k
  · by_cases hhi : k < 25
    · have HB := Lib.hid (betB_t (l := 2) (n := k) (h := 24) (by omega) (by omega))
      go_enter Try.func18, Try.ntmps18
      go_wp2
      go_ret
      exact ⟨by rw [HE.out, HB.out]; rfl, (Below.refl _ _).alloc (Nat.le_refl _) _⟩
    · have HB := Lib.hid (betB_hi (l := 2) (n := k) (h := 24) (by omega))
      have d2 : decide (k < 25) = false := by simpa using hhi
      go_enter Try.func18, Try.ntmps18
      go_wp2
      go_ret
      exact ⟨by rw [HE.out, HB.out]; rfl, (Below.refl _ _).alloc (Nat.le_refl _) _⟩
  · have HB := Lib.hid (betB_lo (l := 2) (n := k) (h := 24) (by omega))
    have d2 : decide ((1 : Int) < k) = false := by simpa using hlo
    go_enter Try.func18, Try.ntmps18
    go_wp2
    go_ret
    exact ⟨by rw [HE.out, HB.out]; rfl, (Below.refl _ _).alloc (Nat.le_refl _) _⟩
theorem toKey_any (k b : Int) (w : World) :
    Calls Try.prog 25 #[.agg #[.int .i64 k, .int .i64 b]] w fun e w' => e = .returned (.agg #[.int .i64 k, .int .i64 b]) ∧ Below w.heap.size w w' := by
  go_enter Try.func25, Try.ntmps25
  go_wp2
  exact bodyPost_ret (v := .agg #[.int .i64 k, .int .i64 b]) (by simp [results, Try.results25, go_sem]) rfl
    ⟨rfl, by first | exact (((Below.refl _ w).alloc (Nat.le_refl _) _).alloc (by simp) _).alloc (by simp; omega) _ | exact ((Below.refl _ w).alloc (Nat.le_refl _) _).alloc (by simp) _⟩
theorem walkKeyRight (a0 a1 : Int) (_ : (Lit.int .i64 a0).wf = true) (_ : (Lit.int .i64 a1).wf = true) (w : World) :
    Calls Try.prog 7 #[.agg #[.int .i64 a0, .int .i64 a1]] w fun e w' => e = .returned (.bool true) ∧ Below w.heap.size w w' := by
  obtain ⟨B, hB⟩ : ∃ B, B = keyB a0 a1 := ⟨_, rfl⟩
  have HS := Lib.hid (specKey_any a0 a1)
  have HI := Lib.hid (implKey_any a0 a1)
  rw [← hB] at HS HI
  clear hB
  go_enter Try.func7, Try.ntmps7
  go_wp2_with fail
  refine (toKey_any _ _ _).mono ?_
  rintro e w1 ⟨rfl, h1⟩
  obtain ⟨p1, _⟩ := keepC h1 (g := w.heap.size) (by simp)
  have H1 := Lib.hid (bthen ((Below.refl _ w).alloc (Nat.le_refl _) _) h1 (by simp))
  go_wp2_with fail
  refine (HS.out _).mono ?_
  rintro e w2 ⟨rfl, h2⟩
  have z1 := H1.out.size
  obtain ⟨p2, _⟩ := keepC h2 (g := w.heap.size) (by have := h1.size; simp at this; omega)
  have H2 := Lib.hid (bthen H1.out h2 H1.out.size)
  clear h1 h2 z1
  go_wp2_with fail
  refine (toKey_any _ _ _).mono ?_
  rintro e w3 ⟨rfl, h3⟩
  have H3 := Lib.hid (bthen H2.out h3 H2.out.size)
  clear h3
  go_wp2_with fail
  refine (HI.out _).mono ?_
  rintro e w4 ⟨rfl, h4⟩
  have H4 := Lib.hid (bthen H3.out h4 H3.out.size)
  clear h4
  go_wp2
  go_ret
  exact ⟨rfl, H4.out⟩
end Go.Proofs.Ytbefoalecogmbaa.key
