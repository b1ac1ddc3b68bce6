/-
  Frames: which are right, and their texts, as plain functions; what the program's kinds of frames say of themselves. For every frame.
-/
import Derived.Test.YtlhfgpcanfpnfaaDoorAll
import Derived.BigQuiet
namespace Go.Proofs.YtlhfgpcanfpnfaaDoor.frame
open Go.ChangeShapes Go.WideShapes Go.ChangeAt Go.RowKit
open Go.Proofs.YtlhfgpcanfpnfaaDoor.line Go.Proofs.YtlhfgpcanfpnfaaDoor.all_
def plB (a : Int) : Bool := decide (0 ≤ a) && decide (a ≤ 60)
theorem plB_t {a : Int} (h : plB a = true) : 0 ≤ a ∧ a ≤ 60 := by simpa [plB] using h
noncomputable def sayB (t : ByteArray) : Bool := decide ((t.size : Int) ≤ 80) && prB t
/-- the frame of this kind, at this place, with this text: is it a right one? -/
noncomputable def frB (k a : Int) (t : ByteArray) : Bool :=
  if k = 1 then plB a && goodB t else if k = 2 then plB a && goodB t else if k = 3 then plB a && decide (t.size = 0) else if k = 4 then plB a && textB t
  else if k = 5 then decide (a = 0) && sayB t else if k = 6 then decide (a = 0) && decide (t.size = 0) else if k = 7 then decide (a = 0) && textB t else false
theorem frB_1 (a : Int) (t : ByteArray) : frB 1 a t = (plB a && goodB t) := by simp [frB]
theorem frB_2 (a : Int) (t : ByteArray) : frB 2 a t = (plB a && goodB t) := by simp [frB]
theorem frB_3 (a : Int) (t : ByteArray) : frB 3 a t = (plB a && decide (t.size = 0)) := by simp [frB]
theorem frB_4 (a : Int) (t : ByteArray) : frB 4 a t = (plB a && textB t) := by simp [frB]
theorem frB_5 (a : Int) (t : ByteArray) : frB 5 a t = (decide (a = 0) && sayB t) := by simp [frB]
theorem frB_6 (a : Int) (t : ByteArray) : frB 6 a t = (decide (a = 0) && decide (t.size = 0)) := by simp [frB]
theorem frB_7 (a : Int) (t : ByteArray) : frB 7 a t = (decide (a = 0) && textB t) := by simp [frB]
theorem frB_else {k : Int} (a : Int) (t : ByteArray) (h1 : ¬ k = 1) (h2 : ¬ k = 2) (h3 : ¬ k = 3) (h4 : ¬ k = 4) (h5 : ¬ k = 5) (h6 : ¬ k = 6) (h7 : ¬ k = 7) : frB k a t = false := by
  simp [frB, h1, h2, h3, h4, h5, h6, h7]
theorem size_nil {t : ByteArray} (h : t.size = 0) : t = ⟨#[]⟩ := by
  obtain ⟨⟨l⟩⟩ := t
  cases l with
  | nil => rfl
  | cons x r => simp [ByteArray.size] at h
def fV (k a : Int) (t : ByteArray) : Value := .agg #[.int .i64 k, .int .i64 a, .string t]
theorem place_any (a : Int) (w : World) :
    Calls Tryd.prog 84 #[.int .i64 a] w fun e w' => e = .returned (.bool (plB a)) ∧ w = w' := by
  by_cases hl : 0 ≤ a
  · go_enter Tryd.func84, Tryd.ntmps84
    go_wp2
    go_ret
    exact ⟨by simp [plB, hl], rfl⟩
  · have HB := Lib.hid (show plB a = false by simp [plB, hl])
    have hf : decide (0 ≤ a) = false := by simpa using hl
    go_enter Tryd.func84, Tryd.ntmps84
    go_wp2
    go_ret
    exact ⟨by rw [HB.out]; simp, rfl⟩
/-- what is asked of the right ones of a kind -/
theorem changeR_any (a : Int) (t : ByteArray) (ht : t.size ≤ maxLen) (w : World) :
    Calls Tryd.prog 83 #[.agg #[.int .i64 a, .string t]] w fun e w' => e = .returned (.bool (plB a && goodB t)) ∧ Below w.heap.size w w' := by
  have H := Lib.hid ht
  clear ht
  cases hp : plB a
  · go_enter Tryd.func83, Tryd.ntmps83
    go_wp2_with (go_at_call 84; refine (place_any _ _).mono ?_; rw [hp]; rintro e w1 ⟨rfl, rfl⟩)
    go_ret
    exact ⟨rfl, (Below.refl _ _).alloc (Nat.le_refl _) _⟩
  · go_enter Tryd.func83, Tryd.ntmps83
    go_wp2_with (first | (go_at_call 84; refine (place_any _ _).mono ?_; rw [hp]; rintro e w1 ⟨rfl, rfl⟩) | fail)
    refine (filled_any _ H.out _).mono ?_
    rintro e w1 ⟨rfl, hb⟩
    go_wp2
    go_ret
    exact ⟨rfl, bthen ((Below.refl _ _).alloc (Nat.le_refl _) _) hb (by simp)⟩
theorem moveR_any (a : Int) (w : World) :
    Calls Tryd.prog 105 #[.agg #[.int .i64 a]] w fun e w' => e = .returned (.bool (plB a)) ∧ Below w.heap.size w w' := by
  go_enter Tryd.func105, Tryd.ntmps105
  go_wp2_with (go_at_call 84; refine (place_any _ _).mono ?_; rintro e w1 ⟨rfl, rfl⟩)
  go_ret
  exact ⟨rfl, (Below.refl _ _).alloc (Nat.le_refl _) _⟩
theorem allR_any (a : Int) (t : ByteArray) (ht : t.size ≤ maxLen) (w : World) :
    Calls Tryd.prog 107 #[.agg #[.int .i64 a, .string t]] w fun e w' => e = .returned (.bool (plB a && textB t)) ∧ Below w.heap.size w w' := by
  have H := Lib.hid ht
  clear ht
  cases hp : plB a
  · go_enter Tryd.func107, Tryd.ntmps107
    go_wp2_with (go_at_call 84; refine (place_any _ _).mono ?_; rw [hp]; rintro e w1 ⟨rfl, rfl⟩)
    go_ret
    exact ⟨rfl, (Below.refl _ _).alloc (Nat.le_refl _) _⟩
  · go_enter Tryd.func107, Tryd.ntmps107
    go_wp2_with (first | (go_at_call 84; refine (place_any _ _).mono ?_; rw [hp]; rintro e w1 ⟨rfl, rfl⟩) | fail)
    refine (implRight_any _ H.out _).mono ?_
    rintro e w1 ⟨rfl, hb⟩
    go_wp2
    go_ret
    exact ⟨rfl, bthen ((Below.refl _ _).alloc (Nat.le_refl _) _) hb (by simp)⟩
theorem sayR_any (t : ByteArray) (ht : t.size ≤ maxLen) (w : World) :
    Calls Tryd.prog 109 #[.agg #[.string t]] w fun e w' => e = .returned (.bool (sayB t)) ∧ Below w.heap.size w w' := by
  have H := Lib.hid ht
  unfold maxLen at ht
  by_cases h8 : (t.size : Int) ≤ 80
  · have HB := Lib.hid (show sayB t = prB t by simp [sayB, h8])
    go_enter Tryd.func109, Tryd.ntmps109
    go_wp2_with fail
    refine (printed_any _ H.out _).mono ?_
    rintro e w1 ⟨rfl, hb⟩
    go_wp2
    go_ret
    exact ⟨by rw [HB.out]; rfl, bthen ((Below.refl _ _).alloc (Nat.le_refl _) _) hb (by simp)⟩
  · have HB := Lib.hid (show sayB t = false by simp [sayB, h8])
    go_enter Tryd.func109, Tryd.ntmps109
    go_wp2
    go_ret
    exact ⟨by rw [HB.out]; rfl, (Below.refl _ _).alloc (Nat.le_refl _) _⟩
theorem bellR_any (w : World) :
    Calls Tryd.prog 111 #[.agg #[]] w fun e w' => e = .returned (.bool true) ∧ Below w.heap.size w w' := by
  go_enter Tryd.func111, Tryd.ntmps111
  go_wp2
  go_ret
  exact ⟨rfl, (Below.refl _ _).alloc (Nat.le_refl _) _⟩
theorem doneR_any (t : ByteArray) (ht : t.size ≤ maxLen) (w : World) :
    Calls Tryd.prog 113 #[.agg #[.string t]] w fun e w' => e = .returned (.bool (textB t)) ∧ Below w.heap.size w w' := by
  go_enter Tryd.func113, Tryd.ntmps113
  go_wp2_with fail
  refine (implRight_any _ ht _).mono ?_
  rintro e w1 ⟨rfl, hb⟩
  go_wp2
  go_ret
  exact ⟨rfl, bthen ((Below.refl _ _).alloc (Nat.le_refl _) _) hb (by simp)⟩
end Go.Proofs.YtlhfgpcanfpnfaaDoor.frame
