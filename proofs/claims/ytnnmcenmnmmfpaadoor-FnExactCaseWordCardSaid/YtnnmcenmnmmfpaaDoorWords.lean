/-
  WordBack, WordOn: the program and the model come to the same place. For every line that the row reads.
-/
import Derived.Test.YtnnmcenmnmmfpaaDoorLineRight
namespace Go.Proofs.YtnnmcenmnmmfpaaDoor.line
open Go.ChangeShapes Go.WideShapes Go.ChangeAt Go.RowKit
/-- is the byte at k one of a word? -/
def wAt (s : ByteArray) (k : Nat) : Bool := wordN (byteAt s k)
/-- on from k while p holds, as far as n -/
def fwd (p : Nat → Bool) (n : Nat) : Nat → Nat → Nat
  | 0, k => k
  | f + 1, k => if k < n then (if p k then fwd p n f (k + 1) else k) else k
theorem fwd_end (p : Nat → Bool) (n f k : Nat) (h : ¬ k < n) : fwd p n f k = k := by cases f <;> simp [fwd, h]
theorem fwd_stop (p : Nat → Bool) (n f k : Nat) (h : p k = false) : fwd p n f k = k := by cases f <;> simp [fwd, h]
theorem fwd_step (p : Nat → Bool) (n f k : Nat) (h : k < n) (hp : p k = true) : fwd p n (f + 1) k = fwd p n f (k + 1) := by simp [fwd, h, hp]
theorem fwd_le (p : Nat → Bool) (n f : Nat) : ∀ k, k ≤ n → k ≤ fwd p n f k ∧ fwd p n f k ≤ n := by
  induction f with
  | zero => intro k h; exact ⟨Nat.le_refl _, h⟩
  | succ f ih =>
    intro k h
    unfold fwd
    split
    · split
      · have := ih (k + 1) (by omega); omega
      · omega
    · omega
/-- back from k while p holds of the one ahead -/
def bwd (p : Nat → Bool) : Nat → Nat
  | 0 => 0
  | k + 1 => if p k then bwd p k else k + 1
theorem bwd_step (p : Nat → Bool) (k : Nat) (h : p k = true) : bwd p (k + 1) = bwd p k := by simp [bwd, h]
theorem bwd_stop (p : Nat → Bool) (k : Nat) (h : p k = false) : bwd p (k + 1) = k + 1 := by simp [bwd, h]
theorem bwd_le (p : Nat → Bool) : ∀ k, bwd p k ≤ k := by
  intro k
  induction k with
  | zero => exact Nat.le_refl _
  | succ k ih => unfold bwd; split <;> omega
def onN (s : ByteArray) (a : Nat) : Nat := fwd (wAt s) s.size s.size (fwd (fun k => !wAt s k) s.size s.size a)
def backN (s : ByteArray) (a : Nat) : Nat := bwd (wAt s) (bwd (fun k => !wAt s k) a)
theorem onN_le (s : ByteArray) (a : Nat) (h : a ≤ s.size) : a ≤ onN s a ∧ onN s a ≤ s.size := by
  have h1 := fwd_le (fun k => !wAt s k) s.size s.size a h
  have h2 := fwd_le (wAt s) s.size s.size _ h1.2
  exact ⟨Nat.le_trans h1.1 h2.1, h2.2⟩
theorem wAt_eq {s : ByteArray} {k : Nat} (h : k < s.size) : wAt s k = wordN s[k].toNat := by rw [wAt, byteAt_eq h]
theorem word_any (c : Nat) (w : World) :
    Calls Tryd.prog 28 #[.int .u8 c] w fun e w' => e = .returned (.bool (wordN c)) ∧ w = w' := by
  by_cases h1 : 97 ≤ c ∧ c ≤ 122
  · obtain ⟨h1, h2⟩ := h1
    have hw : wordN c = true := by simp [wordN, smallN, h1, h2]
    have HW := Lib.hid hw
    clear hw
    go_enter Tryd.func28, Tryd.ntmps28
    go_wp2
    go_ret
    exact ⟨by rw [HW.out]; rfl, rfl⟩
  · by_cases h2 : 65 ≤ c ∧ c ≤ 90
    · obtain ⟨h2, h3⟩ := h2
      have hw : wordN c = true := by simp [wordN, capN, h2, h3]
      have HW := Lib.hid hw
      clear hw h1
      go_enter Tryd.func28, Tryd.ntmps28
      go_wp2
      all_goals first
        | (exfalso; omega)
        | (go_ret
           exact ⟨by rw [HW.out]; first | rfl | (simp; omega), rfl⟩)
    · have q1 : smallN c = false := by simp [smallN]; omega
      have q2 : capN c = false := by simp [capN]; omega
      have hw : wordN c = digN c := by simp [wordN, q1, q2]
      clear q1 q2
      have HW := Lib.hid hw
      clear hw
      have c1 : ¬ (97 ≤ c) ∨ ¬ (c ≤ 122) := by omega
      have c2 : ¬ (65 ≤ c) ∨ ¬ (c ≤ 90) := by omega
      clear h1 h2
      by_cases h3 : 48 ≤ c ∧ c ≤ 57
      · obtain ⟨h3, h4⟩ := h3
        have hd : digN c = true := by simp [digN, h3, h4]
        have HD := Lib.hid hd
        clear hd
        go_enter Tryd.func28, Tryd.ntmps28
        go_wp2
        all_goals first
          | (exfalso; omega)
          | (go_ret
             exact ⟨by rw [HW.out, HD.out]; first | rfl | (simp; omega), rfl⟩)
      · have hd : digN c = false := by simp [digN]; omega
        have HD := Lib.hid hd
        clear hd
        have c3 : ¬ (48 ≤ c) ∨ ¬ (c ≤ 57) := by omega
        clear h3
        go_enter Tryd.func28, Tryd.ntmps28
        go_wp2
        all_goals first
          | (exfalso; omega)
          | (go_ret
             exact ⟨by rw [HW.out, HD.out]; first | rfl | (simp; omega), rfl⟩)
theorem isWord_any (s : ByteArray) (_ : s.size ≤ 60) (k : Nat) (hk : k < s.size) (hp : printN s[k].toNat = true) (w : World) :
    Calls Tryd.prog 24 #[.string s, .int .i64 k] w fun e w' => e = .returned (.bool (wAt s k)) ∧ w = w' := by
  have hw := kindN_word _ hp
  rw [wAt_eq hk, ← hw]
  clear hw hp
  go_enter Tryd.func24, Tryd.ntmps24
  have hx := s[k].toNat_lt
  go_wp2_with fail
  refine (kindOf_any s[k].toNat (by have := s[k].toNat_lt; omega) _).mono ?_
  rintro e w' ⟨rfl, rfl⟩
  go_wp2
  go_ret
  exact ⟨rfl, rfl⟩
end Go.Proofs.YtnnmcenmnmmfpaaDoor.line
