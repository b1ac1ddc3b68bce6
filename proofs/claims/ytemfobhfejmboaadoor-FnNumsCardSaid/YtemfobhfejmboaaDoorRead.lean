/-
  GetNum of the program and of the model: both tell the same number, place and code. For every text and place that the row reads, where errors.errorType holds what the program's text lays.
-/
import Derived.Test.YtemfobhfejmboaaDoorBase
import Derived.Test.YtemfobhfejmboaaDoorAs
namespace Go.Proofs.YtemfobhfejmboaaDoor.read
open Go.ChangeShapes Go.WideShapes Go.ChangeAt Go.RowKit

/-- a number from 0 to 2^64-1 as the number of int64 that it stands for -/
def unf (u : Nat) : Int := if u % 2 = 1 then -((u / 2 : Nat) : Int) - 1 else ((u / 2 : Nat) : Int)
/-- number, place behind it, code: from the i-th byte on, u told so far, f bytes left -/
def rd (s : ByteArray) (p : Nat) : Nat → Nat → Nat → Int × Int × Int
  | 0, _, _ => (0, 0, 3)
  | f + 1, i, u =>
    if s.size ≤ p + i then (0, 0, 4)
    else if i = 9 ∧ 1 < byteAt s (p + i) then (0, 0, 3)
    else if byteAt s (p + i) < 128 then (if byteAt s (p + i) = 0 ∧ 0 < i then (0, 0, 3) else (unf (u + byteAt s (p + i) * 2 ^ (7 * i)), p + i + 1, 0))
    else rd s p f (i + 1) (u + (byteAt s (p + i) - 128) * 2 ^ (7 * i))
def getV (s : ByteArray) (at_ : Int) : Int × Int × Int :=
  if 8000 < s.size then (0, 0, 2) else if at_ < 0 then (0, 0, 1) else rd s at_.toNat 10 0 0
def nout (x : Int × Int × Int) : Value := .agg #[.int .i64 x.1, .int .i64 x.2.1, .int .i64 x.2.2]

theorem acc_bd {k x c : Nat} (hk : k ≤ 9) (hx : x < 2 ^ (7 * k)) (hc : c < 128) (h9 : k = 9 → c ≤ 1) :
    x + c * 2 ^ (7 * k) < 18446744073709551616 ∧ (k < 9 → x + c * 2 ^ (7 * k) < 2 ^ (7 * (k + 1))) := by
  have h1 : x + c * 2 ^ (7 * k) < (c + 1) * 2 ^ (7 * k) := by rw [Nat.add_mul, Nat.one_mul]; omega
  have h2 : k < 9 → x + c * 2 ^ (7 * k) < 2 ^ (7 * (k + 1)) := fun _ => by
    have e : 2 ^ (7 * (k + 1)) = 128 * 2 ^ (7 * k) := by rw [Nat.mul_add, Nat.pow_add, Nat.mul_comm]
    have h3 : (c + 1) * 2 ^ (7 * k) ≤ 128 * 2 ^ (7 * k) := Nat.mul_le_mul_right _ (by omega)
    omega
  refine ⟨?_, h2⟩
  by_cases h : k = 9
  · subst h
    have := h9 rfl
    have h3 : (c + 1) * 2 ^ (7 * 9) ≤ 2 * 2 ^ (7 * 9) := Nat.mul_le_mul_right _ (by omega)
    have h4 : (2 : Nat) * 2 ^ (7 * 9) = 18446744073709551616 := by decide
    omega
  · have h3 := h2 (by omega)
    have h4 : (2 : Nat) ^ (7 * (k + 1)) ≤ 2 ^ 63 := Nat.pow_le_pow_right (by omega) (by omega)
    have h5 : (2 : Nat) ^ 63 = 9223372036854775808 := by decide
    omega
theorem wrap_acc {x : Nat} {c k : Nat} (d : Int) (hd : d = c) (h : x + c * 2 ^ (7 * k) < 18446744073709551616) :
    IntKind.u64.wrap ((x : Int) + IntKind.u64.wrap (d * 2 ^ (7 * k))) = ((x + c * 2 ^ (7 * k) : Nat) : Int) := by
  subst hd
  have e : (c : Int) * 2 ^ (7 * k) = ((c * 2 ^ (7 * k) : Nat) : Int) := by simp
  rw [e]
  generalize c * 2 ^ (7 * k) = q at *
  have w1 : IntKind.u64.wrap (q : Int) = q := by
    rw [IntKind.wrap_u64]; omega
  rw [w1, IntKind.wrap_u64]; omega
theorem unf_odd {y : Nat} (h : y % 2 = 1) : unf y = -((y : Int) / 2) - 1 := by unfold unf; rw [if_pos h]; simp
theorem unf_even {y : Nat} (h : ¬ y % 2 = 1) : unf y = (y : Int) / 2 := by unfold unf; rw [if_neg h]; simp
open Go.Proofs.YtemfobhfejmboaaDoor.as_
/-- the error of a code: none of 0 -/
def errV (c : Int) : Value := if c = 0 then .nilIface else wrong c
/-- what is wrong with the place, ahead of any byte -/
def placeC (s : ByteArray) (p : Int) : Int := if 8000 < s.size then 2 else if p < 0 then 1 else if (s.size : Int) < p then 4 else 0
theorem place_any (s : ByteArray) (p : Int) (hs : s.size ≤ maxLen) (w : World) :
    Calls Tryd.prog 24 #[.string s, .int .i64 p] w fun e w' => e = .returned (errV (placeC s p)) ∧ w = w' := by
  unfold maxLen at hs
  unfold placeC
  by_cases h1 : (8000 : Int) < s.size
  · rw [if_pos (by omega)]
    go_enter Tryd.func24, Tryd.ntmps24
    go_wp2
    go_ret
    exact ⟨rfl, rfl⟩
  · rw [if_neg (by omega)]
    by_cases h2 : p < 0
    · rw [if_pos h2]
      go_enter Tryd.func24, Tryd.ntmps24
      go_wp2
      go_ret
      exact ⟨rfl, rfl⟩
    · rw [if_neg h2]
      by_cases h3 : (s.size : Int) < p
      · rw [if_pos h3]
        go_enter Tryd.func24, Tryd.ntmps24
        go_wp2
        go_ret
        exact ⟨rfl, rfl⟩
      · rw [if_neg h3]
        go_enter Tryd.func24, Tryd.ntmps24
        go_wp2
        go_ret
        exact ⟨rfl, rfl⟩
theorem unfolded_any (y : Nat) (hy : (y : Int) ≤ 18446744073709551615) (w : World) :
    Calls Tryd.prog 25 #[.int .u64 y] w fun e w' => e = .returned (.int .i64 (unf y)) ∧ w = w' := by
  by_cases ho : y % 2 = 1
  · have hu := unf_odd ho
    have ho' : ((y : Int) % 2 == 1) = true := by simp; omega
    rw [hu]
    clear hu ho
    go_enter Tryd.func25, Tryd.ntmps25
    go_wp2
    go_ret
    exact ⟨rfl, rfl⟩
  · have hu := unf_even ho
    have ho' : ((y : Int) % 2 == 1) = false := by simp; omega
    rw [hu]
    clear hu ho
    go_enter Tryd.func25, Tryd.ntmps25
    go_wp2
    go_ret
    exact ⟨rfl, rfl⟩

end Go.Proofs.YtemfobhfejmboaaDoor.read
