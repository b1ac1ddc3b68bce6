/-
  NameRight of the program and of the model: both tell whether it is a name. For every text that the row reads.
-/
import Derived.Test.YtcoilkmelabacaaBase
namespace Go.Proofs.Ytcoilkmelabacaa.nm
open Go.ChangeShapes Go.WideShapes Go.ChangeAt Go.RowKit
def smallB (n : Nat) : Bool := decide (97 ≤ n) && decide (n ≤ 122)
def digitB (n : Nat) : Bool := decide (48 ≤ n) && decide (n ≤ 57)

def goodB (i n : Nat) : Bool := smallB n || (decide (i ≠ 0) && (digitB n || decide (n = 95)))
def NameOk (s : ByteArray) : Prop := 1 ≤ s.size ∧ s.size ≤ 20 ∧ ∀ i (h : i < s.size), goodB i (s[i].toNat) = true
theorem goodB_iff (i n : Nat) : goodB i n = true ↔ (97 ≤ n ∧ n ≤ 122) ∨ (i ≠ 0 ∧ ((48 ≤ n ∧ n ≤ 57) ∨ n = 95)) := by
  simp [goodB, smallB, digitB]
theorem goodB_f {i n : Nat} (h : ¬ ((97 ≤ n ∧ n ≤ 122) ∨ (i ≠ 0 ∧ ((48 ≤ n ∧ n ≤ 57) ∨ n = 95)))) : goodB i n = false := by
  rw [← goodB_iff] at h; simpa using h
noncomputable def nameB (s : ByteArray) : Bool := open Classical in decide (NameOk s)
theorem nameB_t {s : ByteArray} (h : NameOk s) : nameB s = true := by simp [nameB, h]
theorem nameB_f {s : ByteArray} (h : ¬ NameOk s) : nameB s = false := by simp [nameB, h]

theorem isSmall_any (c : Nat) (w : World) :
    Calls Try.prog 28 #[.int .u8 c] w fun e w' => e = .returned (.bool (smallB c)) ∧ w = w' := by
  go_enter Try.func28, Try.ntmps28
  go_wp2
  · have h : 97 ≤ c := by omega
    go_ret
    exact ⟨by simp [smallB, h]; omega, rfl⟩
  · have h : ¬ 97 ≤ c := by omega
    go_ret
    exact ⟨by simp [smallB, h], rfl⟩
theorem isDigit_any (c : Nat) (w : World) :
    Calls Try.prog 29 #[.int .u8 c] w fun e w' => e = .returned (.bool (digitB c)) ∧ w = w' := by
  go_enter Try.func29, Try.ntmps29
  go_wp2
  · have h : 48 ≤ c := by omega
    go_ret
    exact ⟨by simp [digitB, h]; omega, rfl⟩
  · have h : ¬ 48 ≤ c := by omega
    go_ret
    exact ⟨by simp [digitB, h], rfl⟩
def Ok (s : ByteArray) (k : Nat) : Prop := ∀ i (h : i < s.size), i < k → goodB i (s[i].toNat) = true
theorem Ok.zero (s : ByteArray) : Ok s 0 := fun _ _ h => absurd h (by omega)
theorem Ok.succ {s : ByteArray} {k : Nat} (h : Ok s k) (hk : k < s.size) (g : goodB k (s[k].toNat) = true) : Ok s (k+1) := by
  intro i hi hik
  by_cases e : i = k
  · subst e; exact g
  · exact h i hi (by omega)
theorem Ok.bad {s : ByteArray} {k : Nat} (hk : k < s.size) (g : goodB k (s[k].toNat) = false) : nameB s = false :=
  nameB_f fun h => by have := h.2.2 k hk; rw [g] at this; cases this
theorem Ok.done {s : ByteArray} {k : Nat} (h : Ok s k) (hk : s.size ≤ k) (h1 : 1 ≤ s.size) (h2 : s.size ≤ 20) : nameB s = true :=
  nameB_t ⟨h1, h2, fun i hi => h i hi (by omega)⟩
theorem nrs (s : ByteArray) (hs : s.size ≤ maxLen) (w : World) :
    Calls Try.prog 14 #[.string s] w fun e w' => e = .returned (.bool (nameB s)) ∧ w = w' := by
  unfold maxLen at hs
  by_cases hlen : (s.size : Int) < 1 ∨ 20 < (s.size : Int)
  · have hf : nameB s = false := nameB_f (by rintro ⟨a, b, _⟩; omega)
    go_enter Try.func14, Try.ntmps14
    rcases hlen with hl | hl
    · have hb : decide ((s.size : Int) < 1) = true := by simpa using hl
      go_wp2
      go_ret
      exact ⟨by simp [hf], rfl⟩
    · have hl2 : 1 ≤ (s.size : Int) := by omega
      go_wp2
      go_ret
      exact ⟨by simp, rfl⟩
  · have h1 : 1 ≤ (s.size : Int) := by omega
    have h2 : (s.size : Int) ≤ 20 := by omega
    clear hlen
    go_enter Try.func14, Try.ntmps14
    go_wp2
    go_loop [3] (fun i => ∃ k : Nat, k ≤ s.size ∧ i = .int .i64 k ∧ Ok s k) (fun i => s.size - (intOf i).toNat)
    case atStart => exact ⟨0, Nat.zero_le _, rfl, Ok.zero s⟩
    case round =>
      obtain ⟨k, hk, rfl, HO⟩ := hrel
      by_cases hlt : k < s.size
      · obtain h95 | h95 : s[k].toNat = 95 ∨ s[k].toNat ≠ 95 := by omega
        · have hb : ((s[k].toNat : Int) != 95) = false := by simp; omega
          go_wp2
          all_goals first
            | (go_round
               case rel => exact ⟨k + 1, by omega, by go_num, HO.succ hlt (by rw [goodB_iff]; omega)⟩
               case measure => simp [intOf]; omega)
            | (go_ret
               exact ⟨by rw [Ok.bad hlt (goodB_f (by omega))]; rfl, rfl⟩)
        · have hb : ((s[k].toNat : Int) != 95) = true := by simp; omega
          go_wp2
          all_goals first
            | (go_round
               case rel => exact ⟨k + 1, by omega, by go_num, HO.succ hlt (by rw [goodB_iff]; omega)⟩
               case measure => simp [intOf]; omega)
            | (go_ret
               exact ⟨by rw [Ok.bad hlt (goodB_f (by omega))]; rfl, rfl⟩)
      · go_wp2
        go_ret
        exact ⟨by rw [HO.done (by omega) (by omega) (by omega)]; rfl, rfl⟩


theorem nri (s : ByteArray) (hs : s.size ≤ maxLen) (w : World) :
    Calls Try.prog 15 #[.string s] w fun e w' => e = .returned (.bool (nameB s)) ∧ w = w' := by
  unfold maxLen at hs
  by_cases hl1 : s.size < 1
  · have hf : nameB s = false := nameB_f (by rintro ⟨a, b, _⟩; omega)
    have he := empty_t hl1
    go_enter Try.func15, Try.ntmps15
    go_wp2
    go_ret
    exact ⟨by simp [hf], rfl⟩
  have he := empty_f (s := s) (by omega)
  by_cases hl2 : (20 : Int) < s.size
  · have hf : nameB s = false := nameB_f (by rintro ⟨a, b, _⟩; omega)
    go_enter Try.func15, Try.ntmps15
    go_wp2
    go_ret
    exact ⟨by simp [hf], rfl⟩
  have h1 : 1 ≤ s.size := by omega
  have h2 : (s.size : Int) ≤ 20 := by omega
  have h0 : 0 < s.size := h1
  clear hl1 hl2
  cases hsm : smallB (s[0].toNat)
  · have hf : nameB s = false := Ok.bad (k := 0) h0 (by simp [goodB, hsm])
    go_enter Try.func15, Try.ntmps15
    go_wp2_with (go_at_call 28; refine (isSmall_any _ _).mono ?_; rintro e w' ⟨rfl, rfl⟩)
    go_ret
    exact ⟨by simp [hf], rfl⟩
  · go_enter Try.func15, Try.ntmps15
    go_wp2_with (go_at_call 28; refine (isSmall_any _ _).mono ?_; rintro e w' ⟨rfl, rfl⟩)
    go_loop [19] (fun i => ∃ k : Nat, k ≤ s.size ∧ i = .int .i64 k ∧ Ok s k) (fun i => s.size - (intOf i).toNat)
    case atStart => exact ⟨0, Nat.zero_le _, rfl, Ok.zero s⟩
    case round =>
      obtain ⟨k, hk, rfl, HO⟩ := hrel
      by_cases hlt : k < s.size
      · have hz : k = 0 → smallB (s[k].toNat) = true := by rintro rfl; exact hsm
        have HZ := Lib.hid hz
        clear hz hsm
        go_wp2_with (first | (go_at_call 28; refine (isSmall_any _ _).mono ?_; rintro e w' ⟨rfl, rfl⟩) | (go_at_call 29; refine (isDigit_any _ _).mono ?_; rintro e w' ⟨rfl, rfl⟩))
        · have hb : (((s[k].toNat : Int)) != 95) = true := by assumption
          go_ret
          exact ⟨by rw [Ok.bad (k := k) hlt (by
            have h95 : s[k].toNat ≠ 95 := by simp at hb; omega
            have q1 : smallB s[k].toNat = false := by assumption
            have q2 : digitB s[k].toNat = false := by assumption
            simp [goodB, h95, q1, q2])]; rfl, rfl⟩
        · have hb : (((s[k].toNat : Int)) != 95) = false := by assumption
          have hs1 : smallB s[k].toNat = false := by assumption
          go_round
          case rel => exact ⟨k + 1, by omega, by go_num, HO.succ hlt (by
            have h95 : s[k].toNat = 95 := by simp at hb; omega
            have h0 : k ≠ 0 := fun e => by rw [HZ.out e] at hs1; cases hs1
            simp [goodB, h95, h0])⟩
          case measure => simp [intOf]; omega
        · have hb : digitB s[k].toNat = true := by assumption
          have hs1 : smallB s[k].toNat = false := by assumption
          go_round
          case rel => exact ⟨k + 1, by omega, by go_num, HO.succ hlt (by
            have h0 : k ≠ 0 := fun e => by rw [HZ.out e] at hs1; cases hs1
            simp [goodB, hb, h0])⟩
          case measure => simp [intOf]; omega
        · have hs1 : smallB s[k].toNat = true := by assumption
          go_round
          case rel => exact ⟨k + 1, by omega, by go_num, HO.succ hlt (by simp [goodB, hs1])⟩
          case measure => simp [intOf]; omega
      · go_wp2
        go_ret
        exact ⟨by rw [HO.done (by omega) (by omega) (by omega)]; rfl, rfl⟩

theorem walk (a0 : ByteArray) (w0 : a0.size ≤ maxLen) (w : World) :
    Calls Try.prog 5 #[.string a0] w fun e w' => e = .returned (.bool true) ∧ Below w.heap.size w w' := by
  by_cases hl : (1048576 : Int) < a0.size
  · unfold maxLen at w0
    go_enter Try.func5, Try.ntmps5
    go_wp2
    go_ret
    exact ⟨rfl, Below.refl _ _⟩
  · have hm : a0.size ≤ maxLen := w0
    unfold maxLen at w0
    have H := Lib.hid hm
    clear hm
    go_enter Try.func5, Try.ntmps5
    go_wp2_with (first | (go_at_call 14; refine (nrs _ H.out _).mono ?_; rintro e w' ⟨rfl, rfl⟩) | (go_at_call 15; refine (nri _ H.out _).mono ?_; rintro e w' ⟨rfl, rfl⟩))
    go_ret
    exact ⟨rfl, Below.refl _ _⟩
end Go.Proofs.Ytcoilkmelabacaa.nm
