/-
  Crc and CrcMore of the program and of the model: both come to one number. For every number and text that the row reads.
-/
import Derived.Test.YtgmbpohbjhaghaaDoorBase
namespace Go.Proofs.YtgmbpohbjhaghaaDoor.crc
open Go.ChangeShapes Go.WideShapes Go.ChangeAt Go.RowKit
def step (r : Nat) : Nat := if r % 2 = 1 then r / 2 ^^^ 3988292384 else r / 2
def steps : Nat → Nat → Nat
  | 0, r => r
  | k+1, r => step (steps k r)
def regs (s : ByteArray) (r : Nat) : Nat → Nat
  | 0 => r
  | k+1 => steps 8 (regs s r k ^^^ byteAt s k)
theorem step_lt {r : Nat} (h : r < 4294967296) : step r < 4294967296 := by
  unfold step; split
  · exact xor32 (by omega) (by omega)
  · omega
theorem steps_lt {r : Nat} (h : r < 4294967296) : ∀ k, steps k r < 4294967296
  | 0 => h
  | k+1 => step_lt (steps_lt h k)
theorem regs_lt {s : ByteArray} {r : Nat} (h : r < 4294967296) : ∀ k, regs s r k < 4294967296
  | 0 => h
  | k+1 => steps_lt (xor32 (regs_lt h k) (by have := byteAt_lt s k; omega)) 8
/-- the forms in which the two texts write one step -/
theorem step_odd {r : Nat} (h : r < 4294967296) (ho : r % 2 = 1) : bits .xor .u32 ((r : Int) / 2) 3988292384 = (step r : Nat) := by
  have := u32_xor_nat (r / 2) 3988292384 (by omega) (by omega)
  unfold step; rw [if_pos ho, ← this]; simp
theorem step_even {r : Nat} (ho : ¬ r % 2 = 1) : ((r : Int) / 2) = (step r : Nat) := by
  unfold step; rw [if_neg ho]; simp
theorem and_one (r : Nat) (h : r < 4294967296) : bits .and .u32 (r : Int) 1 = ((r % 2 : Nat) : Int) := by
  have := u32_and_nat r 1 (by omega) (by omega)
  rw [nat_mask1] at this
  exact this
theorem step_mul {r : Nat} (h : r < 4294967296) : bits .xor .u32 ((r : Int) / 2) ((r : Int) % 2 * 3988292384) = (step r : Nat) := by
  by_cases ho : r % 2 = 1
  · have e : (r : Int) % 2 = 1 := by omega
    rw [e]; exact step_odd h ho
  · have e : (r : Int) % 2 = 0 := by omega
    rw [e, ← step_even ho]
    have := u32_xor_nat (r / 2) 0 (by omega) (by omega)
    simpa using this

def flipped (r : Nat) : Nat := r ^^^ 4294967295
theorem flipped_lt {r : Nat} (h : r < 4294967296) : flipped r < 4294967296 := xor32 h (by omega)
theorem flipped_eq {r : Nat} (h : r < 4294967296) : bits .xor .u32 (r : Int) 4294967295 = (flipped r : Nat) := u32_xor_nat r 4294967295 h (by omega)
theorem flipped_eq' {r : Nat} (h : r < 4294967296) : bits .xor .u32 IntKind.u32.max (r : Int) = (flipped r : Nat) := by
  have e : IntKind.u32.max = ((4294967295 : Nat) : Int) := by kernel_rfl
  rw [e, u32_xor_nat 4294967295 r (by omega) h, Nat.xor_comm]; rfl
set_option maxHeartbeats 400000 in
theorem crcByte_any (r c : Nat) (hr : r < 4294967296) (hc : c < 256) (w : World) :
    Calls Tryd.prog 46 #[.int .u32 r, .int .u8 c] w fun e w' => e = .returned (.int .u32 (steps 8 (r ^^^ c))) ∧ w = w' := by
  have e0 := u32_xor_nat r c (by omega) (by omega)
  have hb : ∀ k, steps k (r ^^^ c) < 4294967296 := steps_lt (xor32 hr (by omega))
  have HB := Lib.hid hb
  clear hb
  go_enter Tryd.func46, Tryd.ntmps46
  go_wp2
  go_loop [0, 10] (fun x i => ∃ k : Nat, k ≤ 8 ∧ i = .int .i64 k ∧ x = .int .u32 (steps k (r ^^^ c))) (fun _ i => 8 - (intOf i).toNat)
  case atStart => exact ⟨0, by omega, rfl, rfl⟩
  case round =>
    obtain ⟨k, hk, rfl, rfl⟩ := hrel
    have hs := HB.out k
    by_cases hlt : k < 8
    · have e1 := step_mul hs
      go_wp2
      go_round
      case rel => exact ⟨k + 1, by omega, by go_num, rfl⟩
      case measure => simp [intOf]; omega
    · obtain rfl : k = 8 := by omega
      go_wp2
      go_ret
      exact ⟨rfl, rfl⟩
set_option maxHeartbeats 400000 in
theorem l01Crc_any (r : Nat) (s : ByteArray) (hs : s.size ≤ 8000) (hr : r < 4294967296) (w : World) :
    Calls Tryd.prog 21 #[.int .i64 r, .string s] w fun e w' => e = .returned (.int .i64 (flipped (regs s (flipped r) s.size) : Nat)) ∧ w = w' := by
  have e0 := flipped_eq hr
  have HR := Lib.hid (regs_lt (s := s) (flipped_lt hr))
  go_enter Tryd.func21, Tryd.ntmps21
  go_wp2
  go_loop [5, 6] (fun x i => ∃ k : Nat, k ≤ s.size ∧ i = .int .i64 k ∧ x = .int .u32 (regs s (flipped r) k)) (fun _ i => s.size - (intOf i).toNat)
  case atStart => exact ⟨0, by omega, rfl, rfl⟩
  case round =>
    obtain ⟨k, hk, rfl, rfl⟩ := hrel
    have h1 := HR.out k
    by_cases hlt : k < s.size
    · have hb := byteAt_lt s k
      rw [byteAt_eq hlt] at hb
      have e1 := u32_xor_nat _ _ h1 (show s[k].toNat < 4294967296 by omega)
      have hr1 : regs s (flipped r) (k+1) = steps 8 (regs s (flipped r) k ^^^ s[k].toNat) := by rw [regs, byteAt_eq hlt]
      have HR1 := Lib.hid hr1
      have HS := Lib.hid (steps_lt (xor32 h1 (show s[k].toNat < 4294967296 by omega)))
      clear hr1
      go_wp2
      generalize regs s (flipped r) k ^^^ s[k].toNat = q at *
      go_loop [5, 7] (fun x i => ∃ j : Nat, j ≤ 8 ∧ i = .int .i64 j ∧ x = .int .u32 (steps j q)) (fun _ i => 8 - (intOf i).toNat)
      case atStart => exact ⟨0, by omega, rfl, rfl⟩
      case round =>
        obtain ⟨j, hj, rfl, rfl⟩ := hrel
        have h2 := HS.out j
        by_cases hlt2 : j < 8
        · by_cases ho : steps j q % 2 = 1
          · have ea : bits .and .u32 ((steps j q : Nat) : Int) 1 = 1 := by rw [and_one _ h2, ho]; rfl
            have e2 := step_odd h2 ho
            clear ho
            go_wp2
            go_round
            case rel => exact ⟨j + 1, by omega, by go_num, rfl⟩
            case measure => simp [intOf]; omega
          · have ea : bits .and .u32 ((steps j q : Nat) : Int) 1 = 0 := by rw [and_one _ h2]; omega
            have e2 := step_even ho
            clear ho
            go_wp2
            go_round
            case rel => exact ⟨j + 1, by omega, by go_num, rfl⟩
            case measure => simp [intOf]; omega
        · obtain rfl : j = 8 := by omega
          go_wp2
          go_round
          case rel => exact ⟨k + 1, by omega, by go_num, by rw [HR1.out]⟩
          case measure => simp [intOf]; omega
    · obtain rfl : k = s.size := by omega
      have e3 := flipped_eq h1
      have e4 := flipped_lt h1
      go_wp2
      go_ret
      exact ⟨rfl, rfl⟩

theorem crcMore_any (r : Nat) (s : ByteArray) (hs : s.size ≤ 8000) (hr : r < 4294967296) (w : World) :
    Calls Tryd.prog 41 #[.int .i64 r, .string s] w fun e w' => e = .returned (.int .i64 (flipped (regs s (flipped r) s.size) : Nat)) ∧ w = w' := by
  have e0 := flipped_eq' hr
  have HR := Lib.hid (regs_lt (s := s) (flipped_lt hr))
  go_enter Tryd.func41, Tryd.ntmps41
  go_wp2
  go_loop [5, 23] (fun x i => ∃ k : Nat, k ≤ s.size ∧ i = .int .i64 k ∧ x = .int .u32 (regs s (flipped r) k)) (fun _ i => s.size - (intOf i).toNat)
  case atStart => exact ⟨0, by omega, rfl, rfl⟩
  case round =>
    obtain ⟨k, hk, rfl, rfl⟩ := hrel
    have h1 := HR.out k
    by_cases hlt : k < s.size
    · have hb := byteAt_lt s k
      rw [byteAt_eq hlt] at hb
      have hr1 : regs s (flipped r) (k+1) = steps 8 (regs s (flipped r) k ^^^ s[k].toNat) := by rw [regs, byteAt_eq hlt]
      have HR1 := Lib.hid hr1
      clear hr1
      go_wp2_with (go_at_call 46; refine (crcByte_any _ _ h1 hb _).mono ?_; rintro e w' ⟨rfl, rfl⟩)
      go_round
      case rel => exact ⟨k + 1, by omega, by go_num, by rw [HR1.out]⟩
      case measure => simp [intOf]; omega
    · obtain rfl : k = s.size := by omega
      have e3 := flipped_eq' h1
      have e4 := flipped_lt h1
      go_wp2
      go_ret
      exact ⟨rfl, rfl⟩

/-- what both texts come to: the CRC that goes on from 'crc' over s; 0 outside the document's bounds -/
def crcFrom (crc : Int) (s : ByteArray) : Int :=
  if 8000 < s.size ∨ crc < 0 ∨ 4294967295 < crc then 0 else (flipped (regs s (flipped crc.toNat) s.size) : Nat)
theorem crcFrom_in {r : Nat} {s : ByteArray} (hs : s.size ≤ 8000) (hr : r < 4294967296) : crcFrom r s = (flipped (regs s (flipped r) s.size) : Nat) := by
  unfold crcFrom; rw [if_neg (by omega)]; rfl
theorem crcFrom_out {r : Int} {s : ByteArray} (h : 8000 < s.size ∨ r < 0 ∨ 4294967295 < r) : crcFrom r s = 0 := if_pos h
theorem crcFrom_bd (r : Int) (s : ByteArray) : 0 ≤ crcFrom r s ∧ crcFrom r s < 4294967296 := by
  unfold crcFrom; split
  · omega
  · have : flipped (regs s (flipped r.toNat) s.size) < 4294967296 := flipped_lt (regs_lt (flipped_lt (by omega)) _)
    omega
theorem implMore_all (c : Int) (s : ByteArray) (hs : s.size ≤ maxLen) (w : World) :
    Calls Tryd.prog 41 #[.int .i64 c, .string s] w fun e w' => e = .returned (.int .i64 (crcFrom c s)) ∧ w = w' := by
  unfold maxLen at hs
  by_cases h1 : (8000 : Int) < s.size
  · have hf := crcFrom_out (r := c) (s := s) (by omega)
    have HF := Lib.hid hf
    clear hf
    go_enter Tryd.func41, Tryd.ntmps41
    go_wp2
    go_ret
    exact ⟨by rw [HF.out]; rfl, rfl⟩
  by_cases h2 : c < 0
  · have hf := crcFrom_out (r := c) (s := s) (by omega)
    have HF := Lib.hid hf
    clear hf
    go_enter Tryd.func41, Tryd.ntmps41
    go_wp2
    go_ret
    exact ⟨by rw [HF.out]; rfl, rfl⟩
  by_cases h3 : 4294967295 < c
  · have hf := crcFrom_out (r := c) (s := s) (by omega)
    have HF := Lib.hid hf
    clear hf
    go_enter Tryd.func41, Tryd.ntmps41
    go_wp2
    go_ret
    exact ⟨by rw [HF.out]; rfl, rfl⟩
  obtain ⟨r, rfl⟩ := Int.eq_ofNat_of_zero_le (show 0 ≤ c by omega)
  rw [crcFrom_in (by omega) (by omega)]
  exact crcMore_any r s (by omega) (by omega) w
theorem implCrc_all (s : ByteArray) (hs : s.size ≤ maxLen) (w : World) :
    Calls Tryd.prog 32 #[.string s] w fun e w' => e = .returned (.int .i64 (crcFrom 0 s)) ∧ w = w' := by
  have H := Lib.hid hs
  go_enter Tryd.func32, Tryd.ntmps32
  go_wp2_with (go_at_call 41; refine (implMore_all _ _ H.out _).mono ?_; rintro e w' ⟨rfl, rfl⟩)
  go_ret
  exact ⟨rfl, rfl⟩
end Go.Proofs.YtgmbpohbjhaghaaDoor.crc
