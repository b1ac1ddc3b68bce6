/-
  GetNum of the program and of the model: both tell the same number, place and code. For every text and place that the row reads, where errors.errorType holds what the program's text lays.
-/
import Derived.Test.YtgmbpohbjhaghaaDoorBase
import Derived.Test.YtgmbpohbjhaghaaDoorAs
namespace Go.Proofs.YtgmbpohbjhaghaaDoor.read
open Go.ChangeShapes Go.WideShapes Go.ChangeAt Go.RowKit

/-- a number from 0 to 2^64-1 as the number of int64 that it stands for -/
def unf (u : Nat) : Int := if u % 2 = 1 then -((u / 2 : Nat) : Int) - 1 else ((u / 2 : Nat) : Int)
/-- number, place behind it, code: from the i-th byte on, u told so far, f bytes left -/
def rd (s : ByteArray) (p : Nat) : Nat → Nat → Nat → Int × Int × Int
  | 0, _, _ => (0, 0, 3)
  | f + 1, i, u =>
    if s.size ≤ p + i then (0, 0, 4)
    else if i = 9 ∧ 1 < byteAt s (p + i) then (0, 0, 3)
    else if byteAt s (p + i) < 128 then (if byteAt s (p + i) = 0 ∧ 0 < i then (0, 0, 3) else (unf (u + byteAt s (p + i) * 2 ^ (7 * i)), p + i + 1, 0))
    else rd s p f (i + 1) (u + (byteAt s (p + i) - 128) * 2 ^ (7 * i))
def getV (s : ByteArray) (at_ : Int) : Int × Int × Int :=
  if 8000 < s.size then (0, 0, 2) else if at_ < 0 then (0, 0, 1) else rd s at_.toNat 10 0 0
def nout (x : Int × Int × Int) : Value := .agg #[.int .i64 x.1, .int .i64 x.2.1, .int .i64 x.2.2]

theorem acc_bd {k x c : Nat} (hk : k ≤ 9) (hx : x < 2 ^ (7 * k)) (hc : c < 128) (h9 : k = 9 → c ≤ 1) :
    x + c * 2 ^ (7 * k) < 18446744073709551616 ∧ (k < 9 → x + c * 2 ^ (7 * k) < 2 ^ (7 * (k + 1))) := by
  have h1 : x + c * 2 ^ (7 * k) < (c + 1) * 2 ^ (7 * k) := by rw [Nat.add_mul, Nat.one_mul]; omega
  have h2 : k < 9 → x + c * 2 ^ (7 * k) < 2 ^ (7 * (k + 1)) := fun _ => by
    have e : 2 ^ (7 * (k + 1)) = 128 * 2 ^ (7 * k) := by rw [Nat.mul_add, Nat.pow_add, Nat.mul_comm]
    have h3 : (c + 1) * 2 ^ (7 * k) ≤ 128 * 2 ^ (7 * k) := Nat.mul_le_mul_right _ (by omega)
    omega
  refine ⟨?_, h2⟩
  by_cases h : k = 9
  · subst h
    have := h9 rfl
    have h3 : (c + 1) * 2 ^ (7 * 9) ≤ 2 * 2 ^ (7 * 9) := Nat.mul_le_mul_right _ (by omega)
    have h4 : (2 : Nat) * 2 ^ (7 * 9) = 18446744073709551616 := by decide
    omega
  · have h3 := h2 (by omega)
    have h4 : (2 : Nat) ^ (7 * (k + 1)) ≤ 2 ^ 63 := Nat.pow_le_pow_right (by omega) (by omega)
    have h5 : (2 : Nat) ^ 63 = 9223372036854775808 := by decide
    omega
theorem wrap_acc {x : Nat} {c k : Nat} (d : Int) (hd : d = c) (h : x + c * 2 ^ (7 * k) < 18446744073709551616) :
    IntKind.u64.wrap ((x : Int) + IntKind.u64.wrap (d * 2 ^ (7 * k))) = ((x + c * 2 ^ (7 * k) : Nat) : Int) := by
  subst hd
  have e : (c : Int) * 2 ^ (7 * k) = ((c * 2 ^ (7 * k) : Nat) : Int) := by simp
  rw [e]
  generalize c * 2 ^ (7 * k) = q at *
  have w1 : IntKind.u64.wrap (q : Int) = q := by
    rw [IntKind.wrap_u64]; omega
  rw [w1, IntKind.wrap_u64]; omega
theorem unf_odd {y : Nat} (h : y % 2 = 1) : unf y = -((y : Int) / 2) - 1 := by unfold unf; rw [if_pos h]; simp
theorem unf_even {y : Nat} (h : ¬ y % 2 = 1) : unf y = (y : Int) / 2 := by unfold unf; rw [if_neg h]; simp
set_option maxHeartbeats 1000000 in
set_option maxRecDepth 100000 in
theorem specGet_in (s : ByteArray) (p : Nat) (hs : (s.size : Int) ≤ 8000) (hp : (p : Int) ≤ 9223372036854775807) (w : World) :
    Calls Tryd.prog 19 #[.string s, .int .i64 p] w fun e w' => e = .returned (nout (rd s p 10 0 0)) ∧ Below w.heap.size w w' := by
  go_enter Tryd.func19, Tryd.ntmps19
  go_wp2
  go_loop [5, 6] (fun u i => ∃ (k x : Nat), k ≤ 10 ∧ i = .int .i64 k ∧ u = .int .u64 x ∧ (k ≤ 9 → x < 2 ^ (7 * k)) ∧ rd s p 10 0 0 = rd s p (10 - k) k x) (fun _ i => 10 - (intOf i).toNat)
  case atStart => exact ⟨0, 0, by omega, rfl, rfl, fun _ => by simp, rfl⟩
  case round =>
    obtain ⟨k, x, hk, rfl, rfl, hx, hr⟩ := hrel
    have HX := Lib.hid hx
    have HR := Lib.hid hr
    clear hx hr
    by_cases hlt : k < 10
    · obtain ⟨f, hf⟩ : ∃ f, 10 - k = f + 1 := ⟨9 - k, by omega⟩
      have HF := Lib.hid (show 9 - k = f by omega)
      rw [hf] at HR
      clear hf
      by_cases hin : (s.size : Int) ≤ (p : Int) + k
      · have hv : rd s p (f + 1) k x = (0, 0, 4) := by rw [rd, if_pos (by omega)]
        have HV := Lib.hid hv
        clear hv
        go_wp2
        exact bodyPost_ret (v := .agg #[.int .i64 0, .int .i64 0, .int .i64 4]) (by simp [results, Tryd.results19, go_sem]) rfl ⟨by rw [HR.out, HV.out]; rfl, ((Below.refl _ _).alloc (Nat.le_refl _) _)⟩
      · have hlt2 : p + k < s.size := by omega
        have hb := byteAt_lt s (p + k)
        have he := byteAt_eq hlt2
        have HE := Lib.hid he
        rw [he] at hb
        clear he
        by_cases h9 : k = 9 ∧ 1 < s[p + k].toNat
        · have hv : rd s p (f + 1) k x = (0, 0, 3) := by rw [rd, if_neg (by omega), HE.out, if_pos h9]
          have HV := Lib.hid hv
          obtain ⟨h91, h92⟩ := h9
          have hk9 : ((k : Int) == 9) = true := by simp; omega
          have h92' : (1 : Int) < s[p + k].toNat := by omega
          clear hv h91
          go_wp2
          exact bodyPost_ret (v := .agg #[.int .i64 0, .int .i64 0, .int .i64 3]) (by simp [results, Tryd.results19, go_sem]) rfl ⟨by rw [HR.out, HV.out]; rfl, ((Below.refl _ _).alloc (Nat.le_refl _) _)⟩
        · by_cases hc : s[p + k].toNat < 128
          · have hc' : (s[p + k].toNat : Int) < 128 := by omega
            have hm : (s[p + k].toNat : Int) % 128 = s[p + k].toNat := by omega
            by_cases hz : s[p + k].toNat = 0 ∧ 0 < k
            · have hv : rd s p (f + 1) k x = (0, 0, 3) := by rw [rd, if_neg (by omega), HE.out, if_neg h9, if_pos hc, if_pos hz]
              have HV := Lib.hid hv
              obtain ⟨hz1, hz2⟩ := hz
              have hz1' : ((s[p + k].toNat : Int) == 0) = true := by simp; omega
              have hz2' : (0 : Int) < k := by omega
              have hz3 : (s[p + k].toNat : Int) ≤ 1 := by omega
              clear hv hz1 h9
              by_cases hk9 : k = 9
              · have hk9' : ((k : Int) == 9) = true := by simp; omega
                clear hk9
                go_wp2
                exact bodyPost_ret (v := .agg #[.int .i64 0, .int .i64 0, .int .i64 3]) (by simp [results, Tryd.results19, go_sem]) rfl ⟨by rw [HR.out, HV.out]; rfl, ((Below.refl _ _).alloc (Nat.le_refl _) _)⟩
              · have hk9' : ((k : Int) == 9) = false := by simp; omega
                clear hk9
                go_wp2
                exact bodyPost_ret (v := .agg #[.int .i64 0, .int .i64 0, .int .i64 3]) (by simp [results, Tryd.results19, go_sem]) rfl ⟨by rw [HR.out, HV.out]; rfl, ((Below.refl _ _).alloc (Nat.le_refl _) _)⟩
            · have hab := (acc_bd (c := s[p + k].toNat) (by omega) (HX.out (by omega)) hc (by omega)).1
              have hwr := wrap_acc (x := x) (c := s[p + k].toNat) (k := k) _ rfl hab
              have hv : rd s p (f + 1) k x = (unf (x + s[p + k].toNat * 2 ^ (7 * k)), (p : Int) + k + 1, 0) := by rw [rd, if_neg (by omega), HE.out, if_neg h9, if_pos hc, if_neg hz]
              obtain ⟨y, hy⟩ : ∃ y, y = x + s[p + k].toNat * 2 ^ (7 * k) := ⟨_, rfl⟩
              rw [← hy] at hab hwr hv
              have hyb : (y : Int) ≤ 18446744073709551615 := by omega
              clear hy hab
              have HV := Lib.hid hv
              have hodd : (((y : Int) % 2 == 1) = true ∧ unf y = -((y : Int) / 2) - 1) ∨ (((y : Int) % 2 == 1) = false ∧ unf y = (y : Int) / 2) := by
                by_cases ho : y % 2 = 1
                · exact .inl ⟨by simp; omega, unf_odd ho⟩
                · exact .inr ⟨by simp; omega, unf_even ho⟩
              have hk9 : (((k : Int) == 9) = true ∧ (s[p + k].toNat : Int) ≤ 1 ∧ 0 < (k : Int)) ∨ ((k : Int) == 9) = false := by
                by_cases e : k = 9
                · exact .inl ⟨by simp; omega, by omega, by omega⟩
                · exact .inr (by simp; omega)
              have hc0 : ((s[p + k].toNat : Int) == 0) = false ∨ (((s[p + k].toNat : Int) == 0) = true ∧ (k : Int) ≤ 0) := by
                by_cases e : s[p + k].toNat = 0
                · exact .inr ⟨by simp; omega, by omega⟩
                · exact .inl (by simp; omega)
              clear hv hz h9
              rcases hodd with ⟨ho, hu⟩ | ⟨ho, hu⟩
              · have HU := Lib.hid hu
                clear hu
                rcases hk9 with ⟨hk9, hc1, hkp⟩ | hk9
                all_goals
                  rcases hc0 with hc0 | ⟨hc0, hk0⟩
                  all_goals first
                    | (exfalso; omega)
                    | (go_wp2
                       exact bodyPost_ret (v := .agg #[.int .i64 (-((y : Int) / 2) - 1), .int .i64 ((p : Int) + k + 1), .int .i64 0]) (by simp [results, Tryd.results19, go_sem]) rfl ⟨by rw [HR.out, HV.out, HU.out]; rfl, ((Below.refl _ _).alloc (Nat.le_refl _) _)⟩)
              · have HU := Lib.hid hu
                clear hu
                rcases hk9 with ⟨hk9, hc1, hkp⟩ | hk9
                all_goals
                  rcases hc0 with hc0 | ⟨hc0, hk0⟩
                  all_goals first
                    | (exfalso; omega)
                    | (go_wp2
                       exact bodyPost_ret (v := .agg #[.int .i64 ((y : Int) / 2), .int .i64 ((p : Int) + k + 1), .int .i64 0]) (by simp [results, Tryd.results19, go_sem]) rfl ⟨by rw [HR.out, HV.out, HU.out]; rfl, ((Below.refl _ _).alloc (Nat.le_refl _) _)⟩)
          · have hk8 : k < 9 := by omega
            have hab := acc_bd (c := s[p + k].toNat - 128) (by omega) (HX.out (by omega)) (by omega) (by omega)
            have hwr := wrap_acc (x := x) (c := s[p + k].toNat - 128) (k := k) ((s[p + k].toNat : Int) % 128) (by omega) hab.1
            have hv : rd s p (f + 1) k x = rd s p f (k + 1) (x + (s[p + k].toNat - 128) * 2 ^ (7 * k)) := by rw [rd, if_neg (by omega), HE.out, if_neg h9, if_neg hc]
            have HV := Lib.hid hv
            have HB := Lib.hid hab
            have hk9 : ((k : Int) == 9) = false := by simp; omega
            have hc' : (128 : Int) ≤ s[p + k].toNat := by omega
            obtain ⟨y, hy⟩ : ∃ y, y = x + (s[p + k].toNat - 128) * 2 ^ (7 * k) := ⟨_, rfl⟩
            rw [← hy] at hwr HV HB
            clear hab hv h9 hc hy
            go_wp2
            go_round
            case rel => exact ⟨k + 1, y, by omega, by go_num, rfl, fun _ => HB.out.2 hk8, by rw [HR.out, HV.out, ← HF.out]; congr 1; omega⟩
            case measure => simp [intOf]; omega
    · have hv : rd s p (10 - k) k x = (0, 0, 3) := by rw [show 10 - k = 0 by omega, rd]
      have HV := Lib.hid hv
      clear hv
      go_wp2
      exact bodyPost_ret (v := .agg #[.int .i64 0, .int .i64 0, .int .i64 3]) (by simp [results, Tryd.results19, go_sem]) rfl ⟨by rw [HR.out, HV.out]; rfl, ((Below.refl _ _).alloc (Nat.le_refl _) _)⟩

open Go.Proofs.YtgmbpohbjhaghaaDoor.as_
/-- the error of a code: none of 0 -/
def errV (c : Int) : Value := if c = 0 then .nilIface else wrong c
theorem specGet_long (s : ByteArray) (p : Int) (_ : s.size ≤ maxLen) (h : (8000 : Int) < s.size) (w : World) :
    Calls Tryd.prog 19 #[.string s, .int .i64 p] w fun e w' => e = .returned (nout (0, 0, 2)) ∧ Below w.heap.size w w' := by
  go_enter Tryd.func19, Tryd.ntmps19
  go_wp2
  exact bodyPost_ret (v := .agg #[.int .i64 0, .int .i64 0, .int .i64 2]) (by simp [results, Tryd.results19, go_sem]) rfl ⟨rfl, ((Below.refl _ _).alloc (Nat.le_refl _) _)⟩
theorem specGet_neg (s : ByteArray) (p : Int) (_ : (s.size : Int) ≤ 8000) (h : p < 0) (w : World) :
    Calls Tryd.prog 19 #[.string s, .int .i64 p] w fun e w' => e = .returned (nout (0, 0, 1)) ∧ Below w.heap.size w w' := by
  go_enter Tryd.func19, Tryd.ntmps19
  go_wp2
  exact bodyPost_ret (v := .agg #[.int .i64 0, .int .i64 0, .int .i64 1]) (by simp [results, Tryd.results19, go_sem]) rfl ⟨rfl, ((Below.refl _ _).alloc (Nat.le_refl _) _)⟩
theorem specGet_any (s : ByteArray) (p : Int) (hs : s.size ≤ maxLen) (hp : p ≤ 9223372036854775807) (w : World) :
    Calls Tryd.prog 19 #[.string s, .int .i64 p] w fun e w' => e = .returned (nout (getV s p)) ∧ Below w.heap.size w w' := by
  unfold getV
  by_cases h1 : (8000 : Int) < s.size
  · rw [if_pos (by omega)]
    exact specGet_long s p hs h1 w
  · rw [if_neg (by omega)]
    by_cases h2 : p < 0
    · rw [if_pos h2]
      exact specGet_neg s p (by omega) h2 w
    · rw [if_neg h2]
      obtain ⟨q, rfl⟩ := Int.eq_ofNat_of_zero_le (show 0 ≤ p by omega)
      exact specGet_in s q (by omega) hp w

/-- what is wrong with the place, ahead of any byte -/
def placeC (s : ByteArray) (p : Int) : Int := if 8000 < s.size then 2 else if p < 0 then 1 else if (s.size : Int) < p then 4 else 0
theorem place_any (s : ByteArray) (p : Int) (hs : s.size ≤ maxLen) (w : World) :
    Calls Tryd.prog 35 #[.string s, .int .i64 p] w fun e w' => e = .returned (errV (placeC s p)) ∧ w = w' := by
  unfold maxLen at hs
  unfold placeC
  by_cases h1 : (8000 : Int) < s.size
  · rw [if_pos (by omega)]
    go_enter Tryd.func35, Tryd.ntmps35
    go_wp2
    go_ret
    exact ⟨rfl, rfl⟩
  · rw [if_neg (by omega)]
    by_cases h2 : p < 0
    · rw [if_pos h2]
      go_enter Tryd.func35, Tryd.ntmps35
      go_wp2
      go_ret
      exact ⟨rfl, rfl⟩
    · rw [if_neg h2]
      by_cases h3 : (s.size : Int) < p
      · rw [if_pos h3]
        go_enter Tryd.func35, Tryd.ntmps35
        go_wp2
        go_ret
        exact ⟨rfl, rfl⟩
      · rw [if_neg h3]
        go_enter Tryd.func35, Tryd.ntmps35
        go_wp2
        go_ret
        exact ⟨rfl, rfl⟩
theorem unfolded_any (y : Nat) (hy : (y : Int) ≤ 18446744073709551615) (w : World) :
    Calls Tryd.prog 36 #[.int .u64 y] w fun e w' => e = .returned (.int .i64 (unf y)) ∧ w = w' := by
  by_cases ho : y % 2 = 1
  · have hu := unf_odd ho
    have ho' : ((y : Int) % 2 == 1) = true := by simp; omega
    rw [hu]
    clear hu ho
    go_enter Tryd.func36, Tryd.ntmps36
    go_wp2
    go_ret
    exact ⟨rfl, rfl⟩
  · have hu := unf_even ho
    have ho' : ((y : Int) % 2 == 1) = false := by simp; omega
    rw [hu]
    clear hu ho
    go_enter Tryd.func36, Tryd.ntmps36
    go_wp2
    go_ret
    exact ⟨rfl, rfl⟩

end Go.Proofs.YtgmbpohbjhaghaaDoor.read
