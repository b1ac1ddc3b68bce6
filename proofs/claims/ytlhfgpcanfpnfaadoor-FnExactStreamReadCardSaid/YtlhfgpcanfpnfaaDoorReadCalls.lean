/-
  What FrameRead of the model calls: cutting at a blank, reading a number. For every text of at most 8000 bytes.
-/
import Derived.Test.YtlhfgpcanfpnfaaDoorReadSpec
import Derived.Laws.Slices
namespace Go.Proofs.YtlhfgpcanfpnfaaDoor.frame
open Go.ChangeShapes Go.WideShapes Go.ChangeAt Go.RowKit
open Go.Proofs.YtlhfgpcanfpnfaaDoor.line Go.Proofs.YtlhfgpcanfpnfaaDoor.all_
def NoC (s : ByteArray) (k : Nat) : Prop := ∀ i (h : i < s.size), i < k → s[i].toNat ≠ 32
theorem get_list (s : ByteArray) (i : Nat) (h : i < s.size) : s.data.toList[i]'(by simpa using h) = s[i] := by
  simp
  rfl
theorem noC_take {s : ByteArray} {k : Nat} (h : NoC s k) : ∀ x ∈ s.data.toList.take k, x ≠ 32 := fun x hx e => by
  obtain ⟨i, hi, hx2⟩ := List.getElem_of_mem hx
  rw [List.length_take] at hi
  have hs : i < s.size := by
    have : s.data.toList.length = s.size := rfl
    omega
  rw [List.getElem_take, get_list s i hs] at hx2
  have := h i hs (by omega)
  rw [hx2, e] at this
  exact this rfl
theorem cut_at {s : ByteArray} {k : Nat} (h : NoC s k) (hk : k < s.size) (h32 : s[k].toNat = 32) : bA (cutA 32 s.data.toList).1 = s.extract 0 k ∧ bA (cutA 32 s.data.toList).2.1 = s.extract (k + 1) s.size := by
  have hl : s.data.toList.length = s.size := rfl
  have e0 : s[k] = 32 := by
    apply UInt8.toNat_inj.1
    rw [h32]; rfl
  have e : s.data.toList = s.data.toList.take k ++ 32 :: s.data.toList.drop (k + 1) := by
    conv => lhs; rw [← List.take_append_drop k s.data.toList]
    congr 1
    rw [List.drop_eq_getElem_cons (by omega), get_list s k hk, e0]
  have ec := cutA_hit (c := 32) (s.data.toList.drop (k + 1)) (noC_take h)
  rw [← e] at ec
  rw [ec, Lib.extract_eq, Lib.extract_eq]
  refine ⟨by simp [bA], ?_⟩
  have : List.take (s.size - (k + 1)) (List.drop (k + 1) s.data.toList) = List.drop (k + 1) s.data.toList := List.take_of_length_le (by rw [List.length_drop]; omega)
  rw [this]
  rfl
theorem cut_none {s : ByteArray} {k : Nat} (h : NoC s k) (hk : s.size ≤ k) : bA (cutA 32 s.data.toList).1 = s ∧ bA (cutA 32 s.data.toList).2.1 = ⟨#[]⟩ := by
  have hl : s.data.toList.length = s.size := rfl
  have h2 := noC_take h
  rw [List.take_of_length_le (by omega)] at h2
  rw [cutA_miss h2]
  exact ⟨bA_list s, rfl⟩
theorem drewB (w : World) : Below w.heap.size w w.drew := (Below.refl _ w).drew
theorem specCut_any (s : ByteArray) (hs : s.size ≤ 8000) (w : World) :
    Calls Tryd.prog 13 #[.string s] w fun e w' => e = .returned (.tuple #[.string (bA (cutA 32 s.data.toList).1), .string (bA (cutA 32 s.data.toList).2.1)]) ∧ Below w.heap.size w w' := by
  obtain ⟨X, hX⟩ : ∃ X, X = bA (cutA 32 s.data.toList).1 := ⟨_, rfl⟩
  obtain ⟨Y, hY⟩ : ∃ Y, Y = bA (cutA 32 s.data.toList).2.1 := ⟨_, rfl⟩
  have HA := Lib.hid (fun (k : Nat) (h : NoC s k) (hk : k < s.size) (h32 : s[k].toNat = 32) => cut_at h hk h32)
  have HN := Lib.hid (fun (k : Nat) (h : NoC s k) (hk : s.size ≤ k) => cut_none h hk)
  rw [← hX, ← hY] at HA HN ⊢
  clear hX hY
  go_enter Tryd.func13, Tryd.ntmps13
  go_wp2
  go_loop [4] (fun i => ∃ k : Nat, k ≤ s.size ∧ i = .int .i64 k ∧ NoC s k) (fun i => s.size - (intOf i).toNat)
  case atStart => exact ⟨0, Nat.zero_le _, rfl, fun i _ hi => absurd hi (by omega)⟩
  case round =>
    obtain ⟨k, hk, rfl, hno⟩ := hrel
    have HO := Lib.hid hno
    clear hno
    by_cases hlt : k < s.size
    · by_cases h32 : s[k].toNat = 32
      · have hx := (HA.out k HO.out hlt h32).1
        have hy := (HA.out k HO.out hlt h32).2
        have hb1 : (0 : Int) ≤ (k : Int) := by omega
        have hb2 : (k : Int) ≤ (s.size : Int) := by omega
        have hsx : ∀ W : World, (Instr.slice 9 (.string s) none (some (.int .i64 (k : Int))) none).run Tryd.prog W = .ok (.string X) W := fun W => by
          rw [run_slice_string_h (P := Tryd.prog) W 9 (s := s) Tryd.underlying9 .i64 (k : Int) (by omega) (by omega), hx]; rfl
        have hsy : ∀ W : World, (Instr.slice 9 (.string s) (some (.int .i64 ((k : Int) + 1))) none none).run Tryd.prog W = .ok (.string Y) W := fun W => by
          rw [run_slice_string_l (P := Tryd.prog) W 9 (s := s) Tryd.underlying9 .i64 ((k : Int) + 1) (by omega) (by omega), hy]; rfl
        clear hx hy
        go_wp2_with fail
        go_region
        go_wp2
        exact bodyPost_ret (v := .tuple #[.string X, .string Y]) (by simp [results, Tryd.results13, go_sem]) rfl ⟨rfl, drewB w⟩
      · have hn : NoC s (k + 1) := fun i hi hik => by
          by_cases e : i = k
          · subst e; exact h32
          · exact HO.out i hi (by omega)
        have HN1 := Lib.hid hn
        clear hn
        go_wp2
        go_round
        case rel => exact ⟨k + 1, by omega, by go_num, HN1.out⟩
        case measure => simp [intOf]; omega
    · have hx := (HN.out k HO.out (by omega)).1
      have hy := (HN.out k HO.out (by omega)).2
      clear HA HN
      go_wp2
      exact bodyPost_ret (v := .tuple #[.string s, .string ⟨#[]⟩]) (by simp [results, Tryd.results13, go_sem]) rfl ⟨rfl, Below.refl _ _⟩
/-- read so far, of at most nine digits -/
def NS (l : List UInt8) (k : Nat) (n : Int) : Prop := 0 ≤ n ∧ n < 10 ^ k ∧ numFrom 0 l = numFrom n (l.drop k)
theorem NS.step {l : List UInt8} {k : Nat} {n : Int} (h : NS l k n) (hk : k < l.length) (hd : 48 ≤ l[k].toNat ∧ l[k].toNat ≤ 57) : NS l (k + 1) (10 * n + ((l[k].toNat : Int) - 48)) := by
  obtain ⟨h0, h1, h2⟩ := h
  refine ⟨by omega, ?_, ?_⟩
  · rw [Int.pow_succ]; omega
  · rw [h2, List.drop_eq_getElem_cons hk, numFrom, if_pos hd]
theorem NS.bad {l : List UInt8} {k : Nat} {n : Int} (h : NS l k n) (hk : k < l.length) (hd : ¬ (48 ≤ l[k].toNat ∧ l[k].toNat ≤ 57)) : numFrom 0 l = -1 := by
  rw [h.2.2, List.drop_eq_getElem_cons hk, numFrom, if_neg hd]
theorem NS.done {l : List UInt8} {k : Nat} {n : Int} (h : NS l k n) (hk : l.length ≤ k) : numFrom 0 l = n := by
  rw [h.2.2, List.drop_eq_nil_of_le hk]; rfl
theorem pow9 {k : Nat} (h : k ≤ 9) : (10 : Int) ^ k ≤ 1000000000 := by
  have : k = 0 ∨ k = 1 ∨ k = 2 ∨ k = 3 ∨ k = 4 ∨ k = 5 ∨ k = 6 ∨ k = 7 ∨ k = 8 ∨ k = 9 := by omega
  rcases this with rfl | rfl | rfl | rfl | rfl | rfl | rfl | rfl | rfl | rfl <;> decide
set_option maxHeartbeats 800000 in
theorem specNum_any (s : ByteArray) (hs : s.size ≤ 8000) (w : World) :
    Calls Tryd.prog 15 #[.string s] w fun e w' => e = .returned (.int .i64 (numV s.data.toList)) ∧ w = w' := by
  have hl : s.data.toList.length = s.size := rfl
  by_cases h1 : s.size < 1
  · have HV := Lib.hid (show numV s.data.toList = -1 by unfold numV; rw [if_pos (.inl (by omega))])
    clear hl
    go_enter Tryd.func15, Tryd.ntmps15
    go_wp2
    all_goals first
      | (exfalso; omega)
      | (go_ret
         exact ⟨by rw [HV.out]; rfl, rfl⟩)
  by_cases h9 : 9 < s.size
  · have HV := Lib.hid (show numV s.data.toList = -1 by unfold numV; rw [if_pos (.inr (.inl (by omega)))])
    clear hl
    go_enter Tryd.func15, Tryd.ntmps15
    go_wp2
    all_goals first
      | (exfalso; omega)
      | (go_ret
         exact ⟨by rw [HV.out]; rfl, rfl⟩)
  have h0s : 0 < s.size := by omega
  have e0 : s.data.toList.getD 0 0 = s[0]'h0s := by rw [List.getD_eq_getElem?_getD, List.getElem?_eq_getElem (by omega)]; rfl
  by_cases hz : 1 < s.size ∧ (s[0]'h0s).toNat = 48
  · obtain ⟨hz1, hz2⟩ := hz
    have HV := Lib.hid (show numV s.data.toList = -1 by
      unfold numV
      rw [if_pos (.inr (.inr ⟨by omega, by rw [e0]; exact UInt8.toNat_inj.1 hz2⟩))])
    clear e0 hl
    go_enter Tryd.func15, Tryd.ntmps15
    go_wp2
    all_goals first
      | (exfalso; omega)
      | (go_ret
         exact ⟨by rw [HV.out]; rfl, rfl⟩)
  have HV := Lib.hid (show numV s.data.toList = numFrom 0 s.data.toList by
    unfold numV
    rw [if_neg (fun h => by
      rcases h with h | h | ⟨h, h2⟩
      · omega
      · omega
      · exact hz ⟨by omega, by rw [← e0, h2]; rfl⟩)])
  have HN0 := Lib.hid (show NS s.data.toList 0 0 from ⟨by omega, by decide, by simp⟩)
  have HST := Lib.hid (fun (k : Nat) (n : Int) (h : NS s.data.toList k n) (hk : k < s.size) (hd : 48 ≤ s[k].toNat ∧ s[k].toNat ≤ 57) => (show NS s.data.toList (k + 1) (10 * n + ((s[k].toNat : Int) - 48)) by
    have := h.step (by omega) (by rw [get_list s k hk]; exact hd)
    rw [get_list s k hk] at this
    exact this))
  have HBD := Lib.hid (fun (k : Nat) (n : Int) (h : NS s.data.toList k n) (hk : k < s.size) (hd : ¬ (48 ≤ s[k].toNat ∧ s[k].toNat ≤ 57)) => (show numV s.data.toList = -1 by rw [HV.out]; exact h.bad (by omega) (by rw [get_list s k hk]; exact hd)))
  have HDN := Lib.hid (fun (k : Nat) (n : Int) (h : NS s.data.toList k n) (hk : s.size ≤ k) => (show numV s.data.toList = n by rw [HV.out]; exact h.done (by omega)))
  have hq : 1 < (s.size : Int) → ((s[0]'h0s).toNat == 48) = false := fun h => by
    apply Bool.eq_false_iff.2
    intro e
    exact hz ⟨by omega, by simpa using e⟩
  have HQ := Lib.hid hq
  clear hq hz e0 hl
  by_cases h2 : 1 < (s.size : Int)
  · have hq := HQ.out h2
    have hq2 : ¬ (s[0]'h0s).toNat = 48 := by simpa using hq
    go_enter Tryd.func15, Tryd.ntmps15
    go_wp2
    any_goals (exfalso; omega)
    go_loop [3, 4] (fun nv iv => ∃ (k : Nat) (n : Int), k ≤ s.size ∧ iv = .int .i64 k ∧ nv = .int .i64 n ∧ NS s.data.toList k n) (fun _ i => s.size - (intOf i).toNat)
    case atStart => exact ⟨0, 0, Nat.zero_le _, rfl, rfl, HN0.out⟩
    case round =>
      obtain ⟨k, n, hk, rfl, rfl, hns⟩ := hrel
      have HO := Lib.hid hns
      have hp := pow9 (k := k) (by omega)
      have hn0 := hns.1
      have hn1 : n < 1000000000 := Int.lt_of_lt_of_le hns.2.1 hp
      clear hns hp
      by_cases hlt : k < s.size
      · have hp8 := pow9 (k := k) (by omega)
        have hnb : n < 100000000 ∨ 8 < k := by
          by_cases h8 : 8 < k
          · exact .inr h8
          · refine .inl (Int.lt_of_lt_of_le HO.out.2.1 ?_)
            have : k = 0 ∨ k = 1 ∨ k = 2 ∨ k = 3 ∨ k = 4 ∨ k = 5 ∨ k = 6 ∨ k = 7 ∨ k = 8 := by omega
            rcases this with rfl | rfl | rfl | rfl | rfl | rfl | rfl | rfl | rfl <;> decide
        have HS := Lib.hid (HST.out k n HO.out hlt)
        have HB := Lib.hid (HBD.out k n HO.out hlt)
        clear hp8 hnb
        by_cases hd : 48 ≤ s[k].toNat ∧ s[k].toNat ≤ 57
        · have HS1 := Lib.hid (HS.out hd)
          obtain ⟨hd1, hd2⟩ := hd
          clear HS HB
          go_wp2
          go_round
          case rel => exact ⟨k + 1, _, by omega, by go_num, by go_num, HS1.out⟩
          case measure => simp [intOf]; omega
        · have HV2 := Lib.hid (HB.out hd)
          clear HS HB
          go_wp2
          all_goals first
            | (exfalso; omega)
            | (go_ret
               exact ⟨by rw [HV2.out]; rfl, rfl⟩)
      · have HV2 := Lib.hid (HDN.out k n HO.out (by omega))
        go_wp2
        go_ret
        exact ⟨by rw [HV2.out]; rfl, rfl⟩
  · go_enter Tryd.func15, Tryd.ntmps15
    go_wp2
    any_goals (exfalso; omega)
    go_loop [3, 4] (fun nv iv => ∃ (k : Nat) (n : Int), k ≤ s.size ∧ iv = .int .i64 k ∧ nv = .int .i64 n ∧ NS s.data.toList k n) (fun _ i => s.size - (intOf i).toNat)
    case atStart => exact ⟨0, 0, Nat.zero_le _, rfl, rfl, HN0.out⟩
    case round =>
      obtain ⟨k, n, hk, rfl, rfl, hns⟩ := hrel
      have HO := Lib.hid hns
      have hp := pow9 (k := k) (by omega)
      have hn0 := hns.1
      have hn1 : n < 1000000000 := Int.lt_of_lt_of_le hns.2.1 hp
      clear hns hp
      by_cases hlt : k < s.size
      · have hp8 := pow9 (k := k) (by omega)
        have hnb : n < 100000000 ∨ 8 < k := by
          by_cases h8 : 8 < k
          · exact .inr h8
          · refine .inl (Int.lt_of_lt_of_le HO.out.2.1 ?_)
            have : k = 0 ∨ k = 1 ∨ k = 2 ∨ k = 3 ∨ k = 4 ∨ k = 5 ∨ k = 6 ∨ k = 7 ∨ k = 8 := by omega
            rcases this with rfl | rfl | rfl | rfl | rfl | rfl | rfl | rfl | rfl <;> decide
        have HS := Lib.hid (HST.out k n HO.out hlt)
        have HB := Lib.hid (HBD.out k n HO.out hlt)
        clear hp8 hnb
        by_cases hd : 48 ≤ s[k].toNat ∧ s[k].toNat ≤ 57
        · have HS1 := Lib.hid (HS.out hd)
          obtain ⟨hd1, hd2⟩ := hd
          clear HS HB
          go_wp2
          go_round
          case rel => exact ⟨k + 1, _, by omega, by go_num, by go_num, HS1.out⟩
          case measure => simp [intOf]; omega
        · have HV2 := Lib.hid (HB.out hd)
          clear HS HB
          go_wp2
          all_goals first
            | (exfalso; omega)
            | (go_ret
               exact ⟨by rw [HV2.out]; rfl, rfl⟩)
      · have HV2 := Lib.hid (HDN.out k n HO.out (by omega))
        go_wp2
        go_ret
        exact ⟨by rw [HV2.out]; rfl, rfl⟩
end Go.Proofs.YtlhfgpcanfpnfaaDoor.frame
