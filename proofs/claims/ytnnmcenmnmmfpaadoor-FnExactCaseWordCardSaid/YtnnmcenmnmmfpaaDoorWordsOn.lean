/-
  WordBack, WordOn: the loops of the program and of the model come to the same place. For every line that the row reads.
-/
import Derived.Test.YtnnmcenmnmmfpaaDoorWords
namespace Go.Proofs.YtnnmcenmnmmfpaaDoor.line
open Go.ChangeShapes Go.WideShapes Go.ChangeAt Go.RowKit
theorem length_any (s : ByteArray) (_ : s.size ≤ 60) (w : World) :
    Calls Tryd.prog 23 #[.string s] w fun e w' => e = .returned (.int .i64 s.size) ∧ w = w' := by
  go_enter Tryd.func23, Tryd.ntmps23
  go_wp2
  go_ret
  exact ⟨rfl, rfl⟩
set_option maxHeartbeats 2000000 in
theorem specOn_any (s : ByteArray) (a : Nat) (hs : s.size ≤ 60) (ha : a ≤ s.size) (w : World) :
    Calls Tryd.prog 20 #[.agg #[.string s, .int .i64 a]] w fun e w' => e = .returned (.int .i64 (onN s a)) ∧ Below w.heap.size w w' := by
  obtain ⟨R, hR⟩ : ∃ R, R = onN s a := ⟨_, rfl⟩
  rw [← hR]
  have HR := Lib.hid hR
  clear hR
  go_enter Tryd.func20, Tryd.ntmps20
  go_wp2
  go_region
  go_wp2
  go_loop [3] (fun i => ∃ k f : Nat, k ≤ s.size ∧ i = .int .i64 k ∧ s.size ≤ k + f ∧ fwd (wAt s) s.size s.size (fwd (fun k => !wAt s k) s.size f k) = R) (fun i => s.size - (intOf i).toNat)
  case atStart => exact ⟨a, s.size, ha, rfl, by omega, HR.out.symm⟩
  case round =>
    obtain ⟨k, f, hk, rfl, hf, HO⟩ := hrel
    have HO := Lib.hid HO
    by_cases hlt : k < s.size
    · have hwk := wAt_eq hlt
      cases hw : wordN s[k].toNat
      · have hn : (fun k => !wAt s k) k = true := by simp [hwk, hw]
        have HN := Lib.hid hn
        rw [hw] at hwk
        clear hn hwk
        go_wp2_with (go_at_call 28; refine (word_any _ _).mono ?_; rintro e w' ⟨rfl, rfl⟩)
        go_round
        case rel => exact ⟨k + 1, f - 1, by omega, by go_num, by omega, by
          rw [← HO.out]
          obtain ⟨f', rfl⟩ : ∃ f', f = f' + 1 := ⟨f - 1, by omega⟩
          rw [fwd_step _ _ f' _ hlt HN.out]; rfl⟩
        case measure => simp [intOf]; omega
      · have hn : (fun k => !wAt s k) k = false := by simp [hwk, hw]
        have HN := Lib.hid ((congrArg (fwd (wAt s) s.size s.size) (fwd_stop _ s.size f k hn)).symm.trans HO.out)
        rw [hw] at hwk
        clear hn HO hwk
        go_wp2_with (go_at_call 28; refine (word_any _ _).mono ?_; rintro e w' ⟨rfl, rfl⟩)
        go_loop [3] (fun i => ∃ k f : Nat, k ≤ s.size ∧ i = .int .i64 k ∧ s.size ≤ k + f ∧ fwd (wAt s) s.size f k = R) (fun i => s.size - (intOf i).toNat)
        case atStart => exact ⟨k, s.size, by omega, rfl, by omega, HN.out⟩
        case round =>
          obtain ⟨k, f, hk, rfl, hf, HO⟩ := hrel
          have HO := Lib.hid HO
          by_cases hlt : k < s.size
          · have hwk := wAt_eq hlt
            cases hw : wordN s[k].toNat
            · have hn : (wAt s) k = false := by simp [hwk, hw]
              have HN := Lib.hid ((fwd_stop _ s.size f k hn).symm.trans HO.out)
              rw [hw] at hwk
              clear hn HO hwk
              go_wp2_with (go_at_call 28; refine (word_any _ _).mono ?_; rintro e w' ⟨rfl, rfl⟩)
              have he : k = R := by rw [← HN.out]
              go_ret
              exact ⟨by rw [← he]; rfl, Below.drew ((Below.refl _ w).alloc (Nat.le_refl _) _)⟩
            · have hn : (wAt s) k = true := by simp [hwk, hw]
              have HN := Lib.hid hn
              rw [hw] at hwk
              clear hn hwk
              go_wp2_with (go_at_call 28; refine (word_any _ _).mono ?_; rintro e w' ⟨rfl, rfl⟩)
              go_round
              case rel => exact ⟨k + 1, f - 1, by omega, by go_num, by omega, by
                rw [← HO.out]
                obtain ⟨f', rfl⟩ : ∃ f', f = f' + 1 := ⟨f - 1, by omega⟩
                rw [fwd_step _ _ f' _ hlt HN.out]; rfl⟩
              case measure => simp [intOf]; omega
          · have HN := Lib.hid ((fwd_end _ s.size f k hlt).symm.trans HO.out)
            clear HO
            go_wp2
            have he : k = R := by rw [← HN.out]
            go_ret
            exact ⟨by rw [← he]; rfl, Below.drew ((Below.refl _ w).alloc (Nat.le_refl _) _)⟩
    · have HN := Lib.hid ((congrArg (fwd (wAt s) s.size s.size) (fwd_end _ s.size f k hlt)).symm.trans HO.out)
      clear HO
      go_wp2
      go_loop [3] (fun i => ∃ k f : Nat, k ≤ s.size ∧ i = .int .i64 k ∧ s.size ≤ k + f ∧ fwd (wAt s) s.size f k = R) (fun i => s.size - (intOf i).toNat)
      case atStart => exact ⟨k, s.size, by omega, rfl, by omega, HN.out⟩
      case round =>
        obtain ⟨k, f, hk, rfl, hf, HO⟩ := hrel
        have HO := Lib.hid HO
        by_cases hlt : k < s.size
        · have hwk := wAt_eq hlt
          cases hw : wordN s[k].toNat
          · have hn : (wAt s) k = false := by simp [hwk, hw]
            have HN := Lib.hid ((fwd_stop _ s.size f k hn).symm.trans HO.out)
            rw [hw] at hwk
            clear hn HO hwk
            go_wp2_with (go_at_call 28; refine (word_any _ _).mono ?_; rintro e w' ⟨rfl, rfl⟩)
            have he : k = R := by rw [← HN.out]
            go_ret
            exact ⟨by rw [← he]; rfl, Below.drew ((Below.refl _ w).alloc (Nat.le_refl _) _)⟩
          · have hn : (wAt s) k = true := by simp [hwk, hw]
            have HN := Lib.hid hn
            rw [hw] at hwk
            clear hn hwk
            go_wp2_with (go_at_call 28; refine (word_any _ _).mono ?_; rintro e w' ⟨rfl, rfl⟩)
            go_round
            case rel => exact ⟨k + 1, f - 1, by omega, by go_num, by omega, by
              rw [← HO.out]
              obtain ⟨f', rfl⟩ : ∃ f', f = f' + 1 := ⟨f - 1, by omega⟩
              rw [fwd_step _ _ f' _ hlt HN.out]; rfl⟩
            case measure => simp [intOf]; omega
        · have HN := Lib.hid ((fwd_end _ s.size f k hlt).symm.trans HO.out)
          clear HO
          go_wp2
          have he : k = R := by rw [← HN.out]
          go_ret
          exact ⟨by rw [← he]; rfl, Below.drew ((Below.refl _ w).alloc (Nat.le_refl _) _)⟩
set_option maxHeartbeats 2000000 in
theorem implOn_any (s : ByteArray) (a : Nat) (hs : s.size ≤ 60) (hp : Pr s s.size) (ha : a ≤ s.size) (w : World) :
    Calls Tryd.prog 14 #[.agg #[.string s, .int .i64 a]] w fun e w' => e = .returned (.int .i64 (onN s a)) ∧ Below w.heap.size w w' := by
  obtain ⟨R, hR⟩ : ∃ R, R = onN s a := ⟨_, rfl⟩
  rw [← hR]
  have HR := Lib.hid hR
  clear hR
  have ht : lineB s a = true := by
    have := textB_t ⟨hs, hp⟩
    simp [lineB, this]; omega
  have HP := Lib.hid hp
  have HT := Lib.hid ht
  clear hp ht
  go_enter Tryd.func14, Tryd.ntmps14
  go_wp2_with fail
  refine (implLine_any _ _ (by unfold maxLen; omega) _).mono ?_
  rintro e w1 ⟨rfl, hb1⟩
  rw [HT.out]
  obtain ⟨k1, _⟩ := keepC hb1 (g := w.heap.size) (by simp)
  have hs1 : w.heap.size < w1.heap.size := by have := hb1.size; simp at this; omega
  have HB1 := Lib.hid (bthen ((Below.refl _ w).alloc (Nat.le_refl _) _) hb1 (by simp))
  clear hb1
  go_wp2_with fail
  refine (held_any _ _ _).mono ?_
  rintro e w2 ⟨rfl, hb2⟩
  have hs2 : w.heap.size < w2.heap.size := by have := hb2.size; omega
  have HB2 := Lib.hid (bthen HB1.out hb2 (by omega))
  clear hb2 HB1 k1
  go_wp2
  go_loop [4] (fun i => ∃ k f : Nat, k ≤ s.size ∧ i = .int .i64 k ∧ s.size ≤ k + f ∧ fwd (wAt s) s.size s.size (fwd (fun k => !wAt s k) s.size f k) = R) (fun i => s.size - (intOf i).toNat)
  case atStart => exact ⟨a, s.size, ha, rfl, by omega, HR.out.symm⟩
  case round =>
    obtain ⟨k, f, hk, rfl, hf, HO⟩ := hrel
    have HO := Lib.hid HO
    by_cases hlt : k < s.size
    · have hwk := wAt_eq hlt
      cases hw : wordN s[k].toNat
      · have hn : (fun k => !wAt s k) k = true := by simp [hwk, hw]
        have HN := Lib.hid hn
        rw [hw] at hwk
        clear hn
        go_wp2_with (first | (go_at_call 23; refine (length_any _ (by omega) _).mono ?_; rintro e w' ⟨rfl, rfl⟩) | (go_at_call 24; refine (isWord_any s hs k (by omega) (HP.out _ _ (by omega)) _).mono ?_; rintro e w' ⟨rfl, rfl⟩))
        go_round
        case rel => exact ⟨k + 1, f - 1, by omega, by go_num, by omega, by
          rw [← HO.out]
          obtain ⟨f', rfl⟩ : ∃ f', f = f' + 1 := ⟨f - 1, by omega⟩
          rw [fwd_step _ _ f' _ hlt HN.out]; rfl⟩
        case measure => simp [intOf]; omega
      · have hn : (fun k => !wAt s k) k = false := by simp [hwk, hw]
        have HN := Lib.hid ((congrArg (fwd (wAt s) s.size s.size) (fwd_stop _ s.size f k hn)).symm.trans HO.out)
        rw [hw] at hwk
        clear hn HO
        go_wp2_with (first | (go_at_call 23; refine (length_any _ (by omega) _).mono ?_; rintro e w' ⟨rfl, rfl⟩) | (go_at_call 24; refine (isWord_any s hs k (by omega) (HP.out _ _ (by omega)) _).mono ?_; rintro e w' ⟨rfl, rfl⟩))
        go_loop [4] (fun i => ∃ k f : Nat, k ≤ s.size ∧ i = .int .i64 k ∧ s.size ≤ k + f ∧ fwd (wAt s) s.size f k = R) (fun i => s.size - (intOf i).toNat)
        case atStart => exact ⟨k, s.size, by omega, rfl, by omega, HN.out⟩
        case round =>
          obtain ⟨k, f, hk, rfl, hf, HO⟩ := hrel
          have HO := Lib.hid HO
          by_cases hlt : k < s.size
          · have hwk := wAt_eq hlt
            cases hw : wordN s[k].toNat
            · have hn : (wAt s) k = false := by simp [hwk, hw]
              have HN := Lib.hid ((fwd_stop _ s.size f k hn).symm.trans HO.out)
              rw [hw] at hwk
              clear hn HO
              go_wp2_with (first | (go_at_call 23; refine (length_any _ (by omega) _).mono ?_; rintro e w' ⟨rfl, rfl⟩) | (go_at_call 24; refine (isWord_any s hs k (by omega) (HP.out _ _ (by omega)) _).mono ?_; rintro e w' ⟨rfl, rfl⟩))
              have he : k = R := by rw [← HN.out]
              go_ret
              exact ⟨by rw [← he]; rfl, HB2.out.alloc (by omega) _⟩
            · have hn : (wAt s) k = true := by simp [hwk, hw]
              have HN := Lib.hid hn
              rw [hw] at hwk
              clear hn
              go_wp2_with (first | (go_at_call 23; refine (length_any _ (by omega) _).mono ?_; rintro e w' ⟨rfl, rfl⟩) | (go_at_call 24; refine (isWord_any s hs k (by omega) (HP.out _ _ (by omega)) _).mono ?_; rintro e w' ⟨rfl, rfl⟩))
              go_round
              case rel => exact ⟨k + 1, f - 1, by omega, by go_num, by omega, by
                rw [← HO.out]
                obtain ⟨f', rfl⟩ : ∃ f', f = f' + 1 := ⟨f - 1, by omega⟩
                rw [fwd_step _ _ f' _ hlt HN.out]; rfl⟩
              case measure => simp [intOf]; omega
          · have HN := Lib.hid ((fwd_end _ s.size f k hlt).symm.trans HO.out)
            clear HO
            go_wp2_with (first | (go_at_call 23; refine (length_any _ (by omega) _).mono ?_; rintro e w' ⟨rfl, rfl⟩) | (go_at_call 24; refine (isWord_any s hs k (by omega) (HP.out _ _ (by omega)) _).mono ?_; rintro e w' ⟨rfl, rfl⟩))
            have he : k = R := by rw [← HN.out]
            go_ret
            exact ⟨by rw [← he]; rfl, HB2.out.alloc (by omega) _⟩
    · have HN := Lib.hid ((congrArg (fwd (wAt s) s.size s.size) (fwd_end _ s.size f k hlt)).symm.trans HO.out)
      clear HO
      go_wp2_with (first | (go_at_call 23; refine (length_any _ (by omega) _).mono ?_; rintro e w' ⟨rfl, rfl⟩) | (go_at_call 24; refine (isWord_any s hs k (by omega) (HP.out _ _ (by omega)) _).mono ?_; rintro e w' ⟨rfl, rfl⟩))
      go_loop [4] (fun i => ∃ k f : Nat, k ≤ s.size ∧ i = .int .i64 k ∧ s.size ≤ k + f ∧ fwd (wAt s) s.size f k = R) (fun i => s.size - (intOf i).toNat)
      case atStart => exact ⟨k, s.size, by omega, rfl, by omega, HN.out⟩
      case round =>
        obtain ⟨k, f, hk, rfl, hf, HO⟩ := hrel
        have HO := Lib.hid HO
        by_cases hlt : k < s.size
        · have hwk := wAt_eq hlt
          cases hw : wordN s[k].toNat
          · have hn : (wAt s) k = false := by simp [hwk, hw]
            have HN := Lib.hid ((fwd_stop _ s.size f k hn).symm.trans HO.out)
            rw [hw] at hwk
            clear hn HO
            go_wp2_with (first | (go_at_call 23; refine (length_any _ (by omega) _).mono ?_; rintro e w' ⟨rfl, rfl⟩) | (go_at_call 24; refine (isWord_any s hs k (by omega) (HP.out _ _ (by omega)) _).mono ?_; rintro e w' ⟨rfl, rfl⟩))
            have he : k = R := by rw [← HN.out]
            go_ret
            exact ⟨by rw [← he]; rfl, HB2.out.alloc (by omega) _⟩
          · have hn : (wAt s) k = true := by simp [hwk, hw]
            have HN := Lib.hid hn
            rw [hw] at hwk
            clear hn
            go_wp2_with (first | (go_at_call 23; refine (length_any _ (by omega) _).mono ?_; rintro e w' ⟨rfl, rfl⟩) | (go_at_call 24; refine (isWord_any s hs k (by omega) (HP.out _ _ (by omega)) _).mono ?_; rintro e w' ⟨rfl, rfl⟩))
            go_round
            case rel => exact ⟨k + 1, f - 1, by omega, by go_num, by omega, by
              rw [← HO.out]
              obtain ⟨f', rfl⟩ : ∃ f', f = f' + 1 := ⟨f - 1, by omega⟩
              rw [fwd_step _ _ f' _ hlt HN.out]; rfl⟩
            case measure => simp [intOf]; omega
        · have HN := Lib.hid ((fwd_end _ s.size f k hlt).symm.trans HO.out)
          clear HO
          go_wp2_with (first | (go_at_call 23; refine (length_any _ (by omega) _).mono ?_; rintro e w' ⟨rfl, rfl⟩) | (go_at_call 24; refine (isWord_any s hs k (by omega) (HP.out _ _ (by omega)) _).mono ?_; rintro e w' ⟨rfl, rfl⟩))
          have he : k = R := by rw [← HN.out]
          go_ret
          exact ⟨by rw [← he]; rfl, HB2.out.alloc (by omega) _⟩
end Go.Proofs.YtnnmcenmnmmfpaaDoor.line
