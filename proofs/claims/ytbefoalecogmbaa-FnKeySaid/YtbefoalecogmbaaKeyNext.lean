/-
  One more byte: what the program makes of what waits and the byte (mayWait, next). For each of the three texts that may wait, every byte.
-/
import Derived.Test.YtbefoalecogmbaaKeyMapsOf
import Derived.Test.YtbefoalecogmbaaKey
import Derived.Test.YtbefoalecogmbaaJoin
namespace Go.Proofs.Ytbefoalecogmbaa.key
open Go.ChangeShapes Go.WideShapes Go.ChangeAt Go.RowKit Go.Proofs.Ytbefoalecogmbaa.join
def oneB (c : UInt8) : ByteArray := ⟨#[c]⟩
theorem conv_one (c : UInt8) (W : World) :
    (convert 22 9 (.slice (some ⟨W.heap.size, 0, none⟩) 1 1)).run Try.prog (W.alloc (.cells #[.int .u8 (c.toNat : Nat)] 5)) = .ok (.string (oneB c)) (W.alloc (.cells #[.int .u8 (c.toNat : Nat)] 5)) :=
  conv_row (P := Try.prog) (w := W.alloc (.cells #[.int .u8 (c.toNat : Nat)] 5)) (g := W.heap.size) (cap := 1) 22 5 Try.underlying22 Try.underlying5 [c] (fun i hi => by
    have : i = 0 := by simp at hi; omega
    subst this
    rw [World.cell?_alloc_at _ _ _ _ rfl]; rfl) 9 Try.underlying9
theorem oneByte_any (c : UInt8) (w : World) :
    Calls Try.prog 36 #[.int .u8 (c.toNat : Nat)] w fun e w' => e = .returned (.string (oneB c)) ∧ Below w.heap.size w w' := by
  have hcv := conv_one c
  go_enter Try.func36, Try.ntmps36
  go_wp2
  go_ret
  exact ⟨rfl, (Below.refl _ w).alloc (Nat.le_refl _) _⟩
theorem mayWait_any (base B n : Nat) (F : KF) (s : ByteArray) (hs : s.size ≤ maxLen) (w : World) (h : Maps2 base w B n F) :
    Calls Try.prog 33 #[.map (some B), .string s] w fun e w' => e = .returned (.bool (F s.data.toList).isSome) ∧ w = w' := by
  obtain ⟨v, hrun⟩ := h.look_ok hs
  obtain ⟨b, hb⟩ : ∃ b, b = (F s.data.toList).isSome := ⟨_, rfl⟩
  rw [← hb] at hrun ⊢
  clear hb h
  go_enter Try.func33, Try.ntmps33
  go_wp2
  go_ret
  exact ⟨rfl, rfl⟩
/-- what a KeyOut is as a value -/
def koV (wt : ByteArray) (k y : Int) (h : Bool) (c : Int) : Value := .agg #[.string wt, .int .i64 k, .int .i64 y, .bool h, .int .i64 c]
set_option maxHeartbeats 1600000 in
theorem next_begun (base B n : Nat) (F : KF) (s : ByteArray) (hs : s.size ≤ 100) (x : UInt8) (g : UInt8 → Option Int) (w : World) (h : Maps2 base w B n F) (hF : F s.data.toList = some g) (hg : g x = some 0) :
    Calls Try.prog 30 #[.map (some B), .string s, .int .u8 (x.toNat : Nat)] w fun e w' => e = .returned (koV (s ++ oneB x) 0 0 false 0) ∧ Below w.heap.size w w' := by
  have h1 := h.below ((Below.refl _ w).alloc (Nat.le_refl _) (.cells #[.string ⟨#[]⟩, .int .i64 0, .int .i64 0, .bool false, .int .i64 0] 31))
  obtain ⟨b, hrun, hin⟩ := h1.look_some (by unfold maxLen; omega) hF
  have hrun2 := hin.look x
  rw [hg] at hrun2
  simp only [Option.getD_some, Option.isSome_some] at hrun2
  clear h h1 hin hF hg
  go_enter Try.func30, Try.ntmps30
  go_wp2_with fail
  refine (oneByte_any _ _).mono ?_
  rintro e w1 ⟨rfl, hb1⟩
  obtain ⟨p1, q1⟩ := keepC hb1 (g := w.heap.size) (by simp)
  have z1 : w.heap.size < w1.heap.size := by have := hb1.size; simp at this; omega
  have HB1 := Lib.hid (bthen ((Below.refl _ w).alloc (Nat.le_refl _) _) hb1 (by simp))
  clear hb1
  have hj : (oneB x).size ≤ 1000000000000 := by show 1 ≤ _; omega
  go_wp2_with fail
  refine (joined_any _ _ (by omega) hj _).mono ?_
  rintro e w2 ⟨rfl, hb2⟩
  obtain ⟨p2, q2⟩ := keepC hb2 (g := w.heap.size) z1
  have z2 : w.heap.size < w2.heap.size := by have := hb2.size; omega
  have HB2 := Lib.hid (bthen HB1.out hb2 (by omega))
  have c0 : w2.cell? ⟨w.heap.size, 0, none⟩ = some (.string ⟨#[]⟩) := by rw [p2, p1, World.cell?_alloc_at _ _ _ _ rfl]; rfl
  have c1 : w2.cell? ⟨w.heap.size, 1, none⟩ = some (.int .i64 0) := by rw [p2, p1, World.cell?_alloc_at _ _ _ _ rfl]; rfl
  have c2 : w2.cell? ⟨w.heap.size, 2, none⟩ = some (.int .i64 0) := by rw [p2, p1, World.cell?_alloc_at _ _ _ _ rfl]; rfl
  have c3 : w2.cell? ⟨w.heap.size, 3, none⟩ = some (.bool false) := by rw [p2, p1, World.cell?_alloc_at _ _ _ _ rfl]; rfl
  have c4 : w2.cell? ⟨w.heap.size, 4, none⟩ = some (.int .i64 0) := by rw [p2, p1, World.cell?_alloc_at _ _ _ _ rfl]; rfl
  clear hb2
  go_wp2
  exact bodyPost_ret (v := koV (s ++ oneB x) 0 0 false 0) (by simp [koV, results, Try.results30, go_sem, c0, c1, c2, c3, c4]) rfl ⟨rfl, ((((HB2.out.setCell (Nat.le_refl _) _).setCell (Nat.le_refl _) _).setCell (Nat.le_refl _) _).setCell (Nat.le_refl _) _).setCell (Nat.le_refl _) _⟩
set_option maxHeartbeats 1600000 in
theorem next_found (base B n : Nat) (F : KF) (s : ByteArray) (hs : s.size ≤ 100) (x : UInt8) (g : UInt8 → Option Int) (k : Int) (hk : ¬ k = 0) (w : World) (h : Maps2 base w B n F) (hF : F s.data.toList = some g) (hg : g x = some k) :
    Calls Try.prog 30 #[.map (some B), .string s, .int .u8 (x.toNat : Nat)] w fun e w' => e = .returned (koV ⟨#[]⟩ k 0 true 0) ∧ Below w.heap.size w w' := by
  have h1 := h.below ((Below.refl _ w).alloc (Nat.le_refl _) (.cells #[.string ⟨#[]⟩, .int .i64 0, .int .i64 0, .bool false, .int .i64 0] 31))
  obtain ⟨b, hrun, hin⟩ := h1.look_some (by unfold maxLen; omega) hF
  have hrun2 := hin.look x
  rw [hg] at hrun2
  simp only [Option.getD_some, Option.isSome_some] at hrun2
  have hk0 : (k == 0) = false := by simpa using hk
  clear h h1 hin hF hg
  go_enter Try.func30, Try.ntmps30
  go_wp2
  exact bodyPost_ret (v := koV ⟨#[]⟩ k 0 true 0) (by simp [koV, results, Try.results30, go_sem]) rfl ⟨rfl, (Below.refl _ w).alloc (Nat.le_refl _) _⟩
set_option maxHeartbeats 1600000 in
theorem next_self (base B n : Nat) (F : KF) (x : UInt8) (g : UInt8 → Option Int) (hx : betB 32 (x.toNat : Nat) 126 = true) (w : World) (h : Maps2 base w B n F) (hF : F [] = some g) (hg : g x = none) :
    Calls Try.prog 30 #[.map (some B), .string ⟨#[]⟩, .int .u8 (x.toNat : Nat)] w fun e w' => e = .returned (koV ⟨#[]⟩ 1 (x.toNat : Nat) true 0) ∧ Below w.heap.size w w' := by
  have h1 := h.below ((Below.refl _ w).alloc (Nat.le_refl _) (.cells #[.string ⟨#[]⟩, .int .i64 0, .int .i64 0, .bool false, .int .i64 0] 31))
  obtain ⟨b, hrun, hin⟩ := h1.look_some (s := ⟨#[]⟩) (Nat.zero_le _) hF
  have hrun2 := hin.look x
  rw [hg] at hrun2
  simp only [Option.getD_none, Option.isSome_none] at hrun2
  have hp := isPrinted_any (x.toNat : Nat)
  have hx2 := x.toNat_lt
  rw [hx] at hp
  clear h h1 hin hF hg hx
  go_enter Try.func30, Try.ntmps30
  go_wp2_with (go_at_call 42; refine (hp _).mono ?_; rintro e w' ⟨rfl, rfl⟩)
  exact bodyPost_ret (v := koV ⟨#[]⟩ 1 (x.toNat : Nat) true 0) (by simp [koV, results, Try.results30, go_sem]) rfl ⟨rfl, (Below.refl _ w).alloc (Nat.le_refl _) _⟩
set_option maxHeartbeats 1600000 in
theorem next_bad (base B n : Nat) (F : KF) (s : ByteArray) (hs : s.size ≤ 100) (x : UInt8) (g : UInt8 → Option Int) (hx : ¬ (s = ⟨#[]⟩ ∧ betB 32 (x.toNat : Nat) 126 = true)) (w : World) (h : Maps2 base w B n F) (hF : F s.data.toList = some g) (hg : g x = none) :
    Calls Try.prog 30 #[.map (some B), .string s, .int .u8 (x.toNat : Nat)] w fun e w' => e = .returned (koV ⟨#[]⟩ 25 (x.toNat : Nat) true 0) ∧ Below w.heap.size w w' := by
  have h1 := h.below ((Below.refl _ w).alloc (Nat.le_refl _) (.cells #[.string ⟨#[]⟩, .int .i64 0, .int .i64 0, .bool false, .int .i64 0] 31))
  obtain ⟨b, hrun, hin⟩ := h1.look_some (by unfold maxLen; omega) hF
  have hrun2 := hin.look x
  rw [hg] at hrun2
  simp only [Option.getD_none, Option.isSome_none] at hrun2
  have hp := isPrinted_any (x.toNat : Nat)
  have hx2 := x.toNat_lt
  by_cases hs0 : s = ⟨#[]⟩
  · have hx3 : betB 32 (x.toNat : Nat) 126 = false := by
      cases hb : betB 32 (x.toNat : Nat) 126
      · rfl
      · exact absurd ⟨hs0, hb⟩ hx
    subst hs0
    rw [hx3] at hp
    clear h h1 hin hF hg hx hx3
    go_enter Try.func30, Try.ntmps30
    go_wp2_with (go_at_call 42; refine (hp _).mono ?_; rintro e w' ⟨rfl, rfl⟩)
    exact bodyPost_ret (v := koV ⟨#[]⟩ 25 (x.toNat : Nat) true 0) (by simp [koV, results, Try.results30, go_sem]) rfl ⟨rfl, (Below.refl _ w).alloc (Nat.le_refl _) _⟩
  · have e2 : s.toList.isEmpty = false := empty_f (by
      rcases Nat.eq_zero_or_pos s.size with h0 | h0
      · exfalso; apply hs0; apply ByteArray.ext; exact Array.eq_empty_of_size_eq_zero h0
      · exact h0)
    clear h h1 hin hF hg hx hp hs0
    go_enter Try.func30, Try.ntmps30
    go_wp2
    exact bodyPost_ret (v := koV ⟨#[]⟩ 25 (x.toNat : Nat) true 0) (by simp [koV, results, Try.results30, go_sem]) rfl ⟨rfl, (Below.refl _ w).alloc (Nat.le_refl _) _⟩
end Go.Proofs.Ytbefoalecogmbaa.key
