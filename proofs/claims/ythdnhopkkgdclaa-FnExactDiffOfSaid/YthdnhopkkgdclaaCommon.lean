/-
  Common of the model: how many bytes can be left of both; and the walk of its law, out of the program's own contract. For every two texts.
-/
import Derived.Test.YthdnhopkkgdclaaTable
namespace Go.Proofs.Ythdnhopkkgdclaa.table
open Go.ChangeShapes Go.WideShapes Go.ChangeAt Go.RowKit
open Go.Proofs.Ythdnhopkkgdclaa.line
noncomputable def commonV (a b : ByteArray) : Int := if textB a && textB b then (tab a b 0 0 : Nat) else -1
set_option maxHeartbeats 800000 in
theorem specCommon_any (a b : ByteArray) (ha : a.size ≤ maxLen) (hb : b.size ≤ maxLen) (w : World) :
    Calls Try.prog 14 #[.string a, .string b] w fun e w' => e = .returned (.int .i64 (commonV a b)) ∧ Below w.heap.size w w' := by
  have HA := Lib.hid ha
  have HB := Lib.hid hb
  cases ta : textB a
  · have HV := Lib.hid (show commonV a b = -1 by simp [commonV, ta])
    go_enter Try.func14, Try.ntmps14
    go_wp2_with fail
    refine (specRight_any _ HA.out _).mono ?_
    rintro e w1 ⟨rfl, rfl⟩
    rw [ta]
    go_wp2
    go_ret
    exact ⟨by rw [HV.out]; rfl, Below.refl _ _⟩
  cases tb : textB b
  · have HV := Lib.hid (show commonV a b = -1 by simp [commonV, tb])
    go_enter Try.func14, Try.ntmps14
    go_wp2_with fail
    refine (specRight_any _ HA.out _).mono ?_
    rintro e w1 ⟨rfl, rfl⟩
    rw [ta]
    go_wp2_with fail
    refine (specRight_any _ HB.out _).mono ?_
    rintro e w1 ⟨rfl, rfl⟩
    rw [tb]
    go_wp2
    go_ret
    exact ⟨by rw [HV.out]; rfl, Below.refl _ _⟩
  · have HV := Lib.hid (show commonV a b = (tab a b 0 0 : Nat) by simp [commonV, ta, tb])
    have h6 := (textB_ok ta).1
    have h7 := (textB_ok tb).1
    go_enter Try.func14, Try.ntmps14
    go_wp2_with fail
    refine (specRight_any _ HA.out _).mono ?_
    rintro e w1 ⟨rfl, rfl⟩
    rw [ta]
    go_wp2_with fail
    refine (specRight_any _ HB.out _).mono ?_
    rintro e w1 ⟨rfl, rfl⟩
    rw [tb]
    go_wp2_with fail
    refine (table_any a b h6 h7 _).mono ?_
    rintro e w1 ⟨o, cap, G, rfl, hM⟩
    have o1 := hM.out 0 (Nat.zero_le _)
    have n1 := hM.inn 0 0 (Nat.zero_le _) (Nat.zero_le _)
    obtain ⟨t, ht⟩ : ∃ t, t = tab a b 0 0 := ⟨_, rfl⟩
    rw [← ht] at n1
    have HT := Lib.hid ht
    have HBL := Lib.hid hM.bel
    clear ht hM ta tb ha hb
    go_wp2
    go_ret
    exact ⟨by rw [HV.out, ← HT.out]; rfl, HBL.out⟩
set_option maxHeartbeats 800000 in
theorem walkCommon_of (a0 a1 : ByteArray) (w0 : a0.size ≤ maxLen) (w1 : a1.size ≤ maxLen) (w : World)
    (him : ∀ W : World, Calls Try.prog 9 #[.string a0, .string a1] W fun e w' => e = .returned (.int .i64 (commonV a0 a1)) ∧ Below W.heap.size W w') :
    Calls Try.prog 4 #[.string a0, .string a1] w fun e w' => e = .returned (.bool true) ∧ Below w.heap.size w w' := by
  have HI := Lib.hid him
  have HA := Lib.hid w0
  have HB := Lib.hid w1
  clear him
  unfold maxLen at w0 w1
  by_cases ha : (1048576 : Int) < a0.size
  · go_enter Try.func4, Try.ntmps4
    go_wp2
    go_ret
    exact ⟨rfl, Below.refl _ _⟩
  by_cases hb : (1048576 : Int) < a1.size
  · go_enter Try.func4, Try.ntmps4
    go_wp2
    go_ret
    exact ⟨rfl, Below.refl _ _⟩
  obtain ⟨V, hV⟩ : ∃ V, V = commonV a0 a1 := ⟨_, rfl⟩
  have HV := Lib.hid hV
  clear hV
  go_enter Try.func4, Try.ntmps4
  go_wp2_with fail
  refine (specCommon_any a0 a1 HA.out HB.out _).mono ?_
  rintro e wa ⟨rfl, hb1⟩
  rw [← HV.out]
  have HB1 := Lib.hid hb1
  clear hb1
  go_wp2_with fail
  refine (HI.out _).mono ?_
  rintro e wb ⟨rfl, hb2⟩
  rw [← HV.out]
  have HB2 := Lib.hid (bthen HB1.out hb2 HB1.out.size)
  clear hb2
  go_wp2
  go_ret
  exact ⟨rfl, HB2.out⟩
end Go.Proofs.Ythdnhopkkgdclaa.table
