/-
  DiffOf of the model: the runs, or none where a text is not right. For every two texts.
-/
import Derived.Test.YthdnhopkkgdclaaOf
import Derived.Test.YthdnhopkkgdclaaCommon
namespace Go.Proofs.Ythdnhopkkgdclaa.put
open Go.ChangeShapes Go.WideShapes Go.ChangeAt Go.RowKit
open Go.Proofs.Ythdnhopkkgdclaa.table Go.Proofs.Ythdnhopkkgdclaa.line
noncomputable def diffV (a b : ByteArray) : List Run := if textB a && textB b then diffL a b else []
set_option maxHeartbeats 800000 in
theorem specDiffOf_any (a b : ByteArray) (ha : a.size ≤ maxLen) (hb : b.size ≤ maxLen) (w : World) :
    Calls Try.prog 13 #[.string a, .string b] w fun e w' =>
      ∃ g cap, e = .returned (.slice (some ⟨g, 0, none⟩) (diffV a b).length cap) ∧ w'.ownsRow w.heap.size 54 2 (.slice (some ⟨g, 0, none⟩) (diffV a b).length cap) (diffV a b).length (dCells (diffV a b)) ∧ Below w.heap.size w w' := by
  have HA := Lib.hid ha
  have HB := Lib.hid hb
  obtain ⟨R, hR⟩ : ∃ R, R = diffV a b := ⟨_, rfl⟩
  rw [← hR]
  have HR := Lib.hid hR
  cases ta : textB a
  · have HV := Lib.hid (show R = [] by rw [hR]; simp [diffV, ta])
    clear hR
    go_enter Try.func13, Try.ntmps13
    go_wp2_with fail
    refine (specRight_any _ HA.out _).mono ?_
    rintro e w1 ⟨rfl, rfl⟩
    rw [ta]
    go_wp2
    go_ret
    exact ⟨_, 0, by rw [HV.out]; rfl, by rw [HV.out]; exact World.ownsRow_lit _ #[] 0 (Nat.le_refl _) (by decide) rfl, (Below.refl _ _).alloc (Nat.le_refl _) _⟩
  cases tb : textB b
  · have HV := Lib.hid (show R = [] by rw [hR]; simp [diffV, tb])
    clear hR
    go_enter Try.func13, Try.ntmps13
    go_wp2_with fail
    refine (specRight_any _ HA.out _).mono ?_
    rintro e w1 ⟨rfl, rfl⟩
    rw [ta]
    go_wp2_with fail
    refine (specRight_any _ HB.out _).mono ?_
    rintro e w1 ⟨rfl, rfl⟩
    rw [tb]
    go_wp2
    go_ret
    exact ⟨_, 0, by rw [HV.out]; rfl, by rw [HV.out]; exact World.ownsRow_lit _ #[] 0 (Nat.le_refl _) (by decide) rfl, (Below.refl _ _).alloc (Nat.le_refl _) _⟩
  · have HV := Lib.hid (show R = diffL a b by rw [hR]; simp [diffV, ta, tb])
    clear hR
    have h6 := (textB_ok ta).1
    have h7 := (textB_ok tb).1
    go_enter Try.func13, Try.ntmps13
    go_wp2_with fail
    refine (specRight_any _ HA.out _).mono ?_
    rintro e w1 ⟨rfl, rfl⟩
    rw [ta]
    go_wp2_with fail
    refine (specRight_any _ HB.out _).mono ?_
    rintro e w1 ⟨rfl, rfl⟩
    rw [tb]
    go_wp2_with fail
    refine (of_any a b h6 h7 _).mono ?_
    rintro e w1 ⟨g, cap, rfl, ho, hb1⟩
    have HO := Lib.hid ho
    have HB1 := Lib.hid hb1
    clear ho hb1
    rw [← HV.out] at *
    go_wp2
    go_ret
    exact ⟨g, cap, rfl, HO.out, HB1.out⟩
end Go.Proofs.Ythdnhopkkgdclaa.put
