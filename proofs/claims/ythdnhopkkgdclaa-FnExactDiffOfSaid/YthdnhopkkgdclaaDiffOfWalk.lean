/-
  The walk of DiffOf's law. For every two texts.
-/
import Derived.Test.YthdnhopkkgdclaaDiffOfImpl
namespace Go.Proofs.Ythdnhopkkgdclaa.put
open Go.ChangeShapes Go.WideShapes Go.ChangeAt Go.RowKit
open Go.Proofs.Ythdnhopkkgdclaa.table Go.Proofs.Ythdnhopkkgdclaa.line Go.Proofs.Ythdnhopkkgdclaa.diff
set_option maxHeartbeats 800000 in
theorem implDiffOf_any (a b : ByteArray) (ha : a.size ≤ maxLen) (hb : b.size ≤ maxLen) (w : World) :
    Calls Try.prog 8 #[.string a, .string b] w fun e w' =>
      ∃ v, e = .returned v ∧ SliceOr v (diffV a b) ∧ w'.ownsRow w.heap.size 54 2 v (diffV a b).length (dCells (diffV a b)) ∧ Below w.heap.size w w' := by
  have HA := Lib.hid ha
  have HB := Lib.hid hb
  cases ta : textB a
  · have HV := Lib.hid (show diffV a b = [] by simp [diffV, ta])
    go_enter Try.func8, Try.ntmps8
    go_wp2_with fail
    refine (implRight_any _ HA.out _).mono ?_
    rintro e w1 ⟨rfl, hb1⟩
    rw [ta]
    go_wp2
    go_ret
    exact ⟨_, rfl, by rw [HV.out]; simp [SliceOr], by rw [HV.out]; exact World.ownsRow_nil _ _ _ _, hb1⟩
  cases tb : textB b
  · have HV := Lib.hid (show diffV a b = [] by simp [diffV, tb])
    go_enter Try.func8, Try.ntmps8
    go_wp2_with fail
    refine (implRight_any _ HA.out _).mono ?_
    rintro e w1 ⟨rfl, hb1⟩
    rw [ta]
    have HB1 := Lib.hid hb1
    clear hb1
    go_wp2_with fail
    refine (implRight_any _ HB.out _).mono ?_
    rintro e w2 ⟨rfl, hb2⟩
    rw [tb]
    have HB2 := Lib.hid (bthen HB1.out hb2 HB1.out.size)
    clear hb2
    go_wp2
    go_ret
    exact ⟨_, rfl, by rw [HV.out]; simp [SliceOr], by rw [HV.out]; exact World.ownsRow_nil _ _ _ _, HB2.out⟩
  · have hv : diffV a b = diffL a b := by simp [diffV, ta, tb]
    rw [hv]
    exact implDiffOf_in a b ta tb w
theorem eqDiffS_nil (h D : Nat) (w : World) :
    Calls Try.prog 22 #[.slice none 0 0, .slice (some ⟨h, 0, none⟩) 0 D] w fun e w' => e = .returned (.bool true) ∧ Below w.heap.size w w' := by
  go_enter Try.func22, Try.ntmps22
  go_wp2
  go_loopw [5] (fun i w' => i = .int .i64 0 ∧ Below w.heap.size w w') (fun _ _ => 0)
  case atStart => exact ⟨rfl, Below.refl _ _⟩
  case round =>
    obtain ⟨rfl, hbel⟩ := hrel
    go_wp2
    go_ret
    exact ⟨rfl, hbel⟩
theorem markDiffS_nil (w : World) :
    Calls Try.prog 23 #[.slice none 0 0, .int .i64 1] w fun e w' => e = .returned (.int .i64 1) ∧ Below w.heap.size w w' := by
  go_enter Try.func23, Try.ntmps23
  go_wp2
  go_loopw [1, 5] (fun m i w' => i = .int .i64 0 ∧ m = .int .i64 1 ∧ Below w.heap.size w w') (fun _ _ _ => 0)
  case atStart => exact ⟨rfl, rfl, Below.refl _ _⟩
  case round =>
    obtain ⟨rfl, rfl, hbel⟩ := hrel
    go_wp2
    go_ret
    exact ⟨rfl, hbel⟩
theorem heldDiffS_nil (w : World) :
    Calls Try.prog 24 #[.slice none 0 0, .int .i64 1] w fun e w' => e = .returned (.int .i64 1) ∧ Below w.heap.size w w' := by
  go_enter Try.func24, Try.ntmps24
  go_wp2
  go_loopw [1, 5] (fun m i w' => i = .int .i64 0 ∧ m = .int .i64 1 ∧ Below w.heap.size w w') (fun _ _ _ => 0)
  case atStart => exact ⟨rfl, rfl, Below.refl _ _⟩
  case round =>
    obtain ⟨rfl, rfl, hbel⟩ := hrel
    go_wp2
    go_ret
    exact ⟨rfl, hbel⟩
set_option maxHeartbeats 1600000 in
theorem walkDiffOf (a0 a1 : ByteArray) (w0 : a0.size ≤ maxLen) (w1 : a1.size ≤ maxLen) (w : World) :
    Calls Try.prog 5 #[.string a0, .string a1] w fun e w' => e = .returned (.bool true) ∧ Below w.heap.size w w' := by
  by_cases hR : diffV a0 a1 = []
  · have HI := Lib.hid (implDiffOf_any a0 a1 w0 w1)
    have HS := Lib.hid (specDiffOf_any a0 a1 w0 w1)
    rw [hR] at HI HS
    clear hR
    unfold maxLen at w0 w1
    by_cases ha : (1048576 : Int) < a0.size
    · go_enter Try.func5, Try.ntmps5
      go_wp2
      go_ret
      exact ⟨rfl, Below.refl _ _⟩
    by_cases hb : (1048576 : Int) < a1.size
    · go_enter Try.func5, Try.ntmps5
      go_wp2
      go_ret
      exact ⟨rfl, Below.refl _ _⟩
    go_enter Try.func5, Try.ntmps5
    go_wp2_with fail
    refine (HS.out _).mono ?_
    rintro e wa ⟨gs, cs, rfl, ho1, hb1⟩
    have HB1 := Lib.hid hb1
    clear ho1 hb1
    go_wp2_with fail
    refine (HI.out _).mono ?_
    rintro e wb ⟨v, rfl, hs, ho2, hb2⟩
    obtain rfl := hs.2 rfl
    have HB2 := Lib.hid (bthen HB1.out hb2 HB1.out.size)
    clear hs ho2 hb2
    go_wp2_with fail
    refine (eqDiffS_nil gs cs _).mono ?_
    rintro e wc ⟨rfl, hb3⟩
    have HB3 := Lib.hid (bthen HB2.out hb3 HB2.out.size)
    clear hb3
    go_wp2_with fail
    refine (markDiffS_nil _).mono ?_
    rintro e wd ⟨rfl, hb4⟩
    have HB4 := Lib.hid (bthen HB3.out hb4 HB3.out.size)
    clear hb4
    go_wp2_with fail
    refine (heldDiffS_nil _).mono ?_
    rintro e we ⟨rfl, hb5⟩
    have HB5 := Lib.hid (bthen HB4.out hb5 HB4.out.size)
    clear hb5
    go_wp2_with fail
    refine (HI.out _).mono ?_
    rintro e wf ⟨v, rfl, hs, ho2, hb6⟩
    obtain rfl := hs.2 rfl
    have HB6 := Lib.hid (bthen HB5.out hb6 HB5.out.size)
    clear hs ho2 hb6
    go_wp2_with fail
    refine (eqDiffS_nil gs cs _).mono ?_
    rintro e wg ⟨rfl, hb7⟩
    have HB7 := Lib.hid (bthen HB6.out hb7 HB6.out.size)
    clear hb7
    go_wp2_with fail
    refine (heldDiffS_nil _).mono ?_
    rintro e wh ⟨rfl, hb8⟩
    have HB8 := Lib.hid (bthen HB7.out hb8 HB7.out.size)
    clear hb8
    go_wp2
    go_ret
    exact ⟨rfl, HB8.out⟩
  · refine walkDiffOf_of a0 a1 w0 w1 w fun W => ?_
    refine (implDiffOf_any a0 a1 w0 w1 W).mono ?_
    rintro e W' ⟨v, rfl, hs, ho, hb⟩
    rcases ho.2 with ⟨h0, _⟩ | ⟨g, cap, cur, rfl, _⟩
    · exact absurd (hs.1 h0) hR
    · exact ⟨g, cap, rfl, ho, hb⟩
end Go.Proofs.Ythdnhopkkgdclaa.put
