/-
  The program's Common; and the walk of its law. For every two texts.
-/
import Derived.Test.YthdnhopkkgdclaaCommons
import Derived.Test.YthdnhopkkgdclaaCommon
namespace Go.Proofs.Ythdnhopkkgdclaa.table
open Go.ChangeShapes Go.WideShapes Go.ChangeAt Go.RowKit
open Go.Proofs.Ythdnhopkkgdclaa.line
theorem below_new {w w1 : World} {o : Obj} (h : Below w.heap.size w w1) : Below w.heap.size w (w1.alloc o) := h.alloc h.size _
set_option maxHeartbeats 800000 in
theorem implCommon_any (a b : ByteArray) (ha : a.size ≤ maxLen) (hb : b.size ≤ maxLen) (w : World) :
    Calls Try.prog 9 #[.string a, .string b] w fun e w' => e = .returned (.int .i64 (commonV a b)) ∧ Below w.heap.size w w' := by
  have HA := Lib.hid ha
  have HB := Lib.hid hb
  cases ta : textB a
  · have HV := Lib.hid (show commonV a b = -1 by simp [commonV, ta])
    go_enter Try.func9, Try.ntmps9
    go_wp2_with fail
    refine (implRight_any _ HA.out _).mono ?_
    rintro e w1 ⟨rfl, hb1⟩
    rw [ta]
    go_wp2
    go_ret
    exact ⟨by rw [HV.out]; rfl, hb1⟩
  cases tb : textB b
  · have HV := Lib.hid (show commonV a b = -1 by simp [commonV, tb])
    go_enter Try.func9, Try.ntmps9
    go_wp2_with fail
    refine (implRight_any _ HA.out _).mono ?_
    rintro e w1 ⟨rfl, hb1⟩
    rw [ta]
    have HB1 := Lib.hid hb1
    clear hb1
    go_wp2_with fail
    refine (implRight_any _ HB.out _).mono ?_
    rintro e w2 ⟨rfl, hb2⟩
    rw [tb]
    have HB2 := Lib.hid (bthen HB1.out hb2 HB1.out.size)
    clear hb2
    go_wp2
    go_ret
    exact ⟨by rw [HV.out]; rfl, HB2.out⟩
  · have HV := Lib.hid (show commonV a b = (tab a b 0 0 : Nat) by simp [commonV, ta, tb])
    have h6 := (textB_ok ta).1
    have h7 := (textB_ok tb).1
    go_enter Try.func9, Try.ntmps9
    go_wp2_with fail
    refine (implRight_any _ HA.out _).mono ?_
    rintro e w1 ⟨rfl, hb1⟩
    rw [ta]
    have HB1 := Lib.hid hb1
    clear hb1
    go_wp2_with fail
    refine (implRight_any _ HB.out _).mono ?_
    rintro e w2 ⟨rfl, hb2⟩
    rw [tb]
    have HB2 := Lib.hid (bthen HB1.out hb2 HB1.out.size)
    clear hb2
    go_wp2_with fail
    refine (commons_any a b h6 h7 _).mono ?_
    rintro e w3 ⟨cs, rfl, hT, hb3⟩
    have HB3 := Lib.hid (bthen HB2.out hb3 HB2.out.size)
    clear hb3
    have hinf : (Try.prog.info? 57).map (·.size) = some cs.size := by rw [hT.size]; kernel_rfl
    have hinf0 : Try.zeroCells57.size = cs.size := by rw [hT.size, Try.zeroCells57_size]
    have hc := hT.at_ 0 0 (Nat.zero_le _) (Nat.zero_le _)
    obtain ⟨t, ht⟩ : ∃ t, t = tab a b 0 0 := ⟨_, rfl⟩
    rw [← ht] at hc
    have HT := Lib.hid ht
    have hc' : (w3.alloc (.cells cs 57)).cell? ⟨w3.heap.size, 0, none⟩ = some (.int .i64 (t : Nat)) := by
      rw [cell_of_row _ _ _ _ _ _ (heap_alloc_new w3 _)]; exact hc
    have r3 := heap_alloc_new w3 (.cells Try.zeroCells57 57)
    have hone := hT.one
    clear ht hT
    go_wp2_with (first
        | (refine wpList_store_row rfl 57 _ _ rfl w3.heap.size cs rfl rfl 57 _ r3 hinf hinf0 hone ?_; rw [World.setRow_alloc_new]))
    go_ret
    exact ⟨by rw [HV.out, ← HT.out]; rfl, below_new HB3.out⟩
theorem walkCommon (a0 a1 : ByteArray) (w0 : a0.size ≤ maxLen) (w1 : a1.size ≤ maxLen) (w : World) :
    Calls Try.prog 4 #[.string a0, .string a1] w fun e w' => e = .returned (.bool true) ∧ Below w.heap.size w w' :=
  walkCommon_of a0 a1 w0 w1 w fun W => implCommon_any a0 a1 w0 w1 W
end Go.Proofs.Ythdnhopkkgdclaa.table
