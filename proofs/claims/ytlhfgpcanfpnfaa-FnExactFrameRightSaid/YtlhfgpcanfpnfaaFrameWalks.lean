/-
  The walks of FrameRight's law and FrameText's. For every frame that the row reads.
-/
import Derived.Test.YtlhfgpcanfpnfaaFrameLaws
namespace Go.Proofs.Ytlhfgpcanfpnfaa.frame
open Go.ChangeShapes Go.WideShapes Go.ChangeAt Go.RowKit
theorem walkFR (a0 a1 : Int) (a2 : ByteArray) (_ : (Lit.int .i64 a0).wf = true) (_ : (Lit.int .i64 a1).wf = true) (ht : a2.size ≤ maxLen) (w : World) :
    Calls Try.prog 3 #[.agg #[.int .i64 a0, .int .i64 a1, .string a2]] w fun e w' => e = .returned (.bool true) ∧ Below w.heap.size w w' := by
  have HZ := Lib.hid (szFrame_any a0 a1 a2 1048576 ht (by omega) (by omega))
  have HT := Lib.hid (toFrame_any a0 a1 a2)
  by_cases hl : (1048576 : Int) < a2.size
  · rw [if_pos hl] at HZ
    unfold fV at HZ HT
    clear ht hl
    go_enter Try.func3, Try.ntmps3
    go_wp2_with fail
    refine (HZ.out _).mono ?_
    rintro e w1 ⟨rfl, hb⟩
    have HB := Lib.hid (bthen ((Below.refl _ w).alloc (Nat.le_refl _) _) hb (by simp))
    clear hb
    go_wp2
    go_ret
    exact ⟨rfl, HB.out⟩
  rw [if_neg hl] at HZ
  obtain ⟨B, hB⟩ : ∃ B, B = frB a0 a1 a2 := ⟨_, rfl⟩
  have HS := Lib.hid (specFrame_any a0 a1 a2 ht)
  have HI := Lib.hid (implFrame_any a0 a1 a2 (by omega))
  rw [← hB] at HS HI
  have hn : ¬ (1048576 - (a2.size : Int) < 0) := by omega
  clear hB ht hl
  unfold fV at HZ HT HS HI
  obtain ⟨n, hnn⟩ : ∃ n : Int, n = 1048576 - (a2.size : Int) := ⟨_, rfl⟩
  rw [← hnn] at HZ hn
  clear hnn
  go_enter Try.func3, Try.ntmps3
  go_wp2_with fail
  refine (HZ.out _).mono ?_
  rintro e w1 ⟨rfl, hb⟩
  obtain ⟨k1, _⟩ := keepC hb (g := w.heap.size) (by simp)
  have l1 : w.heap.size < w1.heap.size := by have z1 := hb.size; simp at z1; omega
  have HB := Lib.hid (bthen ((Below.refl _ w).alloc (Nat.le_refl _) _) hb (by simp))
  clear hb
  go_wp2_with fail
  refine (HT.out _).mono ?_
  rintro e w2 ⟨rfl, hb⟩
  obtain ⟨k2, _⟩ := keepC hb (g := w.heap.size) l1
  have l2 : w.heap.size < w2.heap.size := Nat.lt_of_lt_of_le l1 hb.size
  have HB := Lib.hid (bthen HB.out hb HB.out.size)
  clear hb
  go_wp2_with fail
  refine (HS.out _).mono ?_
  rintro e w3 ⟨rfl, hb⟩
  obtain ⟨k3, _⟩ := keepC hb (g := w.heap.size) l2
  have l3 : w.heap.size < w3.heap.size := Nat.lt_of_lt_of_le l2 hb.size
  have HB := Lib.hid (bthen HB.out hb HB.out.size)
  clear hb
  go_wp2_with fail
  refine (HT.out _).mono ?_
  rintro e w4 ⟨rfl, hb⟩
  have HB := Lib.hid (bthen HB.out hb HB.out.size)
  clear hb
  go_wp2_with fail
  refine (HI.out _).mono ?_
  rintro e w5 ⟨rfl, hb⟩
  have HB := Lib.hid (bthen HB.out hb HB.out.size)
  clear hb
  go_wp2
  go_ret
  exact ⟨rfl, HB.out⟩
theorem walkFT (a0 a1 : Int) (a2 : ByteArray) (_ : (Lit.int .i64 a0).wf = true) (_ : (Lit.int .i64 a1).wf = true) (ht : a2.size ≤ maxLen) (w : World) :
    Calls Try.prog 4 #[.agg #[.int .i64 a0, .int .i64 a1, .string a2]] w fun e w' => e = .returned (.bool true) ∧ Below w.heap.size w w' := by
  have HZ := Lib.hid (szFrame_any a0 a1 a2 1048576 ht (by omega) (by omega))
  have HT := Lib.hid (toFrame_any a0 a1 a2)
  by_cases hl : (1048576 : Int) < a2.size
  · rw [if_pos hl] at HZ
    unfold fV at HZ HT
    clear ht hl
    go_enter Try.func4, Try.ntmps4
    go_wp2_with fail
    refine (HZ.out _).mono ?_
    rintro e w1 ⟨rfl, hb⟩
    have HB := Lib.hid (bthen ((Below.refl _ w).alloc (Nat.le_refl _) _) hb (by simp))
    clear hb
    go_wp2
    go_ret
    exact ⟨rfl, HB.out⟩
  rw [if_neg hl] at HZ
  obtain ⟨B, hB⟩ : ∃ B, B = frTx a0 a1 a2 := ⟨_, rfl⟩
  have HS := Lib.hid (specText_any a0 a1 a2 ht)
  have HI := Lib.hid (implText_any a0 a1 a2 (by omega))
  rw [← hB] at HS HI
  have hn : ¬ (1048576 - (a2.size : Int) < 0) := by omega
  clear hB ht hl
  unfold fV at HZ HT HS HI
  obtain ⟨n, hnn⟩ : ∃ n : Int, n = 1048576 - (a2.size : Int) := ⟨_, rfl⟩
  rw [← hnn] at HZ hn
  clear hnn
  go_enter Try.func4, Try.ntmps4
  go_wp2_with fail
  refine (HZ.out _).mono ?_
  rintro e w1 ⟨rfl, hb⟩
  obtain ⟨k1, _⟩ := keepC hb (g := w.heap.size) (by simp)
  have l1 : w.heap.size < w1.heap.size := by have z1 := hb.size; simp at z1; omega
  have HB := Lib.hid (bthen ((Below.refl _ w).alloc (Nat.le_refl _) _) hb (by simp))
  clear hb
  go_wp2_with fail
  refine (HT.out _).mono ?_
  rintro e w2 ⟨rfl, hb⟩
  obtain ⟨k2, _⟩ := keepC hb (g := w.heap.size) l1
  have l2 : w.heap.size < w2.heap.size := Nat.lt_of_lt_of_le l1 hb.size
  have HB := Lib.hid (bthen HB.out hb HB.out.size)
  clear hb
  go_wp2_with fail
  refine (HS.out _).mono ?_
  rintro e w3 ⟨rfl, hb⟩
  obtain ⟨k3, _⟩ := keepC hb (g := w.heap.size) l2
  have l3 : w.heap.size < w3.heap.size := Nat.lt_of_lt_of_le l2 hb.size
  have HB := Lib.hid (bthen HB.out hb HB.out.size)
  clear hb
  go_wp2_with fail
  refine (HT.out _).mono ?_
  rintro e w4 ⟨rfl, hb⟩
  have HB := Lib.hid (bthen HB.out hb HB.out.size)
  clear hb
  go_wp2_with fail
  refine (HI.out _).mono ?_
  rintro e w5 ⟨rfl, hb⟩
  have HB := Lib.hid (bthen HB.out hb HB.out.size)
  clear hb
  go_wp2
  go_ret
  exact ⟨rfl, HB.out⟩
end Go.Proofs.Ytlhfgpcanfpnfaa.frame
