/-
  The walk of DiffOf's law, out of the program's own contract. For every two texts.
-/
import Derived.Test.YthdnhopkkgdclaaDiffOf
import Derived.Test.YthdnhopkkgdclaaMarkDiff
namespace Go.Proofs.Ythdnhopkkgdclaa.put
open Go.ChangeShapes Go.WideShapes Go.ChangeAt Go.RowKit
open Go.Proofs.Ythdnhopkkgdclaa.table Go.Proofs.Ythdnhopkkgdclaa.line Go.Proofs.Ythdnhopkkgdclaa.diff
def atK (R : List Run) (i : Nat) : Int := (R[i]?.getD (0, ⟨#[]⟩)).1
def atX (R : List Run) (i : Nat) : ByteArray := (R[i]?.getD (0, ⟨#[]⟩)).2
theorem dCells_at (R : List Run) : ∀ i, i < R.length → (dCells R)[i * 2]? = some (.int .i64 (atK R i)) ∧ (dCells R)[i * 2 + 1]? = some (.string (atX R i)) := by
  induction R with
  | nil => intro i hi; simp at hi
  | cons d R ih =>
    intro i hi
    have hc : dCells (d :: R) = .int .i64 d.1 :: .string d.2 :: dCells R := rfl
    rw [hc]
    cases i with
    | zero => exact ⟨rfl, rfl⟩
    | succ i =>
      have h := ih i (by simpa using hi)
      have e1 : (i + 1) * 2 = i * 2 + 1 + 1 := by omega
      have e2 : (i + 1) * 2 + 1 = i * 2 + 1 + 1 + 1 := by omega
      rw [e2, e1]
      simpa [atK, atX] using h
theorem own_row {w : World} {base g cap : Nat} {R : List Run} (h : w.ownsRow base 54 2 (.slice (some ⟨g, 0, none⟩) R.length cap) R.length (dCells R)) : RowD w g R.length (atK R) (atX R) where
  kind i hi := by rw [h.cellAt (i * 2) (by omega)]; exact (dCells_at R i hi).1
  text i hi := by rw [h.cellAt (i * 2 + 1) (by omega)]; exact (dCells_at R i hi).2
theorem own_blk {w : World} {base g n cap : Nat} {xs : List Value} (h : w.ownsRow base 54 2 (.slice (some ⟨g, 0, none⟩) n cap) n xs) : base ≤ g ∧ ∃ M : Array Value, w.heap[g]? = some (.cells M 54 (0, 0)) ∧ n * 2 ≤ M.size := by
  rcases h.2 with ⟨h0, _⟩ | ⟨g', cap', cur, h1, h2, h3, h4, _, h6, _⟩
  · cases h0
  · injection h1 with a1 a2 a3
    injection a1 with a1
    injection a1 with a1
    subst a1 a3
    exact ⟨h2, cur, h3, by omega⟩
theorem diffR_len (a b : ByteArray) : ∀ (f i k : Nat) (ds : List Run), (diffR a b f i k ds).length ≤ ds.length + f := by
  intro f
  induction f with
  | zero => intro i k ds; exact Nat.le_refl _
  | succ f ih =>
    intro i k ds
    unfold diffR
    split
    · exact Nat.le_trans (ih _ _ _) (by have := putL_len ds 1 (a[i]'(by rename_i h; exact h.1)); omega)
    · split
      · exact Nat.le_trans (ih _ _ _) (by have := putL_len ds 2 (a[i]'(by rename_i h; exact h.1)); omega)
      · split
        · exact Nat.le_trans (ih _ _ _) (by have := putL_len ds 3 (b[k]'(by assumption)); omega)
        · omega
theorem diffV_len (a b : ByteArray) : (diffV a b).length ≤ 120 := by
  unfold diffV
  split
  · rename_i h
    rw [Bool.and_eq_true] at h
    have h6 := (textB_ok h.1).1
    have h7 := (textB_ok h.2).1
    have := diffR_len a b (a.size + b.size) 0 0 []
    unfold diffL
    simp at this
    omega
  · simp
set_option maxHeartbeats 1600000 in
theorem walkDiffOf_of (a0 a1 : ByteArray) (w0 : a0.size ≤ maxLen) (w1 : a1.size ≤ maxLen) (w : World)
    (him : ∀ W : World, Calls Try.prog 8 #[.string a0, .string a1] W fun e w' =>
      ∃ g cap, e = .returned (.slice (some ⟨g, 0, none⟩) (diffV a0 a1).length cap) ∧ w'.ownsRow W.heap.size 54 2 (.slice (some ⟨g, 0, none⟩) (diffV a0 a1).length cap) (diffV a0 a1).length (dCells (diffV a0 a1)) ∧ Below W.heap.size W w') :
    Calls Try.prog 5 #[.string a0, .string a1] w fun e w' => e = .returned (.bool true) ∧ Below w.heap.size w w' := by
  have HI := Lib.hid him
  have HA := Lib.hid w0
  have HB := Lib.hid w1
  clear him
  unfold maxLen at w0 w1
  by_cases ha : (1048576 : Int) < a0.size
  · go_enter Try.func5, Try.ntmps5
    go_wp2
    go_ret
    exact ⟨rfl, Below.refl _ _⟩
  by_cases hb : (1048576 : Int) < a1.size
  · go_enter Try.func5, Try.ntmps5
    go_wp2
    go_ret
    exact ⟨rfl, Below.refl _ _⟩
  have HS := Lib.hid (specDiffOf_any a0 a1 HA.out HB.out)
  have hlen := diffV_len a0 a1
  obtain ⟨R, hR⟩ : ∃ R, R = diffV a0 a1 := ⟨_, rfl⟩
  rw [← hR] at HI HS hlen
  clear hR
  go_enter Try.func5, Try.ntmps5
  go_wp2_with fail
  refine (HS.out _).mono ?_
  rintro e wa ⟨gs, cs, rfl, ho1, hb1⟩
  have RS := Lib.hid (own_row ho1)
  have HB1 := Lib.hid hb1
  have z1 := hb1.size
  clear ho1 hb1
  go_wp2_with fail
  refine (HI.out _).mono ?_
  rintro e wb ⟨g, cg, rfl, ho2, hb2⟩
  have RG := Lib.hid (own_row ho2)
  have BG := Lib.hid (own_blk ho2)
  have RS2 := Lib.hid (RS.out.below hb2)
  have HB2 := Lib.hid (bthen HB1.out hb2 z1)
  have HW2 := Lib.hid hb2
  have z2 := hb2.size
  clear ho2 hb2
  go_wp2_with fail
  refine (eqDiffS_same g gs R.length cg cs _ _ (by omega) _ RG.out RS2.out).mono ?_
  rintro e wc ⟨rfl, hb3⟩
  have BG3 := Lib.hid (show wa.heap.size ≤ g ∧ ∃ M : Array Value, wc.heap[g]? = some (.cells M 54 (0, 0)) ∧ R.length * 2 ≤ M.size by
    obtain ⟨h1, M, h2, h3⟩ := BG.out
    exact ⟨h1, M, by rw [hb3.block g (lt_heap h2)]; exact h2, h3⟩)
  have HW := Lib.hid (bthen HW2.out hb3 z2)
  have HB3 := Lib.hid (bthen HB2.out hb3 (by omega))
  have z3 := hb3.size
  clear hb3 RG BG RS2 HW2
  obtain ⟨m, hm⟩ : ∃ m, m = 1 + 2 * R.length := ⟨_, rfl⟩
  have m1 : ¬ (m : Int) < 0 := by omega
  have hmark : ∀ W : World, (wa.heap.size ≤ g ∧ ∃ M : Array Value, W.heap[g]? = some (.cells M 54 (0, 0)) ∧ R.length * 2 ≤ M.size) →
      Calls Try.prog 23 #[.slice (some ⟨g, 0, none⟩) R.length cg, .int .i64 1] W fun e w' => e = .returned (.int .i64 m) ∧ RowD w' g R.length (mkK 1) (mkX 1) ∧ Below wa.heap.size W w' := fun W h => by
    obtain ⟨h1, M, h2, h3⟩ := h
    rw [hm]
    exact markDiffS_any wa.heap.size g R.length cg 1 M (by omega) (by omega) W h1 h2 h3
  have hheld : ∀ W : World, RowD W g R.length (mkK 1) (mkX 1) →
      Calls Try.prog 24 #[.slice (some ⟨g, 0, none⟩) R.length cg, .int .i64 1] W fun e w' => e = .returned (.int .i64 m) ∧ Below W.heap.size W w' := fun W h => by
    rw [hm]
    exact heldDiffS_any g R.length cg 1 (by omega) (by omega) W h
  have HMK := Lib.hid hmark
  have HHD := Lib.hid hheld
  clear hmark hheld hm
  go_wp2_with fail
  refine (HMK.out _ BG3.out).mono ?_
  rintro e wd ⟨rfl, hr4, hb4⟩
  have RG4 := Lib.hid hr4
  have RS4 := Lib.hid (RS.out.below (HW.out.trans hb4))
  have HB4 := Lib.hid (HB3.out.trans (hb4.mono z1))
  have z4 := hb4.size
  clear hr4 hb4 RS HW BG3
  go_wp2_with fail
  refine (HHD.out _ RG4.out).mono ?_
  rintro e we ⟨rfl, hb5⟩
  have RG5 := Lib.hid (RG4.out.below hb5)
  have RS5 := Lib.hid (RS4.out.below hb5)
  have HB5 := Lib.hid (bthen HB4.out hb5 (by omega))
  have z5 := hb5.size
  clear hb5 RG4 RS4
  go_wp2_with fail
  refine (HI.out _).mono ?_
  rintro e wf ⟨h, ch, rfl, ho6, hb6⟩
  have RH6 := Lib.hid (own_row ho6)
  have RG6 := Lib.hid (RG5.out.below hb6)
  have RS6 := Lib.hid (RS5.out.below hb6)
  have HB6 := Lib.hid (bthen HB5.out hb6 (by omega))
  have z6 := hb6.size
  clear ho6 hb6 RG5 RS5
  go_wp2_with fail
  refine (eqDiffS_same h gs R.length ch cs _ _ (by omega) _ RH6.out RS6.out).mono ?_
  rintro e wg ⟨rfl, hb7⟩
  have RG7 := Lib.hid (RG6.out.below hb7)
  have HB7 := Lib.hid (bthen HB6.out hb7 (by omega))
  have z7 := hb7.size
  clear hb7 RG6 RS6 RH6
  go_wp2_with fail
  refine (HHD.out _ RG7.out).mono ?_
  rintro e wh ⟨rfl, hb8⟩
  have HB8 := Lib.hid (bthen HB7.out hb8 (by omega))
  clear hb8
  go_wp2
  go_ret
  exact ⟨rfl, HB8.out⟩
end Go.Proofs.Ythdnhopkkgdclaa.put
