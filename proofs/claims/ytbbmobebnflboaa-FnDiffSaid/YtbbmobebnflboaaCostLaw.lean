/-
  The walks of DiffRight's and CostOf's laws, out of the program's own contracts. For every list that the row reads.
-/
import Derived.Test.YtbbmobebnflboaaOpenKS
namespace Go.Proofs.Ytbbmobebnflboaa.diff
open Go.ChangeShapes Go.WideShapes Go.ChangeAt Go.RowKit
theorem sum_size (X : Nat → ByteArray) (n : Nat) : ∀ i, i < n → (X i).size ≤ sumTo X n := by
  induction n with
  | zero => intro i hi; omega
  | succ n ih =>
    intro i hi
    have h : sumTo X (n + 1) = sumTo X n + (X n).size := rfl
    by_cases e : i = n
    · subst e; omega
    · have := ih i (by omega); omega
/-- both kinds of list: what szDiffS says, and what toDiffS makes -/
theorem sz_KS {w : World} {a : Option Addr} {n C : Nat} {K : Nat → Int} {X : Nat → ByteArray} (s : IsKS w a n C K X) (W : World) (hW : Below w.heap.size w W) :
    Calls Try.prog 27 #[.slice a n C, .int .i64 1048576] W fun e w' =>
      e = .returned (.int .i64 (if 1048576 < n + sumTo X n then -1 else 1048576 - n - sumTo X n)) ∧ Below W.heap.size W w' := by
  rcases s with ⟨rfl, rfl, rfl⟩ | ⟨x, rfl, hn, hr, hX, _⟩
  · exact szDiffS_nil W
  · exact szDiffS_any x n C K X hn hX W (hr.below hW)
theorem to_KS {w : World} {a : Option Addr} {n C : Nat} {K : Nat → Int} {X : Nat → ByteArray} (s : IsKS w a n C K X) (hn : n ≤ 1048576) (W : World) (hW : Below w.heap.size w W) :
    Calls Try.prog 28 #[.slice a n C] W fun e w' =>
      e = .returned (.slice (some ⟨W.heap.size, 0, none⟩) n n) ∧ RowD w' W.heap.size n K X ∧ Below W.heap.size W w' ∧ W.heap.size < w'.heap.size := by
  rcases s with ⟨rfl, rfl, rfl⟩ | ⟨x, rfl, _, hr, _, _⟩
  · exact toDiffS_nil K X W
  · exact toDiffS_any x n C K X hn W (hr.below hW)
set_option maxHeartbeats 800000 in
theorem walkCost_of (a : Option Addr) (n C : Nat) (K : Nat → Int) (X : Nat → ByteArray) (w : World) (s : IsKS w a n C K X)
    (him : ∀ (g : Nat) (W : World), n ≤ 1048576 → (∀ i, i < n → (X i).size ≤ 1048576) → RowD W g n K X → Calls Try.prog 21 #[.slice (some ⟨g, 0, none⟩) n n] W fun e w' => e = .returned (.int .i64 (costV n K X)) ∧ Below W.heap.size W w') :
    Calls Try.prog 8 #[.slice a n C] w fun e w' => e = .returned (.bool true) ∧ Below w.heap.size w w' := by
  have HS := Lib.hid s
  have HI := Lib.hid him
  clear him
  have hz := sz_KS s w (Below.refl _ _)
  clear s
  by_cases hl : 1048576 < n + sumTo X n
  · rw [if_pos hl] at hz
    have HZ := Lib.hid hz
    clear hz
    go_enter Try.func8, Try.ntmps8
    go_wp2_with fail
    refine HZ.out.mono ?_
    rintro e w1 ⟨rfl, hb⟩
    go_wp2
    go_ret
    exact ⟨rfl, hb⟩
  · rw [if_neg hl] at hz
    have HZ := Lib.hid hz
    have hge : 0 ≤ 1048576 - (n : Int) - sumTo X n := by omega
    have hn : n ≤ 1048576 := by omega
    have HX := Lib.hid (show ∀ i, i < n → (X i).size ≤ 1048576 from fun i hi => by have := sum_size X n i hi; omega)
    obtain ⟨L, hL⟩ : ∃ L : Int, L = 1048576 - (n : Int) - sumTo X n := ⟨_, rfl⟩
    rw [← hL] at hz hge HZ
    clear hz hL hl
    go_enter Try.func8, Try.ntmps8
    go_wp2_with fail
    refine HZ.out.mono ?_
    rintro e w1 ⟨rfl, hb1⟩
    have HB1 := Lib.hid hb1
    clear hb1 HZ
    go_wp2_with fail
    refine (to_KS HS.out hn w1 HB1.out).mono ?_
    rintro e w2 ⟨rfl, hr2, hb2, hz2⟩
    have HR2 := Lib.hid hr2
    have HB2 := Lib.hid (bthen HB1.out hb2 HB1.out.size)
    clear hr2 hb2
    go_wp2_with fail
    refine (specCost_any _ _ _ K X hn HX.out _ HR2.out).mono ?_
    rintro e w3 ⟨rfl, hb3⟩
    have HB3 := Lib.hid (bthen HB2.out hb3 HB2.out.size)
    clear hb3
    go_wp2_with fail
    refine (to_KS HS.out hn w3 HB3.out).mono ?_
    rintro e w4 ⟨rfl, hr4, hb4, hz4⟩
    have HR4 := Lib.hid hr4
    have HB4 := Lib.hid (bthen HB3.out hb4 HB3.out.size)
    clear hr4 hb4
    go_wp2_with fail
    refine (HI.out _ _ hn HX.out HR4.out).mono ?_
    rintro e w5 ⟨rfl, hb5⟩
    have HR5 := Lib.hid (HR4.out.below hb5)
    have HB5 := Lib.hid (bthen HB4.out hb5 HB4.out.size)
    clear hb5
    go_wp2_with fail
    refine (to_KS HS.out hn w5 HB5.out).mono ?_
    rintro e w6 ⟨rfl, hr6, hb6, hz6⟩
    have HR6 := Lib.hid hr6
    have HR7 := Lib.hid (HR5.out.below hb6)
    have HB6 := Lib.hid (bthen HB5.out hb6 HB5.out.size)
    clear hr6 hb6
    go_wp2_with fail
    refine (eqDiffS_same _ _ n n n K X hn _ HR7.out HR6.out).mono ?_
    rintro e w7 ⟨rfl, hb7⟩
    have HB7 := Lib.hid (bthen HB6.out hb7 HB6.out.size)
    clear hb7
    go_wp2
    go_ret
    exact ⟨rfl, HB7.out⟩
set_option maxHeartbeats 800000 in
theorem walkDR_of (a : Option Addr) (n C : Nat) (K : Nat → Int) (X : Nat → ByteArray) (w : World) (s : IsKS w a n C K X)
    (him : ∀ (g : Nat) (W : World), n ≤ 1048576 → (∀ i, i < n → (X i).size ≤ 1048576) → RowD W g n K X → Calls Try.prog 19 #[.slice (some ⟨g, 0, none⟩) n n] W fun e w' => e = .returned (.bool (drB n K X)) ∧ Below W.heap.size W w') :
    Calls Try.prog 6 #[.slice a n C] w fun e w' => e = .returned (.bool true) ∧ Below w.heap.size w w' := by
  have HS := Lib.hid s
  have HI := Lib.hid him
  clear him
  have hz := sz_KS s w (Below.refl _ _)
  clear s
  by_cases hl : 1048576 < n + sumTo X n
  · rw [if_pos hl] at hz
    have HZ := Lib.hid hz
    clear hz
    go_enter Try.func6, Try.ntmps6
    go_wp2_with fail
    refine HZ.out.mono ?_
    rintro e w1 ⟨rfl, hb⟩
    go_wp2
    go_ret
    exact ⟨rfl, hb⟩
  · rw [if_neg hl] at hz
    have HZ := Lib.hid hz
    have hge : 0 ≤ 1048576 - (n : Int) - sumTo X n := by omega
    have hn : n ≤ 1048576 := by omega
    have HX := Lib.hid (show ∀ i, i < n → (X i).size ≤ 1048576 from fun i hi => by have := sum_size X n i hi; omega)
    obtain ⟨L, hL⟩ : ∃ L : Int, L = 1048576 - (n : Int) - sumTo X n := ⟨_, rfl⟩
    rw [← hL] at hz hge HZ
    clear hz hL hl
    go_enter Try.func6, Try.ntmps6
    go_wp2_with fail
    refine HZ.out.mono ?_
    rintro e w1 ⟨rfl, hb1⟩
    have HB1 := Lib.hid hb1
    clear hb1 HZ
    go_wp2_with fail
    refine (to_KS HS.out hn w1 HB1.out).mono ?_
    rintro e w2 ⟨rfl, hr2, hb2, hz2⟩
    have HR2 := Lib.hid hr2
    have HB2 := Lib.hid (bthen HB1.out hb2 HB1.out.size)
    clear hr2 hb2
    go_wp2_with fail
    refine (specDR_any _ _ _ K X hn _ HR2.out).mono ?_
    rintro e w3 ⟨rfl, hb3⟩
    have HB3 := Lib.hid (bthen HB2.out hb3 HB2.out.size)
    clear hb3
    go_wp2_with fail
    refine (to_KS HS.out hn w3 HB3.out).mono ?_
    rintro e w4 ⟨rfl, hr4, hb4, hz4⟩
    have HR4 := Lib.hid hr4
    have HB4 := Lib.hid (bthen HB3.out hb4 HB3.out.size)
    clear hr4 hb4
    go_wp2_with fail
    refine (HI.out _ _ hn HX.out HR4.out).mono ?_
    rintro e w5 ⟨rfl, hb5⟩
    have HR5 := Lib.hid (HR4.out.below hb5)
    have HB5 := Lib.hid (bthen HB4.out hb5 HB4.out.size)
    clear hb5
    go_wp2_with fail
    refine (to_KS HS.out hn w5 HB5.out).mono ?_
    rintro e w6 ⟨rfl, hr6, hb6, hz6⟩
    have HR6 := Lib.hid hr6
    have HR7 := Lib.hid (HR5.out.below hb6)
    have HB6 := Lib.hid (bthen HB5.out hb6 HB5.out.size)
    clear hr6 hb6
    go_wp2_with fail
    refine (eqDiffS_same _ _ n n n K X hn _ HR7.out HR6.out).mono ?_
    rintro e w7 ⟨rfl, hb7⟩
    have HB7 := Lib.hid (bthen HB6.out hb7 HB6.out.size)
    clear hb7
    go_wp2
    go_ret
    exact ⟨rfl, HB7.out⟩
end Go.Proofs.Ytbbmobebnflboaa.diff
