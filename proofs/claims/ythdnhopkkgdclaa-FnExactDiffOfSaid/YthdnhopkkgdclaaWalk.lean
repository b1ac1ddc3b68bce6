/-
  The program's walk through two texts side by side, in memory: what comes next, a step. For right texts.
-/
import Derived.Test.YthdnhopkkgdclaaCommons
import Derived.Test.YthdnhopkkgdclaaOf
namespace Go.Proofs.Ythdnhopkkgdclaa.table
open Go.ChangeShapes Go.WideShapes Go.ChangeAt Go.RowKit
theorem zero87_2 : Try.zeroCells86[2]? = some (.int .i64 0) := by kernel_rfl
theorem zero87_3 : Try.zeroCells86[3]? = some (.int .i64 0) := by kernel_rfl
/-- the walk in the block c, at the places i and j -/
structure WalkC (a b : ByteArray) (i j : Nat) (cs : Array Value) : Prop where
  size : cs.size = 3725
  a_ : cs[0]? = some (.string a)
  b_ : cs[1]? = some (.string b)
  i_ : cs[2]? = some (.int .i64 (i : Nat))
  j_ : cs[3]? = some (.int .i64 (j : Nat))
  tab_ : ∀ x y, x ≤ 60 → y ≤ 60 → cs[4 + x * 61 + y]? = some (.int .i64 (tab a b x y : Nat))
def WalkW (a b : ByteArray) (c i j : Nat) (w : World) : Prop := ∃ cs, w.heap[c]? = some (.cells cs 86 (0, 0)) ∧ WalkC a b i j cs
section
variable {a b : ByteArray} {c i j : Nat} {w : World}
theorem WalkW.lt (h : WalkW a b c i j w) : c < w.heap.size := by
  obtain ⟨cs, h1, _⟩ := h; exact heap_lt h1
theorem WalkW.a_ (h : WalkW a b c i j w) : w.cell? ⟨c, 0, none⟩ = some (.string a) := by
  obtain ⟨cs, h1, h2⟩ := h; rw [cell_of_row _ _ _ _ _ _ h1]; exact h2.a_
theorem WalkW.b_ (h : WalkW a b c i j w) : w.cell? ⟨c, 1, none⟩ = some (.string b) := by
  obtain ⟨cs, h1, h2⟩ := h; rw [cell_of_row _ _ _ _ _ _ h1]; exact h2.b_
theorem WalkW.i_ (h : WalkW a b c i j w) : w.cell? ⟨c, 2, none⟩ = some (.int .i64 (i : Nat)) := by
  obtain ⟨cs, h1, h2⟩ := h; rw [cell_of_row _ _ _ _ _ _ h1]; exact h2.i_
theorem WalkW.j_ (h : WalkW a b c i j w) : w.cell? ⟨c, 3, none⟩ = some (.int .i64 (j : Nat)) := by
  obtain ⟨cs, h1, h2⟩ := h; rw [cell_of_row _ _ _ _ _ _ h1]; exact h2.j_
theorem WalkW.tab_ (h : WalkW a b c i j w) (x y : Nat) (hx : x ≤ 60) (hy : y ≤ 60) : w.cell? ⟨c, 4 + x * 61 + y, none⟩ = some (.int .i64 (tab a b x y : Nat)) := by
  obtain ⟨cs, h1, h2⟩ := h; rw [cell_of_row _ _ _ _ _ _ h1]; exact h2.tab_ x y hx hy
theorem WalkW.frz (h : WalkW a b c i j w) (o : Nat) : w.frozen? ⟨c, o, none⟩ = false := by
  obtain ⟨cs, h1, _⟩ := h; exact frozen_of_row _ _ _ _ _ h1
theorem WalkW.below (h : WalkW a b c i j w) {w' : World} (hb : Below w.heap.size w w') : WalkW a b c i j w' := by
  have hl := h.lt
  obtain ⟨cs, h1, h2⟩ := h
  exact ⟨cs, by rw [hb.block c hl]; exact h1, h2⟩
theorem WalkW.setI (h : WalkW a b c i j w) (n : Nat) : WalkW a b c n j (w.setCell ⟨c, 2, none⟩ (.int .i64 (n : Nat))) := by
  obtain ⟨cs, h1, h2⟩ := h
  refine ⟨_, heap_setCell_same _ _ _ _ _ _ h1, ?_, ?_, ?_, ?_, ?_, ?_⟩
  · rw [Array.size_setIfInBounds]; exact h2.size
  · rw [Array.getElem?_setIfInBounds_ne (by omega)]; exact h2.a_
  · rw [Array.getElem?_setIfInBounds_ne (by omega)]; exact h2.b_
  · rw [Array.getElem?_setIfInBounds_self, if_pos (by rw [h2.size]; omega)]
  · rw [Array.getElem?_setIfInBounds_ne (by omega)]; exact h2.j_
  · intro x y hx hy; rw [Array.getElem?_setIfInBounds_ne (by omega)]; exact h2.tab_ x y hx hy
theorem WalkW.setJ (h : WalkW a b c i j w) (n : Nat) : WalkW a b c i n (w.setCell ⟨c, 3, none⟩ (.int .i64 (n : Nat))) := by
  obtain ⟨cs, h1, h2⟩ := h
  refine ⟨_, heap_setCell_same _ _ _ _ _ _ h1, ?_, ?_, ?_, ?_, ?_, ?_⟩
  · rw [Array.size_setIfInBounds]; exact h2.size
  · rw [Array.getElem?_setIfInBounds_ne (by omega)]; exact h2.a_
  · rw [Array.getElem?_setIfInBounds_ne (by omega)]; exact h2.b_
  · rw [Array.getElem?_setIfInBounds_ne (by omega)]; exact h2.i_
  · rw [Array.getElem?_setIfInBounds_self, if_pos (by rw [h2.size]; omega)]
  · intro x y hx hy; rw [Array.getElem?_setIfInBounds_ne (by omega)]; exact h2.tab_ x y hx hy
end
theorem grown_trans {A B C : World} {r : Option Nat} (h : A.grownBy B r) (k : B.grownBy C r) : A.grownBy C r :=
  ⟨k.os.trans h.os, k.tape.trans h.tape, k.output.trans h.output, Nat.le_trans h.size k.size, fun i hi hne => (k.block i (Nat.lt_of_lt_of_le hi h.size) hne).trans (h.block i hi hne)⟩
theorem grown_below {A B : World} {r : Option Nat} (h : Below A.heap.size A B) : A.grownBy B r := ⟨h.os, h.tape, h.output, h.size, fun i hi _ => h.block i hi⟩
theorem grown_set (W : World) (c o : Nat) (v : Value) : W.grownBy (W.setCell ⟨c, o, none⟩ v) (some c) :=
  ⟨rfl, rfl, rfl, by simp [World.setCell], fun k _ hk => Below.heap_setCell _ _ _ _ (fun e => hk (by rw [e]))⟩
/-- what one does with the byte that comes next -/
def kindAt (a b : ByteArray) (i j : Nat) : Int :=
  if ¬ i < a.size ∧ ¬ j < b.size then 0
  else if i < a.size ∧ j < b.size ∧ byteAt a i = byteAt b j then 1
  else if i < a.size ∧ tab a b (i + 1) j = tab a b i j then 2
  else 3
theorem draws_below (B : Nat) (w : World) (n : Nat) : Below B w (w.drewN n) := ⟨rfl, rfl, rfl, Nat.le_refl _, fun _ _ => rfl⟩
set_option maxHeartbeats 4000000 in
theorem next_any (a b : ByteArray) (ha : a.size ≤ 60) (hb : b.size ≤ 60) (c i j : Nat) (hi : i ≤ a.size) (hj : j ≤ b.size) (w : World) (h : WalkW a b c i j w) :
    Calls Try.prog 52 #[.pointer (some ⟨c, 0, none⟩)] w fun e w' => e = .returned (.int .i64 (kindAt a b i j)) ∧ Below w.heap.size w w' := by
  have h0 := h.a_
  have h1 := h.b_
  have h2 := h.i_
  have h3 := h.j_
  by_cases hia : i < a.size
  · have d1 : decide ((i : Int) < (a.size : Int)) = true := by simp; omega
    have n1 := h.tab_ (i + 1) j (by omega) (by omega)
    have n2 := h.tab_ i j (by omega) (by omega)
    obtain ⟨x1, hx1⟩ : ∃ x, x = tab a b (i + 1) j := ⟨_, rfl⟩
    obtain ⟨x2, hx2⟩ : ∃ x, x = tab a b i j := ⟨_, rfl⟩
    rw [← hx1] at n1
    rw [← hx2] at n2
    have b1 : (0 : Int) ≤ (i : Int) + 1 := by omega
    have b2 : (i : Int) + 1 < 61 := by omega
    have b3 : IntKind.i64.wrap ((i : Int) + 1) = (i : Int) + 1 := IntWalk.i64_in _ (by omega)
    have b4 : ((i : Int) + 1).toNat = i + 1 := by omega
    have b5 : (i : Int) < 61 := by omega
    have b6 : (j : Int) < 61 := by omega
    by_cases hjb : j < b.size
    · have d2 : decide ((j : Int) < (b.size : Int)) = true := by simp; omega
      by_cases he : a[i].toNat = b[j].toNat
      · have ee : ((a[i].toNat : Int) == (b[j].toNat : Int)) = true := by simp [he]
        have HV := Lib.hid (show kindAt a b i j = 1 by
          unfold kindAt
          rw [if_neg (by omega), if_pos ⟨hia, hjb, by rw [byteAt_eq hia, byteAt_eq hjb]; exact he⟩])
        clear he h hx1 hx2
        go_enter Try.func52, Try.ntmps52
        go_wp2
        go_quiet (fail)
        go_wp2
        go_quiet (fail)
        go_wp2
        go_ret
        exact ⟨by rw [HV.out]; rfl, ⟨rfl, rfl, rfl, Nat.le_refl _, fun _ _ => rfl⟩⟩
      · have ee : ((a[i].toNat : Int) == (b[j].toNat : Int)) = false := by simp; omega
        by_cases hx : x1 = x2
        · have ex : ((x1 : Int) == (x2 : Int)) = true := by simp [hx]
          have HV := Lib.hid (show kindAt a b i j = 2 by
            unfold kindAt
            rw [if_neg (by omega), if_neg (fun x => he (by have := x.2.2; rw [byteAt_eq hia, byteAt_eq hjb] at this; exact this)), if_pos ⟨hia, by rw [← hx1, ← hx2]; exact hx⟩])
          clear he h hx1 hx2 hx
          go_enter Try.func52, Try.ntmps52
          go_wp2
          go_quiet (fail)
          go_wp2
          go_quiet (fail)
          go_wp2
          go_quiet (fail)
          go_wp2
          go_ret
          exact ⟨by rw [HV.out]; rfl, ⟨rfl, rfl, rfl, Nat.le_refl _, fun _ _ => rfl⟩⟩
        · have ex : ((x1 : Int) == (x2 : Int)) = false := by simp; omega
          have HV := Lib.hid (show kindAt a b i j = 3 by
            unfold kindAt
            rw [if_neg (by omega), if_neg (fun x => he (by have := x.2.2; rw [byteAt_eq hia, byteAt_eq hjb] at this; exact this)), if_neg (fun x => hx (by rw [hx1, hx2]; exact x.2))])
          clear he h hx1 hx2 hx
          go_enter Try.func52, Try.ntmps52
          go_wp2
          go_quiet (fail)
          go_wp2
          go_quiet (fail)
          go_wp2
          go_quiet (fail)
          go_wp2
          go_ret
          exact ⟨by rw [HV.out]; rfl, ⟨rfl, rfl, rfl, Nat.le_refl _, fun _ _ => rfl⟩⟩
    · have d2 : decide ((j : Int) < (b.size : Int)) = false := by simp; omega
      have t1 := tab_endB a b (i + 1) j (by omega)
      have t2 := tab_endB a b i j (by omega)
      have ex : ((x1 : Int) == (x2 : Int)) = true := by simp; omega
      have HV := Lib.hid (show kindAt a b i j = 2 by
        unfold kindAt
        rw [if_neg (by omega), if_neg (by omega), if_pos ⟨hia, by rw [t1, t2]⟩])
      clear h hx1 hx2 t1 t2
      go_enter Try.func52, Try.ntmps52
      go_wp2
      go_quiet (fail)
      go_wp2
      go_quiet (fail)
      go_wp2
      go_quiet (fail)
      go_wp2
      go_ret
      exact ⟨by rw [HV.out]; rfl, ⟨rfl, rfl, rfl, Nat.le_refl _, fun _ _ => rfl⟩⟩
  · have d1 : decide ((i : Int) < (a.size : Int)) = false := by simp; omega
    by_cases hjb : j < b.size
    · have d2 : decide ((j : Int) < (b.size : Int)) = true := by simp; omega
      have HV := Lib.hid (show kindAt a b i j = 3 by
        unfold kindAt
        rw [if_neg (by omega), if_neg (by omega), if_neg (by omega)])
      clear h
      go_enter Try.func52, Try.ntmps52
      go_wp2
      go_quiet (fail)
      go_wp2
      go_quiet (fail)
      go_wp2
      go_quiet (fail)
      go_wp2
      go_ret
      exact ⟨by rw [HV.out]; rfl, ⟨rfl, rfl, rfl, Nat.le_refl _, fun _ _ => rfl⟩⟩
    · have d2 : decide ((j : Int) < (b.size : Int)) = false := by simp; omega
      have HV := Lib.hid (show kindAt a b i j = 0 by
        unfold kindAt
        rw [if_pos ⟨hia, hjb⟩])
      clear h
      go_enter Try.func52, Try.ntmps52
      go_wp2
      go_quiet (fail)
      go_wp2
      go_ret
      exact ⟨by rw [HV.out]; rfl, ⟨rfl, rfl, rfl, Nat.le_refl _, fun _ _ => rfl⟩⟩
/-- a step, by what one has done -/
def stepI (k : Int) (i : Nat) : Nat := if k = 3 then i else i + 1
def stepJ (k : Int) (j : Nat) : Nat := if k = 2 then j else j + 1
set_option maxHeartbeats 4000000 in
theorem step_any (a b : ByteArray) (c i j : Nat) (k : Int) (hi : i ≤ 60) (hj : j ≤ 60) (w : World) (h : WalkW a b c i j w) :
    Calls Try.prog 60 #[.pointer (some ⟨c, 0, none⟩), .int .i64 k] w fun e w' => (∃ v, e = .returned v) ∧ WalkW a b c (stepI k i) (stepJ k j) w' ∧ w.grownBy w' (some c) := by
  have h2 := h.i_
  have h3 := h.j_
  have f2 := h.frz 2
  have f3 := h.frz 3
  have w1 : IntKind.i64.wrap ((i : Int) + 1) = (i : Int) + 1 := IntWalk.i64_in _ (by omega)
  have w2 : IntKind.i64.wrap ((j : Int) + 1) = (j : Int) + 1 := IntWalk.i64_in _ (by omega)
  by_cases e3 : k = 3
  · have t3 : (k != 3) = false := by simp [e3]
    have t2 : (k != 2) = true := by simp [e3]
    have HV := Lib.hid (show stepI k i = i ∧ stepJ k j = j + 1 by unfold stepI stepJ; rw [if_pos e3, if_neg (by omega)]; exact ⟨rfl, rfl⟩)
    have HW := Lib.hid (h.setJ (j + 1))
    clear e3
    go_enter Try.func60, Try.ntmps60
    go_wp2
    go_end0
    exact ⟨⟨_, rfl⟩, by rw [HV.out.1, HV.out.2]; exact HW.out, grown_set _ _ _ _⟩
  · have t3 : (k != 3) = true := by simpa using e3
    by_cases e2 : k = 2
    · have t2 : (k != 2) = false := by simp [e2]
      have HV := Lib.hid (show stepI k i = i + 1 ∧ stepJ k j = j by unfold stepI stepJ; rw [if_neg e3, if_pos e2]; exact ⟨rfl, rfl⟩)
      have HW := Lib.hid (h.setI (i + 1))
      clear e3 e2
      go_enter Try.func60, Try.ntmps60
      go_wp2
      go_end0
      exact ⟨⟨_, rfl⟩, by rw [HV.out.1, HV.out.2]; exact HW.out, grown_set _ _ _ _⟩
    · have t2 : (k != 2) = true := by simpa using e2
      have HV := Lib.hid (show stepI k i = i + 1 ∧ stepJ k j = j + 1 by unfold stepI stepJ; rw [if_neg e3, if_neg e2]; exact ⟨rfl, rfl⟩)
      have HW := Lib.hid ((h.setI (i + 1)).setJ (j + 1))
      clear e3 e2
      go_enter Try.func60, Try.ntmps60
      go_wp2
      go_end0
      exact ⟨⟨_, rfl⟩, by rw [HV.out.1, HV.out.2]; exact HW.out, grown_trans (grown_set _ _ _ _) (grown_set _ _ _ _)⟩
end Go.Proofs.Ythdnhopkkgdclaa.table
