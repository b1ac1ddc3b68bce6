/-
  The program's run: one goes on for as long as one does just that. For right texts.
-/
import Derived.Test.YthdnhopkkgdclaaRunMath
import Derived.Test.YthdnhopkkgdclaaShelf
namespace Go.Proofs.Ythdnhopkkgdclaa.table
open Go.ChangeShapes Go.WideShapes Go.ChangeAt Go.RowKit
open Go.Proofs.Ythdnhopkkgdclaa.put
theorem clone_any (s : ByteArray) (hs : s.size ≤ 1000000) (w : World) :
    Calls Try.prog 61 #[.string s] w fun e w' => e = .returned (.string s) ∧ Below w.heap.size w w' := by
  go_enter Try.func61, Try.ntmps61
  go_wp2_with fail
  refine (Try.stringslite_Clone s _ (by omega)).mono ?_
  rintro e w1 ⟨rfl, hb⟩
  go_wp2
  go_ret
  exact ⟨rfl, hb⟩
/-- how many bytes are ahead -/
def leftW (a b : ByteArray) (c : Nat) (w : World) : Nat :=
  (a.size - (intOf ((w.cell? ⟨c, 2, none⟩).getD undef)).toNat) + (b.size - (intOf ((w.cell? ⟨c, 3, none⟩).getD undef)).toNat)
theorem leftW_eq {a b : ByteArray} {c i j : Nat} {w : World} (h : WalkW a b c i j w) : leftW a b c w = (a.size - i) + (b.size - j) := by
  unfold leftW
  rw [h.i_, h.j_]
  simp [intOf]
theorem WalkW.setOther {a b : ByteArray} {c i j g o : Nat} {w : World} {v : Value} (h : WalkW a b c i j w) (hg : c ≠ g) : WalkW a b c i j (w.setCell ⟨g, o, none⟩ v) := by
  obtain ⟨cs, h1, h2⟩ := h
  exact ⟨cs, by rw [heap_setCell_other _ _ _ _ hg]; exact h1, h2⟩
theorem grown_new {A B : World} {r : Option Nat} {g o : Nat} {v : Value} (h : A.grownBy B r) (hg : A.heap.size ≤ g) : A.grownBy (B.setCell ⟨g, o, none⟩ v) r :=
  ⟨h.os, h.tape, h.output, by have := h.size; simpa [World.setCell] using this, fun k hk hne => (Below.heap_setCell _ _ _ _ (by show k ≠ g; omega)).trans (h.block k hk hne)⟩
theorem at_le {A B : Nat} {k : Int} {i j n : Nat} (hx : atI k i n ≤ A) (hy : atJ k j n ≤ B) (q1 : k ≠ 3 → atI k i n < A) (q2 : k ≠ 2 → atJ k j n < B) :
    atI k i (n + 1) ≤ A ∧ atJ k j (n + 1) ≤ B ∧ (A - atI k i (n + 1)) + (B - atJ k j (n + 1)) < (A - atI k i n) + (B - atJ k j n) := by
  unfold atI atJ at *
  by_cases h3 : k = 3
  · subst h3
    simp at *
    omega
  · by_cases h2 : k = 2
    · subst h2
      simp at *
      omega
    · simp [h3, h2] at *
      omega
set_option maxHeartbeats 4000000 in
theorem run_any (a b : ByteArray) (ha : a.size ≤ 60) (hb : b.size ≤ 60) (c i j : Nat) (hi : i ≤ a.size) (hj : j ≤ b.size) (k : Int) (hk : kindAt a b i j = k) (hk0 : k ≠ 0) (w : World) (h : WalkW a b c i j w) :
    Calls Try.prog 53 #[.pointer (some ⟨c, 0, none⟩), .int .i64 k] w fun e w' => ∃ n, 1 ≤ n ∧ (∀ m, m < n → kindAt a b (atI k i m) (atJ k j m) = k) ∧ kindAt a b (atI k i n) (atJ k j n) ≠ k ∧
      atI k i n ≤ a.size ∧ atJ k j n ≤ b.size ∧ e = .returned (.agg #[.int .i64 k, .string (runT a b k i j n)]) ∧ WalkW a b c (atI k i n) (atJ k j n) w' ∧ w.grownBy w' (some c) := by
  have hcl := h.lt
  obtain ⟨O, hO⟩ : ∃ O, O = Obj.cells #[.int .i64 0, .string ⟨#[]⟩] 54 := ⟨_, rfl⟩
  have H0 := Lib.hid (h.below ((Below.refl _ w).alloc (Nat.le_refl _) O))
  have h2 := H0.out.i_
  have h3 := H0.out.j_
  have HK := Lib.hid hk
  have HO := Lib.hid hO
  rw [hO] at h2 h3
  clear h hk
  go_enter Try.func53, Try.ntmps53
  go_wp2
  go_quiet (fail)
  go_wp2
  clear h2 h3
  go_loopw [19] (fun _ wr => ∃ n : Nat, (∀ m, m < n → kindAt a b (atI k i m) (atJ k j m) = k) ∧ atI k i n ≤ a.size ∧ atJ k j n ≤ b.size ∧ WalkW a b c (atI k i n) (atJ k j n) wr ∧ (w.alloc O).grownBy wr (some c))
    (fun _ wr => leftW a b c wr)
  case atStart =>
    have e0 : atI k i 0 = i ∧ atJ k j 0 = j := by unfold atI atJ; constructor <;> split <;> rfl
    rw [← hO]
    exact ⟨0, fun m hm => absurd hm (by omega), by rw [e0.1]; exact hi, by rw [e0.2]; exact hj, by rw [e0.1, e0.2]; exact H0.out.below (draws_below _ _ _), grown_below (draws_below _ _ _)⟩
  case round =>
    obtain ⟨n, hall, hx, hy, hW, hg⟩ := hrel
    rename World => wr
    have HA := Lib.hid hall
    have HW := Lib.hid hW
    have HG := Lib.hid hg
    have hz := hg.size
    have hl := leftW_eq hW
    clear hall hW hg
    by_cases hkn : kindAt a b (atI k i n) (atJ k j n) = k
    · have HN := Lib.hid hkn
      obtain ⟨_, q1, q2⟩ := kindAt_lt hkn hk0
      clear hkn
      go_wp2_with fail
      refine (next_any a b ha hb c _ _ hx hy _ HW.out).mono ?_
      rintro e w1 ⟨rfl, hb1⟩
      rw [HN.out]
      have HW1 := Lib.hid (HW.out.below hb1)
      have HG1 := Lib.hid (grown_trans HG.out (grown_below hb1))
      clear hb1
      go_wp2_with fail
      refine (step_any a b c _ _ k (by omega) (by omega) _ HW1.out).mono ?_
      rintro e w2 ⟨⟨v, rfl⟩, hw2, hg2⟩
      rw [atI_step, atJ_step] at hw2
      have HW2 := Lib.hid hw2
      have HG2 := Lib.hid (grown_trans HG1.out hg2)
      have hl2 := leftW_eq hw2
      clear hw2 hg2
      obtain ⟨hle1, hle2, hme⟩ := at_le hx hy q1 q2
      go_wp2
      go_roundw
      case rel => exact ⟨n + 1, fun m hm => by
        by_cases e : m = n
        · subst e; exact HN.out
        · exact HA.out m (by omega), hle1, hle2, HW2.out, HG2.out⟩
      case measure => rw [hl, hl2]; exact hme
    · have HN := Lib.hid hkn
      obtain ⟨q, hq⟩ : ∃ q, q = kindAt a b (atI k i n) (atJ k j n) := ⟨_, rfl⟩
      have hqk : (q == k) = false := by rw [hq]; simpa using hkn
      have HQ := Lib.hid hq
      have hn1 : 1 ≤ n := by
        rcases Nat.eq_zero_or_pos n with h | h
        · exfalso
          subst h
          have e0 : atI k i 0 = i ∧ atJ k j 0 = j := by unfold atI atJ; constructor <;> split <;> rfl
          rw [e0.1, e0.2] at hkn
          exact hkn HK.out
        · exact h
      clear hkn hq
      go_wp2_with fail
      refine (next_any a b ha hb c _ _ hx hy _ HW.out).mono ?_
      rintro e w1 ⟨rfl, hb1⟩
      rw [← HQ.out]
      have hw1 := HW.out.below hb1
      have HG1 := Lib.hid (grown_trans HG.out (grown_below hb1))
      clear hb1
      have c0 := hw1.a_
      have c1 := hw1.b_
      have c2 := hw1.i_
      have c3 := hw1.j_
      have HW1 := Lib.hid hw1
      clear hw1
      obtain ⟨x, hxx⟩ : ∃ x, x = atI k i n := ⟨_, rfl⟩
      obtain ⟨y, hyy⟩ : ∃ y, y = atJ k j n := ⟨_, rfl⟩
      rw [← hxx] at c2 hx
      rw [← hyy] at c3 hy
      have hix : i ≤ x := by rw [hxx]; unfold atI; split <;> omega
      have hjy : j ≤ y := by rw [hyy]; unfold atJ; split <;> omega
      have HXX := Lib.hid hxx
      have HYY := Lib.hid hyy
      obtain ⟨T, hT⟩ : ∃ T, T = a.extract i x := ⟨_, rfl⟩
      have hsl : ∀ W : World, (Instr.slice 9 (.string a) (some (.int .i64 (i : Int))) (some (.int .i64 (x : Int))) none).run Try.prog W = .ok (.string T) W := fun W => by
        rw [run_slice_string (P := Try.prog) W 9 a .i64 .i64 (i : Int) (x : Int) Try.underlying9 (by omega) (by omega) (by omega), hT]; rfl
      obtain ⟨U, hU⟩ : ∃ U, U = b.extract j y := ⟨_, rfl⟩
      have hsu : ∀ W : World, (Instr.slice 9 (.string b) (some (.int .i64 (j : Int))) (some (.int .i64 (y : Int))) none).run Try.prog W = .ok (.string U) W := fun W => by
        rw [run_slice_string (P := Try.prog) W 9 b .i64 .i64 (j : Int) (y : Int) Try.underlying9 (by omega) (by omega) (by omega), hU]; rfl
      have hTs : T.size ≤ 60 := by rw [hT, ByteArray.size_extract]; omega
      have hUs : U.size ≤ 60 := by rw [hU, ByteArray.size_extract]; omega
      have HT := Lib.hid hT
      have HU := Lib.hid hU
      clear hxx hyy hT hU
      by_cases h3 : k = 3
      · have e3 : (k == 3) = true := by simp [h3]
        have HV := Lib.hid (show U = runT a b k i j n by unfold runT; rw [if_pos h3, HU.out, HYY.out]; unfold atJ; rw [if_neg (by omega)])
        clear h3
        go_wp2_with fail
        go_quiet (fail)
        go_wp2_with fail
        go_quiet (fail)
        go_wp2_with fail
        refine (clone_any U (by omega) _).mono ?_
        rintro e w2 ⟨rfl, hb2⟩
        have hd : Below w1.heap.size w1 w2 := (draws_below _ _ _).trans hb2
        have hg3 := grown_trans HG1.out (grown_below (r := some c) hd)
        have hw3 := HW1.out.below hd
        obtain ⟨k1, k2⟩ : (∀ o, w2.cell? ⟨w.heap.size, o, none⟩ = (w.alloc O).cell? ⟨w.heap.size, o, none⟩) ∧ (∀ o, w2.frozen? ⟨w.heap.size, o, none⟩ = (w.alloc O).frozen? ⟨w.heap.size, o, none⟩) := by
          have hblk := hg3.block w.heap.size (by simp) (fun e => by injection e with e; omega)
          exact ⟨fun o => World.cell?_of_block (a := ⟨w.heap.size, o, none⟩) hblk, fun o => World.frozen?_of_block (a := ⟨w.heap.size, o, none⟩) hblk⟩
        rw [hO] at k1 k2
        have HW3 := Lib.hid hw3
        have HG3 := Lib.hid (grown_trans (World.grownBy_alloc w O (some c)) hg3)
        clear hg3 hw3 hb2 hd
        go_wp2
        exact bodyPost_ret (v := .agg #[.int .i64 k, .string U]) (by simp [results, Try.results53, go_sem, k1]) rfl
          ⟨n, hn1, HA.out, by rw [← HQ.out]; intro x; rw [x] at hqk; simp at hqk, by rw [← HXX.out]; exact hx, by rw [← HYY.out]; exact hy, by rw [HV.out],
            (HW3.out.setOther (Nat.ne_of_lt hcl)).setOther (Nat.ne_of_lt hcl), grown_new (grown_new HG3.out (Nat.le_refl _)) (Nat.le_refl _)⟩
      · have e3 : (k == 3) = false := by simpa using h3
        have HV := Lib.hid (show T = runT a b k i j n by unfold runT; rw [if_neg h3, HT.out, HXX.out]; unfold atI; rw [if_neg h3])
        clear h3
        go_wp2_with fail
        go_quiet (fail)
        go_wp2_with fail
        refine (clone_any T (by omega) _).mono ?_
        rintro e w2 ⟨rfl, hb2⟩
        have hd : Below w1.heap.size w1 w2 := (draws_below _ _ _).trans hb2
        have hg3 := grown_trans HG1.out (grown_below (r := some c) hd)
        have hw3 := HW1.out.below hd
        obtain ⟨k1, k2⟩ : (∀ o, w2.cell? ⟨w.heap.size, o, none⟩ = (w.alloc O).cell? ⟨w.heap.size, o, none⟩) ∧ (∀ o, w2.frozen? ⟨w.heap.size, o, none⟩ = (w.alloc O).frozen? ⟨w.heap.size, o, none⟩) := by
          have hblk := hg3.block w.heap.size (by simp) (fun e => by injection e with e; omega)
          exact ⟨fun o => World.cell?_of_block (a := ⟨w.heap.size, o, none⟩) hblk, fun o => World.frozen?_of_block (a := ⟨w.heap.size, o, none⟩) hblk⟩
        rw [hO] at k1 k2
        have HW3 := Lib.hid hw3
        have HG3 := Lib.hid (grown_trans (World.grownBy_alloc w O (some c)) hg3)
        clear hg3 hw3 hb2 hd
        go_wp2
        exact bodyPost_ret (v := .agg #[.int .i64 k, .string T]) (by simp [results, Try.results53, go_sem, k1]) rfl
          ⟨n, hn1, HA.out, by rw [← HQ.out]; intro x; rw [x] at hqk; simp at hqk, by rw [← HXX.out]; exact hx, by rw [← HYY.out]; exact hy, by rw [HV.out],
            (HW3.out.setOther (Nat.ne_of_lt hcl)).setOther (Nat.ne_of_lt hcl), grown_new (grown_new HG3.out (Nat.le_refl _)) (Nat.le_refl _)⟩
end Go.Proofs.Ythdnhopkkgdclaa.table
