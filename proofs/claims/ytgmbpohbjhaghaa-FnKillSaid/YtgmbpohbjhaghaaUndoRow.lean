/-
  Lists of lines of one's own, and at any place; a line put behind; one's own copies. For every list of at most a million lines.
-/
import Derived.Test.YtgmbpohbjhaghaaUndos
import Derived.Test.YtgmbpohbjhaghaaKillOwn
import Derived.ArgAppend
import Derived.Deep.RegionLawGrows
namespace Go.Proofs.Ytgmbpohbjhaghaa.undo
open Go.ChangeShapes Go.WideShapes Go.ChangeAt Go.RowKit
open Go.Proofs.Ytgmbpohbjhaghaa.strs Go.Proofs.Ytgmbpohbjhaghaa.lines Go.Proofs.Ytgmbpohbjhaghaa.line
open Go.Proofs.Ytgmbpohbjhaghaa.kill (own_later own_lo cloneS_any)
def lCells (l : List (ByteArray × Int)) : List Value := l.flatMap fun y => [.string y.1, .int .i64 y.2]
theorem lCells_append (a b : List (ByteArray × Int)) : lCells (a ++ b) = lCells a ++ lCells b := by simp [lCells]
theorem lCells_one (s : ByteArray) (z : Int) : lCells [(s, z)] = [.string s, .int .i64 z] := by simp [lCells]
theorem lCells_len (l : List (ByteArray × Int)) : (lCells l).length = l.length * 2 := by
  induction l with
  | nil => rfl
  | cons d r ih => simp [lCells] at ih ⊢; omega
theorem lCells_at (l : List (ByteArray × Int)) : ∀ i (h : i < l.length), (lCells l)[i * 2]? = some (.string l[i].1) ∧ (lCells l)[i * 2 + 1]? = some (.int .i64 l[i].2) := by
  induction l with
  | nil => intro i h; simp at h
  | cons d r ih =>
    intro i h
    have hc : lCells (d :: r) = .string d.1 :: .int .i64 d.2 :: lCells r := rfl
    cases i with
    | zero => exact ⟨rfl, rfl⟩
    | succ i =>
      rw [hc, show (i + 1) * 2 = i * 2 + 1 + 1 by omega]
      simp only [List.getElem?_cons_succ, List.getElem_cons_succ]
      exact ih i (by simpa using h)
theorem lCells_one_cell (l : List (ByteArray × Int)) : ∀ u ∈ lCells l, u.oneCell' = true := fun u hu => by
  obtain ⟨y, _, hy⟩ := List.mem_flatMap.1 hu
  simp at hy
  rcases hy with rfl | rfl <;> rfl
/-- the cells of a list that lies at an address -/
theorem row_cells {w : World} {a : Option Addr} {l : List (ByteArray × Int)} (h : LRow w a l) : ∀ b, a = some b → ∀ j u, (lCells l)[j]? = some u → w.cell? (b.add j) = some u := fun b e j u hj => by
  have hjl : j < l.length * 2 := by
    rcases Nat.lt_or_ge j (l.length * 2) with h1 | h1
    · exact h1
    · rw [List.getElem?_eq_none (by rw [lCells_len]; omega)] at hj; cases hj
  have hi : j / 2 < l.length := by omega
  obtain ⟨g, o, e2, h1, h2⟩ := h.at hi
  rw [e] at e2
  injection e2 with e2
  subst e2
  rw [add_plain rfl]
  obtain ⟨k1, k2⟩ := lCells_at l (j / 2) hi
  by_cases hm : j % 2 = 0
  · rw [show j = j / 2 * 2 by omega] at hj ⊢
    rw [k1] at hj
    injection hj with hj
    rw [← hj, h1]
  · rw [show j = j / 2 * 2 + 1 by omega] at hj ⊢
    rw [k2] at hj
    injection hj with hj
    rw [← hj, ← h2, Nat.add_assoc]
/-- what a row of one's own says -/
theorem own_lines {base : Nat} {w : World} {v : Value} {l : List (ByteArray × Int)} (h : w.ownsRow base 33 2 v l.length (lCells l)) : ∃ a c, v = .slice a l.length c ∧ l.length ≤ c ∧ (a = none → c = 0 ∧ l = []) ∧ LRow w a l ∧ LBlk base w a l.length := by
  have h0 := h
  obtain ⟨h1, ⟨rfl, hn⟩ | ⟨g, cap, cur, rfl, h2, h3, h4, h5, h6, h7⟩⟩ := h
  · have hl : l = [] := List.eq_nil_of_length_eq_zero hn
    subst hl
    exact ⟨none, 0, rfl, Nat.le_refl _, fun _ => ⟨rfl, rfl⟩, LRow.nil _ _, fun e => absurd rfl e⟩
  · refine ⟨_, _, rfl, h4, (fun e => by cases e), ⟨fun _ => ⟨g, 0, rfl, fun i hi => ?_⟩⟩, fun _ => ⟨g, 0, rfl, h2, cur, h3, by omega⟩⟩
    obtain ⟨k1, k2⟩ := lCells_at l i hi
    rw [h0.cellAt (0 + i * 2) (by omega), h0.cellAt (0 + i * 2 + 1) (by omega), Nat.zero_add, k1, k2]
    exact ⟨rfl, rfl⟩
theorem ownLine_any (s : ByteArray) (z : Int) (hs : s.size ≤ 1000000000) (w : World) :
    Calls Try.prog 74 #[lV s z] w fun e w' => e = .returned (lV s z) ∧ Below w.heap.size w w' := by
  have HC := Lib.hid (fun W => cloneS_any s hs W)
  have hal := ((Below.refl _ w).alloc (Nat.le_refl _) (.cells #[.string s, .int .i64 z] 33)).alloc (by simp) (.cells #[.string ⟨#[]⟩, .int .i64 0] 33)
  have HD := Lib.hid hal.drew
  unfold lV
  clear hal
  go_enter Try.func74, Try.ntmps74
  go_wp2_with fail
  go_region_with (first | (go_at_call 79; refine (HC.out _).mono ?_; rintro e w1 ⟨rfl, hb⟩; obtain ⟨p0, _⟩ := keepC hb (g := w.heap.size) (by simp; omega); obtain ⟨p1, q1⟩ := keepC hb (g := w.heap.size + 1) (by simp)))
  all_goals
    have HX := Lib.hid (bthen HD.out hb (by simp; omega))
    clear hb
    go_wp2
    refine bodyPost_ret (v := .agg #[.string s, .int .i64 z]) (by simp [results, Try.results74, go_sem, p1]) rfl ⟨rfl, (HX.out.setCell (p := ⟨w.heap.size + 1, 0, none⟩) (by show w.heap.size ≤ w.heap.size + 1; omega) _).setCell (p := ⟨w.heap.size + 1, 1, none⟩) (by show w.heap.size ≤ w.heap.size + 1; omega) _⟩
theorem lines_step (l : List (ByteArray × Int)) (k : Nat) (hk : k < l.length) : lCells (l.take (k + 1)) = lCells (l.take k) ++ [.string l[k].1, .int .i64 l[k].2] := by
  rw [List.take_add_one, lCells_append, List.getElem?_eq_getElem hk]; rfl
set_option maxRecDepth 20000 in
theorem ownLines_any (a : Option Addr) (C : Nat) (l : List (ByteArray × Int)) (hn : l.length ≤ 1048576) (hl : ∀ s ∈ l, s.1.size ≤ 1048576) (w : World) (h : LRow w a l) :
    Calls Try.prog 73 #[.slice a l.length C, .func (.func 74) #[] #[]] w fun e w' => ∃ v', e = .returned v' ∧ w'.ownsRow w.heap.size 33 2 v' l.length (lCells l) ∧ Below w.heap.size w w' := by
  obtain ⟨i0, hi, hz0, hz1, hz2⟩ := info_parts infoL
  obtain ⟨n, hn'⟩ : ∃ n, n = l.length := ⟨_, rfl⟩
  have HA := Lib.hid h
  have HN := Lib.hid hn'
  have HL := Lib.hid hl
  rw [← hn'] at hn ⊢
  clear h hl hn'
  go_enter Try.func73, Try.ntmps73
  go_wp2
  go_loopw [5, 10] (fun lv iv wr => ∃ k : Nat, k ≤ n ∧ iv = .int .i64 k ∧ wr.ownsRow w.heap.size 33 2 lv k (lCells (l.take k)) ∧ Below w.heap.size w wr) (fun _ iv _ => n - (intOf iv).toNat)
  case atStart => exact ⟨0, Nat.zero_le _, rfl, World.ownsRow_nil _ _ _ _, Below.refl _ _⟩
  case round =>
    obtain ⟨k, hk, rfl, hown, hb⟩ := hrel
    rename_i lv
    rename World => wr
    have HO := Lib.hid hown
    have HB := Lib.hid hb
    have hz := hb.size
    have HA2 := Lib.hid (HA.out.below hb)
    clear hown hb
    by_cases hlt : k < n
    · have hkl : k < l.length := by rw [← HN.out]; exact hlt
      obtain ⟨g, o, rfl, c0, c1⟩ := HA2.out.at hkl
      have HS := Lib.hid (HL.out l[k] (List.getElem_mem hkl))
      have HST := Lib.hid (lines_step l k hkl)
      obtain ⟨⟨s, z⟩, hse⟩ : ∃ s, s = l[k] := ⟨_, rfl⟩
      rw [← hse] at c0 c1 HS HST
      dsimp only at c0 c1 HS HST
      have HOL := Lib.hid (fun W => ownLine_any s z (by have := HS.out; omega) W)
      unfold lV at HOL
      have HB2 := Lib.hid (HB.out.alloc hz (.cells #[.string s, .int .i64 z] 33))
      have HO2 := Lib.hid (HO.out.alloc (.cells #[.string s, .int .i64 z] 33))
      clear hse hkl
      go_wp2_with fail
      refine (HOL.out _).mono ?_
      rintro e w3 ⟨rfl, hb3⟩
      have HO3 := Lib.hid (own_later HO2.out hb3)
      have HB3 := Lib.hid (bthen HB2.out hb3 HB2.out.size)
      have z3 : w.heap.size ≤ w3.heap.size := HB3.out.size
      clear hb3
      go_wp2_with (first | (at_builtin; refine wpList_append_own _ rfl _ _ 31 rfl w.heap.size 33 i0 (lV ⟨#[]⟩ 0) 2 24 Try.underlying31 hi hz0 hz1 hz2 rfl (by decide) _ _ _ rfl (HO3.out.alloc _) ⟨w3.heap.size, 0, none⟩ 1 1 [.string s, .int .i64 z] rfl rfl ?c1 ?c2 ?c3 ?c4 ?c5 ?_))
      case c1 =>
        intro j u hj
        match j, hj with
        | 0, hj => simp at hj; subst hj; simp [Addr.add]
        | 1, hj => simp at hj; subst hj; simp [Addr.add]
      case c2 => intro u hu; simp at hu; rcases hu with rfl | rfl <;> rfl
      case c3 => unfold maxLen; omega
      case c4 => omega
      case c5 => simp; omega
      intro v' w4 hown' hgrow hnil
      have HO4 := Lib.hid (show w4.ownsRow w.heap.size 33 2 v' (k + 1) (lCells (l.take (k + 1))) by rw [HST.out]; exact hown')
      have HB4 := Lib.hid ((HB3.out.alloc z3 (.cells #[.string s, .int .i64 z] 33)).grown hgrow (by simp; omega) (fun j hj => (HO3.out.lt j hj).1))
      clear hown' hgrow hnil
      go_wp2
      go_roundw
      case rel => exact ⟨k + 1, by omega, by go_num, HO4.out, HB4.out⟩
      case measure => simp [intOf]; omega
    · obtain rfl : k = n := by omega
      go_wp2
      go_ret
      exact ⟨_, rfl, by have := HO.out; rw [HN.out, List.take_length] at this; rw [HN.out]; exact this, HB.out⟩
theorem rowL_drop {w : World} {g o : Nat} {l : List (ByteArray × Int)} (h : LRow w (some ⟨g, o, none⟩) l) (k : Nat) : LRow w (some ⟨g, o + k * 2, none⟩) (l.drop k) := ⟨fun hl => by
  obtain ⟨g', o', e, h1⟩ := h.it (fun e => hl (by rw [e]; simp))
  injection e with e
  injection e with e1 e2
  subst e1 e2
  refine ⟨g, o + k * 2, rfl, fun i hi => ?_⟩
  rw [List.length_drop] at hi
  rw [List.getElem_drop, show o + k * 2 + i * 2 = o + (k + i) * 2 by omega]
  exact h1 (k + i) (by omega)⟩
theorem elemR : Try.prog.elem 31 = 33 := by kernel_rfl
theorem sizeR (W : World) : (sizeOf (Try.prog.elem 31)).run Try.prog W = .ok 2 W := by rw [elemR]; exact Try.sizeOf33 W
/-- a list cut with three indexes, nothing behind it -/
theorem slice_tailL (w : World) (a : Option Addr) (C : Nat) (l : List (ByteArray × Int)) (k : Nat) (hk : k ≤ l.length) (hC : l.length ≤ C) (hz : a = none → l = []) (h : LRow w a l) :
    ∃ ao, (∀ W, (Instr.slice 31 (.slice a l.length C) (some (.int .i64 (k : Int))) (some (.int .i64 (l.length : Int))) (some (.int .i64 (l.length : Int)))).run Try.prog W = .ok (.slice ao (l.length - k) (l.length - k)) W) ∧
      (ao = none → l = []) ∧ LRow w ao (l.drop k) := by
  have hrun : ∀ W, (Instr.slice 31 (.slice a l.length C) (some (.int .i64 (k : Int))) (some (.int .i64 (l.length : Int))) (some (.int .i64 (l.length : Int)))).run Try.prog W = .ok (sliced a k l.length l.length 2) W := fun W => by
    rw [run_slice_lhm W 31 a l.length C (by rw [elemR]; exact Try.underlying31) .i64 .i64 .i64 k l.length l.length (by omega) (by omega) (by omega) (by omega), sizeR]
    simp [Result.andThen]
  by_cases hl : l = []
  · subst hl
    refine ⟨a, fun W => ?_, fun _ => rfl, by rw [List.drop_nil]; exact LRow.nil _ _⟩
    rw [hrun]
    simp [sliced] at hk ⊢
    intro h1; omega
  · by_cases hkn : l.length = k
    · refine ⟨a, fun W => ?_, hz, ?_⟩
      · rw [hrun]; simp [sliced, hkn]
      · rw [List.drop_of_length_le (by omega)]; exact LRow.nil _ _
    · obtain ⟨g, o, rfl, _⟩ := h.it hl
      refine ⟨some ⟨g, o + k * 2, none⟩, fun W => ?_, (fun e => by cases e), rowL_drop h k⟩
      rw [hrun]
      simp [sliced, hkn, Addr.add]
end Go.Proofs.Ytgmbpohbjhaghaa.undo
