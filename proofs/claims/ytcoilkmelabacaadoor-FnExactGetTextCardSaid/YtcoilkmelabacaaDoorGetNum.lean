/-
  GetNum: the law's walk: the program's answer is the model's, field by field. For every text and place that the row reads, where errors.errorType holds what the program's text lays.
-/
import Derived.Test.YtcoilkmelabacaaDoorReadNum
namespace Go.Proofs.YtcoilkmelabacaaDoor.read
open Go.ChangeShapes Go.WideShapes Go.ChangeAt Go.RowKit
open Go.Proofs.YtcoilkmelabacaaDoor.as_

theorem keepC {W w1 : World} (hb : Below W.heap.size W w1) {g : Nat} (hg : g < W.heap.size) :
    (∀ o, w1.cell? ⟨g, o, none⟩ = W.cell? ⟨g, o, none⟩) ∧ (∀ o, w1.frozen? ⟨g, o, none⟩ = W.frozen? ⟨g, o, none⟩) :=
  ⟨fun o => hb.cell (p := ⟨g, o, none⟩) hg, fun o => hb.frozen (p := ⟨g, o, none⟩) hg⟩
theorem blk_lt {w : World} {g o : Nat} {v : Value} (h : w.cell? ⟨g, o, none⟩ = some v) : g < w.heap.size := by
  rcases Nat.lt_or_ge g w.heap.size with h' | h'
  · exact h'
  · simp [World.cell?, Array.getElem?_eq_none h'] at h
theorem codeOf_any (c : Int) (w : World) (hg : w.cell? ⟨0, 0, none⟩ = some handleE) :
    Calls Tryd.prog 12 #[errV c] w fun e w' => e = .returned (.int .i64 c) ∧ Below w.heap.size w w' := by
  unfold errV
  by_cases h : c = 0
  · subst h; rw [if_pos rfl]; exact codeOf_nil w
  · rw [if_neg h]; exact codeOf_wrong c w hg
set_option maxHeartbeats 1000000 in
theorem implGet_any (s : ByteArray) (p : Int) (hs : s.size ≤ maxLen) (w : World) (hg : w.cell? ⟨0, 0, none⟩ = some handleE) :
    Calls Tryd.prog 6 #[.string s, .int .i64 p] w fun e w' => e = .returned (nout (getV s p)) ∧ Below w.heap.size w w' := by
  have hlt := blk_lt hg
  have hg1 : (w.alloc (.cells #[.int .i64 0, .int .i64 0, .int .i64 0] 23)).cell? ⟨0, 0, none⟩ = some handleE := by
    rw [World.cell?_alloc_lt _ _ ⟨0, 0, none⟩ hlt]; exact hg
  have HG := Lib.hid hg1
  obtain ⟨x, y, z, hV⟩ : ∃ x y z, getV s p = (x, y, z) := ⟨_, _, _, rfl⟩
  have HN := Lib.hid (show nout (getV s p) = .agg #[.int .i64 x, .int .i64 y, .int .i64 z] by rw [hV]; rfl)
  have H1 := Lib.hid (show (getV s p).1 = x by rw [hV])
  have H2 := Lib.hid (show (getV s p).2.1 = y by rw [hV])
  have H3 := Lib.hid (show (getV s p).2.2 = z by rw [hV])
  clear hV hg hg1
  go_enter Tryd.func6, Tryd.ntmps6
  go_wp2_with fail
  refine (readNum_any s p hs _).mono ?_
  rintro e w1 ⟨rfl, rfl⟩
  rw [H1.out, H2.out, H3.out]
  go_wp2_with fail
  refine (codeOf_any z _ HG.out).mono ?_
  rintro e w2 ⟨rfl, hb2⟩
  obtain ⟨k1, k2⟩ := keepC hb2 (g := w.heap.size) (by simp)
  have HB := Lib.hid hb2
  clear hb2
  go_wp2
  exact bodyPost_ret (v := .agg #[.int .i64 x, .int .i64 y, .int .i64 z]) (by simp [results, Tryd.results6, go_sem, k1]) rfl
    ⟨by rw [HN.out], (((((Below.refl _ w).alloc (Nat.le_refl _) _).trans (HB.out.mono (by simp))).setCell (Nat.le_refl _) _).setCell (Nat.le_refl _) _).setCell (Nat.le_refl _) _⟩
set_option maxHeartbeats 400000 in
theorem eqNum_same (x y z : Int) (w : World) :
    Calls Tryd.prog 7 #[.agg #[.int .i64 x, .int .i64 y, .int .i64 z], .agg #[.int .i64 x, .int .i64 y, .int .i64 z]] w fun e w' => e = .returned (.bool true) ∧ Below w.heap.size w w' := by
  go_enter Tryd.func7, Tryd.ntmps7
  go_wp2
  go_ret
  exact ⟨rfl, ((Below.refl _ _).alloc (Nat.le_refl _) _).alloc (by simp) _⟩
set_option maxHeartbeats 1000000 in
theorem walkGetNum (s : ByteArray) (p : Int) (hs : s.size ≤ maxLen) (hp : (Lit.int .i64 p).wf = true) (w : World) (hg : w.cell? ⟨0, 0, none⟩ = some handleE) :
    Calls Tryd.prog 3 #[.string s, .int .i64 p] w fun e w' => e = .returned (.bool true) ∧ Below w.heap.size w w' := by
  have H := Lib.hid hs
  have hpb := (i64_bd hp).2
  obtain ⟨x, y, z, hV⟩ : ∃ x y z, getV s p = (x, y, z) := ⟨_, _, _, rfl⟩
  have HN := Lib.hid (show nout (getV s p) = .agg #[.int .i64 x, .int .i64 y, .int .i64 z] by rw [hV]; rfl)
  have hlt := blk_lt hg
  have HG := Lib.hid hg
  clear hV hg
  by_cases hl : (1048576 : Int) < s.size
  · unfold maxLen at hs
    go_enter Tryd.func3, Tryd.ntmps3
    go_wp2
    go_ret
    exact ⟨rfl, Below.refl _ _⟩
  · unfold maxLen at hs
    go_enter Tryd.func3, Tryd.ntmps3
    go_wp2_with fail
    refine (specGet_any _ _ H.out hpb _).mono ?_
    rintro e w1 ⟨rfl, hb1⟩
    rw [HN.out]
    have hg1 : (w1.alloc (.cells #[.int .i64 x, .int .i64 y, .int .i64 z] 23)).cell? ⟨0, 0, none⟩ = some handleE := by
      rw [World.cell?_alloc_lt _ _ ⟨0, 0, none⟩ (by have := hb1.size; simp <;> omega), hb1.cell (p := ⟨0, 0, none⟩) hlt]; exact HG.out
    have HG1 := Lib.hid hg1
    have HB1 := Lib.hid hb1
    clear hb1 hg1
    go_wp2_with fail
    refine (implGet_any _ _ H.out _ HG1.out).mono ?_
    rintro e w2 ⟨rfl, hb2⟩
    rw [HN.out]
    obtain ⟨k1, k2⟩ := keepC hb2 (g := w1.heap.size) (by simp)
    have hs2 : w1.heap.size < w2.heap.size := by have := hb2.size; simp at this; omega
    have hs2' : w1.heap.size ≠ w2.heap.size := by omega
    have HB2 := Lib.hid hb2
    clear hb2
    go_wp2_with fail
    refine (eqNum_same _ _ _ _).mono ?_
    rintro e w3 ⟨rfl, hb3⟩
    have HB3 := Lib.hid hb3
    clear hb3
    go_wp2
    go_ret
    have hs1 := HB1.out.size
    exact ⟨rfl, ((((HB1.out.alloc hs1 _).trans (HB2.out.mono (by simp; omega))).alloc (by omega) _).trans (HB3.out.mono (by simp; omega)))⟩
end Go.Proofs.YtcoilkmelabacaaDoor.read
