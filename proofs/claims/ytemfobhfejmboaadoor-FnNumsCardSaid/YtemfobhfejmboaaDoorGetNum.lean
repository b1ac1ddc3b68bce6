/-
  GetNum: the law's walk: the program's answer is the model's, field by field. For every text and place that the row reads, where errors.errorType holds what the program's text lays.
-/
import Derived.Test.YtemfobhfejmboaaDoorReadNum
namespace Go.Proofs.YtemfobhfejmboaaDoor.read
open Go.ChangeShapes Go.WideShapes Go.ChangeAt Go.RowKit
open Go.Proofs.YtemfobhfejmboaaDoor.as_

theorem keepC {W w1 : World} (hb : Below W.heap.size W w1) {g : Nat} (hg : g < W.heap.size) :
    (∀ o, w1.cell? ⟨g, o, none⟩ = W.cell? ⟨g, o, none⟩) ∧ (∀ o, w1.frozen? ⟨g, o, none⟩ = W.frozen? ⟨g, o, none⟩) :=
  ⟨fun o => hb.cell (p := ⟨g, o, none⟩) hg, fun o => hb.frozen (p := ⟨g, o, none⟩) hg⟩
theorem blk_lt {w : World} {g o : Nat} {v : Value} (h : w.cell? ⟨g, o, none⟩ = some v) : g < w.heap.size := by
  rcases Nat.lt_or_ge g w.heap.size with h' | h'
  · exact h'
  · simp [World.cell?, Array.getElem?_eq_none h'] at h
theorem codeOf_any (c : Int) (w : World) (hg : w.cell? ⟨0, 0, none⟩ = some handleE) :
    Calls Tryd.prog 17 #[errV c] w fun e w' => e = .returned (.int .i64 c) ∧ Below w.heap.size w w' := by
  unfold errV
  by_cases h : c = 0
  · subst h; rw [if_pos rfl]; exact codeOf_nil w
  · rw [if_neg h]; exact codeOf_wrong c w hg
set_option maxHeartbeats 1000000 in
theorem implGet_any (s : ByteArray) (p : Int) (hs : s.size ≤ maxLen) (w : World) (hg : w.cell? ⟨0, 0, none⟩ = some handleE) :
    Calls Tryd.prog 7 #[.string s, .int .i64 p] w fun e w' => e = .returned (nout (getV s p)) ∧ Below w.heap.size w w' := by
  have hlt := blk_lt hg
  have hg1 : (w.alloc (.cells #[.int .i64 0, .int .i64 0, .int .i64 0] 26)).cell? ⟨0, 0, none⟩ = some handleE := by
    rw [World.cell?_alloc_lt _ _ ⟨0, 0, none⟩ hlt]; exact hg
  have HG := Lib.hid hg1
  obtain ⟨x, y, z, hV⟩ : ∃ x y z, getV s p = (x, y, z) := ⟨_, _, _, rfl⟩
  have HN := Lib.hid (show nout (getV s p) = .agg #[.int .i64 x, .int .i64 y, .int .i64 z] by rw [hV]; rfl)
  have H1 := Lib.hid (show (getV s p).1 = x by rw [hV])
  have H2 := Lib.hid (show (getV s p).2.1 = y by rw [hV])
  have H3 := Lib.hid (show (getV s p).2.2 = z by rw [hV])
  clear hV hg hg1
  go_enter Tryd.func7, Tryd.ntmps7
  go_wp2_with fail
  refine (readNum_any s p hs _).mono ?_
  rintro e w1 ⟨rfl, rfl⟩
  rw [H1.out, H2.out, H3.out]
  go_wp2_with fail
  refine (codeOf_any z _ HG.out).mono ?_
  rintro e w2 ⟨rfl, hb2⟩
  obtain ⟨k1, k2⟩ := keepC hb2 (g := w.heap.size) (by simp)
  have HB := Lib.hid hb2
  clear hb2
  go_wp2
  exact bodyPost_ret (v := .agg #[.int .i64 x, .int .i64 y, .int .i64 z]) (by simp [results, Tryd.results7, go_sem, k1]) rfl
    ⟨by rw [HN.out], (((((Below.refl _ w).alloc (Nat.le_refl _) _).trans (HB.out.mono (by simp))).setCell (Nat.le_refl _) _).setCell (Nat.le_refl _) _).setCell (Nat.le_refl _) _⟩
end Go.Proofs.YtemfobhfejmboaaDoor.read
