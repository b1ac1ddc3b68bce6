/-
  The program's DiffOf: the runs, or none where a text is not right. For every two texts.
-/
import Derived.Test.YthdnhopkkgdclaaRuns
import Derived.Test.YthdnhopkkgdclaaDiffLaw
namespace Go.Proofs.Ythdnhopkkgdclaa.put
open Go.ChangeShapes Go.WideShapes Go.ChangeAt Go.RowKit
open Go.Proofs.Ythdnhopkkgdclaa.table Go.Proofs.Ythdnhopkkgdclaa.line Go.Proofs.Ythdnhopkkgdclaa.range
attribute [local go_sem] Oper.semAt_some
theorem runs_any (a b : ByteArray) (w : World) :
    Calls Try.prog 31 #[.string a, .string b] w fun e w' => e = .returned (.func (.func 51) #[] #[.pointer (some ⟨w.heap.size, 0, none⟩), .pointer (some ⟨w.heap.size + 1, 0, none⟩)]) ∧
      w' = (w.alloc (.cells #[.string a] 9)).alloc (.cells #[.string b] 9) := by
  go_enter Try.func31, Try.ntmps31
  go_wp2
  go_ret
  exact ⟨rfl, rfl⟩
/-- none, or a list of its own -/
def SliceOr (v : Value) (R : List Run) : Prop := (v = .slice none 0 0 ↔ R = [])
/-- what the loop has collected -/
structure Got (w : World) (B c : Nat) (pre : List Run) (W : World) : Prop where
  box : ∃ v, Boxed W B 25 v ∧ W.ownsRow w.heap.size 54 2 v pre.length (dCells pre) ∧ SliceOr v pre
  own : OwnB 86 c W
  bel : Below w.heap.size w W
theorem row_ne {W : World} {base k c : Nat} {v : Value} {xs : List Value} (h : W.ownsRow base 54 2 v k xs) (hc : OwnB 86 c W) : v.ownBlock = none ∨ v.ownBlock ≠ some c := by
  rcases h.2 with ⟨rfl, _⟩ | ⟨g, cap, cur, rfl, _, hgb, _⟩
  · exact .inl rfl
  · refine .inr fun e => ?_
    obtain rfl : g = c := by simpa [Value.ownBlock] using e
    obtain ⟨cs, h⟩ := hc
    rw [hgb] at h
    injection h with h
    injection h with _ h _
    exact absurd h (by decide)
theorem Got.turn {w : World} {B c : Nat} {pre : List Run} {X Y : World} (h : Got w B c pre X) (hB : B ≠ c) (hc : w.heap.size ≤ c) (hg : X.grownBy Y (some c)) (ho : OwnB 86 c Y) : Got w B c pre Y := by
  obtain ⟨v, hv, hr, hs⟩ := h.box
  exact ⟨⟨v, hv.kept hg (fun e => hB (by injection e)), hr.kept hg (row_ne hr h.own), hs⟩, ho, h.bel.grown hg h.bel.size (fun k e => by injection e with e; omega)⟩
theorem Got.put {w : World} {B c : Nat} {pre : List Run} {X : World} (h : Got w B c pre X) {l : Nat} {o : Obj} (o' : Obj) (hl : w.heap.size ≤ l) (hx : X.heap[l]? = some o) (hc : o.isCells = false) : Got w B c pre (X.putObj l o') := by
  obtain ⟨v, hv, hr, hs⟩ := h.box
  refine ⟨⟨v, hv.kept (grownBy_putObj' X l o') (fun e => ?_), ownsRow_putObj hr o' hx hc, hs⟩, ?_, h.bel.grown (grownBy_putObj' X l o') h.bel.size (fun k e => by injection e with e; omega)⟩
  · injection e with e
    subst e
    rw [show X.heap[B]? = some (.cells #[v] 25 (0, 0)) from hv] at hx
    injection hx with hx
    rw [← hx] at hc
    cases hc
  · obtain ⟨cs, ho⟩ := h.own
    refine ⟨cs, (World.putObj_heap_other (fun e => ?_)).trans ho⟩
    subst e
    rw [ho] at hx
    injection hx with hx
    rw [← hx] at hc
    cases hc
theorem Got.grow {w : World} {B c : Nat} {pre : List Run} {X : World} (h : Got w B c pre X) (o : Obj) : Got w B c pre (X.alloc o) := by
  obtain ⟨v, hv, hr, hs⟩ := h.box
  obtain ⟨cs, ho⟩ := h.own
  exact ⟨⟨v, hv.alloc o, hr.alloc o, hs⟩, ⟨cs, (Below.heap_alloc _ _ _ (Array.getElem?_eq_some_iff.1 ho).1).trans ho⟩, h.bel.alloc h.bel.size o⟩
set_option maxHeartbeats 4000000 in
set_option maxRecDepth 100000 in
theorem implDiffOf_in (a b : ByteArray) (ta : textB a = true) (tb : textB b = true) (w : World) :
    Calls Try.prog 8 #[.string a, .string b] w fun e w' =>
      ∃ v, e = .returned v ∧ SliceOr v (diffL a b) ∧ w'.ownsRow w.heap.size 54 2 v (diffL a b).length (dCells (diffL a b)) ∧ Below w.heap.size w w' := by
  have h6 := (textB_ok ta).1
  have h7 := (textB_ok tb).1
  obtain ⟨i0, hi, hz0, hz1, hz2⟩ := info_parts infoD
  refine (callsIn_wide (n := 5)).1 ?_
  refine callsIn_of_wp_marks Try.func8 rfl trivial ?_ rfl
  simp only [Try.ntmps8, List.size_toArray, List.length_cons, List.length_nil, Nat.reduceAdd, Nat.reduceSub, Array.replicate_succ, Array.replicate_zero, List.push_toArray, List.append_toArray, List.nil_append, List.cons_append]
  refine wpIn_wide.2 ?_
  go_wp2_with fail
  refine (implRight_any a (by unfold maxLen; omega) _).mono ?_
  rintro e w1 ⟨rfl, hb1⟩
  rw [ta]
  have HB1 := Lib.hid hb1
  clear hb1
  go_wp2_with fail
  refine (implRight_any b (by unfold maxLen; omega) _).mono ?_
  rintro e w2 ⟨rfl, hb2⟩
  rw [tb]
  have HB2 := Lib.hid (bthen HB1.out hb2 HB1.out.size)
  clear hb2
  go_wp2_with fail
  refine (runs_any a b _).mono ?_
  rintro e w3 ⟨rfl, hw3⟩
  go_wp2_with fail
  rw [← hw3]
  have hB3 : Below w.heap.size w w3 := by
    rw [hw3]
    exact ((HB2.out.alloc HB2.out.size _).alloc (by have := HB2.out.size; simp; omega) _).alloc (by have := HB2.out.size; simp; omega) _
  have cA : w3.cell? ⟨w2.heap.size + 1, 0, none⟩ = some (.string a) := by rw [hw3]; simp [go_sem]
  have cB : w3.cell? ⟨w2.heap.size + 1 + 1, 0, none⟩ = some (.string b) := by rw [hw3]; simp [go_sem]
  have bL : Boxed w3 w2.heap.size 25 (.slice none 0 0) := by rw [hw3]; exact ((Boxed.new w2 _ _).alloc _).alloc _
  have hz : w3.heap.size = w2.heap.size + 3 := by rw [hw3]; simp
  obtain ⟨B, hB⟩ : ∃ B, B = w2.heap.size := ⟨_, rfl⟩
  have hwB : w.heap.size ≤ B := by rw [hB]; exact HB2.out.size
  rw [← hB] at cA cB bL hz ⊢
  clear hw3 hB HB1 HB2 w1 w2
  refine (wpIn_wide (n := 5)).1 ?_
  refine rangeFunc_state (by omega) (gf := 51) (lb := #[.pointer (some ⟨B + 1, 0, none⟩), .pointer (some ⟨B + 1 + 1, 0, none⟩)]) rfl (enters_of Try.func51 (by kernel_rfl) rfl) (encs := encR) (fun _ => rfl) (T := 86) (Below.refl _ _)
    (runs_comes a b h6 h7 _ (by omega) _ _ w3 cA cB) (fun c pre W => Got w B c pre W)
    (fun c s a1 W => ∃ (pre : List Run) (d : Run) (Bx : Nat), s = pre ++ [d] ∧ pre.length < 121 ∧ Got w B c pre W ∧ W.cell? ⟨Bx, 0, none⟩ = some (.int .i64 d.1) ∧ W.cell? ⟨Bx, 1, none⟩ = some (.string d.2) ∧ Bx < W.heap.size ∧
      a1 = { tmps := #[.string a, .string b, undef, undef, .slice none 0 0, .pointer (some ⟨B, 0, none⟩), .pointer (some ⟨Bx, 0, none⟩), .string a, .bool true, .bool false, .bool false, .string b, .bool true, .bool false, .bool false,
        .string a, .string b, .func (.func 51) #[] #[.pointer (some ⟨B + 1, 0, none⟩), .pointer (some ⟨B + 1 + 1, 0, none⟩)], .agg #[.int .i64 d.1, .string d.2], undef, undef, undef, undef, undef], defers := [] })
    ?turn ?put ?mput ?start ?assign ?body ?done
  case turn =>
    intro c s X Y hc hI hg ho
    exact hI.turn (by omega) (by omega) hg ho
  case put =>
    intro c s X l o o' hl hx hc hI
    exact hI.put o' (by omega) hx hc
  case mput =>
    rintro c s a1 X l o o' hl hx hc ⟨pre, d, Bx, rfl, hp, hI, q1, q2, hlt, rfl⟩
    have hne : Bx ≠ l := by
      intro e
      subst e
      simp [World.cell?, hx] at q1
      cases o <;> simp_all [Obj.isCells]
    have hbk : (X.putObj l o').heap[Bx]? = X.heap[Bx]? := World.putObj_heap_other hne
    exact ⟨pre, d, Bx, rfl, hp, hI.put o' (by omega) hx hc, (World.cell?_of_block (a := ⟨Bx, 0, none⟩) hbk).trans q1, (World.cell?_of_block (a := ⟨Bx, 1, none⟩) hbk).trans q2, by simpa [World.putObj] using hlt, rfl⟩
  case start =>
    intro c Y hc ho hb
    refine ⟨⟨.slice none 0 0, (hb.block B (by omega)).trans bL, World.ownsRow_nil _ _ _ _, by simp [SliceOr]⟩, ho, bthen hB3 hb hB3.size⟩
  case assign =>
    intro l c pre x W K hc ho hI hlen hK
    obtain ⟨k, T⟩ := x
    dsimp only [encR]
    gi_wp2
    have hcl : c < W.heap.size := by obtain ⟨cs, h⟩ := ho; exact (Array.getElem?_eq_some_iff.1 h).1
    exact hK _ _ (KeepsOthers.alloc W _) (Below.heap_alloc _ _ _ hcl) ⟨pre, (k, T), W.heap.size, rfl, hlen, hI.grow _, by simp [go_sem], by simp [go_sem], by simp, rfl⟩
  case body =>
    rintro l c s a1 W hc ho ⟨pre, d, Bx, rfl, hp, hI, q1, q2, hlt, rfl⟩
    obtain ⟨k, T⟩ := d
    obtain ⟨v, hv, hrow, hnil⟩ := hI.box
    have hcv := hv.cell
    have hfv := hv.frozen
    dsimp only at q1 q2
    gi_wp2_with (gi_at_builtin; refine wpListIn_append_own _ rfl _ _ 25 rfl w.heap.size 54 i0 (.agg #[.int .i64 0, .string ⟨#[]⟩]) 2 24 Try.underlying25 hi hz0 hz1 hz2 rfl (by decide) _ _ _ rfl (hrow.alloc _) ⟨W.heap.size, 0, none⟩ 1 1 [.int .i64 k, .string T] rfl rfl ?c1 ?c2 ?c3 ?c4 ?c5 ?_)
    case c1 =>
      intro j u hj
      match j, hj with
      | 0, hj => simp at hj; subst hj; simp [Addr.add]
      | 1, hj => simp at hj; subst hj; simp [Addr.add]
    case c2 => intro u hu; simp at hu; rcases hu with rfl | rfl <;> rfl
    case c3 => unfold maxLen; omega
    case c4 => omega
    case c5 => have := hI.bel.size; simp; omega
    intro v' w1 hown' hgrow _
    obtain ⟨g', cap', rfl⟩ := ownsRow_succ hown'
    obtain ⟨hv1, hv2, hr2, hk2, hb2⟩ := hv.appended (by decide) hrow hI.bel.size hwB hown' hgrow
    have hc1 := hv1.cell
    have hf1 := hv1.frozen
    have hcl : c < W.heap.size := by obtain ⟨cs, h⟩ := ho; exact (Array.getElem?_eq_some_iff.1 h).1
    have hcB : c ≠ B := by omega
    have hcc : (w1.setCell ⟨B, 0, none⟩ (.slice (some ⟨g', 0, none⟩) (pre.length + 1) cap')).heap[c]? = W.heap[c]? := by
      rw [heap_setCell_other _ _ _ _ hcB, hgrow.block c (by simp; omega) (fun e => (row_ne hrow ho).elim (fun h => by rw [h] at e; cases e) (fun h => h e.symm)), Below.heap_alloc _ _ _ hcl]
    gi_wp2
    refine ⟨hk2, hcc, ⟨_, hv2, ?_, by simp [SliceOr]⟩, by obtain ⟨cs, h⟩ := ho; exact ⟨cs, hcc.trans h⟩, hI.bel.trans hb2⟩
    rw [dCells_append, dCells_one, List.length_append]
    exact hr2
  case done =>
    rintro D c s W hD hc rfl hI hK
    obtain ⟨v, hv, hrow, hnil⟩ := hI.box
    have hcv := hv.cell
    go_wp2
    refine ⟨by simp, .inl ⟨_, _, rfl, run_takeDeferred hK, ?_⟩⟩
    exact ⟨_, results_tmp rfl _ _ _, v, rfl, hnil, ownsRow_putObj hrow _ hK rfl, hI.bel.grown (grownBy_putObj' W D _) hI.bel.size (fun k e => by injection e with e; omega)⟩
end Go.Proofs.Ythdnhopkkgdclaa.put
