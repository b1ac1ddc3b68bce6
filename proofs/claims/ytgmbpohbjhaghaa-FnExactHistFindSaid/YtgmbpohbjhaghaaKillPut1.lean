/-
  The model's putting in (l05Put). For every Kills of at most a million texts. Written by wip/tool/gen_killput.py.
-/
import Derived.Test.YtgmbpohbjhaghaaKillRow
namespace Go.Proofs.Ytgmbpohbjhaghaa.kill
open Go.ChangeShapes Go.WideShapes Go.ChangeAt Go.RowKit
open Go.Proofs.Ytgmbpohbjhaghaa.strs Go.Proofs.Ytgmbpohbjhaghaa.line
/-- what a text and the last one make together, if they are to be put together -/
def joinV (l : List ByteArray) (x : ByteArray) (more : Int) : ByteArray := if l.length = 0 then ⟨#[]⟩ else if 0 < more then (l[l.length - 1]?.getD ⟨#[]⟩) ++ x else if more < 0 then x ++ (l[l.length - 1]?.getD ⟨#[]⟩) else ⟨#[]⟩
noncomputable def midV (l : List ByteArray) (x : ByteArray) (more : Int) : List ByteArray := if goodB (joinV l x more) then l.set (l.length - 1) (joinV l x more) else l ++ [x]
def trimV (l : List ByteArray) : List ByteArray := if 5 < l.length then l.drop 1 else l
noncomputable def putV (l : List ByteArray) (t : Int) (x : ByteArray) (more : Int) : List ByteArray × Int := if x.size = 0 then (l, t) else (trimV (midV l x more), (trimV (midV l x more)).length - 1)
set_option maxRecDepth 20000 in
set_option maxHeartbeats 6400000 in
theorem put_any (a : Option Addr) (C : Nat) (l : List ByteArray) (t : Int) (x : ByteArray) (more : Int) (hz : a = none → C = 0 ∧ l = []) (hn : l.length ≤ 1048576) (hl : ∀ s ∈ l, s.size ≤ 1073741824) (hx : x.size ≤ 1073741824) (w : World) (h : SRow w a l) :
    Calls Try.prog 77 #[kV a l.length C t, .string x, .int .i64 more] w fun e w' => ∃ a' c', e = .returned (kV a' (putV l t x more).1.length c' (putV l t x more).2) ∧ KR w.heap.size w' a' c' (putV l t x more).1 ∧ Below w.heap.size w w' := by
  obtain ⟨i0, hi, hz0, hz1, hz2⟩ := info_parts infoS
  have hal := ((Below.refl _ w).alloc (Nat.le_refl _) (.cells #[.slice a l.length C, .int .i64 t] 25)).alloc (by simp) (.cells #[.slice none 0 0, .int .i64 0] 25)
  have HC := Lib.hid (copy_any a C l t hz (by omega) _ (h.below hal))
  have HPV := Lib.hid (rfl : putV l t x more = putV l t x more)
  obtain ⟨PV, hPV⟩ : ∃ PV, PV = putV l t x more := ⟨_, rfl⟩
  rw [← hPV]
  have HV := Lib.hid hPV
  unfold kV at HC ⊢
  obtain ⟨n, hn'⟩ : ∃ n, n = l.length := ⟨_, rfl⟩
  have HN := Lib.hid hn'
  rw [← hn'] at HC hal hn ⊢
  have HB := Lib.hid hal
  have HL := Lib.hid hl
  clear h hal hn' hz hPV HPV hl
  by_cases hx0 : x.size = 0
  · have hv : PV = (l, t) := by rw [HV.out]; unfold putV; rw [if_pos hx0]
    subst hv
    have hem := empty_t (s := x) (by omega)
    show Calls _ _ _ _ fun e w' => ∃ a' c', e = .returned (.agg #[.slice a' l.length c', .int .i64 t]) ∧ KR w.heap.size w' a' c' l ∧ Below w.heap.size w w'
    rw [← HN.out]
    go_enter Try.func77, Try.ntmps77
    go_wp2_with fail
    refine (HC.out).mono ?_
    rintro e w1 ⟨a', c', rfl, ho, hb1⟩
    have z1 : w.heap.size + 1 < w1.heap.size := by have := hb1.size; simp at this; omega
    obtain ⟨p1, q1⟩ := keepC hb1 (g := w.heap.size + 1) (by simp)
    have HO := Lib.hid (show w1.ownsRow (w.heap.size + 1 + 1) 9 1 (.slice a' n c') n (l.map Value.string) from own_lo ho (by simp))
    have HX := Lib.hid (bthen HB.out hb1 (by simp; omega))
    clear hb1 ho
    go_wp2
    have hnl := HN.out
    exact bodyPost_ret (v := .agg #[.slice a' n c', .int .i64 t]) (by simp [results, Try.results77, go_sem, z1, p1]) rfl ⟨a', c', rfl, (own_kr (by rw [← hnl]; exact (own_set (own_set HO.out (by omega)) (by omega)).alloc _)).lo (by omega), ((HX.out.setCell (p := ⟨w.heap.size + 1, 0, none⟩) (show w.heap.size ≤ w.heap.size + 1 by omega) _).setCell (p := ⟨w.heap.size + 1, 1, none⟩) (show w.heap.size ≤ w.heap.size + 1 by omega) _).alloc (by simp; omega) _⟩
  have hxe := empty_f (s := x) (by omega)
  have hgz : goodB ⟨#[]⟩ = false := by unfold goodB; rw [decide_eq_false (show ¬ (⟨#[]⟩ : ByteArray).size ≠ 0 from fun h => h rfl), Bool.and_false]
  by_cases hn0 : n = 0
  · have hj : joinV l x more = ⟨#[]⟩ := by unfold joinV; rw [if_pos (by rw [← HN.out]; exact hn0)]
    have HQ := Lib.hid (show PV = (trimV (l ++ [x]), ((trimV (l ++ [x])).length : Int) - 1) by rw [HV.out]; unfold putV midV; rw [if_neg hx0, if_neg (by rw [hj, hgz]; decide)])
    have h5 : ¬ 5 < n + 1 := by omega
    have hnp : ¬ 0 < n := by omega
    clear hj hn0
    · skip
      go_enter Try.func77, Try.ntmps77
      go_wp2_with fail
      refine (HC.out).mono ?_
      rintro e w1 ⟨a', c', rfl, ho, hb1⟩
      have z1 : w.heap.size + 1 < w1.heap.size := by have := hb1.size; simp at this; omega
      obtain ⟨p1, q1⟩ := keepC hb1 (g := w.heap.size + 1) (by simp)
      have HO := Lib.hid (show w1.ownsRow (w.heap.size + 1 + 1) 9 1 (.slice a' n c') n (l.map Value.string) from own_lo ho (by simp))
      have HX := Lib.hid (bthen HB.out hb1 (by simp; omega))
      clear hb1 ho
      have hown1 := (HO.out.alloc (.cells #[.slice a' n c', .int .i64 t] 25)).alloc (.cells #[.string x] 9)
      have HLT := Lib.hid (HO.out.lt)
      go_wp2_with (first | (at_builtin; refine wpList_append_own _ rfl _ _ 23 rfl (w.heap.size + 1 + 1) 9 i0 (.string ⟨#[]⟩) 1 16 Try.underlying23 hi hz0 hz1 hz2 rfl (by decide) _ _ _ rfl hown1 ⟨w1.heap.size + 1, 0, none⟩ 1 1 [.string x] rfl rfl ?c1 ?c2 ?c3 ?c4 ?c5 ?_))
      case c1 =>
        intro j u hj
        match j, hj with
        | 0, hj => simp at hj; subst hj; simp [Addr.add]
      case c2 => intro u hu; simp at hu; rcases hu with rfl | rfl <;> rfl
      case c3 => unfold maxLen; omega
      case c4 => omega
      case c5 => simp; omega
      intro v' w3 hown' hgrow hnil
      have HN1 := Lib.hid (show n + 1 = (l ++ [x]).length by rw [List.length_append, ← HN.out]; rfl)
      have ho3 : w3.ownsRow (w.heap.size + 1 + 1) 9 1 v' (n + 1) ((l ++ [x]).map Value.string) := by rw [List.map_append]; exact hown'
      obtain ⟨g2, c2, M2, rfl, i2, i3, i4, i5, i6, i7⟩ := own_formN HN1.out ho3 (by omega)
      have hob : ∀ b, (Value.slice a' n c').ownBlock = some b → w.heap.size + 1 + 1 ≤ b ∧ b < w1.heap.size := HLT.out
      have hne1 : some w1.heap.size ≠ (Value.slice a' n c').ownBlock := fun e => by have := (hob _ e.symm).2; omega
      have hne2 : some (w.heap.size + 1) ≠ (Value.slice a' n c').ownBlock := fun e => by have := (hob _ e.symm).1; omega
      have d0 : w3.cell? ⟨w1.heap.size, 0, none⟩ = some (.slice a' n c') := by rw [hgrow.cell_far ⟨w1.heap.size, 0, none⟩ (by simp; omega) hne1]; simp [go_sem]
      have d1 : w3.cell? ⟨w1.heap.size, 1, none⟩ = some (.int .i64 t) := by rw [hgrow.cell_far ⟨w1.heap.size, 1, none⟩ (by simp; omega) hne1]; simp [go_sem]
      have d2 : w3.frozen? ⟨w1.heap.size, 0, none⟩ = false := by rw [hgrow.frozen_far ⟨w1.heap.size, 0, none⟩ (by simp; omega) hne1]; simp [go_sem]
      have d3 : w3.frozen? ⟨w1.heap.size, 1, none⟩ = false := by rw [hgrow.frozen_far ⟨w1.heap.size, 1, none⟩ (by simp; omega) hne1]; simp [go_sem]
      have z0 : w.heap.size < w1.heap.size := by omega
      have d4 : w3.cell? ⟨w.heap.size + 1, 0, none⟩ = some (.slice none 0 0) := by rw [hgrow.cell_far ⟨w.heap.size + 1, 0, none⟩ (by simp; omega) hne2]; simp [go_sem, z0, z1, p1]
      have d5 : w3.cell? ⟨w.heap.size + 1, 1, none⟩ = some (.int .i64 0) := by rw [hgrow.cell_far ⟨w.heap.size + 1, 1, none⟩ (by simp; omega) hne2]; simp [go_sem, z0, z1, p1]
      have d6 : w3.frozen? ⟨w.heap.size + 1, 0, none⟩ = false := by rw [hgrow.frozen_far ⟨w.heap.size + 1, 0, none⟩ (by simp; omega) hne2]; simp [go_sem, z0, z1, q1]
      have d7 : w3.frozen? ⟨w.heap.size + 1, 1, none⟩ = false := by rw [hgrow.frozen_far ⟨w.heap.size + 1, 1, none⟩ (by simp; omega) hne2]; simp [go_sem, z0, z1, q1]
      have gne2 : g2 ≠ w1.heap.size := fun e => by
        rw [e, hgrow.block w1.heap.size (by simp; omega) hne1, Below.heap_alloc _ _ _ (by simp), heap_alloc_new] at i3
        simp at i3
      have z3 : w1.heap.size < w3.heap.size := by have := hgrow.size; simp at this; omega
      have HO3 := Lib.hid ho3
      have HX3 := Lib.hid (((HX.out.alloc (Nat.le_of_lt (by omega)) (.cells #[.slice a' n c', .int .i64 t] 25)).alloc (by simp; omega) (.cells #[.string x] 9)).grown hgrow (by simp; omega) (fun j hj => by have := (hob j hj).1; omega))
      have i7 := Lib.hid i7
      clear hown' hgrow hnil ho3 i3 hown1 hob hne1 hne2
      go_wp2
      have hv1 : PV.1 = l ++ [x] := by rw [HQ.out]; unfold trimV; rw [if_neg (by rw [← HN1.out]; omega)]
      have hv2 : PV.1.length = n + 1 := by rw [hv1, ← HN1.out]
      have hv3 : PV.2 = (n : Int) := by have : PV.2 = (PV.1.length : Int) - 1 := by rw [HQ.out]
                                        omega
      rw [hv3, hv2, hv1]
      exact bodyPost_ret (v := .agg #[.slice (some ⟨g2, 0, none⟩) (n + 1) c2, .int .i64 (n : Int)]) (by simp [results, Try.results77, go_sem, d4, d5]) rfl ⟨_, _, rfl, (((own_krN HN1.out (own_setg (own_setg HO3.out gne2) gne2)).set (by omega)).set (by omega)).lo (by omega), (((HX3.out.setCell (p := ⟨w1.heap.size, 0, none⟩) (show w.heap.size ≤ w1.heap.size by omega) _).setCell (p := ⟨w1.heap.size, 1, none⟩) (show w.heap.size ≤ w1.heap.size by omega) _).setCell (p := ⟨w.heap.size + 1, 0, none⟩) (show w.heap.size ≤ w.heap.size + 1 by omega) _).setCell (p := ⟨w.heap.size + 1, 1, none⟩) (show w.heap.size ≤ w.heap.size + 1 by omega) _⟩
  have hnp : 0 < n := by omega
  have hml : n - 1 < l.length := by rw [← HN.out]; omega
  by_cases hm1 : 0 < more
  · skip
    obtain ⟨y, hy⟩ : ∃ y, y = l[n - 1] := ⟨_, rfl⟩
    have hys := HL.out y (by rw [hy]; exact List.getElem_mem _)
    have z2 : ¬ 9223372036854775807 < y.size + x.size := by omega
    have hJs : (y ++ x).size = y.size + x.size := ByteArray.size_append
    have hje := empty_f (s := y ++ x) (by omega)
    have hj : joinV l x more = y ++ x := by unfold joinV; rw [← HN.out, if_neg hn0, if_pos hm1, List.getElem?_eq_getElem hml, ← hy]; rfl
    have HT := Lib.hid (specRight_any (y ++ x) (by unfold maxLen; omega))
    have HY := Lib.hid hy.symm
    cases htb : textB (y ++ x)
    · have hg : goodB (joinV l x more) = false := by rw [hj]; simp [goodB, htb]
      have HQ := Lib.hid (show PV = (trimV (l ++ [x]), ((trimV (l ++ [x])).length : Int) - 1) by rw [HV.out]; unfold putV midV; rw [if_neg hx0, if_neg (by rw [hg]; decide)])
      rw [htb] at HT
      clear hj hg htb hy hJs
      by_cases h5 : 5 < n + 1
      · skip
        go_enter Try.func77, Try.ntmps77
        go_wp2_with fail
        refine (HC.out).mono ?_
        rintro e w1 ⟨a', c', rfl, ho, hb1⟩
        have z1 : w.heap.size + 1 < w1.heap.size := by have := hb1.size; simp at this; omega
        obtain ⟨p1, q1⟩ := keepC hb1 (g := w.heap.size + 1) (by simp)
        have HO := Lib.hid (show w1.ownsRow (w.heap.size + 1 + 1) 9 1 (.slice a' n c') n (l.map Value.string) from own_lo ho (by simp))
        have HX := Lib.hid (bthen HB.out hb1 (by simp; omega))
        clear hb1 ho
        have hlp : 0 < l.length := by rw [← HN.out]; omega
        obtain ⟨g, cc, M, e1, e2, e3, e4, e5, e6, e7⟩ := own_form (by rw [← HN.out]; exact HO.out) hlp
        injection e1 with e1 e1b e1c
        subst e1 e1c
        have c0 := e7 (n - 1) hml
        have c1 : w1.cell? ⟨g, n - 1, none⟩ = some (.string y) := by simp [World.cell?, e3]; rw [c0, HY.out]
        have f1 : w1.frozen? ⟨g, n - 1, none⟩ = false := by simp [World.frozen?, e3]
        have gz : g < w1.heap.size := (Array.getElem?_eq_some_iff.1 e3).1
        have gne : ¬ g = w.heap.size + 1 := by omega
        clear e3 e7 c0 e1b hlp
        have hown1 := (HO.out.alloc (.cells #[.slice (some ⟨g, 0, none⟩) n c', .int .i64 t] 25)).alloc (.cells #[.string x] 9)
        have HLT := Lib.hid (HO.out.lt)
        go_wp2_with fail
        refine (HT.out _).mono ?_
        rintro e w2 ⟨rfl, rfl⟩
        go_wp2_with (first | (at_builtin; refine wpList_append_own _ rfl _ _ 23 rfl (w.heap.size + 1 + 1) 9 i0 (.string ⟨#[]⟩) 1 16 Try.underlying23 hi hz0 hz1 hz2 rfl (by decide) _ _ _ rfl hown1 ⟨w1.heap.size + 1, 0, none⟩ 1 1 [.string x] rfl rfl ?c1 ?c2 ?c3 ?c4 ?c5 ?_))
        case c1 =>
          intro j u hj
          match j, hj with
          | 0, hj => simp at hj; subst hj; simp [Addr.add]
        case c2 => intro u hu; simp at hu; rcases hu with rfl | rfl <;> rfl
        case c3 => unfold maxLen; omega
        case c4 => omega
        case c5 => simp; omega
        intro v' w3 hown' hgrow hnil
        have HN1 := Lib.hid (show n + 1 = (l ++ [x]).length by rw [List.length_append, ← HN.out]; rfl)
        have ho3 : w3.ownsRow (w.heap.size + 1 + 1) 9 1 v' (n + 1) ((l ++ [x]).map Value.string) := by rw [List.map_append]; exact hown'
        obtain ⟨g2, c2, M2, rfl, i2, i3, i4, i5, i6, i7⟩ := own_formN HN1.out ho3 (by omega)
        have hob : ∀ b, (Value.slice (some ⟨g, 0, none⟩) n c').ownBlock = some b → w.heap.size + 1 + 1 ≤ b ∧ b < w1.heap.size := HLT.out
        have hne1 : some w1.heap.size ≠ (Value.slice (some ⟨g, 0, none⟩) n c').ownBlock := fun e => by have := (hob _ e.symm).2; omega
        have hne2 : some (w.heap.size + 1) ≠ (Value.slice (some ⟨g, 0, none⟩) n c').ownBlock := fun e => by have := (hob _ e.symm).1; omega
        have d0 : w3.cell? ⟨w1.heap.size, 0, none⟩ = some (.slice (some ⟨g, 0, none⟩) n c') := by rw [hgrow.cell_far ⟨w1.heap.size, 0, none⟩ (by simp; omega) hne1]; simp [go_sem]
        have d1 : w3.cell? ⟨w1.heap.size, 1, none⟩ = some (.int .i64 t) := by rw [hgrow.cell_far ⟨w1.heap.size, 1, none⟩ (by simp; omega) hne1]; simp [go_sem]
        have d2 : w3.frozen? ⟨w1.heap.size, 0, none⟩ = false := by rw [hgrow.frozen_far ⟨w1.heap.size, 0, none⟩ (by simp; omega) hne1]; simp [go_sem]
        have d3 : w3.frozen? ⟨w1.heap.size, 1, none⟩ = false := by rw [hgrow.frozen_far ⟨w1.heap.size, 1, none⟩ (by simp; omega) hne1]; simp [go_sem]
        have z0 : w.heap.size < w1.heap.size := by omega
        have d4 : w3.cell? ⟨w.heap.size + 1, 0, none⟩ = some (.slice none 0 0) := by rw [hgrow.cell_far ⟨w.heap.size + 1, 0, none⟩ (by simp; omega) hne2]; simp [go_sem, z0, z1, p1]
        have d5 : w3.cell? ⟨w.heap.size + 1, 1, none⟩ = some (.int .i64 0) := by rw [hgrow.cell_far ⟨w.heap.size + 1, 1, none⟩ (by simp; omega) hne2]; simp [go_sem, z0, z1, p1]
        have d6 : w3.frozen? ⟨w.heap.size + 1, 0, none⟩ = false := by rw [hgrow.frozen_far ⟨w.heap.size + 1, 0, none⟩ (by simp; omega) hne2]; simp [go_sem, z0, z1, q1]
        have d7 : w3.frozen? ⟨w.heap.size + 1, 1, none⟩ = false := by rw [hgrow.frozen_far ⟨w.heap.size + 1, 1, none⟩ (by simp; omega) hne2]; simp [go_sem, z0, z1, q1]
        have gne2 : g2 ≠ w1.heap.size := fun e => by
          rw [e, hgrow.block w1.heap.size (by simp; omega) hne1, Below.heap_alloc _ _ _ (by simp), heap_alloc_new] at i3
          simp at i3
        have z3 : w1.heap.size < w3.heap.size := by have := hgrow.size; simp at this; omega
        have HO3 := Lib.hid ho3
        have HX3 := Lib.hid (((HX.out.alloc (Nat.le_of_lt (by omega)) (.cells #[.slice (some ⟨g, 0, none⟩) n c', .int .i64 t] 25)).alloc (by simp; omega) (.cells #[.string x] 9)).grown hgrow (by simp; omega) (fun j hj => by have := (hob j hj).1; omega))
        have i7 := Lib.hid i7
        clear hown' hgrow hnil ho3 i3 hown1 hob hne1 hne2
        go_wp2
        have hv1 : PV.1 = (l ++ [x]).drop 1 := by rw [HQ.out]; unfold trimV; rw [if_pos (by rw [← HN1.out]; omega)]
        have hv2 : PV.1.length = n := by rw [hv1, List.length_drop, ← HN1.out]; omega
        have hv3 : PV.2 = (PV.1.length : Int) - 1 := by rw [HQ.out]
        rw [hv3, hv2, hv1]
        exact bodyPost_ret (v := .agg #[.slice (some ⟨g2, 1, none⟩) n (c2 - 1), .int .i64 ((n : Int) - 1)]) (by simp [results, Try.results77, go_sem, d4, d5]) rfl ⟨_, _, rfl, (((own_tailN HN1.out (own_setg (own_setg (own_setg HO3.out gne2) gne2) gne2) (by omega)).set (by omega)).set (by omega)).lo (by omega), ((((HX3.out.setCell (p := ⟨w1.heap.size, 0, none⟩) (show w.heap.size ≤ w1.heap.size by omega) _).setCell (p := ⟨w1.heap.size, 0, none⟩) (show w.heap.size ≤ w1.heap.size by omega) _).setCell (p := ⟨w1.heap.size, 1, none⟩) (show w.heap.size ≤ w1.heap.size by omega) _).setCell (p := ⟨w.heap.size + 1, 0, none⟩) (show w.heap.size ≤ w.heap.size + 1 by omega) _).setCell (p := ⟨w.heap.size + 1, 1, none⟩) (show w.heap.size ≤ w.heap.size + 1 by omega) _⟩
      · skip
        go_enter Try.func77, Try.ntmps77
        go_wp2_with fail
        refine (HC.out).mono ?_
        rintro e w1 ⟨a', c', rfl, ho, hb1⟩
        have z1 : w.heap.size + 1 < w1.heap.size := by have := hb1.size; simp at this; omega
        obtain ⟨p1, q1⟩ := keepC hb1 (g := w.heap.size + 1) (by simp)
        have HO := Lib.hid (show w1.ownsRow (w.heap.size + 1 + 1) 9 1 (.slice a' n c') n (l.map Value.string) from own_lo ho (by simp))
        have HX := Lib.hid (bthen HB.out hb1 (by simp; omega))
        clear hb1 ho
        have hlp : 0 < l.length := by rw [← HN.out]; omega
        obtain ⟨g, cc, M, e1, e2, e3, e4, e5, e6, e7⟩ := own_form (by rw [← HN.out]; exact HO.out) hlp
        injection e1 with e1 e1b e1c
        subst e1 e1c
        have c0 := e7 (n - 1) hml
        have c1 : w1.cell? ⟨g, n - 1, none⟩ = some (.string y) := by simp [World.cell?, e3]; rw [c0, HY.out]
        have f1 : w1.frozen? ⟨g, n - 1, none⟩ = false := by simp [World.frozen?, e3]
        have gz : g < w1.heap.size := (Array.getElem?_eq_some_iff.1 e3).1
        have gne : ¬ g = w.heap.size + 1 := by omega
        clear e3 e7 c0 e1b hlp
        have hown1 := (HO.out.alloc (.cells #[.slice (some ⟨g, 0, none⟩) n c', .int .i64 t] 25)).alloc (.cells #[.string x] 9)
        have HLT := Lib.hid (HO.out.lt)
        go_wp2_with fail
        refine (HT.out _).mono ?_
        rintro e w2 ⟨rfl, rfl⟩
        go_wp2_with (first | (at_builtin; refine wpList_append_own _ rfl _ _ 23 rfl (w.heap.size + 1 + 1) 9 i0 (.string ⟨#[]⟩) 1 16 Try.underlying23 hi hz0 hz1 hz2 rfl (by decide) _ _ _ rfl hown1 ⟨w1.heap.size + 1, 0, none⟩ 1 1 [.string x] rfl rfl ?c1 ?c2 ?c3 ?c4 ?c5 ?_))
        case c1 =>
          intro j u hj
          match j, hj with
          | 0, hj => simp at hj; subst hj; simp [Addr.add]
        case c2 => intro u hu; simp at hu; rcases hu with rfl | rfl <;> rfl
        case c3 => unfold maxLen; omega
        case c4 => omega
        case c5 => simp; omega
        intro v' w3 hown' hgrow hnil
        have HN1 := Lib.hid (show n + 1 = (l ++ [x]).length by rw [List.length_append, ← HN.out]; rfl)
        have ho3 : w3.ownsRow (w.heap.size + 1 + 1) 9 1 v' (n + 1) ((l ++ [x]).map Value.string) := by rw [List.map_append]; exact hown'
        obtain ⟨g2, c2, M2, rfl, i2, i3, i4, i5, i6, i7⟩ := own_formN HN1.out ho3 (by omega)
        have hob : ∀ b, (Value.slice (some ⟨g, 0, none⟩) n c').ownBlock = some b → w.heap.size + 1 + 1 ≤ b ∧ b < w1.heap.size := HLT.out
        have hne1 : some w1.heap.size ≠ (Value.slice (some ⟨g, 0, none⟩) n c').ownBlock := fun e => by have := (hob _ e.symm).2; omega
        have hne2 : some (w.heap.size + 1) ≠ (Value.slice (some ⟨g, 0, none⟩) n c').ownBlock := fun e => by have := (hob _ e.symm).1; omega
        have d0 : w3.cell? ⟨w1.heap.size, 0, none⟩ = some (.slice (some ⟨g, 0, none⟩) n c') := by rw [hgrow.cell_far ⟨w1.heap.size, 0, none⟩ (by simp; omega) hne1]; simp [go_sem]
        have d1 : w3.cell? ⟨w1.heap.size, 1, none⟩ = some (.int .i64 t) := by rw [hgrow.cell_far ⟨w1.heap.size, 1, none⟩ (by simp; omega) hne1]; simp [go_sem]
        have d2 : w3.frozen? ⟨w1.heap.size, 0, none⟩ = false := by rw [hgrow.frozen_far ⟨w1.heap.size, 0, none⟩ (by simp; omega) hne1]; simp [go_sem]
        have d3 : w3.frozen? ⟨w1.heap.size, 1, none⟩ = false := by rw [hgrow.frozen_far ⟨w1.heap.size, 1, none⟩ (by simp; omega) hne1]; simp [go_sem]
        have z0 : w.heap.size < w1.heap.size := by omega
        have d4 : w3.cell? ⟨w.heap.size + 1, 0, none⟩ = some (.slice none 0 0) := by rw [hgrow.cell_far ⟨w.heap.size + 1, 0, none⟩ (by simp; omega) hne2]; simp [go_sem, z0, z1, p1]
        have d5 : w3.cell? ⟨w.heap.size + 1, 1, none⟩ = some (.int .i64 0) := by rw [hgrow.cell_far ⟨w.heap.size + 1, 1, none⟩ (by simp; omega) hne2]; simp [go_sem, z0, z1, p1]
        have d6 : w3.frozen? ⟨w.heap.size + 1, 0, none⟩ = false := by rw [hgrow.frozen_far ⟨w.heap.size + 1, 0, none⟩ (by simp; omega) hne2]; simp [go_sem, z0, z1, q1]
        have d7 : w3.frozen? ⟨w.heap.size + 1, 1, none⟩ = false := by rw [hgrow.frozen_far ⟨w.heap.size + 1, 1, none⟩ (by simp; omega) hne2]; simp [go_sem, z0, z1, q1]
        have gne2 : g2 ≠ w1.heap.size := fun e => by
          rw [e, hgrow.block w1.heap.size (by simp; omega) hne1, Below.heap_alloc _ _ _ (by simp), heap_alloc_new] at i3
          simp at i3
        have z3 : w1.heap.size < w3.heap.size := by have := hgrow.size; simp at this; omega
        have HO3 := Lib.hid ho3
        have HX3 := Lib.hid (((HX.out.alloc (Nat.le_of_lt (by omega)) (.cells #[.slice (some ⟨g, 0, none⟩) n c', .int .i64 t] 25)).alloc (by simp; omega) (.cells #[.string x] 9)).grown hgrow (by simp; omega) (fun j hj => by have := (hob j hj).1; omega))
        have i7 := Lib.hid i7
        clear hown' hgrow hnil ho3 i3 hown1 hob hne1 hne2
        go_wp2
        have hv1 : PV.1 = l ++ [x] := by rw [HQ.out]; unfold trimV; rw [if_neg (by rw [← HN1.out]; omega)]
        have hv2 : PV.1.length = n + 1 := by rw [hv1, ← HN1.out]
        have hv3 : PV.2 = (n : Int) := by have : PV.2 = (PV.1.length : Int) - 1 := by rw [HQ.out]
                                          omega
        rw [hv3, hv2, hv1]
        exact bodyPost_ret (v := .agg #[.slice (some ⟨g2, 0, none⟩) (n + 1) c2, .int .i64 (n : Int)]) (by simp [results, Try.results77, go_sem, d4, d5]) rfl ⟨_, _, rfl, (((own_krN HN1.out (own_setg (own_setg HO3.out gne2) gne2)).set (by omega)).set (by omega)).lo (by omega), (((HX3.out.setCell (p := ⟨w1.heap.size, 0, none⟩) (show w.heap.size ≤ w1.heap.size by omega) _).setCell (p := ⟨w1.heap.size, 1, none⟩) (show w.heap.size ≤ w1.heap.size by omega) _).setCell (p := ⟨w.heap.size + 1, 0, none⟩) (show w.heap.size ≤ w.heap.size + 1 by omega) _).setCell (p := ⟨w.heap.size + 1, 1, none⟩) (show w.heap.size ≤ w.heap.size + 1 by omega) _⟩
    · have hg : goodB (joinV l x more) = true := by rw [hj]; unfold goodB; rw [htb, decide_eq_true (by omega)]; rfl
      have HQ := Lib.hid (show PV = (trimV (l.set (n - 1) (y ++ x)), ((trimV (l.set (n - 1) (y ++ x))).length : Int) - 1) by rw [HV.out]; unfold putV midV; rw [if_neg hx0, if_pos hg, hj, ← HN.out])
      rw [htb] at HT
      clear hj hg htb hy hJs
      by_cases h5 : 5 < n
      · skip
        go_enter Try.func77, Try.ntmps77
        go_wp2_with fail
        refine (HC.out).mono ?_
        rintro e w1 ⟨a', c', rfl, ho, hb1⟩
        have z1 : w.heap.size + 1 < w1.heap.size := by have := hb1.size; simp at this; omega
        obtain ⟨p1, q1⟩ := keepC hb1 (g := w.heap.size + 1) (by simp)
        have HO := Lib.hid (show w1.ownsRow (w.heap.size + 1 + 1) 9 1 (.slice a' n c') n (l.map Value.string) from own_lo ho (by simp))
        have HX := Lib.hid (bthen HB.out hb1 (by simp; omega))
        clear hb1 ho
        have hlp : 0 < l.length := by rw [← HN.out]; omega
        obtain ⟨g, cc, M, e1, e2, e3, e4, e5, e6, e7⟩ := own_form (by rw [← HN.out]; exact HO.out) hlp
        injection e1 with e1 e1b e1c
        subst e1 e1c
        have c0 := e7 (n - 1) hml
        have c1 : w1.cell? ⟨g, n - 1, none⟩ = some (.string y) := by simp [World.cell?, e3]; rw [c0, HY.out]
        have f1 : w1.frozen? ⟨g, n - 1, none⟩ = false := by simp [World.frozen?, e3]
        have gz : g < w1.heap.size := (Array.getElem?_eq_some_iff.1 e3).1
        have gne : ¬ g = w.heap.size + 1 := by omega
        clear e3 e7 c0 e1b hlp
        go_wp2_with fail
        refine (HT.out _).mono ?_
        rintro e w2 ⟨rfl, rfl⟩
        go_wp2
        have hv1 : PV.1 = (l.set (n - 1) (y ++ x)).drop 1 := by rw [HQ.out]; unfold trimV; rw [if_pos (by simp; rw [← HN.out]; omega)]
        have hv2 : PV.1.length = n - 1 := by rw [hv1]; simp; rw [HN.out]
        have hv3 : PV.2 = (PV.1.length : Int) - 1 := by rw [HQ.out]
        rw [hv3, hv2, hv1]
        exact bodyPost_ret (v := .agg #[.slice (some ⟨g, 1, none⟩) (n - 1) (c' - 1), .int .i64 ((n - 1 : Nat) - 1)]) (by simp [results, Try.results77, go_sem, z1, p1]) rfl ⟨_, _, rfl, ((((own_tailN (by rw [List.length_set]; exact HN.out) (own_putN HN.out HO.out) (by omega)).set (by omega)).set (by omega)).alloc _).lo (by omega), (((HX.out.setCell (p := ⟨g, n - 1, none⟩) (show w.heap.size ≤ g by omega) _).setCell (p := ⟨w.heap.size + 1, 0, none⟩) (show w.heap.size ≤ w.heap.size + 1 by omega) _).setCell (p := ⟨w.heap.size + 1, 1, none⟩) (show w.heap.size ≤ w.heap.size + 1 by omega) _).alloc (by simp; omega) _⟩
      · skip
        go_enter Try.func77, Try.ntmps77
        go_wp2_with fail
        refine (HC.out).mono ?_
        rintro e w1 ⟨a', c', rfl, ho, hb1⟩
        have z1 : w.heap.size + 1 < w1.heap.size := by have := hb1.size; simp at this; omega
        obtain ⟨p1, q1⟩ := keepC hb1 (g := w.heap.size + 1) (by simp)
        have HO := Lib.hid (show w1.ownsRow (w.heap.size + 1 + 1) 9 1 (.slice a' n c') n (l.map Value.string) from own_lo ho (by simp))
        have HX := Lib.hid (bthen HB.out hb1 (by simp; omega))
        clear hb1 ho
        have hlp : 0 < l.length := by rw [← HN.out]; omega
        obtain ⟨g, cc, M, e1, e2, e3, e4, e5, e6, e7⟩ := own_form (by rw [← HN.out]; exact HO.out) hlp
        injection e1 with e1 e1b e1c
        subst e1 e1c
        have c0 := e7 (n - 1) hml
        have c1 : w1.cell? ⟨g, n - 1, none⟩ = some (.string y) := by simp [World.cell?, e3]; rw [c0, HY.out]
        have f1 : w1.frozen? ⟨g, n - 1, none⟩ = false := by simp [World.frozen?, e3]
        have gz : g < w1.heap.size := (Array.getElem?_eq_some_iff.1 e3).1
        have gne : ¬ g = w.heap.size + 1 := by omega
        clear e3 e7 c0 e1b hlp
        go_wp2_with fail
        refine (HT.out _).mono ?_
        rintro e w2 ⟨rfl, rfl⟩
        go_wp2
        have hv1 : PV.1 = l.set (n - 1) (y ++ x) := by rw [HQ.out]; unfold trimV; rw [if_neg (by simp; rw [← HN.out]; omega)]
        have hv2 : PV.1.length = n := by rw [hv1]; simp; rw [HN.out]
        have hv3 : PV.2 = (PV.1.length : Int) - 1 := by rw [HQ.out]
        rw [hv3, hv2, hv1]
        exact bodyPost_ret (v := .agg #[.slice (some ⟨g, 0, none⟩) n c', .int .i64 ((n : Int) - 1)]) (by simp [results, Try.results77, go_sem, z1, p1]) rfl ⟨_, _, rfl, ((((own_krN (by rw [List.length_set]; exact HN.out) (own_putN HN.out HO.out)).set (by omega)).set (by omega)).alloc _).lo (by omega), (((HX.out.setCell (p := ⟨g, n - 1, none⟩) (show w.heap.size ≤ g by omega) _).setCell (p := ⟨w.heap.size + 1, 0, none⟩) (show w.heap.size ≤ w.heap.size + 1 by omega) _).setCell (p := ⟨w.heap.size + 1, 1, none⟩) (show w.heap.size ≤ w.heap.size + 1 by omega) _).alloc (by simp; omega) _⟩
  by_cases hm2 : more < 0
  · skip
    obtain ⟨y, hy⟩ : ∃ y, y = l[n - 1] := ⟨_, rfl⟩
    have hys := HL.out y (by rw [hy]; exact List.getElem_mem _)
    have z2 : ¬ 9223372036854775807 < x.size + y.size := by omega
    have hJs : (x ++ y).size = x.size + y.size := ByteArray.size_append
    have hje := empty_f (s := x ++ y) (by omega)
    have hj : joinV l x more = x ++ y := by unfold joinV; rw [← HN.out, if_neg hn0, if_neg hm1, if_pos hm2, List.getElem?_eq_getElem hml, ← hy]; rfl
    have HT := Lib.hid (specRight_any (x ++ y) (by unfold maxLen; omega))
    have HY := Lib.hid hy.symm
    cases htb : textB (x ++ y)
    · have hg : goodB (joinV l x more) = false := by rw [hj]; simp [goodB, htb]
      have HQ := Lib.hid (show PV = (trimV (l ++ [x]), ((trimV (l ++ [x])).length : Int) - 1) by rw [HV.out]; unfold putV midV; rw [if_neg hx0, if_neg (by rw [hg]; decide)])
      rw [htb] at HT
      clear hj hg htb hy hJs
      by_cases h5 : 5 < n + 1
      · skip
        go_enter Try.func77, Try.ntmps77
        go_wp2_with fail
        refine (HC.out).mono ?_
        rintro e w1 ⟨a', c', rfl, ho, hb1⟩
        have z1 : w.heap.size + 1 < w1.heap.size := by have := hb1.size; simp at this; omega
        obtain ⟨p1, q1⟩ := keepC hb1 (g := w.heap.size + 1) (by simp)
        have HO := Lib.hid (show w1.ownsRow (w.heap.size + 1 + 1) 9 1 (.slice a' n c') n (l.map Value.string) from own_lo ho (by simp))
        have HX := Lib.hid (bthen HB.out hb1 (by simp; omega))
        clear hb1 ho
        have hlp : 0 < l.length := by rw [← HN.out]; omega
        obtain ⟨g, cc, M, e1, e2, e3, e4, e5, e6, e7⟩ := own_form (by rw [← HN.out]; exact HO.out) hlp
        injection e1 with e1 e1b e1c
        subst e1 e1c
        have c0 := e7 (n - 1) hml
        have c1 : w1.cell? ⟨g, n - 1, none⟩ = some (.string y) := by simp [World.cell?, e3]; rw [c0, HY.out]
        have f1 : w1.frozen? ⟨g, n - 1, none⟩ = false := by simp [World.frozen?, e3]
        have gz : g < w1.heap.size := (Array.getElem?_eq_some_iff.1 e3).1
        have gne : ¬ g = w.heap.size + 1 := by omega
        clear e3 e7 c0 e1b hlp
        have hown1 := (HO.out.alloc (.cells #[.slice (some ⟨g, 0, none⟩) n c', .int .i64 t] 25)).alloc (.cells #[.string x] 9)
        have HLT := Lib.hid (HO.out.lt)
        go_wp2_with fail
        refine (HT.out _).mono ?_
        rintro e w2 ⟨rfl, rfl⟩
        go_wp2_with (first | (at_builtin; refine wpList_append_own _ rfl _ _ 23 rfl (w.heap.size + 1 + 1) 9 i0 (.string ⟨#[]⟩) 1 16 Try.underlying23 hi hz0 hz1 hz2 rfl (by decide) _ _ _ rfl hown1 ⟨w1.heap.size + 1, 0, none⟩ 1 1 [.string x] rfl rfl ?c1 ?c2 ?c3 ?c4 ?c5 ?_))
        case c1 =>
          intro j u hj
          match j, hj with
          | 0, hj => simp at hj; subst hj; simp [Addr.add]
        case c2 => intro u hu; simp at hu; rcases hu with rfl | rfl <;> rfl
        case c3 => unfold maxLen; omega
        case c4 => omega
        case c5 => simp; omega
        intro v' w3 hown' hgrow hnil
        have HN1 := Lib.hid (show n + 1 = (l ++ [x]).length by rw [List.length_append, ← HN.out]; rfl)
        have ho3 : w3.ownsRow (w.heap.size + 1 + 1) 9 1 v' (n + 1) ((l ++ [x]).map Value.string) := by rw [List.map_append]; exact hown'
        obtain ⟨g2, c2, M2, rfl, i2, i3, i4, i5, i6, i7⟩ := own_formN HN1.out ho3 (by omega)
        have hob : ∀ b, (Value.slice (some ⟨g, 0, none⟩) n c').ownBlock = some b → w.heap.size + 1 + 1 ≤ b ∧ b < w1.heap.size := HLT.out
        have hne1 : some w1.heap.size ≠ (Value.slice (some ⟨g, 0, none⟩) n c').ownBlock := fun e => by have := (hob _ e.symm).2; omega
        have hne2 : some (w.heap.size + 1) ≠ (Value.slice (some ⟨g, 0, none⟩) n c').ownBlock := fun e => by have := (hob _ e.symm).1; omega
        have d0 : w3.cell? ⟨w1.heap.size, 0, none⟩ = some (.slice (some ⟨g, 0, none⟩) n c') := by rw [hgrow.cell_far ⟨w1.heap.size, 0, none⟩ (by simp; omega) hne1]; simp [go_sem]
        have d1 : w3.cell? ⟨w1.heap.size, 1, none⟩ = some (.int .i64 t) := by rw [hgrow.cell_far ⟨w1.heap.size, 1, none⟩ (by simp; omega) hne1]; simp [go_sem]
        have d2 : w3.frozen? ⟨w1.heap.size, 0, none⟩ = false := by rw [hgrow.frozen_far ⟨w1.heap.size, 0, none⟩ (by simp; omega) hne1]; simp [go_sem]
        have d3 : w3.frozen? ⟨w1.heap.size, 1, none⟩ = false := by rw [hgrow.frozen_far ⟨w1.heap.size, 1, none⟩ (by simp; omega) hne1]; simp [go_sem]
        have z0 : w.heap.size < w1.heap.size := by omega
        have d4 : w3.cell? ⟨w.heap.size + 1, 0, none⟩ = some (.slice none 0 0) := by rw [hgrow.cell_far ⟨w.heap.size + 1, 0, none⟩ (by simp; omega) hne2]; simp [go_sem, z0, z1, p1]
        have d5 : w3.cell? ⟨w.heap.size + 1, 1, none⟩ = some (.int .i64 0) := by rw [hgrow.cell_far ⟨w.heap.size + 1, 1, none⟩ (by simp; omega) hne2]; simp [go_sem, z0, z1, p1]
        have d6 : w3.frozen? ⟨w.heap.size + 1, 0, none⟩ = false := by rw [hgrow.frozen_far ⟨w.heap.size + 1, 0, none⟩ (by simp; omega) hne2]; simp [go_sem, z0, z1, q1]
        have d7 : w3.frozen? ⟨w.heap.size + 1, 1, none⟩ = false := by rw [hgrow.frozen_far ⟨w.heap.size + 1, 1, none⟩ (by simp; omega) hne2]; simp [go_sem, z0, z1, q1]
        have gne2 : g2 ≠ w1.heap.size := fun e => by
          rw [e, hgrow.block w1.heap.size (by simp; omega) hne1, Below.heap_alloc _ _ _ (by simp), heap_alloc_new] at i3
          simp at i3
        have z3 : w1.heap.size < w3.heap.size := by have := hgrow.size; simp at this; omega
        have HO3 := Lib.hid ho3
        have HX3 := Lib.hid (((HX.out.alloc (Nat.le_of_lt (by omega)) (.cells #[.slice (some ⟨g, 0, none⟩) n c', .int .i64 t] 25)).alloc (by simp; omega) (.cells #[.string x] 9)).grown hgrow (by simp; omega) (fun j hj => by have := (hob j hj).1; omega))
        have i7 := Lib.hid i7
        clear hown' hgrow hnil ho3 i3 hown1 hob hne1 hne2
        go_wp2
        have hv1 : PV.1 = (l ++ [x]).drop 1 := by rw [HQ.out]; unfold trimV; rw [if_pos (by rw [← HN1.out]; omega)]
        have hv2 : PV.1.length = n := by rw [hv1, List.length_drop, ← HN1.out]; omega
        have hv3 : PV.2 = (PV.1.length : Int) - 1 := by rw [HQ.out]
        rw [hv3, hv2, hv1]
        exact bodyPost_ret (v := .agg #[.slice (some ⟨g2, 1, none⟩) n (c2 - 1), .int .i64 ((n : Int) - 1)]) (by simp [results, Try.results77, go_sem, d4, d5]) rfl ⟨_, _, rfl, (((own_tailN HN1.out (own_setg (own_setg (own_setg HO3.out gne2) gne2) gne2) (by omega)).set (by omega)).set (by omega)).lo (by omega), ((((HX3.out.setCell (p := ⟨w1.heap.size, 0, none⟩) (show w.heap.size ≤ w1.heap.size by omega) _).setCell (p := ⟨w1.heap.size, 0, none⟩) (show w.heap.size ≤ w1.heap.size by omega) _).setCell (p := ⟨w1.heap.size, 1, none⟩) (show w.heap.size ≤ w1.heap.size by omega) _).setCell (p := ⟨w.heap.size + 1, 0, none⟩) (show w.heap.size ≤ w.heap.size + 1 by omega) _).setCell (p := ⟨w.heap.size + 1, 1, none⟩) (show w.heap.size ≤ w.heap.size + 1 by omega) _⟩
      · skip
        go_enter Try.func77, Try.ntmps77
        go_wp2_with fail
        refine (HC.out).mono ?_
        rintro e w1 ⟨a', c', rfl, ho, hb1⟩
        have z1 : w.heap.size + 1 < w1.heap.size := by have := hb1.size; simp at this; omega
        obtain ⟨p1, q1⟩ := keepC hb1 (g := w.heap.size + 1) (by simp)
        have HO := Lib.hid (show w1.ownsRow (w.heap.size + 1 + 1) 9 1 (.slice a' n c') n (l.map Value.string) from own_lo ho (by simp))
        have HX := Lib.hid (bthen HB.out hb1 (by simp; omega))
        clear hb1 ho
        have hlp : 0 < l.length := by rw [← HN.out]; omega
        obtain ⟨g, cc, M, e1, e2, e3, e4, e5, e6, e7⟩ := own_form (by rw [← HN.out]; exact HO.out) hlp
        injection e1 with e1 e1b e1c
        subst e1 e1c
        have c0 := e7 (n - 1) hml
        have c1 : w1.cell? ⟨g, n - 1, none⟩ = some (.string y) := by simp [World.cell?, e3]; rw [c0, HY.out]
        have f1 : w1.frozen? ⟨g, n - 1, none⟩ = false := by simp [World.frozen?, e3]
        have gz : g < w1.heap.size := (Array.getElem?_eq_some_iff.1 e3).1
        have gne : ¬ g = w.heap.size + 1 := by omega
        clear e3 e7 c0 e1b hlp
        have hown1 := (HO.out.alloc (.cells #[.slice (some ⟨g, 0, none⟩) n c', .int .i64 t] 25)).alloc (.cells #[.string x] 9)
        have HLT := Lib.hid (HO.out.lt)
        go_wp2_with fail
        refine (HT.out _).mono ?_
        rintro e w2 ⟨rfl, rfl⟩
        go_wp2_with (first | (at_builtin; refine wpList_append_own _ rfl _ _ 23 rfl (w.heap.size + 1 + 1) 9 i0 (.string ⟨#[]⟩) 1 16 Try.underlying23 hi hz0 hz1 hz2 rfl (by decide) _ _ _ rfl hown1 ⟨w1.heap.size + 1, 0, none⟩ 1 1 [.string x] rfl rfl ?c1 ?c2 ?c3 ?c4 ?c5 ?_))
        case c1 =>
          intro j u hj
          match j, hj with
          | 0, hj => simp at hj; subst hj; simp [Addr.add]
        case c2 => intro u hu; simp at hu; rcases hu with rfl | rfl <;> rfl
        case c3 => unfold maxLen; omega
        case c4 => omega
        case c5 => simp; omega
        intro v' w3 hown' hgrow hnil
        have HN1 := Lib.hid (show n + 1 = (l ++ [x]).length by rw [List.length_append, ← HN.out]; rfl)
        have ho3 : w3.ownsRow (w.heap.size + 1 + 1) 9 1 v' (n + 1) ((l ++ [x]).map Value.string) := by rw [List.map_append]; exact hown'
        obtain ⟨g2, c2, M2, rfl, i2, i3, i4, i5, i6, i7⟩ := own_formN HN1.out ho3 (by omega)
        have hob : ∀ b, (Value.slice (some ⟨g, 0, none⟩) n c').ownBlock = some b → w.heap.size + 1 + 1 ≤ b ∧ b < w1.heap.size := HLT.out
        have hne1 : some w1.heap.size ≠ (Value.slice (some ⟨g, 0, none⟩) n c').ownBlock := fun e => by have := (hob _ e.symm).2; omega
        have hne2 : some (w.heap.size + 1) ≠ (Value.slice (some ⟨g, 0, none⟩) n c').ownBlock := fun e => by have := (hob _ e.symm).1; omega
        have d0 : w3.cell? ⟨w1.heap.size, 0, none⟩ = some (.slice (some ⟨g, 0, none⟩) n c') := by rw [hgrow.cell_far ⟨w1.heap.size, 0, none⟩ (by simp; omega) hne1]; simp [go_sem]
        have d1 : w3.cell? ⟨w1.heap.size, 1, none⟩ = some (.int .i64 t) := by rw [hgrow.cell_far ⟨w1.heap.size, 1, none⟩ (by simp; omega) hne1]; simp [go_sem]
        have d2 : w3.frozen? ⟨w1.heap.size, 0, none⟩ = false := by rw [hgrow.frozen_far ⟨w1.heap.size, 0, none⟩ (by simp; omega) hne1]; simp [go_sem]
        have d3 : w3.frozen? ⟨w1.heap.size, 1, none⟩ = false := by rw [hgrow.frozen_far ⟨w1.heap.size, 1, none⟩ (by simp; omega) hne1]; simp [go_sem]
        have z0 : w.heap.size < w1.heap.size := by omega
        have d4 : w3.cell? ⟨w.heap.size + 1, 0, none⟩ = some (.slice none 0 0) := by rw [hgrow.cell_far ⟨w.heap.size + 1, 0, none⟩ (by simp; omega) hne2]; simp [go_sem, z0, z1, p1]
        have d5 : w3.cell? ⟨w.heap.size + 1, 1, none⟩ = some (.int .i64 0) := by rw [hgrow.cell_far ⟨w.heap.size + 1, 1, none⟩ (by simp; omega) hne2]; simp [go_sem, z0, z1, p1]
        have d6 : w3.frozen? ⟨w.heap.size + 1, 0, none⟩ = false := by rw [hgrow.frozen_far ⟨w.heap.size + 1, 0, none⟩ (by simp; omega) hne2]; simp [go_sem, z0, z1, q1]
        have d7 : w3.frozen? ⟨w.heap.size + 1, 1, none⟩ = false := by rw [hgrow.frozen_far ⟨w.heap.size + 1, 1, none⟩ (by simp; omega) hne2]; simp [go_sem, z0, z1, q1]
        have gne2 : g2 ≠ w1.heap.size := fun e => by
          rw [e, hgrow.block w1.heap.size (by simp; omega) hne1, Below.heap_alloc _ _ _ (by simp), heap_alloc_new] at i3
          simp at i3
        have z3 : w1.heap.size < w3.heap.size := by have := hgrow.size; simp at this; omega
        have HO3 := Lib.hid ho3
        have HX3 := Lib.hid (((HX.out.alloc (Nat.le_of_lt (by omega)) (.cells #[.slice (some ⟨g, 0, none⟩) n c', .int .i64 t] 25)).alloc (by simp; omega) (.cells #[.string x] 9)).grown hgrow (by simp; omega) (fun j hj => by have := (hob j hj).1; omega))
        have i7 := Lib.hid i7
        clear hown' hgrow hnil ho3 i3 hown1 hob hne1 hne2
        go_wp2
        have hv1 : PV.1 = l ++ [x] := by rw [HQ.out]; unfold trimV; rw [if_neg (by rw [← HN1.out]; omega)]
        have hv2 : PV.1.length = n + 1 := by rw [hv1, ← HN1.out]
        have hv3 : PV.2 = (n : Int) := by have : PV.2 = (PV.1.length : Int) - 1 := by rw [HQ.out]
                                          omega
        rw [hv3, hv2, hv1]
        exact bodyPost_ret (v := .agg #[.slice (some ⟨g2, 0, none⟩) (n + 1) c2, .int .i64 (n : Int)]) (by simp [results, Try.results77, go_sem, d4, d5]) rfl ⟨_, _, rfl, (((own_krN HN1.out (own_setg (own_setg HO3.out gne2) gne2)).set (by omega)).set (by omega)).lo (by omega), (((HX3.out.setCell (p := ⟨w1.heap.size, 0, none⟩) (show w.heap.size ≤ w1.heap.size by omega) _).setCell (p := ⟨w1.heap.size, 1, none⟩) (show w.heap.size ≤ w1.heap.size by omega) _).setCell (p := ⟨w.heap.size + 1, 0, none⟩) (show w.heap.size ≤ w.heap.size + 1 by omega) _).setCell (p := ⟨w.heap.size + 1, 1, none⟩) (show w.heap.size ≤ w.heap.size + 1 by omega) _⟩
    · have hg : goodB (joinV l x more) = true := by rw [hj]; unfold goodB; rw [htb, decide_eq_true (by omega)]; rfl
      have HQ := Lib.hid (show PV = (trimV (l.set (n - 1) (x ++ y)), ((trimV (l.set (n - 1) (x ++ y))).length : Int) - 1) by rw [HV.out]; unfold putV midV; rw [if_neg hx0, if_pos hg, hj, ← HN.out])
      rw [htb] at HT
      clear hj hg htb hy hJs
      by_cases h5 : 5 < n
      · skip
        go_enter Try.func77, Try.ntmps77
        go_wp2_with fail
        refine (HC.out).mono ?_
        rintro e w1 ⟨a', c', rfl, ho, hb1⟩
        have z1 : w.heap.size + 1 < w1.heap.size := by have := hb1.size; simp at this; omega
        obtain ⟨p1, q1⟩ := keepC hb1 (g := w.heap.size + 1) (by simp)
        have HO := Lib.hid (show w1.ownsRow (w.heap.size + 1 + 1) 9 1 (.slice a' n c') n (l.map Value.string) from own_lo ho (by simp))
        have HX := Lib.hid (bthen HB.out hb1 (by simp; omega))
        clear hb1 ho
        have hlp : 0 < l.length := by rw [← HN.out]; omega
        obtain ⟨g, cc, M, e1, e2, e3, e4, e5, e6, e7⟩ := own_form (by rw [← HN.out]; exact HO.out) hlp
        injection e1 with e1 e1b e1c
        subst e1 e1c
        have c0 := e7 (n - 1) hml
        have c1 : w1.cell? ⟨g, n - 1, none⟩ = some (.string y) := by simp [World.cell?, e3]; rw [c0, HY.out]
        have f1 : w1.frozen? ⟨g, n - 1, none⟩ = false := by simp [World.frozen?, e3]
        have gz : g < w1.heap.size := (Array.getElem?_eq_some_iff.1 e3).1
        have gne : ¬ g = w.heap.size + 1 := by omega
        clear e3 e7 c0 e1b hlp
        go_wp2_with fail
        refine (HT.out _).mono ?_
        rintro e w2 ⟨rfl, rfl⟩
        go_wp2
        have hv1 : PV.1 = (l.set (n - 1) (x ++ y)).drop 1 := by rw [HQ.out]; unfold trimV; rw [if_pos (by simp; rw [← HN.out]; omega)]
        have hv2 : PV.1.length = n - 1 := by rw [hv1]; simp; rw [HN.out]
        have hv3 : PV.2 = (PV.1.length : Int) - 1 := by rw [HQ.out]
        rw [hv3, hv2, hv1]
        exact bodyPost_ret (v := .agg #[.slice (some ⟨g, 1, none⟩) (n - 1) (c' - 1), .int .i64 ((n - 1 : Nat) - 1)]) (by simp [results, Try.results77, go_sem, z1, p1]) rfl ⟨_, _, rfl, ((((own_tailN (by rw [List.length_set]; exact HN.out) (own_putN HN.out HO.out) (by omega)).set (by omega)).set (by omega)).alloc _).lo (by omega), (((HX.out.setCell (p := ⟨g, n - 1, none⟩) (show w.heap.size ≤ g by omega) _).setCell (p := ⟨w.heap.size + 1, 0, none⟩) (show w.heap.size ≤ w.heap.size + 1 by omega) _).setCell (p := ⟨w.heap.size + 1, 1, none⟩) (show w.heap.size ≤ w.heap.size + 1 by omega) _).alloc (by simp; omega) _⟩
      · skip
        go_enter Try.func77, Try.ntmps77
        go_wp2_with fail
        refine (HC.out).mono ?_
        rintro e w1 ⟨a', c', rfl, ho, hb1⟩
        have z1 : w.heap.size + 1 < w1.heap.size := by have := hb1.size; simp at this; omega
        obtain ⟨p1, q1⟩ := keepC hb1 (g := w.heap.size + 1) (by simp)
        have HO := Lib.hid (show w1.ownsRow (w.heap.size + 1 + 1) 9 1 (.slice a' n c') n (l.map Value.string) from own_lo ho (by simp))
        have HX := Lib.hid (bthen HB.out hb1 (by simp; omega))
        clear hb1 ho
        have hlp : 0 < l.length := by rw [← HN.out]; omega
        obtain ⟨g, cc, M, e1, e2, e3, e4, e5, e6, e7⟩ := own_form (by rw [← HN.out]; exact HO.out) hlp
        injection e1 with e1 e1b e1c
        subst e1 e1c
        have c0 := e7 (n - 1) hml
        have c1 : w1.cell? ⟨g, n - 1, none⟩ = some (.string y) := by simp [World.cell?, e3]; rw [c0, HY.out]
        have f1 : w1.frozen? ⟨g, n - 1, none⟩ = false := by simp [World.frozen?, e3]
        have gz : g < w1.heap.size := (Array.getElem?_eq_some_iff.1 e3).1
        have gne : ¬ g = w.heap.size + 1 := by omega
        clear e3 e7 c0 e1b hlp
        go_wp2_with fail
        refine (HT.out _).mono ?_
        rintro e w2 ⟨rfl, rfl⟩
        go_wp2
        have hv1 : PV.1 = l.set (n - 1) (x ++ y) := by rw [HQ.out]; unfold trimV; rw [if_neg (by simp; rw [← HN.out]; omega)]
        have hv2 : PV.1.length = n := by rw [hv1]; simp; rw [HN.out]
        have hv3 : PV.2 = (PV.1.length : Int) - 1 := by rw [HQ.out]
        rw [hv3, hv2, hv1]
        exact bodyPost_ret (v := .agg #[.slice (some ⟨g, 0, none⟩) n c', .int .i64 ((n : Int) - 1)]) (by simp [results, Try.results77, go_sem, z1, p1]) rfl ⟨_, _, rfl, ((((own_krN (by rw [List.length_set]; exact HN.out) (own_putN HN.out HO.out)).set (by omega)).set (by omega)).alloc _).lo (by omega), (((HX.out.setCell (p := ⟨g, n - 1, none⟩) (show w.heap.size ≤ g by omega) _).setCell (p := ⟨w.heap.size + 1, 0, none⟩) (show w.heap.size ≤ w.heap.size + 1 by omega) _).setCell (p := ⟨w.heap.size + 1, 1, none⟩) (show w.heap.size ≤ w.heap.size + 1 by omega) _).alloc (by simp; omega) _⟩
  have hj : joinV l x more = ⟨#[]⟩ := by unfold joinV; rw [if_neg (by rw [← HN.out]; exact hn0), if_neg hm1, if_neg hm2]
  have HQ := Lib.hid (show PV = (trimV (l ++ [x]), ((trimV (l ++ [x])).length : Int) - 1) by rw [HV.out]; unfold putV midV; rw [if_neg hx0, if_neg (by rw [hj, hgz]; decide)])
  clear hj hn0
  by_cases h5 : 5 < n + 1
  · skip
    go_enter Try.func77, Try.ntmps77
    go_wp2_with fail
    refine (HC.out).mono ?_
    rintro e w1 ⟨a', c', rfl, ho, hb1⟩
    have z1 : w.heap.size + 1 < w1.heap.size := by have := hb1.size; simp at this; omega
    obtain ⟨p1, q1⟩ := keepC hb1 (g := w.heap.size + 1) (by simp)
    have HO := Lib.hid (show w1.ownsRow (w.heap.size + 1 + 1) 9 1 (.slice a' n c') n (l.map Value.string) from own_lo ho (by simp))
    have HX := Lib.hid (bthen HB.out hb1 (by simp; omega))
    clear hb1 ho
    have hown1 := (HO.out.alloc (.cells #[.slice a' n c', .int .i64 t] 25)).alloc (.cells #[.string x] 9)
    have HLT := Lib.hid (HO.out.lt)
    go_wp2_with (first | (at_builtin; refine wpList_append_own _ rfl _ _ 23 rfl (w.heap.size + 1 + 1) 9 i0 (.string ⟨#[]⟩) 1 16 Try.underlying23 hi hz0 hz1 hz2 rfl (by decide) _ _ _ rfl hown1 ⟨w1.heap.size + 1, 0, none⟩ 1 1 [.string x] rfl rfl ?c1 ?c2 ?c3 ?c4 ?c5 ?_))
    case c1 =>
      intro j u hj
      match j, hj with
      | 0, hj => simp at hj; subst hj; simp [Addr.add]
    case c2 => intro u hu; simp at hu; rcases hu with rfl | rfl <;> rfl
    case c3 => unfold maxLen; omega
    case c4 => omega
    case c5 => simp; omega
    intro v' w3 hown' hgrow hnil
    have HN1 := Lib.hid (show n + 1 = (l ++ [x]).length by rw [List.length_append, ← HN.out]; rfl)
    have ho3 : w3.ownsRow (w.heap.size + 1 + 1) 9 1 v' (n + 1) ((l ++ [x]).map Value.string) := by rw [List.map_append]; exact hown'
    obtain ⟨g2, c2, M2, rfl, i2, i3, i4, i5, i6, i7⟩ := own_formN HN1.out ho3 (by omega)
    have hob : ∀ b, (Value.slice a' n c').ownBlock = some b → w.heap.size + 1 + 1 ≤ b ∧ b < w1.heap.size := HLT.out
    have hne1 : some w1.heap.size ≠ (Value.slice a' n c').ownBlock := fun e => by have := (hob _ e.symm).2; omega
    have hne2 : some (w.heap.size + 1) ≠ (Value.slice a' n c').ownBlock := fun e => by have := (hob _ e.symm).1; omega
    have d0 : w3.cell? ⟨w1.heap.size, 0, none⟩ = some (.slice a' n c') := by rw [hgrow.cell_far ⟨w1.heap.size, 0, none⟩ (by simp; omega) hne1]; simp [go_sem]
    have d1 : w3.cell? ⟨w1.heap.size, 1, none⟩ = some (.int .i64 t) := by rw [hgrow.cell_far ⟨w1.heap.size, 1, none⟩ (by simp; omega) hne1]; simp [go_sem]
    have d2 : w3.frozen? ⟨w1.heap.size, 0, none⟩ = false := by rw [hgrow.frozen_far ⟨w1.heap.size, 0, none⟩ (by simp; omega) hne1]; simp [go_sem]
    have d3 : w3.frozen? ⟨w1.heap.size, 1, none⟩ = false := by rw [hgrow.frozen_far ⟨w1.heap.size, 1, none⟩ (by simp; omega) hne1]; simp [go_sem]
    have z0 : w.heap.size < w1.heap.size := by omega
    have d4 : w3.cell? ⟨w.heap.size + 1, 0, none⟩ = some (.slice none 0 0) := by rw [hgrow.cell_far ⟨w.heap.size + 1, 0, none⟩ (by simp; omega) hne2]; simp [go_sem, z0, z1, p1]
    have d5 : w3.cell? ⟨w.heap.size + 1, 1, none⟩ = some (.int .i64 0) := by rw [hgrow.cell_far ⟨w.heap.size + 1, 1, none⟩ (by simp; omega) hne2]; simp [go_sem, z0, z1, p1]
    have d6 : w3.frozen? ⟨w.heap.size + 1, 0, none⟩ = false := by rw [hgrow.frozen_far ⟨w.heap.size + 1, 0, none⟩ (by simp; omega) hne2]; simp [go_sem, z0, z1, q1]
    have d7 : w3.frozen? ⟨w.heap.size + 1, 1, none⟩ = false := by rw [hgrow.frozen_far ⟨w.heap.size + 1, 1, none⟩ (by simp; omega) hne2]; simp [go_sem, z0, z1, q1]
    have gne2 : g2 ≠ w1.heap.size := fun e => by
      rw [e, hgrow.block w1.heap.size (by simp; omega) hne1, Below.heap_alloc _ _ _ (by simp), heap_alloc_new] at i3
      simp at i3
    have z3 : w1.heap.size < w3.heap.size := by have := hgrow.size; simp at this; omega
    have HO3 := Lib.hid ho3
    have HX3 := Lib.hid (((HX.out.alloc (Nat.le_of_lt (by omega)) (.cells #[.slice a' n c', .int .i64 t] 25)).alloc (by simp; omega) (.cells #[.string x] 9)).grown hgrow (by simp; omega) (fun j hj => by have := (hob j hj).1; omega))
    have i7 := Lib.hid i7
    clear hown' hgrow hnil ho3 i3 hown1 hob hne1 hne2
    go_wp2
    have hv1 : PV.1 = (l ++ [x]).drop 1 := by rw [HQ.out]; unfold trimV; rw [if_pos (by rw [← HN1.out]; omega)]
    have hv2 : PV.1.length = n := by rw [hv1, List.length_drop, ← HN1.out]; omega
    have hv3 : PV.2 = (PV.1.length : Int) - 1 := by rw [HQ.out]
    rw [hv3, hv2, hv1]
    exact bodyPost_ret (v := .agg #[.slice (some ⟨g2, 1, none⟩) n (c2 - 1), .int .i64 ((n : Int) - 1)]) (by simp [results, Try.results77, go_sem, d4, d5]) rfl ⟨_, _, rfl, (((own_tailN HN1.out (own_setg (own_setg (own_setg HO3.out gne2) gne2) gne2) (by omega)).set (by omega)).set (by omega)).lo (by omega), ((((HX3.out.setCell (p := ⟨w1.heap.size, 0, none⟩) (show w.heap.size ≤ w1.heap.size by omega) _).setCell (p := ⟨w1.heap.size, 0, none⟩) (show w.heap.size ≤ w1.heap.size by omega) _).setCell (p := ⟨w1.heap.size, 1, none⟩) (show w.heap.size ≤ w1.heap.size by omega) _).setCell (p := ⟨w.heap.size + 1, 0, none⟩) (show w.heap.size ≤ w.heap.size + 1 by omega) _).setCell (p := ⟨w.heap.size + 1, 1, none⟩) (show w.heap.size ≤ w.heap.size + 1 by omega) _⟩
  · skip
    go_enter Try.func77, Try.ntmps77
    go_wp2_with fail
    refine (HC.out).mono ?_
    rintro e w1 ⟨a', c', rfl, ho, hb1⟩
    have z1 : w.heap.size + 1 < w1.heap.size := by have := hb1.size; simp at this; omega
    obtain ⟨p1, q1⟩ := keepC hb1 (g := w.heap.size + 1) (by simp)
    have HO := Lib.hid (show w1.ownsRow (w.heap.size + 1 + 1) 9 1 (.slice a' n c') n (l.map Value.string) from own_lo ho (by simp))
    have HX := Lib.hid (bthen HB.out hb1 (by simp; omega))
    clear hb1 ho
    have hown1 := (HO.out.alloc (.cells #[.slice a' n c', .int .i64 t] 25)).alloc (.cells #[.string x] 9)
    have HLT := Lib.hid (HO.out.lt)
    go_wp2_with (first | (at_builtin; refine wpList_append_own _ rfl _ _ 23 rfl (w.heap.size + 1 + 1) 9 i0 (.string ⟨#[]⟩) 1 16 Try.underlying23 hi hz0 hz1 hz2 rfl (by decide) _ _ _ rfl hown1 ⟨w1.heap.size + 1, 0, none⟩ 1 1 [.string x] rfl rfl ?c1 ?c2 ?c3 ?c4 ?c5 ?_))
    case c1 =>
      intro j u hj
      match j, hj with
      | 0, hj => simp at hj; subst hj; simp [Addr.add]
    case c2 => intro u hu; simp at hu; rcases hu with rfl | rfl <;> rfl
    case c3 => unfold maxLen; omega
    case c4 => omega
    case c5 => simp; omega
    intro v' w3 hown' hgrow hnil
    have HN1 := Lib.hid (show n + 1 = (l ++ [x]).length by rw [List.length_append, ← HN.out]; rfl)
    have ho3 : w3.ownsRow (w.heap.size + 1 + 1) 9 1 v' (n + 1) ((l ++ [x]).map Value.string) := by rw [List.map_append]; exact hown'
    obtain ⟨g2, c2, M2, rfl, i2, i3, i4, i5, i6, i7⟩ := own_formN HN1.out ho3 (by omega)
    have hob : ∀ b, (Value.slice a' n c').ownBlock = some b → w.heap.size + 1 + 1 ≤ b ∧ b < w1.heap.size := HLT.out
    have hne1 : some w1.heap.size ≠ (Value.slice a' n c').ownBlock := fun e => by have := (hob _ e.symm).2; omega
    have hne2 : some (w.heap.size + 1) ≠ (Value.slice a' n c').ownBlock := fun e => by have := (hob _ e.symm).1; omega
    have d0 : w3.cell? ⟨w1.heap.size, 0, none⟩ = some (.slice a' n c') := by rw [hgrow.cell_far ⟨w1.heap.size, 0, none⟩ (by simp; omega) hne1]; simp [go_sem]
    have d1 : w3.cell? ⟨w1.heap.size, 1, none⟩ = some (.int .i64 t) := by rw [hgrow.cell_far ⟨w1.heap.size, 1, none⟩ (by simp; omega) hne1]; simp [go_sem]
    have d2 : w3.frozen? ⟨w1.heap.size, 0, none⟩ = false := by rw [hgrow.frozen_far ⟨w1.heap.size, 0, none⟩ (by simp; omega) hne1]; simp [go_sem]
    have d3 : w3.frozen? ⟨w1.heap.size, 1, none⟩ = false := by rw [hgrow.frozen_far ⟨w1.heap.size, 1, none⟩ (by simp; omega) hne1]; simp [go_sem]
    have z0 : w.heap.size < w1.heap.size := by omega
    have d4 : w3.cell? ⟨w.heap.size + 1, 0, none⟩ = some (.slice none 0 0) := by rw [hgrow.cell_far ⟨w.heap.size + 1, 0, none⟩ (by simp; omega) hne2]; simp [go_sem, z0, z1, p1]
    have d5 : w3.cell? ⟨w.heap.size + 1, 1, none⟩ = some (.int .i64 0) := by rw [hgrow.cell_far ⟨w.heap.size + 1, 1, none⟩ (by simp; omega) hne2]; simp [go_sem, z0, z1, p1]
    have d6 : w3.frozen? ⟨w.heap.size + 1, 0, none⟩ = false := by rw [hgrow.frozen_far ⟨w.heap.size + 1, 0, none⟩ (by simp; omega) hne2]; simp [go_sem, z0, z1, q1]
    have d7 : w3.frozen? ⟨w.heap.size + 1, 1, none⟩ = false := by rw [hgrow.frozen_far ⟨w.heap.size + 1, 1, none⟩ (by simp; omega) hne2]; simp [go_sem, z0, z1, q1]
    have gne2 : g2 ≠ w1.heap.size := fun e => by
      rw [e, hgrow.block w1.heap.size (by simp; omega) hne1, Below.heap_alloc _ _ _ (by simp), heap_alloc_new] at i3
      simp at i3
    have z3 : w1.heap.size < w3.heap.size := by have := hgrow.size; simp at this; omega
    have HO3 := Lib.hid ho3
    have HX3 := Lib.hid (((HX.out.alloc (Nat.le_of_lt (by omega)) (.cells #[.slice a' n c', .int .i64 t] 25)).alloc (by simp; omega) (.cells #[.string x] 9)).grown hgrow (by simp; omega) (fun j hj => by have := (hob j hj).1; omega))
    have i7 := Lib.hid i7
    clear hown' hgrow hnil ho3 i3 hown1 hob hne1 hne2
    go_wp2
    have hv1 : PV.1 = l ++ [x] := by rw [HQ.out]; unfold trimV; rw [if_neg (by rw [← HN1.out]; omega)]
    have hv2 : PV.1.length = n + 1 := by rw [hv1, ← HN1.out]
    have hv3 : PV.2 = (n : Int) := by have : PV.2 = (PV.1.length : Int) - 1 := by rw [HQ.out]
                                      omega
    rw [hv3, hv2, hv1]
    exact bodyPost_ret (v := .agg #[.slice (some ⟨g2, 0, none⟩) (n + 1) c2, .int .i64 (n : Int)]) (by simp [results, Try.results77, go_sem, d4, d5]) rfl ⟨_, _, rfl, (((own_krN HN1.out (own_setg (own_setg HO3.out gne2) gne2)).set (by omega)).set (by omega)).lo (by omega), (((HX3.out.setCell (p := ⟨w1.heap.size, 0, none⟩) (show w.heap.size ≤ w1.heap.size by omega) _).setCell (p := ⟨w1.heap.size, 1, none⟩) (show w.heap.size ≤ w1.heap.size by omega) _).setCell (p := ⟨w.heap.size + 1, 0, none⟩) (show w.heap.size ≤ w.heap.size + 1 by omega) _).setCell (p := ⟨w.heap.size + 1, 1, none⟩) (show w.heap.size ≤ w.heap.size + 1 by omega) _⟩
end Go.Proofs.Ytgmbpohbjhaghaa.kill
