/-
  The model's UndoPut. For every list of at most a million lines.
-/
import Derived.Test.YtgmbpohbjhaghaaUndoPut
namespace Go.Proofs.Ytgmbpohbjhaghaa.undo
open Go.ChangeShapes Go.WideShapes Go.ChangeAt Go.RowKit
open Go.Proofs.Ytgmbpohbjhaghaa.strs Go.Proofs.Ytgmbpohbjhaghaa.lines Go.Proofs.Ytgmbpohbjhaghaa.line
open Go.Proofs.Ytgmbpohbjhaghaa.kill (own_later own_lo)
/-- an append in a plain region, its run known -/
theorem list_append_run {P : Program} {w : World} {ops : Array Oper} {rest : List Oper} {o : Oper} {a : Act} {Q : Exit → Act → World → Prop} (hgd : o.guard = none) (s x : Operand) (t : TypeId)
    (ho : o.op = .call { callee := .builtin .append, args := #[s, x], argTypes := #[t, t] }) (v xv : Value) (hs : a.eval s = v) (hx : a.eval x = xv) (v' : Value) (w' : World)
    (hrun : (Builtin.append_ #[t, t] o.type #[v, xv]).run P w = .ok v' w') (h : wpList P ops Q rest (a.put o.dst v') w') : wpList P ops Q (o :: rest) a w := by
  refine wpList_plain hgd fun K hK' => ?_
  unfold Oper.wp
  simp [execOp, ho, resolve, invoke, builtin, hs, hx, hrun, Result.andThen]
  exact hK' _ _ h
set_option maxRecDepth 4000 in
theorem append_copyL (W : World) (base B : Nat) (hB : W.heap[B]? = some (.cells #[] 33 (0, 0))) (hb : base ≤ B) (a : Option Addr) (C : Nat) (l : List (ByteArray × Int)) (h : LRow W a l) (hz : a = none → C = 0 ∧ l = []) (hn : l.length ≤ 1048576) (ty : TypeId) :
    ∃ v' W', (Builtin.append_ #[31, 31] ty #[.slice (some ⟨B, 0, none⟩) 0 0, .slice a l.length C]).run Try.prog W = .ok v' W' ∧ W'.ownsRow base 33 2 v' l.length (lCells l) ∧ W.grownBy W' (some B) := by
  obtain ⟨i0, hi, hz0, hz1, hz2⟩ := info_parts infoL
  have hBl : B < W.heap.size := (Array.getElem?_eq_some_iff.1 hB).1
  have hown : W.ownsRow base 33 2 (.slice (some ⟨B, 0, none⟩) 0 0) 0 [] := ⟨rfl, .inr ⟨B, 0, #[], rfl, hb, hB, Nat.le_refl _, Nat.zero_le _, rfl, rfl⟩⟩
  cases a with
  | none =>
    obtain ⟨rfl, rfl⟩ := hz rfl
    exact ⟨_, W, run_append_owned_none (P := Try.prog) (w := W) base 31 ty 33 i0 2 Try.underlying31 hi _ 0 [] hown, hown, grown_refl _ _⟩
  | some ad =>
    obtain ⟨v', W', hr, h2, h3, _⟩ := run_append_own (P := Try.prog) (w := W) base 31 ty 33 i0 (lV ⟨#[]⟩ 0) 2 24 Try.underlying31 hi hz0 hz1 hz2 rfl (by decide) (.slice (some ⟨B, 0, none⟩) 0 0) 0 [] hown ad l.length C (lCells l) (lCells_len l)
      (row_cells h ad rfl) (lCells_one_cell l) (by unfold maxLen; omega) (by omega) (by omega)
    rw [Nat.zero_add] at h2
    exact ⟨v', W', hr, by simpa using h2, h3⟩
theorem draws_below (B : Nat) (w : World) (q : Nat) : Below B w (w.drewN q) := ⟨rfl, rfl, rfl, Nat.le_refl _, fun _ _ => rfl⟩
def undV (l : List (ByteArray × Int)) (s : ByteArray) (z : Int) : List (ByteArray × Int) := if endsB l s = true then l else trimL (l ++ [(s, z)])
set_option maxRecDepth 20000 in
set_option maxHeartbeats 1600000 in
theorem specUnd_any (a : Option Addr) (C : Nat) (l : List (ByteArray × Int)) (s : ByteArray) (z : Int) (hn : l.length ≤ 1048000) (hz : a = none → C = 0 ∧ l = []) (w : World) (h : LRow w a l) :
    Calls Try.prog 82 #[.slice a l.length C, lV s z] w fun e w' => ∃ a' c', e = .returned (.slice a' (undV l s z).length c') ∧ LRow w' a' (undV l s z) ∧ (undV l s z).length ≤ c' ∧ (a' = none → c' = 0 ∧ undV l s z = []) ∧
      (l.length < 20 → w'.ownsRow w.heap.size 33 2 (.slice a' (undV l s z).length c') (undV l s z).length (lCells (undV l s z))) ∧ Below w.heap.size w w' := by
  obtain ⟨i0, hi, hz0, hz1, hz2⟩ := info_parts infoL
  have hal := ((Below.refl _ w).alloc (Nat.le_refl _) (.cells #[.string s, .int .i64 z] 33)).alloc (by simp) (.cells #[] 33)
  obtain ⟨v', W', hrun, hown, hgr⟩ := append_copyL ((w.alloc (.cells #[.string s, .int .i64 z] 33)).alloc (.cells #[] 33)) (w.heap.size + 1) (w.heap.size + 1)
    (by have h3 := heap_alloc_new (w.alloc (.cells #[.string s, .int .i64 z] 33)) (.cells #[] 33); simpa using h3) (Nat.le_refl _) a C l (h.below hal) hz (by omega) 31
  obtain ⟨a', c', rfl, o1, o2, o3, o4⟩ := own_lines hown
  have HO := Lib.hid (show W'.ownsRow (w.heap.size + 1) 33 2 (.slice a' l.length c') l.length (lCells l) from hown)
  have HR := Lib.hid o3
  have d0 : W'.cell? ⟨w.heap.size, 0, none⟩ = some (.string s) := hgr.cell (a := ⟨w.heap.size, 0, none⟩) (by simp [go_sem]) (by simp)
  have d1 : W'.cell? ⟨w.heap.size, 1, none⟩ = some (.int .i64 z) := hgr.cell (a := ⟨w.heap.size, 1, none⟩) (by simp [go_sem]) (by simp)
  have HB := Lib.hid (hal.grown hgr (by simp; omega) (fun j hj => by cases hj; omega))
  have zW : w.heap.size + 1 ≤ W'.heap.size := by have := hgr.size; simp at this; omega
  have HRUN := Lib.hid hrun
  have HN1 := Lib.hid o1
  have HN2 := Lib.hid o2
  unfold lV
  have hn2 : l.length ≤ 1048576 := by omega
  by_cases hl : l.length = 0
  · obtain rfl : l = [] := List.eq_nil_of_length_eq_zero hl
    have HV := Lib.hid (show undV [] s z = [(s, z)] by unfold undV; rw [show endsB [] s = false from rfl]; rfl)
    rw [HV.out]
    clear h hz hn hal hrun hown hgr o1 o2 o3 o4 hl hn2 HR HN1 HN2
    go_enter Try.func82, Try.ntmps82
    go_wp2_with (first | (refine list_append_run rfl _ _ _ rfl _ _ rfl rfl _ _ HRUN.out ?_))
    go_quiet (fail)
    have HOq := Lib.hid (own_later HO.out (draws_below W'.heap.size W' nq))
    have HBq := Lib.hid (HB.out.trans (draws_below w.heap.size W' nq))
    have HLT := Lib.hid HO.out.lt
    clear HO HB
    go_wp2_with (first | (at_builtin; refine wpList_append_own _ rfl _ _ 31 rfl (w.heap.size + 1) 33 i0 (lV ⟨#[]⟩ 0) 2 24 Try.underlying31 hi hz0 hz1 hz2 rfl (by decide) _ _ _ rfl (HOq.out.alloc _) ⟨W'.heap.size, 0, none⟩ 1 1 [.string s, .int .i64 z] rfl rfl ?c1 ?c2 ?c3 ?c4 ?c5 ?_))
    case c1 =>
      intro j u hj
      match j, hj with
      | 0, hj => simp at hj; subst hj; simp [Addr.add, World.drewN]
      | 1, hj => simp at hj; subst hj; simp [Addr.add, World.drewN]
    case c2 => intro u hu; simp at hu; rcases hu with rfl | rfl <;> rfl
    case c3 => unfold maxLen; first | omega | (simp; omega) | simp
    case c4 => first | omega | (simp; omega) | simp
    case c5 => simp [World.drewN]; omega
    intro v' w4 hown' hgrow hnil
    obtain ⟨a4, c4, rfl, q1, q2, q3, q4⟩ := own_lines (l := [(s, z)]) hown'
    have HO4 := Lib.hid (show w4.ownsRow w.heap.size 33 2 (.slice a4 1 c4) 1 (lCells [(s, z)]) from own_lo hown' (by omega))
    have HB4 := Lib.hid ((HBq.out.alloc (by simp [World.drewN]; omega) (.cells #[.string s, .int .i64 z] 33)).grown hgrow (by simp [World.drewN]; omega) (fun j hj => by have := (HLT.out j hj).1; omega))
    have Q1 := Lib.hid q1
    have Q2 := Lib.hid q2
    have Q3 := Lib.hid q3
    clear hown' hgrow hnil q1 q2 q3 q4
    go_wp2
    go_ret
    exact ⟨a4, c4, rfl, Q3.out, Q1.out, Q2.out, fun _ => HO4.out, HB4.out⟩
  · obtain ⟨m, hm⟩ : ∃ m, l.length = m + 1 := ⟨l.length - 1, by omega⟩
    have hml : m < l.length := by omega
    obtain ⟨g, cap, e1, e2, e3⟩ := World.ownsRow.form hown (by omega)
    injection e1 with e1 e1b e1c
    subst e1 e1c
    obtain ⟨g', o', e4, c0, c0b⟩ := HR.out.at hml
    clear c0b
    injection e4 with e4
    injection e4 with e4 e5 e6
    subst e4 e5
    clear e6 e1b
    rw [Nat.zero_add] at c0
    have HE := Lib.hid (show endsB l s = (l[m].1.toList == s.toList) by unfold endsB; rw [show l.length - 1 = m by omega, List.getElem?_eq_getElem hml])
    obtain ⟨y, hy⟩ : ∃ y, y = l[m].1 := ⟨_, rfl⟩
    rw [← hy] at c0 HE
    have hm2 : m ≤ 1048000 := by omega
    have gne : g ≠ w.heap.size := by omega
    have HLN := Lib.hid hm
    have HRW := Lib.hid (show LRow W' (some ⟨g, 0, none⟩) l from o3)
    have HC := Lib.hid (show m + 1 ≤ c' by omega)
    cases hb : (y.toList == s.toList)
    · have HV := Lib.hid (show undV l s z = trimL (l ++ [(s, z)]) by unfold undV; rw [HE.out, hb]; rfl)
      have HB0 := Lib.hid hb
      rw [HV.out]
      have HAP := Lib.hid (show lCells l ++ [.string s, .int .i64 z] = lCells (l ++ [(s, z)]) by rw [lCells_append, lCells_one])
      have HLE := Lib.hid (show (l ++ [(s, z)]).length = m + 1 + 1 by simp; omega)
      rw [hm] at HO HRUN ⊢
      clear h hz hn hal hrun hown hgr o1 o2 o3 o4 hl hn2 HR HN1 HN2 hy hml hb HE HRW HC hm
      go_enter Try.func82, Try.ntmps82
      go_wp2_with (first | (refine list_append_run rfl _ _ _ rfl _ _ rfl rfl _ _ HRUN.out ?_))
      have hb := HB0.out
      go_quiet (fail)
      have HOq := Lib.hid (own_later HO.out (draws_below W'.heap.size W' nq))
      have HBq := Lib.hid (HB.out.trans (draws_below w.heap.size W' nq))
      have HLT := Lib.hid HO.out.lt
      clear HO HB
      go_wp2_with (first | (at_builtin; refine wpList_append_own _ rfl _ _ 31 rfl (w.heap.size + 1) 33 i0 (lV ⟨#[]⟩ 0) 2 24 Try.underlying31 hi hz0 hz1 hz2 rfl (by decide) _ _ _ rfl (HOq.out.alloc _) ⟨W'.heap.size, 0, none⟩ 1 1 [.string s, .int .i64 z] rfl rfl ?c1 ?c2 ?c3 ?c4 ?c5 ?_))
      case c1 =>
        intro j u hj
        match j, hj with
        | 0, hj => simp at hj; subst hj; simp [Addr.add, World.drewN]
        | 1, hj => simp at hj; subst hj; simp [Addr.add, World.drewN]
      case c2 => intro u hu; simp at hu; rcases hu with rfl | rfl <;> rfl
      case c3 => unfold maxLen; omega
      case c4 => omega
      case c5 => simp [World.drewN]; omega
      intro v' w4 hown' hgrow hnil
      rw [HAP.out] at hown'
      have hown2 : w4.ownsRow w.heap.size 33 2 v' (m + 1 + 1) (lCells (l ++ [(s, z)])) := own_lo hown' (by omega)
      have HO4 := Lib.hid hown2
      obtain ⟨g4, c4, rfl, q5, q6⟩ := World.ownsRow.form hown' (by omega)
      obtain ⟨a5, c5, e5, q1, q2, q3, q4⟩ := own_lines (l := l ++ [(s, z)]) (by rw [HLE.out]; exact hown2)
      injection e5 with e5 e5b e5c
      subst e5 e5c
      have HB4 := Lib.hid ((HBq.out.alloc (by simp [World.drewN]; omega) (.cells #[.string s, .int .i64 z] 33)).grown hgrow (by simp [World.drewN]; omega) (fun j hj => by have := (HLT.out j hj).1; omega))
      have Q1 := Lib.hid (show m + 1 + 1 ≤ c4 by rw [HLE.out] at q1; exact q1)
      have Q3 := Lib.hid q3
      have hq1 := Q1.out
      clear hown' hown2 hgrow hnil q1 q2 q3 q4 q5 q6 e5b
      by_cases h20 : m + 1 + 1 ≤ 20
      · have HT := Lib.hid (show trimL (l ++ [(s, z)]) = l ++ [(s, z)] by unfold trimL; rw [if_neg (by rw [HLE.out]; omega)])
        clear hq1
        go_wp2
        rw [HT.out, HLE.out]
        go_ret
        exact ⟨some ⟨g4, 0, none⟩, c4, rfl, Q3.out, Q1.out, (fun e => by cases e), fun _ => HO4.out, HB4.out⟩
      · have HT := Lib.hid (show trimL (l ++ [(s, z)]) = (l ++ [(s, z)]).drop 1 by unfold trimL; rw [if_pos (by rw [HLE.out]; omega)])
        have hsl : ∀ W, (Instr.slice 31 (.slice (some ⟨g4, 0, none⟩) (m + 1 + 1) c4) (some (.int .i64 1)) none none).run Try.prog W = .ok (.slice (some ⟨g4, 2, none⟩) (m + 1) (c4 - 1)) W := fun W => by
          rw [run_slice_l W 31 (some ⟨g4, 0, none⟩) (m + 1 + 1) c4 (by rw [elemR]; exact Try.underlying31) .i64 1 (by omega) (by omega), sizeR]
          have : ¬ c4 = 1 := by omega
          simp [Result.andThen, sliced, this, Addr.add]
        have HLD := Lib.hid (show ((l ++ [(s, z)]).drop 1).length = m + 1 by rw [List.length_drop, HLE.out]; omega)
        have HC4 := Lib.hid (show m + 1 ≤ c4 - 1 by omega)
        clear hq1
        go_wp2
        rw [HT.out, HLD.out]
        go_ret
        exact ⟨some ⟨g4, 2, none⟩, c4 - 1, rfl, rowL_drop Q3.out 1, HC4.out, (fun e => by cases e), (fun e => by omega), HB4.out⟩
    · have HV := Lib.hid (show undV l s z = l by unfold undV; rw [HE.out, hb]; rfl)
      have HB0 := Lib.hid hb
      rw [HV.out]
      rw [hm] at HO HRUN ⊢
      clear h hz hn hal hrun hown hgr o1 o2 o3 o4 hl hn2 HR HN1 HN2 hy hml hb HE hm
      go_enter Try.func82, Try.ntmps82
      go_wp2_with (first | (refine list_append_run rfl _ _ _ rfl _ _ rfl rfl _ _ HRUN.out ?_))
      have hb := HB0.out
      go_quiet (fail)
      have HOq := Lib.hid (own_lo (own_later HO.out (draws_below W'.heap.size W' nq)) (Nat.le_succ _))
      have HBq := Lib.hid (HB.out.trans (draws_below w.heap.size W' nq))
      have HRq := Lib.hid (HRW.out.below (draws_below W'.heap.size W' nq))
      go_wp2
      go_ret
      exact ⟨some ⟨g, 0, none⟩, c', rfl, HRq.out, HC.out, (fun e => by cases e), fun _ => HOq.out, HBq.out⟩
theorem undo_back (l : List (ByteArray × Int)) (s : ByteArray) (z : Int) (h : undosB l = false ∨ lineB s z = false) : undoV l s z = l := by
  unfold undoV
  rcases h with h | h <;> rw [h] <;> simp
theorem undo_und (l : List (ByteArray × Int)) (s : ByteArray) (z : Int) (h : undosB l = true) (h2 : lineB s z = true) : undoV l s z = undV l s z := by
  unfold undoV undV
  rw [h, h2]
  cases endsB l s <;> simp
set_option maxRecDepth 20000 in
set_option maxHeartbeats 1600000 in
theorem specUndo_any (a : Option Addr) (C : Nat) (l : List (ByteArray × Int)) (s : ByteArray) (z : Int) (hn : l.length ≤ 1048000) (hl : ∀ y ∈ l, y.1.size ≤ maxLen) (hs : s.size ≤ maxLen) (hz : a = none → C = 0 ∧ l = []) (w : World) (h : LRow w a l) :
    Calls Try.prog 25 #[.slice a l.length C, lV s z] w fun e w' => ∃ a' c', e = .returned (.slice a' (undoV l s z).length c') ∧ LRow w' a' (undoV l s z) ∧ Below w.heap.size w w' := by
  have hal := (Below.refl _ w).alloc (Nat.le_refl _) (.cells #[.string s, .int .i64 z] 33)
  have HB := Lib.hid hal
  have HA := Lib.hid (fun W (hb : Below w.heap.size w W) => h.below hb)
  have HU := Lib.hid (fun W (h : LRow W a l) => specUndos_any a C l (by omega) hl W h)
  have HL := Lib.hid (fun W => specLine_any s z hs W)
  have HCP := Lib.hid (fun w1 (hb : Below w.heap.size w w1) => append_copyL (w1.alloc (.cells #[] 33)) w1.heap.size w1.heap.size (heap_alloc_new w1 (.cells #[] 33)) (Nat.le_refl _) a C l (h.below (bthen hb ((Below.refl _ w1).alloc (Nat.le_refl _) _) hb.size)) hz (by omega) 31)
  have HD := Lib.hid (fun W (h : LRow W a l) => specUnd_any a C l s z hn hz W h)
  have HBK := Lib.hid (undo_back l s z)
  have HUN := Lib.hid (undo_und l s z)
  unfold lV at HD ⊢
  clear h hl hs hz hal
  cases hu : undosB l
  · have HV := Lib.hid (HBK.out (.inl hu))
    rw [HV.out]
    rw [hu] at HU
    obtain ⟨n, hn'⟩ : ∃ n, n = l.length := ⟨_, rfl⟩
    have HNL := Lib.hid hn'
    rw [← hn'] at HU HCP hn ⊢
    clear hn' HV HD HL hu HBK HUN
    go_enter Try.func25, Try.ntmps25
    go_wp2_with fail
    refine (HU.out _ (HA.out _ HB.out)).mono ?_
    rintro e w1 ⟨rfl, hb⟩
    have HX1 := Lib.hid (bthen HB.out hb (by simp))
    clear hb
    obtain ⟨v', W', hrun, hown, hgr⟩ := HCP.out w1 HX1.out
    obtain ⟨a', c', rfl, o1, o2, o3, o4⟩ := own_lines (l := l) (by rw [← HNL.out]; exact hown)
    have HRUN := Lib.hid hrun
    have HR := Lib.hid o3
    have HX2 := Lib.hid ((HX1.out.alloc HX1.out.size (.cells #[] 33)).grown hgr (by have := HX1.out.size; simp; omega) (fun j hj => by cases hj; exact HX1.out.size))
    rw [← HNL.out] at HRUN
    clear hrun hown hgr o1 o2 o3 o4
    go_wp2_with (first | (refine list_append_run rfl _ _ _ rfl _ _ rfl rfl _ _ HRUN.out ?_))
    go_ret
    exact ⟨a', c', rfl, HR.out, HX2.out⟩
  cases hb : lineB s z
  · have HV := Lib.hid (HBK.out (.inr hb))
    rw [HV.out]
    rw [hu] at HU
    rw [hb] at HL
    obtain ⟨n, hn'⟩ : ∃ n, n = l.length := ⟨_, rfl⟩
    have HNL := Lib.hid hn'
    rw [← hn'] at HU HCP hn ⊢
    clear hn' HV HD hu hb HBK HUN
    go_enter Try.func25, Try.ntmps25
    go_wp2_with fail
    refine (HU.out _ (HA.out _ HB.out)).mono ?_
    rintro e w0 ⟨rfl, hb⟩
    have HX0 := Lib.hid (bthen HB.out hb (by simp))
    obtain ⟨p0, _⟩ := keepC hb (g := w.heap.size) (by simp)
    have c0 : w0.cell? ⟨w.heap.size, 0, none⟩ = some (.string s) := by rw [p0 0]; simp [go_sem]
    have c1 : w0.cell? ⟨w.heap.size, 1, none⟩ = some (.int .i64 z) := by rw [p0 1]; simp [go_sem]
    clear hb p0
    go_wp2_with fail
    refine (HL.out _).mono ?_
    rintro e w1 ⟨rfl, hb⟩
    have HX1 := Lib.hid (bthen HX0.out hb HX0.out.size)
    clear hb c0 c1
    obtain ⟨v', W', hrun, hown, hgr⟩ := HCP.out w1 HX1.out
    obtain ⟨a', c', rfl, o1, o2, o3, o4⟩ := own_lines (l := l) (by rw [← HNL.out]; exact hown)
    have HRUN := Lib.hid hrun
    have HR := Lib.hid o3
    have HX2 := Lib.hid ((HX1.out.alloc HX1.out.size (.cells #[] 33)).grown hgr (by have := HX1.out.size; simp; omega) (fun j hj => by cases hj; exact HX1.out.size))
    rw [← HNL.out] at HRUN
    clear hrun hown hgr o1 o2 o3 o4
    go_wp2_with (first | (refine list_append_run rfl _ _ _ rfl _ _ rfl rfl _ _ HRUN.out ?_))
    go_ret
    exact ⟨a', c', rfl, HR.out, HX2.out⟩
  · have HV := Lib.hid (HUN.out hu hb)
    rw [HV.out]
    rw [hu] at HU
    rw [hb] at HL
    obtain ⟨V, hVV⟩ : ∃ V, V = undV l s z := ⟨_, rfl⟩
    obtain ⟨n, hn'⟩ : ∃ n, n = l.length := ⟨_, rfl⟩
    rw [← hVV] at HD ⊢
    rw [← hn'] at HU HD hn ⊢
    clear hn' HV HCP hu hb HBK HUN hVV
    go_enter Try.func25, Try.ntmps25
    go_wp2_with fail
    refine (HU.out _ (HA.out _ HB.out)).mono ?_
    rintro e w0 ⟨rfl, hb⟩
    have HX0 := Lib.hid (bthen HB.out hb (by simp))
    obtain ⟨p0, _⟩ := keepC hb (g := w.heap.size) (by simp)
    have c0 : w0.cell? ⟨w.heap.size, 0, none⟩ = some (.string s) := by rw [p0 0]; simp [go_sem]
    have c1 : w0.cell? ⟨w.heap.size, 1, none⟩ = some (.int .i64 z) := by rw [p0 1]; simp [go_sem]
    have z0 : w.heap.size < w0.heap.size := by have := hb.size; simp at this; omega
    clear hb p0
    go_wp2_with fail
    refine (HL.out _).mono ?_
    rintro e w1 ⟨rfl, hb⟩
    have HX1 := Lib.hid (bthen HX0.out hb HX0.out.size)
    obtain ⟨p0, _⟩ := keepC hb (g := w.heap.size) z0
    have c0 := (p0 0).trans c0
    have c1 := (p0 1).trans c1
    clear hb p0
    go_wp2_with fail
    refine (HD.out _ (HA.out _ HX1.out)).mono ?_
    rintro e w2 ⟨a', c', rfl, hr, _, _, _, hb⟩
    have HX2 := Lib.hid (bthen HX1.out hb HX1.out.size)
    have HR := Lib.hid hr
    clear hb hr c0 c1
    go_wp2
    go_ret
    exact ⟨a', c', rfl, HR.out, HX2.out⟩
end Go.Proofs.Ytgmbpohbjhaghaa.undo
