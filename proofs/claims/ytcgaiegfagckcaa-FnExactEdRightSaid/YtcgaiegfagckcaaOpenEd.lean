/-
  An editor in an argument, opened: its cells, and its three lists in memory. Own work.
-/
import Derived.Test.YtcgaiegfagckcaaEd
import Derived.Test.YtcgaiegfagckcaaOpenTS
import Derived.Test.YtcgaiegfagckcaaUndoLaw
import Derived.Lib.SmallJoins
namespace Go.Proofs.Ytcgaiegfagckcaa.ed
open Go.ChangeShapes Go.WideShapes Go.ChangeAt Go.RowKit Go.Deep Go.Joins
open Go.Proofs.Ytcgaiegfagckcaa.strs Go.Proofs.Ytcgaiegfagckcaa.lines Go.Proofs.Ytcgaiegfagckcaa.kill Go.Proofs.Ytcgaiegfagckcaa.undo
theorem array9 {α : Type} {cs : Array α} (h : cs.size = 9) : ∃ c0 c1 c2 c3 c4 c5 c6 c7 c8, cs = #[c0, c1, c2, c3, c4, c5, c6, c7, c8] := by
  obtain ⟨l⟩ := cs
  match l, h with
  | [c0, c1, c2, c3, c4, c5, c6, c7, c8], _ => exact ⟨c0, c1, c2, c3, c4, c5, c6, c7, c8, rfl⟩
/-- the reader of an editor's type: where its fields lie, and of what type they are -/
structure EdTypes (P : Program) (t : TypeId) (e : TypeId) : Prop where
  here : ∃ fL fK fU fH fI : Field, P.underlying t = some (.struct #[fL, fK, fU, fH, fI]) ∧ (fL.offset = 0 ∧ fK.offset = 2 ∧ fU.offset = 4 ∧ fH.offset = 5 ∧ fI.offset = 8) ∧
    (P.cellsOf fL.type = 2 ∧ P.cellsOf fK.type = 2 ∧ P.cellsOf fU.type = 1 ∧ P.cellsOf fH.type = 3 ∧ P.cellsOf fI.type = 1) ∧
    (∃ a b : Field, P.underlying fL.type = some (.struct #[a, b]) ∧ a.offset = 0 ∧ b.offset = 1 ∧ P.cellsOf a.type = 1 ∧ P.cellsOf b.type = 1 ∧ P.underlying a.type = some .string ∧ P.underlying b.type = some (.int .i64)) ∧
    (∃ (a b : Field) (s : TypeId), P.underlying fK.type = some (.struct #[a, b]) ∧ a.offset = 0 ∧ b.offset = 1 ∧ P.cellsOf a.type = 1 ∧ P.cellsOf b.type = 1 ∧ P.underlying a.type = some (.slice s) ∧ P.underlying s = some .string ∧ P.cellsOf s = 1 ∧ P.underlying b.type = some (.int .i64)) ∧
    (∃ a b : Field, P.underlying fU.type = some (.slice e) ∧ P.underlying e = some (.struct #[a, b]) ∧ oneCellFields P #[a, b] = true ∧ P.cellsOf e = 2 ∧ P.underlying a.type = some .string ∧ P.underlying b.type = some (.int .i64)) ∧
    (∃ (a b c : Field) (s : TypeId), P.underlying fH.type = some (.struct #[a, b, c]) ∧ a.offset = 0 ∧ b.offset = 1 ∧ c.offset = 2 ∧ P.cellsOf a.type = 1 ∧ P.cellsOf b.type = 1 ∧ P.cellsOf c.type = 1 ∧ P.underlying a.type = some (.slice s) ∧ P.underlying s = some .string ∧ P.cellsOf s = 1 ∧
      P.underlying b.type = some (.int .i64) ∧ P.underlying c.type = some .string) ∧
    P.underlying fI.type = some (.int .i64)
theorem open_Ed {H : Type} {enc : TypeId × Value → H} {P : Program} {w : World} {base : Nat} {spare : Nat → Bool} {held : Bool} {r : Reach} {b0 : Nat} {t e : TypeId} {v : Value} {d : DataW H} {p : List MemPlace}
    (T : EdTypes P t e) (hC : P.cellsOf t = 9) (hv : Value.okWide P w r b0 t v) (h : DataW.Trod enc P w base spare held t v d p) : ∃ v' A, v = eV v' A ∧ EIn w A v' := by
  obtain ⟨fL, fK, fU, fH, fI, ht, ⟨o0, o1, o2, o3, o4⟩, ⟨k0, k1, k2, k3, k4⟩, ⟨la, lb, hL, la0, lb1, lak, lbk, las, lbi⟩, ⟨ka, kb, ks, hK, ka0, kb1, kak, kbk, kas, kss, ksk, kbi⟩, ⟨ua, ub, hU, hUe, hone, hUc, uas, ubi⟩,
    ⟨ha, hb, hc, hs, hH, ha0, hb1, hc2, hak, hbk, hck, has, hss, hsk, hbi, hcs⟩, hI⟩ := T.here
  obtain ⟨cs, rfl, hsz⟩ := okWide_struct ht hv
  obtain ⟨c0, c1, c2, c3, c4, c5, c6, c7, c8, rfl⟩ := array9 (hsz.trans hC)
  obtain ⟨fuel, hf⟩ := h
  obtain ⟨xs, n, _, hx, hl, hlen, hfs⟩ := DataW.trod_struct ht hf
  match xs, hlen with
  | [y0, y1, y2, y3, y4], _ =>
    have r0 := hfs 0 fL rfl
    have r1 := hfs 1 fK rfl
    have r2 := hfs 2 fU rfl
    have r3 := hfs 3 fH rfl
    have r4 := hfs 4 fI rfl
    rw [o0, k0] at r0
    rw [o1, k1] at r1
    rw [o2, k2] at r2
    rw [o3, k3] at r3
    rw [o4, k4] at r4
    replace r0 : DataW.trod enc P w base spare held n fL.type [c0, c1] = some y0 := r0
    replace r1 : DataW.trod enc P w base spare held n fK.type [c2, c3] = some y1 := r1
    replace r2 : DataW.trod enc P w base spare held n fU.type [c4] = some y2 := r2
    replace r3 : DataW.trod enc P w base spare held n fH.type [c5, c6, c7] = some y3 := r3
    replace r4 : DataW.trod enc P w base spare held n fI.type [c8] = some y4 := r4
    obtain ⟨z0, z1, m0, _, _, s0, s1⟩ := trod_struct2 hL r0
    rw [la0, lak] at s0
    rw [lb1, lbk] at s1
    obtain ⟨x, e0, _, wx⟩ := DataW.trod_string las (show DataW.trod enc P w base spare held m0 la.type [c0] = some z0 from s0)
    obtain ⟨i, e1, _, _⟩ := DataW.trod_int lbi (show DataW.trod enc P w base spare held m0 lb.type [c1] = some z1 from s1)
    obtain ⟨z2, z3, m1, _, _, s2, s3⟩ := trod_struct2 hK r1
    rw [ka0, kak] at s2
    rw [kb1, kbk] at s3
    obtain ⟨a1, n1, C1, l1, e2, T1⟩ := open_TS kas kss ksk (show DataW.trod enc P w base spare held m1 ka.type [c2] = some z2 from s2)
    obtain ⟨kt, e3, _, _⟩ := DataW.trod_int kbi (show DataW.trod enc P w base spare held m1 kb.type [c3] = some z3 from s3)
    obtain ⟨a2', n2', C2', e4'⟩ := slice_form hU r2
    have e4 : c4 = .slice a2' n2' C2' := by simpa using e4'
    have tr : DataW.Trod enc P w base spare held fU.type c4 y2.1 y2.2 := by
      refine ⟨n, ?_⟩
      rw [e4]
      rw [e4] at r2
      exact r2
    obtain ⟨a2, n2, C2, l2, e4, T2⟩ := open_LS hU hUe hone hUc uas ubi ⟨_, _, _, e4⟩ tr
    obtain ⟨z5, z6, z7, m3, _, _, s5, s6, s7⟩ := trod_struct3 hH r3
    rw [ha0, hak] at s5
    rw [hb1, hbk] at s6
    rw [hc2, hck] at s7
    obtain ⟨a3, n3, C3, l3, e5, T3⟩ := open_TS has hss hsk (show DataW.trod enc P w base spare held m3 ha.type [c5] = some z5 from s5)
    obtain ⟨tt, e6, _, _⟩ := DataW.trod_int hbi (show DataW.trod enc P w base spare held m3 hb.type [c6] = some z6 from s6)
    obtain ⟨kk, e7, _, wk⟩ := DataW.trod_string hcs (show DataW.trod enc P w base spare held m3 hc.type [c7] = some z7 from s7)
    obtain ⟨la', e8, _, _⟩ := DataW.trod_int hI r4
    simp at e0 e1 e3 e6 e7 e8
    subst e0 e1 e2 e3 e4 e5 e6 e7 e8
    obtain ⟨rfl, q1, _, q2, q3⟩ := T1
    obtain ⟨rfl, u1, _, u2, u3, _⟩ := T2
    obtain ⟨rfl, g1, _, g2, g3⟩ := T3
    exact ⟨⟨x, i, l1, kt, l2, l3, tt, kk, la'⟩, ⟨a1, C1, a2, C2, a3, C3⟩, rfl, ⟨⟨q2, u2, g2⟩, wx, q1, q3, u1, u3, g1, g3, wk⟩⟩
end Go.Proofs.Ytcgaiegfagckcaa.ed
