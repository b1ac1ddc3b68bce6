/-
  An argument that is a list of a number and a text each, opened: nil, or a row of such. Own work.
-/
import Derived.Test.YthdnhopkkgdclaaDiffHarness
import Derived.Test.YthdnhopkkgdclaaSpot
import Derived.Lib.SmallJoins
import Derived.Deep.Slices
namespace Go.Proofs.Ythdnhopkkgdclaa.diff
open Go.ChangeShapes Go.WideShapes Go.ChangeAt Go.RowKit Go.Deep Go.Joins
/-- nil, or a row of n changes -/
def IsKS (w : World) (a : Option Addr) (n C : Nat) (K : Nat → Int) (X : Nat → ByteArray) : Prop :=
  (a = none ∧ n = 0 ∧ C = 0) ∨ ∃ x, a = some x ∧ n ≤ maxLen ∧ RowA w x n K X ∧ (∀ i, i < n → (X i).size ≤ maxLen) ∧ ∀ i, i < n → (Lit.int .i64 (K i)).wf = true
def intAt (w : World) (a : Addr) : Int := match w.cell? a with
  | some (.int _ z) => z
  | _ => 0
def strAt (w : World) (a : Addr) : ByteArray := match w.cell? a with
  | some (.string s) => s
  | _ => ByteArray.empty
theorem open_KS {H : Type} {enc : TypeId × Value → H} {P : Program} {w : World} {base : Nat} {spare : Nat → Bool} {held : Bool} {t e : TypeId} {f0 f1 : Field} {a : Option Addr} {n C : Nat} {d : DataW H} {p : List MemPlace}
    (ht : P.underlying t = some (.slice e)) (he : P.underlying e = some (.struct #[f0, f1])) (hone : oneCellFields P #[f0, f1] = true) (hC : P.cellsOf e = 2)
    (h0 : P.underlying f0.type = some (.int .i64)) (h1 : P.underlying f1.type = some .string) (h : DataW.Trod enc P w base spare held t (.slice a n C) d p) :
    ∃ K X, IsKS w a n C K X := by
  obtain ⟨fuel, hf⟩ := h
  rcases open_slice ht hf with ⟨hcs, _⟩ | ⟨x, len, cap, m, f, D, Pl, hcs, _, hl, hm, hmm, _, hi⟩
  · simp [Value.cells] at hcs
    obtain ⟨rfl, rfl, rfl⟩ := hcs
    exact ⟨fun _ => 0, fun _ => ByteArray.empty, .inl ⟨rfl, rfl, rfl⟩⟩
  · simp [Value.cells] at hcs
    obtain ⟨rfl, rfl, rfl⟩ := hcs
    refine ⟨fun i => intAt w ⟨x.block, x.off + i * 2, none⟩, fun i => strAt w ⟨x.block, x.off + i * 2 + 1, none⟩, .inr ⟨x, rfl, by omega, ?_⟩⟩
    obtain ⟨o0, k0⟩ := hone_of hone 0 f0 rfl
    obtain ⟨o1, k1⟩ := hone_of hone 1 f1 rfl
    have part : ∀ i, i < n → ∃ z s, w.cell? ((x.add (i * 2)).add 0) = some (.int .i64 z) ∧ w.cell? ((x.add (i * 2)).add 1) = some (.string s) ∧ (Lit.int .i64 z).wf = true ∧ s.size ≤ maxLen := by
      intro i hin
      have him : i < m := by rw [hmm]; split <;> omega
      obtain ⟨cs', hc, hr⟩ := hi i him
      rw [hC] at hc
      obtain ⟨_, hcl, hat⟩ := World.cells?_some hc
      obtain ⟨y0, y1, f', _, _, t0, t1⟩ := trod_struct2 he hr
      match cs', hcl with
      | [c0, c1], _ =>
        rw [o0, k0] at t0
        rw [o1, k1] at t1
        obtain ⟨z, e0, _, wz⟩ := DataW.trod_int h0 (show DataW.trod enc P w base spare held f' f0.type [c0] = some y0 by simpa using t0)
        obtain ⟨s, e1, _, ws⟩ := DataW.trod_string h1 (show DataW.trod enc P w base spare held f' f1.type [c1] = some y1 by simpa using t1)
        simp at e0 e1
        subst e0 e1
        exact ⟨z, s, hat 0 (by omega), hat 1 (by omega), wz, ws⟩
    have hsp : 0 < n → x.spot = none := fun h => by
      obtain ⟨z, s, a0, _⟩ := part 0 h
      exact spot_none (show w.cell? x = some _ from a0)
    have key : ∀ i, i < n → ∃ z s, w.cell? ⟨x.block, x.off + i * 2, none⟩ = some (.int .i64 z) ∧ w.cell? ⟨x.block, x.off + i * 2 + 1, none⟩ = some (.string s) ∧ (Lit.int .i64 z).wf = true ∧ s.size ≤ maxLen := by
      intro i hin
      obtain ⟨z, s, a0, a1, wz, ws⟩ := part i hin
      have hs := hsp (by omega)
      rw [add_plain hs, add_plain rfl] at a0 a1
      exact ⟨z, s, a0, a1, wz, ws⟩
    refine ⟨⟨hsp, fun i hin => ?_, fun i hin => ?_⟩, fun i hin => ?_, fun i hin => ?_⟩
    · obtain ⟨z, s, a0, _⟩ := key i hin
      simp only [intAt, a0]
    · obtain ⟨z, s, _, a1, _⟩ := key i hin
      simp only [strAt, a1]
    · obtain ⟨z, s, _, a1, _, ws⟩ := key i hin
      simp only [strAt, a1]; exact ws
    · obtain ⟨z, s, a0, _, wz, _⟩ := key i hin
      simp only [intAt, a0]; exact wz
end Go.Proofs.Ythdnhopkkgdclaa.diff
