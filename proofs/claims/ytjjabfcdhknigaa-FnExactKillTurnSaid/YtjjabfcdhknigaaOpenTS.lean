/-
  A list of texts in an argument (a field of a struct, or the argument itself), opened: nil, or a row of texts. Own work.
-/
import Derived.Test.YtjjabfcdhknigaaTexts
import Derived.Test.YtjjabfcdhknigaaSpot
import Derived.Lib.SmallJoins
import Derived.Deep.Slices
namespace Go.Proofs.Ytjjabfcdhknigaa.kill
open Go.ChangeShapes Go.WideShapes Go.ChangeAt Go.RowKit Go.Deep Go.Joins
open Go.Proofs.Ytjjabfcdhknigaa.strs
def textAt (w : World) (a : Addr) : ByteArray := match w.cell? a with
  | some (.string s) => s
  | _ => ByteArray.empty
theorem open_TS {H : Type} {enc : TypeId × Value → H} {P : Program} {w : World} {base : Nat} {spare : Nat → Bool} {held : Bool} {t e : TypeId} {c : Value} {fuel : Nat} {y : DataW H × List MemPlace}
    (ht : P.underlying t = some (.slice e)) (he : P.underlying e = some .string) (hC : P.cellsOf e = 1) (hf : DataW.trod enc P w base spare held fuel t [c] = some y) :
    ∃ a n C l, c = .slice a n C ∧ IsTS w a n C l := by
  obtain ⟨d, p⟩ := y
  rcases open_slice ht hf with ⟨hcs, _⟩ | ⟨x, len, cap, m, f, D, Pl, hcs, _, hl, hm, hmm, _, hi⟩
  · simp at hcs
    subst hcs
    exact ⟨none, 0, 0, [], rfl, rfl, Nat.zero_le _, fun _ => ⟨rfl, rfl⟩, SRow.nil _ _, fun s h => absurd h List.not_mem_nil⟩
  · simp at hcs
    subst hcs
    have part : ∀ i, i < len → ∃ s, w.cell? (x.add i) = some (.string s) ∧ s.size ≤ maxLen := by
      intro i hin
      have him : i < m := by rw [hmm]; split <;> omega
      obtain ⟨cs', hc, hr⟩ := hi i him
      rw [hC] at hc
      obtain ⟨_, hcl, hat⟩ := World.cells?_some hc
      match cs', hcl with
      | [c0], _ =>
        obtain ⟨s, e1, _, ws⟩ := DataW.trod_string he hr
        simp at e1
        subst e1
        have h0 := hat 0 (by omega)
        refine ⟨s, ?_, ws⟩
        simpa [Addr.add] using h0
    have hsp : 0 < len → x.spot = none := fun h => by
      obtain ⟨s, a0, _⟩ := part 0 h
      exact spot_none (show w.cell? x = some _ from a0)
    have key : ∀ i, i < len → ∃ s, w.cell? ⟨x.block, x.off + i, none⟩ = some (.string s) ∧ s.size ≤ maxLen := by
      intro i hin
      obtain ⟨s, a0, ws⟩ := part i hin
      rw [add_plain (hsp (by omega))] at a0
      exact ⟨s, a0, ws⟩
    refine ⟨some x, len, cap, (List.range len).map fun i => textAt w ⟨x.block, x.off + i, none⟩, rfl, by simp, by omega, (fun e => by cases e), ⟨fun hl => ?_⟩, fun s hs => ?_⟩
    · have hpos : 0 < len := by
        rcases Nat.eq_zero_or_pos len with h | h
        · subst h; exact absurd rfl hl
        · exact h
      have hx := hsp hpos
      obtain ⟨b, o, sp⟩ := x
      obtain rfl : sp = none := hx
      refine ⟨b, o, rfl, fun i hi => ?_⟩
      have hin : i < len := by simpa using hi
      obtain ⟨s, a0, _⟩ := key i hin
      simp only [List.getElem_map, List.getElem_range, textAt, a0]
    · obtain ⟨i, hi, rfl⟩ := List.mem_map.1 hs
      obtain ⟨s, a0, ws⟩ := key i (by simpa using hi)
      simp only [textAt, a0]
      exact ws
end Go.Proofs.Ytjjabfcdhknigaa.kill
