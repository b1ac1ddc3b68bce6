/-
  A list of texts in an argument, its size, and what is known of rows and variables on the way through a law. For every such list.
-/
import Derived.Test.YtjjabfcdhknigaaStrs
namespace Go.Proofs.Ytjjabfcdhknigaa.kill
open Go.ChangeShapes Go.WideShapes Go.ChangeAt Go.RowKit
open Go.Proofs.Ytjjabfcdhknigaa.strs
/-- nil, or a row of n texts -/
structure IsTS (w : World) (a : Option Addr) (n C : Nat) (l : List ByteArray) : Prop where
  len : l.length = n
  max : n ≤ maxLen
  nil : a = none → C = 0 ∧ l = []
  row : SRow w a l
  sizes : ∀ s ∈ l, s.size ≤ maxLen
theorem sum_mem {l : List ByteArray} {s : ByteArray} (h : s ∈ l) : s.size ≤ sumTo l l.length := by
  obtain ⟨i, hi, rfl⟩ := List.getElem_of_mem h
  have h1 := sumTo_mono l (i + 1) l.length (by omega)
  have h2 : sumTo l (i + 1) = sumTo l i + (l[i]?.getD ⟨#[]⟩).size := rfl
  rw [List.getElem?_eq_getElem hi] at h2
  simp at h2
  omega
theorem szV_or (l : List ByteArray) : szV l 1048576 = -1 ∨ (0 ≤ szV l 1048576 ∧ l.length ≤ 1048576 ∧ ∀ s ∈ l, s.size ≤ 1048576) := by
  unfold szV
  split
  · exact .inl rfl
  · refine .inr ⟨by omega, by omega, fun s hs => ?_⟩
    have := sum_mem hs
    omega
/-- what is known of a world on the way: it only made memory, these rows and these cells stand -/
structure RS (w : World) (R : List (Option Addr × List ByteArray)) (S : List (Nat × Option Addr × Nat)) (V : List (Nat × Nat × Value)) (W : World) : Prop where
  bel : Below w.heap.size w W
  rows : ∀ r ∈ R, SRow W r.1 r.2
  blks : ∀ b ∈ S, SBlk b.1 W b.2.1 b.2.2
  vars : ∀ v ∈ V, W.cell? ⟨v.1, v.2.1, none⟩ = some v.2.2
theorem drew_below' (w : World) : Below w.heap.size w w.drew := (Below.refl _ w).drew
theorem RS.below {w W W2 : World} {R : List (Option Addr × List ByteArray)} {S : List (Nat × Option Addr × Nat)} {V : List (Nat × Nat × Value)} (h : RS w R S V W) (hb : Below W.heap.size W W2) : RS w R S V W2 :=
  ⟨bthen h.bel hb h.bel.size, fun r hr => (h.rows r hr).below hb, fun b hs => (h.blks b hs).below hb, fun v hv => by rw [hb.cell (p := ⟨v.1, v.2.1, none⟩) (blk_lt (h.vars v hv))]; exact h.vars v hv⟩
theorem SRow.off {w w' : World} {a b : Option Addr} {l : List ByteArray} {n : Nat} (h : SRow w a l) (hg : w.grownBy w' (blkN b n)) (hne : ∀ x, blkN a l.length = some x → blkN b n ≠ some x) : SRow w' a l :=
  h.kept hg fun hl => by
    by_cases hr : blkN b n = none
    · exact .inr hr
    · obtain ⟨x, hx⟩ := Option.ne_none_iff_exists'.1 hr
      refine .inl fun e => hne x ?_ hx
      unfold blkN
      rw [if_neg (fun e => hl (List.eq_nil_of_length_eq_zero e)), e, hx]
theorem SBlk.off {w w' : World} {a b : Option Addr} {B n m : Nat} (h : SBlk B w a n) (hg : w.grownBy w' (blkN b m)) (hne : ∀ x, blkN a n = some x → blkN b m ≠ some x) : SBlk B w' a n :=
  h.kept hg fun hn => by
    by_cases hr : blkN b m = none
    · exact .inr hr
    · obtain ⟨x, hx⟩ := Option.ne_none_iff_exists'.1 hr
      refine .inl fun e => hne x ?_ hx
      unfold blkN
      rw [if_neg hn, e, hx]
end Go.Proofs.Ytjjabfcdhknigaa.kill
