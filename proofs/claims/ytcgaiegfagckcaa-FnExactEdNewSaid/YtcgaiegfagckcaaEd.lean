/-
  An editor as a value: its cells, its three lists in memory, what is known of them on the way through a law. For every such value.
-/
import Derived.Test.YtcgaiegfagckcaaKillHarness
import Derived.Test.YtcgaiegfagckcaaHistHarness
import Derived.Test.YtcgaiegfagckcaaLines
import Derived.Test.YtcgaiegfagckcaaTexts
import Derived.Deep.AppendLies
namespace Go.Proofs.Ytcgaiegfagckcaa.ed
open Go.ChangeShapes Go.WideShapes Go.ChangeAt Go.RowKit
open Go.Proofs.Ytcgaiegfagckcaa.strs Go.Proofs.Ytcgaiegfagckcaa.lines
open Go.Proofs.Ytcgaiegfagckcaa.kill (SRow.off SBlk.off)
/-- an editor: line, kills, undos, hist, last -/
structure E where
  x : ByteArray
  i : Int
  ks : List ByteArray
  kt : Int
  us : List (ByteArray × Int)
  hl : List ByteArray
  ht : Int
  hk : ByteArray
  la : Int
/-- where its lists lie -/
structure EA where
  a : Option Addr
  c : Nat
  b : Option Addr
  d : Nat
  g : Option Addr
  f : Nat
def eC (v : E) (A : EA) : List Value := [.string v.x, .int .i64 v.i, .slice A.a v.ks.length A.c, .int .i64 v.kt, .slice A.b v.us.length A.d, .slice A.g v.hl.length A.f, .int .i64 v.ht, .string v.hk, .int .i64 v.la]
def eV (v : E) (A : EA) : Value := .agg #[.string v.x, .int .i64 v.i, .slice A.a v.ks.length A.c, .int .i64 v.kt, .slice A.b v.us.length A.d, .slice A.g v.hl.length A.f, .int .i64 v.ht, .string v.hk, .int .i64 v.la]
/-- its lists stand -/
structure ERow (W : World) (A : EA) (v : E) : Prop where
  k : SRow W A.a v.ks
  u : LRow W A.b v.us
  h : SRow W A.g v.hl
theorem ERow.below {W W' : World} {A : EA} {v : E} (h : ERow W A v) (hb : Below W.heap.size W W') : ERow W' A v := ⟨h.k.below hb, h.u.below hb, h.h.below hb⟩
/-- one of its lists lies in block x -/
def ein (A : EA) (v : E) (x : Nat) : Prop := blkN A.a v.ks.length = some x ∨ blkN A.b v.us.length = some x ∨ blkN A.g v.hl.length = some x
theorem ERow.lt {W : World} {A : EA} {v : E} (h : ERow W A v) : ∀ x, ein A v x → x < W.heap.size := fun x e => by
  rcases e with e | e | e
  · exact h.k.lt x e
  · exact h.u.lt x e
  · exact h.h.lt x e
/-- its lists are one's own memory, apart from each other -/
structure EBlk (B : Nat) (W : World) (A : EA) (v : E) : Prop where
  k : SBlk B W A.a v.ks.length
  u : LBlk B W A.b v.us.length
  h : SBlk B W A.g v.hl.length
  ku : ∀ x, blkN A.a v.ks.length = some x → blkN A.b v.us.length ≠ some x
  kh : ∀ x, blkN A.a v.ks.length = some x → blkN A.g v.hl.length ≠ some x
  uh : ∀ x, blkN A.b v.us.length = some x → blkN A.g v.hl.length ≠ some x
theorem EBlk.below {B : Nat} {W W' : World} {A : EA} {v : E} (h : EBlk B W A v) (hb : Below W.heap.size W W') : EBlk B W' A v := ⟨h.k.below hb, h.u.below hb, h.h.below hb, h.ku, h.kh, h.uh⟩
theorem EBlk.lo {B B' : Nat} {W : World} {A : EA} {v : E} (h : EBlk B W A v) (hle : B' ≤ B) : EBlk B' W A v := ⟨h.k.lo hle, h.u.lo hle, h.h.lo hle, h.ku, h.kh, h.uh⟩
theorem EBlk.ge {B : Nat} {W : World} {A : EA} {v : E} (h : EBlk B W A v) : ∀ x, ein A v x → B ≤ x := fun x e => by
  rcases e with e | e | e
  · exact h.k.lt x e
  · exact h.u.lt x e
  · exact h.h.lt x e
/-- what was written over: its three lists alone -/
def G3 (W W' : World) (A : EA) (v : E) : Prop := ∃ W1 W2, W.grownBy W1 (blkN A.a v.ks.length) ∧ W1.grownBy W2 (blkN A.b v.us.length) ∧ W2.grownBy W' (blkN A.g v.hl.length)
theorem G3.size {W W' : World} {A : EA} {v : E} (h : G3 W W' A v) : W.heap.size ≤ W'.heap.size := by
  obtain ⟨W1, W2, h1, h2, h3⟩ := h
  exact Nat.le_trans h1.size (Nat.le_trans h2.size h3.size)
theorem G3.bel {n : Nat} {w W W' : World} {A : EA} {v : E} (h : G3 W W' A v) (hb : Below n w W) (hn : n ≤ W.heap.size) (hge : ∀ x, ein A v x → n ≤ x) : Below n w W' := by
  obtain ⟨W1, W2, h1, h2, h3⟩ := h
  exact ((hb.grown h1 hn (fun j hj => hge j (.inl hj))).grown h2 (Nat.le_trans hn h1.size) (fun j hj => hge j (.inr (.inl hj)))).grown h3 (Nat.le_trans hn (Nat.le_trans h1.size h2.size)) (fun j hj => hge j (.inr (.inr hj)))
theorem G3.cell {W W' : World} {A : EA} {v : E} (h : G3 W W' A v) {b j : Nat} {u : Value} (hb : W.cell? ⟨b, j, none⟩ = some u) (hne : ¬ ein A v b) : W'.cell? ⟨b, j, none⟩ = some u := by
  obtain ⟨W1, W2, h1, h2, h3⟩ := h
  have hl := blk_lt hb
  rw [h3.cell_far ⟨b, j, none⟩ (Nat.lt_of_lt_of_le hl (Nat.le_trans h1.size h2.size)) (fun e => hne (.inr (.inr e.symm))), h2.cell_far ⟨b, j, none⟩ (Nat.lt_of_lt_of_le hl h1.size) (fun e => hne (.inr (.inl e.symm))), h1.cell_far ⟨b, j, none⟩ hl (fun e => hne (.inl e.symm))]
  exact hb
theorem G3.srow {W W' : World} {A : EA} {v : E} {a : Option Addr} {l : List ByteArray} (h : G3 W W' A v) (hr : SRow W a l) (hne : ∀ x, blkN a l.length = some x → ¬ ein A v x) : SRow W' a l := by
  obtain ⟨W1, W2, h1, h2, h3⟩ := h
  exact SRow.off (SRow.off (SRow.off hr h1 (fun x e e2 => hne x e (.inl e2))) h2 (fun x e e2 => hne x e (.inr (.inl e2)))) h3 (fun x e e2 => hne x e (.inr (.inr e2)))
theorem G3.lrow {W W' : World} {A : EA} {v : E} {a : Option Addr} {l : List (ByteArray × Int)} (h : G3 W W' A v) (hr : LRow W a l) (hne : ∀ x, blkN a l.length = some x → ¬ ein A v x) : LRow W' a l := by
  obtain ⟨W1, W2, h1, h2, h3⟩ := h
  exact LRow.off (LRow.off (LRow.off hr h1 (fun x e e2 => hne x e (.inl e2))) h2 (fun x e e2 => hne x e (.inr (.inl e2)))) h3 (fun x e e2 => hne x e (.inr (.inr e2)))
theorem G3.sblk {B : Nat} {W W' : World} {A : EA} {v : E} {a : Option Addr} {n : Nat} (h : G3 W W' A v) (hr : SBlk B W a n) (hne : ∀ x, blkN a n = some x → ¬ ein A v x) : SBlk B W' a n := by
  obtain ⟨W1, W2, h1, h2, h3⟩ := h
  exact SBlk.off (SBlk.off (SBlk.off hr h1 (fun x e e2 => hne x e (.inl e2))) h2 (fun x e e2 => hne x e (.inr (.inl e2)))) h3 (fun x e e2 => hne x e (.inr (.inr e2)))
theorem G3.lblk {B : Nat} {W W' : World} {A : EA} {v : E} {a : Option Addr} {n : Nat} (h : G3 W W' A v) (hr : LBlk B W a n) (hne : ∀ x, blkN a n = some x → ¬ ein A v x) : LBlk B W' a n := by
  obtain ⟨W1, W2, h1, h2, h3⟩ := h
  exact LBlk.off (LBlk.off (LBlk.off hr h1 (fun x e e2 => hne x e (.inl e2))) h2 (fun x e e2 => hne x e (.inr (.inl e2)))) h3 (fun x e e2 => hne x e (.inr (.inr e2)))
theorem ERow.off {W W' : World} {A A2 : EA} {v v2 : E} (h : ERow W A v) (hg : G3 W W' A2 v2) (hne : ∀ x, ein A v x → ¬ ein A2 v2 x) : ERow W' A v :=
  ⟨hg.srow h.k (fun x e => hne x (.inl e)), hg.lrow h.u (fun x e => hne x (.inr (.inl e))), hg.srow h.h (fun x e => hne x (.inr (.inr e)))⟩
theorem EBlk.off {B : Nat} {W W' : World} {A A2 : EA} {v v2 : E} (h : EBlk B W A v) (hg : G3 W W' A2 v2) (hne : ∀ x, ein A v x → ¬ ein A2 v2 x) : EBlk B W' A v :=
  ⟨hg.sblk h.k (fun x e => hne x (.inl e)), hg.lblk h.u (fun x e => hne x (.inr (.inl e))), hg.sblk h.h (fun x e => hne x (.inr (.inr e))), h.ku, h.kh, h.uh⟩
/-- its lists hold the marks from p on -/
structure EMark (p : Nat) (W : World) (A : EA) (v : E) : Prop where
  k : SRow W A.a (markS p v.ks.length)
  u : LRow W A.b (markL (p + v.ks.length) v.us.length)
  h : SRow W A.g (markS (p + v.ks.length + 2 * v.us.length) v.hl.length)
theorem EMark.below {p : Nat} {W W' : World} {A : EA} {v : E} (h : EMark p W A v) (hb : Below W.heap.size W W') : EMark p W' A v := ⟨h.k.below hb, h.u.below hb, h.h.below hb⟩
/-- how many marks -/
def eN (v : E) : Nat := v.ks.length + 2 * v.us.length + v.hl.length
/-- none of its lists or texts is longer than a million -/
structure EFit (v : E) : Prop where
  x : v.x.size ≤ 1048576
  k : v.ks.length ≤ 1048576
  k1 : ∀ s ∈ v.ks, s.size ≤ 1048576
  u : v.us.length ≤ 1048576
  u1 : ∀ s ∈ v.us, s.1.size ≤ 1048576
  h : v.hl.length ≤ 1048576
  h1 : ∀ s ∈ v.hl, s.size ≤ 1048576
  hk : v.hk.size ≤ 1048576
/-- an editor in an argument: its rows, and how long it is -/
structure EIn (w : World) (A : EA) (v : E) : Prop where
  row : ERow w A v
  x : v.x.size ≤ maxLen
  k1 : v.ks.length ≤ maxLen
  k2 : ∀ s ∈ v.ks, s.size ≤ maxLen
  u1 : v.us.length ≤ maxLen
  u2 : ∀ s ∈ v.us, s.1.size ≤ maxLen
  h1 : v.hl.length ≤ maxLen
  h2 : ∀ s ∈ v.hl, s.size ≤ maxLen
  hk : v.hk.size ≤ maxLen
end Go.Proofs.Ytcgaiegfagckcaa.ed
