/-
  Draws: one of some texts; a right text; a line of it. What comes is bounded; nothing else is said of it.
-/
import Derived.Test.YtemfobhfejmboaaDoorSrc
namespace Go.Proofs.YtemfobhfejmboaaDoor.src
open Go.ChangeShapes Go.WideShapes Go.ChangeAt Go.RowKit
theorem Src.below {N g : Nat} {w w' : World} (h : Src N g w) (hb : Below w.heap.size w w') : Src N g w' := by
  obtain ⟨a, n, C, k, m, z, hs⟩ := h
  exact ⟨a, n, C, k, m, z, hs.grown (r := none) ⟨hb.os, hb.tape, hb.output, hb.size, fun i hi _ => hb.block i hi⟩ (by simp) (by simp)⟩
theorem drew_below (W : World) : Below W.heap.size W W.drew := ⟨rfl, rfl, rfl, Nat.le_refl _, fun _ _ => rfl⟩
theorem Src.lt {N g : Nat} {w : World} (h : Src N g w) : g < w.heap.size := by
  obtain ⟨a, n, C, k, m, z, hs⟩ := h
  exact blk_lt hs.b_
/-- what a draw leaves: the source moves on, all else stands -/
def Drew (N g : Nat) (w w' : World) : Prop := Src N g w' ∧ w.grownBy w' (some g)
theorem Drew.trans {N g : Nat} {a b c : World} (h : Drew N g a b) (k : Drew N g b c) : Drew N g a c := ⟨k.1, grown_trans h.2 k.2⟩
theorem Drew.below {N g : Nat} {a b c : World} (h : Drew N g a b) (hb : Below b.heap.size b c) : Drew N g a c := ⟨h.1.below hb, grown_trans h.2 ⟨hb.os, hb.tape, hb.output, hb.size, fun i hi _ => hb.block i hi⟩⟩
theorem Drew.after {N g : Nat} {a b c : World} (hb : Below a.heap.size a b) (h : Drew N g b c) : Drew N g a c := ⟨h.1, grown_trans ⟨hb.os, hb.tape, hb.output, hb.size, fun i hi _ => hb.block i hi⟩ h.2⟩
theorem Drew.keep {N g : Nat} {a b : World} (h : Drew N g a b) {k : Nat} (hk : k < a.heap.size) (hne : k ≠ g) :
    (∀ o, b.cell? ⟨k, o, none⟩ = a.cell? ⟨k, o, none⟩) ∧ (∀ o, b.frozen? ⟨k, o, none⟩ = a.frozen? ⟨k, o, none⟩) := by
  have hb := h.2.block k hk (fun e => hne (by injection e))
  exact ⟨fun o => World.cell?_of_block (a := ⟨k, o, none⟩) hb, fun o => World.frozen?_of_block (a := ⟨k, o, none⟩) hb⟩
theorem Drew.set {N g : Nat} {a b : World} (h : Drew N g a b) {k o : Nat} {v : Value} (hN : N ≤ k) (hg : k ≠ g) (hk : a.heap.size ≤ k) : Drew N g a (b.setCell ⟨k, o, none⟩ v) := by
  obtain ⟨⟨x, n, C, i, m, z, hs⟩, hgr⟩ := h
  refine ⟨⟨x, n, C, i, m, z, hs.grown (grown_set b k o v) (fun e => hg (by injection e with e; exact e.symm)) (fun b' o' h0 e e2 => ?_)⟩, ?_⟩
  · injection e2 with e2
    obtain ⟨b2, o2, v2, e3, h4, _⟩ := hs.bytes 0 h0
    rw [e] at e3
    injection e3 with e3
    injection e3 with e3
    omega
  · exact ⟨hgr.os, hgr.tape, hgr.output, by have := hgr.size; simpa [World.setCell] using this, fun j hj hne => (Below.heap_setCell _ _ _ _ (by show j ≠ k; omega)).trans (hgr.block j hj hne)⟩
theorem drew_own {N g : Nat} {a b c : World} (h : Drew N g a b) {k : Nat} (hg : b.grownBy c (some k)) (hN : N ≤ k) (hkg : k ≠ g) (hk : a.heap.size ≤ k) : Drew N g a c := by
  obtain ⟨⟨x, n, C, i, m, z, hs⟩, hgr⟩ := h
  refine ⟨⟨x, n, C, i, m, z, hs.grown hg (fun e => hkg (by injection e with e; exact e.symm)) (fun b' o' h0 e e2 => ?_)⟩, ?_⟩
  · injection e2 with e2
    obtain ⟨b2, o2, v2, e3, h4, _⟩ := hs.bytes 0 h0
    rw [e] at e3
    injection e3 with e3
    injection e3 with e3
    omega
  · exact ⟨hg.os.trans hgr.os, hg.tape.trans hgr.tape, hg.output.trans hgr.output, Nat.le_trans hgr.size hg.size, fun j hj hne => (hg.block j (Nat.lt_of_lt_of_le hj hgr.size) (fun e => by injection e with e; omega)).trans (hgr.block j hj hne)⟩
theorem n_in (N g : Nat) (most : Int) (h1 : 1 ≤ most) (hm : most ≤ 9223372036854775807) (w : World) (h : Src N g w) :
    Calls Tryd.prog 19 #[.pointer (some ⟨g, 0, none⟩), .int .i64 most] w fun e w' => ∃ r : Nat, e = .returned (.int .i64 (r : Nat)) ∧ (r : Int) < most ∧ Drew N g w w' := by
  refine (n_any N g most ⟨by omega, hm⟩ w h).mono ?_
  rintro e w' ⟨r, rfl, h0, h2, h3, h4⟩
  exact ⟨r.toNat, by rw [show ((r.toNat : Nat) : Int) = r by omega], by have := h2 h1; omega, h3, h4⟩
theorem one_any (N g : Nat) (of : Int) (hm : -9223372036854775808 ≤ of ∧ of ≤ 9223372036854775807) (w : World) (h : Src N g w) :
    Calls Tryd.prog 18 #[.pointer (some ⟨g, 0, none⟩), .int .i64 of] w fun e w' => ∃ b : Bool, e = .returned (.bool b) ∧ Drew N g w w' := by
  go_enter Tryd.func18, Tryd.ntmps18
  go_wp2_with fail
  refine (n_any N g of hm _ h).mono ?_
  rintro e w1 ⟨r, rfl, _, _, h3, h4⟩
  go_wp2
  go_ret
  exact ⟨_, rfl, h3, h4⟩
def StrRow (cs : List Value) (B : Nat) : Prop := ∀ v ∈ cs, ∃ s : ByteArray, v = .string s ∧ s.size ≤ B
end Go.Proofs.YtemfobhfejmboaaDoor.src
