/-
  Draws: one of some texts; a right text; a line of it. What comes is bounded; nothing else is said of it.
-/
import Derived.Test.YtgmbpohbjhaghaaSrc
namespace Go.Proofs.Ytgmbpohbjhaghaa.src
open Go.ChangeShapes Go.WideShapes Go.ChangeAt Go.RowKit
theorem Src.below {N g : Nat} {w w' : World} (h : Src N g w) (hb : Below w.heap.size w w') : Src N g w' := by
  obtain ⟨a, n, C, k, m, z, hs⟩ := h
  exact ⟨a, n, C, k, m, z, hs.grown (r := none) ⟨hb.os, hb.tape, hb.output, hb.size, fun i hi _ => hb.block i hi⟩ (by simp) (by simp)⟩
theorem drew_below (W : World) : Below W.heap.size W W.drew := ⟨rfl, rfl, rfl, Nat.le_refl _, fun _ _ => rfl⟩
theorem Src.lt {N g : Nat} {w : World} (h : Src N g w) : g < w.heap.size := by
  obtain ⟨a, n, C, k, m, z, hs⟩ := h
  exact blk_lt hs.b_
/-- what a draw leaves: the source moves on, all else stands -/
def Drew (N g : Nat) (w w' : World) : Prop := Src N g w' ∧ w.grownBy w' (some g)
theorem Drew.trans {N g : Nat} {a b c : World} (h : Drew N g a b) (k : Drew N g b c) : Drew N g a c := ⟨k.1, grown_trans h.2 k.2⟩
theorem Drew.below {N g : Nat} {a b c : World} (h : Drew N g a b) (hb : Below b.heap.size b c) : Drew N g a c := ⟨h.1.below hb, grown_trans h.2 ⟨hb.os, hb.tape, hb.output, hb.size, fun i hi _ => hb.block i hi⟩⟩
theorem Drew.after {N g : Nat} {a b c : World} (hb : Below a.heap.size a b) (h : Drew N g b c) : Drew N g a c := ⟨h.1, grown_trans ⟨hb.os, hb.tape, hb.output, hb.size, fun i hi _ => hb.block i hi⟩ h.2⟩
theorem Drew.keep {N g : Nat} {a b : World} (h : Drew N g a b) {k : Nat} (hk : k < a.heap.size) (hne : k ≠ g) :
    (∀ o, b.cell? ⟨k, o, none⟩ = a.cell? ⟨k, o, none⟩) ∧ (∀ o, b.frozen? ⟨k, o, none⟩ = a.frozen? ⟨k, o, none⟩) := by
  have hb := h.2.block k hk (fun e => hne (by injection e))
  exact ⟨fun o => World.cell?_of_block (a := ⟨k, o, none⟩) hb, fun o => World.frozen?_of_block (a := ⟨k, o, none⟩) hb⟩
theorem Drew.set {N g : Nat} {a b : World} (h : Drew N g a b) {k o : Nat} {v : Value} (hN : N ≤ k) (hg : k ≠ g) (hk : a.heap.size ≤ k) : Drew N g a (b.setCell ⟨k, o, none⟩ v) := by
  obtain ⟨⟨x, n, C, i, m, z, hs⟩, hgr⟩ := h
  refine ⟨⟨x, n, C, i, m, z, hs.grown (grown_set b k o v) (fun e => hg (by injection e with e; exact e.symm)) (fun b' o' h0 e e2 => ?_)⟩, ?_⟩
  · injection e2 with e2
    obtain ⟨b2, o2, v2, e3, h4, _⟩ := hs.bytes 0 h0
    rw [e] at e3
    injection e3 with e3
    injection e3 with e3
    omega
  · exact ⟨hgr.os, hgr.tape, hgr.output, by have := hgr.size; simpa [World.setCell] using this, fun j hj hne => (Below.heap_setCell _ _ _ _ (by show j ≠ k; omega)).trans (hgr.block j hj hne)⟩
theorem drew_own {N g : Nat} {a b c : World} (h : Drew N g a b) {k : Nat} (hg : b.grownBy c (some k)) (hN : N ≤ k) (hkg : k ≠ g) (hk : a.heap.size ≤ k) : Drew N g a c := by
  obtain ⟨⟨x, n, C, i, m, z, hs⟩, hgr⟩ := h
  refine ⟨⟨x, n, C, i, m, z, hs.grown hg (fun e => hkg (by injection e with e; exact e.symm)) (fun b' o' h0 e e2 => ?_)⟩, ?_⟩
  · injection e2 with e2
    obtain ⟨b2, o2, v2, e3, h4, _⟩ := hs.bytes 0 h0
    rw [e] at e3
    injection e3 with e3
    injection e3 with e3
    omega
  · exact ⟨hg.os.trans hgr.os, hg.tape.trans hgr.tape, hg.output.trans hgr.output, Nat.le_trans hgr.size hg.size, fun j hj hne => (hg.block j (Nat.lt_of_lt_of_le hj hgr.size) (fun e => by injection e with e; omega)).trans (hgr.block j hj hne)⟩
theorem n_in (N g : Nat) (most : Int) (h1 : 1 ≤ most) (hm : most ≤ 9223372036854775807) (w : World) (h : Src N g w) :
    Calls Try.prog 60 #[.pointer (some ⟨g, 0, none⟩), .int .i64 most] w fun e w' => ∃ r : Nat, e = .returned (.int .i64 (r : Nat)) ∧ (r : Int) < most ∧ Drew N g w w' := by
  refine (n_any N g most ⟨by omega, hm⟩ w h).mono ?_
  rintro e w' ⟨r, rfl, h0, h2, h3, h4⟩
  exact ⟨r.toNat, by rw [show ((r.toNat : Nat) : Int) = r by omega], by have := h2 h1; omega, h3, h4⟩
theorem one_any (N g : Nat) (of : Int) (hm : -9223372036854775808 ≤ of ∧ of ≤ 9223372036854775807) (w : World) (h : Src N g w) :
    Calls Try.prog 69 #[.pointer (some ⟨g, 0, none⟩), .int .i64 of] w fun e w' => ∃ b : Bool, e = .returned (.bool b) ∧ Drew N g w w' := by
  go_enter Try.func69, Try.ntmps69
  go_wp2_with fail
  refine (n_any N g of hm _ h).mono ?_
  rintro e w1 ⟨r, rfl, _, _, h3, h4⟩
  go_wp2
  go_ret
  exact ⟨_, rfl, h3, h4⟩
def StrRow (cs : List Value) (B : Nat) : Prop := ∀ v ∈ cs, ∃ s : ByteArray, v = .string s ∧ s.size ≤ B
theorem pick_any (N g b n : Nat) (cs : Array Value) (t : TypeId) (fr : Nat × Nat) (B : Nat) (hn : 1 ≤ n) (hn2 : n ≤ 1000) (hcs : cs.size = n) (hB : StrRow cs.toList B) (hbg : b ≠ g) (w : World) (h : Src N g w) (hr : w.heap[b]? = some (.cells cs t fr)) :
    Calls Try.prog 111 #[.pointer (some ⟨g, 0, none⟩), .slice (some ⟨b, 0, none⟩) n n] w fun e w' => ∃ s : ByteArray, e = .returned (.string s) ∧ s.size ≤ B ∧ Drew N g w w' := by
  have hlt : b < w.heap.size := (Array.getElem?_eq_some_iff.1 hr).1
  have HR := Lib.hid hr
  clear hr
  go_enter Try.func111, Try.ntmps111
  go_wp2_with fail
  refine (n_in N g n (by omega) (by omega) _ h).mono ?_
  rintro e w1 ⟨r, rfl, h1, hd⟩
  have hrow : w1.heap[b]? = some (.cells cs t fr) := (hd.2.block b hlt (fun e => hbg (by injection e))).trans HR.out
  have hrn : r < cs.size := by omega
  obtain ⟨s, hs, hsB⟩ := hB cs[r] (by simp)
  have hc : w1.cell? ⟨b, r, none⟩ = some (.string s) := by rw [cell_of_row _ _ _ _ _ _ hrow, Array.getElem?_eq_getElem hrn, hs]
  have HD := Lib.hid hd
  clear hd hrow hs
  go_wp2
  go_ret
  exact ⟨s, rfl, hsB, HD.out⟩
set_option maxHeartbeats 1600000 in
theorem textOf_any (N g : Nat) (w : World) (h : Src N g w) :
    Calls Try.prog 110 #[.pointer (some ⟨g, 0, none⟩)] w fun e w' => ∃ s : ByteArray, e = .returned (.string s) ∧ s.size ≤ 28 ∧ Drew N g w w' := by
  go_enter Try.func110, Try.ntmps110
  go_wp2_with fail
  refine (n_in N g 5 (by omega) (by omega) _ h).mono ?_
  rintro e w1 ⟨r, rfl, h1, hd⟩
  have HD := Lib.hid hd
  clear hd h
  go_wp2
  go_loopw [3, 4] (fun t i wr => ∃ (k : Nat) (T : ByteArray), i = .int .i64 (k : Nat) ∧ t = .string T ∧ T.size + 7 * k ≤ 28 ∧ Drew N g w wr) (fun _ i _ => (intOf i).toNat)
  case atStart => exact ⟨r, ⟨#[]⟩, rfl, rfl, by simp [ByteArray.size]; omega, HD.out⟩
  case round =>
    obtain ⟨k, T, rfl, rfl, hT, hd⟩ := hrel
    rename World => wr
    have HD := Lib.hid hd
    clear hd
    by_cases hk : 0 < k
    · obtain ⟨j, rfl⟩ : ∃ j, k = j + 1 := ⟨k - 1, by omega⟩
      go_wp2_with fail
      refine (pick_any N g wr.heap.size 10 _ _ _ 7 (by omega) (by omega) rfl ?_ (Nat.ne_of_gt HD.out.1.lt) _ (HD.out.1.below ((Below.refl _ wr).alloc (Nat.le_refl _) _)) (heap_alloc_new wr _)).mono ?_
      · intro v hv
        simp at hv
        rcases hv with rfl | rfl | rfl | rfl | rfl | rfl | rfl | rfl | rfl | rfl <;> exact ⟨_, rfl, by decide⟩
      rintro e w2 ⟨s, rfl, hs, hd2⟩
      have HD2 := Lib.hid ((HD.out.below ((Below.refl _ wr).alloc (Nat.le_refl _) _)).trans hd2)
      clear hd2
      go_wp2
      go_roundw
      case rel => exact ⟨j, _, by go_num, rfl, by rw [ByteArray.size_append]; omega, HD2.out⟩
      case measure => simp [intOf]
    · obtain rfl : k = 0 := by omega
      go_wp2
      go_ret
      exact ⟨T, rfl, by omega, HD.out⟩
set_option maxHeartbeats 1600000 in
theorem lineOf_any (N g : Nat) (w : World) (h : Src N g w) (hN : N ≤ w.heap.size) :
    Calls Try.prog 118 #[.pointer (some ⟨g, 0, none⟩)] w fun e w' => ∃ (s : ByteArray) (i : Int), e = .returned (.agg #[.string s, .int .i64 i]) ∧ s.size ≤ 28 ∧ Drew N g w w' := by
  have hgl := h.lt
  have hgn : w.heap.size ≠ g := by omega
  go_enter Try.func118, Try.ntmps118
  go_wp2_with fail
  refine (textOf_any N g _ (h.below ((Below.refl _ w).alloc (Nat.le_refl _) _))).mono ?_
  rintro e w1 ⟨s, rfl, hs, hd⟩
  obtain ⟨k1, k2⟩ := hd.keep (k := w.heap.size) (by simp) hgn
  have hs1 : w.heap.size < w1.heap.size := by have := hd.2.size; simp at this; omega
  have hd1 := Drew.after ((Below.refl _ w).alloc (Nat.le_refl _) _) hd
  have HD1 := Lib.hid hd1
  clear hd hd1 h
  go_wp2_with fail
  refine (n_in N g ((s.size : Int) + 1) (by omega) (by omega) _ HD1.out.1).mono ?_
  rintro e w2 ⟨r, rfl, _, hd⟩
  obtain ⟨q1, q2⟩ := hd.keep (k := w.heap.size) hs1 hgn
  have HD2 := Lib.hid (HD1.out.trans hd)
  clear hd
  go_wp2
  exact bodyPost_ret (v := .agg #[.string s, .int .i64 (r : Nat)]) (by simp [results, Try.results118, go_sem, q1, k1]) rfl ⟨s, _, rfl, hs, (HD2.out.set hN hgn (Nat.le_refl _)).set hN hgn (Nat.le_refl _)⟩
end Go.Proofs.Ytgmbpohbjhaghaa.src
