/-
  Lists of frames in memory, and what the laws do around them: sizes, copies, comparing, writing over. For every such list.
-/
import Derived.Test.YtlhfgpcanfpnfaaDoorStrs
import Derived.Test.YtlhfgpcanfpnfaaDoorFrameLaws
namespace Go.Proofs.YtlhfgpcanfpnfaaDoor.frames
open Go.ChangeShapes Go.WideShapes Go.ChangeAt Go.RowKit Go.Deep
open Go.Proofs.YtlhfgpcanfpnfaaDoor.strs Go.Proofs.YtlhfgpcanfpnfaaDoor.frame
abbrev FT := Int × Int × ByteArray
theorem own_later {w w' : World} {base : Nat} {e : TypeId} {size n : Nat} {v : Value} {xs : List Value} (h : w.ownsRow base e size v n xs) (hb : Below w.heap.size w w') : w'.ownsRow base e size v n xs := by
  refine h.kept (grown_below (r := none) hb) ?_
  cases hv : v.ownBlock with
  | none => exact .inl rfl
  | some g => exact .inr (by simp)
/-- frames behind each other, if any, from an address on -/
structure FRow (w : World) (a : Option Addr) (l : List FT) : Prop where
  it : l ≠ [] → ∃ g o, a = some ⟨g, o, none⟩ ∧ ∀ i (h : i < l.length), w.cell? ⟨g, o + i * 3, none⟩ = some (.int .i64 l[i].1) ∧ w.cell? ⟨g, o + i * 3 + 1, none⟩ = some (.int .i64 l[i].2.1) ∧ w.cell? ⟨g, o + i * 3 + 2, none⟩ = some (.string l[i].2.2)
theorem FRow.none_nil {w : World} {l : List FT} (h : FRow w none l) : l = [] := by
  rcases l with _ | ⟨s, l⟩
  · rfl
  · obtain ⟨g, o, e, _⟩ := h.it (by simp)
    cases e
theorem FRow.nil (w : World) (a : Option Addr) : FRow w a [] := ⟨fun h => absurd rfl h⟩
theorem FRow.at {w : World} {a : Option Addr} {l : List FT} (h : FRow w a l) {i : Nat} (hi : i < l.length) : ∃ g o, a = some ⟨g, o, none⟩ ∧ w.cell? ⟨g, o + i * 3, none⟩ = some (.int .i64 l[i].1) ∧ w.cell? ⟨g, o + i * 3 + 1, none⟩ = some (.int .i64 l[i].2.1) ∧ w.cell? ⟨g, o + i * 3 + 2, none⟩ = some (.string l[i].2.2) := by
  obtain ⟨g, o, e, h1⟩ := h.it (fun e => by rw [e] at hi; simp at hi)
  exact ⟨g, o, e, h1 i hi⟩
theorem FRow.kept {w w' : World} {a : Option Addr} {l : List FT} {r : Option Nat} (h : FRow w a l) (hg : w.grownBy w' r) (hne : l ≠ [] → blockOf a ≠ r ∨ r = none) : FRow w' a l where
  it hl := by
    obtain ⟨g, o, e, h1⟩ := h.it hl
    refine ⟨g, o, e, fun i hi => ?_⟩
    have hb : w'.heap[g]? = w.heap[g]? := hg.block g (blk_lt (h1 i hi).1) (fun e2 => by
      rcases hne hl with h3 | h3
      · rw [e] at h3; exact h3 e2
      · rw [h3] at e2; cases e2)
    rw [World.cell?_of_block (a := ⟨g, o + i * 3, none⟩) hb, World.cell?_of_block (a := ⟨g, o + i * 3 + 1, none⟩) hb, World.cell?_of_block (a := ⟨g, o + i * 3 + 2, none⟩) hb]
    exact h1 i hi
theorem FRow.below {w w' : World} {a : Option Addr} {l : List FT} (h : FRow w a l) (hb : Below w.heap.size w w') : FRow w' a l := h.kept (grown_below (r := none) hb) fun _ => .inr rfl
theorem FRow.lt {w : World} {a : Option Addr} {l : List FT} (h : FRow w a l) : ∀ x, blkN a l.length = some x → x < w.heap.size := fun x e => by
  unfold blkN at e
  by_cases h2 : l.length = 0
  · rw [if_pos h2] at e; cases e
  · rw [if_neg h2] at e
    obtain ⟨g, o, rfl, h3, _⟩ := h.at (i := 0) (by omega)
    have : g = x := by simpa [blockOf] using e
    subst this
    exact blk_lt h3
theorem FRow.off {w w' : World} {a b : Option Addr} {l : List FT} {n : Nat} (h : FRow w a l) (hg : w.grownBy w' (blkN b n)) (hne : ∀ x, blkN a l.length = some x → blkN b n ≠ some x) : FRow w' a l :=
  h.kept hg fun hl => by
    by_cases hr : blkN b n = none
    · exact .inr hr
    · obtain ⟨x, hx⟩ := Option.ne_none_iff_exists'.1 hr
      refine .inl fun e => hne x ?_ hx
      unfold blkN
      rw [if_neg (fun e => hl (List.eq_nil_of_length_eq_zero e)), e, hx]
/-- what can be written into: a row of n frames of the call's own memory from base on -/
def FBlk (base : Nat) (w : World) (a : Option Addr) (n : Nat) : Prop := n ≠ 0 → ∃ g o, a = some ⟨g, o, none⟩ ∧ base ≤ g ∧ ∃ M : Array Value, w.heap[g]? = some (.cells M 23 (0, 0)) ∧ o + n * 3 ≤ M.size
theorem FBlk.kept {base : Nat} {w w' : World} {a : Option Addr} {n : Nat} {r : Option Nat} (h : FBlk base w a n) (hg : w.grownBy w' r) (hne : n ≠ 0 → blockOf a ≠ r ∨ r = none) : FBlk base w' a n := fun hn => by
  obtain ⟨g, o, e, h1, M, h2, h3⟩ := h hn
  refine ⟨g, o, e, h1, M, ?_, h3⟩
  rw [hg.block g (Array.getElem?_eq_some_iff.1 h2).1 (fun e2 => by
    rcases hne hn with h4 | h4
    · rw [e] at h4; exact h4 e2
    · rw [h4] at e2; cases e2)]
  exact h2
theorem FBlk.below {base : Nat} {w w' : World} {a : Option Addr} {n : Nat} (h : FBlk base w a n) (hb : Below w.heap.size w w') : FBlk base w' a n := h.kept (grown_below (r := none) hb) fun _ => .inr rfl
theorem FBlk.lo {base b' : Nat} {w : World} {a : Option Addr} {n : Nat} (h : FBlk base w a n) (hle : b' ≤ base) : FBlk b' w a n := fun hn => by
  obtain ⟨g, o, e, h1, r⟩ := h hn
  exact ⟨g, o, e, Nat.le_trans hle h1, r⟩
theorem FBlk.lt {B n : Nat} {w : World} {b : Option Addr} (h : FBlk B w b n) : ∀ x, blkN b n = some x → B ≤ x := fun x e => by
  unfold blkN at e
  by_cases h2 : n = 0
  · rw [if_pos h2] at e; cases e
  · rw [if_neg h2] at e
    obtain ⟨g, o, rfl, h3, _⟩ := h h2
    have : g = x := by simpa [blockOf] using e
    omega
theorem FBlk.off {w w' : World} {a b : Option Addr} {B n m : Nat} (h : FBlk B w a n) (hg : w.grownBy w' (blkN b m)) (hne : ∀ x, blkN a n = some x → blkN b m ≠ some x) : FBlk B w' a n :=
  h.kept hg fun hn => by
    by_cases hr : blkN b m = none
    · exact .inr hr
    · obtain ⟨x, hx⟩ := Option.ne_none_iff_exists'.1 hr
      refine .inl fun e => hne x ?_ hx
      unfold blkN
      rw [if_neg hn, e, hx]
theorem eqFrame_same (k a : Int) (t : ByteArray) (w : World) :
    Calls Tryd.prog 19 #[fV k a t, fV k a t] w fun e w' => e = .returned (.bool true) ∧ Below w.heap.size w w' := by
  have hal := ((Below.refl _ w).alloc (Nat.le_refl _) (.cells #[.int .i64 k, .int .i64 a, .string t] 23)).alloc (by simp) (.cells #[.int .i64 k, .int .i64 a, .string t] 23)
  have HB := Lib.hid hal
  unfold fV
  clear hal
  go_enter Tryd.func19, Tryd.ntmps19
  go_wp2
  go_ret
  exact ⟨rfl, HB.out⟩
def szOne (s : ByteArray) (left : Int) : Int := if left < s.size then -1 else left - s.size
def txt (l : List FT) : List ByteArray := l.map fun f => f.2.2
def szL (l : List FT) (left : Int) : Int := szV (txt l) left
theorem szOne_eq {l : List FT} {k : Nat} (hk : k < l.length) : sumTo (txt l) (k + 1) = sumTo (txt l) k + l[k].2.2.size := by
  show _ + ((txt l)[k]?.getD ⟨#[]⟩).size = _
  unfold txt
  rw [List.getElem?_map, List.getElem?_eq_getElem hk]
  rfl
theorem infoF : (Tryd.prog.info? 23).map (fun i => (i.zero, i.size, i.bytes)) = some (some (fV 0 0 ⟨#[]⟩), 3, 32) := by kernel_rfl
/-- the copy so far -/
structure FS (w : World) (g : Nat) (l : List FT) (w' : World) (k : Nat) : Prop where
  blk : ∃ M : Array Value, w'.heap[g]? = some (.cells M 23 (0, 0)) ∧ M.size = l.length * 3 ∧ ∀ j (h : j < l.length), j < k → M[j * 3]? = some (.int .i64 l[j].1) ∧ M[j * 3 + 1]? = some (.int .i64 l[j].2.1) ∧ M[j * 3 + 2]? = some (.string l[j].2.2)
  bel : Below w.heap.size w w'
theorem FS.call {w w' w2 : World} {g k : Nat} {l : List FT} (h : FS w g l w' k) (hb : Below w'.heap.size w' w2) : FS w g l w2 k where
  blk := by
    obtain ⟨M, h1, h2, h3⟩ := h.blk
    exact ⟨M, by rw [hb.block g (Array.getElem?_eq_some_iff.1 h1).1]; exact h1, h2, h3⟩
  bel := bthen h.bel hb h.bel.size
theorem FS.room {w w' : World} {g k : Nat} {l : List FT} (h : FS w g l w' k) {o : Nat} (ho : o < l.length * 3) : (∃ v, w'.cell? ⟨g, o, none⟩ = some v) ∧ w'.frozen? ⟨g, o, none⟩ = false := by
  obtain ⟨M, h1, h2, h3⟩ := h.blk
  refine ⟨⟨M[o]'(by omega), ?_⟩, ?_⟩
  · simp [World.cell?, h1]
  · simp [World.frozen?, h1]
theorem FS.store {w w' : World} {g k : Nat} {l : List FT} (h : FS w g l w' k) (hk : k < l.length) (hg : w.heap.size ≤ g) : FS w g l (((w'.setCell ⟨g, k * 3, none⟩ (.int .i64 l[k].1)).setCell ⟨g, k * 3 + 1, none⟩ (.int .i64 l[k].2.1)).setCell ⟨g, k * 3 + 2, none⟩ (.string l[k].2.2)) (k + 1) where
  blk := by
    obtain ⟨M, h1, h2, h3⟩ := h.blk
    refine ⟨((M.setIfInBounds (k * 3) (.int .i64 l[k].1)).setIfInBounds (k * 3 + 1) (.int .i64 l[k].2.1)).setIfInBounds (k * 3 + 2) (.string l[k].2.2), bset (bset (bset h1 _) _) _, by simp [h2], fun j hj hjk => ?_⟩
    by_cases e : j = k
    · subst e
      refine ⟨?_, ?_, ?_⟩
      · rw [Array.getElem?_setIfInBounds, if_neg (by omega), Array.getElem?_setIfInBounds, if_neg (by omega), Array.getElem?_setIfInBounds, if_pos rfl, if_pos (by omega)]
      · rw [Array.getElem?_setIfInBounds, if_neg (by omega), Array.getElem?_setIfInBounds, if_pos rfl, if_pos (by simp; omega)]
      · rw [Array.getElem?_setIfInBounds, if_pos rfl, if_pos (by simp; omega)]
    · have h4 := h3 j hj (by omega)
      refine ⟨?_, ?_, ?_⟩
      · rw [Array.getElem?_setIfInBounds, if_neg (by omega), Array.getElem?_setIfInBounds, if_neg (by omega), Array.getElem?_setIfInBounds, if_neg (by omega)]; exact h4.1
      · rw [Array.getElem?_setIfInBounds, if_neg (by omega), Array.getElem?_setIfInBounds, if_neg (by omega), Array.getElem?_setIfInBounds, if_neg (by omega)]; exact h4.2.1
      · rw [Array.getElem?_setIfInBounds, if_neg (by omega), Array.getElem?_setIfInBounds, if_neg (by omega), Array.getElem?_setIfInBounds, if_neg (by omega)]; exact h4.2.2
  bel := ((h.bel.setCell (p := ⟨g, k * 3, none⟩) hg _).setCell (p := ⟨g, k * 3 + 1, none⟩) hg _).setCell (p := ⟨g, k * 3 + 2, none⟩) hg _
theorem FS.row {w w' : World} {g : Nat} {l : List FT} (h : FS w g l w' l.length) : FRow w' (some ⟨g, 0, none⟩) l where
  it _ := by
    obtain ⟨M, h1, h2, h3⟩ := h.blk
    exact ⟨g, 0, rfl, fun i hi => by rw [Nat.zero_add]; simp [World.cell?, h1]; exact h3 i hi hi⟩
set_option maxHeartbeats 1600000 in
/-- two lists of the same frames -/
theorem eqFrameS_same (a b : Option Addr) (C D : Nat) (l : List FT) (hn : l.length ≤ 1048576) (w : World) (ha : FRow w a l) (hb : FRow w b l) :
    Calls Tryd.prog 23 #[.slice a l.length C, .slice b l.length D] w fun e w' => e = .returned (.bool true) ∧ Below w.heap.size w w' := by
  obtain ⟨n, hn'⟩ : ∃ n, n = l.length := ⟨_, rfl⟩
  have HA := Lib.hid ha
  have HB := Lib.hid hb
  have HN := Lib.hid hn'
  rw [← hn'] at hn ⊢
  clear ha hb hn'
  go_enter Tryd.func23, Tryd.ntmps23
  go_wp2
  go_loopw [5] (fun i w' => ∃ k : Nat, k ≤ n ∧ i = .int .i64 k ∧ Below w.heap.size w w') (fun i _ => n - (intOf i).toNat)
  case atStart => exact ⟨0, Nat.zero_le _, rfl, Below.refl _ _⟩
  case round =>
    obtain ⟨k, hk, rfl, hbel⟩ := hrel
    rename World => wr
    have HBB := Lib.hid hbel
    by_cases hlt : k < n
    · have hkl : k < l.length := by rw [← HN.out]; exact hlt
      obtain ⟨g, o, rfl, g1, g2, g3⟩ := (HA.out.below hbel).at hkl
      obtain ⟨h, o2, rfl, h1, h2, h3⟩ := (HB.out.below hbel).at hkl
      obtain ⟨s, hs⟩ : ∃ s, s = l[k].2.2 := ⟨_, rfl⟩
      obtain ⟨fk, hfk⟩ : ∃ z, z = l[k].1 := ⟨_, rfl⟩
      obtain ⟨fa, hfa⟩ : ∃ z, z = l[k].2.1 := ⟨_, rfl⟩
      rw [← hs] at g3 h3
      rw [← hfk] at g1 h1
      rw [← hfa] at g2 h2
      have HC := Lib.hid (eqFrame_same fk fa s)
      unfold fV at HC
      clear hbel hs hfk hfa
      have y1 := blk_lt g1
      have y2 := blk_lt h1
      go_wp2
      go_region_held3 (fun w' => (w'.cell? ⟨g, o + k * 3, none⟩ = some (.int .i64 fk) ∧ w'.cell? ⟨g, o + k * 3 + 1, none⟩ = some (.int .i64 fa) ∧ w'.cell? ⟨g, o + k * 3 + 2, none⟩ = some (.string s)) ∧ (w'.cell? ⟨h, o2 + k * 3, none⟩ = some (.int .i64 fk) ∧ w'.cell? ⟨h, o2 + k * 3 + 1, none⟩ = some (.int .i64 fa) ∧ w'.cell? ⟨h, o2 + k * 3 + 2, none⟩ = some (.string s))) (go_keep)
        (first | (go_at_call 19; refine (HC.out _).mono ?_; rintro e w4 ⟨rfl, hb4⟩; obtain ⟨p1, _⟩ := keepC hb4 (g := g) y1; obtain ⟨p2, _⟩ := keepC hb4 (g := h) y2))
      all_goals
        have HX := Lib.hid (bthen HBB.out.drew hb4 HBB.out.size)
        clear p1 p2 hb4
        go_wp2
        go_roundw
        case rel => exact ⟨k + 1, by omega, by go_num, HX.out⟩
        case measure => simp [intOf]; omega
    · clear hbel
      go_wp2
      go_ret
      exact ⟨rfl, HBB.out⟩
end Go.Proofs.YtlhfgpcanfpnfaaDoor.frames
