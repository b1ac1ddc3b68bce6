/-
  Lists of texts in memory, and what the laws do around them: sizes, copies, comparing, writing over. For every such list.
-/
import Derived.Test.YtjjabfcdhknigaaOneB
import Derived.Test.YtjjabfcdhknigaaSpot
import Derived.Lib.SmallJoins
import Derived.Deep.Slices
import Derived.Deep.RegionHeld3
import Derived.SliceStrings
import Derived.Deep.QuietTactic
import Derived.BigQuiet
namespace Go.Proofs.Ytjjabfcdhknigaa.strs
open Go.ChangeShapes Go.WideShapes Go.ChangeAt Go.RowKit Go.Deep
/-- texts behind each other, if any, from an address on -/
structure SRow (w : World) (a : Option Addr) (l : List ByteArray) : Prop where
  it : l ≠ [] → ∃ g o, a = some ⟨g, o, none⟩ ∧ ∀ i (h : i < l.length), w.cell? ⟨g, o + i, none⟩ = some (.string l[i])
theorem SRow.none_nil {w : World} {l : List ByteArray} (h : SRow w none l) : l = [] := by
  rcases l with _ | ⟨s, l⟩
  · rfl
  · obtain ⟨g, o, e, _⟩ := h.it (by simp)
    cases e
/-- nothing is appended, whatever room none has -/
theorem append_owned_none {P : Program} {w : World} (base : Nat) (t ty e : TypeId) (i : TypeInfo) (size C : Nat) (ht : P.underlying t = some (.slice e)) (hi : P.info? e = some i)
    (v : Value) (n : Nat) (xs : List Value) (hown : w.ownsRow base e size v n xs) :
    (Builtin.append_ #[t, t] ty #[v, .slice none 0 C]).run P w = .ok v w := by
  rcases hown.2 with ⟨rfl, rfl⟩ | ⟨g, cap, cur, rfl, _, _, hnc, _⟩
  · simp [Builtin.append_, run_underlying ht, sizeOf, typeInfo, hi, Builtin.lenOf, Builtin.firstCells]
  · simp [Builtin.append_, run_underlying ht, sizeOf, typeInfo, hi, Builtin.lenOf, Builtin.firstCells, hnc, storeCells]
theorem SRow.nil (w : World) (a : Option Addr) : SRow w a [] := ⟨fun h => absurd rfl h⟩
theorem SRow.at {w : World} {a : Option Addr} {l : List ByteArray} (h : SRow w a l) {i : Nat} (hi : i < l.length) : ∃ g o, a = some ⟨g, o, none⟩ ∧ w.cell? ⟨g, o + i, none⟩ = some (.string l[i]) := by
  obtain ⟨g, o, e, h1⟩ := h.it (fun e => by rw [e] at hi; simp at hi)
  exact ⟨g, o, e, h1 i hi⟩
theorem SRow.below {w w' : World} {a : Option Addr} {l : List ByteArray} (h : SRow w a l) (hb : Below w.heap.size w w') : SRow w' a l where
  it hl := by
    obtain ⟨g, o, e, h1⟩ := h.it hl
    exact ⟨g, o, e, fun i hi => by rw [hb.cell (p := ⟨g, o + i, none⟩) (blk_lt (h1 i hi))]; exact h1 i hi⟩
theorem SRow.take {w : World} {a : Option Addr} {l : List ByteArray} (h : SRow w a l) (m : Nat) : SRow w a (l.take m) where
  it hl := by
    obtain ⟨g, o, e, h1⟩ := h.it (fun e => hl (by rw [e]; simp))
    refine ⟨g, o, e, fun i hi => ?_⟩
    rw [List.getElem_take]
    exact h1 i (by rw [List.length_take] at hi; omega)
/-- the block that a list lies in -/
def blockOf (a : Option Addr) : Option Nat := a.map (·.block)
/-- the block that n texts lie in, if there are any -/
def blkN (a : Option Addr) (n : Nat) : Option Nat := if n = 0 then none else blockOf a
theorem SRow.kept {w w' : World} {a : Option Addr} {l : List ByteArray} {r : Option Nat} (h : SRow w a l) (hg : w.grownBy w' r) (hne : l ≠ [] → blockOf a ≠ r ∨ r = none) : SRow w' a l where
  it hl := by
    obtain ⟨g, o, e, h1⟩ := h.it hl
    refine ⟨g, o, e, fun i hi => ?_⟩
    have hb : w'.heap[g]? = w.heap[g]? := hg.block g (blk_lt (h1 i hi)) (fun e2 => by
      rcases hne hl with h3 | h3
      · rw [e] at h3; exact h3 e2
      · rw [h3] at e2; cases e2)
    rw [World.cell?_of_block (a := ⟨g, o + i, none⟩) hb]
    exact h1 i hi
/-- what can be written into: a row of the call's own memory from base on -/
def SBlk (base : Nat) (w : World) (a : Option Addr) (n : Nat) : Prop := n ≠ 0 → ∃ g o, a = some ⟨g, o, none⟩ ∧ base ≤ g ∧ ∃ M : Array Value, w.heap[g]? = some (.cells M 9 (0, 0)) ∧ o + n ≤ M.size
theorem SBlk.below {base : Nat} {w w' : World} {a : Option Addr} {n : Nat} (h : SBlk base w a n) (hb : Below w.heap.size w w') : SBlk base w' a n := fun hn => by
  obtain ⟨g, o, e, h1, M, h2, h3⟩ := h hn
  exact ⟨g, o, e, h1, M, by rw [hb.block g (Array.getElem?_eq_some_iff.1 h2).1]; exact h2, h3⟩
theorem SBlk.kept {base : Nat} {w w' : World} {a : Option Addr} {n : Nat} {r : Option Nat} (h : SBlk base w a n) (hg : w.grownBy w' r) (hne : n ≠ 0 → blockOf a ≠ r ∨ r = none) : SBlk base w' a n := fun hn => by
  obtain ⟨g, o, e, h1, M, h2, h3⟩ := h hn
  refine ⟨g, o, e, h1, M, ?_, h3⟩
  rw [hg.block g (Array.getElem?_eq_some_iff.1 h2).1 (fun e2 => by
    rcases hne hn with h4 | h4
    · rw [e] at h4; exact h4 e2
    · rw [h4] at e2; cases e2)]
  exact h2
theorem SBlk.lo {base b' : Nat} {w : World} {a : Option Addr} {n : Nat} (h : SBlk base w a n) (hle : b' ≤ base) : SBlk b' w a n := fun hn => by
  obtain ⟨g, o, e, h1, r⟩ := h hn
  exact ⟨g, o, e, Nat.le_trans hle h1, r⟩
def sumTo (l : List ByteArray) : Nat → Nat
  | 0 => 0
  | i + 1 => sumTo l i + (l[i]?.getD ⟨#[]⟩).size
def szV (l : List ByteArray) (left : Int) : Int := if left < l.length + sumTo l l.length then -1 else left - l.length - sumTo l l.length
theorem sumTo_mono (l : List ByteArray) (k : Nat) : ∀ m, k ≤ m → sumTo l k ≤ sumTo l m := by
  intro m
  induction m with
  | zero => intro h; obtain rfl : k = 0 := by omega
            exact Nat.le_refl _
  | succ m ih =>
    intro h
    by_cases e : k = m + 1
    · rw [e]; exact Nat.le_refl _
    · exact Nat.le_trans (ih (by omega)) (by simp [sumTo])
set_option maxHeartbeats 1600000 in
theorem szStringS_any (a : Option Addr) (C : Nat) (l : List ByteArray) (left : Int) (h0 : 0 ≤ left) (h1 : left ≤ 1048576) (hn : l.length ≤ maxLen) (hl : ∀ s ∈ l, s.size ≤ maxLen) (w : World) (h : SRow w a l) :
    Calls Try.prog 23 #[.slice a l.length C, .int .i64 left] w fun e w' => e = .returned (.int .i64 (szV l left)) ∧ w = w' := by
  obtain ⟨n, hn'⟩ : ∃ n, n = l.length := ⟨_, rfl⟩
  have HN := Lib.hid hn'
  have HA := Lib.hid h
  have HV := Lib.hid (show szV l left = if left < n + sumTo l n then -1 else left - n - sumTo l n by rw [hn']; rfl)
  have HL := Lib.hid hl
  rw [← hn'] at hn ⊢
  unfold maxLen at hn
  clear h hn' hl
  by_cases hb : left < n
  · go_enter Try.func23, Try.ntmps23
    go_wp2
    go_ret
    exact ⟨by rw [HV.out, if_pos (by omega)]; rfl, rfl⟩
  go_enter Try.func23, Try.ntmps23
  go_wp2
  go_loop [1, 5] (fun sl i => ∃ k : Nat, k ≤ n ∧ i = .int .i64 k ∧ sl = .int .i64 (left - n - sumTo l k : Int) ∧ n + sumTo l k ≤ left) (fun _ i => n - (intOf i).toNat)
  case atStart => exact ⟨0, Nat.zero_le _, rfl, by simp [sumTo], by simp [sumTo]; omega⟩
  case round =>
    obtain ⟨k, hk, rfl, rfl, hs⟩ := hrel
    by_cases hlt : k < n
    · have hkl : k < l.length := by rw [← HN.out]; exact hlt
      obtain ⟨g, o, rfl, c0⟩ := HA.out.at hkl
      have hsum := show sumTo l (k + 1) = sumTo l k + (l[k]?.getD ⟨#[]⟩).size from rfl
      rw [List.getElem?_eq_getElem hkl, Option.getD_some] at hsum
      have hx := HL.out l[k] (List.getElem_mem hkl)
      obtain ⟨s, hse⟩ : ∃ s, s = l[k] := ⟨_, rfl⟩
      rw [← hse] at c0 hsum hx
      unfold maxLen at hx
      have HS := Lib.hid hsum
      clear hse hsum
      by_cases hbig : left - (n : Int) - sumTo l k < s.size
      · have hm := sumTo_mono l (k + 1) n (by omega)
        have hlast : left < n + sumTo l n := by have := HS.out; omega
        have HL2 := Lib.hid hlast
        clear hm hlast
        go_wp2
        go_ret
        exact ⟨by rw [HV.out, if_pos HL2.out]; rfl, rfl⟩
      · go_wp2
        go_round
        case rel => exact ⟨k + 1, by omega, by go_num, (by rw [HS.out]; congr 1; omega), by rw [HS.out]; omega⟩
        case measure => simp [intOf]; omega
    · obtain rfl : k = n := by omega
      go_wp2
      go_ret
      exact ⟨by rw [HV.out, if_neg (by omega)]; rfl, rfl⟩
theorem infoS : (Try.prog.info? 9).map (fun i => (i.zero, i.size, i.bytes)) = some (some (.string ⟨#[]⟩), 1, 16) := by kernel_rfl
/-- the copy so far -/
structure TS (w : World) (g : Nat) (l : List ByteArray) (w' : World) (k : Nat) : Prop where
  blk : ∃ M : Array Value, w'.heap[g]? = some (.cells M 9 (0, 0)) ∧ M.size = l.length ∧ ∀ j (h : j < l.length), j < k → M[j]? = some (.string l[j])
  bel : Below w.heap.size w w'
theorem TS.room {w w' : World} {g k : Nat} {l : List ByteArray} (h : TS w g l w' k) {o : Nat} (ho : o < l.length) : (∃ v, w'.cell? ⟨g, o, none⟩ = some v) ∧ w'.frozen? ⟨g, o, none⟩ = false := by
  obtain ⟨M, h1, h2, h3⟩ := h.blk
  refine ⟨⟨M[o]'(by omega), ?_⟩, ?_⟩
  · simp [World.cell?, h1]
  · simp [World.frozen?, h1]
theorem TS.store {w w' : World} {g k : Nat} {l : List ByteArray} (h : TS w g l w' k) (hk : k < l.length) (hg : w.heap.size ≤ g) : TS w g l (w'.setCell ⟨g, k, none⟩ (.string l[k])) (k + 1) where
  blk := by
    obtain ⟨M, h1, h2, h3⟩ := h.blk
    refine ⟨M.setIfInBounds k (.string l[k]), bset h1 _, by simp [h2], fun j hj hjk => ?_⟩
    by_cases e : j = k
    · subst e
      rw [Array.getElem?_setIfInBounds, if_pos rfl, if_pos (by omega)]
    · rw [Array.getElem?_setIfInBounds, if_neg (by omega)]
      exact h3 j hj (by omega)
  bel := h.bel.setCell (p := ⟨g, k, none⟩) hg _
theorem TS.row {w w' : World} {g : Nat} {l : List ByteArray} (h : TS w g l w' l.length) : SRow w' (some ⟨g, 0, none⟩) l where
  it _ := by
    obtain ⟨M, h1, h2, h3⟩ := h.blk
    exact ⟨g, 0, rfl, fun i hi => by rw [Nat.zero_add]; simp [World.cell?, h1]; exact h3 i hi hi⟩
set_option maxHeartbeats 1600000 in
theorem toStringS_any (a : Option Addr) (C : Nat) (l : List ByteArray) (hn : l.length ≤ 1048576) (w : World) (h : SRow w a l) :
    Calls Try.prog 26 #[.slice a l.length C] w fun e w' => e = .returned (.slice (some ⟨w.heap.size, 0, none⟩) l.length l.length) ∧ SRow w' (some ⟨w.heap.size, 0, none⟩) l ∧ SBlk w.heap.size w' (some ⟨w.heap.size, 0, none⟩) l.length ∧ Below w.heap.size w w' ∧ w.heap.size < w'.heap.size := by
  obtain ⟨i0, hi, hz0, hz1, hz2⟩ := info_parts infoS
  obtain ⟨n, hn'⟩ : ∃ n, n = l.length := ⟨_, rfl⟩
  obtain ⟨M, hM⟩ : ∃ M, M = madeCells (Value.string ⟨#[]⟩).cells (((n : Nat) : Int).toNat * i0.size) := ⟨_, rfl⟩
  have hMs : M.size = n := by rw [hM, size_madeCells, hz1]; simp
  have hmk : ∀ W : World, (Instr.makeSlice 22 (.int .i64 (n : Int)) (.int .i64 (n : Int))).run Try.prog W = .ok (.slice (some ⟨W.heap.size, 0, none⟩) n n) (W.alloc (.cells M 9)) := fun W => by
    have h := run_make (P := Try.prog) W 22 9 i0 _ Try.underlying22 hi hz0 .i64 .i64 (n : Int) (n : Int) (by omega) (by omega) (by rw [hz2]; omega) (by omega)
    rw [← hM] at h
    simpa using h
  have T0 : TS w w.heap.size l (w.alloc (.cells M 9)) 0 :=
    ⟨⟨M, heap_alloc_new w _, by omega, fun j _ hj => absurd hj (by omega)⟩, (Below.refl _ w).alloc (Nat.le_refl _) _⟩
  have HT := Lib.hid T0
  have HR := Lib.hid h
  have HN := Lib.hid hn'
  rw [← hn'] at hn ⊢
  clear h T0 hM hMs hi hz0 hz1 hz2 hn'
  go_enter Try.func26, Try.ntmps26
  go_wp2
  go_loopw [4] (fun i w' => ∃ k : Nat, k ≤ n ∧ i = .int .i64 k ∧ TS w w.heap.size l w' k) (fun i _ => n - (intOf i).toNat)
  case atStart => exact ⟨0, Nat.zero_le _, rfl, HT.out⟩
  case round =>
    obtain ⟨k, hk, rfl, hts⟩ := hrel
    rename World => wr
    by_cases hlt : k < n
    · have hkl : k < l.length := by rw [← HN.out]; exact hlt
      obtain ⟨g, o, rfl, c0⟩ := (HR.out.below hts.bel).at hkl
      obtain ⟨⟨v1, c1⟩, f1⟩ := hts.room hkl
      have HD := Lib.hid (hts.store hkl (Nat.le_refl _))
      obtain ⟨s, hs⟩ : ∃ s, s = l[k] := ⟨_, rfl⟩
      rw [← hs] at c0 HD
      clear hts hs
      go_wp2
      go_roundw
      case rel => exact ⟨k + 1, by omega, by go_num, HD.out⟩
      case measure => simp [intOf]; omega
    · obtain rfl : k = n := by omega
      have HS := Lib.hid hts
      clear hts
      go_wp2
      go_ret
      have h1 := HS.out
      rw [HN.out] at h1
      obtain ⟨M, b1, b2, _⟩ := h1.blk
      exact ⟨rfl, h1.row, fun _ => ⟨_, 0, rfl, Nat.le_refl _, M, b1, by rw [HN.out]; omega⟩, h1.bel, (Array.getElem?_eq_some_iff.1 b1).1⟩
theorem ne_same (s : ByteArray) : (s.toList != s.toList) = false := by simp
set_option maxHeartbeats 1600000 in
/-- two lists of the same texts -/
theorem eqStringS_same (a b : Option Addr) (C D : Nat) (l : List ByteArray) (hn : l.length ≤ 1048576) (w : World) (ha : SRow w a l) (hb : SRow w b l) :
    Calls Try.prog 29 #[.slice a l.length C, .slice b l.length D] w fun e w' => e = .returned (.bool true) ∧ Below w.heap.size w w' := by
  obtain ⟨n, hn'⟩ : ∃ n, n = l.length := ⟨_, rfl⟩
  have HA := Lib.hid ha
  have HB := Lib.hid hb
  have HN := Lib.hid hn'
  rw [← hn'] at hn ⊢
  clear ha hb hn'
  go_enter Try.func29, Try.ntmps29
  go_wp2
  go_loopw [5] (fun i w' => ∃ k : Nat, k ≤ n ∧ i = .int .i64 k ∧ Below w.heap.size w w') (fun i _ => n - (intOf i).toNat)
  case atStart => exact ⟨0, Nat.zero_le _, rfl, Below.refl _ _⟩
  case round =>
    obtain ⟨k, hk, rfl, hbel⟩ := hrel
    rename World => wr
    have HBB := Lib.hid hbel
    by_cases hlt : k < n
    · have hkl : k < l.length := by rw [← HN.out]; exact hlt
      obtain ⟨g, o, rfl, g1⟩ := (HA.out.below hbel).at hkl
      obtain ⟨h, o2, rfl, h1⟩ := (HB.out.below hbel).at hkl
      obtain ⟨s, hs⟩ : ∃ s, s = l[k] := ⟨_, rfl⟩
      rw [← hs] at g1 h1
      clear hbel hs
      go_wp2
      go_quiet (fail)
      go_wp2
      go_roundw
      case rel => exact ⟨k + 1, by omega, by go_num, by first | exact HBB.out | exact HBB.out.trans ⟨rfl, rfl, rfl, Nat.le_refl _, fun _ _ => rfl⟩⟩
      case measure => simp [intOf]; omega
    · clear hbel
      go_wp2
      go_ret
      exact ⟨rfl, HBB.out⟩
def markS (k n : Nat) : List ByteArray := (List.range n).map fun i => mkT (k + i)
theorem markS_len (k n : Nat) : (markS k n).length = n := by simp [markS]
theorem markS_at (k n i : Nat) (h : i < (markS k n).length) : (markS k n)[i] = mkT (k + i) := by simp [markS]
/-- k texts of the row written over -/
structure MK (w : World) (a : Option Addr) (n p : Nat) (w' : World) (k : Nat) : Prop where
  blk : n ≠ 0 → ∃ g o, a = some ⟨g, o, none⟩ ∧ ∃ M : Array Value, w'.heap[g]? = some (.cells M 9 (0, 0)) ∧ o + n ≤ M.size ∧ ∀ j, j < k → M[o + j]? = some (.string (mkT (p + j)))
  grow : w.grownBy w' (blkN a n)
theorem grown_trans {A B C : World} {r : Option Nat} (h : A.grownBy B r) (k : B.grownBy C r) : A.grownBy C r :=
  ⟨k.os.trans h.os, k.tape.trans h.tape, k.output.trans h.output, Nat.le_trans h.size k.size, fun i hi hne => (k.block i (Nat.lt_of_lt_of_le hi h.size) hne).trans (h.block i hi hne)⟩
theorem grown_set (W : World) (c o : Nat) (v : Value) : W.grownBy (W.setCell ⟨c, o, none⟩ v) (some c) :=
  ⟨rfl, rfl, rfl, by simp [World.setCell], fun k _ hk => Below.heap_setCell _ _ _ _ (fun e => hk (by rw [e]))⟩
theorem grown_below {A B : World} {r : Option Nat} (h : Below A.heap.size A B) : A.grownBy B r := ⟨h.os, h.tape, h.output, h.size, fun i hi _ => h.block i hi⟩
theorem grown_refl (A : World) (r : Option Nat) : A.grownBy A r := ⟨rfl, rfl, rfl, Nat.le_refl _, fun _ _ _ => rfl⟩
theorem SRow.set {w : World} {g : Nat} {o : Nat} {l : List ByteArray} (h : SRow w (some ⟨g, o, none⟩) l) {b k : Nat} {v : Value} (hne : l ≠ [] → g ≠ b) : SRow (w.setCell ⟨b, k, none⟩ v) (some ⟨g, o, none⟩) l :=
  h.kept (grown_set w b k v) fun hl => .inl (fun e => hne hl (by simpa [blockOf] using e))
theorem SBlk.set {w : World} {base g o n : Nat} (h : SBlk base w (some ⟨g, o, none⟩) n) {b k : Nat} {v : Value} (hne : n ≠ 0 → g ≠ b) : SBlk base (w.setCell ⟨b, k, none⟩ v) (some ⟨g, o, none⟩) n :=
  h.kept (grown_set w b k v) fun hl => .inl (fun e => hne hl (by simpa [blockOf] using e))
theorem SRow.setA {w : World} {a : Option Addr} {l : List ByteArray} (h : SRow w a l) {b k : Nat} {v : Value} (hne : l ≠ [] → blockOf a ≠ some b) : SRow (w.setCell ⟨b, k, none⟩ v) a l :=
  h.kept (grown_set w b k v) fun hl => .inl (hne hl)
theorem SBlk.setA {w : World} {a : Option Addr} {base n : Nat} (h : SBlk base w a n) {b k : Nat} {v : Value} (hne : n ≠ 0 → blockOf a ≠ some b) : SBlk base (w.setCell ⟨b, k, none⟩ v) a n :=
  h.kept (grown_set w b k v) fun hl => .inl (hne hl)
theorem SBlk.ne {w : World} {a : Option Addr} {base n b : Nat} (h : SBlk base w a n) (hb : b < base) : n ≠ 0 → blockOf a ≠ some b := fun hn e => by
  obtain ⟨g, o, rfl, h1, _⟩ := h hn
  have : g = b := by simpa [blockOf] using e
  omega
theorem MK.call {w w' w2 : World} {a : Option Addr} {n p k : Nat} (h : MK w a n p w' k) (hb : Below w'.heap.size w' w2) : MK w a n p w2 k where
  blk hn := by
    obtain ⟨g, o, e, M, h1, h2, h3⟩ := h.blk hn
    exact ⟨g, o, e, M, by rw [hb.block g (Array.getElem?_eq_some_iff.1 h1).1]; exact h1, h2, h3⟩
  grow := grown_trans h.grow (grown_below hb)
theorem MK.room {w w' : World} {a : Option Addr} {n p k : Nat} (h : MK w a n p w' k) {j : Nat} (hj : j < n) : ∃ g o, a = some ⟨g, o, none⟩ ∧ (∃ v, w'.cell? ⟨g, o + j, none⟩ = some v) ∧ w'.frozen? ⟨g, o + j, none⟩ = false := by
  obtain ⟨g, o, e, M, h1, h2, _⟩ := h.blk (by omega)
  refine ⟨g, o, e, ⟨M[o + j]'(by omega), ?_⟩, ?_⟩
  · simp [World.cell?, h1]
  · simp [World.frozen?, h1]
theorem MK.store {w w' : World} {g o n p k : Nat} (h : MK w (some ⟨g, o, none⟩) n p w' k) (hk : k < n) : MK w (some ⟨g, o, none⟩) n p (w'.setCell ⟨g, o + k, none⟩ (.string (mkT (p + k)))) (k + 1) where
  blk hn := by
    obtain ⟨g', o', e, M, h1, h2, h3⟩ := h.blk hn
    injection e with e
    injection e with e1 e2
    subst e1 e2
    refine ⟨g, o, rfl, M.setIfInBounds (o + k) (.string (mkT (p + k))), bset h1 _, by simp [h2], fun j hj => ?_⟩
    by_cases e : j = k
    · subst e
      rw [Array.getElem?_setIfInBounds, if_pos rfl, if_pos (by omega)]
    · rw [Array.getElem?_setIfInBounds, if_neg (by omega)]
      exact h3 j (by omega)
  grow := by
    have hb : blkN (some ⟨g, o, none⟩) n = some g := by unfold blkN; rw [if_neg (by omega)]; rfl
    have h1 := h.grow
    rw [hb] at h1 ⊢
    exact grown_trans h1 (grown_set w' g (o + k) _)
theorem MK.row {w w' : World} {a : Option Addr} {n p : Nat} (h : MK w a n p w' n) : SRow w' a (markS p n) where
  it hl := by
    have hn : n ≠ 0 := fun e => hl (by rw [e]; rfl)
    obtain ⟨g, o, e, M, h1, h2, h3⟩ := h.blk hn
    refine ⟨g, o, e, fun i hi => ?_⟩
    rw [markS_at]
    rw [markS_len] at hi
    simp [World.cell?, h1]
    exact h3 i hi
set_option maxHeartbeats 1600000 in
theorem markStringS_any (base : Nat) (a : Option Addr) (n C p : Nat) (hp : 0 < p) (hn : p + n ≤ 5000000) (w : World) (h : SBlk base w a n) :
    Calls Try.prog 37 #[.slice a n C, .int .i64 p] w fun e w' => e = .returned (.int .i64 (p + n : Nat)) ∧ SRow w' a (markS p n) ∧ w.grownBy w' (blkN a n) := by
  have T0 : MK w a n p w 0 := ⟨fun hn => by
    obtain ⟨g, o, e, _, M, h2, h3⟩ := h hn
    exact ⟨g, o, e, M, h2, h3, fun j hj => absurd hj (by omega)⟩, grown_refl _ _⟩
  have HT := Lib.hid T0
  clear T0 h
  go_enter Try.func37, Try.ntmps37
  go_wp2
  go_loopw [1, 5] (fun m i w' => ∃ j : Nat, j ≤ n ∧ i = .int .i64 j ∧ m = .int .i64 (p + j : Nat) ∧ MK w a n p w' j) (fun _ i _ => n - (intOf i).toNat)
  case atStart => exact ⟨0, Nat.zero_le _, rfl, rfl, HT.out⟩
  case round =>
    obtain ⟨j, hj, rfl, rfl, hts⟩ := hrel
    rename World => wr
    have HS := Lib.hid hts
    clear hts
    by_cases hlt : j < n
    · have hmt := Lib.hid (markText_any (p + j) (by omega) (by omega))
      obtain ⟨X, hX⟩ : ∃ X, X = mkT (p + j) := ⟨_, rfl⟩
      rw [← hX] at hmt
      have HX := Lib.hid hX
      clear hX
      go_wp2_with fail
      refine (hmt.out _).mono ?_
      rintro e w2 ⟨rfl, hb2⟩
      have h2 := HS.out.call hb2
      obtain ⟨g, o, rfl, ⟨v1, c1⟩, f1⟩ := h2.room hlt
      have HD := Lib.hid (h2.store hlt)
      rw [← HX.out] at HD
      clear hb2 h2
      go_wp2
      go_roundw
      case rel => exact ⟨j + 1, by omega, by go_num, by go_num, HD.out⟩
      case measure => simp [intOf]; omega
    · obtain rfl : j = n := by omega
      go_wp2
      go_ret
      exact ⟨rfl, HS.out.row, HS.out.grow⟩
set_option maxHeartbeats 1600000 in
theorem heldStringS_any (a : Option Addr) (n C p : Nat) (hp : 0 < p) (hn : p + n ≤ 5000000) (w : World) (h : SRow w a (markS p n)) :
    Calls Try.prog 38 #[.slice a n C, .int .i64 p] w fun e w' => e = .returned (.int .i64 (p + n : Nat)) ∧ Below w.heap.size w w' := by
  have HR := Lib.hid h
  clear h
  go_enter Try.func38, Try.ntmps38
  go_wp2
  go_loopw [1, 5] (fun m i w' => ∃ j : Nat, j ≤ n ∧ i = .int .i64 j ∧ m = .int .i64 (p + j : Nat) ∧ Below w.heap.size w w') (fun _ i _ => n - (intOf i).toNat)
  case atStart => exact ⟨0, Nat.zero_le _, rfl, rfl, Below.refl _ _⟩
  case round =>
    obtain ⟨j, hj, rfl, rfl, hb⟩ := hrel
    rename World => wr
    have HB := Lib.hid hb
    have hz := hb.size
    by_cases hlt : j < n
    · obtain ⟨g, o, rfl, g1⟩ := (HR.out.below hb).at (i := j) (by rw [markS_len]; exact hlt)
      rw [markS_at] at g1
      have gz := blk_lt g1
      have HM := Lib.hid (markText_any (p + j) (by omega) (by omega))
      obtain ⟨T, hT⟩ : ∃ T, T = mkT (p + j) := ⟨_, rfl⟩
      rw [← hT] at g1 HM
      clear hb hT
      go_wp2
      go_region_held3 (fun w' => w'.cell? ⟨g, o + j, none⟩ = some (.string T)) (go_keep)
        (first | (go_at_call 51; refine (HM.out _).mono ?_; rintro e w4 ⟨rfl, hb4⟩; obtain ⟨p1, _⟩ := keepC hb4 (g := g) gz))
      all_goals
        have HB2 := Lib.hid (bthen HB.out.drew hb4 hz)
        clear p1 hb4
        go_wp2
        go_roundw
        case rel => exact ⟨j + 1, by omega, by go_num, by go_num, HB2.out⟩
        case measure => simp [intOf]; omega
    · obtain rfl : j = n := by omega
      clear hb
      go_wp2
      go_ret
      exact ⟨rfl, HB.out⟩
/-- two rows, the one there before the other: writing over the later one leaves the earlier -/
theorem SRow.over {w w' : World} {a b : Option Addr} {l : List ByteArray} {n B : Nat} (h : SRow w a l) (hg : w.grownBy w' (blkN b n)) (hs : SBlk B w b n) (ha : ∀ x, blkN a l.length = some x → x < B) : SRow w' a l :=
  h.kept hg fun hl => by
    by_cases hn : n = 0
    · exact .inr (by unfold blkN; rw [if_pos hn])
    · obtain ⟨g, o, rfl, h1, _⟩ := hs hn
      refine .inl fun e => ?_
      have e1 : blkN (some ⟨g, o, none⟩) n = some g := by unfold blkN; rw [if_neg hn]; rfl
      have h2 : l.length ≠ 0 := fun e => hl (List.eq_nil_of_length_eq_zero e)
      have := ha g (by unfold blkN; rw [if_neg h2, e, e1])
      omega
theorem SRow.lt {w : World} {a : Option Addr} {l : List ByteArray} (h : SRow w a l) : ∀ x, blkN a l.length = some x → x < w.heap.size := fun x e => by
  unfold blkN at e
  by_cases h2 : l.length = 0
  · rw [if_pos h2] at e; cases e
  · rw [if_neg h2] at e
    obtain ⟨g, o, rfl, h3⟩ := h.at (i := 0) (by omega)
    have : g = x := by simpa [blockOf] using e
    subst this
    exact blk_lt h3
theorem SBlk.lt {B n : Nat} {w : World} {b : Option Addr} (h : SBlk B w b n) : ∀ x, blkN b n = some x → B ≤ x := fun x e => by
  unfold blkN at e
  by_cases h2 : n = 0
  · rw [if_pos h2] at e; cases e
  · rw [if_neg h2] at e
    obtain ⟨g, o, rfl, h3, _⟩ := h h2
    have : g = x := by simpa [blockOf] using e
    omega
/-- a row written over stays a row -/
theorem SBlk.mark {B B2 n m : Nat} {w w' : World} {a b : Option Addr} (h : SBlk B w a n) (hg : w.grownBy w' (blkN b m)) (hs : SBlk B2 w b m) (hlt : ∀ x, blkN b m = some x → x < B) : SBlk B w' a n :=
  h.kept hg fun hn => by
    by_cases hm : m = 0
    · exact .inr (by unfold blkN; rw [if_pos hm])
    · obtain ⟨g, o, rfl, h1, _⟩ := hs hm
      refine .inl fun e => ?_
      have e1 : blkN (some ⟨g, o, none⟩) m = some g := by unfold blkN; rw [if_neg hm]; rfl
      obtain ⟨g', o', rfl, h2, _⟩ := h hn
      have h3 := hlt g e1
      rw [e1] at e
      have : g' = g := by simpa [blockOf] using e
      omega
end Go.Proofs.Ytjjabfcdhknigaa.strs
