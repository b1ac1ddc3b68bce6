/-
  Lists of lines in memory, and what the laws do around them: sizes, copies, comparing, writing over. For every such list.
-/
import Derived.Test.YtjjabfcdhknigaaStrs
namespace Go.Proofs.Ytjjabfcdhknigaa.lines
open Go.ChangeShapes Go.WideShapes Go.ChangeAt Go.RowKit Go.Deep
open Go.Proofs.Ytjjabfcdhknigaa.strs
def lV (s : ByteArray) (z : Int) : Value := .agg #[.string s, .int .i64 z]
/-- lines behind each other, if any, from an address on -/
structure LRow (w : World) (a : Option Addr) (l : List (ByteArray × Int)) : Prop where
  it : l ≠ [] → ∃ g o, a = some ⟨g, o, none⟩ ∧ ∀ i (h : i < l.length), w.cell? ⟨g, o + i * 2, none⟩ = some (.string l[i].1) ∧ w.cell? ⟨g, o + i * 2 + 1, none⟩ = some (.int .i64 l[i].2)
theorem LRow.none_nil {w : World} {l : List (ByteArray × Int)} (h : LRow w none l) : l = [] := by
  rcases l with _ | ⟨s, l⟩
  · rfl
  · obtain ⟨g, o, e, _⟩ := h.it (by simp)
    cases e
theorem LRow.nil (w : World) (a : Option Addr) : LRow w a [] := ⟨fun h => absurd rfl h⟩
theorem LRow.at {w : World} {a : Option Addr} {l : List (ByteArray × Int)} (h : LRow w a l) {i : Nat} (hi : i < l.length) : ∃ g o, a = some ⟨g, o, none⟩ ∧ w.cell? ⟨g, o + i * 2, none⟩ = some (.string l[i].1) ∧ w.cell? ⟨g, o + i * 2 + 1, none⟩ = some (.int .i64 l[i].2) := by
  obtain ⟨g, o, e, h1⟩ := h.it (fun e => by rw [e] at hi; simp at hi)
  exact ⟨g, o, e, h1 i hi⟩
theorem LRow.kept {w w' : World} {a : Option Addr} {l : List (ByteArray × Int)} {r : Option Nat} (h : LRow w a l) (hg : w.grownBy w' r) (hne : l ≠ [] → blockOf a ≠ r ∨ r = none) : LRow w' a l where
  it hl := by
    obtain ⟨g, o, e, h1⟩ := h.it hl
    refine ⟨g, o, e, fun i hi => ?_⟩
    have hb : w'.heap[g]? = w.heap[g]? := hg.block g (blk_lt (h1 i hi).1) (fun e2 => by
      rcases hne hl with h3 | h3
      · rw [e] at h3; exact h3 e2
      · rw [h3] at e2; cases e2)
    rw [World.cell?_of_block (a := ⟨g, o + i * 2, none⟩) hb, World.cell?_of_block (a := ⟨g, o + i * 2 + 1, none⟩) hb]
    exact h1 i hi
theorem LRow.below {w w' : World} {a : Option Addr} {l : List (ByteArray × Int)} (h : LRow w a l) (hb : Below w.heap.size w w') : LRow w' a l := h.kept (grown_below (r := none) hb) fun _ => .inr rfl
theorem LRow.lt {w : World} {a : Option Addr} {l : List (ByteArray × Int)} (h : LRow w a l) : ∀ x, blkN a l.length = some x → x < w.heap.size := fun x e => by
  unfold blkN at e
  by_cases h2 : l.length = 0
  · rw [if_pos h2] at e; cases e
  · rw [if_neg h2] at e
    obtain ⟨g, o, rfl, h3, _⟩ := h.at (i := 0) (by omega)
    have : g = x := by simpa [blockOf] using e
    subst this
    exact blk_lt h3
theorem LRow.off {w w' : World} {a b : Option Addr} {l : List (ByteArray × Int)} {n : Nat} (h : LRow w a l) (hg : w.grownBy w' (blkN b n)) (hne : ∀ x, blkN a l.length = some x → blkN b n ≠ some x) : LRow w' a l :=
  h.kept hg fun hl => by
    by_cases hr : blkN b n = none
    · exact .inr hr
    · obtain ⟨x, hx⟩ := Option.ne_none_iff_exists'.1 hr
      refine .inl fun e => hne x ?_ hx
      unfold blkN
      rw [if_neg (fun e => hl (List.eq_nil_of_length_eq_zero e)), e, hx]
/-- what can be written into: a row of n lines of the call's own memory from base on -/
def LBlk (base : Nat) (w : World) (a : Option Addr) (n : Nat) : Prop := n ≠ 0 → ∃ g o, a = some ⟨g, o, none⟩ ∧ base ≤ g ∧ ∃ M : Array Value, w.heap[g]? = some (.cells M 60 (0, 0)) ∧ o + n * 2 ≤ M.size
theorem LBlk.kept {base : Nat} {w w' : World} {a : Option Addr} {n : Nat} {r : Option Nat} (h : LBlk base w a n) (hg : w.grownBy w' r) (hne : n ≠ 0 → blockOf a ≠ r ∨ r = none) : LBlk base w' a n := fun hn => by
  obtain ⟨g, o, e, h1, M, h2, h3⟩ := h hn
  refine ⟨g, o, e, h1, M, ?_, h3⟩
  rw [hg.block g (Array.getElem?_eq_some_iff.1 h2).1 (fun e2 => by
    rcases hne hn with h4 | h4
    · rw [e] at h4; exact h4 e2
    · rw [h4] at e2; cases e2)]
  exact h2
theorem LBlk.below {base : Nat} {w w' : World} {a : Option Addr} {n : Nat} (h : LBlk base w a n) (hb : Below w.heap.size w w') : LBlk base w' a n := h.kept (grown_below (r := none) hb) fun _ => .inr rfl
theorem LBlk.lo {base b' : Nat} {w : World} {a : Option Addr} {n : Nat} (h : LBlk base w a n) (hle : b' ≤ base) : LBlk b' w a n := fun hn => by
  obtain ⟨g, o, e, h1, r⟩ := h hn
  exact ⟨g, o, e, Nat.le_trans hle h1, r⟩
theorem LBlk.lt {B n : Nat} {w : World} {b : Option Addr} (h : LBlk B w b n) : ∀ x, blkN b n = some x → B ≤ x := fun x e => by
  unfold blkN at e
  by_cases h2 : n = 0
  · rw [if_pos h2] at e; cases e
  · rw [if_neg h2] at e
    obtain ⟨g, o, rfl, h3, _⟩ := h h2
    have : g = x := by simpa [blockOf] using e
    omega
theorem LBlk.off {w w' : World} {a b : Option Addr} {B n m : Nat} (h : LBlk B w a n) (hg : w.grownBy w' (blkN b m)) (hne : ∀ x, blkN a n = some x → blkN b m ≠ some x) : LBlk B w' a n :=
  h.kept hg fun hn => by
    by_cases hr : blkN b m = none
    · exact .inr hr
    · obtain ⟨x, hx⟩ := Option.ne_none_iff_exists'.1 hr
      refine .inl fun e => hne x ?_ hx
      unfold blkN
      rw [if_neg hn, e, hx]
def szOne (s : ByteArray) (left : Int) : Int := if left < s.size then -1 else left - s.size
theorem szLine_any (s : ByteArray) (z left : Int) (h0 : 0 ≤ left) (h1 : left ≤ 1048576) (hs : s.size ≤ maxLen) (w : World) :
    Calls Try.prog 39 #[lV s z, .int .i64 left] w fun e w' => e = .returned (.int .i64 (szOne s left)) ∧ Below w.heap.size w w' := by
  have hal := (Below.refl _ w).alloc (Nat.le_refl _) (.cells #[.string s, .int .i64 z] 58)
  have HB := Lib.hid hal
  unfold maxLen at hs
  unfold lV
  clear hal
  by_cases h : left < s.size
  · have HV := Lib.hid (show szOne s left = -1 by unfold szOne; rw [if_pos h])
    go_enter Try.func39, Try.ntmps39
    go_wp2
    go_ret
    exact ⟨by rw [HV.out]; rfl, HB.out⟩
  · have HV := Lib.hid (show szOne s left = left - s.size by unfold szOne; rw [if_neg h])
    go_enter Try.func39, Try.ntmps39
    go_wp2
    go_ret
    exact ⟨by rw [HV.out]; rfl, HB.out⟩
theorem toLine_any (s : ByteArray) (z : Int) (w : World) :
    Calls Try.prog 41 #[lV s z] w fun e w' => e = .returned (lV s z) ∧ Below w.heap.size w w' := by
  have hal := (((Below.refl _ w).alloc (Nat.le_refl _) (.cells #[.string s, .int .i64 z] 58)).alloc (by simp) (.cells #[.string s, .int .i64 z] 60)).alloc (by simp; omega) (.cells #[.string s, .int .i64 z] 60)
  have HB := Lib.hid hal
  unfold lV
  clear hal
  go_enter Try.func41, Try.ntmps41
  go_wp2
  exact bodyPost_ret (v := .agg #[.string s, .int .i64 z]) (by simp [results, Try.results41, go_sem]) rfl ⟨rfl, HB.out⟩
theorem eqLine_same (s : ByteArray) (z : Int) (w : World) :
    Calls Try.prog 44 #[lV s z, lV s z] w fun e w' => e = .returned (.bool true) ∧ Below w.heap.size w w' := by
  have hal := ((Below.refl _ w).alloc (Nat.le_refl _) (.cells #[.string s, .int .i64 z] 60)).alloc (by simp) (.cells #[.string s, .int .i64 z] 60)
  have HB := Lib.hid hal
  unfold lV
  clear hal
  go_enter Try.func44, Try.ntmps44
  go_wp2
  go_ret
  exact ⟨rfl, HB.out⟩
def szL (l : List (ByteArray × Int)) (left : Int) : Int := szV (l.map Prod.fst) left
theorem szOne_eq {l : List (ByteArray × Int)} {k : Nat} (hk : k < l.length) : sumTo (l.map Prod.fst) (k + 1) = sumTo (l.map Prod.fst) k + l[k].1.size := by
  show _ + ((l.map Prod.fst)[k]?.getD ⟨#[]⟩).size = _
  rw [List.getElem?_map, List.getElem?_eq_getElem hk]
  rfl
set_option maxHeartbeats 1600000 in
theorem szLineS_any (a : Option Addr) (C : Nat) (l : List (ByteArray × Int)) (left : Int) (h0 : 0 ≤ left) (h1 : left ≤ 1048576) (hn : l.length ≤ maxLen) (hl : ∀ s ∈ l, s.1.size ≤ maxLen) (w : World) (h : LRow w a l) :
    Calls Try.prog 18 #[.slice a l.length C, .int .i64 left] w fun e w' => e = .returned (.int .i64 (szL l left)) ∧ Below w.heap.size w w' := by
  obtain ⟨n, hn'⟩ : ∃ n, n = l.length := ⟨_, rfl⟩
  have HN := Lib.hid hn'
  have HA := Lib.hid h
  obtain ⟨S, hS⟩ : ∃ S, S = sumTo (l.map Prod.fst) := ⟨_, rfl⟩
  have HV := Lib.hid (show szL l left = if left < n + S n then -1 else left - n - S n by unfold szL szV; rw [hS, hn', List.length_map])
  have HL := Lib.hid hl
  have HM := Lib.hid (show ∀ k m, k ≤ m → S k ≤ S m from fun k m => by rw [hS]; exact sumTo_mono _ k m)
  have HP := Lib.hid (show ∀ k (hk : k < l.length), S (k + 1) = S k + l[k].1.size from fun k hk => by rw [hS]; exact szOne_eq hk)
  have hS0 : S 0 = 0 := by rw [hS]; rfl
  rw [← hn'] at hn ⊢
  unfold maxLen at hn
  clear h hn' hl hS
  by_cases hb : left < n
  · go_enter Try.func18, Try.ntmps18
    go_wp2
    go_ret
    exact ⟨by rw [HV.out, if_pos (by omega)]; rfl, Below.refl _ _⟩
  go_enter Try.func18, Try.ntmps18
  go_wp2
  go_loopw [1, 5] (fun sl i w' => ∃ k : Nat, k ≤ n ∧ i = .int .i64 k ∧ sl = .int .i64 (left - n - S k : Int) ∧ n + S k ≤ left ∧ Below w.heap.size w w') (fun _ i _ => n - (intOf i).toNat)
  case atStart => exact ⟨0, Nat.zero_le _, rfl, by simp [hS0], by simp [hS0]; omega, Below.refl _ _⟩
  case round =>
    obtain ⟨k, hk, rfl, rfl, hs, hbel⟩ := hrel
    rename World => wr
    have HB := Lib.hid hbel
    by_cases hlt : k < n
    · have hkl : k < l.length := by rw [← HN.out]; exact hlt
      obtain ⟨g, o, rfl, c0, c1⟩ := (HA.out.below hbel).at hkl
      have hsum := HP.out k hkl
      have hx := HL.out l[k] (List.getElem_mem hkl)
      obtain ⟨s, hse⟩ : ∃ s, s = l[k].1 := ⟨_, rfl⟩
      obtain ⟨z, hze⟩ : ∃ z, z = l[k].2 := ⟨_, rfl⟩
      rw [← hse] at c0 hsum hx
      rw [← hze] at c1
      have HC := Lib.hid (szLine_any s z (left - n - S k) (by omega) (by omega) hx)
      unfold maxLen at hx
      have HS := Lib.hid hsum
      unfold lV at HC
      clear hse hze hsum hbel
      by_cases hbig : left - (n : Int) - S k < s.size
      · have hlast : left < n + S n := by have := HS.out; have := HM.out (k + 1) n (by omega); omega
        have HL2 := Lib.hid hlast
        have hv : szOne s (left - n - S k) = -1 := by unfold szOne; rw [if_pos hbig]
        rw [hv] at HC
        clear hlast hv
        go_wp2_with fail
        refine (HC.out _).mono ?_
        rintro e w1 ⟨rfl, hb1⟩
        have HX := Lib.hid (bthen HB.out hb1 HB.out.size)
        clear hb1
        go_wp2
        go_ret
        exact ⟨by rw [HV.out, if_pos HL2.out]; rfl, HX.out⟩
      · have hv : szOne s (left - n - S k) = left - n - S (k + 1) := by unfold szOne; rw [if_neg hbig, HS.out]; omega
        rw [hv] at HC
        have hpos : ¬ left - (n : Int) - S (k + 1) < 0 := by have := HS.out; omega
        have hnew : n + S (k + 1) ≤ left := by omega
        clear hv
        go_wp2_with fail
        refine (HC.out _).mono ?_
        rintro e w1 ⟨rfl, hb1⟩
        have HX := Lib.hid (bthen HB.out hb1 HB.out.size)
        clear hb1
        go_wp2
        go_roundw
        case rel => exact ⟨k + 1, by omega, by go_num, rfl, hnew, HX.out⟩
        case measure => simp [intOf]; omega
    · obtain rfl : k = n := by omega
      clear hbel
      go_wp2
      go_ret
      exact ⟨by rw [HV.out, if_neg (by omega)]; rfl, HB.out⟩
theorem infoL : (Try.prog.info? 60).map (fun i => (i.zero, i.size, i.bytes)) = some (some (lV ⟨#[]⟩ 0), 2, 24) := by kernel_rfl
/-- the copy so far -/
structure LS (w : World) (g : Nat) (l : List (ByteArray × Int)) (w' : World) (k : Nat) : Prop where
  blk : ∃ M : Array Value, w'.heap[g]? = some (.cells M 60 (0, 0)) ∧ M.size = l.length * 2 ∧ ∀ j (h : j < l.length), j < k → M[j * 2]? = some (.string l[j].1) ∧ M[j * 2 + 1]? = some (.int .i64 l[j].2)
  bel : Below w.heap.size w w'
theorem LS.call {w w' w2 : World} {g k : Nat} {l : List (ByteArray × Int)} (h : LS w g l w' k) (hb : Below w'.heap.size w' w2) : LS w g l w2 k where
  blk := by
    obtain ⟨M, h1, h2, h3⟩ := h.blk
    exact ⟨M, by rw [hb.block g (Array.getElem?_eq_some_iff.1 h1).1]; exact h1, h2, h3⟩
  bel := bthen h.bel hb h.bel.size
theorem LS.room {w w' : World} {g k : Nat} {l : List (ByteArray × Int)} (h : LS w g l w' k) {o : Nat} (ho : o < l.length * 2) : (∃ v, w'.cell? ⟨g, o, none⟩ = some v) ∧ w'.frozen? ⟨g, o, none⟩ = false := by
  obtain ⟨M, h1, h2, h3⟩ := h.blk
  refine ⟨⟨M[o]'(by omega), ?_⟩, ?_⟩
  · simp [World.cell?, h1]
  · simp [World.frozen?, h1]
theorem LS.store {w w' : World} {g k : Nat} {l : List (ByteArray × Int)} (h : LS w g l w' k) (hk : k < l.length) (hg : w.heap.size ≤ g) : LS w g l ((w'.setCell ⟨g, k * 2, none⟩ (.string l[k].1)).setCell ⟨g, k * 2 + 1, none⟩ (.int .i64 l[k].2)) (k + 1) where
  blk := by
    obtain ⟨M, h1, h2, h3⟩ := h.blk
    refine ⟨(M.setIfInBounds (k * 2) (.string l[k].1)).setIfInBounds (k * 2 + 1) (.int .i64 l[k].2), bset (bset h1 _) _, by simp [h2], fun j hj hjk => ?_⟩
    by_cases e : j = k
    · subst e
      constructor
      · rw [Array.getElem?_setIfInBounds, if_neg (by omega), Array.getElem?_setIfInBounds, if_pos rfl, if_pos (by omega)]
      · rw [Array.getElem?_setIfInBounds, if_pos rfl, if_pos (by simp; omega)]
    · rw [Array.getElem?_setIfInBounds, if_neg (by omega), Array.getElem?_setIfInBounds, if_neg (by omega), Array.getElem?_setIfInBounds, if_neg (by omega), Array.getElem?_setIfInBounds, if_neg (by omega)]
      exact h3 j hj (by omega)
  bel := (h.bel.setCell (p := ⟨g, k * 2, none⟩) hg _).setCell (p := ⟨g, k * 2 + 1, none⟩) hg _
theorem LS.row {w w' : World} {g : Nat} {l : List (ByteArray × Int)} (h : LS w g l w' l.length) : LRow w' (some ⟨g, 0, none⟩) l where
  it _ := by
    obtain ⟨M, h1, h2, h3⟩ := h.blk
    exact ⟨g, 0, rfl, fun i hi => by rw [Nat.zero_add]; simp [World.cell?, h1]; exact h3 i hi hi⟩
set_option maxHeartbeats 1600000 in
theorem toLineS_any (a : Option Addr) (C : Nat) (l : List (ByteArray × Int)) (hn : l.length ≤ 1048576) (w : World) (h : LRow w a l) :
    Calls Try.prog 20 #[.slice a l.length C] w fun e w' => e = .returned (.slice (some ⟨w.heap.size, 0, none⟩) l.length l.length) ∧ LRow w' (some ⟨w.heap.size, 0, none⟩) l ∧ LBlk w.heap.size w' (some ⟨w.heap.size, 0, none⟩) l.length ∧ Below w.heap.size w w' ∧ w.heap.size < w'.heap.size := by
  obtain ⟨i0, hi, hz0, hz1, hz2⟩ := info_parts infoL
  obtain ⟨n, hn'⟩ : ∃ n, n = l.length := ⟨_, rfl⟩
  obtain ⟨M, hM⟩ : ∃ M, M = madeCells (lV ⟨#[]⟩ 0).cells (((n : Nat) : Int).toNat * i0.size) := ⟨_, rfl⟩
  have hMs : M.size = n * 2 := by rw [hM, size_madeCells, hz1]; simp
  have hmk : ∀ W : World, (Instr.makeSlice 37 (.int .i64 (n : Int)) (.int .i64 (n : Int))).run Try.prog W = .ok (.slice (some ⟨W.heap.size, 0, none⟩) n n) (W.alloc (.cells M 60)) := fun W => by
    have h := run_make (P := Try.prog) W 37 60 i0 _ Try.underlying37 hi hz0 .i64 .i64 (n : Int) (n : Int) (by omega) (by omega) (by rw [hz2]; omega) (by omega)
    rw [← hM] at h
    simpa using h
  have T0 : LS w w.heap.size l (w.alloc (.cells M 60)) 0 :=
    ⟨⟨M, heap_alloc_new w _, by omega, fun j _ hj => absurd hj (by omega)⟩, (Below.refl _ w).alloc (Nat.le_refl _) _⟩
  have HT := Lib.hid T0
  have HR := Lib.hid h
  have HN := Lib.hid hn'
  rw [← hn'] at hn ⊢
  clear h T0 hM hMs hi hz0 hz1 hz2 hn'
  go_enter Try.func20, Try.ntmps20
  go_wp2
  go_loopw [4] (fun i w' => ∃ k : Nat, k ≤ n ∧ i = .int .i64 k ∧ LS w w.heap.size l w' k) (fun i _ => n - (intOf i).toNat)
  case atStart => exact ⟨0, Nat.zero_le _, rfl, HT.out⟩
  case round =>
    obtain ⟨k, hk, rfl, hts⟩ := hrel
    rename World => wr
    by_cases hlt : k < n
    · have hkl : k < l.length := by rw [← HN.out]; exact hlt
      obtain ⟨g, o, rfl, c0, c1⟩ := (HR.out.below hts.bel).at hkl
      have HTS := Lib.hid hts
      have HD := Lib.hid (fun (w2 : World) (h2 : LS w w.heap.size l w2 k) => h2.store hkl (Nat.le_refl _))
      have HRM := Lib.hid (fun (w2 : World) (h2 : LS w w.heap.size l w2 k) => And.intro (h2.room (o := k * 2) (by omega)) (h2.room (o := k * 2 + 1) (by omega)))
      obtain ⟨s, hs⟩ : ∃ s, s = l[k].1 := ⟨_, rfl⟩
      obtain ⟨z, hz⟩ : ∃ z, z = l[k].2 := ⟨_, rfl⟩
      rw [← hs] at c0 HD
      rw [← hz] at c1 HD
      have HC := Lib.hid (toLine_any s z)
      unfold lV at HC
      clear hts hs hz
      go_wp2_with fail
      refine (HC.out _).mono ?_
      rintro e w1 ⟨rfl, hb1⟩
      have hts1 := HTS.out.call hb1
      obtain ⟨⟨⟨v1, c2⟩, f2⟩, ⟨v2, c3⟩, f3⟩ := HRM.out w1 hts1
      have HD1 := Lib.hid (HD.out w1 hts1)
      clear hts1 hb1
      go_wp2
      go_roundw
      case rel => exact ⟨k + 1, by omega, by go_num, HD1.out⟩
      case measure => simp [intOf]; omega
    · obtain rfl : k = n := by omega
      have HS := Lib.hid hts
      clear hts
      go_wp2
      go_ret
      have h1 := HS.out
      rw [HN.out] at h1
      obtain ⟨M, b1, b2, _⟩ := h1.blk
      exact ⟨rfl, h1.row, fun _ => ⟨_, 0, rfl, Nat.le_refl _, M, b1, by rw [HN.out]; omega⟩, h1.bel, (Array.getElem?_eq_some_iff.1 b1).1⟩
set_option maxHeartbeats 1600000 in
/-- two lists of the same lines -/
theorem eqLineS_same (a b : Option Addr) (C D : Nat) (l : List (ByteArray × Int)) (hn : l.length ≤ 1048576) (w : World) (ha : LRow w a l) (hb : LRow w b l) :
    Calls Try.prog 22 #[.slice a l.length C, .slice b l.length D] w fun e w' => e = .returned (.bool true) ∧ Below w.heap.size w w' := by
  obtain ⟨n, hn'⟩ : ∃ n, n = l.length := ⟨_, rfl⟩
  have HA := Lib.hid ha
  have HB := Lib.hid hb
  have HN := Lib.hid hn'
  rw [← hn'] at hn ⊢
  clear ha hb hn'
  go_enter Try.func22, Try.ntmps22
  go_wp2
  go_loopw [5] (fun i w' => ∃ k : Nat, k ≤ n ∧ i = .int .i64 k ∧ Below w.heap.size w w') (fun i _ => n - (intOf i).toNat)
  case atStart => exact ⟨0, Nat.zero_le _, rfl, Below.refl _ _⟩
  case round =>
    obtain ⟨k, hk, rfl, hbel⟩ := hrel
    rename World => wr
    have HBB := Lib.hid hbel
    by_cases hlt : k < n
    · have hkl : k < l.length := by rw [← HN.out]; exact hlt
      obtain ⟨g, o, rfl, g1, g2⟩ := (HA.out.below hbel).at hkl
      obtain ⟨h, o2, rfl, h1, h2⟩ := (HB.out.below hbel).at hkl
      obtain ⟨s, hs⟩ : ∃ s, s = l[k].1 := ⟨_, rfl⟩
      obtain ⟨z, hz⟩ : ∃ z, z = l[k].2 := ⟨_, rfl⟩
      rw [← hs] at g1 h1
      rw [← hz] at g2 h2
      have HC := Lib.hid (eqLine_same s z)
      unfold lV at HC
      clear hbel hs hz
      have y1 := blk_lt g1
      have y2 := blk_lt h1
      go_wp2
      go_region_held3 (fun w' => (w'.cell? ⟨g, o + k * 2, none⟩ = some (.string s) ∧ w'.cell? ⟨g, o + k * 2 + 1, none⟩ = some (.int .i64 z)) ∧ (w'.cell? ⟨h, o2 + k * 2, none⟩ = some (.string s) ∧ w'.cell? ⟨h, o2 + k * 2 + 1, none⟩ = some (.int .i64 z))) (go_keep)
        (first | (go_at_call 44; refine (HC.out _).mono ?_; rintro e w4 ⟨rfl, hb4⟩; obtain ⟨p1, _⟩ := keepC hb4 (g := g) y1; obtain ⟨p2, _⟩ := keepC hb4 (g := h) y2))
      all_goals
        have HX := Lib.hid (bthen HBB.out.drew hb4 HBB.out.size)
        clear p1 p2 hb4
        go_wp2
        go_roundw
        case rel => exact ⟨k + 1, by omega, by go_num, HX.out⟩
        case measure => simp [intOf]; omega
    · clear hbel
      go_wp2
      go_ret
      exact ⟨rfl, HBB.out⟩
def markL (p n : Nat) : List (ByteArray × Int) := (List.range n).map fun i => (mkT (p + 2 * i), ((p + 2 * i + 1 : Nat) : Int))
theorem markL_len (p n : Nat) : (markL p n).length = n := by simp [markL]
theorem markL_at (p n i : Nat) (h : i < (markL p n).length) : (markL p n)[i] = (mkT (p + 2 * i), ((p + 2 * i + 1 : Nat) : Int)) := by simp [markL]
/-- k lines of the row written over -/
structure ML (w : World) (a : Option Addr) (n p : Nat) (w' : World) (k : Nat) : Prop where
  blk : n ≠ 0 → ∃ g o, a = some ⟨g, o, none⟩ ∧ ∃ M : Array Value, w'.heap[g]? = some (.cells M 60 (0, 0)) ∧ o + n * 2 ≤ M.size ∧ ∀ j, j < k → M[o + j * 2]? = some (.string (mkT (p + 2 * j))) ∧ M[o + j * 2 + 1]? = some (.int .i64 ((p + 2 * j + 1 : Nat) : Int))
  grow : w.grownBy w' (blkN a n)
theorem ML.call {w w' w2 : World} {a : Option Addr} {n p k : Nat} (h : ML w a n p w' k) (hb : Below w'.heap.size w' w2) : ML w a n p w2 k where
  blk hn := by
    obtain ⟨g, o, e, M, h1, h2, h3⟩ := h.blk hn
    exact ⟨g, o, e, M, by rw [hb.block g (Array.getElem?_eq_some_iff.1 h1).1]; exact h1, h2, h3⟩
  grow := grown_trans h.grow (grown_below hb)
theorem ML.room {w w' : World} {a : Option Addr} {n p k : Nat} (h : ML w a n p w' k) {j : Nat} (hj : j < n) : ∃ g o, a = some ⟨g, o, none⟩ ∧ ((∃ v, w'.cell? ⟨g, o + j * 2, none⟩ = some v) ∧ w'.frozen? ⟨g, o + j * 2, none⟩ = false) ∧ (∃ v, w'.cell? ⟨g, o + j * 2 + 1, none⟩ = some v) ∧ w'.frozen? ⟨g, o + j * 2 + 1, none⟩ = false := by
  obtain ⟨g, o, e, M, h1, h2, _⟩ := h.blk (by omega)
  refine ⟨g, o, e, ⟨⟨M[o + j * 2]'(by omega), ?_⟩, ?_⟩, ⟨M[o + j * 2 + 1]'(by omega), ?_⟩, ?_⟩
  · simp [World.cell?, h1]
  · simp [World.frozen?, h1]
  · simp [World.cell?, h1]
  · simp [World.frozen?, h1]
theorem ML.store {w w' : World} {g o n p k : Nat} (h : ML w (some ⟨g, o, none⟩) n p w' k) (hk : k < n) : ML w (some ⟨g, o, none⟩) n p ((w'.setCell ⟨g, o + k * 2, none⟩ (.string (mkT (p + 2 * k)))).setCell ⟨g, o + k * 2 + 1, none⟩ (.int .i64 ((p + 2 * k + 1 : Nat) : Int))) (k + 1) where
  blk hn := by
    obtain ⟨g', o', e, M, h1, h2, h3⟩ := h.blk hn
    injection e with e
    injection e with e1 e2
    subst e1 e2
    refine ⟨g, o, rfl, (M.setIfInBounds (o + k * 2) (.string (mkT (p + 2 * k)))).setIfInBounds (o + k * 2 + 1) (.int .i64 ((p + 2 * k + 1 : Nat) : Int)), bset (bset h1 _) _, by simp [h2], fun j hj => ?_⟩
    by_cases e : j = k
    · subst e
      constructor
      · rw [Array.getElem?_setIfInBounds, if_neg (by omega), Array.getElem?_setIfInBounds, if_pos rfl, if_pos (by omega)]
      · rw [Array.getElem?_setIfInBounds, if_pos rfl, if_pos (by simp; omega)]
    · rw [Array.getElem?_setIfInBounds, if_neg (by omega), Array.getElem?_setIfInBounds, if_neg (by omega), Array.getElem?_setIfInBounds, if_neg (by omega), Array.getElem?_setIfInBounds, if_neg (by omega)]
      exact h3 j (by omega)
  grow := by
    have hb : blkN (some ⟨g, o, none⟩) n = some g := by unfold blkN; rw [if_neg (by omega)]; rfl
    have h1 := h.grow
    rw [hb] at h1 ⊢
    exact grown_trans (grown_trans h1 (grown_set w' g (o + k * 2) _)) (grown_set _ g (o + k * 2 + 1) _)
theorem ML.row {w w' : World} {a : Option Addr} {n p : Nat} (h : ML w a n p w' n) : LRow w' a (markL p n) where
  it hl := by
    have hn : n ≠ 0 := fun e => hl (by rw [e]; rfl)
    obtain ⟨g, o, e, M, h1, h2, h3⟩ := h.blk hn
    refine ⟨g, o, e, fun i hi => ?_⟩
    rw [markL_at]
    rw [markL_len] at hi
    simp [World.cell?, h1]
    simpa using h3 i hi
end Go.Proofs.Ytjjabfcdhknigaa.lines
