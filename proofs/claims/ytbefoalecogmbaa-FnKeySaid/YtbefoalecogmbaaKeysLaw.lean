/-
  The walk of KeysOf's law. For every text that the row reads.
-/
import Derived.Test.YtbefoalecogmbaaKeysOf
import Derived.Deep.RegionHeld3
namespace Go.Proofs.Ytbefoalecogmbaa.key
open Go.ChangeShapes Go.WideShapes Go.ChangeAt Go.RowKit
set_option maxHeartbeats 3200000 in
theorem specKeys_any (s : ByteArray) (hs : s.size ≤ maxLen) (w : World) :
    Calls Try.prog 15 #[.string s] w fun e w' => ∃ v, e = .returned v ∧ KeysAt w.heap.size w' v (keysV s) ∧ Below w.heap.size w w' := by
  unfold maxLen at hs
  obtain ⟨i0, hi, hz0, hz1, hz2⟩ := info_parts infoK
  by_cases h8 : (8000 : Int) < s.size
  · have HV := Lib.hid (show keysV s = [] by unfold keysV; rw [if_pos (by omega)])
    go_enter Try.func15, Try.ntmps15
    go_wp2
    go_loopw [3, 4, 5] (fun lv wv iv wr => iv = .int .i64 0 ∧ KeysAt w.heap.size wr lv [] ∧ Below w.heap.size w wr) (fun _ _ _ _ => 0)
    case atStart => exact ⟨rfl, World.ownsRow_made w #[] 0 (Nat.le_refl _) (Nat.zero_le _) rfl, (Below.refl _ w).alloc (Nat.le_refl _) _⟩
    case round =>
      obtain ⟨rfl, hown, hb⟩ := hrel
      have h9 : ¬ (s.size : Int) ≤ 8000 := by omega
      have h0 : 0 < s.size := by omega
      have hd : decide ((s.size : Int) ≤ 8000) = false := decide_eq_false h9
      have HO := Lib.hid hown
      clear hown
      go_wp2
      go_ret
      exact ⟨_, rfl, by rw [HV.out]; exact HO.out, hb⟩
  have HV := Lib.hid (show keysV s = (keysTo s.data.toList s.size).2 by unfold keysV; rw [if_neg (by omega)])
  have h9 : (s.size : Int) ≤ 8000 := by omega
  have hd9 : decide ((s.size : Int) ≤ 8000) = true := decide_eq_true h9
  go_enter Try.func15, Try.ntmps15
  go_wp2
  go_loopw [3, 4, 5] (fun lv wv iv wr => ∃ k : Nat, k ≤ s.size ∧ iv = .int .i64 k ∧ wv = .string ⟨(keysTo s.data.toList k).1.toArray⟩ ∧ KeysAt w.heap.size wr lv (keysTo s.data.toList k).2 ∧ Below w.heap.size w wr) (fun _ _ iv _ => s.size - (intOf iv).toNat)
  case atStart => exact ⟨0, Nat.zero_le _, rfl, rfl, World.ownsRow_made w #[] 0 (Nat.le_refl _) (Nat.zero_le _) rfl, (Below.refl _ w).alloc (Nat.le_refl _) _⟩
  case round =>
    obtain ⟨k, hk, rfl, rfl, hown, hb⟩ := hrel
    rename_i lv
    rename World => wr
    have HO := Lib.hid hown
    have HB := Lib.hid hb
    have hz := hb.size
    clear hown hb
    by_cases hlt : k < s.size
    · have hd : decide ((k : Int) < s.size) = true := decide_eq_true (by omega)
      have HST := Lib.hid (keysTo_step hlt)
      have HL := Lib.hid (keysTo_len s.data.toList k)
      obtain ⟨wt, hwt⟩ : ∃ wt : ByteArray, wt = ⟨(keysTo s.data.toList k).1.toArray⟩ := ⟨_, rfl⟩
      have hwl : wt.data.toList = (keysTo s.data.toList k).1 := by rw [hwt]
      have HN := Lib.hid (l04Of_any wt s[k] (by rw [hwl]; exact keysTo_wait s.data.toList k) wr)
      rw [← hwl] at HST
      rw [← hwt]
      obtain ⟨⟨X1, X2, X3, X4⟩, hX⟩ : ∃ X, X = ofV wt.data.toList s[k] := ⟨_, rfl⟩
      obtain ⟨L, hL⟩ : ∃ L, L = (keysTo s.data.toList k).2 := ⟨_, rfl⟩
      rw [← hX] at HST HN
      rw [← hL] at HST HO HL
      unfold koKO koV at HN
      dsimp only at HN
      have hlu := s[k].toNat_lt
      have hwr : IntKind.i64.wrap ((s[k].toNat : Nat) : Int) = s[k].toNat := IntWalk.i64_in _ (by omega)
      clear hwl hwt hX hL
      cases X4
      · have HSS := Lib.hid (show keysTo s.data.toList (k + 1) = (X1, L) from HST.out)
        go_wp2_with fail
        refine HN.out.mono ?_
        rintro e w3 ⟨rfl, hb3⟩
        have HO3 := Lib.hid ((own_later HO.out hb3).alloc (.cells #[.string ⟨X1.toArray⟩, .int .i64 X2, .int .i64 X3, .bool false, .int .i64 0] 31))
        have HB3 := Lib.hid ((bthen HB.out hb3 hz).alloc (Nat.le_trans hz hb3.size) (.cells #[.string ⟨X1.toArray⟩, .int .i64 X2, .int .i64 X3, .bool false, .int .i64 0] 31))
        clear hb3
        go_wp2
        go_roundw
        case rel => exact ⟨k + 1, by omega, by go_num, by rw [HSS.out], by rw [HSS.out]; exact HO3.out, HB3.out⟩
        case measure => simp [intOf]; omega
      · have HSS := Lib.hid (show keysTo s.data.toList (k + 1) = (X1, L ++ [(X2, X3)]) from HST.out)
        go_wp2_with fail
        refine HN.out.mono ?_
        rintro e w3 ⟨rfl, hb3⟩
        have HO3 := Lib.hid (own_later HO.out hb3)
        have HB3 := Lib.hid (bthen HB.out hb3 hz)
        have z3 : w.heap.size ≤ w3.heap.size := Nat.le_trans hz hb3.size
        have hll := HL.out
        clear hb3
        go_wp2_with (first | (at_builtin; refine wpList_append_own _ rfl _ _ 24 rfl w.heap.size 29 i0 (.agg #[.int .i64 0, .int .i64 0]) 2 16 Try.underlying24 hi hz0 hz1 hz2 rfl (by decide) _ _ _ rfl ((HO3.out.alloc _).alloc _) ⟨w3.heap.size + 1, 0, none⟩ 1 1 [.int .i64 X2, .int .i64 X3] rfl rfl ?c1 ?c2 ?c3 ?c4 ?c5 ?_))
        case c1 =>
          intro j u hj
          match j, hj with
          | 0, hj => simp at hj; subst hj; simp [Addr.add]
          | 1, hj => simp at hj; subst hj; simp [Addr.add]
        case c2 => intro u hu; simp at hu; rcases hu with rfl | rfl <;> rfl
        case c3 => unfold maxLen; omega
        case c4 => omega
        case c5 => simp; omega
        intro v' w4 hown' hgrow hnil
        have HO4 := Lib.hid (show KeysAt w.heap.size w4 v' (L ++ [(X2, X3)]) by unfold KeysAt; rw [kCells_append, kCells_one, List.length_append]; exact hown')
        have HB4 := Lib.hid (((HB3.out.alloc z3 (.cells #[.string ⟨X1.toArray⟩, .int .i64 X2, .int .i64 X3, .bool true, .int .i64 0] 31)).alloc (Nat.le_trans z3 (by simp)) (.cells #[.int .i64 X2, .int .i64 X3] 29)).grown hgrow (by simp; omega) (fun j hj => (HO3.out.lt j hj).1))
        clear hown' hgrow hnil
        go_wp2
        go_roundw
        case rel => exact ⟨k + 1, by omega, by go_num, by rw [HSS.out], by rw [HSS.out]; exact HO4.out, HB4.out⟩
        case measure => simp [intOf]; omega
    · obtain rfl : k = s.size := by omega
      have hd : decide ((s.size : Int) < s.size) = false := decide_eq_false (by omega)
      go_wp2
      go_ret
      exact ⟨_, rfl, by rw [HV.out]; exact HO.out, HB.out⟩
/-- n keys behind each other, if any, from a block's beginning on -/
structure KRow (w : World) (a : Option Addr) (l : List KK) : Prop where
  it : l ≠ [] → ∃ g, a = some ⟨g, 0, none⟩ ∧ ∀ i (h : i < l.length), w.cell? ⟨g, i * 2, none⟩ = some (.int .i64 l[i].1) ∧ w.cell? ⟨g, i * 2 + 1, none⟩ = some (.int .i64 l[i].2)
theorem KRow.below {w w' : World} {a : Option Addr} {l : List KK} (h : KRow w a l) (hb : Below w.heap.size w w') : KRow w' a l where
  it hl := by
    obtain ⟨g, e, h1⟩ := h.it hl
    exact ⟨g, e, fun i hi => ⟨by rw [hb.cell (p := ⟨g, i * 2, none⟩) (blk_lt (h1 i hi).1)]; exact (h1 i hi).1, by rw [hb.cell (p := ⟨g, i * 2 + 1, none⟩) (blk_lt (h1 i hi).2)]; exact (h1 i hi).2⟩⟩
theorem KRow.at {w : World} {a : Option Addr} {l : List KK} (h : KRow w a l) {i : Nat} (hi : i < l.length) :
    ∃ g, a = some ⟨g, 0, none⟩ ∧ w.cell? ⟨g, i * 2, none⟩ = some (.int .i64 l[i].1) ∧ w.cell? ⟨g, i * 2 + 1, none⟩ = some (.int .i64 l[i].2) := by
  obtain ⟨g, e, h1⟩ := h.it (fun e => by rw [e] at hi; simp at hi)
  exact ⟨g, e, h1 i hi⟩
theorem kCells_at (l : List KK) : ∀ i (h : i < l.length), (kCells l)[i * 2]? = some (.int .i64 l[i].1) ∧ (kCells l)[i * 2 + 1]? = some (.int .i64 l[i].2) := by
  induction l with
  | nil => intro i hi; simp at hi
  | cons d r ih =>
    intro i hi
    have hc : kCells (d :: r) = .int .i64 d.1 :: .int .i64 d.2 :: kCells r := rfl
    rw [hc]
    cases i with
    | zero => exact ⟨rfl, rfl⟩
    | succ i =>
      have h := ih i (by simpa using hi)
      have e1 : (i + 1) * 2 = i * 2 + 1 + 1 := by omega
      have e2 : (i + 1) * 2 + 1 = i * 2 + 1 + 1 + 1 := by omega
      rw [e2, e1]
      simpa using h
/-- what can be written into: a block of the call's own -/
def KBlk (base : Nat) (w : World) (a : Option Addr) (n : Nat) : Prop := n ≠ 0 → ∃ g, a = some ⟨g, 0, none⟩ ∧ base ≤ g ∧ ∃ M : Array Value, w.heap[g]? = some (.cells M 29 (0, 0)) ∧ n * 2 ≤ M.size
theorem KBlk.below {base : Nat} {w w' : World} {a : Option Addr} {n : Nat} (h : KBlk base w a n) (hb : Below w.heap.size w w') : KBlk base w' a n := fun hn => by
  obtain ⟨g, e, h1, M, h2, h3⟩ := h hn
  exact ⟨g, e, h1, M, by rw [hb.block g (Array.getElem?_eq_some_iff.1 h2).1]; exact h2, h3⟩
theorem keysAt_open {base : Nat} {w : World} {v : Value} {l : List KK} (h : KeysAt base w v l) : ∃ a c, v = .slice a l.length c ∧ KRow w a l ∧ KBlk base w a l.length := by
  have h0 := h
  obtain ⟨h1, ⟨rfl, hn⟩ | ⟨g, cap, cur, rfl, h2, h3, h4, h5, h6, h7⟩⟩ := h
  · have hl : l = [] := List.eq_nil_of_length_eq_zero hn
    subst hl
    exact ⟨none, 0, rfl, ⟨fun e => absurd rfl e⟩, fun e => absurd rfl e⟩
  · refine ⟨_, _, rfl, ⟨fun _ => ⟨g, rfl, fun i hi => ⟨?_, ?_⟩⟩⟩, fun _ => ⟨g, rfl, h2, cur, h3, by rw [h6]; omega⟩⟩
    · rw [h0.cellAt (i * 2) (by omega)]; exact (kCells_at l i hi).1
    · rw [h0.cellAt (i * 2 + 1) (by omega)]; exact (kCells_at l i hi).2
set_option maxHeartbeats 1600000 in
/-- two lists of the same keys -/
theorem eqKeyS_same (a b : Option Addr) (C D : Nat) (l : List KK) (hn : l.length ≤ 1048576) (w : World) (ha : KRow w a l) (hb : KRow w b l) :
    Calls Try.prog 22 #[.slice a l.length C, .slice b l.length D] w fun e w' => e = .returned (.bool true) ∧ Below w.heap.size w w' := by
  obtain ⟨n, hn'⟩ : ∃ n, n = l.length := ⟨_, rfl⟩
  have HA := Lib.hid ha
  have HB := Lib.hid hb
  have HN := Lib.hid hn'
  rw [← hn'] at hn ⊢
  clear ha hb hn'
  go_enter Try.func22, Try.ntmps22
  go_wp2
  go_loopw [5] (fun i w' => ∃ k : Nat, k ≤ n ∧ i = .int .i64 k ∧ Below w.heap.size w w') (fun i _ => n - (intOf i).toNat)
  case atStart => exact ⟨0, Nat.zero_le _, rfl, Below.refl _ _⟩
  case round =>
    obtain ⟨k, hk, rfl, hbel⟩ := hrel
    rename World => wr
    have HBB := Lib.hid hbel
    have hz := hbel.size
    by_cases hlt : k < n
    · obtain ⟨g, rfl, g1, g2⟩ := (HA.out.below hbel).at (i := k) (by rw [← HN.out]; exact hlt)
      obtain ⟨h, rfl, h1, h2⟩ := (HB.out.below hbel).at (i := k) (by rw [← HN.out]; exact hlt)
      obtain ⟨⟨K, Y⟩, hK⟩ : ∃ d, d = l[k]'(by rw [← HN.out]; exact hlt) := ⟨_, rfl⟩
      rw [← hK] at g1 g2 h1 h2
      dsimp only at g1 g2 h1 h2
      have gz := blk_lt g1
      have hz' := blk_lt h1
      clear hbel hK
      go_wp2
      go_region_held3 (fun w' => (w'.cell? ⟨g, k * 2, none⟩ = some (.int .i64 K) ∧ w'.cell? ⟨g, k * 2 + 1, none⟩ = some (.int .i64 Y)) ∧ (w'.cell? ⟨h, k * 2, none⟩ = some (.int .i64 K) ∧ w'.cell? ⟨h, k * 2 + 1, none⟩ = some (.int .i64 Y))) (go_keep)
        (first | (go_at_call 43; refine (eqKey_same _ _ _).mono ?_; rintro e w4 ⟨rfl, hb4⟩; obtain ⟨p1, _⟩ := keepC hb4 (g := g) gz; obtain ⟨p2, _⟩ := keepC hb4 (g := h) hz'))
      all_goals
        have HB2 := Lib.hid (bthen HBB.out.drew hb4 hz)
        clear p1 p2 hb4
        go_wp2
        go_roundw
        case rel => exact ⟨k + 1, by omega, by go_num, HB2.out⟩
        case measure => simp [intOf]; omega
    · clear hbel
      go_wp2
      go_ret
      exact ⟨rfl, HBB.out⟩
def markL (n : Nat) : List KK := (List.range n).map fun (i : Nat) => (1 + 2 * (i : Int), 1 + 2 * (i : Int) + 1)
theorem markL_len (n : Nat) : (markL n).length = n := by simp [markL]
theorem markL_at (n i : Nat) (h : i < (markL n).length) : (markL n)[i] = (1 + 2 * (i : Int), 1 + 2 * (i : Int) + 1) := by simp [markL]
/-- k keys of the block written over -/
structure MK (base : Nat) (w : World) (a : Option Addr) (n : Nat) (w' : World) (k : Nat) : Prop where
  blk : n ≠ 0 → ∃ g, a = some ⟨g, 0, none⟩ ∧ base ≤ g ∧ ∃ M : Array Value, w'.heap[g]? = some (.cells M 29 (0, 0)) ∧ n * 2 ≤ M.size ∧ ∀ j, j < k → M[j * 2]? = some (.int .i64 (1 + 2 * (j : Int))) ∧ M[j * 2 + 1]? = some (.int .i64 (1 + 2 * (j : Int) + 1))
  bel : Below base w w'
theorem MK.row {base n : Nat} {w w' : World} {a : Option Addr} (h : MK base w a n w' n) : KRow w' a (markL n) where
  it hl := by
    have hn : n ≠ 0 := fun e => hl (by rw [e]; rfl)
    obtain ⟨g, e, _, M, h1, h2, h3⟩ := h.blk hn
    refine ⟨g, e, fun i hi => ?_⟩
    have hi' : i < n := by rwa [markL_len] at hi
    rw [markL_at]
    exact ⟨by simp [World.cell?, h1]; exact (h3 i hi').1, by simp [World.cell?, h1]; exact (h3 i hi').2⟩
theorem MK.store {base n k : Nat} {w w' : World} {g : Nat} (h : MK base w (some ⟨g, 0, none⟩) n w' k) (hk : k < n) :
    MK base w (some ⟨g, 0, none⟩) n ((w'.setCell ⟨g, k * 2, none⟩ (.int .i64 (1 + 2 * (k : Int)))).setCell ⟨g, k * 2 + 1, none⟩ (.int .i64 (1 + 2 * (k : Int) + 1))) (k + 1) := by
  obtain ⟨g', e, hg, M, h1, h2, h3⟩ := h.blk (by omega)
  injection e with e
  injection e with e
  subst e
  refine ⟨fun _ => ⟨g, rfl, hg, (M.setIfInBounds (k * 2) (.int .i64 (1 + 2 * (k : Int)))).setIfInBounds (k * 2 + 1) (.int .i64 (1 + 2 * (k : Int) + 1)), bset (bset h1 _) _, by simp [h2], fun j hj => ?_⟩, (h.bel.setCell (p := ⟨g, k * 2, none⟩) hg _).setCell (p := ⟨g, k * 2 + 1, none⟩) hg _⟩
  by_cases e : j = k
  · subst e
    constructor
    · rw [Array.getElem?_setIfInBounds, if_neg (by omega), Array.getElem?_setIfInBounds, if_pos rfl, if_pos (by omega)]
    · rw [Array.getElem?_setIfInBounds, if_pos rfl, if_pos (by simp; omega)]
  · constructor
    · rw [Array.getElem?_setIfInBounds, if_neg (by omega), Array.getElem?_setIfInBounds, if_neg (by omega)]; exact (h3 j (by omega)).1
    · rw [Array.getElem?_setIfInBounds, if_neg (by omega), Array.getElem?_setIfInBounds, if_neg (by omega)]; exact (h3 j (by omega)).2
theorem MK.room {base n k : Nat} {w w' : World} {a : Option Addr} (h : MK base w a n w' k) {o : Nat} (ho : o < n * 2) : ∃ g, a = some ⟨g, 0, none⟩ ∧ (∃ v, w'.cell? ⟨g, o, none⟩ = some v) ∧ w'.frozen? ⟨g, o, none⟩ = false := by
  obtain ⟨g, e, hg, M, h1, h2, _⟩ := h.blk (by omega)
  refine ⟨g, e, ⟨M[o]'(by omega), ?_⟩, ?_⟩
  · simp [World.cell?, h1]
  · simp [World.frozen?, h1]
set_option maxHeartbeats 1600000 in
theorem markKeyS_any (base : Nat) (a : Option Addr) (n c : Nat) (hn : n ≤ 100000) (w : World) (h : KBlk base w a n) :
    Calls Try.prog 23 #[.slice a n c, .int .i64 1] w fun e w' => e = .returned (.int .i64 (1 + 2 * (n : Int))) ∧ KRow w' a (markL n) ∧ Below base w w' := by
  have T0 : MK base w a n w 0 := ⟨fun hn => by
    obtain ⟨g, e, h1, M, h2, h3⟩ := h hn
    exact ⟨g, e, h1, M, h2, h3, fun j hj => absurd hj (by omega)⟩, Below.refl _ _⟩
  have HT := Lib.hid T0
  clear T0 h
  go_enter Try.func23, Try.ntmps23
  go_wp2
  go_loopw [1, 5] (fun m i w' => ∃ j : Nat, j ≤ n ∧ i = .int .i64 j ∧ m = .int .i64 (1 + 2 * (j : Int)) ∧ MK base w a n w' j) (fun _ i _ => n - (intOf i).toNat)
  case atStart => exact ⟨0, Nat.zero_le _, rfl, rfl, HT.out⟩
  case round =>
    obtain ⟨j, hj, rfl, rfl, hts⟩ := hrel
    rename World => wr
    have HS := Lib.hid hts
    clear hts
    by_cases hlt : j < n
    · obtain ⟨g, rfl, ⟨v0, c0⟩, f0⟩ := HS.out.room (o := j * 2) (by omega)
      obtain ⟨g', e, ⟨v1, c1⟩, f1⟩ := HS.out.room (o := j * 2 + 1) (by omega)
      injection e with e
      injection e with e
      subst e
      have HD := Lib.hid (HS.out.store hlt)
      go_wp2
      go_roundw
      case rel => exact ⟨j + 1, by omega, by go_num, by go_num, HD.out⟩
      case measure => simp [intOf]; omega
    · obtain rfl : j = n := by omega
      go_wp2
      go_ret
      exact ⟨rfl, HS.out.row, HS.out.bel⟩
set_option maxHeartbeats 1600000 in
theorem heldKeyS_any (a : Option Addr) (n c : Nat) (hn : n ≤ 100000) (w : World) (h : KRow w a (markL n)) :
    Calls Try.prog 24 #[.slice a n c, .int .i64 1] w fun e w' => e = .returned (.int .i64 (1 + 2 * (n : Int))) ∧ Below w.heap.size w w' := by
  have HR := Lib.hid h
  clear h
  go_enter Try.func24, Try.ntmps24
  go_wp2
  go_loopw [1, 5] (fun m i w' => ∃ j : Nat, j ≤ n ∧ i = .int .i64 j ∧ m = .int .i64 (1 + 2 * (j : Int)) ∧ Below w.heap.size w w') (fun _ i _ => n - (intOf i).toNat)
  case atStart => exact ⟨0, Nat.zero_le _, rfl, rfl, Below.refl _ _⟩
  case round =>
    obtain ⟨j, hj, rfl, rfl, hb⟩ := hrel
    rename World => wr
    have HB := Lib.hid hb
    by_cases hlt : j < n
    · obtain ⟨g, rfl, g1, g2⟩ := (HR.out.below hb).at (i := j) (by rw [markL_len]; exact hlt)
      rw [markL_at] at g1 g2
      dsimp only at g1 g2
      clear hb
      go_wp2
      go_roundw
      case rel => exact ⟨j + 1, by omega, by go_num, by go_num, HB.out⟩
      case measure => simp [intOf]; omega
    · obtain rfl : j = n := by omega
      clear hb
      go_wp2
      go_ret
      exact ⟨rfl, HB.out⟩
set_option maxHeartbeats 1600000 in
theorem walkKeysOf (a0 : ByteArray) (w0 : a0.size ≤ maxLen) (w : World) :
    Calls Try.prog 5 #[.string a0] w fun e w' => e = .returned (.bool true) ∧ Below w.heap.size w w' := by
  have HS := Lib.hid (specKeys_any a0 w0)
  have HI := Lib.hid (implKeys_any a0 w0)
  have hlen := keysV_len a0
  unfold maxLen at w0
  by_cases ha : (1048576 : Int) < a0.size
  · go_enter Try.func5, Try.ntmps5
    go_wp2
    go_ret
    exact ⟨rfl, Below.refl _ _⟩
  obtain ⟨R, hR⟩ : ∃ R, R = keysV a0 := ⟨_, rfl⟩
  rw [← hR] at HI HS hlen
  clear hR
  go_enter Try.func5, Try.ntmps5
  go_wp2_with fail
  refine (HS.out _).mono ?_
  rintro e wa ⟨v1, rfl, ho1, hb1⟩
  obtain ⟨a1, c1, rfl, r1, _⟩ := keysAt_open ho1
  have RS := Lib.hid r1
  have HB1 := Lib.hid hb1
  have z1 := hb1.size
  clear ho1 hb1 r1
  go_wp2_with fail
  refine (HI.out _).mono ?_
  rintro e wb ⟨v2, rfl, ho2, hb2⟩
  obtain ⟨a2, c2, rfl, r2, k2⟩ := keysAt_open ho2
  have RG := Lib.hid r2
  have BG := Lib.hid k2
  have RS2 := Lib.hid (RS.out.below hb2)
  have HB2 := Lib.hid (bthen HB1.out hb2 z1)
  have HW2 := Lib.hid hb2
  have z2 := hb2.size
  clear ho2 hb2 r2 k2
  go_wp2_with fail
  refine (eqKeyS_same a2 a1 c2 c1 R (by omega) _ RG.out RS2.out).mono ?_
  rintro e wc ⟨rfl, hb3⟩
  have BG3 := Lib.hid (BG.out.below hb3)
  have HW := Lib.hid (bthen HW2.out hb3 z2)
  have HB3 := Lib.hid (bthen HB2.out hb3 (by omega))
  have z3 := hb3.size
  clear hb3 RG BG RS2 HW2
  obtain ⟨n, hn⟩ : ∃ n, n = R.length := ⟨_, rfl⟩
  have HN := Lib.hid hn
  rw [← hn] at BG3 hlen ⊢
  clear hn
  go_wp2_with fail
  refine (markKeyS_any wa.heap.size a2 n c2 (by omega) _ BG3.out).mono ?_
  rintro e wd ⟨rfl, hr4, hb4⟩
  have RG4 := Lib.hid hr4
  have RS4 := Lib.hid (RS.out.below (HW.out.trans hb4))
  have HB4 := Lib.hid (HB3.out.trans (hb4.mono z1))
  have z4 := hb4.size
  clear hr4 hb4 RS HW BG3
  go_wp2_with fail
  refine (heldKeyS_any a2 n c2 (by omega) _ RG4.out).mono ?_
  rintro e we ⟨rfl, hb5⟩
  have RG5 := Lib.hid (RG4.out.below hb5)
  have RS5 := Lib.hid (RS4.out.below hb5)
  have HB5 := Lib.hid (bthen HB4.out hb5 (by omega))
  have z5 := hb5.size
  clear hb5 RG4 RS4
  go_wp2_with fail
  refine (HI.out _).mono ?_
  rintro e wf ⟨v6, rfl, ho6, hb6⟩
  obtain ⟨a6, c6, rfl, r6, _⟩ := keysAt_open ho6
  have RH6 := Lib.hid r6
  have RG6 := Lib.hid (RG5.out.below hb6)
  have RS6 := Lib.hid (RS5.out.below hb6)
  have HB6 := Lib.hid (bthen HB5.out hb6 (by omega))
  have z6 := hb6.size
  clear ho6 hb6 r6 RG5 RS5
  have HQ := Lib.hid (eqKeyS_same a6 a1 c6 c1 R (by rw [← HN.out]; omega) wf RH6.out RS6.out)
  rw [← HN.out] at HQ ⊢
  go_wp2_with fail
  refine HQ.out.mono ?_
  rintro e wg ⟨rfl, hb7⟩
  have RG7 := Lib.hid (RG6.out.below hb7)
  have HB7 := Lib.hid (bthen HB6.out hb7 (by omega))
  have z7 := hb7.size
  clear hb7 RG6 RS6 RH6 HQ
  go_wp2_with fail
  refine (heldKeyS_any a2 n c2 (by omega) _ RG7.out).mono ?_
  rintro e wh ⟨rfl, hb8⟩
  have HB8 := Lib.hid (bthen HB7.out hb8 (by omega))
  clear hb8
  go_wp2
  go_ret
  exact ⟨rfl, HB8.out⟩
end Go.Proofs.Ytbefoalecogmbaa.key
