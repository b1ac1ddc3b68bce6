/-
  What the laws over lists of changes do around the function: sizes, copies, comparing. For every such list; and the model's CostOf.
-/
import Derived.Test.YthdnhopkkgdclaaDiffRow
import Derived.Deep.RegionHeld3
namespace Go.Proofs.Ythdnhopkkgdclaa.diff
open Go.ChangeShapes Go.WideShapes Go.ChangeAt Go.RowKit
/-- what CostOf counts, as far as i -/
def costTo (K : Nat → Int) (X : Nat → ByteArray) : Nat → Nat
  | 0 => 0
  | i + 1 => costTo K X i + (if K i = 1 then 0 else (X i).size)
noncomputable def costV (n : Nat) (K : Nat → Int) (X : Nat → ByteArray) : Int := if drB n K X then (costTo K X n : Nat) else -1
set_option maxHeartbeats 800000 in
theorem specCost_any (g n C : Nat) (K : Nat → Int) (X : Nat → ByteArray) (hn : n ≤ 1048576) (hX : ∀ i, i < n → (X i).size ≤ 1048576) (w : World) (hr : RowD w g n K X) :
    Calls Try.prog 20 #[.slice (some ⟨g, 0, none⟩) n C] w fun e w' => e = .returned (.int .i64 (costV n K X)) ∧ Below w.heap.size w w' := by
  have HR := Lib.hid hr
  clear hr
  cases hd : drB n K X
  · have HV := Lib.hid (show costV n K X = -1 by simp [costV, hd])
    go_enter Try.func20, Try.ntmps20
    go_wp2_with fail
    refine (specDR_any g n C K X hn _ HR.out).mono ?_
    rintro e w1 ⟨rfl, hb⟩
    rw [hd]
    go_wp2
    go_ret
    exact ⟨by rw [HV.out]; rfl, hb⟩
  · have HV := Lib.hid (show costV n K X = (costTo K X n : Nat) by simp [costV, hd])
    have h4 := (drB_ok hd).1
    go_enter Try.func20, Try.ntmps20
    go_wp2_with fail
    refine (specDR_any g n C K X hn _ HR.out).mono ?_
    rintro e w1 ⟨rfl, hb⟩
    rw [hd]
    have HS := Lib.hid (HR.out.below hb)
    have HB := Lib.hid hb
    clear hb
    go_wp2
    go_loop [3, 4] (fun c i => ∃ k : Nat, k ≤ n ∧ i = .int .i64 k ∧ c = .int .i64 (costTo K X k : Nat) ∧ costTo K X k ≤ k * 1048576) (fun _ i => n - (intOf i).toNat)
    case atStart => exact ⟨0, Nat.zero_le _, rfl, rfl, by simp [costTo]⟩
    case round =>
      obtain ⟨k, hk, rfl, rfl, hb⟩ := hrel
      by_cases hlt : k < n
      · have hc := HS.out.kind k hlt
        have ht := HS.out.text k hlt
        have hx := hX k hlt
        by_cases h1 : K k = 1
        · have e1 : (K k != 1) = false := by simp [h1]
          have HE := Lib.hid (show costTo K X (k + 1) = costTo K X k by simp [costTo, h1])
          clear h1
          go_wp2
          go_round
          case rel => exact ⟨k + 1, by omega, by go_num, congrArg (fun z : Nat => Value.int .i64 (z : Int)) HE.out.symm, by have := HE.out; omega⟩
          case measure => simp [intOf]; omega
        · have e1 : (K k != 1) = true := by simpa using h1
          have HE := Lib.hid (show costTo K X (k + 1) = costTo K X k + (X k).size by simp [costTo, h1])
          clear h1
          go_wp2
          go_round
          case rel => exact ⟨k + 1, by omega, by go_num, (congrArg (fun z : Nat => Value.int .i64 (z : Int)) HE.out.symm), by have := HE.out; omega⟩
          case measure => simp [intOf]; omega
      · obtain rfl : k = n := by omega
        go_wp2
        go_ret
        exact ⟨by rw [HV.out]; rfl, HB.out⟩
theorem eqDiff_same (k : Int) (x : ByteArray) (w : World) :
    Calls Try.prog 41 #[.agg #[.int .i64 k, .string x], .agg #[.int .i64 k, .string x]] w fun e w' => e = .returned (.bool true) ∧ Below w.heap.size w w' := by
  go_enter Try.func41, Try.ntmps41
  go_wp2
  go_ret
  exact ⟨rfl, ((Below.refl _ _).alloc (Nat.le_refl _) _).alloc (by simp) _⟩
theorem toDiff_any (k : Int) (x : ByteArray) (w : World) :
    Calls Try.prog 44 #[.agg #[.int .i64 k, .string x]] w fun e w' => e = .returned (.agg #[.int .i64 k, .string x]) ∧ Below w.heap.size w w' := by
  go_enter Try.func44, Try.ntmps44
  go_wp2
  exact bodyPost_ret (v := .agg #[.int .i64 k, .string x]) (by simp [results, Try.results44, go_sem]) rfl
    ⟨rfl, (((Below.refl _ w).alloc (Nat.le_refl _) _).alloc (by simp) _).alloc (by simp; omega) _⟩
theorem szDiff_any (k : Int) (x : ByteArray) (n : Int) (hx : x.size ≤ maxLen) (h0 : 0 ≤ n) (hn : n ≤ 1048576) (w : World) :
    Calls Try.prog 43 #[.agg #[.int .i64 k, .string x], .int .i64 n] w fun e w' => e = .returned (.int .i64 (if n < x.size then -1 else n - x.size)) ∧ Below w.heap.size w w' := by
  unfold maxLen at hx
  by_cases h : n < x.size
  · go_enter Try.func43, Try.ntmps43
    go_wp2
    go_ret
    exact ⟨by rfl, (Below.refl _ w).alloc (Nat.le_refl _) _⟩
  · go_enter Try.func43, Try.ntmps43
    go_wp2
    go_ret
    exact ⟨by rfl, (Below.refl _ w).alloc (Nat.le_refl _) _⟩
set_option maxHeartbeats 1600000 in
/-- two rows of the same changes -/
theorem eqDiffS_same (g h n C D : Nat) (K : Nat → Int) (X : Nat → ByteArray) (hn : n ≤ 1048576) (w : World) (hg : RowD w g n K X) (hh : RowD w h n K X) :
    Calls Try.prog 22 #[.slice (some ⟨g, 0, none⟩) n C, .slice (some ⟨h, 0, none⟩) n D] w fun e w' => e = .returned (.bool true) ∧ Below w.heap.size w w' := by
  have HG := Lib.hid hg
  have HH := Lib.hid hh
  clear hg hh
  go_enter Try.func22, Try.ntmps22
  go_wp2
  go_loopw [5] (fun i w' => ∃ k : Nat, k ≤ n ∧ i = .int .i64 k ∧ Below w.heap.size w w') (fun i _ => n - (intOf i).toNat)
  case atStart => exact ⟨0, Nat.zero_le _, rfl, Below.refl _ _⟩
  case round =>
    obtain ⟨k, hk, rfl, hbel⟩ := hrel
    rename World => wr
    have HB := Lib.hid hbel
    have hz := hbel.size
    have G1 := HG.out.below hbel
    have H1 := HH.out.below hbel
    clear hbel
    by_cases hlt : k < n
    · have g1 := G1.kind k hlt
      have g2 := G1.text k hlt
      have h1 := H1.kind k hlt
      have h2 := H1.text k hlt
      have gz := blk_lt g1
      have hz' := blk_lt h1
      clear G1 H1
      go_wp2
      go_region_held3 (fun w' => (w'.cell? ⟨g, k * 2, none⟩ = some (.int .i64 (K k)) ∧ w'.cell? ⟨g, k * 2 + 1, none⟩ = some (.string (X k))) ∧ (w'.cell? ⟨h, k * 2, none⟩ = some (.int .i64 (K k)) ∧ w'.cell? ⟨h, k * 2 + 1, none⟩ = some (.string (X k)))) (go_keep)
        (first | (go_at_call 41; refine (eqDiff_same _ _ _).mono ?_; rintro e w4 ⟨rfl, hb4⟩; obtain ⟨p1, _⟩ := keepC hb4 (g := g) gz; obtain ⟨p2, _⟩ := keepC hb4 (g := h) hz'))
      all_goals
        have HB2 := Lib.hid (bthen HB.out.drew hb4 hz)
        clear p1 p2 hb4
        go_wp2
        go_roundw
        case rel => exact ⟨k + 1, by omega, by go_num, HB2.out⟩
        case measure => simp [intOf]; omega
    · go_wp2
      go_ret
      exact ⟨rfl, HB.out⟩
/-- n changes from the address a on, wherever it lies -/
structure RowA (w : World) (a : Addr) (n : Nat) (K : Nat → Int) (X : Nat → ByteArray) : Prop where
  plain : 0 < n → a.spot = none
  kind : ∀ i, i < n → w.cell? ⟨a.block, a.off + i * 2, none⟩ = some (.int .i64 (K i))
  text : ∀ i, i < n → w.cell? ⟨a.block, a.off + i * 2 + 1, none⟩ = some (.string (X i))
theorem RowA.below {w w' : World} {a : Addr} {n : Nat} {K : Nat → Int} {X : Nat → ByteArray} (h : RowA w a n K X) (hb : Below w.heap.size w w') : RowA w' a n K X where
  plain := h.plain
  kind i hi := by rw [hb.cell (p := ⟨a.block, a.off + i * 2, none⟩) (blk_lt (h.kind i hi))]; exact h.kind i hi
  text i hi := by rw [hb.cell (p := ⟨a.block, a.off + i * 2 + 1, none⟩) (blk_lt (h.text i hi))]; exact h.text i hi
def sumTo (X : Nat → ByteArray) : Nat → Nat
  | 0 => 0
  | i + 1 => sumTo X i + (X i).size
set_option maxHeartbeats 1600000 in
theorem szDiffS_any (a : Addr) (n C : Nat) (K : Nat → Int) (X : Nat → ByteArray) (hn : n ≤ maxLen) (hX : ∀ i, i < n → (X i).size ≤ maxLen) (w : World) (hr : RowA w a n K X) :
    Calls Try.prog 25 #[.slice (some a) n C, .int .i64 1048576] w fun e w' =>
      e = .returned (.int .i64 (if 1048576 < n + sumTo X n then -1 else 1048576 - n - sumTo X n)) ∧ Below w.heap.size w w' := by
  have HR := Lib.hid hr
  clear hr
  unfold maxLen at hn
  by_cases h0 : (1048576 : Int) < n
  · go_enter Try.func25, Try.ntmps25
    go_wp2
    go_ret
    exact ⟨by first | rfl | (rw [if_pos (by omega)]; rfl), Below.refl _ _⟩
  go_enter Try.func25, Try.ntmps25
  go_wp2
  go_loopw [1, 5] (fun l i w' => ∃ k : Nat, k ≤ n ∧ i = .int .i64 k ∧ l = .int .i64 (1048576 - n - sumTo X k : Int) ∧ n + sumTo X k ≤ 1048576 ∧ Below w.heap.size w w') (fun _ i _ => n - (intOf i).toNat)
  case atStart => exact ⟨0, Nat.zero_le _, rfl, by simp [sumTo], by simp [sumTo]; omega, Below.refl _ _⟩
  case round =>
    obtain ⟨k, hk, rfl, rfl, hs, hbel⟩ := hrel
    rename World => wr
    have HB := Lib.hid hbel
    have hz := hbel.size
    have R1 := HR.out.below hbel
    clear hbel
    by_cases hlt : k < n
    · have r1 := R1.kind k hlt
      have r2 := R1.text k hlt
      have hx := hX k hlt
      have hp := R1.plain (by omega)
      clear R1
      obtain ⟨b, off, sp⟩ := a
      obtain rfl : sp = none := hp
      have hsum : sumTo X (k + 1) = sumTo X k + (X k).size := rfl
      have HSUM := Lib.hid hsum
      clear hsum
      go_wp2_with fail
      refine (szDiff_any _ _ _ hx (by omega) (by omega) _).mono ?_
      rintro e w2 ⟨rfl, hb2⟩
      have HB2 := Lib.hid (bthen HB.out hb2 hz)
      clear hb2
      by_cases hbig : (1048576 - (n : Int) - sumTo X k) < (X k).size
      · rw [if_pos hbig]
        have hmono : sumTo X (k + 1) ≤ sumTo X n := by
          have h : ∀ m, k + 1 ≤ m → sumTo X (k + 1) ≤ sumTo X m := by
            intro m hm
            induction m with
            | zero => omega
            | succ m ih =>
              by_cases e : k + 1 = m + 1
              · rw [e]; exact Nat.le_refl _
              · exact Nat.le_trans (ih (by omega)) (by simp [sumTo])
          exact h n (by omega)
        have hlast : 1048576 < n + sumTo X n := by have := HSUM.out; omega
        have HL := Lib.hid hlast
        clear hlast hmono hbig
        go_wp2
        go_ret
        exact ⟨by first | rfl | (rw [if_pos HL.out]; rfl), HB2.out⟩
      · rw [if_neg hbig]
        have hge : 0 ≤ 1048576 - (n : Int) - sumTo X k - (X k).size := by omega
        go_wp2
        go_roundw
        case rel => exact ⟨k + 1, by omega, by go_num, (by rw [HSUM.out]; congr 1; omega), by rw [HSUM.out]; omega, HB2.out⟩
        case measure => simp [intOf]; omega
    · obtain rfl : k = n := by omega
      have hns : ¬ (1048576 < k + sumTo X k) := by omega
      have HL := Lib.hid hns
      go_wp2
      go_ret
      exact ⟨by first | rfl | (rw [if_neg HL.out]; rfl), HB.out⟩
/-- the copy so far: the block g holds k changes done of n -/
structure TS (w : World) (g n : Nat) (K : Nat → Int) (X : Nat → ByteArray) (w' : World) (k : Nat) : Prop where
  blk : ∃ M : Array Value, w'.heap[g]? = some (.cells M 54 (0, 0)) ∧ M.size = n * 2 ∧ ∀ j, j < k → M[j * 2]? = some (.int .i64 (K j)) ∧ M[j * 2 + 1]? = some (.string (X j))
  bel : Below w.heap.size w w'
theorem heap_lt {w : World} {g : Nat} {o : Obj} (h : w.heap[g]? = some o) : g < w.heap.size := by
  rcases Nat.lt_or_ge g w.heap.size with h' | h'
  · exact h'
  · rw [Array.getElem?_eq_none h'] at h; cases h
theorem TS.call {w : World} {g n : Nat} {K : Nat → Int} {X : Nat → ByteArray} {w' w2 : World} {k : Nat} (h : TS w g n K X w' k) (hb : Below w'.heap.size w' w2) : TS w g n K X w2 k where
  blk := by
    obtain ⟨M, h1, h2, h3⟩ := h.blk
    exact ⟨M, by rw [hb.block g (heap_lt h1)]; exact h1, h2, h3⟩
  bel := bthen h.bel hb h.bel.size
theorem TS.room {w : World} {g n : Nat} {K : Nat → Int} {X : Nat → ByteArray} {w' : World} {k : Nat} (h : TS w g n K X w' k) {o : Nat} (ho : o < n * 2) :
    (∃ v, w'.cell? ⟨g, o, none⟩ = some v) ∧ w'.frozen? ⟨g, o, none⟩ = false := by
  obtain ⟨M, h1, h2, _⟩ := h.blk
  refine ⟨⟨M[o]'(by omega), ?_⟩, ?_⟩
  · simp [World.cell?, h1]
  · simp [World.frozen?, h1]
theorem TS.store {w : World} {g n : Nat} {K : Nat → Int} {X : Nat → ByteArray} {w' : World} {k : Nat} (h : TS w g n K X w' k) (hk : k < n) (hg : w.heap.size ≤ g) :
    TS w g n K X ((w'.setCell ⟨g, k * 2, none⟩ (.int .i64 (K k))).setCell ⟨g, k * 2 + 1, none⟩ (.string (X k))) (k + 1) where
  blk := by
    obtain ⟨M, h1, h2, h3⟩ := h.blk
    refine ⟨(M.setIfInBounds (k * 2) (.int .i64 (K k))).setIfInBounds (k * 2 + 1) (.string (X k)), bset (bset h1 _) _, by simp [h2], fun j hj => ?_⟩
    by_cases e : j = k
    · subst e
      constructor
      · rw [Array.getElem?_setIfInBounds, if_neg (by omega), Array.getElem?_setIfInBounds, if_pos rfl, if_pos (by omega)]
      · rw [Array.getElem?_setIfInBounds, if_pos rfl, if_pos (by simp; omega)]
    · constructor
      · rw [Array.getElem?_setIfInBounds, if_neg (by omega), Array.getElem?_setIfInBounds, if_neg (by omega)]; exact (h3 j (by omega)).1
      · rw [Array.getElem?_setIfInBounds, if_neg (by omega), Array.getElem?_setIfInBounds, if_neg (by omega)]; exact (h3 j (by omega)).2
  bel := (h.bel.setCell (p := ⟨g, k * 2, none⟩) hg _).setCell (p := ⟨g, k * 2 + 1, none⟩) hg _
theorem TS.row {w : World} {g n : Nat} {K : Nat → Int} {X : Nat → ByteArray} {w' : World} (h : TS w g n K X w' n) : RowD w' g n K X := by
  obtain ⟨M, h1, h2, h3⟩ := h.blk
  exact ⟨fun i hi => by simp [World.cell?, h1]; exact (h3 i hi).1, fun i hi => by simp [World.cell?, h1]; exact (h3 i hi).2⟩
theorem infoD : (Try.prog.info? 54).map (fun i => (i.zero, i.size, i.bytes)) = some (some (.agg #[.int .i64 0, .string ⟨#[]⟩]), 2, 24) := by kernel_rfl
set_option maxHeartbeats 1600000 in
theorem toDiffS_any (a : Addr) (n C : Nat) (K : Nat → Int) (X : Nat → ByteArray) (hn : n ≤ 1048576) (w : World) (hr : RowA w a n K X) :
    Calls Try.prog 26 #[.slice (some a) n C] w fun e w' =>
      e = .returned (.slice (some ⟨w.heap.size, 0, none⟩) n n) ∧ RowD w' w.heap.size n K X ∧ Below w.heap.size w w' ∧ w.heap.size < w'.heap.size := by
  obtain ⟨i0, hi, hz0, hz1, hz2⟩ := info_parts infoD
  obtain ⟨M, hM⟩ : ∃ M, M = madeCells (Value.agg #[.int .i64 0, .string ⟨#[]⟩]).cells (((n : Nat) : Int).toNat * i0.size) := ⟨_, rfl⟩
  have hMs : M.size = n * 2 := by rw [hM, size_madeCells, hz1]; simp
  have hmk : ∀ W : World, (Instr.makeSlice 25 (.int .i64 (n : Int)) (.int .i64 (n : Int))).run Try.prog W = .ok (.slice (some ⟨W.heap.size, 0, none⟩) n n) (W.alloc (.cells M 54)) := fun W => by
    have h := run_make (P := Try.prog) W 25 54 i0 _ Try.underlying25 hi hz0 .i64 .i64 (n : Int) (n : Int) (by omega) (by omega) (by rw [hz2]; omega) (by omega)
    rw [← hM] at h
    simpa using h
  have T0 : TS w w.heap.size n K X (w.alloc (.cells M 54)) 0 :=
    ⟨⟨M, heap_alloc_new w _, hMs, fun j hj => absurd hj (by omega)⟩, (Below.refl _ w).alloc (Nat.le_refl _) _⟩
  have HT := Lib.hid T0
  have HR := Lib.hid hr
  clear hr T0 hM hMs hi hz0 hz1 hz2
  go_enter Try.func26, Try.ntmps26
  go_wp2
  go_loopw [4] (fun i w' => ∃ k : Nat, k ≤ n ∧ i = .int .i64 k ∧ TS w w.heap.size n K X w' k) (fun i _ => n - (intOf i).toNat)
  case atStart => exact ⟨0, Nat.zero_le _, rfl, HT.out⟩
  case round =>
    obtain ⟨k, hk, rfl, hts⟩ := hrel
    rename World => wr
    have HS := Lib.hid hts
    have R1 := HR.out.below hts.bel
    clear hts
    by_cases hlt : k < n
    · have r1 := R1.kind k hlt
      have r2 := R1.text k hlt
      have hp := R1.plain (by omega)
      clear R1
      obtain ⟨b, off, sp⟩ := a
      obtain rfl : sp = none := hp
      go_wp2_with fail
      refine (toDiff_any _ _ _).mono ?_
      rintro e w2 ⟨rfl, hb2⟩
      have HC := Lib.hid (HS.out.call hb2)
      obtain ⟨⟨v0, c0⟩, f0⟩ := HC.out.room (o := k * 2) (by omega)
      obtain ⟨⟨v1, c1⟩, f1⟩ := HC.out.room (o := k * 2 + 1) (by omega)
      clear hb2 HS
      go_wp2
      go_roundw
      case rel => exact ⟨k + 1, by omega, by go_num, HC.out.store hlt (Nat.le_refl _)⟩
      case measure => simp [intOf]; omega
    · obtain rfl : k = n := by omega
      go_wp2
      go_ret
      exact ⟨rfl, HS.out.row, HS.out.bel, by obtain ⟨_, h1, _⟩ := HS.out.blk; exact heap_lt h1⟩
theorem szDiffS_nil (w : World) :
    Calls Try.prog 25 #[.slice none 0 0, .int .i64 1048576] w fun e w' => e = .returned (.int .i64 1048576) ∧ Below w.heap.size w w' := by
  go_enter Try.func25, Try.ntmps25
  go_wp2
  go_loopw [1, 5] (fun l i w' => l = .int .i64 1048576 ∧ i = .int .i64 0 ∧ w' = w) (fun _ _ _ => 0)
  case atStart => exact ⟨rfl, rfl, rfl⟩
  case round =>
    obtain ⟨rfl, rfl, rfl⟩ := hrel
    go_wp2
    go_ret
    exact ⟨rfl, Below.refl _ _⟩
theorem toDiffS_nil (K : Nat → Int) (X : Nat → ByteArray) (w : World) :
    Calls Try.prog 26 #[.slice none 0 0] w fun e w' =>
      e = .returned (.slice (some ⟨w.heap.size, 0, none⟩) 0 0) ∧ RowD w' w.heap.size 0 K X ∧ Below w.heap.size w w' ∧ w.heap.size < w'.heap.size := by
  obtain ⟨i0, hi, hz0, hz1, hz2⟩ := info_parts infoD
  obtain ⟨M, hM⟩ : ∃ M, M = madeCells (Value.agg #[.int .i64 0, .string ⟨#[]⟩]).cells ((0 : Int).toNat * i0.size) := ⟨_, rfl⟩
  have hmk : ∀ W : World, (Instr.makeSlice 25 (.int .i64 0) (.int .i64 0)).run Try.prog W = .ok (.slice (some ⟨W.heap.size, 0, none⟩) 0 0) (W.alloc (.cells M 54)) := fun W => by
    have h := run_make (P := Try.prog) W 25 54 i0 _ Try.underlying25 hi hz0 .i64 .i64 0 0 (by omega) (by omega) (by omega) (by omega)
    rw [← hM] at h
    simpa using h
  clear hM hi hz0 hz1 hz2
  go_enter Try.func26, Try.ntmps26
  go_wp2
  go_loopw [4] (fun i w' => i = .int .i64 0 ∧ w' = w.alloc (.cells M 54)) (fun _ _ => 0)
  case atStart => exact ⟨rfl, rfl⟩
  case round =>
    obtain ⟨rfl, rfl⟩ := hrel
    go_wp2
    go_ret
    exact ⟨rfl, ⟨fun i hi => absurd hi (by omega), fun i hi => absurd hi (by omega)⟩, (Below.refl _ w).alloc (Nat.le_refl _) _, by simp⟩
end Go.Proofs.Ythdnhopkkgdclaa.diff
