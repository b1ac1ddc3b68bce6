/-
  markDiffS and heldDiffS of the laws: what is written into a row of changes, and that it is still there.
-/
import Derived.Test.YthdnhopkkgdclaaMark
import Derived.Test.YthdnhopkkgdclaaDiffHarness
import Derived.Deep.RegionHeld3
namespace Go.Proofs.Ythdnhopkkgdclaa.put
open Go.ChangeShapes Go.WideShapes Go.ChangeAt Go.RowKit
open Go.Proofs.Ythdnhopkkgdclaa.diff
/-- k changes of the row at g written over -/
structure MK (base : Nat) (w : World) (g n : Nat) (K : Nat → Int) (X : Nat → ByteArray) (w' : World) (k : Nat) : Prop where
  blk : ∃ M : Array Value, w'.heap[g]? = some (.cells M 54 (0, 0)) ∧ n * 2 ≤ M.size ∧ ∀ j, j < k → M[j * 2]? = some (.int .i64 (K j)) ∧ M[j * 2 + 1]? = some (.string (X j))
  bel : Below base w w'
theorem lt_heap {w : World} {g : Nat} {o : Obj} (h : w.heap[g]? = some o) : g < w.heap.size := by
  rcases Nat.lt_or_ge g w.heap.size with h' | h'
  · exact h'
  · rw [Array.getElem?_eq_none h'] at h; cases h
section
variable {base g n k : Nat} {K : Nat → Int} {X : Nat → ByteArray} {w w' w2 : World}
theorem MK.call (h : MK base w g n K X w' k) (hs : base ≤ w'.heap.size) (hb : Below w'.heap.size w' w2) : MK base w g n K X w2 k where
  blk := by
    obtain ⟨M, h1, h2, h3⟩ := h.blk
    exact ⟨M, by rw [hb.block g (lt_heap h1)]; exact h1, h2, h3⟩
  bel := bthen h.bel hb hs
theorem MK.room (h : MK base w g n K X w' k) {o : Nat} (ho : o < n * 2) : (∃ v, w'.cell? ⟨g, o, none⟩ = some v) ∧ w'.frozen? ⟨g, o, none⟩ = false := by
  obtain ⟨M, h1, h2, _⟩ := h.blk
  refine ⟨⟨M[o]'(by omega), ?_⟩, ?_⟩
  · simp [World.cell?, h1]
  · simp [World.frozen?, h1]
theorem MK.kind (h : MK base w g n K X w' k) (hg : base ≤ g) : MK base w g n K X (w'.setCell ⟨g, k * 2, none⟩ (.int .i64 (K k))) k where
  blk := by
    obtain ⟨M, h1, h2, h3⟩ := h.blk
    refine ⟨M.setIfInBounds (k * 2) (.int .i64 (K k)), bset h1 _, by simp [h2], fun j hj => ⟨?_, ?_⟩⟩
    · rw [Array.getElem?_setIfInBounds, if_neg (by omega)]; exact (h3 j hj).1
    · rw [Array.getElem?_setIfInBounds, if_neg (by omega)]; exact (h3 j hj).2
  bel := h.bel.setCell (p := ⟨g, k * 2, none⟩) hg _
theorem MK.kindAt (h : MK base w g n K X w' k) (hk : k < n) (u : Value) : (w'.setCell ⟨g, k * 2, none⟩ u).cell? ⟨g, k * 2, none⟩ = some u := by
  obtain ⟨M, h1, h2, _⟩ := h.blk
  have h3 := bset (k := k * 2) h1 u
  simp only [World.cell?, h3]
  simp [Array.getElem?_setIfInBounds]
  omega
theorem MK.store (h : MK base w g n K X w' k) (hk : k < n) (hg : base ≤ g) (hc : w'.cell? ⟨g, k * 2, none⟩ = some (.int .i64 (K k))) :
    MK base w g n K X (w'.setCell ⟨g, k * 2 + 1, none⟩ (.string (X k))) (k + 1) where
  blk := by
    obtain ⟨M, h1, h2, h3⟩ := h.blk
    have hc' : M[k * 2]? = some (.int .i64 (K k)) := by simpa [World.cell?, h1] using hc
    refine ⟨M.setIfInBounds (k * 2 + 1) (.string (X k)), bset h1 _, by simp [h2], fun j hj => ?_⟩
    by_cases e : j = k
    · subst e
      exact ⟨by rw [Array.getElem?_setIfInBounds, if_neg (by omega)]; exact hc', by rw [Array.getElem?_setIfInBounds, if_pos rfl, if_pos (by omega)]⟩
    · exact ⟨by rw [Array.getElem?_setIfInBounds, if_neg (by omega)]; exact (h3 j (by omega)).1, by rw [Array.getElem?_setIfInBounds, if_neg (by omega)]; exact (h3 j (by omega)).2⟩
  bel := h.bel.setCell (p := ⟨g, k * 2 + 1, none⟩) hg _
theorem MK.row (h : MK base w g n K X w' n) : RowD w' g n K X := by
  obtain ⟨M, h1, h2, h3⟩ := h.blk
  exact ⟨fun i hi => by simp [World.cell?, h1]; exact (h3 i hi).1, fun i hi => by simp [World.cell?, h1]; exact (h3 i hi).2⟩
end
def mkK (k : Nat) (i : Nat) : Int := (k : Int) + 2 * (i : Int)
def mkX (k : Nat) (i : Nat) : ByteArray := mkT (k + 2 * i + 1)
set_option maxHeartbeats 1600000 in
theorem markDiffS_any (base g n cap k : Nat) (M0 : Array Value) (h0 : 0 < k) (hk : k + 2 * n ≤ 100000) (w : World) (hbase : base ≤ g) (hblk : w.heap[g]? = some (.cells M0 54 (0, 0))) (hM0 : n * 2 ≤ M0.size) :
    Calls Try.prog 23 #[.slice (some ⟨g, 0, none⟩) n cap, .int .i64 k] w fun e w' =>
      e = .returned (.int .i64 (k + 2 * n : Nat)) ∧ RowD w' g n (mkK k) (mkX k) ∧ Below base w w' := by
  have hgs := lt_heap hblk
  have T0 : MK base w g n (mkK k) (mkX k) w 0 := ⟨⟨M0, hblk, hM0, fun j hj => absurd hj (by omega)⟩, Below.refl _ w⟩
  have HT := Lib.hid T0
  clear T0 hblk hM0
  go_enter Try.func23, Try.ntmps23
  go_wp2
  go_loopw [1, 5] (fun m i w' => ∃ j : Nat, j ≤ n ∧ i = .int .i64 j ∧ m = .int .i64 (k + 2 * j : Nat) ∧ MK base w g n (mkK k) (mkX k) w' j) (fun _ i _ => n - (intOf i).toNat)
  case atStart => exact ⟨0, Nat.zero_le _, rfl, rfl, HT.out⟩
  case round =>
    obtain ⟨j, hj, rfl, rfl, hts⟩ := hrel
    rename World => wr
    have HS := Lib.hid hts
    have hsz := hts.bel.size
    clear hts
    by_cases hlt : j < n
    · obtain ⟨⟨v0, c0⟩, f0⟩ := HS.out.room (o := j * 2) (by omega)
      have HK := Lib.hid (show MK base w g n (mkK k) (mkX k) (wr.setCell ⟨g, j * 2, none⟩ (.int .i64 ((k : Int) + 2 * (j : Int)))) j from HS.out.kind hbase)
      have HA := Lib.hid (HS.out.kindAt hlt (.int .i64 ((k : Int) + 2 * (j : Int))))
      have hmt : ∀ W : World, Calls Try.prog 42 #[.int .i64 ((k : Int) + 2 * (j : Int) + 1)] W fun e w' => e = .returned (.string (mkX k j)) ∧ Below W.heap.size W w' := fun W => by
        have h := markText_any (k + 2 * j + 1) (by omega) (by omega) W
        rw [show ((k + 2 * j + 1 : Nat) : Int) = (k : Int) + 2 * (j : Int) + 1 by omega] at h
        exact h
      have HM := Lib.hid hmt
      clear hmt
      go_wp2_with fail
      refine (HM.out _).mono ?_
      rintro e w2 ⟨rfl, hb2⟩
      have hx : base ≤ (wr.setCell ⟨g, j * 2, none⟩ (.int .i64 ((k : Int) + 2 * (j : Int)))).heap.size := by
        have hx : base ≤ wr.heap.size := by omega
        simpa [World.setCell] using hx
      have HC := Lib.hid (HK.out.call hx hb2)
      clear hx
      obtain ⟨⟨v1, c1⟩, f1⟩ := HC.out.room (o := j * 2 + 1) (by omega)
      have HD := Lib.hid (show w2.cell? ⟨g, j * 2, none⟩ = some (.int .i64 (mkK k j)) by rw [hb2.cell (p := ⟨g, j * 2, none⟩) (blk_lt HA.out)]; exact HA.out)
      clear hb2 c0 f0 HS HA HM
      go_wp2
      go_roundw
      case rel => exact ⟨j + 1, by omega, by go_num, by go_num, HC.out.store hlt hbase HD.out⟩
      case measure => simp [intOf]; omega
    · obtain rfl : j = n := by omega
      go_wp2
      go_ret
      exact ⟨rfl, HS.out.row, HS.out.bel⟩
set_option maxHeartbeats 1600000 in
theorem heldDiffS_any (g n cap k : Nat) (h0 : 0 < k) (hk : k + 2 * n ≤ 100000) (w : World) (hr : RowD w g n (mkK k) (mkX k)) :
    Calls Try.prog 24 #[.slice (some ⟨g, 0, none⟩) n cap, .int .i64 k] w fun e w' => e = .returned (.int .i64 (k + 2 * n : Nat)) ∧ Below w.heap.size w w' := by
  have HR := Lib.hid hr
  clear hr
  go_enter Try.func24, Try.ntmps24
  go_wp2
  go_loopw [1, 5] (fun m i w' => ∃ j : Nat, j ≤ n ∧ i = .int .i64 j ∧ m = .int .i64 (k + 2 * j : Nat) ∧ Below w.heap.size w w') (fun _ i _ => n - (intOf i).toNat)
  case atStart => exact ⟨0, Nat.zero_le _, rfl, rfl, Below.refl _ _⟩
  case round =>
    obtain ⟨j, hj, rfl, rfl, hb⟩ := hrel
    rename World => wr
    have HB := Lib.hid hb
    have hz := hb.size
    have R1 := HR.out.below hb
    clear hb
    by_cases hlt : j < n
    · have c0 : wr.cell? ⟨g, j * 2, none⟩ = some (.int .i64 ((k : Int) + 2 * (j : Int))) := R1.kind j hlt
      have c1 : wr.cell? ⟨g, j * 2 + 1, none⟩ = some (.string (mkX k j)) := R1.text j hlt
      have gz := blk_lt c1
      have hmt : ∀ W : World, Calls Try.prog 42 #[.int .i64 ((k : Int) + 2 * (j : Int) + 1)] W fun e w' => e = .returned (.string (mkX k j)) ∧ Below W.heap.size W w' := fun W => by
        have h := markText_any (k + 2 * j + 1) (by omega) (by omega) W
        rw [show ((k + 2 * j + 1 : Nat) : Int) = (k : Int) + 2 * (j : Int) + 1 by omega] at h
        exact h
      have HM := Lib.hid hmt
      obtain ⟨T, hT⟩ : ∃ T, T = mkX k j := ⟨_, rfl⟩
      rw [← hT] at c1 HM
      clear hmt R1 hT
      go_wp2
      go_region_held3 (fun w' => w'.cell? ⟨g, j * 2 + 1, none⟩ = some (.string T)) (go_keep)
        (first | (go_at_call 42; refine (HM.out _).mono ?_; rintro e w4 ⟨rfl, hb4⟩; obtain ⟨p1, _⟩ := keepC hb4 (g := g) gz))
      all_goals
        have HB2 := Lib.hid (bthen HB.out.drew hb4 hz)
        clear p1 hb4
        go_wp2
        go_roundw
        case rel => exact ⟨j + 1, by omega, by go_num, by go_num, HB2.out⟩
        case measure => simp [intOf]; omega
    · obtain rfl : j = n := by omega
      go_wp2
      go_ret
      exact ⟨rfl, HB.out⟩
end Go.Proofs.Ythdnhopkkgdclaa.put
