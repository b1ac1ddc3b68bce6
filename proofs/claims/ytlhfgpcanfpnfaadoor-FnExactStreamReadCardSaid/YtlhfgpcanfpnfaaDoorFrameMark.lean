/-
  Lists of frames written over, and whether they are so still. For every such list.
-/
import Derived.Test.YtlhfgpcanfpnfaaDoorFrames
namespace Go.Proofs.YtlhfgpcanfpnfaaDoor.frames
open Go.ChangeShapes Go.WideShapes Go.ChangeAt Go.RowKit Go.Deep
open Go.Proofs.YtlhfgpcanfpnfaaDoor.strs Go.Proofs.YtlhfgpcanfpnfaaDoor.frame
def markF (p n : Nat) : List FT := (List.range n).map fun i => (((p + 3 * i : Nat) : Int), ((p + 3 * i + 1 : Nat) : Int), mkT (p + 3 * i + 2))
theorem markF_len (p n : Nat) : (markF p n).length = n := by simp [markF]
theorem markF_at (p n i : Nat) (h : i < (markF p n).length) : (markF p n)[i] = (((p + 3 * i : Nat) : Int), ((p + 3 * i + 1 : Nat) : Int), mkT (p + 3 * i + 2)) := by simp [markF]
/-- k frames of the row written over, and of the next one the first c cells -/
structure MF (w : World) (a : Option Addr) (n p : Nat) (w' : World) (k c : Nat) : Prop where
  blk : n ≠ 0 → ∃ g o, a = some ⟨g, o, none⟩ ∧ ∃ M : Array Value, w'.heap[g]? = some (.cells M 23 (0, 0)) ∧ o + n * 3 ≤ M.size ∧
    (∀ j, j < k → M[o + j * 3]? = some (.int .i64 ((p + 3 * j : Nat) : Int)) ∧ M[o + j * 3 + 1]? = some (.int .i64 ((p + 3 * j + 1 : Nat) : Int)) ∧ M[o + j * 3 + 2]? = some (.string (mkT (p + 3 * j + 2)))) ∧
    (0 < c → M[o + k * 3]? = some (.int .i64 ((p + 3 * k : Nat) : Int))) ∧ (1 < c → M[o + k * 3 + 1]? = some (.int .i64 ((p + 3 * k + 1 : Nat) : Int)))
  grow : w.grownBy w' (blkN a n)
theorem MF.call {w w' w2 : World} {a : Option Addr} {n p k c : Nat} (h : MF w a n p w' k c) (hb : Below w'.heap.size w' w2) : MF w a n p w2 k c where
  blk hn := by
    obtain ⟨g, o, e, M, h1, h2, h3⟩ := h.blk hn
    exact ⟨g, o, e, M, by rw [hb.block g (Array.getElem?_eq_some_iff.1 h1).1]; exact h1, h2, h3⟩
  grow := grown_trans h.grow (grown_below hb)
theorem MF.room {w w' : World} {a : Option Addr} {n p k c : Nat} (h : MF w a n p w' k c) {j : Nat} (hj : j < n) : ∃ g o, a = some ⟨g, o, none⟩ ∧ ∀ d, d < 3 → (∃ v, w'.cell? ⟨g, o + j * 3 + d, none⟩ = some v) ∧ w'.frozen? ⟨g, o + j * 3 + d, none⟩ = false := by
  obtain ⟨g, o, e, M, h1, h2, _⟩ := h.blk (by omega)
  refine ⟨g, o, e, fun d hd => ⟨⟨M[o + j * 3 + d]'(by omega), ?_⟩, ?_⟩⟩
  · simp [World.cell?, h1]
  · simp [World.frozen?, h1]
theorem MF.grown {w w' : World} {g o n p k c : Nat} (h : MF w (some ⟨g, o, none⟩) n p w' k c) (hn : n ≠ 0) (d : Nat) (v : Value) : w.grownBy (w'.setCell ⟨g, d, none⟩ v) (blkN (some ⟨g, o, none⟩) n) := by
  have hb : blkN (some ⟨g, o, none⟩) n = some g := by unfold blkN; rw [if_neg hn]; rfl
  have h1 := h.grow
  rw [hb] at h1 ⊢
  exact grown_trans h1 (grown_set w' g d _)
theorem MF.s0 {w w' : World} {g o n p k : Nat} (h : MF w (some ⟨g, o, none⟩) n p w' k 0) (hk : k < n) {x : Int} (hx : x = ((p + 3 * k : Nat) : Int)) : MF w (some ⟨g, o, none⟩) n p (w'.setCell ⟨g, o + k * 3, none⟩ (.int .i64 x)) k 1 where
  blk hn := by
    subst hx
    obtain ⟨g', o', e, M, h1, h2, h3, _, _⟩ := h.blk hn
    injection e with e
    injection e with e1 e2
    subst e1 e2
    refine ⟨g, o, rfl, M.setIfInBounds (o + k * 3) (.int .i64 ((p + 3 * k : Nat) : Int)), bset h1 _, by simp [h2], fun j hj => ?_, fun _ => ?_, fun h => by omega⟩
    · rw [Array.getElem?_setIfInBounds, if_neg (by omega), Array.getElem?_setIfInBounds, if_neg (by omega), Array.getElem?_setIfInBounds, if_neg (by omega)]
      exact h3 j hj
    · rw [Array.getElem?_setIfInBounds, if_pos rfl, if_pos (by omega)]
  grow := h.grown (by omega) _ _
theorem MF.s1 {w w' : World} {g o n p k : Nat} (h : MF w (some ⟨g, o, none⟩) n p w' k 1) (hk : k < n) {x : Int} (hx : x = ((p + 3 * k + 1 : Nat) : Int)) : MF w (some ⟨g, o, none⟩) n p (w'.setCell ⟨g, o + k * 3 + 1, none⟩ (.int .i64 x)) k 2 where
  blk hn := by
    subst hx
    obtain ⟨g', o', e, M, h1, h2, h3, h4, _⟩ := h.blk hn
    injection e with e
    injection e with e1 e2
    subst e1 e2
    refine ⟨g, o, rfl, M.setIfInBounds (o + k * 3 + 1) (.int .i64 ((p + 3 * k + 1 : Nat) : Int)), bset h1 _, by simp [h2], fun j hj => ?_, fun _ => ?_, fun _ => ?_⟩
    · rw [Array.getElem?_setIfInBounds, if_neg (by omega), Array.getElem?_setIfInBounds, if_neg (by omega), Array.getElem?_setIfInBounds, if_neg (by omega)]
      exact h3 j hj
    · rw [Array.getElem?_setIfInBounds, if_neg (by omega)]
      exact h4 (by omega)
    · rw [Array.getElem?_setIfInBounds, if_pos rfl, if_pos (by omega)]
  grow := h.grown (by omega) _ _
theorem MF.s2 {w w' : World} {g o n p k : Nat} (h : MF w (some ⟨g, o, none⟩) n p w' k 2) (hk : k < n) : MF w (some ⟨g, o, none⟩) n p (w'.setCell ⟨g, o + k * 3 + 2, none⟩ (.string (mkT (p + 3 * k + 2)))) (k + 1) 0 where
  blk hn := by
    obtain ⟨g', o', e, M, h1, h2, h3, h4, h5⟩ := h.blk hn
    injection e with e
    injection e with e1 e2
    subst e1 e2
    refine ⟨g, o, rfl, M.setIfInBounds (o + k * 3 + 2) (.string (mkT (p + 3 * k + 2))), bset h1 _, by simp [h2], fun j hj => ?_, fun h => by omega, fun h => by omega⟩
    by_cases e : j = k
    · subst e
      refine ⟨?_, ?_, ?_⟩
      · rw [Array.getElem?_setIfInBounds, if_neg (by omega)]; exact h4 (by omega)
      · rw [Array.getElem?_setIfInBounds, if_neg (by omega)]; exact h5 (by omega)
      · rw [Array.getElem?_setIfInBounds, if_pos rfl, if_pos (by omega)]
    · rw [Array.getElem?_setIfInBounds, if_neg (by omega), Array.getElem?_setIfInBounds, if_neg (by omega), Array.getElem?_setIfInBounds, if_neg (by omega)]
      exact h3 j (by omega)
  grow := h.grown (by omega) _ _
theorem MF.row {w w' : World} {a : Option Addr} {n p : Nat} (h : MF w a n p w' n 0) : FRow w' a (markF p n) where
  it hl := by
    have hn : n ≠ 0 := fun e => hl (by rw [e]; rfl)
    obtain ⟨g, o, e, M, h1, h2, h3, _⟩ := h.blk hn
    refine ⟨g, o, e, fun i hi => ?_⟩
    rw [markF_at]
    rw [markF_len] at hi
    simp [World.cell?, h1]
    simpa using h3 i hi
set_option maxHeartbeats 1600000 in
theorem markFrameS_any (base : Nat) (a : Option Addr) (n C p : Nat) (hp : 0 < p) (hn : p + n ≤ 2500000) (w : World) (h : FBlk base w a n) :
    Calls Tryd.prog 24 #[.slice a n C, .int .i64 p] w fun e w' => e = .returned (.int .i64 (p + 3 * n : Nat)) ∧ FRow w' a (markF p n) ∧ w.grownBy w' (blkN a n) := by
  have T0 : MF w a n p w 0 0 := ⟨fun hn => by
    obtain ⟨g, o, e, _, M, h2, h3⟩ := h hn
    exact ⟨g, o, e, M, h2, h3, fun j hj => absurd hj (by omega), fun h => by omega, fun h => by omega⟩, grown_refl _ _⟩
  have HT := Lib.hid T0
  clear T0 h
  go_enter Tryd.func24, Tryd.ntmps24
  go_wp2
  go_loopw [1, 5] (fun m i w' => ∃ j : Nat, j ≤ n ∧ i = .int .i64 j ∧ m = .int .i64 (p + 3 * j : Nat) ∧ MF w a n p w' j 0) (fun _ i _ => n - (intOf i).toNat)
  case atStart => exact ⟨0, Nat.zero_le _, rfl, rfl, HT.out⟩
  case round =>
    obtain ⟨j, hj, rfl, rfl, hts⟩ := hrel
    rename World => wr
    have HS := Lib.hid hts
    clear hts
    by_cases hlt : j < n
    · obtain ⟨g, o, rfl, hroom⟩ := HS.out.room hlt
      obtain ⟨⟨v0, c0⟩, f0⟩ := hroom 0 (by omega)
      obtain ⟨⟨v1, c1⟩, f1⟩ := hroom 1 (by omega)
      rw [Nat.add_zero] at c0 f0
      have HS1 := Lib.hid ((HS.out.s0 hlt (x := (p : Int) + 3 * (j : Int)) (by simp)).s1 hlt (x := (p : Int) + 3 * (j : Int) + 1) (by simp))
      have HMT := Lib.hid (markText_any (p + 3 * j + 2) (by omega) (by omega))
      have e2 : (((p + 3 * j + 2 : Nat)) : Int) = (p : Int) + 3 * (j : Int) + 1 + 1 := by omega
      rw [e2] at HMT
      obtain ⟨X, hX⟩ : ∃ X, X = mkT (p + 3 * j + 2) := ⟨_, rfl⟩
      rw [← hX] at HMT
      have HX := Lib.hid hX
      have hpb : (p : Int) + 3 * (j : Int) + 3 ≤ 9000000 := by omega
      clear hX hroom e2
      go_wp2_with fail
      refine (HMT.out _).mono ?_
      rintro e w2 ⟨rfl, hb⟩
      have h2 := HS1.out.call hb
      obtain ⟨_, _, e0, hroom⟩ := h2.room hlt
      injection e0 with e0
      injection e0 with e1 e2
      subst e1 e2
      obtain ⟨⟨v2, c2⟩, f2⟩ := hroom 2 (by omega)
      have HD := Lib.hid (h2.s2 hlt)
      rw [← HX.out] at HD
      clear hb h2 hroom c0 c1 f0 f1
      go_wp2
      go_roundw
      case rel => exact ⟨j + 1, by omega, by go_num, by go_num, HD.out⟩
      case measure => simp [intOf]; omega
    · obtain rfl : j = n := by omega
      go_wp2
      go_ret
      exact ⟨rfl, HS.out.row, HS.out.grow⟩
set_option maxHeartbeats 3200000 in
theorem heldFrameS_any (a : Option Addr) (n C p : Nat) (hp : 0 < p) (hn : p + n ≤ 2500000) (w : World) (h : FRow w a (markF p n)) :
    Calls Tryd.prog 25 #[.slice a n C, .int .i64 p] w fun e w' => e = .returned (.int .i64 (p + 3 * n : Nat)) ∧ Below w.heap.size w w' := by
  have HR := Lib.hid h
  clear h
  go_enter Tryd.func25, Tryd.ntmps25
  go_wp2
  go_loopw [1, 5] (fun m i w' => ∃ j : Nat, j ≤ n ∧ i = .int .i64 j ∧ m = .int .i64 (p + 3 * j : Nat) ∧ Below w.heap.size w w') (fun _ i _ => n - (intOf i).toNat)
  case atStart => exact ⟨0, Nat.zero_le _, rfl, rfl, Below.refl _ _⟩
  case round =>
    obtain ⟨j, hj, rfl, rfl, hb⟩ := hrel
    rename World => wr
    have HB := Lib.hid hb
    have hz := hb.size
    by_cases hlt : j < n
    · obtain ⟨g, o, rfl, g1, g2, g3⟩ := (HR.out.below hb).at (i := j) (by rw [markF_len]; exact hlt)
      rw [markF_at] at g1 g2 g3
      dsimp only at g1 g2 g3
      have gz := blk_lt g1
      have HM := Lib.hid (markText_any (p + 3 * j + 2) (by omega) (by omega))
      have e2 : (((p + 3 * j + 2 : Nat)) : Int) = (p : Int) + 3 * (j : Int) + 1 + 1 := by omega
      have e1 : (((p + 3 * j + 1 : Nat)) : Int) = (p : Int) + 3 * (j : Int) + 1 := by omega
      have e0 : (((p + 3 * j : Nat)) : Int) = (p : Int) + 3 * (j : Int) := by omega
      rw [e2] at HM
      rw [e1] at g2
      rw [e0] at g1
      obtain ⟨T, hT⟩ : ∃ T, T = mkT (p + 3 * j + 2) := ⟨_, rfl⟩
      rw [← hT] at g3 HM
      have hpb : (p : Int) + 3 * (j : Int) + 3 ≤ 9000000 := by omega
      clear hb hT e0 e1 e2
      go_wp2
      go_region_held3 (fun w' => w'.cell? ⟨g, o + j * 3 + 2, none⟩ = some (.string T)) (go_keep)
        (first | (go_at_call 31; refine (HM.out _).mono ?_; rintro e w4 ⟨rfl, hb4⟩; obtain ⟨p1, _⟩ := keepC hb4 (g := g) gz))
      all_goals
        have HB2 := Lib.hid (bthen HB.out.drew hb4 hz)
        clear p1 hb4
        go_wp2
        go_roundw
        case rel => exact ⟨j + 1, by omega, by go_num, by go_num, HB2.out⟩
        case measure => simp [intOf]; omega
    · obtain rfl : j = n := by omega
      clear hb
      go_wp2
      go_ret
      exact ⟨rfl, HB.out⟩
end Go.Proofs.YtlhfgpcanfpnfaaDoor.frames
