/-
  Unseal of the program and of the model: both tell the same text and the same code. For every text that the row reads.
-/
import Derived.Test.YtgmbpohbjhaghaaDoorSeal
import Derived.Deep.RegionWith
import Derived.Test.YtgmbpohbjhaghaaDoorShelf
namespace Go.Proofs.YtgmbpohbjhaghaaDoor.unseal_
open Go.ChangeShapes Go.WideShapes Go.ChangeAt Go.RowKit
open Go.Proofs.YtgmbpohbjhaghaaDoor.crc Go.Proofs.YtgmbpohbjhaghaaDoor.join Go.Proofs.YtgmbpohbjhaghaaDoor.seal_

def tout (t : ByteArray) (at_ code : Int) : Value := .agg #[.string t, .int .i64 at_, .int .i64 code]
theorem tout_def (t : ByteArray) (at_ code : Int) : tout t at_ code = .agg #[.string t, .int .i64 at_, .int .i64 code] := rfl
theorem ext_size (s : ByteArray) : (s.extract 0 (s.size - 4)).size = s.size - 4 := by
  rw [ByteArray.size_extract]; omega
def tailB (s : ByteArray) : ByteArray := s.extract (s.size - 4) s.size
def headB (s : ByteArray) : ByteArray := s.extract 0 (s.size - 4)
theorem headB_size (s : ByteArray) : (headB s).size = s.size - 4 := ext_size s
theorem head_tail (s : ByteArray) : headB s ++ tailB s = s := by
  unfold headB tailB
  rw [ByteArray.extract_append_extract]
  simp
/-- what both texts come to -/
def unV (s : ByteArray) : Value :=
  if 8000 < s.size then tout ByteArray.empty 0 2 else if s.size < 4 then tout ByteArray.empty 0 4 else
  if fourB (crcN (headB s)) = tailB s then tout (headB s) 0 0 else tout ByteArray.empty 0 5
theorem unV_long {s : ByteArray} (h : 8000 < s.size) : unV s = tout ByteArray.empty 0 2 := if_pos h
theorem unV_short {s : ByteArray} (h : s.size < 4) : unV s = tout ByteArray.empty 0 4 := by
  unfold unV; rw [if_neg (by omega), if_pos h]
theorem unV_ok {s : ByteArray} (h : s.size ≤ 8000) (h4 : 4 ≤ s.size) (e : fourB (crcN (headB s)) = tailB s) : unV s = tout (headB s) 0 0 := by
  unfold unV; rw [if_neg (by omega), if_neg (by omega), if_pos e]
theorem unV_bad {s : ByteArray} (h : s.size ≤ 8000) (h4 : 4 ≤ s.size) (e : ¬ fourB (crcN (headB s)) = tailB s) : unV s = tout ByteArray.empty 0 5 := by
  unfold unV; rw [if_neg (by omega), if_neg (by omega), if_neg e]
theorem seal_iff (s : ByteArray) (h : s.size ≤ 8000) (h4 : 4 ≤ s.size) : sealB (headB s) = s ↔ fourB (crcN (headB s)) = tailB s := by
  have hz := headB_size s
  unfold sealB; rw [if_neg (by omega)]
  constructor
  · intro e
    have e2 : headB s ++ fourB (crcN (headB s)) = headB s ++ tailB s := by rw [e, head_tail]
    have e3 := congrArg (fun b : ByteArray => b.data.toList) e2
    simp only [ByteArray.data_append, Array.toList_append, List.append_cancel_left_eq] at e3
    exact ByteArray.ext (Array.ext' e3)
  · intro e
    rw [e, head_tail]
theorem neq_t {a b : ByteArray} (h : a = b) : (!a.toList == b.toList) = false := by subst h; simp
theorem neq_f {a b : ByteArray} (h : ¬ a = b) : (!a.toList == b.toList) = true := by
  have : ¬ a.toList = b.toList := fun e => h (by
    rw [ByteArray.toList_eq, ByteArray.toList_eq] at e
    exact ByteArray.ext (Array.ext' e))
  simp [this]
theorem keepCells {W w1 : World} (hb : Below W.heap.size W w1) {g : Nat} (hg : g < W.heap.size) :
    (∀ o, w1.cell? ⟨g, o, none⟩ = W.cell? ⟨g, o, none⟩) ∧ (∀ o, w1.frozen? ⟨g, o, none⟩ = W.frozen? ⟨g, o, none⟩) :=
  ⟨fun o => hb.cell (p := ⟨g, o, none⟩) hg, fun o => hb.frozen (p := ⟨g, o, none⟩) hg⟩
set_option maxHeartbeats 400000 in
theorem specUn_long (s : ByteArray) (hs : s.size ≤ maxLen) (hl : (8000 : Int) < s.size) (w : World) :
    Calls Tryd.prog 10 #[.string s] w fun e w' => e = .returned (unV s) ∧ Below w.heap.size w w' := by
  unfold maxLen at hs
  rw [unV_long (by omega)]
  go_enter Tryd.func10, Tryd.ntmps10
  go_wp2
  exact bodyPost_ret (v := .agg #[.string ⟨#[]⟩, .int .i64 0, .int .i64 2]) (by simp [results, Tryd.results10, go_sem]) rfl ⟨rfl, ((Below.refl _ _).alloc (Nat.le_refl _) _)⟩
set_option maxHeartbeats 400000 in
theorem specUn_short (s : ByteArray) (hl : (s.size : Int) < 4) (w : World) :
    Calls Tryd.prog 10 #[.string s] w fun e w' => e = .returned (unV s) ∧ Below w.heap.size w w' := by
  rw [unV_short (by omega)]
  have hs : (s.size : Int) ≤ 8000 := by omega
  go_enter Tryd.func10, Tryd.ntmps10
  go_wp2
  exact bodyPost_ret (v := .agg #[.string ⟨#[]⟩, .int .i64 0, .int .i64 4]) (by simp [results, Tryd.results10, go_sem]) rfl ⟨rfl, ((Below.refl _ _).alloc (Nat.le_refl _) _)⟩
set_option maxHeartbeats 400000 in
theorem specUn_ok (s : ByteArray) (hs : (s.size : Int) ≤ 8000) (hl : 4 ≤ (s.size : Int)) (w : World) :
    Calls Tryd.prog 10 #[.string s] w fun e w' => e = .returned (unV s) ∧ Below w.heap.size w w' := by
  have hcb := crcN_lt (s.extract 0 (s.size - 4))
  have HC := Lib.hid (show crcN (s.extract 0 (s.size - 4)) = flipped (regs (s.extract 0 (s.size - 4)) (flipped 0) (s.extract 0 (s.size - 4)).size) from rfl)
  have hw1 : IntKind.i64.wrap ((s.size : Int) - 4) = (s.size : Int) - 4 := IntWalk.i64_in _ (by omega)
  have hw2 : (s.size : Int) - 4 ≤ (s.size : Int) := by omega
  have hw3 : ((s.size : Int) - 4).toNat = s.size - 4 := by omega
  have hz : (s.extract 0 (s.size - 4)).size ≤ 8000 := by rw [ext_size]; omega
  by_cases hq : fourB (crcN (s.extract 0 (s.size - 4))) = s.extract (s.size - 4) s.size
  · have HF := Lib.hid (unV_ok (s := s) (by omega) (by omega) hq)
    have hne := neq_t hq
    clear hq
    go_enter Tryd.func10, Tryd.ntmps10
    go_wp2_with fail
    go_region_with (first | (go_at_call 21; refine (l01Crc_any 0 _ hz (by omega) _).mono ?_; rintro e w1 ⟨rfl, rfl⟩; rw [← HC.out]) | (go_at_call 20; refine (specFour_any _ hcb _).mono ?_; rintro e w2 ⟨rfl, hb1⟩))
    all_goals
      obtain ⟨k1, k2⟩ := keepCells hb1 (g := w.heap.size) (by simp)
      have HB := Lib.hid hb1
      clear hb1
      go_wp2
    exact bodyPost_ret (v := .agg #[.string (s.extract 0 (s.size - 4)), .int .i64 0, .int .i64 0]) (by simp [results, Tryd.results10, go_sem, k1]) rfl
      ⟨by rw [HF.out]; rfl, (((((Below.refl _ w).alloc (Nat.le_refl _) _).drew.trans (HB.out.mono (by simp))).setCell (Nat.le_refl _) _).setCell (Nat.le_refl _) _).setCell (Nat.le_refl _) _⟩
  · have HF := Lib.hid (unV_bad (s := s) (by omega) (by omega) hq)
    have hne := neq_f hq
    clear hq
    go_enter Tryd.func10, Tryd.ntmps10
    go_wp2_with fail
    go_region_with (first | (go_at_call 21; refine (l01Crc_any 0 _ hz (by omega) _).mono ?_; rintro e w1 ⟨rfl, rfl⟩; rw [← HC.out]) | (go_at_call 20; refine (specFour_any _ hcb _).mono ?_; rintro e w2 ⟨rfl, hb1⟩))
    all_goals
      obtain ⟨k1, k2⟩ := keepCells hb1 (g := w.heap.size) (by simp)
      have HB := Lib.hid hb1
      clear hb1
      go_wp2
    exact bodyPost_ret (v := .agg #[.string ⟨#[]⟩, .int .i64 0, .int .i64 5]) (by simp [results, Tryd.results10, go_sem, k1]) rfl
      ⟨by rw [HF.out]; rfl, (((((Below.refl _ w).alloc (Nat.le_refl _) _).drew.trans (HB.out.mono (by simp))).setCell (Nat.le_refl _) _).setCell (Nat.le_refl _) _).setCell (Nat.le_refl _) _⟩

theorem clone_any (s : ByteArray) (hs : s.size ≤ 1000000) (w : World) :
    Calls Tryd.prog 25 #[.string s] w fun e w' => e = .returned (.string s) ∧ Below w.heap.size w w' := by
  go_enter Tryd.func25, Tryd.ntmps25
  go_wp2_with fail
  refine (Tryd.stringslite_Clone s _ (by omega)).mono ?_
  rintro e w1 ⟨rfl, hb1⟩
  go_wp2
  go_ret
  exact ⟨rfl, hb1⟩
set_option maxHeartbeats 400000 in
theorem implUn_long (s : ByteArray) (hs : s.size ≤ maxLen) (hl : (8000 : Int) < s.size) (w : World) :
    Calls Tryd.prog 13 #[.string s] w fun e w' => e = .returned (unV s) ∧ Below w.heap.size w w' := by
  unfold maxLen at hs
  rw [unV_long (by omega)]
  go_enter Tryd.func13, Tryd.ntmps13
  go_wp2
  exact bodyPost_ret (v := .agg #[.string ⟨#[]⟩, .int .i64 0, .int .i64 2]) (by simp [results, Tryd.results13, go_sem]) rfl ⟨rfl, ((Below.refl _ _).alloc (Nat.le_refl _) _)⟩
set_option maxHeartbeats 400000 in
theorem implUn_short (s : ByteArray) (hl : (s.size : Int) < 4) (w : World) :
    Calls Tryd.prog 13 #[.string s] w fun e w' => e = .returned (unV s) ∧ Below w.heap.size w w' := by
  rw [unV_short (by omega)]
  have hs : (s.size : Int) ≤ 8000 := by omega
  go_enter Tryd.func13, Tryd.ntmps13
  go_wp2
  exact bodyPost_ret (v := .agg #[.string ⟨#[]⟩, .int .i64 0, .int .i64 4]) (by simp [results, Tryd.results13, go_sem]) rfl ⟨rfl, ((Below.refl _ _).alloc (Nat.le_refl _) _)⟩
set_option maxHeartbeats 400000 in
theorem implUn_ok (s : ByteArray) (hs : (s.size : Int) ≤ 8000) (hl : 4 ≤ (s.size : Int)) (w : World) :
    Calls Tryd.prog 13 #[.string s] w fun e w' => e = .returned (unV s) ∧ Below w.heap.size w w' := by
  have hz : (s.extract 0 (s.size - 4)).size ≤ 8000 := by rw [ext_size]; omega
  have hz' : (s.extract 0 (s.size - 4)).size ≤ maxLen := by unfold maxLen; omega
  by_cases hq : fourB (crcN (headB s)) = tailB s
  · have HF := Lib.hid (unV_ok (s := s) (by omega) (by omega) hq)
    have hne := neq_t ((seal_iff s (by omega) (by omega)).2 hq)
    unfold headB at hne
    have HZ := Lib.hid hz'
    clear hq hz'
    go_enter Tryd.func13, Tryd.ntmps13
    go_wp2_with fail
    refine (implSeal_any _ HZ.out _).mono ?_
    rintro e w2 ⟨rfl, hb1⟩
    obtain ⟨k1, k2⟩ := keepCells hb1 (g := w.heap.size) (by simp)
    have HB := Lib.hid hb1
    have hs2 : w.heap.size + 1 ≤ w2.heap.size := by have := hb1.size; simpa using this
    clear hb1
    go_wp2_with fail
    refine (clone_any _ (by omega) _).mono ?_
    rintro e w3 ⟨rfl, hb2⟩
    obtain ⟨q1, q2⟩ := keepCells hb2 (g := w.heap.size) (by omega)
    have HB2 := Lib.hid hb2
    clear hb2
    go_wp2
    exact bodyPost_ret (v := .agg #[.string (s.extract 0 (s.size - 4)), .int .i64 0, .int .i64 0]) (by simp [results, Tryd.results13, go_sem, q1, k1]) rfl
      ⟨by rw [HF.out]; rfl, ((((((Below.refl _ w).alloc (Nat.le_refl _) _).trans (HB.out.mono (by simp))).trans (HB2.out.mono (by omega))).setCell (Nat.le_refl _) _).setCell (Nat.le_refl _) _).setCell (Nat.le_refl _) _⟩
  · have HF := Lib.hid (unV_bad (s := s) (by omega) (by omega) hq)
    have hne := neq_f (fun e => hq ((seal_iff s (by omega) (by omega)).1 e))
    unfold headB at hne
    have HZ := Lib.hid hz'
    clear hq hz'
    go_enter Tryd.func13, Tryd.ntmps13
    go_wp2_with fail
    refine (implSeal_any _ HZ.out _).mono ?_
    rintro e w2 ⟨rfl, hb1⟩
    obtain ⟨k1, k2⟩ := keepCells hb1 (g := w.heap.size) (by simp)
    have HB := Lib.hid hb1
    clear hb1
    go_wp2
    exact bodyPost_ret (v := .agg #[.string ⟨#[]⟩, .int .i64 0, .int .i64 5]) (by simp [results, Tryd.results13, go_sem, k1]) rfl
      ⟨by rw [HF.out]; rfl, (((((Below.refl _ w).alloc (Nat.le_refl _) _).trans (HB.out.mono (by simp))).setCell (Nat.le_refl _) _).setCell (Nat.le_refl _) _).setCell (Nat.le_refl _) _⟩
theorem unV_form (s : ByteArray) : ∃ t c, unV s = .agg #[.string t, .int .i64 0, .int .i64 c] := by
  unfold unV; split
  · exact ⟨_, _, rfl⟩
  · split
    · exact ⟨_, _, rfl⟩
    · split
      · exact ⟨_, _, rfl⟩
      · exact ⟨_, _, rfl⟩
theorem specUn_any (s : ByteArray) (hs : s.size ≤ maxLen) (w : World) :
    Calls Tryd.prog 10 #[.string s] w fun e w' => e = .returned (unV s) ∧ Below w.heap.size w w' := by
  by_cases h1 : (8000 : Int) < s.size
  · exact specUn_long s hs h1 w
  · by_cases h2 : (s.size : Int) < 4
    · exact specUn_short s h2 w
    · exact specUn_ok s (by omega) (by omega) w
theorem implUn_any (s : ByteArray) (hs : s.size ≤ maxLen) (w : World) :
    Calls Tryd.prog 13 #[.string s] w fun e w' => e = .returned (unV s) ∧ Below w.heap.size w w' := by
  by_cases h1 : (8000 : Int) < s.size
  · exact implUn_long s hs h1 w
  · by_cases h2 : (s.size : Int) < 4
    · exact implUn_short s h2 w
    · exact implUn_ok s (by omega) (by omega) w
end Go.Proofs.YtgmbpohbjhaghaaDoor.unseal_
