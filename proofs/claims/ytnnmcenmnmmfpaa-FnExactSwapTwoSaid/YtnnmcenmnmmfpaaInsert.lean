/-
  Insert of the program and of the model: both come to the same answer. For every line, every text that the row reads.
-/
import Derived.Test.YtnnmcenmnmmfpaaLineRight
import Derived.Test.YtnnmcenmnmmfpaaJoin
namespace Go.Proofs.Ytnnmcenmnmmfpaa.line
open Go.ChangeShapes Go.WideShapes Go.ChangeAt Go.RowKit
open Go.Proofs.Ytnnmcenmnmmfpaa.join
def illV (c : Int) : Value := .agg #[.string ⟨#[]⟩, .int .i64 0, .string ⟨#[]⟩, .int .i64 c]
def insT (s t : ByteArray) (k : Nat) : ByteArray := s.extract 0 k ++ t ++ s.extract k s.size
noncomputable def insV (s : ByteArray) (a : Int) (t : ByteArray) : Value :=
  if 8000 < t.size then illV 2
  else if lineB s a = false ∨ textB t = false then illV 1
  else if 60 < s.size + t.size then illV 9
  else .agg #[.string (insT s t a.toNat), .int .i64 (a + t.size), .string ⟨#[]⟩, .int .i64 0]
theorem insV_form (s : ByteArray) (a : Int) (t : ByteArray) : ∃ x i g c, insV s a t = .agg #[.string x, .int .i64 i, .string g, .int .i64 c] := by
  unfold insV illV; split
  · exact ⟨_, _, _, _, rfl⟩
  · split
    · exact ⟨_, _, _, _, rfl⟩
    · split <;> exact ⟨_, _, _, _, rfl⟩
set_option maxHeartbeats 800000 in
theorem specIns_in (s : ByteArray) (k : Nat) (t : ByteArray) (hs : s.size ≤ 60) (ht : t.size ≤ 60) (hk : k ≤ s.size) (w : World) :
    Calls Try.prog 32 #[.agg #[.string s, .int .i64 k], .string t] w fun e w' =>
      e = .returned (if 60 < s.size + t.size then illV 9 else .agg #[.string (insT s t k), .int .i64 ((k : Int) + t.size), .string ⟨#[]⟩, .int .i64 0]) ∧ Below w.heap.size w w' := by
  by_cases h6 : 60 < s.size + t.size
  · rw [if_pos h6]
    go_enter Try.func32, Try.ntmps32
    go_wp2_with fail
    refine (ill_any _ _).mono ?_
    rintro e w1 ⟨rfl, hb1⟩
    obtain ⟨k1, k2⟩ := keepC hb1 (g := w.heap.size + 1) (by simp)
    have HB1 := Lib.hid (bthen (((Below.refl _ w).alloc (Nat.le_refl _) _).alloc (by simp) _) hb1 (by simp; omega))
    clear hb1
    go_wp2
    exact bodyPost_ret (v := illV 9) (by simp [results, Try.results32, go_sem, k1, illV]) rfl
      ⟨rfl, by repeat (first | exact HB1.out | refine Below.setCell (B := w.heap.size) (p := ⟨w.heap.size + 1, _, none⟩) ?_ (by simp) _)⟩
  · rw [if_neg h6]
    have e1 : (s.extract 0 k).size = k := by simp; omega
    go_enter Try.func32, Try.ntmps32
    go_wp2
    go_region
    go_wp2
    exact bodyPost_ret (v := .agg #[.string (insT s t k), .int .i64 ((k : Int) + t.size), .string ⟨#[]⟩, .int .i64 0]) (by simp [results, Try.results32, go_sem, insT]) rfl
      ⟨rfl, by repeat (first | exact ((Below.refl _ w).alloc (Nat.le_refl _) _).alloc (by simp) _ | refine Below.drew (B := w.heap.size) ?_ | refine Below.setCell (B := w.heap.size) (p := ⟨w.heap.size + 1, _, none⟩) ?_ (by simp) _)⟩
set_option maxHeartbeats 800000 in
theorem replaced_any (s b : ByteArray) (i j : Nat) (hs : s.size ≤ 60) (hb : b.size ≤ 60) (hi : i ≤ s.size) (hj : j ≤ s.size) (w : World) :
    Calls Try.prog 33 #[.string s, .int .i64 i, .int .i64 j, .string b] w fun e w' =>
      e = .returned (.string (s.extract 0 i ++ b ++ s.extract j s.size)) ∧ Below w.heap.size w w' := by
  obtain ⟨X, hX⟩ : ∃ X, X = s.extract 0 i := ⟨_, rfl⟩
  obtain ⟨Y, hY⟩ : ∃ Y, Y = s.extract j s.size := ⟨_, rfl⟩
  have hs1 : ∀ W, (Instr.slice 39 (.string s) none (some (.int .i64 (i : Int))) none).run Try.prog W = .ok (.string X) W := by
    intro W
    rw [run_slice_string_h (P := Try.prog) W 39 (s := s) Try.underlying39 .i64 (i : Int) (by omega) (by omega), hX]; rfl
  have hs2 : ∀ W, (Instr.slice 39 (.string s) (some (.int .i64 (j : Int))) none none).run Try.prog W = .ok (.string Y) W := by
    intro W
    rw [run_slice_string_l (P := Try.prog) W 39 (s := s) Try.underlying39 .i64 (j : Int) (by omega) (by omega), hY]; rfl
  have e1 : X.size = i := by rw [hX]; simp; omega
  have e2 : Y.size = s.size - j := by rw [hY]; simp
  rw [← hX, ← hY]
  clear hX hY
  go_enter Try.func33, Try.ntmps33
  go_wp2
  go_region_with (go_at_call 43; refine (joined_any _ _ ?_ ?_ _).mono ?_; (try simp only [ByteArray.size_append]); omega; omega; rintro e w1 ⟨rfl, hb1⟩)
  rename_i w0 hb0
  have HB := Lib.hid (bthen (bthen (Below.drew (Below.refl _ w)) hb0 (Nat.le_refl _)) hb1 hb0.size)
  clear hb0 hb1
  go_wp2
  go_ret
  exact ⟨rfl, HB.out⟩
theorem replacedT_any (T s b : ByteArray) (i j : Nat) (hT : s.extract 0 i ++ b ++ s.extract j s.size = T) (hs : s.size ≤ 60) (hb : b.size ≤ 60) (hi : i ≤ s.size) (hj : j ≤ s.size) (w : World) :
    Calls Try.prog 33 #[.string s, .int .i64 i, .int .i64 j, .string b] w fun e w' => e = .returned (.string T) ∧ Below w.heap.size w w' := by
  rw [← hT]; exact replaced_any s b i j hs hb hi hj w
set_option maxHeartbeats 800000 in
theorem specIns_any (s : ByteArray) (a : Int) (t : ByteArray) (hs : s.size ≤ maxLen) (ht : t.size ≤ maxLen) (w : World) :
    Calls Try.prog 16 #[.agg #[.string s, .int .i64 a], .string t] w fun e w' => e = .returned (insV s a t) ∧ Below w.heap.size w w' := by
  have H := Lib.hid hs
  have HT := Lib.hid ht
  unfold maxLen at hs ht
  by_cases h8 : (8000 : Int) < t.size
  · have HV := Lib.hid (show insV s a t = illV 2 by unfold insV; rw [if_pos (by omega)])
    go_enter Try.func16, Try.ntmps16
    go_wp2_with fail
    refine (ill_any _ _).mono ?_
    rintro e w1 ⟨rfl, hb1⟩
    obtain ⟨k1, k2⟩ := keepC hb1 (g := w.heap.size + 1) (by simp)
    have HB1 := Lib.hid (bthen (((Below.refl _ w).alloc (Nat.le_refl _) _).alloc (by simp) _) hb1 (by simp; omega))
    clear hb1
    go_wp2
    exact bodyPost_ret (v := illV 2) (by simp [results, Try.results16, go_sem, k1, illV]) rfl
      ⟨by rw [HV.out], by repeat (first | exact HB1.out | refine Below.setCell (B := w.heap.size) (p := ⟨w.heap.size + 1, _, none⟩) ?_ (by simp) _)⟩
  · cases hl : lineB s a
    · have HV := Lib.hid (show insV s a t = illV 1 by unfold insV; rw [if_neg (by omega), if_pos (.inl hl)])
      go_enter Try.func16, Try.ntmps16
      go_wp2_with fail
      refine (specLine_any _ _ H.out _).mono ?_
      rintro e w1 ⟨rfl, hb1⟩
      rw [hl]
      obtain ⟨k1, k2⟩ := keepC hb1 (g := w.heap.size + 1) (by simp)
      have hs1 : w.heap.size + 1 < w1.heap.size := by have := hb1.size; simp at this; omega
      have HB1 := Lib.hid (bthen (((Below.refl _ w).alloc (Nat.le_refl _) _).alloc (by simp) _) hb1 (by simp; omega))
      clear hb1
      go_wp2_with fail
      refine (ill_any _ _).mono ?_
      rintro e w2 ⟨rfl, hb2⟩
      obtain ⟨q1, q2⟩ := keepC hb2 (g := w.heap.size + 1) hs1
      have HB2 := Lib.hid (bthen HB1.out hb2 (by omega))
      clear hb2 HB1
      go_wp2
      exact bodyPost_ret (v := illV 1) (by simp [results, Try.results16, go_sem, q1, k1, illV]) rfl
        ⟨by rw [HV.out], by repeat (first | exact HB2.out | refine Below.setCell (B := w.heap.size) (p := ⟨w.heap.size + 1, _, none⟩) ?_ (by simp) _)⟩
    · cases hx : textB t
      · have HV := Lib.hid (show insV s a t = illV 1 by unfold insV; rw [if_neg (by omega), if_pos (.inr hx)])
        go_enter Try.func16, Try.ntmps16
        go_wp2_with fail
        refine (specLine_any _ _ H.out _).mono ?_
        rintro e w1 ⟨rfl, hb1⟩
        rw [hl]
        obtain ⟨k1, k2⟩ := keepC hb1 (g := w.heap.size + 1) (by simp)
        have hs1 : w.heap.size + 1 < w1.heap.size := by have := hb1.size; simp at this; omega
        have HB1 := Lib.hid (bthen (((Below.refl _ w).alloc (Nat.le_refl _) _).alloc (by simp) _) hb1 (by simp; omega))
        clear hb1
        go_wp2_with fail
        refine (specRight_any _ HT.out _).mono ?_
        rintro e wx ⟨rfl, rfl⟩
        rw [hx]
        go_wp2_with fail
        refine (ill_any _ _).mono ?_
        rintro e w2 ⟨rfl, hb2⟩
        obtain ⟨q1, q2⟩ := keepC hb2 (g := w.heap.size + 1) hs1
        have HB2 := Lib.hid (bthen HB1.out hb2 (by omega))
        clear hb2 HB1
        go_wp2
        exact bodyPost_ret (v := illV 1) (by simp [results, Try.results16, go_sem, q1, k1, illV]) rfl
          ⟨by rw [HV.out], by repeat (first | exact HB2.out | refine Below.setCell (B := w.heap.size) (p := ⟨w.heap.size + 1, _, none⟩) ?_ (by simp) _)⟩
      · obtain ⟨h6, hp, h0, hn⟩ := lineB_ok hl
        obtain ⟨k, rfl⟩ : ∃ k : Nat, a = k := ⟨a.toNat, by omega⟩
        have ht6 := (textB_ok hx).1
        have HV := Lib.hid (show insV s k t = _ by unfold insV; rw [if_neg (by omega), if_neg (by rw [hl, hx]; simp)])
        clear hp
        go_enter Try.func16, Try.ntmps16
        go_wp2_with fail
        refine (specLine_any _ _ H.out _).mono ?_
        rintro e w1 ⟨rfl, hb1⟩
        rw [hl]
        obtain ⟨k1, k2⟩ := keepC hb1 (g := w.heap.size + 1) (by simp)
        obtain ⟨k3, k4⟩ := keepC hb1 (g := w.heap.size) (by simp; omega)
        have hs1 : w.heap.size + 1 < w1.heap.size := by have := hb1.size; simp at this; omega
        have HB1 := Lib.hid (bthen (((Below.refl _ w).alloc (Nat.le_refl _) _).alloc (by simp) _) hb1 (by simp; omega))
        clear hb1
        go_wp2_with fail
        refine (specRight_any _ HT.out _).mono ?_
        rintro e wx ⟨rfl, rfl⟩
        rw [hx]
        go_wp2_with fail
        refine (specIns_in s k t h6 ht6 (by omega) _).mono ?_
        rintro e w2 ⟨rfl, hb2⟩
        obtain ⟨x1, x2, x3, x4, hX⟩ := insV_form s k t
        have HX := Lib.hid (HV.out.symm.trans hX)
        rw [show (if 60 < s.size + t.size then illV 9 else .agg #[.string (insT s t k), .int .i64 ((k : Int) + t.size), .string ⟨#[]⟩, .int .i64 0]) = _ from HX.out]
        have HZ := Lib.hid hX
        obtain ⟨q1, q2⟩ := keepC hb2 (g := w.heap.size + 1) hs1
        have HB2 := Lib.hid (bthen HB1.out hb2 (by omega))
        clear hb2 HB1 hX
        go_wp2
        exact bodyPost_ret (v := .agg #[.string x1, .int .i64 x2, .string x3, .int .i64 x4]) (by simp [results, Try.results16, go_sem, q1, k1]) rfl
          ⟨by rw [HZ.out], by repeat (first | exact HB2.out | refine Below.setCell (B := w.heap.size) (p := ⟨w.heap.size + 1, _, none⟩) ?_ (by simp) _)⟩
end Go.Proofs.Ytnnmcenmnmmfpaa.line
