/-
  Erase of the model: its answer, for every line and every two places that the row reads.
-/
import Derived.Test.YtnnmcenmnmmfpaaInsert
namespace Go.Proofs.Ytnnmcenmnmmfpaa.line
open Go.ChangeShapes Go.WideShapes Go.ChangeAt Go.RowKit
open Go.Proofs.Ytnnmcenmnmmfpaa.join
def newAt (a f t : Int) : Int := if t < a then a - (t - f) else if f < a then f else a
def eraT (s : ByteArray) (f t : Nat) : ByteArray := s.extract 0 f ++ s.extract t s.size
def eraOk (s : ByteArray) (k f t : Nat) : Value := .agg #[.string (eraT s f t), .int .i64 (newAt k f t), .string (s.extract f t), .int .i64 0]
noncomputable def eraV (s : ByteArray) (a f t : Int) : Value :=
  if lineB s a = false then illV 1
  else if 0 ≤ f ∧ f ≤ t ∧ t ≤ s.size then eraOk s a.toNat f.toNat t.toNat
  else illV 8
theorem eraV_form (s : ByteArray) (a f t : Int) : ∃ x i g c, eraV s a f t = .agg #[.string x, .int .i64 i, .string g, .int .i64 c] := by
  unfold eraV illV eraOk; split
  · exact ⟨_, _, _, _, rfl⟩
  · split <;> exact ⟨_, _, _, _, rfl⟩
set_option maxHeartbeats 1600000 in
theorem specEra_0 (s : ByteArray) (k f t : Nat) (hs : s.size ≤ 60) (hft : f ≤ t) (ht : t ≤ s.size) (hk : k ≤ s.size) (hc : (t : Int) < k) (w : World) :
    Calls Try.prog 35 #[.agg #[.string s, .int .i64 k], .int .i64 f, .int .i64 t] w fun e w' => e = .returned (eraOk s k f t) ∧ Below w.heap.size w w' := by
  have h1 : (t : Int) < k := hc
  have HN := Lib.hid (show newAt k f t = (k : Int) - ((t : Int) - f) by rw [newAt, if_pos h1])
  have e1 : (s.extract 0 f).size = f := by simp; omega
  have e2 : (s.extract t s.size).size = s.size - t := by simp
  go_enter Try.func35, Try.ntmps35
  go_wp2
  go_region
  go_wp2
  exact bodyPost_ret (v := .agg #[.string (eraT s f t), .int .i64 ((k : Int) - ((t : Int) - f)), .string (s.extract f t), .int .i64 0]) (by simp [results, Try.results35, go_sem, eraT]) rfl
    ⟨by rw [eraOk, HN.out], by repeat (first | exact ((Below.refl _ w).alloc (Nat.le_refl _) _).alloc (by simp) _ | refine Below.drew (B := w.heap.size) ?_ | refine Below.setCell (B := w.heap.size) (p := ⟨w.heap.size + 1, _, none⟩) ?_ (by simp) _)⟩
set_option maxHeartbeats 1600000 in
theorem specEra_1 (s : ByteArray) (k f t : Nat) (hs : s.size ≤ 60) (hft : f ≤ t) (ht : t ≤ s.size) (_ : k ≤ s.size) (hc : ¬ (t : Int) < k ∧ (f : Int) < k) (w : World) :
    Calls Try.prog 35 #[.agg #[.string s, .int .i64 k], .int .i64 f, .int .i64 t] w fun e w' => e = .returned (eraOk s k f t) ∧ Below w.heap.size w w' := by
  obtain ⟨h1, h2⟩ := hc
  have HN := Lib.hid (show newAt k f t = (f : Int) by rw [newAt, if_neg h1, if_pos h2])
  have e1 : (s.extract 0 f).size = f := by simp; omega
  have e2 : (s.extract t s.size).size = s.size - t := by simp
  go_enter Try.func35, Try.ntmps35
  go_wp2
  go_region
  go_wp2
  exact bodyPost_ret (v := .agg #[.string (eraT s f t), .int .i64 ((f : Int)), .string (s.extract f t), .int .i64 0]) (by simp [results, Try.results35, go_sem, eraT]) rfl
    ⟨by rw [eraOk, HN.out], by repeat (first | exact ((Below.refl _ w).alloc (Nat.le_refl _) _).alloc (by simp) _ | refine Below.drew (B := w.heap.size) ?_ | refine Below.setCell (B := w.heap.size) (p := ⟨w.heap.size + 1, _, none⟩) ?_ (by simp) _)⟩
set_option maxHeartbeats 1600000 in
theorem specEra_2 (s : ByteArray) (k f t : Nat) (hs : s.size ≤ 60) (hft : f ≤ t) (ht : t ≤ s.size) (_ : k ≤ s.size) (hc : ¬ (t : Int) < k ∧ ¬ (f : Int) < k) (w : World) :
    Calls Try.prog 35 #[.agg #[.string s, .int .i64 k], .int .i64 f, .int .i64 t] w fun e w' => e = .returned (eraOk s k f t) ∧ Below w.heap.size w w' := by
  obtain ⟨h1, h2⟩ := hc
  have HN := Lib.hid (show newAt k f t = (k : Int) by rw [newAt, if_neg h1, if_neg h2])
  have e1 : (s.extract 0 f).size = f := by simp; omega
  have e2 : (s.extract t s.size).size = s.size - t := by simp
  go_enter Try.func35, Try.ntmps35
  go_wp2
  go_region
  go_wp2
  exact bodyPost_ret (v := .agg #[.string (eraT s f t), .int .i64 ((k : Int)), .string (s.extract f t), .int .i64 0]) (by simp [results, Try.results35, go_sem, eraT]) rfl
    ⟨by rw [eraOk, HN.out], by repeat (first | exact ((Below.refl _ w).alloc (Nat.le_refl _) _).alloc (by simp) _ | refine Below.drew (B := w.heap.size) ?_ | refine Below.setCell (B := w.heap.size) (p := ⟨w.heap.size + 1, _, none⟩) ?_ (by simp) _)⟩
theorem specEra_in (s : ByteArray) (k f t : Nat) (hs : s.size ≤ 60) (hft : f ≤ t) (ht : t ≤ s.size) (hk : k ≤ s.size) (w : World) :
    Calls Try.prog 35 #[.agg #[.string s, .int .i64 k], .int .i64 f, .int .i64 t] w fun e w' => e = .returned (eraOk s k f t) ∧ Below w.heap.size w w' := by
  by_cases h1 : (t : Int) < k
  · exact specEra_0 s k f t hs hft ht hk h1 w
  · by_cases h2 : (f : Int) < k
    · exact specEra_1 s k f t hs hft ht hk ⟨h1, h2⟩ w
    · exact specEra_2 s k f t hs hft ht hk ⟨h1, h2⟩ w
set_option maxHeartbeats 1600000 in
theorem specEra_any (s : ByteArray) (a f t : Int) (hs : s.size ≤ maxLen) (w : World) :
    Calls Try.prog 19 #[.agg #[.string s, .int .i64 a], .int .i64 f, .int .i64 t] w fun e w' => e = .returned (eraV s a f t) ∧ Below w.heap.size w w' := by
  have H := Lib.hid hs
  unfold maxLen at hs
  cases hl : lineB s a
  · have HV := Lib.hid (show eraV s a f t = illV 1 by unfold eraV; rw [if_pos hl])
    go_enter Try.func19, Try.ntmps19
    go_wp2_with fail
    refine (specLine_any _ _ H.out _).mono ?_
    rintro e w1 ⟨rfl, hb1⟩
    rw [hl]
    obtain ⟨k1, k2⟩ := keepC hb1 (g := w.heap.size + 1) (by simp)
    obtain ⟨k3, _⟩ := keepC hb1 (g := w.heap.size) (by simp; omega)
    have hs1 : w.heap.size + 1 < w1.heap.size := by have := hb1.size; simp at this; omega
    have HB1 := Lib.hid (bthen (((Below.refl _ w).alloc (Nat.le_refl _) _).alloc (by simp) _) hb1 (by simp; omega))
    clear hb1
    go_wp2_with fail
    refine (ill_any _ _).mono ?_
    rintro e w2 ⟨rfl, hb2⟩
    obtain ⟨q1, q2⟩ := keepC hb2 (g := w.heap.size + 1) hs1
    have HB2 := Lib.hid (bthen HB1.out hb2 (by omega))
    clear hb2 HB1
    go_wp2
    exact bodyPost_ret (v := illV 1) (by simp [results, Try.results19, go_sem, q1, k1, illV]) rfl
      ⟨by rw [HV.out], by repeat (first | exact HB2.out | refine Below.drew (B := w.heap.size) ?_ | refine Below.setCell (B := w.heap.size) (p := ⟨w.heap.size + 1, _, none⟩) ?_ (by simp) _)⟩
  · obtain ⟨h6, hp, h0, hn⟩ := lineB_ok hl
    obtain ⟨k, rfl⟩ : ∃ k : Nat, a = k := ⟨a.toNat, by omega⟩
    clear hp
    by_cases hf : 0 ≤ f ∧ f ≤ s.size
    · have e1 : (decide (0 ≤ f) && decide (f ≤ (s.size : Int))) = true := by simp [hf.1, hf.2]
      have E1 := Lib.hid e1
      clear e1
      by_cases ht : f ≤ t ∧ t ≤ s.size
      · have e2 : (decide (f ≤ t) && decide (t ≤ (s.size : Int))) = true := by simp [ht.1, ht.2]
        have E2 := Lib.hid e2
        clear e2
        have HV := Lib.hid (show eraV s k f t = eraOk s k f.toNat t.toNat by unfold eraV; rw [if_neg (by rw [hl]; simp), if_pos ⟨hf.1, ht.1, ht.2⟩]; rfl)
        obtain ⟨F, rfl⟩ : ∃ F : Nat, f = F := ⟨f.toNat, by omega⟩
        obtain ⟨T, rfl⟩ : ∃ T : Nat, t = T := ⟨t.toNat, by omega⟩
        obtain ⟨f1, f2⟩ := hf
        obtain ⟨t1, t2⟩ := ht
        go_enter Try.func19, Try.ntmps19
        go_wp2_with fail
        refine (specLine_any _ _ H.out _).mono ?_
        rintro e w1 ⟨rfl, hb1⟩
        rw [hl]
        obtain ⟨k1, k2⟩ := keepC hb1 (g := w.heap.size + 1) (by simp)
        obtain ⟨k3, _⟩ := keepC hb1 (g := w.heap.size) (by simp; omega)
        have hs1 : w.heap.size + 1 < w1.heap.size := by have := hb1.size; simp at this; omega
        have HB1 := Lib.hid (bthen (((Below.refl _ w).alloc (Nat.le_refl _) _).alloc (by simp) _) hb1 (by simp; omega))
        clear hb1
        go_wp2_with fail
        refine (is_any _ _ _ _).mono ?_
        rintro e wx ⟨rfl, rfl⟩
        rw [E1.out]
        go_wp2_with fail
        refine (is_any _ _ _ _).mono ?_
        rintro e wx ⟨rfl, rfl⟩
        rw [E2.out]
        go_wp2_with fail
        refine (specEra_in s k F T h6 (by omega) (by omega) (by omega) _).mono ?_
        rintro e w2 ⟨rfl, hb2⟩
        obtain ⟨q1, q2⟩ := keepC hb2 (g := w.heap.size + 1) hs1
        have HB2 := Lib.hid (bthen HB1.out hb2 (by omega))
        clear hb2 HB1
        unfold eraOk
        obtain ⟨X, hX⟩ : ∃ X, X = eraT s F T := ⟨_, rfl⟩
        obtain ⟨Y, hY⟩ : ∃ Y, Y = s.extract F T := ⟨_, rfl⟩
        obtain ⟨Z, hZ⟩ : ∃ Z, Z = newAt k F T := ⟨_, rfl⟩
        rw [← hX, ← hY, ← hZ]
        have HX := Lib.hid hX
        have HY := Lib.hid hY
        have HZ := Lib.hid hZ
        clear hX hY hZ
        go_wp2
        exact bodyPost_ret (v := .agg #[.string X, .int .i64 Z, .string Y, .int .i64 0]) (by simp [results, Try.results19, go_sem, q1, k1]) rfl
          ⟨by rw [HV.out, HX.out, HY.out, HZ.out]; rfl, by repeat (first | exact HB2.out | refine Below.drew (B := w.heap.size) ?_ | refine Below.setCell (B := w.heap.size) (p := ⟨w.heap.size + 1, _, none⟩) ?_ (by simp) _)⟩
      · have e2 : (decide (f ≤ t) && decide (t ≤ (s.size : Int))) = false := by
          apply Bool.eq_false_iff.2; simpa using fun x => Int.lt_of_not_ge fun y => ht ⟨x, y⟩
        have E2 := Lib.hid e2
        have HV := Lib.hid (show eraV s k f t = illV 8 by unfold eraV; rw [if_neg (by rw [hl]; simp), if_neg (fun x => ht ⟨x.2.1, x.2.2⟩)])
        clear e2 ht
        go_enter Try.func19, Try.ntmps19
        go_wp2_with fail
        refine (specLine_any _ _ H.out _).mono ?_
        rintro e w1 ⟨rfl, hb1⟩
        rw [hl]
        obtain ⟨k1, k2⟩ := keepC hb1 (g := w.heap.size + 1) (by simp)
        obtain ⟨k3, _⟩ := keepC hb1 (g := w.heap.size) (by simp; omega)
        have hs1 : w.heap.size + 1 < w1.heap.size := by have := hb1.size; simp at this; omega
        have HB1 := Lib.hid (bthen (((Below.refl _ w).alloc (Nat.le_refl _) _).alloc (by simp) _) hb1 (by simp; omega))
        clear hb1
        go_wp2_with fail
        refine (is_any _ _ _ _).mono ?_
        rintro e wx ⟨rfl, rfl⟩
        rw [E1.out]
        go_wp2_with fail
        refine (is_any _ _ _ _).mono ?_
        rintro e wx ⟨rfl, rfl⟩
        rw [E2.out]
        go_wp2_with fail
        refine (ill_any _ _).mono ?_
        rintro e w2 ⟨rfl, hb2⟩
        obtain ⟨q1, q2⟩ := keepC hb2 (g := w.heap.size + 1) hs1
        have HB2 := Lib.hid (bthen HB1.out hb2 (by omega))
        clear hb2 HB1
        go_wp2
        exact bodyPost_ret (v := illV 8) (by simp [results, Try.results19, go_sem, q1, k1, illV]) rfl
          ⟨by rw [HV.out], by repeat (first | exact HB2.out | refine Below.drew (B := w.heap.size) ?_ | refine Below.setCell (B := w.heap.size) (p := ⟨w.heap.size + 1, _, none⟩) ?_ (by simp) _)⟩
    · have e1 : (decide (0 ≤ f) && decide (f ≤ (s.size : Int))) = false := by
        apply Bool.eq_false_iff.2; simpa using fun x => Int.lt_of_not_ge fun y => hf ⟨x, y⟩
      have E1 := Lib.hid e1
      have HV := Lib.hid (show eraV s k f t = illV 8 by unfold eraV; rw [if_neg (by rw [hl]; simp), if_neg (fun x => hf ⟨x.1, Int.le_trans x.2.1 x.2.2⟩)])
      clear e1 hf
      go_enter Try.func19, Try.ntmps19
      go_wp2_with fail
      refine (specLine_any _ _ H.out _).mono ?_
      rintro e w1 ⟨rfl, hb1⟩
      rw [hl]
      obtain ⟨k1, k2⟩ := keepC hb1 (g := w.heap.size + 1) (by simp)
      obtain ⟨k3, _⟩ := keepC hb1 (g := w.heap.size) (by simp; omega)
      have hs1 : w.heap.size + 1 < w1.heap.size := by have := hb1.size; simp at this; omega
      have HB1 := Lib.hid (bthen (((Below.refl _ w).alloc (Nat.le_refl _) _).alloc (by simp) _) hb1 (by simp; omega))
      clear hb1
      go_wp2_with fail
      refine (is_any _ _ _ _).mono ?_
      rintro e wx ⟨rfl, rfl⟩
      rw [E1.out]
      go_wp2_with fail
      refine (ill_any _ _).mono ?_
      rintro e w2 ⟨rfl, hb2⟩
      obtain ⟨q1, q2⟩ := keepC hb2 (g := w.heap.size + 1) hs1
      have HB2 := Lib.hid (bthen HB1.out hb2 (by omega))
      clear hb2 HB1
      go_wp2
      exact bodyPost_ret (v := illV 8) (by simp [results, Try.results19, go_sem, q1, k1, illV]) rfl
        ⟨by rw [HV.out], by repeat (first | exact HB2.out | refine Below.drew (B := w.heap.size) ?_ | refine Below.setCell (B := w.heap.size) (p := ⟨w.heap.size + 1, _, none⟩) ?_ (by simp) _)⟩
end Go.Proofs.Ytnnmcenmnmmfpaa.line
