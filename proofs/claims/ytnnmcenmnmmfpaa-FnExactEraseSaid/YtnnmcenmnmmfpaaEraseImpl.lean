/-
  Erase of the program: its answer, for every line and every two places that the row reads.
-/
import Derived.Test.YtnnmcenmnmmfpaaErase
import Derived.Test.YtnnmcenmnmmfpaaInsertImpl
import Derived.Test.YtnnmcenmnmmfpaaShelf
namespace Go.Proofs.Ytnnmcenmnmmfpaa.line
open Go.ChangeShapes Go.WideShapes Go.ChangeAt Go.RowKit
open Go.Proofs.Ytnnmcenmnmmfpaa.join
theorem clone_any (s : ByteArray) (hs : s.size ≤ 1000000) (w : World) :
    Calls Try.prog 36 #[.string s] w fun e w' => e = .returned (.string s) ∧ Below w.heap.size w w' := by
  go_enter Try.func36, Try.ntmps36
  go_wp2_with fail
  refine (Try.stringslite_Clone s _ (by omega)).mono ?_
  rintro e w1 ⟨rfl, hb1⟩
  go_wp2
  go_ret
  exact ⟨rfl, hb1⟩
theorem eraT_eq (s : ByteArray) (f t : Nat) : s.extract 0 f ++ ⟨#[]⟩ ++ s.extract t s.size = eraT s f t := by
  unfold eraT
  congr 1
  apply ByteArray.ext
  simp
set_option maxHeartbeats 2000000 in
theorem implEra_0 (s : ByteArray) (k f t : Nat) (h6 : s.size ≤ 60) (hft : f ≤ t) (ht : t ≤ s.size) (hk : k ≤ s.size) (hl : lineB s k = true) (hc : (t : Int) < k) (w : World) :
    Calls Try.prog 20 #[.agg #[.string s, .int .i64 k], .int .i64 f, .int .i64 t] w fun e w' => e = .returned (eraOk s k f t) ∧ Below w.heap.size w w' := by
  have H := Lib.hid (show s.size ≤ maxLen by unfold maxLen; omega)
  have h1 : (t : Int) < k := hc
  have HN := Lib.hid (show newAt k f t = (k : Int) - ((t : Int) - f) by rw [newAt, if_pos h1])
  have E1 := Lib.hid (show (decide (0 ≤ (f : Int)) && decide ((f : Int) ≤ (s.size : Int))) = true by simp; omega)
  have E2 := Lib.hid (show (decide (0 ≤ (t : Int)) && decide ((t : Int) ≤ (s.size : Int))) = true by simp; omega)
  have e3 : (s.extract f t).size ≤ 60 := by simp; omega
  have hwr : IntKind.i64.wrap ((k : Int) - ((t : Int) - f)) = (k : Int) - ((t : Int) - f) := IntWalk.i64_in _ (by omega)
  have HT := Lib.hid (eraT_eq s f t)
  go_enter Try.func20, Try.ntmps20
  go_wp2_with fail
  refine (implLine_any _ _ H.out _).mono ?_
  rintro e w1 ⟨rfl, hb1⟩
  rw [hl]
  obtain ⟨k1, k2⟩ := keepC hb1 (g := w.heap.size + 1) (by simp)
  obtain ⟨k3, _⟩ := keepC hb1 (g := w.heap.size) (by simp; omega)
  have hs1 : w.heap.size + 1 < w1.heap.size := by have := hb1.size; simp at this; omega
  have HB1 := Lib.hid (bthen (((Below.refl _ w).alloc (Nat.le_refl _) _).alloc (by simp) _) hb1 (by simp; omega))
  clear hb1
  go_wp2_with fail
  refine (held_any _ _ _).mono ?_
  rintro e w2 ⟨rfl, hb2⟩
  obtain ⟨q1, q2⟩ := keepC hb2 (g := w.heap.size + 1) hs1
  obtain ⟨q3, _⟩ := keepC hb2 (g := w.heap.size) (by omega)
  have hs2 : w.heap.size + 1 < w2.heap.size := by have := hb2.size; omega
  have hs2' : w.heap.size + 1 ≠ w2.heap.size := by omega
  have hs2'' : w.heap.size < w2.heap.size := by omega
  have HB2 := Lib.hid (bthen HB1.out hb2 (by omega))
  clear hb2 HB1
  go_wp2_with fail
  refine (hasPlace_any _ _ H.out _).mono ?_
  rintro e wx ⟨rfl, rfl⟩
  rw [E1.out]
  go_wp2_with fail
  refine (hasPlace_any _ _ H.out _).mono ?_
  rintro e wx ⟨rfl, rfl⟩
  rw [E2.out]
  go_wp2_with fail
  refine (clone_any (s.extract f t) (by omega) _).mono ?_
  rintro e w3 ⟨rfl, hb3⟩
  obtain ⟨r1, r2⟩ := keepC hb3 (g := w.heap.size + 1) (by simp; omega)
  obtain ⟨r3, _⟩ := keepC hb3 (g := w2.heap.size) (by simp)
  have hs3 : w.heap.size + 1 < w3.heap.size := by have := hb3.size; simp at this; omega
  have hs3' : w2.heap.size < w3.heap.size := by have := hb3.size; simp at this; omega
  have HB3 := Lib.hid (bthen (HB2.out.alloc (by omega) _) hb3 (by simp; omega))
  clear hb3 HB2
  go_wp2_with fail
  refine (replacedT_any (eraT s f t) s ⟨#[]⟩ f t HT.out h6 (by simp [ByteArray.size]) (by omega) (by omega) _).mono ?_
  rintro e w4 ⟨rfl, hb4⟩
  obtain ⟨p1, p2⟩ := keepC hb4 (g := w.heap.size + 1) hs3
  have HB4 := Lib.hid (bthen HB3.out hb4 (by omega))
  clear hb4 HB3
  obtain ⟨X, hX⟩ : ∃ X, X = eraT s f t := ⟨_, rfl⟩
  obtain ⟨Y, hY⟩ : ∃ Y, Y = s.extract f t := ⟨_, rfl⟩
  rw [← hX, ← hY]
  have HX := Lib.hid hX
  have HY := Lib.hid hY
  clear hX hY
  go_wp2
  exact bodyPost_ret (v := .agg #[.string X, .int .i64 ((k : Int) - ((t : Int) - f)), .string Y, .int .i64 0]) (by simp [results, Try.results20, go_sem, p1, r1, q1, k1, hs2]) rfl
    ⟨by rw [eraOk, HN.out, HX.out, HY.out], by repeat (first | exact HB4.out | refine Below.drew (B := w.heap.size) ?_ | refine Below.setCell (B := w.heap.size) (p := ⟨w.heap.size + 1, _, none⟩) ?_ (by simp) _)⟩
set_option maxHeartbeats 2000000 in
theorem implEra_1 (s : ByteArray) (k f t : Nat) (h6 : s.size ≤ 60) (hft : f ≤ t) (ht : t ≤ s.size) (hk : k ≤ s.size) (hl : lineB s k = true) (hc : ¬ (t : Int) < k ∧ (f : Int) < k) (w : World) :
    Calls Try.prog 20 #[.agg #[.string s, .int .i64 k], .int .i64 f, .int .i64 t] w fun e w' => e = .returned (eraOk s k f t) ∧ Below w.heap.size w w' := by
  have H := Lib.hid (show s.size ≤ maxLen by unfold maxLen; omega)
  obtain ⟨h1, h2⟩ := hc
  have HN := Lib.hid (show newAt k f t = (f : Int) by rw [newAt, if_neg h1, if_pos h2])
  have E1 := Lib.hid (show (decide (0 ≤ (f : Int)) && decide ((f : Int) ≤ (s.size : Int))) = true by simp; omega)
  have E2 := Lib.hid (show (decide (0 ≤ (t : Int)) && decide ((t : Int) ≤ (s.size : Int))) = true by simp; omega)
  have e3 : (s.extract f t).size ≤ 60 := by simp; omega
  have hwr : IntKind.i64.wrap ((k : Int) - ((t : Int) - f)) = (k : Int) - ((t : Int) - f) := IntWalk.i64_in _ (by omega)
  have HT := Lib.hid (eraT_eq s f t)
  go_enter Try.func20, Try.ntmps20
  go_wp2_with fail
  refine (implLine_any _ _ H.out _).mono ?_
  rintro e w1 ⟨rfl, hb1⟩
  rw [hl]
  obtain ⟨k1, k2⟩ := keepC hb1 (g := w.heap.size + 1) (by simp)
  obtain ⟨k3, _⟩ := keepC hb1 (g := w.heap.size) (by simp; omega)
  have hs1 : w.heap.size + 1 < w1.heap.size := by have := hb1.size; simp at this; omega
  have HB1 := Lib.hid (bthen (((Below.refl _ w).alloc (Nat.le_refl _) _).alloc (by simp) _) hb1 (by simp; omega))
  clear hb1
  go_wp2_with fail
  refine (held_any _ _ _).mono ?_
  rintro e w2 ⟨rfl, hb2⟩
  obtain ⟨q1, q2⟩ := keepC hb2 (g := w.heap.size + 1) hs1
  obtain ⟨q3, _⟩ := keepC hb2 (g := w.heap.size) (by omega)
  have hs2 : w.heap.size + 1 < w2.heap.size := by have := hb2.size; omega
  have hs2' : w.heap.size + 1 ≠ w2.heap.size := by omega
  have hs2'' : w.heap.size < w2.heap.size := by omega
  have HB2 := Lib.hid (bthen HB1.out hb2 (by omega))
  clear hb2 HB1
  go_wp2_with fail
  refine (hasPlace_any _ _ H.out _).mono ?_
  rintro e wx ⟨rfl, rfl⟩
  rw [E1.out]
  go_wp2_with fail
  refine (hasPlace_any _ _ H.out _).mono ?_
  rintro e wx ⟨rfl, rfl⟩
  rw [E2.out]
  go_wp2_with fail
  refine (clone_any (s.extract f t) (by omega) _).mono ?_
  rintro e w3 ⟨rfl, hb3⟩
  obtain ⟨r1, r2⟩ := keepC hb3 (g := w.heap.size + 1) (by simp; omega)
  obtain ⟨r3, _⟩ := keepC hb3 (g := w2.heap.size) (by simp)
  have hs3 : w.heap.size + 1 < w3.heap.size := by have := hb3.size; simp at this; omega
  have hs3' : w2.heap.size < w3.heap.size := by have := hb3.size; simp at this; omega
  have HB3 := Lib.hid (bthen (HB2.out.alloc (by omega) _) hb3 (by simp; omega))
  clear hb3 HB2
  go_wp2_with fail
  refine (replacedT_any (eraT s f t) s ⟨#[]⟩ f t HT.out h6 (by simp [ByteArray.size]) (by omega) (by omega) _).mono ?_
  rintro e w4 ⟨rfl, hb4⟩
  obtain ⟨p1, p2⟩ := keepC hb4 (g := w.heap.size + 1) hs3
  have HB4 := Lib.hid (bthen HB3.out hb4 (by omega))
  clear hb4 HB3
  obtain ⟨X, hX⟩ : ∃ X, X = eraT s f t := ⟨_, rfl⟩
  obtain ⟨Y, hY⟩ : ∃ Y, Y = s.extract f t := ⟨_, rfl⟩
  rw [← hX, ← hY]
  have HX := Lib.hid hX
  have HY := Lib.hid hY
  clear hX hY
  go_wp2
  exact bodyPost_ret (v := .agg #[.string X, .int .i64 ((f : Int)), .string Y, .int .i64 0]) (by simp [results, Try.results20, go_sem, p1, r1, q1, k1, hs2]) rfl
    ⟨by rw [eraOk, HN.out, HX.out, HY.out], by repeat (first | exact HB4.out | refine Below.drew (B := w.heap.size) ?_ | refine Below.setCell (B := w.heap.size) (p := ⟨w.heap.size + 1, _, none⟩) ?_ (by simp) _)⟩
set_option maxHeartbeats 2000000 in
theorem implEra_2 (s : ByteArray) (k f t : Nat) (h6 : s.size ≤ 60) (hft : f ≤ t) (ht : t ≤ s.size) (hk : k ≤ s.size) (hl : lineB s k = true) (hc : ¬ (t : Int) < k ∧ ¬ (f : Int) < k) (w : World) :
    Calls Try.prog 20 #[.agg #[.string s, .int .i64 k], .int .i64 f, .int .i64 t] w fun e w' => e = .returned (eraOk s k f t) ∧ Below w.heap.size w w' := by
  have H := Lib.hid (show s.size ≤ maxLen by unfold maxLen; omega)
  obtain ⟨h1, h2⟩ := hc
  have HN := Lib.hid (show newAt k f t = (k : Int) by rw [newAt, if_neg h1, if_neg h2])
  have E1 := Lib.hid (show (decide (0 ≤ (f : Int)) && decide ((f : Int) ≤ (s.size : Int))) = true by simp; omega)
  have E2 := Lib.hid (show (decide (0 ≤ (t : Int)) && decide ((t : Int) ≤ (s.size : Int))) = true by simp; omega)
  have e3 : (s.extract f t).size ≤ 60 := by simp; omega
  have hwr : IntKind.i64.wrap ((k : Int) - ((t : Int) - f)) = (k : Int) - ((t : Int) - f) := IntWalk.i64_in _ (by omega)
  have HT := Lib.hid (eraT_eq s f t)
  go_enter Try.func20, Try.ntmps20
  go_wp2_with fail
  refine (implLine_any _ _ H.out _).mono ?_
  rintro e w1 ⟨rfl, hb1⟩
  rw [hl]
  obtain ⟨k1, k2⟩ := keepC hb1 (g := w.heap.size + 1) (by simp)
  obtain ⟨k3, _⟩ := keepC hb1 (g := w.heap.size) (by simp; omega)
  have hs1 : w.heap.size + 1 < w1.heap.size := by have := hb1.size; simp at this; omega
  have HB1 := Lib.hid (bthen (((Below.refl _ w).alloc (Nat.le_refl _) _).alloc (by simp) _) hb1 (by simp; omega))
  clear hb1
  go_wp2_with fail
  refine (held_any _ _ _).mono ?_
  rintro e w2 ⟨rfl, hb2⟩
  obtain ⟨q1, q2⟩ := keepC hb2 (g := w.heap.size + 1) hs1
  obtain ⟨q3, _⟩ := keepC hb2 (g := w.heap.size) (by omega)
  have hs2 : w.heap.size + 1 < w2.heap.size := by have := hb2.size; omega
  have hs2' : w.heap.size + 1 ≠ w2.heap.size := by omega
  have hs2'' : w.heap.size < w2.heap.size := by omega
  have HB2 := Lib.hid (bthen HB1.out hb2 (by omega))
  clear hb2 HB1
  go_wp2_with fail
  refine (hasPlace_any _ _ H.out _).mono ?_
  rintro e wx ⟨rfl, rfl⟩
  rw [E1.out]
  go_wp2_with fail
  refine (hasPlace_any _ _ H.out _).mono ?_
  rintro e wx ⟨rfl, rfl⟩
  rw [E2.out]
  go_wp2_with fail
  refine (clone_any (s.extract f t) (by omega) _).mono ?_
  rintro e w3 ⟨rfl, hb3⟩
  obtain ⟨r1, r2⟩ := keepC hb3 (g := w.heap.size + 1) (by simp; omega)
  obtain ⟨r3, _⟩ := keepC hb3 (g := w2.heap.size) (by simp)
  have hs3 : w.heap.size + 1 < w3.heap.size := by have := hb3.size; simp at this; omega
  have hs3' : w2.heap.size < w3.heap.size := by have := hb3.size; simp at this; omega
  have HB3 := Lib.hid (bthen (HB2.out.alloc (by omega) _) hb3 (by simp; omega))
  clear hb3 HB2
  go_wp2_with fail
  refine (replacedT_any (eraT s f t) s ⟨#[]⟩ f t HT.out h6 (by simp [ByteArray.size]) (by omega) (by omega) _).mono ?_
  rintro e w4 ⟨rfl, hb4⟩
  obtain ⟨p1, p2⟩ := keepC hb4 (g := w.heap.size + 1) hs3
  have HB4 := Lib.hid (bthen HB3.out hb4 (by omega))
  clear hb4 HB3
  obtain ⟨X, hX⟩ : ∃ X, X = eraT s f t := ⟨_, rfl⟩
  obtain ⟨Y, hY⟩ : ∃ Y, Y = s.extract f t := ⟨_, rfl⟩
  rw [← hX, ← hY]
  have HX := Lib.hid hX
  have HY := Lib.hid hY
  clear hX hY
  go_wp2
  exact bodyPost_ret (v := .agg #[.string X, .int .i64 ((k : Int)), .string Y, .int .i64 0]) (by simp [results, Try.results20, go_sem, p1, r1, q1, k1, hs2]) rfl
    ⟨by rw [eraOk, HN.out, HX.out, HY.out], by repeat (first | exact HB4.out | refine Below.drew (B := w.heap.size) ?_ | refine Below.setCell (B := w.heap.size) (p := ⟨w.heap.size + 1, _, none⟩) ?_ (by simp) _)⟩
set_option maxHeartbeats 1600000 in
theorem implEra_any (s : ByteArray) (a f t : Int) (hs : s.size ≤ maxLen) (w : World) :
    Calls Try.prog 20 #[.agg #[.string s, .int .i64 a], .int .i64 f, .int .i64 t] w fun e w' => e = .returned (eraV s a f t) ∧ Below w.heap.size w w' := by
  have H := Lib.hid hs
  unfold maxLen at hs
  cases hl : lineB s a
  · have HV := Lib.hid (show eraV s a f t = illV 1 by unfold eraV; rw [if_pos hl])
    go_enter Try.func20, Try.ntmps20
    go_wp2_with fail
    refine (implLine_any _ _ H.out _).mono ?_
    rintro e w1 ⟨rfl, hb1⟩
    rw [hl]
    obtain ⟨k1, k2⟩ := keepC hb1 (g := w.heap.size + 1) (by simp)
    obtain ⟨k3, _⟩ := keepC hb1 (g := w.heap.size) (by simp; omega)
    have hs1 : w.heap.size + 1 < w1.heap.size := by have := hb1.size; simp at this; omega
    have HB1 := Lib.hid (bthen (((Below.refl _ w).alloc (Nat.le_refl _) _).alloc (by simp) _) hb1 (by simp; omega))
    clear hb1
    go_wp2
    exact bodyPost_ret (v := illV 1) (by simp [results, Try.results20, go_sem, k1, illV]) rfl
      ⟨by rw [HV.out], by repeat (first | exact HB1.out | refine Below.drew (B := w.heap.size) ?_ | refine Below.setCell (B := w.heap.size) (p := ⟨w.heap.size + 1, _, none⟩) ?_ (by simp) _)⟩
  · obtain ⟨h6, hp, h0, hn⟩ := lineB_ok hl
    obtain ⟨k, rfl⟩ : ∃ k : Nat, a = k := ⟨a.toNat, by omega⟩
    clear hp
    by_cases hf : 0 ≤ f ∧ f ≤ s.size
    · have e1 : (decide (0 ≤ f) && decide (f ≤ (s.size : Int))) = true := by simp [hf.1, hf.2]
      have E1 := Lib.hid e1
      clear e1
      by_cases ht : 0 ≤ t ∧ t ≤ s.size
      · have e2 : (decide (0 ≤ t) && decide (t ≤ (s.size : Int))) = true := by simp [ht.1, ht.2]
        have E2 := Lib.hid e2
        clear e2
        by_cases hft : t < f
        · have HV := Lib.hid (show eraV s k f t = illV 8 by unfold eraV; rw [if_neg (by rw [hl]; simp), if_neg (by omega)])
          clear hf ht
          go_enter Try.func20, Try.ntmps20
          go_wp2_with fail
          refine (implLine_any _ _ H.out _).mono ?_
          rintro e w1 ⟨rfl, hb1⟩
          rw [hl]
          obtain ⟨k1, k2⟩ := keepC hb1 (g := w.heap.size + 1) (by simp)
          obtain ⟨k3, _⟩ := keepC hb1 (g := w.heap.size) (by simp; omega)
          have hs1 : w.heap.size + 1 < w1.heap.size := by have := hb1.size; simp at this; omega
          have HB1 := Lib.hid (bthen (((Below.refl _ w).alloc (Nat.le_refl _) _).alloc (by simp) _) hb1 (by simp; omega))
          clear hb1
          go_wp2_with fail
          refine (held_any _ _ _).mono ?_
          rintro e w2 ⟨rfl, hb2⟩
          obtain ⟨q1, q2⟩ := keepC hb2 (g := w.heap.size + 1) hs1
          obtain ⟨q3, _⟩ := keepC hb2 (g := w.heap.size) (by omega)
          have hs2 : w.heap.size + 1 < w2.heap.size := by have := hb2.size; omega
          have hs2' : w.heap.size + 1 ≠ w2.heap.size := by omega
          have hs2'' : w.heap.size < w2.heap.size := by omega
          have HB2 := Lib.hid (bthen HB1.out hb2 (by omega))
          clear hb2 HB1
          go_wp2_with fail
          refine (hasPlace_any _ _ H.out _).mono ?_
          rintro e wx ⟨rfl, rfl⟩
          rw [E1.out]
          go_wp2_with fail
          refine (hasPlace_any _ _ H.out _).mono ?_
          rintro e wx ⟨rfl, rfl⟩
          rw [E2.out]
          go_wp2
          exact bodyPost_ret (v := illV 8) (by simp [results, Try.results20, go_sem, q1, k1, illV, hs2]) rfl
            ⟨by rw [HV.out], by repeat (first | exact HB2.out | refine Below.alloc (B := w.heap.size) ?_ (by first | omega | (simp [World.setCell]; omega)) _ | refine Below.setCell (B := w.heap.size) (p := ⟨w.heap.size + 1, _, none⟩) ?_ (by simp) _)⟩
        · have hv : eraV s k f t = eraOk s k f.toNat t.toNat := by unfold eraV; rw [if_neg (by rw [hl]; simp), if_pos ⟨hf.1, by omega, ht.2⟩]; rfl
          rw [hv]
          obtain ⟨F, rfl⟩ : ∃ F : Nat, f = F := ⟨f.toNat, by omega⟩
          obtain ⟨T, rfl⟩ : ∃ T : Nat, t = T := ⟨t.toNat, by omega⟩
          by_cases g1 : (T : Int) < k
          · exact implEra_0 s k F T h6 (by omega) (by omega) (by omega) hl g1 w
          · by_cases g2 : (F : Int) < k
            · exact implEra_1 s k F T h6 (by omega) (by omega) (by omega) hl ⟨g1, g2⟩ w
            · exact implEra_2 s k F T h6 (by omega) (by omega) (by omega) hl ⟨g1, g2⟩ w
      · have e2 : (decide (0 ≤ t) && decide (t ≤ (s.size : Int))) = false := by
          apply Bool.eq_false_iff.2; simpa using fun x => Int.lt_of_not_ge fun y => ht ⟨x, y⟩
        have E2 := Lib.hid e2
        have HV := Lib.hid (show eraV s k f t = illV 8 by unfold eraV; rw [if_neg (by rw [hl]; simp), if_neg (fun x => ht ⟨Int.le_trans x.1 x.2.1, x.2.2⟩)])
        clear e2 ht hf
        go_enter Try.func20, Try.ntmps20
        go_wp2_with fail
        refine (implLine_any _ _ H.out _).mono ?_
        rintro e w1 ⟨rfl, hb1⟩
        rw [hl]
        obtain ⟨k1, k2⟩ := keepC hb1 (g := w.heap.size + 1) (by simp)
        obtain ⟨k3, _⟩ := keepC hb1 (g := w.heap.size) (by simp; omega)
        have hs1 : w.heap.size + 1 < w1.heap.size := by have := hb1.size; simp at this; omega
        have HB1 := Lib.hid (bthen (((Below.refl _ w).alloc (Nat.le_refl _) _).alloc (by simp) _) hb1 (by simp; omega))
        clear hb1
        go_wp2_with fail
        refine (held_any _ _ _).mono ?_
        rintro e w2 ⟨rfl, hb2⟩
        obtain ⟨q1, q2⟩ := keepC hb2 (g := w.heap.size + 1) hs1
        obtain ⟨q3, _⟩ := keepC hb2 (g := w.heap.size) (by omega)
        have hs2 : w.heap.size + 1 < w2.heap.size := by have := hb2.size; omega
        have hs2' : w.heap.size + 1 ≠ w2.heap.size := by omega
        have hs2'' : w.heap.size < w2.heap.size := by omega
        have HB2 := Lib.hid (bthen HB1.out hb2 (by omega))
        clear hb2 HB1
        go_wp2_with fail
        refine (hasPlace_any _ _ H.out _).mono ?_
        rintro e wx ⟨rfl, rfl⟩
        rw [E1.out]
        go_wp2_with fail
        refine (hasPlace_any _ _ H.out _).mono ?_
        rintro e wx ⟨rfl, rfl⟩
        rw [E2.out]
        go_wp2
        exact bodyPost_ret (v := illV 8) (by simp [results, Try.results20, go_sem, q1, k1, illV, hs2]) rfl
          ⟨by rw [HV.out], by repeat (first | exact HB2.out | refine Below.alloc (B := w.heap.size) ?_ (by first | omega | (simp [World.setCell]; omega)) _ | refine Below.setCell (B := w.heap.size) (p := ⟨w.heap.size + 1, _, none⟩) ?_ (by simp) _)⟩
    · have e1 : (decide (0 ≤ f) && decide (f ≤ (s.size : Int))) = false := by
        apply Bool.eq_false_iff.2; simpa using fun x => Int.lt_of_not_ge fun y => hf ⟨x, y⟩
      have E1 := Lib.hid e1
      have HV := Lib.hid (show eraV s k f t = illV 8 by unfold eraV; rw [if_neg (by rw [hl]; simp), if_neg (fun x => hf ⟨x.1, Int.le_trans x.2.1 x.2.2⟩)])
      clear e1 hf
      go_enter Try.func20, Try.ntmps20
      go_wp2_with fail
      refine (implLine_any _ _ H.out _).mono ?_
      rintro e w1 ⟨rfl, hb1⟩
      rw [hl]
      obtain ⟨k1, k2⟩ := keepC hb1 (g := w.heap.size + 1) (by simp)
      obtain ⟨k3, _⟩ := keepC hb1 (g := w.heap.size) (by simp; omega)
      have hs1 : w.heap.size + 1 < w1.heap.size := by have := hb1.size; simp at this; omega
      have HB1 := Lib.hid (bthen (((Below.refl _ w).alloc (Nat.le_refl _) _).alloc (by simp) _) hb1 (by simp; omega))
      clear hb1
      go_wp2_with fail
      refine (held_any _ _ _).mono ?_
      rintro e w2 ⟨rfl, hb2⟩
      obtain ⟨q1, q2⟩ := keepC hb2 (g := w.heap.size + 1) hs1
      obtain ⟨q3, _⟩ := keepC hb2 (g := w.heap.size) (by omega)
      have hs2 : w.heap.size + 1 < w2.heap.size := by have := hb2.size; omega
      have hs2' : w.heap.size + 1 ≠ w2.heap.size := by omega
      have hs2'' : w.heap.size < w2.heap.size := by omega
      have HB2 := Lib.hid (bthen HB1.out hb2 (by omega))
      clear hb2 HB1
      go_wp2_with fail
      refine (hasPlace_any _ _ H.out _).mono ?_
      rintro e wx ⟨rfl, rfl⟩
      rw [E1.out]
      go_wp2
      exact bodyPost_ret (v := illV 8) (by simp [results, Try.results20, go_sem, q1, k1, illV, hs2]) rfl
        ⟨by rw [HV.out], by repeat (first | exact HB2.out | refine Below.alloc (B := w.heap.size) ?_ (by first | omega | (simp [World.setCell]; omega)) _ | refine Below.setCell (B := w.heap.size) (p := ⟨w.heap.size + 1, _, none⟩) ?_ (by simp) _)⟩
end Go.Proofs.Ytnnmcenmnmmfpaa.line
