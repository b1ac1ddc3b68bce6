/-
  CaseWord of the program, and of the model whole: the same answer, for every line that the row reads.
-/
import Derived.Test.YtnnmcenmnmmfpaaDoorCase
import Derived.Test.YtnnmcenmnmmfpaaDoorShelf
namespace Go.Proofs.YtnnmcenmnmmfpaaDoor.line
open Go.ChangeShapes Go.WideShapes Go.ChangeAt Go.RowKit
theorem upN (b : UInt8) : (Lib.upperB b).toNat = cN true b.toNat := by
  have h := Lib.isLowerB_int b
  cases hb : Lib.isLowerB b
  · rw [Lib.upperB_of_not b hb, cN, if_pos rfl, if_neg]
    rw [hb] at h
    intro x
    have : (decide ((97 : Int) ≤ (b.toNat : Int)) && decide ((b.toNat : Int) ≤ 122)) = true := by simp; omega
    rw [← h] at this; cases this
  · have e := Lib.upperB_int b hb
    rw [hb] at h
    have h' := h.symm
    simp only [Bool.and_eq_true, decide_eq_true_eq] at h'
    rw [cN, if_pos rfl, if_pos (by omega)]
    omega
theorem loN (b : UInt8) : (Lib.lowerB b).toNat = cN false b.toNat := by
  have h := Lib.isUpperB_int b
  cases hb : Lib.isUpperB b
  · rw [Lib.lowerB_of_not b hb, cN, if_neg (by simp), if_neg]
    rw [hb] at h
    intro x
    have : (decide ((65 : Int) ≤ (b.toNat : Int)) && decide ((b.toNat : Int) ≤ 90)) = true := by simp; omega
    rw [← h] at this; cases this
  · have e := Lib.lowerB_int b hb
    rw [hb] at h
    have h' := h.symm
    simp only [Bool.and_eq_true, decide_eq_true_eq] at h'
    rw [cN, if_neg (by simp), if_pos (by omega)]
    omega
theorem caseT_eq (u : Bool) (s : ByteArray) (k t : Nat) (hk : k ≤ t) (ht : t ≤ s.size) (f : UInt8 → UInt8) (hf : ∀ b, (f b).toNat = cN u b.toNat) :
    s.extract 0 k ++ ⟨((s.extract k t).data.toList.map f).toArray⟩ ++ s.extract t s.size = caseT u s k t := by
  have hz : s.data.size = s.size := rfl
  have hl : s.data.toList.length = s.size := rfl
  have e : (s.extract 0 k ++ ⟨((s.extract k t).data.toList.map f).toArray⟩ ++ s.extract t s.size).data.toList = s.data.toList.take k ++ ((s.data.toList.take t).drop k).map f ++ s.data.toList.drop t := by
    simp
    rw [List.drop_take, List.take_of_length_le (l := List.drop t s.data.toList) (by simp)]
  apply ByteArray.ext
  apply Array.ext'
  rw [e]
  apply List.ext_getElem?
  intro j
  by_cases hj : j < s.size
  · have hb := byteAt_eq hj
    have hg : s.data.toList[j]? = some s[j] := Lib.data_getElem? s j hj
    have hr : (caseT u s k t).data.toList[j]? = some (UInt8.ofNat (rv u s k t j)) := by simp [caseT, List.getElem?_range hj]
    rw [hr]
    unfold rv
    rw [hb]
    by_cases h1 : j < k
    · rw [if_neg (by omega), List.getElem?_append_left (by simp; omega), List.getElem?_append_left (by simp; omega), List.getElem?_take_of_lt h1, hg]; simp
    · by_cases h2 : j < t
      · rw [if_pos (by omega), List.getElem?_append_left (by simp; omega), List.getElem?_append_right (by simp; omega), List.getElem?_map, List.getElem?_drop, List.length_take, hl,
          show k + (j - min k s.size) = j from by omega, List.getElem?_take_of_lt h2, hg, ← hf]; simp
      · rw [if_neg (by omega), List.getElem?_append_right (by simp; omega), List.getElem?_drop, List.length_append, List.length_take, List.length_map, List.length_drop, List.length_take, hl,
          show t + (j - (min k s.size + (min t s.size - k))) = j from by omega, hg]; simp
  · rw [List.getElem?_eq_none (by simp; omega), List.getElem?_eq_none (by simp [caseT]; omega)]
theorem ascii_ex (s : ByteArray) (k t : Nat) (hp : Pr s s.size) : ∀ (j : Nat) (b : UInt8), (s.extract k t).data.toList[j]? = some b → b.toNat < 128 := by
  intro j b h
  have hm : b ∈ s.data.toList := by
    have h1 := List.mem_of_getElem? h
    have : (s.extract k t).data.toList = (s.data.toList.drop k).take (t - k) := by simp
    rw [this] at h1
    exact List.mem_of_mem_drop (List.mem_of_mem_take h1)
  obtain ⟨i, hi⟩ := List.getElem?_of_mem hm
  have hl : i < s.size := (List.getElem?_eq_some_iff.1 hi).1
  rw [Lib.data_getElem? s i hl] at hi
  have := printN_iff.1 (hp i hl hl)
  cases hi
  omega
def cf (u : Bool) : UInt8 → UInt8 := if u then Lib.upperB else Lib.lowerB
theorem cf_N (u : Bool) (b : UInt8) : (cf u b).toNat = cN u b.toNat := by
  cases u
  · exact loN b
  · exact upN b
theorem cased_any (x : ByteArray) (u : Bool) (hx : x.size ≤ 1000) (ha : ∀ (j : Nat) (b : UInt8), x.data.toList[j]? = some b → b.toNat < 128) (w : World) :
    Calls Tryd.prog 15 #[.string x, .bool u] w fun e w' => e = .returned (.string ⟨(x.data.toList.map (cf u)).toArray⟩) ∧ Below w.heap.size w w' := by
  cases u
  · have HU := fun w => Tryd.strings_ToLower_ascii x w (by omega) ha
    have HH := Lib.hid HU
    clear HU ha
    go_enter Tryd.func15, Tryd.ntmps15
    go_wp2_with fail
    refine (HH.out _).mono ?_
    rintro e w1 ⟨rfl, hb⟩
    go_wp2
    go_ret
    exact ⟨rfl, hb⟩
  · have HU := fun w => Tryd.strings_ToUpper_ascii x w (by omega) ha
    have HH := Lib.hid HU
    clear HU ha
    go_enter Tryd.func15, Tryd.ntmps15
    go_wp2_with fail
    refine (HH.out _).mono ?_
    rintro e w1 ⟨rfl, hb⟩
    go_wp2
    go_ret
    exact ⟨rfl, hb⟩
set_option maxHeartbeats 2000000 in
theorem implCase_in (s : ByteArray) (k t : Nat) (u : Bool) (hs : s.size ≤ 60) (hp : Pr s s.size) (hk : k ≤ s.size) (hl : lineB s k = true) (hn : onN s k = t) (hkt : k < t) (htn : t ≤ s.size) (w : World) :
    Calls Tryd.prog 7 #[.agg #[.string s, .int .i64 k], .bool u] w fun e w' =>
      e = .returned (.agg #[.string (caseT u s k t), .int .i64 (t : Nat), .string ⟨#[]⟩, .int .i64 0]) ∧ Below w.heap.size w w' := by
  have HN := Lib.hid hn
  have hne : ((t : Int) == (k : Int)) = false := by simp; omega
  obtain ⟨X, hX⟩ : ∃ X, X = s.extract k t := ⟨_, rfl⟩
  obtain ⟨Y, hY⟩ : ∃ Y : ByteArray, Y = ⟨(X.data.toList.map (cf u)).toArray⟩ := ⟨_, rfl⟩
  obtain ⟨T, hT⟩ : ∃ T, T = caseT u s k t := ⟨_, rfl⟩
  have hsl : ∀ W, (Instr.slice 9 (.string s) (some (.int .i64 (k : Int))) (some (.int .i64 (t : Int))) none).run Tryd.prog W = .ok (.string X) W := by
    intro W
    rw [run_slice_string (P := Tryd.prog) W 9 s .i64 .i64 (k : Int) (t : Int) Tryd.underlying9 (by omega) (by omega) (by omega), hX]; rfl
  have hTe : s.extract 0 k ++ Y ++ s.extract t s.size = T := by rw [hT, hY, hX]; exact caseT_eq u s k t (by omega) htn (cf u) (cf_N u)
  have hXz : X.size ≤ 60 := by rw [hX]; simp; omega
  have hYz : Y.size ≤ 60 := by
    rw [hY]
    have : (X.data.toList.map (cf u)).toArray.size = X.size := by simp
    show (X.data.toList.map (cf u)).toArray.size ≤ 60
    omega
  have hca : ∀ w, Calls Tryd.prog 15 #[.string X, .bool u] w fun e w' => e = .returned (.string Y) ∧ Below w.heap.size w w' := by
    intro w
    rw [hY]
    exact cased_any X u (by omega) (by rw [hX]; exact ascii_ex s k t hp) w
  rw [← hT]
  have HC := Lib.hid hca
  have HTE := Lib.hid hTe
  have HP := Lib.hid hp
  have HL := Lib.hid hl
  clear hn hX hY hT hca hTe hp hl
  go_enter Tryd.func7, Tryd.ntmps7
  go_wp2_with fail
  refine (implLine_any _ _ (by unfold maxLen; omega) _).mono ?_
  rintro e w1 ⟨rfl, hb1⟩
  rw [HL.out]
  obtain ⟨k1, k2⟩ := keepC hb1 (g := w.heap.size + 1) (by simp)
  obtain ⟨k3, _⟩ := keepC hb1 (g := w.heap.size) (by simp; omega)
  have hs1 : w.heap.size + 1 < w1.heap.size := by have := hb1.size; simp at this; omega
  have HB1 := Lib.hid (bthen (((Below.refl _ w).alloc (Nat.le_refl _) _).alloc (by simp) _) hb1 (by simp; omega))
  clear hb1
  go_wp2_with fail
  refine (held_any _ _ _).mono ?_
  rintro e w2 ⟨rfl, hb2⟩
  obtain ⟨q1, q2⟩ := keepC hb2 (g := w.heap.size + 1) hs1
  obtain ⟨q3, _⟩ := keepC hb2 (g := w.heap.size) (by omega)
  have hs2 : w.heap.size + 1 < w2.heap.size := by have := hb2.size; omega
  have hs2'' : w.heap.size < w2.heap.size := by omega
  have HB2 := Lib.hid (bthen HB1.out hb2 (by omega))
  clear hb2 HB1
  go_wp2_with fail
  refine (implOn_any s k hs HP.out hk _).mono ?_
  rintro e w3 ⟨rfl, hb3⟩
  rw [HN.out]
  obtain ⟨r1, r2⟩ := keepC hb3 (g := w.heap.size + 1) (by simp; omega)
  obtain ⟨r3, _⟩ := keepC hb3 (g := w.heap.size) (by simp; omega)
  obtain ⟨r5, _⟩ := keepC hb3 (g := w2.heap.size) (by simp)
  have hs3 : w2.heap.size < w3.heap.size := by have := hb3.size; simp at this; omega
  have HB3 := Lib.hid (bthen (HB2.out.alloc (by omega) _) hb3 (by simp; omega))
  clear hb3 HB2
  go_wp2_with fail
  refine (HC.out _).mono ?_
  rintro e w4 ⟨rfl, hb4⟩
  obtain ⟨p1, p2⟩ := keepC hb4 (g := w.heap.size + 1) (by omega)
  obtain ⟨p5, _⟩ := keepC hb4 (g := w2.heap.size) hs3
  have hs4 : w2.heap.size < w4.heap.size := by have := hb4.size; omega
  have HB4 := Lib.hid (bthen HB3.out hb4 (by omega))
  clear hb4 HB3
  go_wp2_with fail
  refine (replacedT_any T s Y k t HTE.out hs hYz hk htn _).mono ?_
  rintro e w5 ⟨rfl, hb5⟩
  obtain ⟨o1, o2⟩ := keepC hb5 (g := w.heap.size + 1) (by omega)
  have HB5 := Lib.hid (bthen HB4.out hb5 (by omega))
  clear hb5 HB4
  go_wp2
  exact bodyPost_ret (v := .agg #[.string T, .int .i64 (t : Nat), .string ⟨#[]⟩, .int .i64 0]) (by simp [results, Tryd.results7, go_sem, o1, p1, r1, q1, k1, hs2]) rfl
    ⟨rfl, by repeat (first | exact HB5.out | refine Below.setCell (B := w.heap.size) (p := ⟨w.heap.size + 1, _, none⟩) ?_ (by simp) _)⟩
set_option maxHeartbeats 2000000 in
theorem implCase_none (s : ByteArray) (k : Nat) (u : Bool) (hs : s.size ≤ 60) (hp : Pr s s.size) (hk : k ≤ s.size) (hl : lineB s k = true) (hn : onN s k = k) (w : World) :
    Calls Tryd.prog 7 #[.agg #[.string s, .int .i64 k], .bool u] w fun e w' => e = .returned (illV 6) ∧ Below w.heap.size w w' := by
  have HN := Lib.hid hn
  have HP := Lib.hid hp
  have HL := Lib.hid hl
  clear hn hp hl
  go_enter Tryd.func7, Tryd.ntmps7
  go_wp2_with fail
  refine (implLine_any _ _ (by unfold maxLen; omega) _).mono ?_
  rintro e w1 ⟨rfl, hb1⟩
  rw [HL.out]
  obtain ⟨k1, k2⟩ := keepC hb1 (g := w.heap.size + 1) (by simp)
  obtain ⟨k3, _⟩ := keepC hb1 (g := w.heap.size) (by simp; omega)
  have hs1 : w.heap.size + 1 < w1.heap.size := by have := hb1.size; simp at this; omega
  have HB1 := Lib.hid (bthen (((Below.refl _ w).alloc (Nat.le_refl _) _).alloc (by simp) _) hb1 (by simp; omega))
  clear hb1
  go_wp2_with fail
  refine (held_any _ _ _).mono ?_
  rintro e w2 ⟨rfl, hb2⟩
  obtain ⟨q1, q2⟩ := keepC hb2 (g := w.heap.size + 1) hs1
  obtain ⟨q3, _⟩ := keepC hb2 (g := w.heap.size) (by omega)
  have hs2 : w.heap.size + 1 < w2.heap.size := by have := hb2.size; omega
  have hs2'' : w.heap.size < w2.heap.size := by omega
  have HB2 := Lib.hid (bthen HB1.out hb2 (by omega))
  clear hb2 HB1
  go_wp2_with fail
  refine (implOn_any s k hs HP.out hk _).mono ?_
  rintro e w3 ⟨rfl, hb3⟩
  rw [HN.out]
  obtain ⟨r1, r2⟩ := keepC hb3 (g := w.heap.size + 1) (by simp; omega)
  obtain ⟨r5, _⟩ := keepC hb3 (g := w2.heap.size) (by simp)
  have HB3 := Lib.hid (bthen (HB2.out.alloc (by omega) _) hb3 (by simp; omega))
  clear hb3 HB2
  go_wp2
  exact bodyPost_ret (v := illV 6) (by simp [results, Tryd.results7, go_sem, r1, q1, k1, illV, hs2]) rfl
    ⟨rfl, by repeat (first | exact HB3.out | refine Below.setCell (B := w.heap.size) (p := ⟨w.heap.size + 1, _, none⟩) ?_ (by simp) _)⟩
set_option maxHeartbeats 1600000 in
theorem implCase_any (s : ByteArray) (a : Int) (u : Bool) (hs : s.size ≤ maxLen) (w : World) :
    Calls Tryd.prog 7 #[.agg #[.string s, .int .i64 a], .bool u] w fun e w' => e = .returned (caseV s a u) ∧ Below w.heap.size w w' := by
  have H := Lib.hid hs
  cases hl : lineB s a
  · have HV := Lib.hid (show caseV s a u = illV 1 by unfold caseV; rw [if_pos hl])
    go_enter Tryd.func7, Tryd.ntmps7
    go_wp2_with fail
    refine (implLine_any _ _ H.out _).mono ?_
    rintro e w1 ⟨rfl, hb1⟩
    rw [hl]
    obtain ⟨k1, k2⟩ := keepC hb1 (g := w.heap.size + 1) (by simp)
    have HB1 := Lib.hid (bthen (((Below.refl _ w).alloc (Nat.le_refl _) _).alloc (by simp) _) hb1 (by simp; omega))
    clear hb1
    go_wp2
    exact bodyPost_ret (v := illV 1) (by simp [results, Tryd.results7, go_sem, k1, illV]) rfl
      ⟨by rw [HV.out], by repeat (first | exact HB1.out | refine Below.setCell (B := w.heap.size) (p := ⟨w.heap.size + 1, _, none⟩) ?_ (by simp) _)⟩
  · obtain ⟨h6, hp, h0, hn⟩ := lineB_ok hl
    obtain ⟨k, rfl⟩ : ∃ k : Nat, a = k := ⟨a.toNat, by omega⟩
    have hon := onN_le s k (by omega)
    by_cases hz : onN s k = k
    · rw [show caseV s k u = illV 6 by unfold caseV; rw [if_neg (by rw [hl]; simp), if_pos (by simpa using hz)]]
      exact implCase_none s k u h6 hp (by omega) hl hz w
    · rw [show caseV s k u = caseOk u s k by unfold caseV; rw [if_neg (by rw [hl]; simp), if_neg (by simpa using hz)]; rfl]
      exact implCase_in s k (onN s k) u h6 hp (by omega) hl rfl (by omega) hon.2 w
set_option maxHeartbeats 1600000 in
theorem specCase_any (s : ByteArray) (a : Int) (u : Bool) (hs : s.size ≤ maxLen) (w : World) :
    Calls Tryd.prog 5 #[.agg #[.string s, .int .i64 a], .bool u] w fun e w' => e = .returned (caseV s a u) ∧ Below w.heap.size w w' := by
  have H := Lib.hid hs
  cases hl : lineB s a
  · have HV := Lib.hid (show caseV s a u = illV 1 by unfold caseV; rw [if_pos hl])
    go_enter Tryd.func5, Tryd.ntmps5
    go_wp2_with fail
    refine (specLine_any _ _ H.out _).mono ?_
    rintro e w1 ⟨rfl, hb1⟩
    rw [hl]
    obtain ⟨k1, k2⟩ := keepC hb1 (g := w.heap.size + 1) (by simp)
    have hs1 : w.heap.size + 1 < w1.heap.size := by have := hb1.size; simp at this; omega
    have HB1 := Lib.hid (bthen (((Below.refl _ w).alloc (Nat.le_refl _) _).alloc (by simp) _) hb1 (by simp; omega))
    clear hb1
    go_wp2_with fail
    refine (ill_any _ _).mono ?_
    rintro e w2 ⟨rfl, hb2⟩
    obtain ⟨q1, q2⟩ := keepC hb2 (g := w.heap.size + 1) hs1
    have HB2 := Lib.hid (bthen HB1.out hb2 (by omega))
    clear hb2 HB1
    go_wp2
    exact bodyPost_ret (v := illV 1) (by simp [results, Tryd.results5, go_sem, q1, k1, illV]) rfl
      ⟨by rw [HV.out], by repeat (first | exact HB2.out | refine Below.setCell (B := w.heap.size) (p := ⟨w.heap.size + 1, _, none⟩) ?_ (by simp) _)⟩
  · obtain ⟨h6, hp, h0, hn⟩ := lineB_ok hl
    obtain ⟨k, rfl⟩ : ∃ k : Nat, a = k := ⟨a.toNat, by omega⟩
    have hon := onN_le s k (by omega)
    have hcall : ∀ w1 : World, Calls Tryd.prog 11 #[.agg #[.string s, .int .i64 k], .bool u] w1 fun e w' => e = .returned (caseV s k u) ∧ Below w1.heap.size w1 w' := by
      intro w1
      by_cases hz : onN s k = k
      · rw [show caseV s k u = illV 6 by unfold caseV; rw [if_neg (by rw [hl]; simp), if_pos (by simpa using hz)]]
        exact specCase_none s k u h6 (by omega) hz w1
      · rw [show caseV s k u = caseOk u s k by unfold caseV; rw [if_neg (by rw [hl]; simp), if_neg (by simpa using hz)]; rfl]
        exact specCase_in s k (onN s k) u h6 (by omega) rfl (by omega) hon.2 w1
    obtain ⟨x1, x2, x3, x4, hX⟩ := caseV_form s k u
    rw [hX] at hcall ⊢
    have HC := Lib.hid hcall
    clear hcall hp hX hon
    go_enter Tryd.func5, Tryd.ntmps5
    go_wp2_with fail
    refine (specLine_any _ _ H.out _).mono ?_
    rintro e w1 ⟨rfl, hb1⟩
    rw [hl]
    obtain ⟨k1, k2⟩ := keepC hb1 (g := w.heap.size + 1) (by simp)
    obtain ⟨k3, _⟩ := keepC hb1 (g := w.heap.size) (by simp; omega)
    have hs1 : w.heap.size + 1 < w1.heap.size := by have := hb1.size; simp at this; omega
    have HB1 := Lib.hid (bthen (((Below.refl _ w).alloc (Nat.le_refl _) _).alloc (by simp) _) hb1 (by simp; omega))
    clear hb1
    go_wp2_with fail
    refine (HC.out _).mono ?_
    rintro e w2 ⟨rfl, hb2⟩
    obtain ⟨q1, q2⟩ := keepC hb2 (g := w.heap.size + 1) hs1
    have HB2 := Lib.hid (bthen HB1.out hb2 (by omega))
    clear hb2 HB1
    go_wp2
    exact bodyPost_ret (v := .agg #[.string x1, .int .i64 x2, .string x3, .int .i64 x4]) (by simp [results, Tryd.results5, go_sem, q1, k1]) rfl
      ⟨rfl, by repeat (first | exact HB2.out | refine Below.setCell (B := w.heap.size) (p := ⟨w.heap.size + 1, _, none⟩) ?_ (by simp) _)⟩
end Go.Proofs.YtnnmcenmnmmfpaaDoor.line
