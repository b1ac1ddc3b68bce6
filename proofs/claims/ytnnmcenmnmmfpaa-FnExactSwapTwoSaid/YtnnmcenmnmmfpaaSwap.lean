/-
  SwapTwo of the model: its answer, for every line that the row reads.
-/
import Derived.Test.YtnnmcenmnmmfpaaInsert
import Derived.Test.YtnnmcenmnmmfpaaBytesOf
namespace Go.Proofs.Ytnnmcenmnmmfpaa.line
open Go.ChangeShapes Go.WideShapes Go.ChangeAt Go.RowKit
/-- the bytes at m and at m + 1 change places -/
def swL (l : List UInt8) (m : Nat) : List UInt8 := (l.set m (l.getD (m + 1) 0)).set (m + 1) (l.getD m 0)
def swT (s : ByteArray) (m : Nat) : ByteArray := ⟨(swL s.data.toList m).toArray⟩
/-- the place behind the first of the two -/
def swAt (s : ByteArray) (k : Nat) : Nat := (if (k : Int) < (s.size : Int) - 1 then (k : Int) else (s.size : Int) - 1).toNat - 1
noncomputable def swV (s : ByteArray) (a : Int) : Value :=
  if lineB s a = false then illV 1
  else if s.size < 2 ∨ a = 0 then illV 6
  else .agg #[.string (swT s (swAt s a.toNat)), .int .i64 ((swAt s a.toNat : Nat) + 2 : Int), .string ⟨#[]⟩, .int .i64 0]
theorem swV_form (s : ByteArray) (a : Int) : ∃ x i g c, swV s a = .agg #[.string x, .int .i64 i, .string g, .int .i64 c] := by
  unfold swV illV; split
  · exact ⟨_, _, _, _, rfl⟩
  · split <;> exact ⟨_, _, _, _, rfl⟩
theorem min_any (a b : Int) (w : World) :
    Calls Try.prog 47 #[.int .i64 a, .int .i64 b] w fun e w' => e = .returned (.int .i64 (if a < b then a else b)) ∧ w = w' := by
  by_cases h : a < b
  · rw [if_pos h]
    go_enter Try.func47, Try.ntmps47
    go_wp2
    go_ret
    exact ⟨rfl, rfl⟩
  · rw [if_neg h]
    go_enter Try.func47, Try.ntmps47
    go_wp2
    go_ret
    exact ⟨rfl, rfl⟩
theorem swL_len (l : List UInt8) (m : Nat) : (swL l m).length = l.length := by simp [swL]
/-- two bytes of the row changed places, the row made a string -/
theorem conv_sw (WB : World) (g cap m : Nat) (s : ByteArray) (hc : ∀ j, j < s.size → WB.cell? ⟨g, j, none⟩ = some (.int .u8 (byteAt s j : Nat))) (hm : m + 1 < s.size) :
    (convert 51 9 (.slice (some ⟨g, 0, none⟩) s.size cap)).run Try.prog ((WB.setCell ⟨g, m, none⟩ (.int .u8 (byteAt s (m + 1) : Nat))).setCell ⟨g, m + 1, none⟩ (.int .u8 (byteAt s m : Nat))) =
      .ok (.string (swT s m)) ((WB.setCell ⟨g, m, none⟩ (.int .u8 (byteAt s (m + 1) : Nat))).setCell ⟨g, m + 1, none⟩ (.int .u8 (byteAt s m : Nat))) := by
  have hlen : s.data.toList.length = s.size := (Lib.size_eq s).symm
  have hd : ∀ j, j < s.size → (s.data.toList.getD j 0).toNat = byteAt s j := fun j hj => by
    rw [byteAt_eq hj, List.getD_eq_getElem?_getD, Lib.data_getElem? s j hj]; rfl
  have h := conv_row (P := Try.prog) (w := (WB.setCell ⟨g, m, none⟩ (.int .u8 (byteAt s (m + 1) : Nat))).setCell ⟨g, m + 1, none⟩ (.int .u8 (byteAt s m : Nat))) (g := g) (cap := cap)
    51 5 Try.underlying51 Try.underlying5 (swL s.data.toList m) (fun i hi => by
      rw [swL_len, hlen] at hi
      by_cases e1 : i = m + 1
      · subst e1
        rw [set_same (u := .int .u8 (byteAt s (m + 1) : Nat)) (by rw [set_other (by simp)]; exact hc _ hm)]
        rw [← hd m (by omega)]
        simp [swL, List.getD_eq_getElem?_getD, hlen, hm]
      · rw [set_other (show (⟨g, m + 1, none⟩ : Addr) ≠ ⟨g, i, none⟩ from fun h => by injection h; omega)]
        by_cases e2 : i = m
        · subst e2
          rw [set_same (u := .int .u8 (byteAt s i : Nat)) (hc _ hi), ← hd (i + 1) hm]
          simp [swL, List.getD_eq_getElem?_getD, hlen, hi]
        · rw [set_other (show (⟨g, m, none⟩ : Addr) ≠ ⟨g, i, none⟩ from fun h => by injection h; omega), hc _ hi, ← hd i hi]
          simp [swL, List.getD_eq_getElem?_getD, Ne.symm e1, Ne.symm e2]) 9 Try.underlying9
  rw [swL_len, hlen] at h
  exact h
set_option maxHeartbeats 1600000 in
set_option maxRecDepth 100000 in
theorem specSwap_in (s : ByteArray) (k m : Nat) (hs : s.size ≤ 60) (hn : 2 ≤ s.size) (hk0 : 0 < k) (hm : m + 1 < s.size) (hK : (if (k : Int) < (s.size : Int) - 1 then (k : Int) else (s.size : Int) - 1) = ((m + 1 : Nat) : Int)) (w : World) :
    Calls Try.prog 41 #[.agg #[.string s, .int .i64 k]] w fun e w' =>
      e = .returned (.agg #[.string (swT s m), .int .i64 ((m : Nat) + 2 : Int), .string ⟨#[]⟩, .int .i64 0]) ∧ Below w.heap.size w w' := by
  obtain ⟨B0, hB0⟩ : ∃ B0, B0 = Obj.cells #[.string s, .int .i64 k] 27 := ⟨_, rfl⟩
  obtain ⟨B1, hB1⟩ : ∃ B1, B1 = Obj.cells #[.string ⟨#[]⟩, .int .i64 0, .string ⟨#[]⟩, .int .i64 0] 31 := ⟨_, rfl⟩
  obtain ⟨W0, hW0⟩ : ∃ W0, W0 = (w.alloc B0).alloc B1 := ⟨_, rfl⟩
  have hz0 : W0.heap.size = w.heap.size + 1 + 1 := by rw [hW0]; simp
  have hcv := Lib.run_convert_string_bytes (P := Try.prog) W0 9 51 5 s Try.underlying9 Try.underlying51 Try.underlying5
  obtain ⟨hbel, hzB, hcB, hfB⟩ := bw_facts W0 s
  obtain ⟨WB, hWB⟩ : ∃ WB, WB = Lib.bytesWorld W0 5 s := ⟨_, rfl⟩
  obtain ⟨C, hC⟩ : ∃ C, C = grownCap W0 s.size 0 5 := ⟨_, rfl⟩
  rw [← hWB, ← hC] at hcv
  rw [← hWB] at hbel hzB hcB hfB
  rw [hz0] at hcv hcB hfB
  obtain ⟨k1, k2⟩ := keepC hbel (g := w.heap.size + 1) (by omega)
  have d0 : ∀ o, WB.cell? ⟨w.heap.size + 1, o, none⟩ = #[Value.string ⟨#[]⟩, .int .i64 0, .string ⟨#[]⟩, .int .i64 0][o]? := by
    intro o; rw [k1, hW0, hB1, World.cell?_alloc_at _ _ _ _ (by simp)]
  have d1 : ∀ o, WB.frozen? ⟨w.heap.size + 1, o, none⟩ = false := by
    intro o; rw [k2, hW0, hB1, World.frozen?_alloc_at _ _ _ _ (by simp)]
  have c0 := hcB m (by omega)
  have c1 := hcB (m + 1) hm
  have f0 := hfB m (by omega)
  have f1 := hfB (m + 1) hm
  have hcs := conv_sw WB (w.heap.size + 1 + 1) C m s hcB hm
  obtain ⟨T, hT⟩ : ∃ T, T = swT s m := ⟨_, rfl⟩
  rw [← hT] at hcs ⊢
  have HB := Lib.hid (show Below w.heap.size w WB from by
    have h2 : Below w.heap.size w W0 := by rw [hW0]; exact ((Below.refl _ w).alloc (Nat.le_refl _) _).alloc (by simp) _
    exact bthen h2 hbel (by omega))
  rw [hW0, hB0, hB1] at hcv
  obtain ⟨x0, hx0⟩ : ∃ x : Nat, x = byteAt s m := ⟨_, rfl⟩
  obtain ⟨x1, hx1⟩ : ∃ x : Nat, x = byteAt s (m + 1) := ⟨_, rfl⟩
  rw [← hx0] at c0 hcs
  rw [← hx1] at c1 hcs
  clear hbel hzB hcB hfB hWB hC hT k1 k2 hW0 hz0 hB0 hB1 hx0 hx1
  have HK := Lib.hid hK
  clear hK
  go_enter Try.func41, Try.ntmps41
  go_wp2_with fail
  refine (min_any _ _ _).mono ?_
  rintro e wx ⟨rfl, rfl⟩
  rw [HK.out]
  go_wp2
  have e2 : ((m : Nat) + 2 : Int) = (m : Int) + 1 + 1 := by omega
  rw [e2]
  exact bodyPost_ret (v := .agg #[.string T, .int .i64 ((m : Int) + 1 + 1), .string ⟨#[]⟩, .int .i64 0]) (by simp [results, Try.results41, go_sem, d0]) rfl
    ⟨rfl, (((((HB.out.setCell (p := ⟨w.heap.size + 1 + 1, m, none⟩) (by simp; omega) _).setCell (p := ⟨w.heap.size + 1 + 1, m + 1, none⟩) (by simp; omega) _).setCell (p := ⟨w.heap.size + 1, 0, none⟩) (by simp) _).setCell (p := ⟨w.heap.size + 1, 1, none⟩) (by simp) _).setCell (p := ⟨w.heap.size + 1, 2, none⟩) (by simp) _).setCell (p := ⟨w.heap.size + 1, 3, none⟩) (by simp) _⟩
set_option maxHeartbeats 1600000 in
set_option maxRecDepth 100000 in
theorem specSwap_none (s : ByteArray) (k : Nat) (hs : s.size ≤ 60) (hn : s.size < 2 ∨ k = 0) (w : World) :
    Calls Try.prog 41 #[.agg #[.string s, .int .i64 k]] w fun e w' => e = .returned (illV 6) ∧ Below w.heap.size w w' := by
  have hz : (s.size : Int) < 2 ∨ (2 ≤ (s.size : Int) ∧ k = 0) := by omega
  clear hn
  rcases hz with hz | ⟨hz, rfl⟩
  all_goals
    go_enter Try.func41, Try.ntmps41
    go_wp2_with fail
    all_goals try (exfalso; omega)
    refine (ill_any _ _).mono ?_
    rintro e w1 ⟨rfl, hb1⟩
    obtain ⟨k1, k2⟩ := keepC hb1 (g := w.heap.size + 1) (by simp)
    have HB1 := Lib.hid (bthen (((Below.refl _ w).alloc (Nat.le_refl _) _).alloc (by simp) _) hb1 (by simp; omega))
    clear hb1
    go_wp2
    exact bodyPost_ret (v := illV 6) (by simp [results, Try.results41, go_sem, k1, illV]) rfl
      ⟨rfl, by repeat (first | exact HB1.out | refine Below.setCell (B := w.heap.size) (p := ⟨w.heap.size + 1, _, none⟩) ?_ (by simp) _)⟩
theorem swAt_eq (s : ByteArray) (k : Nat) (_ : k ≤ s.size) (hn : 2 ≤ s.size) (hk0 : 0 < k) :
    swAt s k + 1 < s.size ∧ (if (k : Int) < (s.size : Int) - 1 then (k : Int) else (s.size : Int) - 1) = ((swAt s k + 1 : Nat) : Int) := by
  unfold swAt; split <;> omega
set_option maxHeartbeats 1600000 in
set_option maxRecDepth 100000 in
theorem specSwap_any (s : ByteArray) (a : Int) (hs : s.size ≤ maxLen) (w : World) :
    Calls Try.prog 25 #[.agg #[.string s, .int .i64 a]] w fun e w' => e = .returned (swV s a) ∧ Below w.heap.size w w' := by
  have H := Lib.hid hs
  cases hl : lineB s a
  · have HV := Lib.hid (show swV s a = illV 1 by unfold swV; rw [if_pos hl])
    go_enter Try.func25, Try.ntmps25
    go_wp2_with fail
    refine (specLine_any _ _ H.out _).mono ?_
    rintro e w1 ⟨rfl, hb1⟩
    rw [hl]
    obtain ⟨k1, k2⟩ := keepC hb1 (g := w.heap.size + 1) (by simp)
    have hs1 : w.heap.size + 1 < w1.heap.size := by have := hb1.size; simp at this; omega
    have HB1 := Lib.hid (bthen (((Below.refl _ w).alloc (Nat.le_refl _) _).alloc (by simp) _) hb1 (by simp; omega))
    clear hb1
    go_wp2_with fail
    refine (ill_any _ _).mono ?_
    rintro e w2 ⟨rfl, hb2⟩
    obtain ⟨q1, q2⟩ := keepC hb2 (g := w.heap.size + 1) hs1
    have HB2 := Lib.hid (bthen HB1.out hb2 (by omega))
    clear hb2 HB1
    go_wp2
    exact bodyPost_ret (v := illV 1) (by simp [results, Try.results25, go_sem, q1, k1, illV]) rfl
      ⟨by rw [HV.out], by repeat (first | exact HB2.out | refine Below.setCell (B := w.heap.size) (p := ⟨w.heap.size + 1, _, none⟩) ?_ (by simp) _)⟩
  · obtain ⟨h6, hp, h0, hn⟩ := lineB_ok hl
    obtain ⟨k, rfl⟩ : ∃ k : Nat, a = k := ⟨a.toNat, by omega⟩
    have hcall : ∀ w1 : World, Calls Try.prog 41 #[.agg #[.string s, .int .i64 k]] w1 fun e w' => e = .returned (swV s k) ∧ Below w1.heap.size w1 w' := by
      intro w1
      by_cases hz : s.size < 2 ∨ (k : Int) = 0
      · rw [show swV s k = illV 6 by unfold swV; rw [if_neg (by rw [hl]; simp), if_pos hz]]
        exact specSwap_none s k h6 (by omega) w1
      · rw [show swV s k = .agg #[.string (swT s (swAt s k)), .int .i64 ((swAt s k : Nat) + 2 : Int), .string ⟨#[]⟩, .int .i64 0] by unfold swV; rw [if_neg (by rw [hl]; simp), if_neg hz]; rfl]
        obtain ⟨e1, e2⟩ := swAt_eq s k (by omega) (by omega) (by omega)
        exact specSwap_in s k (swAt s k) h6 (by omega) (by omega) e1 e2 w1
    obtain ⟨x1, x2, x3, x4, hX⟩ := swV_form s k
    rw [hX] at hcall ⊢
    have HC := Lib.hid hcall
    clear hcall hp hX
    go_enter Try.func25, Try.ntmps25
    go_wp2_with fail
    refine (specLine_any _ _ H.out _).mono ?_
    rintro e w1 ⟨rfl, hb1⟩
    rw [hl]
    obtain ⟨k1, k2⟩ := keepC hb1 (g := w.heap.size + 1) (by simp)
    obtain ⟨k3, _⟩ := keepC hb1 (g := w.heap.size) (by simp; omega)
    have hs1 : w.heap.size + 1 < w1.heap.size := by have := hb1.size; simp at this; omega
    have HB1 := Lib.hid (bthen (((Below.refl _ w).alloc (Nat.le_refl _) _).alloc (by simp) _) hb1 (by simp; omega))
    clear hb1
    go_wp2_with fail
    refine (HC.out _).mono ?_
    rintro e w2 ⟨rfl, hb2⟩
    obtain ⟨q1, q2⟩ := keepC hb2 (g := w.heap.size + 1) hs1
    have HB2 := Lib.hid (bthen HB1.out hb2 (by omega))
    clear hb2 HB1
    go_wp2
    exact bodyPost_ret (v := .agg #[.string x1, .int .i64 x2, .string x3, .int .i64 x4]) (by simp [results, Try.results25, go_sem, q1, k1]) rfl
      ⟨rfl, by repeat (first | exact HB2.out | refine Below.setCell (B := w.heap.size) (p := ⟨w.heap.size + 1, _, none⟩) ?_ (by simp) _)⟩
end Go.Proofs.Ytnnmcenmnmmfpaa.line
