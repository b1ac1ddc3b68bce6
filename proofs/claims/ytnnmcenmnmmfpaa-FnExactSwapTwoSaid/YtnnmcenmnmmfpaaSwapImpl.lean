/-
  SwapTwo of the program: its answer, for every line that the row reads.
-/
import Derived.Test.YtnnmcenmnmmfpaaSwap
import Derived.Test.YtnnmcenmnmmfpaaWordsOn
import Derived.Deep.RegionHeld3
namespace Go.Proofs.Ytnnmcenmnmmfpaa.line
open Go.ChangeShapes Go.WideShapes Go.ChangeAt Go.RowKit
set_option maxHeartbeats 2000000 in
theorem implSwap_in (s : ByteArray) (k m : Nat) (hs : s.size ≤ 60) (hn : 2 ≤ s.size) (hk0 : 0 < k) (hm : m + 1 < s.size) (hl : lineB s k = true)
    (hK : (if (s.size : Int) - 1 < (k : Int) then (s.size : Int) - 1 else (k : Int)) = ((m + 1 : Nat) : Int)) (w : World) :
    Calls Try.prog 26 #[.agg #[.string s, .int .i64 k]] w fun e w' =>
      e = .returned (.agg #[.string (swT s m), .int .i64 ((m : Nat) + 2 : Int), .string ⟨#[]⟩, .int .i64 0]) ∧ Below w.heap.size w w' := by
  have HL := Lib.hid hl
  clear hl
  obtain ⟨T, hT⟩ : ∃ T, T = swT s m := ⟨_, rfl⟩
  rw [← hT]
  have HT := Lib.hid hT
  clear hT
  go_enter Try.func26, Try.ntmps26
  go_wp2_with fail
  refine (implLine_any _ _ (by unfold maxLen; omega) _).mono ?_
  rintro e w1 ⟨rfl, hb1⟩
  rw [HL.out]
  obtain ⟨k1, k2⟩ := keepC hb1 (g := w.heap.size + 1) (by simp)
  obtain ⟨k3, _⟩ := keepC hb1 (g := w.heap.size) (by simp; omega)
  have hs1 : w.heap.size + 1 < w1.heap.size := by have := hb1.size; simp at this; omega
  have HB1 := Lib.hid (bthen (((Below.refl _ w).alloc (Nat.le_refl _) _).alloc (by simp) _) hb1 (by simp; omega))
  clear hb1
  go_wp2_with fail
  refine (held_any _ _ _).mono ?_
  rintro e w2 ⟨rfl, hb2⟩
  obtain ⟨q1, q2⟩ := keepC hb2 (g := w.heap.size + 1) hs1
  obtain ⟨q3, _⟩ := keepC hb2 (g := w.heap.size) (by omega)
  have hs2 : w.heap.size + 1 < w2.heap.size := by have := hb2.size; omega
  have hs2'' : w.heap.size < w2.heap.size := by omega
  have HB2 := Lib.hid (bthen HB1.out hb2 (by omega))
  clear hb2 HB1
  go_wp2_with fail
  refine (length_any _ hs _).mono ?_
  rintro e wx ⟨rfl, rfl⟩
  go_wp2_with fail
  have hw1 : IntKind.i64.wrap ((s.size : Int) - 1) = (s.size : Int) - 1 := IntWalk.i64_in _ (by omega)
  have c0 : (w2.alloc (.cells #[.string s, .int .i64 k] 43)).cell? ⟨w2.heap.size, 0, none⟩ = some (.string s) := by simp [World.cell?_alloc_mark]
  have c1 : (w2.alloc (.cells #[.string s, .int .i64 k] 43)).cell? ⟨w2.heap.size, 1, none⟩ = some (.int .i64 k) := by simp [World.cell?_alloc_mark]
  go_region_held3 (fun w' => w'.cell? ⟨w2.heap.size, 0, none⟩ = some (.string s) ∧ w'.cell? ⟨w2.heap.size, 1, none⟩ = some (.int .i64 k)) (go_keep)
    (first | (go_at_call 40; refine (length_any _ hs _).mono ?_; rintro e wx ⟨rfl, rfl⟩))
  clear c0 c1
  obtain ⟨B2, hB2⟩ : ∃ B2, B2 = Obj.cells #[.string s, .int .i64 k] 43 := ⟨_, rfl⟩
  obtain ⟨W0, hW0⟩ : ∃ W0, W0 = (w2.alloc B2).drew := ⟨_, rfl⟩
  obtain ⟨g, hg⟩ : ∃ g, g = W0.heap.size := ⟨_, rfl⟩
  have hg2 : g = w2.heap.size + 1 := by rw [hg, hW0]; simp
  have hcv := Lib.run_convert_string_bytes (P := Try.prog) W0 9 51 5 s Try.underlying9 Try.underlying51 Try.underlying5
  obtain ⟨hbel, hzB, hcB, hfB⟩ := bw_facts W0 s
  obtain ⟨WB, hWB⟩ : ∃ WB, WB = Lib.bytesWorld W0 5 s := ⟨_, rfl⟩
  obtain ⟨C, hC⟩ : ∃ C, C = grownCap W0 s.size 0 5 := ⟨_, rfl⟩
  rw [← hWB, ← hC] at hcv
  rw [← hWB] at hbel hzB hcB hfB
  rw [← hg] at hcv hcB hfB
  obtain ⟨z1, z2⟩ := keepC hbel (g := w.heap.size + 1) (by omega)
  have d0 : ∀ o, WB.cell? ⟨w.heap.size + 1, o, none⟩ = #[Value.string ⟨#[]⟩, .int .i64 0, .string ⟨#[]⟩, .int .i64 0][o]? := by
    intro o; rw [z1, hW0, World.cell?_drew, World.cell?_alloc_past _ _ _ hs2, q1, k1, World.cell?_alloc_at _ _ _ _ (by simp)]
  have d1 : ∀ o, WB.frozen? ⟨w.heap.size + 1, o, none⟩ = false := by
    intro o; rw [z2, hW0, World.frozen?_drew, hB2, World.frozen?_alloc_past _ _ _ hs2, q2, k2, World.frozen?_alloc_at _ _ _ _ (by simp)]
  have c0 := hcB m (by omega)
  have c1 := hcB (m + 1) hm
  have f0 := hfB m (by omega)
  have f1 := hfB (m + 1) hm
  have hcs : (convert 51 9 (.slice (some ⟨g, 0, none⟩) s.size C)).run Try.prog ((WB.setCell ⟨g, m, none⟩ (.int .u8 (byteAt s (m + 1) : Nat))).setCell ⟨g, m + 1, none⟩ (.int .u8 (byteAt s m : Nat))).drew =
      .ok (.string (swT s m)) ((WB.setCell ⟨g, m, none⟩ (.int .u8 (byteAt s (m + 1) : Nat))).setCell ⟨g, m + 1, none⟩ (.int .u8 (byteAt s m : Nat))).drew := conv_sw WB.drew g C m s hcB hm
  rw [← HT.out] at hcs
  have HB := Lib.hid (show Below w.heap.size w WB from by
    have h2 : Below w.heap.size w W0 := by rw [hW0]; exact (HB2.out.alloc (by omega) _).drew
    exact bthen h2 hbel (by omega))
  rw [hW0, hB2] at hcv
  obtain ⟨x0, hx0⟩ : ∃ x : Nat, x = byteAt s m := ⟨_, rfl⟩
  obtain ⟨x1, hx1⟩ : ∃ x : Nat, x = byteAt s (m + 1) := ⟨_, rfl⟩
  rw [← hx0] at c0 hcs
  rw [← hx1] at c1 hcs
  have hne : w.heap.size + 1 < g := by omega
  have hne2 : w.heap.size < g := by omega
  clear hbel hzB hcB hfB hWB hC k1 k2 q1 q2 z1 z2 hW0 hB2 hg hg2 hx0 hx1 hw1 hK HB2
  go_wp2
  go_region
  go_wp2
  have e2 : ((m : Nat) + 2 : Int) = (m : Int) + 1 + 1 := by omega
  rw [e2]
  exact bodyPost_ret (v := .agg #[.string T, .int .i64 ((m : Int) + 1 + 1), .string ⟨#[]⟩, .int .i64 0]) (by simp [results, Try.results26, go_sem, d0]) rfl
    ⟨rfl, ((((((HB.out.setCell (p := ⟨g, m, none⟩) (by simp; omega) _).setCell (p := ⟨g, m + 1, none⟩) (by simp; omega) _).setCell (p := ⟨w.heap.size + 1, 0, none⟩) (by simp) _).setCell (p := ⟨w.heap.size + 1, 1, none⟩) (by simp) _).setCell (p := ⟨w.heap.size + 1, 2, none⟩) (by simp) _).setCell (p := ⟨w.heap.size + 1, 3, none⟩) (by simp) _).drew⟩
set_option maxHeartbeats 1600000 in
theorem implSwap_none (s : ByteArray) (k : Nat) (hs : s.size ≤ 60) (hl : lineB s k = true) (hn : s.size < 2 ∨ k = 0) (w : World) :
    Calls Try.prog 26 #[.agg #[.string s, .int .i64 k]] w fun e w' => e = .returned (illV 6) ∧ Below w.heap.size w w' := by
  have hz : (s.size : Int) < 2 ∨ (2 ≤ (s.size : Int) ∧ ((k : Int) == 0) = true) := by simp; omega
  clear hn
  have HL := Lib.hid hl
  clear hl
  rcases hz with hz | ⟨hz, hk0⟩
  all_goals
    go_enter Try.func26, Try.ntmps26
    go_wp2_with fail
    refine (implLine_any _ _ (by unfold maxLen; omega) _).mono ?_
    rintro e w1 ⟨rfl, hb1⟩
    rw [HL.out]
    obtain ⟨k1, k2⟩ := keepC hb1 (g := w.heap.size + 1) (by simp)
    obtain ⟨k3, _⟩ := keepC hb1 (g := w.heap.size) (by simp; omega)
    have hs1 : w.heap.size + 1 < w1.heap.size := by have := hb1.size; simp at this; omega
    have HB1 := Lib.hid (bthen (((Below.refl _ w).alloc (Nat.le_refl _) _).alloc (by simp) _) hb1 (by simp; omega))
    clear hb1
    go_wp2_with fail
    refine (held_any _ _ _).mono ?_
    rintro e w2 ⟨rfl, hb2⟩
    obtain ⟨q1, q2⟩ := keepC hb2 (g := w.heap.size + 1) hs1
    have hs2 : w.heap.size + 1 < w2.heap.size := by have := hb2.size; omega
    have HB2 := Lib.hid (bthen HB1.out hb2 (by omega))
    clear hb2 HB1
    go_wp2_with fail
    refine (length_any _ hs _).mono ?_
    rintro e wx ⟨rfl, rfl⟩
    go_wp2
    all_goals try (exfalso; omega)
    exact bodyPost_ret (v := illV 6) (by simp [results, Try.results26, go_sem, q1, k1, illV, hs2]) rfl
      ⟨rfl, by repeat (first | exact HB2.out | refine Below.alloc (B := w.heap.size) ?_ (by first | omega | (simp [World.setCell]; omega)) _ | refine Below.setCell (B := w.heap.size) (p := ⟨w.heap.size + 1, _, none⟩) ?_ (by simp) _)⟩
theorem swAt_eq' (s : ByteArray) (k : Nat) (hk : k ≤ s.size) (hn : 2 ≤ s.size) (hk0 : 0 < k) :
    (if (s.size : Int) - 1 < (k : Int) then (s.size : Int) - 1 else (k : Int)) = ((swAt s k + 1 : Nat) : Int) := by
  rw [← (swAt_eq s k hk hn hk0).2]
  split <;> split <;> omega
set_option maxHeartbeats 1600000 in
theorem implSwap_any (s : ByteArray) (a : Int) (hs : s.size ≤ maxLen) (w : World) :
    Calls Try.prog 26 #[.agg #[.string s, .int .i64 a]] w fun e w' => e = .returned (swV s a) ∧ Below w.heap.size w w' := by
  have H := Lib.hid hs
  cases hl : lineB s a
  · have HV := Lib.hid (show swV s a = illV 1 by unfold swV; rw [if_pos hl])
    go_enter Try.func26, Try.ntmps26
    go_wp2_with fail
    refine (implLine_any _ _ H.out _).mono ?_
    rintro e w1 ⟨rfl, hb1⟩
    rw [hl]
    obtain ⟨k1, k2⟩ := keepC hb1 (g := w.heap.size + 1) (by simp)
    have HB1 := Lib.hid (bthen (((Below.refl _ w).alloc (Nat.le_refl _) _).alloc (by simp) _) hb1 (by simp; omega))
    clear hb1
    go_wp2
    exact bodyPost_ret (v := illV 1) (by simp [results, Try.results26, go_sem, k1, illV]) rfl
      ⟨by rw [HV.out], by repeat (first | exact HB1.out | refine Below.setCell (B := w.heap.size) (p := ⟨w.heap.size + 1, _, none⟩) ?_ (by simp) _)⟩
  · obtain ⟨h6, hp, h0, hn⟩ := lineB_ok hl
    obtain ⟨k, rfl⟩ : ∃ k : Nat, a = k := ⟨a.toNat, by omega⟩
    by_cases hz : s.size < 2 ∨ (k : Int) = 0
    · rw [show swV s k = illV 6 by unfold swV; rw [if_neg (by rw [hl]; simp), if_pos hz]]
      exact implSwap_none s k h6 hl (by omega) w
    · rw [show swV s k = .agg #[.string (swT s (swAt s k)), .int .i64 ((swAt s k : Nat) + 2 : Int), .string ⟨#[]⟩, .int .i64 0] by unfold swV; rw [if_neg (by rw [hl]; simp), if_neg hz]; rfl]
      obtain ⟨e1, _⟩ := swAt_eq s k (by omega) (by omega) (by omega)
      exact implSwap_in s k (swAt s k) h6 (by omega) (by omega) e1 hl (swAt_eq' s k (by omega) (by omega) (by omega)) w
end Go.Proofs.Ytnnmcenmnmmfpaa.line
