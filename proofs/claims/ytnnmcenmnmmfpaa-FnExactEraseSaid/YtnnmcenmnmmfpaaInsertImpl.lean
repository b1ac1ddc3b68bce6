/-
  Insert of the program, and the walk of Insert's law. For every line, every text that the row reads.
-/
import Derived.Test.YtnnmcenmnmmfpaaInsert
import Derived.Deep.RegionHeld3
namespace Go.Proofs.Ytnnmcenmnmmfpaa.line
open Go.ChangeShapes Go.WideShapes Go.ChangeAt Go.RowKit
open Go.Proofs.Ytnnmcenmnmmfpaa.join
set_option maxHeartbeats 2000000 in
theorem implIns_in (s : ByteArray) (k : Nat) (t : ByteArray) (hs : s.size ≤ 60) (ht : t.size ≤ 60) (hk : k ≤ s.size) (hl : lineB s k = true) (hx : textB t = true) (h6 : s.size + t.size ≤ 60) (w : World) :
    Calls Try.prog 17 #[.agg #[.string s, .int .i64 k], .string t] w fun e w' =>
      e = .returned (.agg #[.string (insT s t k), .int .i64 ((k : Int) + t.size), .string ⟨#[]⟩, .int .i64 0]) ∧ Below w.heap.size w w' := by
  obtain ⟨T, hT⟩ : ∃ T, T = insT s t k := ⟨_, rfl⟩
  rw [← hT]
  have HT := Lib.hid hT
  clear hT
  have HL := Lib.hid hl
  have HX := Lib.hid hx
  clear hl hx
  go_enter Try.func17, Try.ntmps17
  go_wp2_with fail
  refine (implLine_any _ _ (by unfold maxLen; omega) _).mono ?_
  rintro e w1 ⟨rfl, hb1⟩
  rw [HL.out]
  obtain ⟨k1, k2⟩ := keepC hb1 (g := w.heap.size + 1) (by simp)
  obtain ⟨k3, _⟩ := keepC hb1 (g := w.heap.size) (by simp; omega)
  have hs1 : w.heap.size + 1 < w1.heap.size := by have := hb1.size; simp at this; omega
  have HB1 := Lib.hid (bthen (((Below.refl _ w).alloc (Nat.le_refl _) _).alloc (by simp) _) hb1 (by simp; omega))
  clear hb1
  go_wp2_with fail
  refine (implRight_any _ (by unfold maxLen; omega) _).mono ?_
  rintro e w2 ⟨rfl, hb2⟩
  rw [HX.out]
  obtain ⟨q1, q2⟩ := keepC hb2 (g := w.heap.size + 1) (by omega)
  obtain ⟨q3, _⟩ := keepC hb2 (g := w.heap.size) (by omega)
  have hs2 : w.heap.size + 1 < w2.heap.size := by have := hb2.size; omega
  have HB2 := Lib.hid (bthen HB1.out hb2 (by omega))
  clear hb2 HB1
  go_wp2_with fail
  refine (held_any _ _ _).mono ?_
  rintro e w3 ⟨rfl, hb3⟩
  obtain ⟨r1, r2⟩ := keepC hb3 (g := w.heap.size + 1) (by omega)
  have hs3 : w.heap.size + 1 < w3.heap.size := by have := hb3.size; omega
  have HB3 := Lib.hid (bthen HB2.out hb3 (by omega))
  clear hb3 HB2
  go_wp2
  have c0 : (w3.alloc (.cells #[.string s, .int .i64 k] 43)).cell? ⟨w3.heap.size, 0, none⟩ = some (.string s) := by simp [World.cell?_alloc_mark]
  have c1 : (w3.alloc (.cells #[.string s, .int .i64 k] 43)).cell? ⟨w3.heap.size, 1, none⟩ = some (.int .i64 k) := by simp [World.cell?_alloc_mark]
  have d0 : ∀ o, (w3.alloc (.cells #[.string s, .int .i64 k] 43)).cell? ⟨w.heap.size + 1, o, none⟩ = #[Value.string ⟨#[]⟩, .int .i64 0, .string ⟨#[]⟩, .int .i64 0][o]? := by
    intro o
    rw [World.cell?_alloc_past _ _ _ hs3, r1, q1, k1, World.cell?_alloc_at _ _ _ _ (by simp)]
  have d1 : ∀ o, (w3.alloc (.cells #[.string s, .int .i64 k] 43)).frozen? ⟨w.heap.size + 1, o, none⟩ = false := by
    intro o
    rw [World.frozen?_alloc_past _ _ _ hs3, r2, q2, k2, World.frozen?_alloc_at _ _ _ _ (by simp)]
  have hz : w3.heap.size < (w3.alloc (.cells #[.string s, .int .i64 k] 43)).heap.size := by simp
  have HB4 := Lib.hid (HB3.out.alloc (by omega) (.cells #[.string s, .int .i64 k] 43))
  obtain ⟨g, hg⟩ : ∃ g, g = w3.heap.size := ⟨_, rfl⟩
  obtain ⟨W, hW⟩ : ∃ W, W = w3.alloc (.cells #[.string s, .int .i64 k] 43) := ⟨_, rfl⟩
  rw [← hg] at c0 c1 hz hs3
  rw [← hW] at c0 c1 d0 d1 hz HB4
  rw [← hg, ← hW]
  clear hg hW r1 r2 q1 q2 q3 k1 k2 k3 HB3
  have hne : w.heap.size + 1 ≠ g := by omega
  have hw : IntKind.i64.wrap ((k : Int) + (t.size : Int)) = (k : Int) + (t.size : Int) := IntWalk.i64_in _ (by omega)
  go_region_held3 (fun w' => w'.cell? ⟨g, 0, none⟩ = some (.string s) ∧ w'.cell? ⟨g, 1, none⟩ = some (.int .i64 k)) (go_keep)
    (first | (go_at_call 33; refine (replacedT_any T s t k k HT.out.symm hs ht hk hk _).mono ?_; rintro e w4 ⟨rfl, hb4⟩; obtain ⟨p1, _⟩ := keepC hb4 (g := g) hz; obtain ⟨p2, p3⟩ := keepC hb4 (g := w.heap.size + 1) (Nat.lt_trans hs3 hz)))
  all_goals
    go_wp2
    exact bodyPost_ret (v := .agg #[.string T, .int .i64 ((k : Int) + t.size), .string ⟨#[]⟩, .int .i64 0]) (by simp [results, Try.results17, go_sem, p2, d0]) rfl
      ⟨rfl, by have hb := bthen HB4.out.drew hb4 HB4.out.size; repeat (first | exact hb | refine Below.setCell (B := w.heap.size) (p := ⟨w.heap.size + 1, _, none⟩) ?_ (by simp) _)⟩
set_option maxHeartbeats 800000 in
theorem implIns_any (s : ByteArray) (a : Int) (t : ByteArray) (hs : s.size ≤ maxLen) (ht : t.size ≤ maxLen) (w : World) :
    Calls Try.prog 17 #[.agg #[.string s, .int .i64 a], .string t] w fun e w' => e = .returned (insV s a t) ∧ Below w.heap.size w w' := by
  have H := Lib.hid hs
  have HT := Lib.hid ht
  unfold maxLen at hs ht
  by_cases h8 : (8000 : Int) < t.size
  · have HV := Lib.hid (show insV s a t = illV 2 by unfold insV; rw [if_pos (by omega)])
    go_enter Try.func17, Try.ntmps17
    go_wp2
    exact bodyPost_ret (v := illV 2) (by simp [results, Try.results17, go_sem, illV]) rfl
      ⟨by rw [HV.out], by repeat (first | exact ((Below.refl _ w).alloc (Nat.le_refl _) _).alloc (by simp) _ | refine Below.setCell (B := w.heap.size) (p := ⟨w.heap.size + 1, _, none⟩) ?_ (by simp) _)⟩
  · cases hl : lineB s a
    · have HV := Lib.hid (show insV s a t = illV 1 by unfold insV; rw [if_neg (by omega), if_pos (.inl hl)])
      go_enter Try.func17, Try.ntmps17
      go_wp2_with fail
      refine (implLine_any _ _ H.out _).mono ?_
      rintro e w1 ⟨rfl, hb1⟩
      rw [hl]
      obtain ⟨k1, k2⟩ := keepC hb1 (g := w.heap.size + 1) (by simp)
      have HB1 := Lib.hid (bthen (((Below.refl _ w).alloc (Nat.le_refl _) _).alloc (by simp) _) hb1 (by simp; omega))
      clear hb1
      go_wp2
      exact bodyPost_ret (v := illV 1) (by simp [results, Try.results17, go_sem, k1, illV]) rfl
        ⟨by rw [HV.out], by repeat (first | exact HB1.out | refine Below.setCell (B := w.heap.size) (p := ⟨w.heap.size + 1, _, none⟩) ?_ (by simp) _)⟩
    · cases hx : textB t
      · have HV := Lib.hid (show insV s a t = illV 1 by unfold insV; rw [if_neg (by omega), if_pos (.inr hx)])
        go_enter Try.func17, Try.ntmps17
        go_wp2_with fail
        refine (implLine_any _ _ H.out _).mono ?_
        rintro e w1 ⟨rfl, hb1⟩
        rw [hl]
        obtain ⟨k1, k2⟩ := keepC hb1 (g := w.heap.size + 1) (by simp)
        have hs1 : w.heap.size + 1 < w1.heap.size := by have := hb1.size; simp at this; omega
        have HB1 := Lib.hid (bthen (((Below.refl _ w).alloc (Nat.le_refl _) _).alloc (by simp) _) hb1 (by simp; omega))
        clear hb1
        go_wp2_with fail
        refine (implRight_any _ HT.out _).mono ?_
        rintro e w2 ⟨rfl, hb2⟩
        rw [hx]
        obtain ⟨q1, q2⟩ := keepC hb2 (g := w.heap.size + 1) hs1
        have HB2 := Lib.hid (bthen HB1.out hb2 (by omega))
        clear hb2 HB1
        go_wp2
        exact bodyPost_ret (v := illV 1) (by simp [results, Try.results17, go_sem, q1, k1, illV]) rfl
          ⟨by rw [HV.out], by repeat (first | exact HB2.out | refine Below.setCell (B := w.heap.size) (p := ⟨w.heap.size + 1, _, none⟩) ?_ (by simp) _)⟩
      · obtain ⟨h6, hp, h0, hn⟩ := lineB_ok hl
        obtain ⟨k, rfl⟩ : ∃ k : Nat, a = k := ⟨a.toNat, by omega⟩
        have ht6 := (textB_ok hx).1
        by_cases hf : (60 : Int) < s.size + t.size
        · have HV := Lib.hid (show insV s k t = illV 9 by unfold insV; rw [if_neg (by omega), if_neg (by rw [hl, hx]; simp), if_pos (by omega)])
          clear hp
          go_enter Try.func17, Try.ntmps17
          go_wp2_with fail
          refine (implLine_any _ _ H.out _).mono ?_
          rintro e w1 ⟨rfl, hb1⟩
          rw [hl]
          obtain ⟨k1, k2⟩ := keepC hb1 (g := w.heap.size + 1) (by simp)
          obtain ⟨k3, _⟩ := keepC hb1 (g := w.heap.size) (by simp; omega)
          have hs1 : w.heap.size + 1 < w1.heap.size := by have := hb1.size; simp at this; omega
          have HB1 := Lib.hid (bthen (((Below.refl _ w).alloc (Nat.le_refl _) _).alloc (by simp) _) hb1 (by simp; omega))
          clear hb1
          go_wp2_with fail
          refine (implRight_any _ HT.out _).mono ?_
          rintro e w2 ⟨rfl, hb2⟩
          rw [hx]
          obtain ⟨q1, q2⟩ := keepC hb2 (g := w.heap.size + 1) hs1
          obtain ⟨q3, _⟩ := keepC hb2 (g := w.heap.size) (by omega)
          have HB2 := Lib.hid (bthen HB1.out hb2 (by omega))
          clear hb2 HB1
          go_wp2
          exact bodyPost_ret (v := illV 9) (by simp [results, Try.results17, go_sem, q1, k1, illV]) rfl
            ⟨by rw [HV.out], by repeat (first | exact HB2.out | refine Below.setCell (B := w.heap.size) (p := ⟨w.heap.size + 1, _, none⟩) ?_ (by simp) _)⟩
        · have hv : insV s k t = .agg #[.string (insT s t k), .int .i64 ((k : Int) + t.size), .string ⟨#[]⟩, .int .i64 0] := by
            unfold insV; rw [if_neg (by omega), if_neg (by rw [hl, hx]; simp), if_neg (by omega)]; rfl
          rw [hv]
          exact implIns_in s k t h6 ht6 (by omega) hl hx (by omega) w
end Go.Proofs.Ytnnmcenmnmmfpaa.line
