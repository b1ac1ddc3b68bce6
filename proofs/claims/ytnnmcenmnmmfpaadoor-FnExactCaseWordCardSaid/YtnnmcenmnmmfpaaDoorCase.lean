/-
  CaseWord of the model: its answer, for every line that the row reads.
-/
import Derived.Test.YtnnmcenmnmmfpaaDoorWordsOn
import Derived.Test.YtnnmcenmnmmfpaaDoorInsert
import Derived.Test.YtnnmcenmnmmfpaaDoorBytesOf
import Derived.Lib.Case
namespace Go.Proofs.YtnnmcenmnmmfpaaDoor.line
open Go.ChangeShapes Go.WideShapes Go.ChangeAt Go.RowKit
/-- a letter made upper case (lower case) -/
def cN (u : Bool) (b : Nat) : Nat := if u then (if 97 ≤ b ∧ b ≤ 122 then b - 32 else b) else (if 65 ≤ b ∧ b ≤ 90 then b + 32 else b)
theorem cN_lt (u : Bool) (b : Nat) (h : b < 256) : cN u b < 256 := by unfold cN; split <;> split <;> omega
/-- the byte at j, when those from a on, ahead of i, are done -/
def rv (u : Bool) (s : ByteArray) (a i j : Nat) : Nat := if a ≤ j ∧ j < i then cN u (byteAt s j) else byteAt s j
theorem rv_lt (u : Bool) (s : ByteArray) (a i j : Nat) : rv u s a i j < 256 := by
  unfold rv; split
  · exact cN_lt _ _ (byteAt_lt s j)
  · exact byteAt_lt s j
theorem rv_at (u : Bool) (s : ByteArray) (a i : Nat) : rv u s a i i = byteAt s i := if_neg (by omega)
theorem rv_zero (u : Bool) (s : ByteArray) (a j : Nat) : rv u s a a j = byteAt s j := if_neg (by omega)
theorem rv_new (u : Bool) (s : ByteArray) (a i : Nat) (h : a ≤ i) : rv u s a (i + 1) i = cN u (byteAt s i) := if_pos (by omega)
theorem rv_old (u : Bool) (s : ByteArray) (a i j : Nat) (h : j ≠ i) : rv u s a (i + 1) j = rv u s a i j := by
  unfold rv
  by_cases hh : a ≤ j ∧ j < i
  · rw [if_pos hh, if_pos (by omega)]
  · rw [if_neg hh, if_neg (by omega)]
def caseT (u : Bool) (s : ByteArray) (a t : Nat) : ByteArray := ⟨((List.range s.size).map fun j => UInt8.ofNat (rv u s a t j)).toArray⟩
/-- the row's bytes so far; the answer's block as it was made; all that was there as it was -/
structure CS (w : World) (g : Nat) (u : Bool) (s : ByteArray) (a : Nat) (w' : World) (i : Nat) : Prop where
  cell : ∀ j, j < s.size → w'.cell? ⟨g, j, none⟩ = some (.int .u8 (rv u s a i j : Nat))
  frz : ∀ j, j < s.size → w'.frozen? ⟨g, j, none⟩ = false
  res : ∀ o, w'.cell? ⟨w.heap.size + 1, o, none⟩ = #[Value.string ⟨#[]⟩, .int .i64 0, .string ⟨#[]⟩, .int .i64 0][o]?
  resf : ∀ o, w'.frozen? ⟨w.heap.size + 1, o, none⟩ = false
  bel : Below w.heap.size w w'
theorem CS.set {w : World} {g : Nat} {u : Bool} {s : ByteArray} {a : Nat} {w' : World} {i : Nat} (h : CS w g u s a w' i) (hg : w.heap.size + 1 < g) (hi : i < s.size) (ha : a ≤ i) :
    CS w g u s a (w'.setCell ⟨g, i, none⟩ (.int .u8 (cN u (byteAt s i) : Nat))) (i + 1) where
  cell j hj := by
    by_cases e : j = i
    · subst e
      rw [set_same (h.cell j hj), rv_new u s a j ha]
    · rw [set_other (show (⟨g, i, none⟩ : Addr) ≠ ⟨g, j, none⟩ from fun x => by injection x; omega), h.cell j hj, rv_old u s a i j e]
  frz j hj := by rw [World.frozen?_setCell]; exact h.frz j hj
  res o := by rw [set_other (show (⟨g, i, none⟩ : Addr) ≠ ⟨w.heap.size + 1, o, none⟩ from fun x => by injection x; omega)]; exact h.res o
  resf o := by rw [World.frozen?_setCell]; exact h.resf o
  bel := h.bel.setCell (p := ⟨g, i, none⟩) (show w.heap.size ≤ g by omega) _
theorem CS.skip {w : World} {g : Nat} {u : Bool} {s : ByteArray} {a : Nat} {w' : World} {i : Nat} (h : CS w g u s a w' i) (ha : a ≤ i) (he : cN u (byteAt s i) = byteAt s i) : CS w g u s a w' (i + 1) where
  cell j hj := by
    by_cases e : j = i
    · subst e; rw [h.cell j hj, rv_new u s a j ha, he, rv_at]
    · rw [h.cell j hj, rv_old u s a i j e]
  frz := h.frz
  res := h.res
  resf := h.resf
  bel := h.bel
theorem conv_case {w : World} {g : Nat} {u : Bool} {s : ByteArray} {a : Nat} {w' : World} {t : Nat} (h : CS w g u s a w' t) (C : Nat) :
    (convert 44 9 (.slice (some ⟨g, 0, none⟩) s.size C)).run Tryd.prog w' = .ok (.string (caseT u s a t)) w' := by
  have hlen : ((List.range s.size).map fun j => UInt8.ofNat (rv u s a t j)).length = s.size := by simp
  have := conv_row (P := Tryd.prog) (w := w') (g := g) (cap := C) 44 5 Tryd.underlying44 Tryd.underlying5 ((List.range s.size).map fun j => UInt8.ofNat (rv u s a t j)) (fun i hi => by
    rw [hlen] at hi
    rw [h.cell i hi]
    have hr := rv_lt u s a t i
    rw [List.getD_eq_getElem?_getD, List.getElem?_map, List.getElem?_range hi]
    simp [UInt8.toNat_ofNat', Nat.mod_eq_of_lt hr]) 9 Tryd.underlying9
  rw [hlen] at this
  exact this
def caseOk (u : Bool) (s : ByteArray) (a : Nat) : Value := .agg #[.string (caseT u s a (onN s a)), .int .i64 (onN s a : Nat), .string ⟨#[]⟩, .int .i64 0]
noncomputable def caseV (s : ByteArray) (a : Int) (u : Bool) : Value :=
  if lineB s a = false then illV 1
  else if onN s a.toNat = a.toNat then illV 6
  else caseOk u s a.toNat
theorem caseV_form (s : ByteArray) (a : Int) (u : Bool) : ∃ x i g c, caseV s a u = .agg #[.string x, .int .i64 i, .string g, .int .i64 c] := by
  unfold caseV illV caseOk; split
  · exact ⟨_, _, _, _, rfl⟩
  · split <;> exact ⟨_, _, _, _, rfl⟩
set_option maxHeartbeats 1600000 in
theorem specCase_none (s : ByteArray) (k : Nat) (u : Bool) (hs : s.size ≤ 60) (hk : k ≤ s.size) (hn : onN s k = k) (w : World) :
    Calls Tryd.prog 11 #[.agg #[.string s, .int .i64 k], .bool u] w fun e w' => e = .returned (illV 6) ∧ Below w.heap.size w w' := by
  have HN := Lib.hid hn
  clear hn
  go_enter Tryd.func11, Tryd.ntmps11
  go_wp2_with fail
  refine (specOn_any s k hs hk _).mono ?_
  rintro e w1 ⟨rfl, hb1⟩
  rw [HN.out]
  obtain ⟨k1, k2⟩ := keepC hb1 (g := w.heap.size + 1) (by simp)
  obtain ⟨k3, _⟩ := keepC hb1 (g := w.heap.size) (by simp; omega)
  have hs1 : w.heap.size + 1 < w1.heap.size := by have := hb1.size; simp at this; omega
  have HB1 := Lib.hid (bthen (((Below.refl _ w).alloc (Nat.le_refl _) _).alloc (by simp) _) hb1 (by simp; omega))
  clear hb1
  go_wp2_with fail
  refine (ill_any _ _).mono ?_
  rintro e w2 ⟨rfl, hb2⟩
  obtain ⟨q1, q2⟩ := keepC hb2 (g := w.heap.size + 1) hs1
  have HB2 := Lib.hid (bthen HB1.out hb2 (by omega))
  clear hb2 HB1
  go_wp2
  exact bodyPost_ret (v := illV 6) (by simp [results, Tryd.results11, go_sem, q1, k1, illV]) rfl
    ⟨rfl, by repeat (first | exact HB2.out | refine Below.setCell (B := w.heap.size) (p := ⟨w.heap.size + 1, _, none⟩) ?_ (by simp) _)⟩
set_option maxHeartbeats 4000000 in
theorem specCase_in (s : ByteArray) (k t : Nat) (u : Bool) (hs : s.size ≤ 60) (hk : k ≤ s.size) (hn : onN s k = t) (hkt : k < t) (htn : t ≤ s.size) (w : World) :
    Calls Tryd.prog 11 #[.agg #[.string s, .int .i64 k], .bool u] w fun e w' =>
      e = .returned (.agg #[.string (caseT u s k t), .int .i64 (t : Nat), .string ⟨#[]⟩, .int .i64 0]) ∧ Below w.heap.size w w' := by
  have HN := Lib.hid hn
  have hne : ((t : Int) == (k : Int)) = false := by simp; omega
  clear hn
  obtain ⟨T, hT⟩ : ∃ T, T = caseT u s k t := ⟨_, rfl⟩
  rw [← hT]
  have HT := Lib.hid hT
  clear hT
  go_enter Tryd.func11, Tryd.ntmps11
  go_wp2_with fail
  refine (specOn_any s k hs hk _).mono ?_
  rintro e w1 ⟨rfl, hb1⟩
  rw [HN.out]
  obtain ⟨k1, k2⟩ := keepC hb1 (g := w.heap.size + 1) (by simp)
  obtain ⟨k3, _⟩ := keepC hb1 (g := w.heap.size) (by simp; omega)
  have hs1 : w.heap.size + 1 < w1.heap.size := by have := hb1.size; simp at this; omega
  have HB1 := Lib.hid (bthen (((Below.refl _ w).alloc (Nat.le_refl _) _).alloc (by simp) _) hb1 (by simp; omega))
  clear hb1
  have hcv := Lib.run_convert_string_bytes (P := Tryd.prog) w1 9 44 5 s Tryd.underlying9 Tryd.underlying44 Tryd.underlying5
  obtain ⟨hbel, hzB, hcB, hfB⟩ := bw_facts w1 s
  obtain ⟨WB, hWB⟩ : ∃ WB, WB = Lib.bytesWorld w1 5 s := ⟨_, rfl⟩
  obtain ⟨C, hC⟩ : ∃ C, C = grownCap w1 s.size 0 5 := ⟨_, rfl⟩
  obtain ⟨g, hg⟩ : ∃ g, g = w1.heap.size := ⟨_, rfl⟩
  rw [← hWB, ← hC] at hcv
  rw [← hWB] at hbel hzB hcB hfB
  rw [← hg] at hcv hcB hfB
  obtain ⟨z1, z2⟩ := keepC hbel (g := w.heap.size + 1) (by omega)
  obtain ⟨z3, _⟩ := keepC hbel (g := w.heap.size) (by omega)
  have b0 : WB.cell? ⟨w.heap.size, 0, none⟩ = some (.string s) := by rw [z3, k3, World.cell?_alloc_past _ _ _ (by simp), World.cell?_alloc_at _ _ _ _ (by simp)]; rfl
  have b1 : WB.cell? ⟨w.heap.size, 1, none⟩ = some (.int .i64 k) := by rw [z3, k3, World.cell?_alloc_past _ _ _ (by simp), World.cell?_alloc_at _ _ _ _ (by simp)]; rfl
  have CS0 : CS w g u s k WB k := by
    refine ⟨fun j hj => ?_, hfB, fun o => ?_, fun o => ?_, bthen HB1.out hbel (by omega)⟩
    · rw [rv_zero]; exact hcB j hj
    · rw [z1, k1, World.cell?_alloc_at _ _ _ _ (by simp)]
    · rw [z2, k2, World.frozen?_alloc_at _ _ _ _ (by simp)]
  have HC := Lib.hid CS0
  have hgw : w.heap.size + 1 < g := by omega
  clear hbel hzB hcB hfB hWB hC hg z1 z2 z3 CS0 k1 k2
  go_wp2
  clear hcv b0 b1 k3
  go_loopw [7] (fun i w' => ∃ n : Nat, k ≤ n ∧ n ≤ t ∧ i = .int .i64 n ∧ CS w g u s k w' n) (fun i _ => t - (intOf i).toNat)
  case atStart => exact ⟨k, Nat.le_refl _, by omega, rfl, HC.out⟩
  case round =>
    obtain ⟨n, hkn, hnt, rfl, HS⟩ := hrel
    rename_i w2
    have HS := Lib.hid HS
    by_cases hlt : n < t
    · have hns : n < s.size := by omega
      have hc := HS.out.cell n hns
      have hf := HS.out.frz n hns
      rw [rv_at] at hc
      have hb := byteAt_lt s n
      have hset := HS.out.set hgw hns hkn
      have hskip := HS.out.skip hkn
      obtain ⟨c, hcc⟩ : ∃ c : Nat, c = byteAt s n := ⟨_, rfl⟩
      rw [← hcc] at hc hb hset hskip
      have HSET := Lib.hid hset
      have HSK := Lib.hid hskip
      clear hset hskip hcc
      cases u
      · by_cases h1 : 65 ≤ c ∧ c ≤ 90
        · have e1 : ((cN false c : Nat) : Int) = (c : Int) + 32 := by unfold cN; rw [if_neg (by simp), if_pos h1]; omega
          have HE := Lib.hid e1
          obtain ⟨h1, h2⟩ := h1
          clear e1
          go_wp2
          all_goals first
            | (exfalso; omega)
            | (go_roundw
               case rel => exact ⟨n + 1, by omega, by omega, by go_num, by have q := HSET.out; rw [HE.out] at q; exact q⟩
               case measure => simp [intOf]; omega)
        · have HE := Lib.hid (show cN false c = c by unfold cN; rw [if_neg (by simp), if_neg h1])
          have h2 : ¬ (65 ≤ c) ∨ ¬ (c ≤ 90) := by omega
          clear h1
          go_wp2
          all_goals first
            | (exfalso; omega)
            | (go_roundw
               case rel => exact ⟨n + 1, by omega, by omega, by go_num, HSK.out HE.out⟩
               case measure => simp [intOf]; omega)
      · by_cases h1 : 97 ≤ c ∧ c ≤ 122
        · have e1 : ((cN true c : Nat) : Int) = (c : Int) - 32 := by unfold cN; rw [if_pos rfl, if_pos h1]; omega
          have HE := Lib.hid e1
          obtain ⟨h1, h2⟩ := h1
          clear e1
          go_wp2
          all_goals first
            | (exfalso; omega)
            | (go_roundw
               case rel => exact ⟨n + 1, by omega, by omega, by go_num, by have q := HSET.out; rw [HE.out] at q; exact q⟩
               case measure => simp [intOf]; omega)
        · have HE := Lib.hid (show cN true c = c by unfold cN; rw [if_pos rfl, if_neg h1])
          have h2 : ¬ (97 ≤ c) ∨ ¬ (c ≤ 122) := by omega
          clear h1
          go_wp2
          all_goals first
            | (exfalso; omega)
            | (go_roundw
               case rel => exact ⟨n + 1, by omega, by omega, by go_num, HSK.out HE.out⟩
               case measure => simp [intOf]; omega)
    · obtain rfl : n = t := by omega
      have hcs := conv_case HS.out C
      rw [← HT.out] at hcs
      have d0 := HS.out.res
      have d1 := HS.out.resf
      go_wp2
      exact bodyPost_ret (v := .agg #[.string T, .int .i64 (n : Nat), .string ⟨#[]⟩, .int .i64 0]) (by simp [results, Tryd.results11, go_sem, d0]) rfl
        ⟨rfl, (((HS.out.bel.setCell (p := ⟨w.heap.size + 1, 0, none⟩) (by simp) _).setCell (p := ⟨w.heap.size + 1, 1, none⟩) (by simp) _).setCell (p := ⟨w.heap.size + 1, 2, none⟩) (by simp) _).setCell (p := ⟨w.heap.size + 1, 3, none⟩) (by simp) _⟩
end Go.Proofs.YtnnmcenmnmmfpaaDoor.line
