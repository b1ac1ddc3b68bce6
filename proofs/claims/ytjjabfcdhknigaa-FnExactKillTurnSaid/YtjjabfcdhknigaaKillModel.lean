/-
  The model's KillPut, KillTop, KillTurn. For every Kills of at most a million texts. Written by wip/tool/gen_killmodel.py.
-/
import Derived.Test.YtjjabfcdhknigaaKillPut
import Derived.Test.YtjjabfcdhknigaaKillPut1
namespace Go.Proofs.Ytjjabfcdhknigaa.kill
open Go.ChangeShapes Go.WideShapes Go.ChangeAt Go.RowKit
open Go.Proofs.Ytjjabfcdhknigaa.strs Go.Proofs.Ytjjabfcdhknigaa.line
noncomputable def specPutV (l : List ByteArray) (t : Int) (x : ByteArray) (more : Int) : List ByteArray × Int := if killsB l t = true ∧ textB x = true then putV l t x more else (l, t)
noncomputable def specTurnV (l : List ByteArray) (t : Int) : Int := if killsB l t = true then turnT l.length t else t
noncomputable def topV (l : List ByteArray) (t : Int) : ByteArray := if killsB l t = true then (l[t.toNat]?.getD ⟨#[]⟩) else ⟨#[]⟩
theorem killsB_parts {l : List ByteArray} {t : Int} (h : killsB l t = true) : l.length ≤ 5 ∧ ((0 ≤ t ∧ t ≤ (l.length : Int) - 1) ∨ (l.length = 0 ∧ t = 0)) := by
  unfold killsB topB at h
  simp only [Bool.and_eq_true, Bool.or_eq_true, decide_eq_true_eq] at h
  omega
/-- a text of a list may be looked up -/
theorem top_any (a : Option Addr) (C : Nat) (l : List ByteArray) (t : Int) (hn : l.length ≤ 1048576) (ht : (0 ≤ t ∧ t ≤ (l.length : Int) - 1) ∨ (l.length = 0 ∧ t = 0)) (w : World) (h : SRow w a l) :
    Calls Try.prog 30 #[kV a l.length C t] w fun e w' => e = .returned (.string (l[t.toNat]?.getD ⟨#[]⟩)) ∧ Below w.heap.size w w' := by
  have hal := (Below.refl _ w).alloc (Nat.le_refl _) (.cells #[.slice a l.length C, .int .i64 t] 27)
  have HA := Lib.hid (h.below hal)
  have HB := Lib.hid hal
  unfold kV
  obtain ⟨n, hn'⟩ : ∃ n, n = l.length := ⟨_, rfl⟩
  have HN := Lib.hid hn'
  rw [← hn'] at HA HB hn ht ⊢
  clear h hal hn'
  by_cases hz : n = 0
  · have hl : l = [] := List.eq_nil_of_length_eq_zero (by rw [← HN.out]; exact hz)
    have HV := Lib.hid (show l[t.toNat]?.getD ⟨#[]⟩ = (⟨#[]⟩ : ByteArray) by rw [hl]; rfl)
    have hb : ((n : Int) == 0) = true := by simpa using hz
    clear hz hl ht
    go_enter Try.func30, Try.ntmps30
    go_wp2
    rw [HV.out]
    exact bodyPost_ret (v := .string ⟨#[]⟩) (by simp [results, Try.results30, go_sem]) rfl ⟨rfl, HB.out⟩
  · obtain ⟨k, hk⟩ : ∃ k : Nat, t = k := ⟨t.toNat, by omega⟩
    subst hk
    have hkl : k < l.length := by rw [← HN.out]; omega
    have hkn : k < n := by omega
    obtain ⟨g, o, rfl, c0⟩ := HA.out.at hkl
    have HV := Lib.hid (show l[(k : Int).toNat]?.getD ⟨#[]⟩ = l[k] by rw [Int.toNat_natCast, List.getElem?_eq_getElem hkl]; rfl)
    obtain ⟨s, hs⟩ : ∃ s, s = l[k] := ⟨_, rfl⟩
    rw [← hs] at c0 HV
    have hb : ((n : Int) == 0) = false := by simpa using hz
    clear hs hkl hz ht
    go_enter Try.func30, Try.ntmps30
    go_wp2
    go_ret
    exact ⟨by rw [HV.out]; rfl, HB.out⟩
set_option maxRecDepth 20000 in
set_option maxHeartbeats 3200000 in
theorem specTurn_any (a : Option Addr) (C : Nat) (l : List ByteArray) (t : Int) (hz : a = none → C = 0 ∧ l = []) (hn : l.length ≤ 1048576) (hl : ∀ s ∈ l, s.size ≤ 1048576) (ht : -9223372036854775808 ≤ t ∧ t ≤ 9223372036854775807) (w : World) (h : SRow w a l) :
    Calls Try.prog 14 #[kV a l.length C t] w fun e w' => ∃ a' c', e = .returned (kV a' l.length c' (specTurnV l t)) ∧ KR w.heap.size w' a' c' l ∧ Below w.heap.size w w' := by
  have hal := ((Below.refl _ w).alloc (Nat.le_refl _) (.cells #[.slice a l.length C, .int .i64 t] 27)).alloc (by simp) (.cells #[.slice none 0 0, .int .i64 0] 27)
  have HK := Lib.hid (specKills_any a C l t hn (fun s hs => by have := hl s hs; unfold maxLen; omega) _ (h.below hal))
  have HC := Lib.hid (fun w1 (hb : Below w.heap.size w w1) => copy_any a C l t hz hn w1 (h.below hb))
  have HT := Lib.hid (fun w1 (hb : Below w.heap.size w w1) => by simpa only [KO] using turn_any a C l t hz hn ht w1 (h.below hb))
  have HB := Lib.hid hal
  unfold kV at *
  obtain ⟨n, hn'⟩ : ∃ n, n = l.length := ⟨_, rfl⟩
  have HN := Lib.hid hn'
  rw [← hn'] at HK HC HT HB hn ⊢
  clear h hal hl hn' hz
  cases hb : killsB l t
  · have HV := Lib.hid (show specTurnV l t = t by unfold specTurnV; rw [if_neg (by rw [hb]; decide)])
    rw [hb] at HK
    clear hb
    go_enter Try.func14, Try.ntmps14
    go_wp2_with fail
    refine HK.out.mono ?_
    rintro e w1 ⟨rfl, hb1⟩
    obtain ⟨p0, q0⟩ := keepC hb1 (g := w.heap.size) (by simp; omega)
    obtain ⟨p1, q1⟩ := keepC hb1 (g := w.heap.size + 1) (by simp)
    have z1 : w.heap.size + 1 < w1.heap.size := by have := hb1.size; simp at this; omega
    have hx := bthen HB.out hb1 (by simp; omega)
    have HC2 := Lib.hid (HC.out w1 hx)
    have HX := Lib.hid hx
    clear hb1 hx
    go_wp2_with fail
    refine HC2.out.mono ?_
    rintro e w2 ⟨a', c', rfl, ho, hb2⟩
    have hz1 := HX.out.size
    obtain ⟨r1, s1⟩ := keepC hb2 (g := w.heap.size + 1) z1
    have z2 : w.heap.size + 1 < w2.heap.size := Nat.lt_of_lt_of_le z1 hb2.size
    have HO := Lib.hid ho
    have HX2 := Lib.hid (bthen HX.out hb2 hz1)
    clear hb2 ho
    go_wp2
    rw [HV.out]
    exact bodyPost_ret (v := .agg #[.slice a' n c', .int .i64 t]) (by simp [results, Try.results14, go_sem, r1, p1]) rfl ⟨a', c', rfl, (((own_krN HN.out HO.out).set (by omega)).set (by omega)).lo (by omega), ((HX2.out.setCell (p := ⟨w.heap.size + 1, 0, none⟩) (show w.heap.size ≤ w.heap.size + 1 by omega) _).setCell (p := ⟨w.heap.size + 1, 1, none⟩) (show w.heap.size ≤ w.heap.size + 1 by omega) _)⟩
  · have HV := Lib.hid (show specTurnV l t = turnT n t by unfold specTurnV; rw [if_pos hb, HN.out])
    rw [hb] at HK
    clear hb
    obtain ⟨T, hT⟩ : ∃ T, T = turnT n t := ⟨_, rfl⟩
    rw [← hT] at HV HT
    clear hT
    go_enter Try.func14, Try.ntmps14
    go_wp2_with fail
    refine HK.out.mono ?_
    rintro e w1 ⟨rfl, hb1⟩
    obtain ⟨p0, q0⟩ := keepC hb1 (g := w.heap.size) (by simp; omega)
    obtain ⟨p1, q1⟩ := keepC hb1 (g := w.heap.size + 1) (by simp)
    have z1 : w.heap.size + 1 < w1.heap.size := by have := hb1.size; simp at this; omega
    have hx := bthen HB.out hb1 (by simp; omega)
    have HC2 := Lib.hid (HT.out w1 hx)
    have HX := Lib.hid hx
    clear hb1 hx
    go_wp2_with fail
    refine HC2.out.mono ?_
    rintro e w2 ⟨a', c', rfl, ho, hb2⟩
    have hz1 := HX.out.size
    obtain ⟨r1, s1⟩ := keepC hb2 (g := w.heap.size + 1) z1
    have z2 : w.heap.size + 1 < w2.heap.size := Nat.lt_of_lt_of_le z1 hb2.size
    have HO := Lib.hid ho
    have HX2 := Lib.hid (bthen HX.out hb2 hz1)
    clear hb2 ho
    go_wp2
    rw [HV.out]
    exact bodyPost_ret (v := .agg #[.slice a' n c', .int .i64 T]) (by simp [results, Try.results14, go_sem, r1, p1]) rfl ⟨a', c', rfl, (((own_krN HN.out HO.out).set (by omega)).set (by omega)).lo (by omega), ((HX2.out.setCell (p := ⟨w.heap.size + 1, 0, none⟩) (show w.heap.size ≤ w.heap.size + 1 by omega) _).setCell (p := ⟨w.heap.size + 1, 1, none⟩) (show w.heap.size ≤ w.heap.size + 1 by omega) _)⟩
set_option maxRecDepth 20000 in
set_option maxHeartbeats 3200000 in
theorem specTop_any (a : Option Addr) (C : Nat) (l : List ByteArray) (t : Int) (hn : l.length ≤ 1048576) (hl : ∀ s ∈ l, s.size ≤ 1048576) (w : World) (h : SRow w a l) :
    Calls Try.prog 12 #[kV a l.length C t] w fun e w' => e = .returned (.string (topV l t)) ∧ Below w.heap.size w w' := by
  have hal := ((Below.refl _ w).alloc (Nat.le_refl _) (.cells #[.slice a l.length C, .int .i64 t] 27))
  have HK := Lib.hid (specKills_any a C l t hn (fun s hs => by have := hl s hs; unfold maxLen; omega) _ (h.below hal))
  have HT := Lib.hid (fun ht w1 (hb : Below w.heap.size w w1) => top_any a C l t hn ht w1 (h.below hb))
  have HB := Lib.hid hal
  unfold kV at *
  obtain ⟨n, hn'⟩ : ∃ n, n = l.length := ⟨_, rfl⟩
  have HN := Lib.hid hn'
  rw [← hn'] at HK HT HB hn ⊢
  clear h hal hl hn'
  cases hb : killsB l t
  · have HV := Lib.hid (show topV l t = ⟨#[]⟩ by unfold topV; rw [if_neg (by rw [hb]; decide)])
    rw [hb] at HK
    clear hb
    go_enter Try.func12, Try.ntmps12
    go_wp2_with fail
    refine HK.out.mono ?_
    rintro e w1 ⟨rfl, hb1⟩
    have HX := Lib.hid (bthen HB.out hb1 (by simp))
    clear hb1
    go_wp2
    go_ret
    exact ⟨by rw [HV.out]; rfl, HX.out⟩
  · have hp := (killsB_parts hb).2
    rw [← HN.out] at hp
    have HT2 := Lib.hid (HT.out hp)
    have HV := Lib.hid (show topV l t = l[t.toNat]?.getD ⟨#[]⟩ by unfold topV; rw [if_pos hb])
    rw [hb] at HK
    clear hb HT hp
    obtain ⟨T, hT⟩ : ∃ T, T = l[t.toNat]?.getD ⟨#[]⟩ := ⟨_, rfl⟩
    rw [← hT] at HV HT2
    clear hT
    go_enter Try.func12, Try.ntmps12
    go_wp2_with fail
    refine HK.out.mono ?_
    rintro e w1 ⟨rfl, hb1⟩
    obtain ⟨p0, q0⟩ := keepC hb1 (g := w.heap.size) (by simp)
    have hx := bthen HB.out hb1 (by simp)
    have HT3 := Lib.hid (HT2.out w1 hx)
    have HX := Lib.hid hx
    clear hb1 hx
    go_wp2_with fail
    refine HT3.out.mono ?_
    rintro e w2 ⟨rfl, hb2⟩
    have HX2 := Lib.hid (bthen HX.out hb2 HX.out.size)
    clear hb2
    go_wp2
    go_ret
    exact ⟨by rw [HV.out]; rfl, HX2.out⟩
end Go.Proofs.Ytjjabfcdhknigaa.kill
