/-
  The program's Kills: right ones, the top, turning. For every Kills of at most a million texts.
-/
import Derived.Test.YtjjabfcdhknigaaKillModel
import Derived.Test.YtjjabfcdhknigaaAll
import Derived.Test.YtjjabfcdhknigaaShelf
import Derived.Deep.RegionHeld3
namespace Go.Proofs.Ytjjabfcdhknigaa.kill
open Go.ChangeShapes Go.WideShapes Go.ChangeAt Go.RowKit
open Go.Proofs.Ytjjabfcdhknigaa.strs Go.Proofs.Ytjjabfcdhknigaa.line
theorem draws_below' (B : Nat) (w : World) (q : Nat) : Below B w (w.drewN q) := ⟨rfl, rfl, rfl, Nat.le_refl _, fun _ _ => rfl⟩
def lastT (n : Nat) : Int := max ((n : Int) - 1) 0
def ringB (n : Nat) (t : Int) : Bool := decide (0 ≤ t) && decide (t ≤ lastT n)
theorem ringB_top (n : Nat) (t : Int) : ringB n t = topB n t := by
  unfold ringB topB lastT
  rw [Bool.eq_iff_iff]
  simp only [Bool.and_eq_true, Bool.or_eq_true, decide_eq_true_eq]
  omega
theorem ofKills_any (a : Option Addr) (n C : Nat) (t : Int) (w : World) :
    Calls Try.prog 27 #[kV a n C t] w fun e w' => e = .returned (kV a n C t) ∧ Below w.heap.size w w' := by
  unfold kV
  go_enter Try.func27, Try.ntmps27
  go_wp2
  exact bodyPost_ret (v := kV a n C t) (by simp [kV, results, Try.results27, go_sem]) rfl
    ⟨rfl, ((Below.refl _ w).alloc (Nat.le_refl _) _).alloc (by simp) _⟩
theorem last_any (a : Option Addr) (n C : Nat) (t : Int) (hn : n ≤ 1048576) (w : World) :
    Calls Try.prog 49 #[kV a n C t] w fun e w' => e = .returned (.int .i64 (lastT n)) ∧ Below w.heap.size w w' := by
  unfold kV
  go_enter Try.func49, Try.ntmps49
  go_wp2
  go_ret
  exact ⟨rfl, (Below.refl _ w).alloc (Nat.le_refl _) _⟩
theorem ringRight_any (a : Option Addr) (n C : Nat) (t : Int) (hn : n ≤ 1048576) (w : World) :
    Calls Try.prog 47 #[kV a n C t] w fun e w' => e = .returned (.bool (ringB n t)) ∧ Below w.heap.size w w' := by
  have HL := Lib.hid (fun W => last_any a n C t hn W)
  unfold kV at HL ⊢
  by_cases h0 : 0 ≤ t
  · have HV := Lib.hid (show ringB n t = decide (t ≤ lastT n) by unfold ringB; rw [decide_eq_true h0, Bool.true_and])
    have hd : decide (0 ≤ t) = true := decide_eq_true h0
    obtain ⟨L, hL⟩ : ∃ L, L = lastT n := ⟨_, rfl⟩
    rw [← hL] at HL HV
    clear hL
    go_enter Try.func47, Try.ntmps47
    go_wp2_with fail
    go_region_held3 (fun w' => w'.cell? ⟨w.heap.size, 0, none⟩ = some (.slice a n C) ∧ w'.cell? ⟨w.heap.size, 1, none⟩ = some (.int .i64 t)) (go_keep)
      (first | (go_at_call 49; refine (HL.out _).mono ?_; rintro e w1 ⟨rfl, hb1⟩; obtain ⟨p1, _⟩ := keepC hb1 (g := w.heap.size) (by simp)))
    all_goals
      have HB := Lib.hid (bthen ((Below.refl _ w).alloc (Nat.le_refl _) (.cells #[.slice a n C, .int .i64 t] 46)).drew hb1 (by simp))
      clear p1 hb1
      go_wp2
      go_ret
      exact ⟨by rw [HV.out]; rfl, HB.out⟩
  · have HV := Lib.hid (show ringB n t = false by unfold ringB; rw [decide_eq_false h0, Bool.false_and])
    have HD := Lib.hid (show decide (0 ≤ t) = false from decide_eq_false h0)
    clear h0
    go_enter Try.func47, Try.ntmps47
    go_wp2_with fail
    have hd := HD.out
    go_quiet (fail)
    go_wp2
    go_ret
    exact ⟨by rw [HV.out]; rfl, ((Below.refl _ w).alloc (Nat.le_refl _) _).trans (draws_below' _ _ _)⟩
theorem killsB_all (l : List ByteArray) (t : Int) : killsB l t = (all_.allB 5 l && topB l.length t) := by
  unfold killsB textsB all_.allB
  rw [show all_.goodB = goodB from rfl]
  cases decide ((l.length : Int) ≤ 5) <;> cases l.all goodB <;> rfl
theorem heldRight_any (a : Option Addr) (C : Nat) (l : List ByteArray) (t : Int) (hn : l.length ≤ 1048576) (hl : ∀ s ∈ l, s.size ≤ maxLen) (w : World) (h : SRow w a l) :
    Calls Try.prog 28 #[kV a l.length C t] w fun e w' => e = .returned (.bool (killsB l t)) ∧ Below w.heap.size w w' := by
  have HA := Lib.hid (fun m W (hb : Below w.heap.size w W) => all_.areAllS_any a C l m hn hl W (h.below hb))
  have HR := Lib.hid (fun W => ringRight_any a l.length C t hn W)
  have HV := Lib.hid (killsB_all l t)
  have HT := Lib.hid (ringB_top l.length t)
  rw [HV.out, ← HT.out]
  clear HV HT
  obtain ⟨B, hB⟩ : ∃ B, B = all_.allB 5 l := ⟨_, rfl⟩
  have HA := Lib.hid (fun W (hb : Below w.heap.size w W) => HA.out 5 W hb)
  rw [← hB] at HA ⊢
  obtain ⟨n, hn'⟩ : ∃ n, n = l.length := ⟨_, rfl⟩
  rw [← hn'] at HA HR ⊢
  have hal := (Below.refl _ w).alloc (Nat.le_refl _) (.cells #[.slice a n C, .int .i64 t] 48)
  have HB := Lib.hid hal
  obtain ⟨D, hD⟩ : ∃ D, D = ringB n t := ⟨_, rfl⟩
  rw [← hD] at HR ⊢
  clear hn' hB hn hl h hal hD
  unfold kV at HR ⊢
  cases B
  · go_enter Try.func28, Try.ntmps28
    go_wp2_with fail
    refine (HA.out _ HB.out).mono ?_
    rintro e w1 ⟨rfl, hb⟩
    have HX := Lib.hid (bthen HB.out hb (by simp))
    clear hb
    go_wp2
    go_ret
    exact ⟨rfl, HX.out⟩
  · go_enter Try.func28, Try.ntmps28
    go_wp2_with fail
    refine (HA.out _ HB.out).mono ?_
    rintro e w1 ⟨rfl, hb⟩
    have HX := Lib.hid (bthen HB.out hb (by simp))
    obtain ⟨p0, _⟩ := keepC hb (g := w.heap.size) (by simp)
    clear hb
    go_wp2_with fail
    refine (HR.out _).mono ?_
    rintro e w2 ⟨rfl, hb⟩
    have HX2 := Lib.hid (bthen HX.out hb HX.out.size)
    clear hb
    go_wp2
    go_ret
    exact ⟨rfl, HX2.out⟩
theorem implKR_any (a : Option Addr) (C : Nat) (l : List ByteArray) (t : Int) (hn : l.length ≤ 1048576) (hl : ∀ s ∈ l, s.size ≤ maxLen) (w : World) (h : SRow w a l) :
    Calls Try.prog 10 #[kV a l.length C t] w fun e w' => e = .returned (.bool (killsB l t)) ∧ Below w.heap.size w w' := by
  have HR := Lib.hid (fun W (h : SRow W a l) => heldRight_any a C l t hn hl W h)
  have HO := Lib.hid (fun n W => ofKills_any a n C t W)
  have HA := Lib.hid (fun W (hb : Below w.heap.size w W) => h.below hb)
  obtain ⟨B, hB⟩ : ∃ B, B = killsB l t := ⟨_, rfl⟩
  obtain ⟨n, hn'⟩ : ∃ n, n = l.length := ⟨_, rfl⟩
  rw [← hn', ← hB] at HR
  rw [← hn', ← hB]
  unfold kV at HR HO ⊢
  clear hB hn' hn hl h
  go_enter Try.func10, Try.ntmps10
  go_wp2_with fail
  refine (HO.out _ _).mono ?_
  rintro e w1 ⟨rfl, hb⟩
  have HX := Lib.hid (bthen ((Below.refl _ w).alloc (Nat.le_refl _) _) hb (by simp))
  have HA1 := Lib.hid (HA.out _ HX.out)
  clear hb
  go_wp2_with fail
  refine (HR.out _ HA1.out).mono ?_
  rintro e w2 ⟨rfl, hb⟩
  have HX2 := Lib.hid (bthen HX.out hb HX.out.size)
  clear hb
  go_wp2
  go_ret
  exact ⟨rfl, HX2.out⟩
theorem atTop_any (a : Option Addr) (C : Nat) (l : List ByteArray) (t : Int) (hn : l.length ≤ 1048576) (ht : (0 ≤ t ∧ t ≤ (l.length : Int) - 1) ∨ (l.length = 0 ∧ t = 0)) (w : World) (h : SRow w a l) :
    Calls Try.prog 32 #[kV a l.length C t] w fun e w' => e = .returned (.string (l[t.toNat]?.getD ⟨#[]⟩)) ∧ Below w.heap.size w w' := by
  have hal := (Below.refl _ w).alloc (Nat.le_refl _) (.cells #[.slice a l.length C, .int .i64 t] 46)
  have HA := Lib.hid (h.below hal)
  have HB := Lib.hid hal
  unfold kV
  obtain ⟨n, hn'⟩ : ∃ n, n = l.length := ⟨_, rfl⟩
  have HN := Lib.hid hn'
  rw [← hn'] at HA HB hn ht ⊢
  clear h hal hn'
  by_cases hz : n = 0
  · have hl : l = [] := List.eq_nil_of_length_eq_zero (by rw [← HN.out]; exact hz)
    have HV := Lib.hid (show l[t.toNat]?.getD ⟨#[]⟩ = (⟨#[]⟩ : ByteArray) by rw [hl]; rfl)
    have hb : ((n : Int) == 0) = true := by simpa using hz
    clear hz hl ht
    go_enter Try.func32, Try.ntmps32
    go_wp2
    rw [HV.out]
    exact bodyPost_ret (v := .string ⟨#[]⟩) (by simp [results, Try.results32, go_sem]) rfl ⟨rfl, HB.out⟩
  · obtain ⟨k, hk⟩ : ∃ k : Nat, t = k := ⟨t.toNat, by omega⟩
    subst hk
    have hkl : k < l.length := by rw [← HN.out]; omega
    have hkn : k < n := by omega
    obtain ⟨g, o, rfl, c0⟩ := HA.out.at hkl
    have HV := Lib.hid (show l[(k : Int).toNat]?.getD ⟨#[]⟩ = l[k] by rw [Int.toNat_natCast, List.getElem?_eq_getElem hkl]; rfl)
    obtain ⟨s, hs⟩ : ∃ s, s = l[k] := ⟨_, rfl⟩
    rw [← hs] at c0 HV
    have hb : ((n : Int) == 0) = false := by simpa using hz
    clear hs hkl hz ht
    go_enter Try.func32, Try.ntmps32
    go_wp2
    go_ret
    exact ⟨by rw [HV.out]; rfl, HB.out⟩
theorem cloneS_any (s : ByteArray) (hs : s.size ≤ 1000000000) (w : World) :
    Calls Try.prog 31 #[.string s] w fun e w' => e = .returned (.string s) ∧ Below w.heap.size w w' := by
  go_enter Try.func31, Try.ntmps31
  go_wp2_with fail
  refine (Try.stringslite_Clone s _ (by omega)).mono ?_
  rintro e w1 ⟨rfl, hb1⟩
  go_wp2
  go_ret
  exact ⟨rfl, hb1⟩
theorem implTop_any (a : Option Addr) (C : Nat) (l : List ByteArray) (t : Int) (hn : l.length ≤ 1048576) (hl : ∀ s ∈ l, s.size ≤ 1048576) (w : World) (h : SRow w a l) :
    Calls Try.prog 13 #[kV a l.length C t] w fun e w' => e = .returned (.string (topV l t)) ∧ Below w.heap.size w w' := by
  have HR := Lib.hid (fun W (h : SRow W a l) => heldRight_any a C l t hn (fun s hs => by have := hl s hs; unfold maxLen; omega) W h)
  have HO := Lib.hid (fun n W => ofKills_any a n C t W)
  have HA := Lib.hid (fun W (hb : Below w.heap.size w W) => h.below hb)
  have HT := Lib.hid (fun (hk : killsB l t = true) W (h : SRow W a l) => atTop_any a C l t hn (killsB_parts hk).2 W h)
  have HS : topV l t = ⟨#[]⟩ ∨ (topV l t).size ≤ 1048576 := by
    unfold topV
    split
    · cases h1 : l[t.toNat]? with
      | none => exact .inl rfl
      | some s => exact .inr (hl s (List.mem_of_getElem? h1))
    · exact .inl rfl
  have HS := Lib.hid (show (topV l t).size ≤ 1048576 by rcases HS with h1 | h1; · rw [h1]; decide
                                                        · exact h1)
  cases hB : killsB l t
  · have HV := Lib.hid (show topV l t = ⟨#[]⟩ by unfold topV; rw [hB]; rfl)
    obtain ⟨n, hn'⟩ : ∃ n, n = l.length := ⟨_, rfl⟩
    rw [← hn', hB] at HR
    rw [← hn']
    unfold kV at HR HO ⊢
    clear hB hn' hn hl h HT HS
    go_enter Try.func13, Try.ntmps13
    go_wp2_with fail
    refine (HO.out _ _).mono ?_
    rintro e w1 ⟨rfl, hb⟩
    have HX := Lib.hid ((bthen ((Below.refl _ w).alloc (Nat.le_refl _) (.cells #[.slice a n C, .int .i64 t] 27)) hb (by simp)).alloc (by have := hb.size; simp at this; omega) (.cells #[.slice a n C, .int .i64 t] 48))
    have HA1 := Lib.hid (HA.out _ HX.out)
    clear hb
    go_wp2_with fail
    refine (HR.out _ HA1.out).mono ?_
    rintro e w2 ⟨rfl, hb⟩
    have HX2 := Lib.hid (bthen HX.out hb HX.out.size)
    clear hb
    go_wp2
    go_ret
    exact ⟨by rw [HV.out]; rfl, HX2.out⟩
  · have HV := Lib.hid (show topV l t = (l[t.toNat]?.getD ⟨#[]⟩) by unfold topV; rw [hB]; rfl)
    have HT := Lib.hid (HT.out hB)
    rw [HV.out] at HS
    obtain ⟨n, hn'⟩ : ∃ n, n = l.length := ⟨_, rfl⟩
    obtain ⟨x, hx⟩ : ∃ x, x = (l[t.toNat]?.getD ⟨#[]⟩) := ⟨_, rfl⟩
    rw [← hx] at HV HT HS
    rw [← hn', hB] at HR
    rw [← hn'] at HT ⊢
    unfold kV at HR HO HT ⊢
    clear hB hn' hn hl h hx
    go_enter Try.func13, Try.ntmps13
    go_wp2_with fail
    refine (HO.out _ _).mono ?_
    rintro e w1 ⟨rfl, hb⟩
    have HX := Lib.hid ((bthen ((Below.refl _ w).alloc (Nat.le_refl _) (.cells #[.slice a n C, .int .i64 t] 27)) hb (by simp)).alloc (by have := hb.size; simp at this; omega) (.cells #[.slice a n C, .int .i64 t] 48))
    have HA1 := Lib.hid (HA.out _ HX.out)
    clear hb
    go_wp2_with fail
    refine (HR.out _ HA1.out).mono ?_
    rintro e w2 ⟨rfl, hb⟩
    have HX2 := Lib.hid (bthen HX.out hb HX.out.size)
    have HA2 := Lib.hid (HA.out _ HX2.out)
    obtain ⟨p0, _⟩ := keepC hb (g := w1.heap.size) (by simp)
    clear hb
    go_wp2_with fail
    refine (HT.out _ HA2.out).mono ?_
    rintro e w3 ⟨rfl, hb⟩
    have HX3 := Lib.hid (bthen HX2.out hb HX2.out.size)
    clear hb p0
    go_wp2_with fail
    refine (cloneS_any x (by have := HS.out; omega) _).mono ?_
    rintro e w4 ⟨rfl, hb⟩
    have HX4 := Lib.hid (bthen HX3.out hb HX3.out.size)
    clear hb
    go_wp2
    go_ret
    exact ⟨by rw [HV.out]; rfl, HX4.out⟩
end Go.Proofs.Ytjjabfcdhknigaa.kill
