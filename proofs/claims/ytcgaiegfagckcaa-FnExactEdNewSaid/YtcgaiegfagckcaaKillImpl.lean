/-
  The program's Kills: right ones, the top, turning. For every Kills of at most a million texts.
-/
import Derived.Test.YtcgaiegfagckcaaKillModel
import Derived.Test.YtcgaiegfagckcaaAll
import Derived.Test.YtcgaiegfagckcaaShelf
import Derived.Deep.RegionHeld3
namespace Go.Proofs.Ytcgaiegfagckcaa.kill
open Go.ChangeShapes Go.WideShapes Go.ChangeAt Go.RowKit
open Go.Proofs.Ytcgaiegfagckcaa.strs Go.Proofs.Ytcgaiegfagckcaa.line
theorem draws_below' (B : Nat) (w : World) (q : Nat) : Below B w (w.drewN q) := ⟨rfl, rfl, rfl, Nat.le_refl _, fun _ _ => rfl⟩
def lastT (n : Nat) : Int := max ((n : Int) - 1) 0
def ringB (n : Nat) (t : Int) : Bool := decide (0 ≤ t) && decide (t ≤ lastT n)
theorem ringB_top (n : Nat) (t : Int) : ringB n t = topB n t := by
  unfold ringB topB lastT
  rw [Bool.eq_iff_iff]
  simp only [Bool.and_eq_true, Bool.or_eq_true, decide_eq_true_eq]
  omega
theorem ofKills_any (a : Option Addr) (n C : Nat) (t : Int) (w : World) :
    Calls Try.prog 49 #[kV a n C t] w fun e w' => e = .returned (kV a n C t) ∧ Below w.heap.size w w' := by
  unfold kV
  go_enter Try.func49, Try.ntmps49
  go_wp2
  exact bodyPost_ret (v := kV a n C t) (by simp [kV, results, Try.results49, go_sem]) rfl
    ⟨rfl, ((Below.refl _ w).alloc (Nat.le_refl _) _).alloc (by simp) _⟩
theorem last_any (a : Option Addr) (n C : Nat) (t : Int) (hn : n ≤ 1048576) (w : World) :
    Calls Try.prog 71 #[kV a n C t] w fun e w' => e = .returned (.int .i64 (lastT n)) ∧ Below w.heap.size w w' := by
  unfold kV
  go_enter Try.func71, Try.ntmps71
  go_wp2
  go_ret
  exact ⟨rfl, (Below.refl _ w).alloc (Nat.le_refl _) _⟩
theorem ringRight_any (a : Option Addr) (n C : Nat) (t : Int) (hn : n ≤ 1048576) (w : World) :
    Calls Try.prog 66 #[kV a n C t] w fun e w' => e = .returned (.bool (ringB n t)) ∧ Below w.heap.size w w' := by
  have HL := Lib.hid (fun W => last_any a n C t hn W)
  unfold kV at HL ⊢
  by_cases h0 : 0 ≤ t
  · have HV := Lib.hid (show ringB n t = decide (t ≤ lastT n) by unfold ringB; rw [decide_eq_true h0, Bool.true_and])
    have hd : decide (0 ≤ t) = true := decide_eq_true h0
    obtain ⟨L, hL⟩ : ∃ L, L = lastT n := ⟨_, rfl⟩
    rw [← hL] at HL HV
    clear hL
    go_enter Try.func66, Try.ntmps66
    go_wp2_with fail
    go_region_held3 (fun w' => w'.cell? ⟨w.heap.size, 0, none⟩ = some (.slice a n C) ∧ w'.cell? ⟨w.heap.size, 1, none⟩ = some (.int .i64 t)) (go_keep)
      (first | (go_at_call 71; refine (HL.out _).mono ?_; rintro e w1 ⟨rfl, hb1⟩; obtain ⟨p1, _⟩ := keepC hb1 (g := w.heap.size) (by simp)))
    all_goals
      have HB := Lib.hid (bthen ((Below.refl _ w).alloc (Nat.le_refl _) (.cells #[.slice a n C, .int .i64 t] 80)).drew hb1 (by simp))
      clear p1 hb1
      go_wp2
      go_ret
      exact ⟨by rw [HV.out]; rfl, HB.out⟩
  · have HV := Lib.hid (show ringB n t = false by unfold ringB; rw [decide_eq_false h0, Bool.false_and])
    have HD := Lib.hid (show decide (0 ≤ t) = false from decide_eq_false h0)
    clear h0
    go_enter Try.func66, Try.ntmps66
    go_wp2_with fail
    have hd := HD.out
    go_quiet (fail)
    go_wp2
    go_ret
    exact ⟨by rw [HV.out]; rfl, ((Below.refl _ w).alloc (Nat.le_refl _) _).trans (draws_below' _ _ _)⟩
theorem killsB_all (l : List ByteArray) (t : Int) : killsB l t = (all_.allB 5 l && topB l.length t) := by
  unfold killsB textsB all_.allB
  rw [show all_.goodB = goodB from rfl]
  cases decide ((l.length : Int) ≤ 5) <;> cases l.all goodB <;> rfl
theorem heldRight_any (a : Option Addr) (C : Nat) (l : List ByteArray) (t : Int) (hn : l.length ≤ 1048576) (hl : ∀ s ∈ l, s.size ≤ maxLen) (w : World) (h : SRow w a l) :
    Calls Try.prog 50 #[kV a l.length C t] w fun e w' => e = .returned (.bool (killsB l t)) ∧ Below w.heap.size w w' := by
  have HA := Lib.hid (fun m W (hb : Below w.heap.size w W) => all_.areAllS_any a C l m hn hl W (h.below hb))
  have HR := Lib.hid (fun W => ringRight_any a l.length C t hn W)
  have HV := Lib.hid (killsB_all l t)
  have HT := Lib.hid (ringB_top l.length t)
  rw [HV.out, ← HT.out]
  clear HV HT
  obtain ⟨B, hB⟩ : ∃ B, B = all_.allB 5 l := ⟨_, rfl⟩
  have HA := Lib.hid (fun W (hb : Below w.heap.size w W) => HA.out 5 W hb)
  rw [← hB] at HA ⊢
  obtain ⟨n, hn'⟩ : ∃ n, n = l.length := ⟨_, rfl⟩
  rw [← hn'] at HA HR ⊢
  have hal := (Below.refl _ w).alloc (Nat.le_refl _) (.cells #[.slice a n C, .int .i64 t] 82)
  have HB := Lib.hid hal
  obtain ⟨D, hD⟩ : ∃ D, D = ringB n t := ⟨_, rfl⟩
  rw [← hD] at HR ⊢
  clear hn' hB hn hl h hal hD
  unfold kV at HR ⊢
  cases B
  · go_enter Try.func50, Try.ntmps50
    go_wp2_with fail
    refine (HA.out _ HB.out).mono ?_
    rintro e w1 ⟨rfl, hb⟩
    have HX := Lib.hid (bthen HB.out hb (by simp))
    clear hb
    go_wp2
    go_ret
    exact ⟨rfl, HX.out⟩
  · go_enter Try.func50, Try.ntmps50
    go_wp2_with fail
    refine (HA.out _ HB.out).mono ?_
    rintro e w1 ⟨rfl, hb⟩
    have HX := Lib.hid (bthen HB.out hb (by simp))
    obtain ⟨p0, _⟩ := keepC hb (g := w.heap.size) (by simp)
    clear hb
    go_wp2_with fail
    refine (HR.out _).mono ?_
    rintro e w2 ⟨rfl, hb⟩
    have HX2 := Lib.hid (bthen HX.out hb HX.out.size)
    clear hb
    go_wp2
    go_ret
    exact ⟨rfl, HX2.out⟩
theorem implKR_any (a : Option Addr) (C : Nat) (l : List ByteArray) (t : Int) (hn : l.length ≤ 1048576) (hl : ∀ s ∈ l, s.size ≤ maxLen) (w : World) (h : SRow w a l) :
    Calls Try.prog 31 #[kV a l.length C t] w fun e w' => e = .returned (.bool (killsB l t)) ∧ Below w.heap.size w w' := by
  have HR := Lib.hid (fun W (h : SRow W a l) => heldRight_any a C l t hn hl W h)
  have HO := Lib.hid (fun n W => ofKills_any a n C t W)
  have HA := Lib.hid (fun W (hb : Below w.heap.size w W) => h.below hb)
  obtain ⟨B, hB⟩ : ∃ B, B = killsB l t := ⟨_, rfl⟩
  obtain ⟨n, hn'⟩ : ∃ n, n = l.length := ⟨_, rfl⟩
  rw [← hn', ← hB] at HR
  rw [← hn', ← hB]
  unfold kV at HR HO ⊢
  clear hB hn' hn hl h
  go_enter Try.func31, Try.ntmps31
  go_wp2_with fail
  refine (HO.out _ _).mono ?_
  rintro e w1 ⟨rfl, hb⟩
  have HX := Lib.hid (bthen ((Below.refl _ w).alloc (Nat.le_refl _) _) hb (by simp))
  have HA1 := Lib.hid (HA.out _ HX.out)
  clear hb
  go_wp2_with fail
  refine (HR.out _ HA1.out).mono ?_
  rintro e w2 ⟨rfl, hb⟩
  have HX2 := Lib.hid (bthen HX.out hb HX.out.size)
  clear hb
  go_wp2
  go_ret
  exact ⟨rfl, HX2.out⟩
theorem cloneS_any (s : ByteArray) (hs : s.size ≤ 1000000000) (w : World) :
    Calls Try.prog 57 #[.string s] w fun e w' => e = .returned (.string s) ∧ Below w.heap.size w w' := by
  go_enter Try.func57, Try.ntmps57
  go_wp2_with fail
  refine (Try.stringslite_Clone s _ (by omega)).mono ?_
  rintro e w1 ⟨rfl, hb1⟩
  go_wp2
  go_ret
  exact ⟨rfl, hb1⟩
end Go.Proofs.Ytcgaiegfagckcaa.kill
