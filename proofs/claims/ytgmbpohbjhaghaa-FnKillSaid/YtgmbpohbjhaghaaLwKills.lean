/-
  What the law compares with: lists of texts, Kills, lists of lines that are alike.
-/
import Derived.Test.YtgmbpohbjhaghaaKillHarness
import Derived.Test.YtgmbpohbjhaghaaLines
namespace Go.Proofs.Ytgmbpohbjhaghaa.lw
open Go.ChangeShapes Go.WideShapes Go.ChangeAt Go.RowKit
open Go.Proofs.Ytgmbpohbjhaghaa.strs Go.Proofs.Ytgmbpohbjhaghaa.kill Go.Proofs.Ytgmbpohbjhaghaa.lines
theorem lwTexts_same (a b : Option Addr) (C D : Nat) (l : List ByteArray) (hn : l.length ≤ 1048576) (w : World) (ha : SRow w a l) (hb : SRow w b l) :
    Calls Try.prog 75 #[.slice a l.length C, .slice b l.length D] w fun e w' => e = .returned (.bool true) ∧ Below w.heap.size w w' := by
  obtain ⟨n, hn'⟩ : ∃ n, n = l.length := ⟨_, rfl⟩
  have HA := Lib.hid ha
  have HB := Lib.hid hb
  have HN := Lib.hid hn'
  rw [← hn'] at hn ⊢
  clear ha hb hn'
  go_enter Try.func75, Try.ntmps75
  go_wp2
  go_loopw [5] (fun i w' => ∃ k : Nat, k ≤ n ∧ i = .int .i64 k ∧ Below w.heap.size w w') (fun i _ => n - (intOf i).toNat)
  case atStart => exact ⟨0, Nat.zero_le _, rfl, Below.refl _ _⟩
  case round =>
    obtain ⟨k, hk, rfl, hbel⟩ := hrel
    rename World => wr
    have HBB := Lib.hid hbel
    by_cases hlt : k < n
    · have hkl : k < l.length := by rw [← HN.out]; exact hlt
      obtain ⟨g, o, rfl, g1⟩ := (HA.out.below hbel).at hkl
      obtain ⟨h, o2, rfl, h1⟩ := (HB.out.below hbel).at hkl
      obtain ⟨s, hs⟩ : ∃ s, s = l[k] := ⟨_, rfl⟩
      rw [← hs] at g1 h1
      clear hbel hs
      go_wp2
      go_quiet (fail)
      go_wp2
      go_roundw
      case rel => exact ⟨k + 1, by omega, by go_num, by first | exact HBB.out | exact HBB.out.trans ⟨rfl, rfl, rfl, Nat.le_refl _, fun _ _ => rfl⟩⟩
      case measure => simp [intOf]; omega
    · clear hbel
      go_wp2
      go_ret
      exact ⟨rfl, HBB.out⟩
theorem lwKills_same (a b : Option Addr) (C D : Nat) (l : List ByteArray) (t : Int) (hn : l.length ≤ 1048576) (w : World) (ha : SRow w a l) (hb : SRow w b l) :
    Calls Try.prog 19 #[kV a l.length C t, kV b l.length D t] w fun e w' => e = .returned (.bool true) ∧ Below w.heap.size w w' := by
  have hal := ((Below.refl _ w).alloc (Nat.le_refl _) (.cells #[.slice a l.length C, .int .i64 t] 25)).alloc (by simp) (.cells #[.slice b l.length D, .int .i64 t] 25)
  have HC := Lib.hid (lwTexts_same a b C D l hn _ (ha.below hal) (hb.below hal))
  obtain ⟨n, hn'⟩ : ∃ n, n = l.length := ⟨_, rfl⟩
  rw [← hn'] at HC hal ⊢
  have HB := Lib.hid hal
  unfold kV
  clear ha hb hn hn' hal
  go_enter Try.func19, Try.ntmps19
  go_wp2_with fail
  refine HC.out.mono ?_
  rintro e w1 ⟨rfl, hb1⟩
  have HX := Lib.hid (bthen HB.out hb1 (by simp; omega))
  clear hb1
  go_wp2
  go_ret
  exact ⟨rfl, HX.out⟩
theorem lwLines_same (a b : Option Addr) (C D : Nat) (l : List (ByteArray × Int)) (hn : l.length ≤ 1048576) (w : World) (ha : LRow w a l) (hb : LRow w b l) :
    Calls Try.prog 24 #[.slice a l.length C, .slice b l.length D] w fun e w' => e = .returned (.bool true) ∧ Below w.heap.size w w' := by
  obtain ⟨n, hn'⟩ : ∃ n, n = l.length := ⟨_, rfl⟩
  have HA := Lib.hid ha
  have HB := Lib.hid hb
  have HN := Lib.hid hn'
  rw [← hn'] at hn ⊢
  clear ha hb hn'
  go_enter Try.func24, Try.ntmps24
  go_wp2
  go_loopw [5] (fun i w' => ∃ k : Nat, k ≤ n ∧ i = .int .i64 k ∧ Below w.heap.size w w') (fun i _ => n - (intOf i).toNat)
  case atStart => exact ⟨0, Nat.zero_le _, rfl, Below.refl _ _⟩
  case round =>
    obtain ⟨k, hk, rfl, hbel⟩ := hrel
    rename World => wr
    have HBB := Lib.hid hbel
    by_cases hlt : k < n
    · have hkl : k < l.length := by rw [← HN.out]; exact hlt
      obtain ⟨g, o, rfl, g1, g2⟩ := (HA.out.below hbel).at hkl
      obtain ⟨h, o2, rfl, h1, h2⟩ := (HB.out.below hbel).at hkl
      obtain ⟨⟨s, z⟩, hs⟩ : ∃ s, s = l[k] := ⟨_, rfl⟩
      rw [← hs] at g1 h1 g2 h2
      dsimp only at g1 h1 g2 h2
      clear hbel hs
      go_wp2
      go_quiet (fail)
      go_wp2
      go_roundw
      case rel => exact ⟨k + 1, by omega, by go_num, by first | exact HBB.out | exact HBB.out.trans ⟨rfl, rfl, rfl, Nat.le_refl _, fun _ _ => rfl⟩⟩
      case measure => simp [intOf]; omega
    · clear hbel
      go_wp2
      go_ret
      exact ⟨rfl, HBB.out⟩
end Go.Proofs.Ytgmbpohbjhaghaa.lw
