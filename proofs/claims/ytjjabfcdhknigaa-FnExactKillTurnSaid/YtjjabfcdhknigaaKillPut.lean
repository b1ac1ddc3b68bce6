/-
  The model's turning, top and putting in. For every Kills of at most a million texts.
-/
import Derived.Test.YtjjabfcdhknigaaKillRight
namespace Go.Proofs.Ytjjabfcdhknigaa.kill
open Go.ChangeShapes Go.WideShapes Go.ChangeAt Go.RowKit
open Go.Proofs.Ytjjabfcdhknigaa.strs Go.Proofs.Ytjjabfcdhknigaa.line
def turnT (n : Nat) (t : Int) : Int := if 0 < t then t - 1 else if 0 < n then (n : Int) - 1 else t
/-- Kills of the call's own memory -/
def KO (base : Nat) (w : World) (a : Option Addr) (c : Nat) (l : List ByteArray) : Prop := w.ownsRow base 9 1 (.slice a l.length c) l.length (l.map Value.string)
set_option maxRecDepth 20000 in
set_option maxHeartbeats 1600000 in
theorem turn_any0 (a : Option Addr) (C : Nat) (l : List ByteArray) (t : Int) (hn : l.length ≤ 1048576) (ht : -9223372036854775808 ≤ t ∧ t ≤ 9223372036854775807) (w : World) (h : SRow w a l) :
    Calls Try.prog 34 #[kV a l.length C t] w fun e w' => ∃ a' c', e = .returned (kV a' l.length c' (turnT l.length t)) ∧ KO w.heap.size w' a' c' l ∧ Below w.heap.size w w' := by
  have hal := ((Below.refl _ w).alloc (Nat.le_refl _) (.cells #[.slice a l.length C, .int .i64 t] 27)).alloc (by simp) (.cells #[.slice none 0 0, .int .i64 0] 27)
  have HC := Lib.hid (copy_any0 a C l t hn _ (h.below hal))
  unfold kV at HC ⊢
  unfold KO
  obtain ⟨n, hn'⟩ : ∃ n, n = l.length := ⟨_, rfl⟩
  rw [← hn'] at HC hal hn ⊢
  have HB := Lib.hid hal
  clear h hal hn'
  by_cases h1 : 0 < t
  · have HV := Lib.hid (show turnT n t = t - 1 by unfold turnT; rw [if_pos h1])
    have hw : IntKind.i64.wrap (t - 1) = t - 1 := IntWalk.i64_in _ (by omega)
    go_enter Try.func34, Try.ntmps34
    go_wp2_with fail
    refine (HC.out).mono ?_
    rintro e w1 ⟨a', c', rfl, ho, hb1⟩
    have z1 : w.heap.size + 1 < w1.heap.size := by have := hb1.size; simp at this; omega
    obtain ⟨p1, q1⟩ := keepC hb1 (g := w.heap.size + 1) (by simp)
    have HO := Lib.hid ho
    have HX := Lib.hid (bthen HB.out hb1 (by simp; omega))
    clear hb1 ho
    go_wp2
    have o1 : w1.ownsRow (w.heap.size + 1 + 1) 9 1 (.slice a' n c') n (l.map Value.string) := own_lo HO.out (by simp)
    rw [HV.out]
    exact bodyPost_ret (v := .agg #[.slice a' n c', .int .i64 (t - 1)]) (by simp [results, Try.results34, go_sem, z1, p1]) rfl ⟨a', c', rfl, own_lo ((own_set (own_set o1 (by omega)) (by omega)).alloc _) (by omega), ((HX.out.setCell (p := ⟨w.heap.size + 1, 0, none⟩) (show w.heap.size ≤ w.heap.size + 1 by omega) _).setCell (p := ⟨w.heap.size + 1, 1, none⟩) (show w.heap.size ≤ w.heap.size + 1 by omega) _).alloc (by simp; omega) _⟩
  · by_cases h2 : 0 < n
    · have HV := Lib.hid (show turnT n t = (n : Int) - 1 by unfold turnT; rw [if_neg h1, if_pos h2])
      have hw : IntKind.i64.wrap ((n : Int) - 1) = (n : Int) - 1 := IntWalk.i64_in _ (by omega)
      go_enter Try.func34, Try.ntmps34
      go_wp2_with fail
      refine (HC.out).mono ?_
      rintro e w1 ⟨a', c', rfl, ho, hb1⟩
      have z1 : w.heap.size + 1 < w1.heap.size := by have := hb1.size; simp at this; omega
      obtain ⟨p1, q1⟩ := keepC hb1 (g := w.heap.size + 1) (by simp)
      have HO := Lib.hid ho
      have HX := Lib.hid (bthen HB.out hb1 (by simp; omega))
      clear hb1 ho
      go_wp2
      have o1 : w1.ownsRow (w.heap.size + 1 + 1) 9 1 (.slice a' n c') n (l.map Value.string) := own_lo HO.out (by simp)
      rw [HV.out]
      exact bodyPost_ret (v := .agg #[.slice a' n c', .int .i64 ((n : Int) - 1)]) (by simp [results, Try.results34, go_sem, z1, p1]) rfl ⟨a', c', rfl, own_lo ((own_set (own_set o1 (by omega)) (by omega)).alloc _) (by omega), ((HX.out.setCell (p := ⟨w.heap.size + 1, 0, none⟩) (show w.heap.size ≤ w.heap.size + 1 by omega) _).setCell (p := ⟨w.heap.size + 1, 1, none⟩) (show w.heap.size ≤ w.heap.size + 1 by omega) _).alloc (by simp; omega) _⟩
    · have HV := Lib.hid (show turnT n t = t by unfold turnT; rw [if_neg h1, if_neg h2])
      have h3 : ¬ (0 : Int) < n := by omega
      go_enter Try.func34, Try.ntmps34
      go_wp2_with fail
      refine (HC.out).mono ?_
      rintro e w1 ⟨a', c', rfl, ho, hb1⟩
      have z1 : w.heap.size + 1 < w1.heap.size := by have := hb1.size; simp at this; omega
      obtain ⟨p1, q1⟩ := keepC hb1 (g := w.heap.size + 1) (by simp)
      have HO := Lib.hid ho
      have HX := Lib.hid (bthen HB.out hb1 (by simp; omega))
      clear hb1 ho
      go_wp2
      have o1 : w1.ownsRow (w.heap.size + 1 + 1) 9 1 (.slice a' n c') n (l.map Value.string) := own_lo HO.out (by simp)
      rw [HV.out]
      exact bodyPost_ret (v := .agg #[.slice a' n c', .int .i64 t]) (by simp [results, Try.results34, go_sem, z1, p1]) rfl ⟨a', c', rfl, own_lo ((own_set (own_set o1 (by omega)) (by omega)).alloc _) (by omega), ((HX.out.setCell (p := ⟨w.heap.size + 1, 0, none⟩) (show w.heap.size ≤ w.heap.size + 1 by omega) _).setCell (p := ⟨w.heap.size + 1, 1, none⟩) (show w.heap.size ≤ w.heap.size + 1 by omega) _).alloc (by simp; omega) _⟩
theorem turn_any (a : Option Addr) (C : Nat) (l : List ByteArray) (t : Int) (_hz : a = none → C = 0 ∧ l = []) (hn : l.length ≤ 1048576) (ht : -9223372036854775808 ≤ t ∧ t ≤ 9223372036854775807) (w : World) (h : SRow w a l) :
    Calls Try.prog 34 #[kV a l.length C t] w fun e w' => ∃ a' c', e = .returned (kV a' l.length c' (turnT l.length t)) ∧ KO w.heap.size w' a' c' l ∧ Below w.heap.size w w' :=
  turn_any0 a C l t hn ht w h
end Go.Proofs.Ytjjabfcdhknigaa.kill
