/-
  The model's l06Has: whether a text has another one in it. For every such value.
-/
import Derived.Test.YtgmbpohbjhaghaaHistHarness
namespace Go.Proofs.Ytgmbpohbjhaghaa.hist
open Go.ChangeShapes Go.WideShapes Go.ChangeAt Go.RowKit
open Go.Proofs.Ytgmbpohbjhaghaa.strs
theorem ne_toList {U T : ByteArray} (h : ¬ U = T) : (U.toList == T.toList) = false := by
  rw [ByteArray.toList_eq, ByteArray.toList_eq]
  simp only [beq_eq_false_iff_ne, ne_eq]
  intro e
  exact h (by cases U; cases T; simp at e; subst e; rfl)
/-- a text lies in another one -/
def hasP (t p : ByteArray) : Prop := ∃ i, i + p.size ≤ t.size ∧ t.extract i (i + p.size) = p
open Classical in
noncomputable def hasB (t p : ByteArray) : Bool := decide (hasP t p)
theorem hasB_t {t p : ByteArray} (h : hasP t p) : hasB t p = true := by unfold hasB; exact @decide_eq_true _ (Classical.propDecidable _) h
theorem hasB_f {t p : ByteArray} (h : ¬ hasP t p) : hasB t p = false := by unfold hasB; exact @decide_eq_false _ (Classical.propDecidable _) h
set_option maxHeartbeats 800000 in
theorem specHas_any (t p : ByteArray) (ht : t.size ≤ 1048576) (hp : p.size ≤ 1048576) (w : World) :
    Calls Try.prog 102 #[.string t, .string p] w fun e w' => e = .returned (.bool (hasB t p)) ∧ w = w' := by
  have HT := Lib.hid (fun (i : Nat) (h : i + p.size ≤ t.size) (he : t.extract i (i + p.size) = p) => (show hasB t p = true from hasB_t ⟨i, h, he⟩))
  have HF := Lib.hid (fun (h : ∀ i, i + p.size ≤ t.size → ¬ t.extract i (i + p.size) = p) => (show hasB t p = false from hasB_f (fun ⟨i, h1, h2⟩ => h i h1 h2)))
  have HS := Lib.hid (fun (i : Nat) (X : ByteArray) (hX : X = t.extract i (i + p.size)) (h : i + p.size ≤ t.size) (W : World) => (show (Instr.slice 9 (.string t) (some (.int .i64 (i : Int))) (some (.int .i64 ((i : Int) + (p.size : Int)))) none).run Try.prog W = .ok (.string X) W by
    rw [hX, show (i : Int) + (p.size : Int) = ((i + p.size : Nat) : Int) by omega, run_slice_string (P := Try.prog) W 9 t .i64 .i64 (i : Int) ((i + p.size : Nat) : Int) Try.underlying9 (by omega) (by omega) (by omega)]; rfl))
  obtain ⟨n, hn⟩ : ∃ n, n = p.size := ⟨_, rfl⟩
  go_enter Try.func102, Try.ntmps102
  go_wp2
  go_loop [5] (fun iv => ∃ k : Nat, k ≤ t.size + 1 ∧ iv = .int .i64 k ∧ ∀ i, i < k → i + p.size ≤ t.size → ¬ t.extract i (i + p.size) = p) (fun iv => t.size + 1 - (intOf iv).toNat)
  case atStart => exact ⟨0, Nat.zero_le _, rfl, fun i hi => absurd hi (by omega)⟩
  case round =>
    obtain ⟨k, hk, rfl, hall⟩ := hrel
    have HX := Lib.hid hall
    clear hall
    have hw : IntKind.i64.wrap ((k : Int) + (p.size : Int)) = (k : Int) + (p.size : Int) := IntWalk.i64_in _ (by omega)
    by_cases hlt : k + p.size ≤ t.size
    · have g1 : (k : Int) + (p.size : Int) ≤ (t.size : Int) := by omega
      obtain ⟨X, hX⟩ : ∃ X, X = t.extract k (k + p.size) := ⟨_, rfl⟩
      have hs := HS.out k X hX hlt
      by_cases he : X = p
      · have HV := Lib.hid (HT.out k hlt (by rw [← hX]; exact he))
        rw [he] at hs
        clear he hX
        go_wp2
        go_ret
        exact ⟨by rw [HV.out]; rfl, rfl⟩
      · have HN := Lib.hid (show ∀ i, i < k + 1 → i + p.size ≤ t.size → ¬ t.extract i (i + p.size) = p from fun i hi h => by
          by_cases e : i = k
          · subst e; rw [← hX]; exact he
          · exact HX.out i (by omega) h)
        have hb := ne_toList he
        clear hX he
        go_wp2
        go_round
        case rel => exact ⟨k + 1, by omega, by go_num, HN.out⟩
        case measure => simp [intOf]; omega
    · have g1 : ¬ (k : Int) + (p.size : Int) ≤ (t.size : Int) := by omega
      have HV := Lib.hid (HF.out (fun i h => HX.out i (by omega) h))
      go_wp2
      go_ret
      exact ⟨by rw [HV.out]; rfl, rfl⟩
end Go.Proofs.Ytgmbpohbjhaghaa.hist
