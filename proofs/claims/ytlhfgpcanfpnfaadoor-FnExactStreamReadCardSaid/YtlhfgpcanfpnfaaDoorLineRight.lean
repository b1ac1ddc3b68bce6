/-
  A right line: the program and the model tell the same; two answers that are alike are taken as alike. For every line that the row reads.
-/
import Derived.Test.YtlhfgpcanfpnfaaDoorLine
namespace Go.Proofs.YtlhfgpcanfpnfaaDoor.line
open Go.ChangeShapes Go.WideShapes Go.ChangeAt Go.RowKit
noncomputable def lineB (s : ByteArray) (a : Int) : Bool := textB s && (decide (0 ≤ a) && decide (a ≤ s.size))
theorem lineB_ok {s : ByteArray} {a : Int} (h : lineB s a = true) : s.size ≤ 60 ∧ Pr s s.size ∧ 0 ≤ a ∧ a ≤ s.size := by
  simp only [lineB, Bool.and_eq_true, decide_eq_true_eq] at h
  have := textB_ok h.1
  exact ⟨this.1, this.2, h.2.1, h.2.2⟩
theorem is_any (n l h : Int) (w : World) :
    Calls Tryd.prog 32 #[.int .i64 n, .int .i64 l, .int .i64 h] w fun e w' => e = .returned (.bool (decide (l ≤ n) && decide (n ≤ h))) ∧ w = w' := by
  by_cases hl : l ≤ n
  · go_enter Tryd.func32, Tryd.ntmps32
    go_wp2
    go_ret
    exact ⟨by simp [hl], rfl⟩
  · have hf : decide (l ≤ n) = false := by simpa using hl
    go_enter Tryd.func32, Tryd.ntmps32
    go_wp2
    go_ret
    exact ⟨by simp, rfl⟩
def lineV (s : ByteArray) (a : Int) : Value := .agg #[.string s, .int .i64 a]
def outV (s : ByteArray) (a : Int) (g : ByteArray) (c : Int) : Value := .agg #[.string s, .int .i64 a, .string g, .int .i64 c]
end Go.Proofs.YtlhfgpcanfpnfaaDoor.line
