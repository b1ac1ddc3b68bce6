/-
  FnExactSwapTwo: at every argument the program's function answers as its model, every field, and leaves its arguments as they were. No condition beyond the row's own.
-/
import Derived.Test.YtnnmcenmnmmfpaaRows
import Derived.Test.YtnnmcenmnmmfpaaSwapLaw
import Derived.WalkKit
import Derived.ProofKit
import Derived.OpenShut
import Derived.ShutString
import Derived.ChangeOld
import Derived.Below
import Derived.Lib.SmallJoins
namespace Go.Proofs.Ytnnmcenmnmmfpaa.fnExactSwapTwo
open Go.ChangeShapes Go.WideShapes Go.ChangeAt Go.RowKit
open Go.ChangeMaps (open_string shut_string)
set_option linter.unusedVariables false

theorem own : ownKnob Try.prog.godebug = none := by kernel_rfl
theorem cells24_ : Try.prog.cellsOf 24 = 2 := by kernel_rfl

set_option maxRecDepth 100000 in
theorem lifted (os : Os) (started : os.Started) (H : Type) (enc : TypeId × Value → H) :
    ReturnsInHanded {} Try.checked os 9 .any (Rows.fnExactSwapTwoSpec.pre6 enc Try.prog Try.f9 Rows.fnExactSwapTwoRow.domain false) (Rows.fnExactSwapTwoSpec.post enc Try.prog Try.f9 false true false false) := by
  refine returnsInHanded_of_change (C := Try.checked) own started (by kernel_rfl) Try.func9
    (ChangeSpec.witness6 (enc := enc) (C := Try.checked) false ⟨#[], #[.agg #[.string ByteArray.empty, .int .i64 0]], []⟩ 8 (by kernel_rfl) (by kernel_rfl) (by kernel_rfl) (by kernel_rfl)) ?_
  intro W base args ds gs before hval0 hW hcnd _
  have hval : ∀ (j : Nat) t v, Try.f9.params[j]? = some t → args[j]? = some v → Value.okWide Try.prog W .any base t v := hval0
  have hW' := hW
  obtain ⟨p, q, hA0, hV, rfl, hfz, hnd⟩ := hW
  have hA : DataW.TrodAll enc Try.prog W 0 (fun _ => true) true Try.f9.params.toList args.toList ds p := hA0
  rw [Try.params9] at hA hval
  obtain ⟨v0, vs0, d0, ds0, p0, q0, hargs, rfl, rfl, h0, r0⟩ := trodAll_cons hA
  obtain ⟨rfl, rfl, rfl⟩ := trodAll_nil r0
  obtain rfl : args = #[v0] := by cases args; simp_all
  obtain ⟨rfl, rfl⟩ := trodVars_none hV
  obtain ⟨c0_0, c0_1, y0_0, y0_1, m0, rfl, rfl, rfl, hy0_0, hy0_1⟩ := Go.Joins.open_agg2 Try.underlying24 (by kernel_rfl) cells24_ (hval 0 24 v0 rfl rfl) h0
  obtain ⟨a0, e0_0, rfl, w0⟩ := DataW.trod_string Try.underlying9 hy0_0
  obtain ⟨a1, e0_1, rfl, w1⟩ := DataW.trod_int Try.underlying2 hy0_1
  simp at e0_0 e0_1
  subst e0_0 e0_1
  have reads0 : ∀ (W' : World) (sp : Nat → Bool), DataW.Trod enc Try.prog W' 0 sp true 24 (.agg #[.string a0, .int .i64 a1]) (.agg [.lit (.string a0.data.toList), .lit (.int .i64 a1)]) [] := fun W' sp =>
    Go.Joins.shut_agg2 (y0 := (.lit (.string a0.data.toList), [])) (y1 := (.lit (.int .i64 a1), [])) Try.underlying24 (by kernel_rfl) cells24_ ⟨1, by simp [DataW.trod, Try.underlying9, w0]⟩ ⟨1, by simp [DataW.trod, Try.underlying2, w1]⟩
  clear hA0 hval0
  refine (Go.Proofs.Ytnnmcenmnmmfpaa.line.walkSwapTwo a0 a1 w0 w1 W).mono fun e W' ⟨he, hg⟩ => ?_
  subst he
  exact ⟨_, rfl, _, _, _, [], _, [], hW', (trodAll_cons_mk (shut_bool Try.underlying4 _) trodAll_mk0), (trodAll_cons_mk (reads0 _ _) trodAll_mk0), by first | rfl | simp, hg.frame _, fun h => by cases h⟩

theorem over : Rows.fnExactSwapTwoRow.holds Try.pinned (OpenSpec.ofChange Rows.fnExactSwapTwoSpec) :=
  OpenClaim.holds_of_wide 9 Try.f9 rfl rfl rfl rfl rfl rfl rfl ⟨rfl, rfl, rfl, rfl, rfl⟩ rfl rfl rfl rfl rfl (by kernel_rfl) Try.func9 (by kernel_rfl)
    (of_decide_eq_true (by kernel_rfl)) (by unfold Func.isWrapper; first | (rw [if_pos (by decide +kernel)]; kernel_rfl) | (rw [if_neg (by decide +kernel)]; exact ⟨rfl, rfl⟩))
    (fun os started H enc _ => lifted os started H enc)

theorem proved : Rows.FnExactSwapTwoSaid :=
  over
#print axioms proved
end Go.Proofs.Ytnnmcenmnmmfpaa.fnExactSwapTwo
