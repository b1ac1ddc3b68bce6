/-
  The model's KillPut, KillTop, KillTurn. For every Kills of at most a million texts. Written by wip/tool/gen_killmodel.py.
-/
import Derived.Test.YtcgaiegfagckcaaKillPut
import Derived.Test.YtcgaiegfagckcaaKillPut1
namespace Go.Proofs.Ytcgaiegfagckcaa.kill
open Go.ChangeShapes Go.WideShapes Go.ChangeAt Go.RowKit
open Go.Proofs.Ytcgaiegfagckcaa.strs Go.Proofs.Ytcgaiegfagckcaa.line
noncomputable def specPutV (l : List ByteArray) (t : Int) (x : ByteArray) (more : Int) : List ByteArray × Int := if killsB l t = true ∧ textB x = true then putV l t x more else (l, t)
noncomputable def specTurnV (l : List ByteArray) (t : Int) : Int := if killsB l t = true then turnT l.length t else t
noncomputable def topV (l : List ByteArray) (t : Int) : ByteArray := if killsB l t = true then (l[t.toNat]?.getD ⟨#[]⟩) else ⟨#[]⟩
theorem killsB_parts {l : List ByteArray} {t : Int} (h : killsB l t = true) : l.length ≤ 5 ∧ ((0 ≤ t ∧ t ≤ (l.length : Int) - 1) ∨ (l.length = 0 ∧ t = 0)) := by
  unfold killsB topB at h
  simp only [Bool.and_eq_true, Bool.or_eq_true, decide_eq_true_eq] at h
  omega
end Go.Proofs.Ytcgaiegfagckcaa.kill
