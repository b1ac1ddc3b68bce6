/-
  The walks of the laws of EdRight and EdNew. For every such value.
-/
import Derived.Test.YtcgaiegfagckcaaEdLaws
import Derived.Test.YtcgaiegfagckcaaEdImpl
namespace Go.Proofs.Ytcgaiegfagckcaa.ed
open Go.ChangeShapes Go.WideShapes Go.ChangeAt Go.RowKit
open Go.Proofs.Ytcgaiegfagckcaa.strs Go.Proofs.Ytcgaiegfagckcaa.lines
open Go.Proofs.Ytcgaiegfagckcaa.kill (IsTS)
open Go.Proofs.Ytcgaiegfagckcaa.hist (hV)
theorem walkER (v : E) (A : EA) (w : World) (s : EIn w A v) :
    Calls Try.prog 3 #[eV v A] w fun e w' => e = .returned (.bool true) ∧ Below w.heap.size w w' :=
  walkER_of v A (edB v) w s (fun hf A' W h => specEdRight_any v A' hf W h) (fun hf A' W h => implEdRight_any v A' hf W h)
end Go.Proofs.Ytcgaiegfagckcaa.ed
