/-
  The walks of the laws of DiffRight, CostOf and ApplyTo. For every argument that the rows read.
-/
import Derived.Test.YthdnhopkkgdclaaApplyImpl
namespace Go.Proofs.Ythdnhopkkgdclaa.diff
open Go.ChangeShapes Go.WideShapes Go.ChangeAt Go.RowKit
open Go.Proofs.Ythdnhopkkgdclaa.line
theorem walkApply (a0 : ByteArray) (a : Option Addr) (n C : Nat) (K : Nat → Int) (X : Nat → ByteArray) (w0 : a0.size ≤ maxLen) (w : World) (s : IsKS w a n C K X) :
    Calls Try.prog 6 #[.string a0, .slice a n C] w fun e w' => e = .returned (.bool true) ∧ Below w.heap.size w w' :=
  walkApply_of a0 a n C K X w0 w s fun g W hn hX hr => implApply_any a0 g 0 n n K X w0 hn hX W hr.o
end Go.Proofs.Ythdnhopkkgdclaa.diff
