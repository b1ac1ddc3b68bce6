/-
  The walks of the laws of DiffRight, CostOf and ApplyTo. For every argument that the rows read.
-/
import Derived.Test.YtbbmobebnflboaaApplyImpl
namespace Go.Proofs.Ytbbmobebnflboaa.diff
open Go.ChangeShapes Go.WideShapes Go.ChangeAt Go.RowKit
open Go.Proofs.Ytbbmobebnflboaa.line
theorem walkDR (a : Option Addr) (n C : Nat) (K : Nat → Int) (X : Nat → ByteArray) (w : World) (s : IsKS w a n C K X) :
    Calls Try.prog 6 #[.slice a n C] w fun e w' => e = .returned (.bool true) ∧ Below w.heap.size w w' :=
  walkDR_of a n C K X w s fun g W hn _ hr => implDR_any g 0 n n K X hn W hr.o
theorem walkCost (a : Option Addr) (n C : Nat) (K : Nat → Int) (X : Nat → ByteArray) (w : World) (s : IsKS w a n C K X) :
    Calls Try.prog 8 #[.slice a n C] w fun e w' => e = .returned (.bool true) ∧ Below w.heap.size w w' :=
  walkCost_of a n C K X w s fun g W hn hX hr => implCost_any g 0 n n K X hn hX W hr.o
theorem walkApply (a0 : ByteArray) (a : Option Addr) (n C : Nat) (K : Nat → Int) (X : Nat → ByteArray) (w0 : a0.size ≤ maxLen) (w : World) (s : IsKS w a n C K X) :
    Calls Try.prog 7 #[.string a0, .slice a n C] w fun e w' => e = .returned (.bool true) ∧ Below w.heap.size w w' :=
  walkApply_of a0 a n C K X w0 w s fun g W hn hX hr => implApply_any a0 g 0 n n K X w0 hn hX W hr.o
end Go.Proofs.Ytbbmobebnflboaa.diff
