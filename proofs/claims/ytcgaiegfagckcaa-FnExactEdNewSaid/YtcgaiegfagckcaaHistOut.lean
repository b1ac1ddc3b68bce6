/-
  What the laws do around a HistOut: comparing, writing over. For every such value.
-/
import Derived.Test.YtcgaiegfagckcaaHistHarness
namespace Go.Proofs.Ytcgaiegfagckcaa.hist
open Go.ChangeShapes Go.WideShapes Go.ChangeAt Go.RowKit
open Go.Proofs.Ytcgaiegfagckcaa.strs
def oV (a : Option Addr) (n c : Nat) (t : Int) (k x : ByteArray) (co : Int) : Value := .agg #[.slice a n c, .int .i64 t, .string k, .string x, .int .i64 co]
end Go.Proofs.Ytcgaiegfagckcaa.hist
