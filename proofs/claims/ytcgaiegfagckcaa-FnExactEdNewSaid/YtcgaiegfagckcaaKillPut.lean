/-
  The model's turning, top and putting in. For every Kills of at most a million texts.
-/
import Derived.Test.YtcgaiegfagckcaaKillRight
namespace Go.Proofs.Ytcgaiegfagckcaa.kill
open Go.ChangeShapes Go.WideShapes Go.ChangeAt Go.RowKit
open Go.Proofs.Ytcgaiegfagckcaa.strs Go.Proofs.Ytcgaiegfagckcaa.line
def turnT (n : Nat) (t : Int) : Int := if 0 < t then t - 1 else if 0 < n then (n : Int) - 1 else t
/-- Kills of the call's own memory -/
def KO (base : Nat) (w : World) (a : Option Addr) (c : Nat) (l : List ByteArray) : Prop := w.ownsRow base 9 1 (.slice a l.length c) l.length (l.map Value.string)
end Go.Proofs.Ytcgaiegfagckcaa.kill
