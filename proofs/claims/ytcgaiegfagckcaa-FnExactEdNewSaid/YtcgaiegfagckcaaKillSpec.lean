/-
  The model's Kills: right ones, a copy, putting in, the top, turning. For every such value.
-/
import Derived.Test.YtcgaiegfagckcaaKillHarness
import Derived.Test.YtcgaiegfagckcaaLineRight
import Derived.Test.YtcgaiegfagckcaaRowOwn
import Derived.Laws.AppendOwnNone
import Derived.Deep.AppendLies
namespace Go.Proofs.Ytcgaiegfagckcaa.kill
open Go.ChangeShapes Go.WideShapes Go.ChangeAt Go.RowKit
open Go.Proofs.Ytcgaiegfagckcaa.strs Go.Proofs.Ytcgaiegfagckcaa.line
end Go.Proofs.Ytcgaiegfagckcaa.kill
