/-
  The model's putting in (l05Put). For every Kills of at most a million texts. Written by wip/tool/gen_killput.py.
-/
import Derived.Test.YtjjabfcdhknigaaKillRow
namespace Go.Proofs.Ytjjabfcdhknigaa.kill
open Go.ChangeShapes Go.WideShapes Go.ChangeAt Go.RowKit
open Go.Proofs.Ytjjabfcdhknigaa.strs Go.Proofs.Ytjjabfcdhknigaa.line
/-- what a text and the last one make together, if they are to be put together -/
def joinV (l : List ByteArray) (x : ByteArray) (more : Int) : ByteArray := if l.length = 0 then ⟨#[]⟩ else if 0 < more then (l[l.length - 1]?.getD ⟨#[]⟩) ++ x else if more < 0 then x ++ (l[l.length - 1]?.getD ⟨#[]⟩) else ⟨#[]⟩
noncomputable def midV (l : List ByteArray) (x : ByteArray) (more : Int) : List ByteArray := if goodB (joinV l x more) then l.set (l.length - 1) (joinV l x more) else l ++ [x]
def trimV (l : List ByteArray) : List ByteArray := if 5 < l.length then l.drop 1 else l
noncomputable def putV (l : List ByteArray) (t : Int) (x : ByteArray) (more : Int) : List ByteArray × Int := if x.size = 0 then (l, t) else (trimV (midV l x more), (trimV (midV l x more)).length - 1)
end Go.Proofs.Ytjjabfcdhknigaa.kill
