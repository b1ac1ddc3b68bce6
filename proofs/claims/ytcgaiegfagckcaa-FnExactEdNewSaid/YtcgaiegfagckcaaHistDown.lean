/-
  The model's HistDown. For every such value.
-/
import Derived.Test.YtcgaiegfagckcaaHistUp
namespace Go.Proofs.Ytcgaiegfagckcaa.hist
open Go.ChangeShapes Go.WideShapes Go.ChangeAt Go.RowKit
open Go.Proofs.Ytcgaiegfagckcaa.strs Go.Proofs.Ytcgaiegfagckcaa.line
open Go.Proofs.Ytcgaiegfagckcaa.kill (own_set own_lo own_later own_krN KR)
noncomputable def downV (l : List ByteArray) (t : Int) (k : ByteArray) : HO := if t = (l.length : Int) then illV 6 else (l, t + 1, k, if t + 1 = (l.length : Int) then k else l[(t + 1).toNat]?.getD ⟨#[]⟩, 0)
theorem upKR' {m m' b n c : Nat} {w : World} {a : Option Addr} {l : List ByteArray} {v0 v1 v2 v3 v4 : Value} {ob : Obj} (hn : n = l.length) (h : w.ownsRow m 9 1 (.slice a n c) n (l.map Value.string)) (hb : b < m) (hm : m' ≤ m) :
    KR m' ((((((w.setCell ⟨b, 0, none⟩ v0).setCell ⟨b, 1, none⟩ v1).setCell ⟨b, 2, none⟩ v2).setCell ⟨b, 3, none⟩ v3).setCell ⟨b, 4, none⟩ v4).alloc ob) a c l :=
  ((fiveK (own_krN hn h) hb v0 v1 v2 v3 v4).alloc ob).lo hm
noncomputable def specDownV (l : List ByteArray) (t : Int) (k x : ByteArray) : HO := if x.size ≤ 8000 then (if histB l t k = true ∧ textB x = true then downV l t k else illV 1) else illV 2
end Go.Proofs.Ytcgaiegfagckcaa.hist
