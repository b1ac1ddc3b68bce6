/-
  The model's HistUp and HistDown. For every such value.
-/
import Derived.Test.YtcgaiegfagckcaaHistCopy
import Derived.Test.YtcgaiegfagckcaaHistRight
import Derived.Test.YtcgaiegfagckcaaHistOut
import Derived.BigRegion
namespace Go.Proofs.Ytcgaiegfagckcaa.hist
open Go.ChangeShapes Go.WideShapes Go.ChangeAt Go.RowKit
open Go.Proofs.Ytcgaiegfagckcaa.strs Go.Proofs.Ytcgaiegfagckcaa.line
open Go.Proofs.Ytcgaiegfagckcaa.kill (own_set own_lo own_later own_krN KR)
/-- a HistOut as a tuple: lines, at, kept, text, code -/
abbrev HO := List ByteArray × Int × ByteArray × ByteArray × Int
def hoV (a : Option Addr) (c : Nat) (v : HO) : Value := oV a v.1.length c v.2.1 v.2.2.1 v.2.2.2.1 v.2.2.2.2
def illV (co : Int) : HO := ([], 0, ⟨#[]⟩, ⟨#[]⟩, co)
noncomputable def upV (l : List ByteArray) (t : Int) (k x : ByteArray) : HO := if t = 0 then illV 6 else (l, t - 1, if t = (l.length : Int) then x else k, l[(t - 1).toNat]?.getD ⟨#[]⟩, 0)
theorem five {n b : Nat} {w w1 : World} (h : Below n w w1) (hb : n ≤ b) (v0 v1 v2 v3 v4 : Value) : Below n w (((((w1.setCell ⟨b, 0, none⟩ v0).setCell ⟨b, 1, none⟩ v1).setCell ⟨b, 2, none⟩ v2).setCell ⟨b, 3, none⟩ v3).setCell ⟨b, 4, none⟩ v4) :=
  ((((h.setCell (p := ⟨b, 0, none⟩) hb _).setCell (p := ⟨b, 1, none⟩) hb _).setCell (p := ⟨b, 2, none⟩) hb _).setCell (p := ⟨b, 3, none⟩) hb _).setCell (p := ⟨b, 4, none⟩) hb _
theorem fiveK {b m c : Nat} {w : World} {a : Option Addr} {l : List ByteArray} (h : KR m w a c l) (hb : b < m) (v0 v1 v2 v3 v4 : Value) : KR m (((((w.setCell ⟨b, 0, none⟩ v0).setCell ⟨b, 1, none⟩ v1).setCell ⟨b, 2, none⟩ v2).setCell ⟨b, 3, none⟩ v3).setCell ⟨b, 4, none⟩ v4) a c l :=
  ((((h.set hb).set hb).set hb).set hb).set hb
theorem krNil (m : Nat) (w : World) : KR m w none 0 [] := ⟨Nat.le_refl _, Nat.zero_le _, fun _ => ⟨rfl, rfl⟩, fun e => absurd rfl e⟩
theorem upKR {m m' b n c : Nat} {w : World} {a : Option Addr} {l : List ByteArray} {v0 v1 v2 v3 v4 : Value} {ob : Obj} (hn : n = l.length) (h : w.ownsRow m 9 1 (.slice a n c) n (l.map Value.string)) (hb : b < m) (hm : m' ≤ m) :
    KR m' (((((((w.setCell ⟨b, 0, none⟩ v0).setCell ⟨b, 1, none⟩ v1).setCell ⟨b, 2, none⟩ v2).setCell ⟨b, 3, none⟩ v3).setCell ⟨b, 4, none⟩ v4).alloc ob).drew) a c l :=
  (((fiveK (own_krN hn h) hb v0 v1 v2 v3 v4).alloc ob).later (Below.refl _ _).drew).lo hm
noncomputable def specUpV (l : List ByteArray) (t : Int) (k x : ByteArray) : HO := if x.size ≤ 8000 then (if histB l t k = true ∧ textB x = true then upV l t k x else illV 1) else illV 2
end Go.Proofs.Ytcgaiegfagckcaa.hist
