/-
  A struct variable's block, whole, on the way through a loop. No condition.
-/
import Derived.Test.YtlhfgpcanfpnfaaDoorBase
namespace Go.Proofs.YtlhfgpcanfpnfaaDoor.varb
open Go.ChangeShapes Go.WideShapes Go.ChangeAt Go.RowKit
/-- the block of a variable: these cells, of this type, not frozen -/
def VarB (w : World) (g : Nat) (cs : Array Value) (t : TypeId) : Prop := w.heap[g]? = some (.cells cs t (0, 0))
theorem VarB.lt {w : World} {g : Nat} {cs : Array Value} {t : TypeId} (h : VarB w g cs t) : g < w.heap.size := (Array.getElem?_eq_some_iff.1 h).1
theorem VarB.below {w w' : World} {g : Nat} {cs : Array Value} {t : TypeId} (h : VarB w g cs t) (hb : Below w.heap.size w w') : VarB w' g cs t := by
  unfold VarB
  rw [hb.block g h.lt]
  exact h
theorem VarB.cell {w : World} {g i : Nat} {cs : Array Value} {t : TypeId} {v : Value} (h : VarB w g cs t) (hv : cs[i]? = some v) : w.cell? ⟨g, i, none⟩ = some v := by
  unfold VarB at h
  simp [World.cell?, h, hv]
theorem VarB.froz {w : World} {g : Nat} {cs : Array Value} {t : TypeId} (h : VarB w g cs t) (o : Nat) : w.frozen? ⟨g, o, none⟩ = false := by
  unfold VarB at h
  simp [World.frozen?, h]
theorem VarB.set {w : World} {g k : Nat} {cs : Array Value} {t : TypeId} (h : VarB w g cs t) (v : Value) : VarB (w.setCell ⟨g, k, none⟩ v) g (cs.setIfInBounds k v) t := bset h v
theorem VarB.setTo {w : World} {g : Nat} {cs : Array Value} {t : TypeId} (h : VarB w g cs t) (k : Nat) (v : Value) {cs' : Array Value} (e : cs.setIfInBounds k v = cs') : VarB (w.setCell ⟨g, k, none⟩ v) g cs' t := by
  rw [← e]
  exact h.set v
theorem VarB.other {w : World} {g b k : Nat} {cs : Array Value} {t : TypeId} (h : VarB w g cs t) (hne : b ≠ g) (v : Value) : VarB (w.setCell ⟨b, k, none⟩ v) g cs t := by
  unfold VarB at *
  simp [World.setCell, Array.getElem?_modify, h, hne]
theorem VarB.alloc {w : World} {g : Nat} {cs : Array Value} {t : TypeId} (h : VarB w g cs t) (o : Obj) : VarB (w.alloc o) g cs t := h.below ((Below.refl _ w).alloc (Nat.le_refl _) o)
theorem VarB.drew {w : World} {g : Nat} {cs : Array Value} {t : TypeId} (h : VarB w g cs t) : VarB w.drew g cs t := h
theorem VarB.new (w : World) (cs : Array Value) (t : TypeId) : VarB (w.alloc (.cells cs t)) w.heap.size cs t := by
  unfold VarB
  show (w.heap.push _)[w.heap.size]? = _
  exact Array.getElem?_push_size
theorem VarB.grown {w w' : World} {g : Nat} {cs : Array Value} {t : TypeId} {r : Option Nat} (h : VarB w g cs t) (hg : w.grownBy w' r) (hne : r ≠ some g) : VarB w' g cs t := by
  unfold VarB
  rw [hg.block g h.lt (fun e => hne e.symm)]
  exact h
end Go.Proofs.YtlhfgpcanfpnfaaDoor.varb
