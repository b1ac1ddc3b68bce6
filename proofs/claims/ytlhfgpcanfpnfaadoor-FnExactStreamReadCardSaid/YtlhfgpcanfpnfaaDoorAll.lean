/-
  The program's isFilled and areAll, over texts. For every list of at most a million texts.
-/
import Derived.Test.YtlhfgpcanfpnfaaDoorTexts
import Derived.Test.YtlhfgpcanfpnfaaDoorLine
import Derived.Deep.RegionHeld3
namespace Go.Proofs.YtlhfgpcanfpnfaaDoor.all_
open Go.ChangeShapes Go.WideShapes Go.ChangeAt Go.RowKit
open Go.Proofs.YtlhfgpcanfpnfaaDoor.strs Go.Proofs.YtlhfgpcanfpnfaaDoor.line
noncomputable def goodB (s : ByteArray) : Bool := textB s && decide (s.size ≠ 0)
noncomputable def allB (m : Int) (l : List ByteArray) : Bool := decide ((l.length : Int) ≤ m) && l.all goodB
theorem all_f {l : List ByteArray} {m : Int} {i : Nat} (hi : i < l.length) (h : goodB l[i] = false) : allB m l = false := by
  have : l.all goodB = false := by
    rw [List.all_eq_false]
    exact ⟨l[i], List.getElem_mem hi, by simp [h]⟩
  simp [allB, this]
theorem all_t {l : List ByteArray} {m : Int} (hm : (l.length : Int) ≤ m) (h : ∀ i (hi : i < l.length), goodB l[i] = true) : allB m l = true := by
  have : l.all goodB = true := by
    rw [List.all_eq_true]
    intro s hs
    obtain ⟨i, hi, rfl⟩ := List.getElem_of_mem hs
    exact h i hi
  simp [allB, this, hm]
theorem all_long {l : List ByteArray} {m : Int} (hm : m < l.length) : allB m l = false := by
  simp only [allB, decide_eq_false (show ¬ (l.length : Int) ≤ m by omega), Bool.false_and]
theorem filled_any (s : ByteArray) (hs : s.size ≤ maxLen) (w : World) :
    Calls Tryd.prog 85 #[.string s] w fun e w' => e = .returned (.bool (goodB s)) ∧ Below w.heap.size w w' := by
  by_cases hz : s.size = 0
  · have hem := empty_t (s := s) (by omega)
    have hv : goodB s = false := by simp [goodB, hz]
    rw [hv]
    go_enter Tryd.func85, Tryd.ntmps85
    go_wp2
    go_ret
    exact ⟨rfl, Below.refl _ _⟩
  · have hem := empty_f (s := s) (by omega)
    have hv : goodB s = textB s := by simp [goodB, hz]
    rw [hv]
    have HT := Lib.hid (implRight_any s hs)
    go_enter Tryd.func85, Tryd.ntmps85
    go_wp2_with fail
    refine (HT.out _).mono ?_
    rintro e w1 ⟨rfl, hb⟩
    go_wp2
    go_ret
    exact ⟨rfl, hb⟩
end Go.Proofs.YtlhfgpcanfpnfaaDoor.all_
