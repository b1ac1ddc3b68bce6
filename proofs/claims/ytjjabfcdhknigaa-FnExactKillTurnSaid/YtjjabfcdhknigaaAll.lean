/-
  The program's isFilled and areAll, over texts. For every list of at most a million texts.
-/
import Derived.Test.YtjjabfcdhknigaaTexts
import Derived.Test.YtjjabfcdhknigaaLine
import Derived.Deep.RegionHeld3
namespace Go.Proofs.Ytjjabfcdhknigaa.all_
open Go.ChangeShapes Go.WideShapes Go.ChangeAt Go.RowKit
open Go.Proofs.Ytjjabfcdhknigaa.strs Go.Proofs.Ytjjabfcdhknigaa.line
noncomputable def goodB (s : ByteArray) : Bool := textB s && decide (s.size ≠ 0)
noncomputable def allB (m : Int) (l : List ByteArray) : Bool := decide ((l.length : Int) ≤ m) && l.all goodB
theorem all_f {l : List ByteArray} {m : Int} {i : Nat} (hi : i < l.length) (h : goodB l[i] = false) : allB m l = false := by
  have : l.all goodB = false := by
    rw [List.all_eq_false]
    exact ⟨l[i], List.getElem_mem hi, by simp [h]⟩
  simp [allB, this]
theorem all_t {l : List ByteArray} {m : Int} (hm : (l.length : Int) ≤ m) (h : ∀ i (hi : i < l.length), goodB l[i] = true) : allB m l = true := by
  have : l.all goodB = true := by
    rw [List.all_eq_true]
    intro s hs
    obtain ⟨i, hi, rfl⟩ := List.getElem_of_mem hs
    exact h i hi
  simp [allB, this, hm]
theorem all_long {l : List ByteArray} {m : Int} (hm : m < l.length) : allB m l = false := by
  simp only [allB, decide_eq_false (show ¬ (l.length : Int) ≤ m by omega), Bool.false_and]
theorem filled_any (s : ByteArray) (hs : s.size ≤ maxLen) (w : World) :
    Calls Try.prog 46 #[.string s] w fun e w' => e = .returned (.bool (goodB s)) ∧ Below w.heap.size w w' := by
  by_cases hz : s.size = 0
  · have hem := empty_t (s := s) (by omega)
    have hv : goodB s = false := by simp [goodB, hz]
    rw [hv]
    go_enter Try.func46, Try.ntmps46
    go_wp2
    go_ret
    exact ⟨rfl, Below.refl _ _⟩
  · have hem := empty_f (s := s) (by omega)
    have hv : goodB s = textB s := by simp [goodB, hz]
    rw [hv]
    have HT := Lib.hid (implRight_any s hs)
    go_enter Try.func46, Try.ntmps46
    go_wp2_with fail
    refine (HT.out _).mono ?_
    rintro e w1 ⟨rfl, hb⟩
    go_wp2
    go_ret
    exact ⟨rfl, hb⟩
theorem areAllS_any (a : Option Addr) (C : Nat) (l : List ByteArray) (m : Int) (hn : l.length ≤ 1048576) (hl : ∀ s ∈ l, s.size ≤ maxLen) (w : World) (h : SRow w a l) :
    Calls Try.prog 45 #[.slice a l.length C, .int .i64 m, .func (.func 46) #[] #[]] w fun e w' => e = .returned (.bool (allB m l)) ∧ Below w.heap.size w w' := by
  obtain ⟨n, hn'⟩ : ∃ n, n = l.length := ⟨_, rfl⟩
  have HA := Lib.hid h
  have HN := Lib.hid hn'
  have HL := Lib.hid hl
  rw [← hn'] at hn ⊢
  have HF := Lib.hid (fun (i : Nat) (hi : i < l.length) (hg : goodB l[i] = false) => all_f (m := m) hi hg)
  have HT := Lib.hid (show (n : Int) ≤ m → (∀ i (hi : i < l.length), goodB l[i] = true) → allB m l = true from fun h1 h => all_t (by rw [← hn']; exact h1) h)
  have HM := Lib.hid (show m < n → allB m l = false from fun h => all_long (by rw [← hn']; exact h))
  clear h hl hn'
  by_cases h5 : m < n
  · have HV := Lib.hid (HM.out h5)
    clear HM HF HT
    go_enter Try.func45, Try.ntmps45
    go_wp2
    go_ret
    exact ⟨by rw [HV.out]; rfl, Below.refl _ _⟩
  have hd5 : (n : Int) ≤ m := by omega
  have hnn : (0 : Int) ≤ n := by omega
  have HTT := Lib.hid (HT.out hd5)
  clear HM HT
  go_enter Try.func45, Try.ntmps45
  go_wp2
  go_loopw [15] (fun iv wr => ∃ k : Nat, k ≤ n ∧ iv = .int .i64 k ∧ (∀ i (hi : i < l.length), i < k → goodB l[i] = true) ∧ Below w.heap.size w wr) (fun iv _ => n - (intOf iv).toNat)
  case atStart => exact ⟨0, Nat.zero_le _, rfl, fun i _ hi => absurd hi (by omega), Below.refl _ _⟩
  case round =>
    obtain ⟨k, hk, rfl, hall, hbel⟩ := hrel
    rename World => wr
    have HX := Lib.hid hall
    have HB := Lib.hid hbel
    have HA2 := Lib.hid (HA.out.below hbel)
    clear hall hbel
    by_cases hlt : k < n
    · have hkl : k < l.length := by rw [← HN.out]; exact hlt
      obtain ⟨g, o, rfl, c0⟩ := HA2.out.at hkl
      have hs := HL.out l[k] (List.getElem_mem hkl)
      have HBAD := Lib.hid (HF.out k hkl)
      have HGOOD := Lib.hid (fun (hg : goodB l[k] = true) => (show ∀ i (hi : i < l.length), i < k + 1 → goodB l[i] = true from fun i hi hik => by
        by_cases e : i = k
        · subst e; exact hg
        · exact HX.out i hi (by omega)))
      obtain ⟨s, hse⟩ : ∃ s, s = l[k] := ⟨_, rfl⟩
      rw [← hse] at c0 hs HBAD HGOOD
      have HT1 := Lib.hid (filled_any s hs)
      clear hse hs
      cases ht : goodB s
      · rw [ht] at HT1
        have HE := Lib.hid (HBAD.out ht)
        clear ht
        go_wp2_with fail
        refine (HT1.out _).mono ?_
        rintro e w1 ⟨rfl, hb⟩
        have HX2 := Lib.hid (bthen HB.out hb HB.out.size)
        clear hb
        go_wp2
        go_ret
        exact ⟨by rw [HE.out]; rfl, HX2.out⟩
      · rw [ht] at HT1
        have HE := Lib.hid (HGOOD.out ht)
        clear ht
        go_wp2_with fail
        refine (HT1.out _).mono ?_
        rintro e w1 ⟨rfl, hb⟩
        have HX2 := Lib.hid (bthen HB.out hb HB.out.size)
        clear hb
        go_wp2
        go_roundw
        case rel => exact ⟨k + 1, by omega, by go_num, HE.out, HX2.out⟩
        case measure => simp [intOf]; omega
    · obtain rfl : k = n := by omega
      have HV := Lib.hid (HTT.out (fun i hi => HX.out i hi (by rw [HN.out]; exact hi)))
      go_wp2
      go_ret
      exact ⟨by rw [HV.out]; rfl, HB.out⟩
end Go.Proofs.Ytjjabfcdhknigaa.all_
