/-
  UndosRight, the model's and the program's. For every list of at most a million lines.
-/
import Derived.Test.YtjjabfcdhknigaaLines
import Derived.Test.YtjjabfcdhknigaaLineRight
namespace Go.Proofs.Ytjjabfcdhknigaa.undo
open Go.ChangeShapes Go.WideShapes Go.ChangeAt Go.RowKit
open Go.Proofs.Ytjjabfcdhknigaa.strs Go.Proofs.Ytjjabfcdhknigaa.lines Go.Proofs.Ytjjabfcdhknigaa.line
noncomputable def lineG (x : ByteArray × Int) : Bool := lineB x.1 x.2
noncomputable def undosB (l : List (ByteArray × Int)) : Bool := l.all lineG && decide ((l.length : Int) ≤ 20)
theorem lines_f {l : List (ByteArray × Int)} {i : Nat} (hi : i < l.length) (h : lineG l[i] = false) : l.all lineG = false := by
  rw [List.all_eq_false]
  exact ⟨l[i], List.getElem_mem hi, by simp [h]⟩
theorem lines_t {l : List (ByteArray × Int)} (h : ∀ i (hi : i < l.length), lineG l[i] = true) : l.all lineG = true := by
  rw [List.all_eq_true]
  intro s hs
  obtain ⟨i, hi, rfl⟩ := List.getElem_of_mem hs
  exact h i hi
theorem undosB_f {l : List (ByteArray × Int)} {i : Nat} (hi : i < l.length) (h : lineG l[i] = false) : undosB l = false := by simp [undosB, lines_f hi h]
theorem undosB_t {l : List (ByteArray × Int)} (h : ∀ i (hi : i < l.length), lineG l[i] = true) : undosB l = decide ((l.length : Int) ≤ 20) := by simp [undosB, lines_t h]
theorem undosB_long {l : List (ByteArray × Int)} (h : 20 < l.length) : undosB l = false := by
  unfold undosB
  rw [decide_eq_false (show ¬ (l.length : Int) ≤ 20 by omega), Bool.and_false]
set_option maxHeartbeats 1600000 in
theorem specUndos_any (a : Option Addr) (C : Nat) (l : List (ByteArray × Int)) (hn : l.length ≤ 1048576) (hl : ∀ s ∈ l, s.1.size ≤ maxLen) (w : World) (h : LRow w a l) :
    Calls Try.prog 19 #[.slice a l.length C] w fun e w' => e = .returned (.bool (undosB l)) ∧ Below w.heap.size w w' := by
  obtain ⟨n, hn'⟩ : ∃ n, n = l.length := ⟨_, rfl⟩
  have HA := Lib.hid h
  have HN := Lib.hid hn'
  have HL := Lib.hid hl
  rw [← hn'] at hn ⊢
  have HF := Lib.hid (fun (i : Nat) (hi : i < l.length) (hg : lineG l[i] = false) => undosB_f hi hg)
  have HT := Lib.hid (show (∀ i (hi : i < l.length), lineG l[i] = true) → undosB l = decide ((n : Int) ≤ 20) from fun h => by rw [undosB_t h, ← hn'])
  clear h hl hn'
  go_enter Try.func19, Try.ntmps19
  go_wp2
  go_loopw [3] (fun iv wr => ∃ k : Nat, k ≤ n ∧ iv = .int .i64 k ∧ (∀ i (hi : i < l.length), i < k → lineG l[i] = true) ∧ Below w.heap.size w wr) (fun iv _ => n - (intOf iv).toNat)
  case atStart => exact ⟨0, Nat.zero_le _, rfl, fun i _ hi => absurd hi (by omega), Below.refl _ _⟩
  case round =>
    obtain ⟨k, hk, rfl, hall, hbel⟩ := hrel
    rename World => wr
    have HX := Lib.hid hall
    have HB := Lib.hid hbel
    have HA2 := Lib.hid (HA.out.below hbel)
    clear hall hbel
    by_cases hlt : k < n
    · have hkl : k < l.length := by rw [← HN.out]; exact hlt
      obtain ⟨g, o, rfl, c0, c1⟩ := HA2.out.at hkl
      have hs := HL.out l[k] (List.getElem_mem hkl)
      have HBAD := Lib.hid (HF.out k hkl)
      have HGOOD := Lib.hid (fun (hg : lineG l[k] = true) => (show ∀ i (hi : i < l.length), i < k + 1 → lineG l[i] = true from fun i hi hik => by
        by_cases e : i = k
        · subst e; exact hg
        · exact HX.out i hi (by omega)))
      obtain ⟨⟨s, z⟩, hse⟩ : ∃ s, s = l[k] := ⟨_, rfl⟩
      rw [← hse] at c0 c1 hs HBAD HGOOD
      have HT1 := Lib.hid (specLine_any s z hs)
      unfold lineG at HBAD HGOOD
      dsimp only at c0 c1 HBAD HGOOD
      clear hse hs
      cases ht : lineB s z
      · rw [ht] at HT1 HBAD
        have HE := Lib.hid (HBAD.out rfl)
        clear ht
        go_wp2_with fail
        refine (HT1.out _).mono ?_
        rintro e w1 ⟨rfl, hb⟩
        have HX2 := Lib.hid (bthen HB.out hb HB.out.size)
        clear hb
        go_wp2
        go_ret
        exact ⟨by rw [HE.out]; rfl, HX2.out⟩
      · rw [ht] at HT1 HGOOD
        have HE := Lib.hid (HGOOD.out rfl)
        clear ht
        go_wp2_with fail
        refine (HT1.out _).mono ?_
        rintro e w1 ⟨rfl, hb⟩
        have HX2 := Lib.hid (bthen HB.out hb HB.out.size)
        clear hb
        go_wp2
        go_roundw
        case rel => exact ⟨k + 1, by omega, by go_num, HE.out, HX2.out⟩
        case measure => simp [intOf]; omega
    · obtain rfl : k = n := by omega
      have HV := Lib.hid (HT.out (fun i hi => HX.out i hi (by rw [HN.out]; exact hi)))
      go_wp2
      go_ret
      exact ⟨by rw [HV.out]; rfl, HB.out⟩
set_option maxHeartbeats 1600000 in
theorem areAllL_any (a : Option Addr) (C : Nat) (l : List (ByteArray × Int)) (hn : l.length ≤ 1048576) (hl : ∀ s ∈ l, s.1.size ≤ maxLen) (w : World) (h : LRow w a l) :
    Calls Try.prog 42 #[.slice a l.length C, .int .i64 20, .func (.func 43) #[] #[]] w fun e w' => e = .returned (.bool (undosB l)) ∧ Below w.heap.size w w' := by
  obtain ⟨n, hn'⟩ : ∃ n, n = l.length := ⟨_, rfl⟩
  have HA := Lib.hid h
  have HN := Lib.hid hn'
  have HL := Lib.hid hl
  rw [← hn'] at hn ⊢
  have HF := Lib.hid (fun (i : Nat) (hi : i < l.length) (hg : lineG l[i] = false) => undosB_f hi hg)
  have HT := Lib.hid (show n ≤ 20 → (∀ i (hi : i < l.length), lineG l[i] = true) → undosB l = true from fun h1 h => by rw [undosB_t h, ← hn']; exact decide_eq_true (by omega))
  have HM := Lib.hid (show 20 < n → undosB l = false from fun h => undosB_long (by omega))
  clear h hl hn'
  by_cases h5 : 20 < n
  · have HV := Lib.hid (HM.out h5)
    clear HM HF HT
    go_enter Try.func42, Try.ntmps42
    go_wp2
    go_ret
    exact ⟨by rw [HV.out]; rfl, Below.refl _ _⟩
  have hd5 : (20 : Int) < n → False := by omega
  go_enter Try.func42, Try.ntmps42
  go_wp2
  go_loopw [15] (fun iv wr => ∃ k : Nat, k ≤ n ∧ iv = .int .i64 k ∧ (∀ i (hi : i < l.length), i < k → lineG l[i] = true) ∧ Below w.heap.size w wr) (fun iv _ => n - (intOf iv).toNat)
  case atStart => exact ⟨0, Nat.zero_le _, rfl, fun i _ hi => absurd hi (by omega), Below.refl _ _⟩
  case round =>
    obtain ⟨k, hk, rfl, hall, hbel⟩ := hrel
    rename World => wr
    have HX := Lib.hid hall
    have HB := Lib.hid hbel
    have HA2 := Lib.hid (HA.out.below hbel)
    clear hall hbel
    by_cases hlt : k < n
    · have hkl : k < l.length := by rw [← HN.out]; exact hlt
      obtain ⟨g, o, rfl, c0, c1⟩ := HA2.out.at hkl
      have hs := HL.out l[k] (List.getElem_mem hkl)
      have HBAD := Lib.hid (HF.out k hkl)
      have HGOOD := Lib.hid (fun (hg : lineG l[k] = true) => (show ∀ i (hi : i < l.length), i < k + 1 → lineG l[i] = true from fun i hi hik => by
        by_cases e : i = k
        · subst e; exact hg
        · exact HX.out i hi (by omega)))
      obtain ⟨⟨s, z⟩, hse⟩ : ∃ s, s = l[k] := ⟨_, rfl⟩
      rw [← hse] at c0 c1 hs HBAD HGOOD
      have HT1 := Lib.hid (implLine_any s z hs)
      unfold lineG at HBAD HGOOD
      dsimp only at c0 c1 HBAD HGOOD
      have HB2 := Lib.hid (HB.out.alloc HB.out.size (.cells #[.string s, .int .i64 z] 60))
      clear hse hs
      cases ht : lineB s z
      · rw [ht] at HT1 HBAD
        have HE := Lib.hid (HBAD.out rfl)
        clear ht
        go_wp2_with fail
        refine (HT1.out _).mono ?_
        rintro e w1 ⟨rfl, hb⟩
        have HX2 := Lib.hid (bthen HB2.out hb HB2.out.size)
        clear hb
        go_wp2
        go_ret
        exact ⟨by rw [HE.out]; rfl, HX2.out⟩
      · rw [ht] at HT1 HGOOD
        have HE := Lib.hid (HGOOD.out rfl)
        clear ht
        go_wp2_with fail
        refine (HT1.out _).mono ?_
        rintro e w1 ⟨rfl, hb⟩
        have HX2 := Lib.hid (bthen HB2.out hb HB2.out.size)
        clear hb
        go_wp2
        go_roundw
        case rel => exact ⟨k + 1, by omega, by go_num, HE.out, HX2.out⟩
        case measure => simp [intOf]; omega
    · obtain rfl : k = n := by omega
      have HV := Lib.hid (HT.out (by omega) (fun i hi => HX.out i hi (by rw [HN.out]; exact hi)))
      go_wp2
      go_ret
      exact ⟨by rw [HV.out]; rfl, HB.out⟩
theorem implUndos_any (a : Option Addr) (C : Nat) (l : List (ByteArray × Int)) (hn : l.length ≤ 1048576) (hl : ∀ s ∈ l, s.1.size ≤ maxLen) (w : World) (h : LRow w a l) :
    Calls Try.prog 21 #[.slice a l.length C] w fun e w' => e = .returned (.bool (undosB l)) ∧ Below w.heap.size w w' := by
  have HA := Lib.hid (areAllL_any a C l hn hl w h)
  obtain ⟨B, hB⟩ : ∃ B, B = undosB l := ⟨_, rfl⟩
  rw [← hB] at HA ⊢
  obtain ⟨n, hn'⟩ : ∃ n, n = l.length := ⟨_, rfl⟩
  rw [← hn'] at HA ⊢
  clear hB hn' hn hl h
  go_enter Try.func21, Try.ntmps21
  go_wp2_with fail
  refine HA.out.mono ?_
  rintro e w1 ⟨rfl, hb⟩
  go_wp2
  go_ret
  exact ⟨rfl, hb⟩
end Go.Proofs.Ytjjabfcdhknigaa.undo
