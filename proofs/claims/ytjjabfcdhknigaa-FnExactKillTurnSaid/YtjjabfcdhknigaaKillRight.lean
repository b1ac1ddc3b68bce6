/-
  The model's KillsRight. For every such value.
-/
import Derived.Test.YtjjabfcdhknigaaKillSpec
namespace Go.Proofs.Ytjjabfcdhknigaa.kill
open Go.ChangeShapes Go.WideShapes Go.ChangeAt Go.RowKit
open Go.Proofs.Ytjjabfcdhknigaa.strs Go.Proofs.Ytjjabfcdhknigaa.line
noncomputable def goodB (s : ByteArray) : Bool := textB s && decide (s.size ≠ 0)
noncomputable def textsB (l : List ByteArray) : Bool := l.all goodB
def topB (n : Nat) (t : Int) : Bool := (decide (0 ≤ t) && decide (t ≤ (n : Int) - 1)) || (decide ((n : Int) = 0) && decide (t = 0))
noncomputable def killsB (l : List ByteArray) (t : Int) : Bool := textsB l && (decide ((l.length : Int) ≤ 5) && topB l.length t)
theorem textsB_f {l : List ByteArray} {i : Nat} (hi : i < l.length) (h : goodB l[i] = false) : textsB l = false := by
  unfold textsB
  rw [List.all_eq_false]
  exact ⟨l[i], List.getElem_mem hi, by simp [h]⟩
theorem textsB_t {l : List ByteArray} (h : ∀ i (hi : i < l.length), goodB l[i] = true) : textsB l = true := by
  unfold textsB
  rw [List.all_eq_true]
  intro s hs
  obtain ⟨i, hi, rfl⟩ := List.getElem_of_mem hs
  exact h i hi
theorem killsB_f {l : List ByteArray} {t : Int} (h : textsB l = false) : killsB l t = false := by simp [killsB, h]
theorem killsB_t {l : List ByteArray} {t : Int} (h : textsB l = true) : killsB l t = (decide ((l.length : Int) ≤ 5) && topB l.length t) := by simp [killsB, h]
set_option maxHeartbeats 3200000 in
theorem specKills_any (a : Option Addr) (C : Nat) (l : List ByteArray) (t : Int) (hn : l.length ≤ 1048576) (hl : ∀ s ∈ l, s.size ≤ maxLen) (w : World) (h : SRow w a l) :
    Calls Try.prog 8 #[kV a l.length C t] w fun e w' => e = .returned (.bool (killsB l t)) ∧ Below w.heap.size w w' := by
  obtain ⟨n, hn'⟩ : ∃ n, n = l.length := ⟨_, rfl⟩
  have hal := (Below.refl _ w).alloc (Nat.le_refl _) (.cells #[.slice a n C, .int .i64 t] 27)
  have HA := Lib.hid (h.below hal)
  have HB := Lib.hid hal
  have HN := Lib.hid hn'
  have HL := Lib.hid hl
  rw [← hn'] at hn ⊢
  have HF := Lib.hid (fun (i : Nat) (hi : i < l.length) (hg : goodB l[i] = false) => killsB_f (t := t) (textsB_f hi hg))
  have HT := Lib.hid (show (∀ i (hi : i < l.length), goodB l[i] = true) → killsB l t = (decide ((n : Int) ≤ 5) && topB n t) from fun h => by rw [killsB_t (textsB_t h), ← hn'])
  unfold kV
  clear h hal hl hn'
  have hnn : (0 : Int) ≤ n := by omega
  go_enter Try.func8, Try.ntmps8
  go_wp2
  go_loop [3] (fun iv => ∃ k : Nat, k ≤ n ∧ iv = .int .i64 k ∧ ∀ i (hi : i < l.length), i < k → goodB l[i] = true) (fun iv => n - (intOf iv).toNat)
  case atStart => exact ⟨0, Nat.zero_le _, rfl, fun i _ hi => absurd hi (by omega)⟩
  case round =>
    obtain ⟨k, hk, rfl, hall⟩ := hrel
    have HX := Lib.hid hall
    clear hall
    by_cases hlt : k < n
    · have hkl : k < l.length := by rw [← HN.out]; exact hlt
      obtain ⟨g, o, rfl, c0⟩ := HA.out.at hkl
      have hs := HL.out l[k] (List.getElem_mem hkl)
      have HBAD := Lib.hid (HF.out k hkl)
      have HGOOD := Lib.hid (fun (hg : goodB l[k] = true) => (show ∀ i (hi : i < l.length), i < k + 1 → goodB l[i] = true from fun i hi hik => by
        by_cases e : i = k
        · subst e; exact hg
        · exact HX.out i hi (by omega)))
      obtain ⟨s, hse⟩ : ∃ s, s = l[k] := ⟨_, rfl⟩
      rw [← hse] at c0 hs HBAD HGOOD
      have HT1 := Lib.hid (specRight_any s hs)
      clear hse hs
      cases ht : textB s
      · rw [ht] at HT1
        have HE := Lib.hid (HBAD.out (by simp [goodB, ht]))
        clear ht
        go_wp2_with fail
        refine (HT1.out _).mono ?_
        rintro e w1 ⟨rfl, rfl⟩
        go_wp2
        go_ret
        exact ⟨by rw [HE.out]; rfl, HB.out⟩
      · rw [ht] at HT1
        by_cases hz : s.size = 0
        · have HE := Lib.hid (HBAD.out (by simp [goodB, hz]))
          have hem := empty_t (s := s) (by omega)
          clear ht hz
          go_wp2_with fail
          refine (HT1.out _).mono ?_
          rintro e w1 ⟨rfl, rfl⟩
          go_wp2
          go_ret
          exact ⟨by rw [HE.out]; rfl, HB.out⟩
        · have HE := Lib.hid (HGOOD.out (by simp [goodB, hz, ht]))
          have hem := empty_f (s := s) (by omega)
          clear ht hz
          go_wp2_with fail
          refine (HT1.out _).mono ?_
          rintro e w1 ⟨rfl, rfl⟩
          go_wp2
          go_round
          case rel => exact ⟨k + 1, by omega, by go_num, HE.out⟩
          case measure => simp [intOf]; omega
    · obtain rfl : k = n := by omega
      have HE := Lib.hid (HT.out (fun i hi => HX.out i hi (by rw [HN.out]; exact hi)))
      by_cases h5 : (k : Int) ≤ 5
      · have hd5 : decide ((k : Int) ≤ 5) = true := decide_eq_true h5
        have hw : IntKind.i64.wrap ((k : Int) - 1) = (k : Int) - 1 := IntWalk.i64_in _ (by omega)
        have HI := Lib.hid (is_any t 0 ((k : Int) - 1))
        cases hi : (decide (0 ≤ t) && decide (t ≤ (k : Int) - 1))
        · rw [hi] at HI
          by_cases hk0 : (k : Int) = 0
          · have dk : decide ((k : Int) = 0) = true := decide_eq_true hk0
            have HV := Lib.hid (show killsB l t = decide (t = 0) by rw [HE.out, hd5]; unfold topB; rw [hi, dk]; simp)
            have bk : ((k : Int) == 0) = true := by simpa using hk0
            clear hi hk0 dk
            go_wp2_with fail
            refine (HI.out _).mono ?_
            rintro e w1 ⟨rfl, rfl⟩
            go_wp2
            go_ret
            exact ⟨by rw [HV.out]; rfl, HB.out⟩
          · have dk : decide ((k : Int) = 0) = false := decide_eq_false hk0
            have HV := Lib.hid (show killsB l t = false by rw [HE.out, hd5]; unfold topB; rw [hi, dk]; simp)
            have bk : ((k : Int) == 0) = false := by simpa using hk0
            clear hi hk0 dk
            go_wp2_with fail
            refine (HI.out _).mono ?_
            rintro e w1 ⟨rfl, rfl⟩
            go_wp2
            go_ret
            exact ⟨by rw [HV.out]; rfl, HB.out⟩
        · rw [hi] at HI
          have HV := Lib.hid (show killsB l t = true by rw [HE.out, hd5]; unfold topB; rw [hi]; simp)
          clear hi
          go_wp2_with fail
          refine (HI.out _).mono ?_
          rintro e w1 ⟨rfl, rfl⟩
          go_wp2
          go_ret
          exact ⟨by rw [HV.out]; rfl, HB.out⟩
      · have hd5 : decide ((k : Int) ≤ 5) = false := decide_eq_false h5
        have HV := Lib.hid (show killsB l t = false by rw [HE.out, hd5]; rfl)
        go_wp2
        go_ret
        exact ⟨by rw [HV.out]; rfl, HB.out⟩
end Go.Proofs.Ytjjabfcdhknigaa.kill
