/-
  A right text, a right line: the program and the model tell the same. For every text that the row reads, every place.
-/
import Derived.Test.YtjjabfcdhknigaaBase
import Derived.Laws.RangeString
import Derived.Laws.RangeAny
import Derived.Lib.RuneCount
namespace Go.Proofs.Ytjjabfcdhknigaa.line
open Go.ChangeShapes Go.WideShapes Go.ChangeAt Go.RowKit
def smallN (n : Nat) : Bool := decide (97 ≤ n) && decide (n ≤ 122)
def capN (n : Nat) : Bool := decide (65 ≤ n) && decide (n ≤ 90)
def digN (n : Nat) : Bool := decide (48 ≤ n) && decide (n ≤ 57)
def printN (n : Nat) : Bool := decide (32 ≤ n) && decide (n ≤ 126)
def wordN (n : Nat) : Bool := smallN n || (capN n || digN n)
def kindN (r : Nat) : Int := if printN r then (if smallN r then 3 else if capN r then 4 else if digN r then 2 else 1) else 0
theorem printN_f {n : Nat} (h : ¬ (32 ≤ n ∧ n ≤ 126)) : printN n = false := by simp [printN]; omega
theorem printN_t {n : Nat} (h : 32 ≤ n ∧ n ≤ 126) : printN n = true := by simp [printN]; omega
theorem printN_iff {n : Nat} : printN n = true ↔ (32 ≤ n ∧ n ≤ 126) := by simp [printN]
theorem kindN_zero (n : Nat) : (kindN n == 0) = !printN n := by
  unfold kindN
  cases printN n <;> simp
  split
  · decide
  · split
    · decide
    · split <;> decide
theorem kindN_word (n : Nat) (h : printN n = true) : decide ((2 : Int) ≤ kindN n) = wordN n := by
  unfold kindN wordN
  rw [h]
  cases smallN n <;> cases capN n <;> cases digN n <;> rfl
theorem isSmall_any (c : Nat) (w : World) :
    Calls Try.prog 59 #[.int .u8 c] w fun e w' => e = .returned (.bool (smallN c)) ∧ w = w' := by
  go_enter Try.func59, Try.ntmps59
  go_wp2
  · have h : 97 ≤ c := by omega
    go_ret
    exact ⟨by simp [smallN, h]; omega, rfl⟩
  · have h : ¬ 97 ≤ c := by omega
    go_ret
    exact ⟨by simp [smallN, h], rfl⟩
theorem isDigit_any (c : Nat) (w : World) :
    Calls Try.prog 60 #[.int .u8 c] w fun e w' => e = .returned (.bool (digN c)) ∧ w = w' := by
  go_enter Try.func60, Try.ntmps60
  go_wp2
  · have h : 48 ≤ c := by omega
    go_ret
    exact ⟨by simp [digN, h]; omega, rfl⟩
  · have h : ¬ 48 ≤ c := by omega
    go_ret
    exact ⟨by simp [digN, h], rfl⟩
theorem kindOf_any (r : Nat) (hr : r ≤ 2147483647) (w : World) :
    Calls Try.prog 58 #[.int .i32 r] w fun e w' => e = .returned (.int .i64 (kindN r)) ∧ w = w' := by
  by_cases hp : printN r = true
  · have h1 : 32 ≤ r ∧ r ≤ 126 := printN_iff.1 hp
    obtain ⟨h1, h2⟩ := h1
    cases hs : smallN r
    · by_cases hc : 65 ≤ r ∧ r ≤ 90
      · obtain ⟨hc1, hc2⟩ := hc
        have hk : kindN r = 4 := by simp [kindN, hp, hs, capN, hc1, hc2]
        have HK := Lib.hid hk
        clear hk
        go_enter Try.func58, Try.ntmps58
        go_wp2_with (first | (go_at_call 59; refine (isSmall_any _ _).mono ?_; rintro e w' ⟨rfl, rfl⟩) | (go_at_call 60; refine (isDigit_any _ _).mono ?_; rintro e w' ⟨rfl, rfl⟩))
        go_ret
        exact ⟨by rw [HK.out]; rfl, rfl⟩
      · have hcc : capN r = false := by simp [capN]; omega
        have hk : kindN r = if digN r then 2 else 1 := by simp [kindN, hp, hs, hcc]
        have HK := Lib.hid hk
        clear hk hcc
        cases hd : digN r
        · go_enter Try.func58, Try.ntmps58
          go_wp2_with (first | (go_at_call 59; refine (isSmall_any _ _).mono ?_; rintro e w' ⟨rfl, rfl⟩) | (go_at_call 60; refine (isDigit_any _ _).mono ?_; rintro e w' ⟨rfl, rfl⟩))
          all_goals first
            | (exfalso; omega)
            | (go_ret
               exact ⟨by rw [HK.out]; simp [hd], rfl⟩)
        · go_enter Try.func58, Try.ntmps58
          go_wp2_with (first | (go_at_call 59; refine (isSmall_any _ _).mono ?_; rintro e w' ⟨rfl, rfl⟩) | (go_at_call 60; refine (isDigit_any _ _).mono ?_; rintro e w' ⟨rfl, rfl⟩))
          all_goals first
            | (exfalso; omega)
            | (go_ret
               exact ⟨by rw [HK.out]; simp [hd], rfl⟩)
    · have hk : kindN r = 3 := by simp [kindN, hp, hs]
      have HK := Lib.hid hk
      clear hk
      go_enter Try.func58, Try.ntmps58
      go_wp2_with (first | (go_at_call 59; refine (isSmall_any _ _).mono ?_; rintro e w' ⟨rfl, rfl⟩))
      go_ret
      exact ⟨by rw [HK.out]; rfl, rfl⟩
  · have hk : kindN r = 0 := by simp [kindN, hp]
    have HK := Lib.hid hk
    clear hk
    by_cases h1 : r < 32
    · go_enter Try.func58, Try.ntmps58
      go_wp2
      go_ret
      exact ⟨by rw [HK.out]; rfl, rfl⟩
    · have h2 : 126 < r := by
        apply Classical.byContradiction
        intro h
        exact hp (printN_t (by omega))
      go_enter Try.func58, Try.ntmps58
      go_wp2
      go_ret
      exact ⟨by rw [HK.out]; rfl, rfl⟩

/-! ### a right text -/
def Pr (s : ByteArray) (k : Nat) : Prop := ∀ i (h : i < s.size), i < k → printN (s[i].toNat) = true
theorem Pr.zero (s : ByteArray) : Pr s 0 := fun _ _ h => absurd h (by omega)
theorem Pr.succ {s : ByteArray} {k : Nat} (h : Pr s k) (hk : k < s.size) (g : printN (s[k].toNat) = true) : Pr s (k+1) := by
  intro i hi hik
  by_cases e : i = k
  · subst e; exact g
  · exact h i hi (by omega)
def TextOk (s : ByteArray) : Prop := s.size ≤ 60 ∧ Pr s s.size
noncomputable def textB (s : ByteArray) : Bool := open Classical in decide (TextOk s)
theorem textB_t {s : ByteArray} (h : TextOk s) : textB s = true := by simp [textB, h]
theorem textB_f {s : ByteArray} (h : ¬ TextOk s) : textB s = false := by simp [textB, h]
theorem textB_ok {s : ByteArray} (h : textB s = true) : TextOk s := by simpa [textB] using h
theorem Pr.bad {s : ByteArray} {k : Nat} (hk : k < s.size) (g : printN (s[k].toNat) = false) : textB s = false :=
  textB_f fun h => by have := h.2 k hk hk; rw [g] at this; cases this
theorem Pr.done {s : ByteArray} {k : Nat} (h : Pr s k) (hk : s.size ≤ k) : textB s = decide ((s.size : Int) ≤ 60) := by
  by_cases h6 : s.size ≤ 60
  · rw [textB_t ⟨h6, fun i hi _ => h i hi (by omega)⟩]; simp; omega
  · rw [textB_f (fun x => h6 x.1)]; simp; omega
theorem specRight_any (s : ByteArray) (hs : s.size ≤ maxLen) (w : World) :
    Calls Try.prog 24 #[.string s] w fun e w' => e = .returned (.bool (textB s)) ∧ w = w' := by
  unfold maxLen at hs
  go_enter Try.func24, Try.ntmps24
  go_wp2
  go_loop [3] (fun i => ∃ k : Nat, k ≤ s.size ∧ i = .int .i64 k ∧ Pr s k) (fun i => s.size - (intOf i).toNat)
  case atStart => exact ⟨0, Nat.zero_le _, rfl, Pr.zero s⟩
  case round =>
    obtain ⟨k, hk, rfl, HO⟩ := hrel
    by_cases hlt : k < s.size
    · go_wp2
      all_goals first
        | (go_round
           case rel => exact ⟨k + 1, by omega, by go_num, HO.succ hlt (printN_t (by omega))⟩
           case measure => simp [intOf]; omega)
        | (go_ret
           exact ⟨by rw [Pr.bad hlt (printN_f (by omega))]; rfl, rfl⟩)
    · have hd := HO.done (by omega)
      have HD := Lib.hid hd
      clear hd
      go_wp2
      go_ret
      exact ⟨by rw [HD.out]; rfl, rfl⟩

theorem Below.iterTo (w : World) (s : ByteArray) (k : Nat) : Below w.heap.size w (w.iter s k) := (Below.refl _ w).alloc (Nat.le_refl _) _
noncomputable def prB (s : ByteArray) : Bool := open Classical in decide (Pr s s.size)
theorem prB_t {s : ByteArray} (h : Pr s s.size) : prB s = true := by simp [prB, h]
theorem prB_f {s : ByteArray} (h : ¬ Pr s s.size) : prB s = false := by simp [prB, h]
theorem prB_ok {s : ByteArray} (h : prB s = true) : Pr s s.size := by simpa [prB] using h
theorem Pr.badB {s : ByteArray} {k : Nat} (hk : k < s.size) (g : printN (s[k].toNat) = false) : prB s = false :=
  prB_f fun h => by have := h k hk hk; rw [g] at this; cases this
theorem textB_eq (s : ByteArray) : textB s = (decide ((s.size : Int) ≤ 60) && prB s) := by
  unfold textB prB TextOk
  by_cases h6 : s.size ≤ 60
  · have : ((s.size : Int) ≤ 60) := by omega
    simp [h6, this]
  · have : ¬ ((s.size : Int) ≤ 60) := by omega
    simp [h6, this]
theorem printed_any (s : ByteArray) (hs : s.size ≤ maxLen) (w : World) :
    Calls Try.prog 56 #[.string s] w fun e w' => e = .returned (.bool (prB s)) ∧ Below w.heap.size w w' := by
  unfold maxLen at hs
  have hd : ∀ k, Pr s k → s.size ≤ k → prB s = true := fun k hk hl => prB_t fun i hi _ => hk i hi (by omega)
  have HD := Lib.hid hd
  clear hd
  go_enter Try.func56, Try.ntmps56
  go_wp2
  go_loopw [2] (fun n w' => ∃ (k : Nat), w' = w.iter s k ∧ n = .bool false ∧ k ≤ s.size ∧ Pr s k) (fun _ w' => s.size - w'.iterPos w.heap.size)
  case atStart => exact ⟨0, rfl, rfl, by omega, Pr.zero s⟩
  case round =>
    obtain ⟨k, rfl, rfl, hk, HO⟩ := hrel
    have HO := Lib.hid HO
    by_cases hlt : k < s.size
    · by_cases ha : s[k].toNat < 128
      · have hnx := fun ty => run_next_ascii (P := Try.prog) w s k ty hlt ha
        cases hp : printN s[k].toNat
        · have hz : (kindN s[k].toNat == 0) = true := by rw [kindN_zero, hp]; rfl
          have hb := Pr.badB hlt hp
          have HB := Lib.hid hb
          clear hb hp
          go_wp2_with (go_at_call 58; refine (kindOf_any _ (by omega) _).mono ?_; rintro e w' ⟨rfl, rfl⟩)
          go_ret
          exact ⟨by rw [HB.out]; rfl, Below.iterTo _ _ _⟩
        · have hz : (kindN s[k].toNat == 0) = false := by rw [kindN_zero, hp]; rfl
          have hn := HO.out.succ hlt hp
          have HN := Lib.hid hn
          clear hn hp
          go_wp2_with (go_at_call 58; refine (kindOf_any _ (by omega) _).mono ?_; rintro e w' ⟨rfl, rfl⟩)
          go_roundw
          case rel => exact ⟨k + 1, rfl, rfl, by omega, HN.out⟩
          case measure => simp; omega
      · obtain ⟨d, hd⟩ : ∃ d, d = Utf8.decode s k := ⟨_, rfl⟩
        have hnx := fun ty => run_next_any (P := Try.prog) w s k ty hlt
        have hh := decode_high s k hlt (by omega)
        have hl := decode_le s k
        rw [← hd] at hnx hh hl
        obtain ⟨h1, _⟩ := hh
        obtain ⟨d1, d2⟩ := d
        clear hd
        dsimp only at h1 hl hnx
        have hp : printN d1 = false := printN_f (by omega)
        have hz : (kindN d1 == 0) = true := by rw [kindN_zero, hp]; rfl
        have hb := Pr.badB hlt (printN_f (n := s[k].toNat) (by omega))
        have HB := Lib.hid hb
        clear hb hp
        go_wp2_with (go_at_call 58; refine (kindOf_any _ hl _).mono ?_; rintro e w' ⟨rfl, rfl⟩)
        go_ret
        exact ⟨by rw [HB.out]; rfl, Below.iterTo _ _ _⟩
    · have hnx := fun ty => run_next_end (P := Try.prog) w s k ty hlt
      have ht := HD.out k HO.out (by omega)
      have HT := Lib.hid ht
      clear ht
      go_wp2
      go_ret
      exact ⟨by rw [HT.out]; rfl, Below.iterTo _ _ _⟩
theorem right_any (s : ByteArray) (hs : s.size ≤ maxLen) (w : World) :
    Calls Try.prog 53 #[.string s] w fun e w' => e = .returned (.bool (textB s)) ∧ Below w.heap.size w w' := by
  have H := Lib.hid hs
  have HE := Lib.hid (textB_eq s)
  unfold maxLen at hs
  by_cases h6 : (s.size : Int) ≤ 60
  · have h6' : decide ((s.size : Int) ≤ 60) = true := by simpa using h6
    have HB := Lib.hid (show textB s = prB s by rw [HE.out, h6']; rfl)
    clear HE
    go_enter Try.func53, Try.ntmps53
    go_wp2_with fail
    refine (printed_any _ H.out _).mono ?_
    rintro e w1 ⟨rfl, hb⟩
    go_wp2
    go_ret
    exact ⟨by rw [HB.out]; rfl, hb⟩
  · have h6' : decide ((s.size : Int) ≤ 60) = false := by simpa using h6
    have HB := Lib.hid (show textB s = false by rw [HE.out, h6']; rfl)
    clear HE
    go_enter Try.func53, Try.ntmps53
    go_wp2
    go_ret
    exact ⟨by rw [HB.out]; rfl, Below.refl _ _⟩
theorem implRight_any (s : ByteArray) (hs : s.size ≤ maxLen) (w : World) :
    Calls Try.prog 55 #[.string s] w fun e w' => e = .returned (.bool (textB s)) ∧ Below w.heap.size w w' := by
  go_enter Try.func55, Try.ntmps55
  go_wp2_with fail
  refine (right_any _ hs _).mono ?_
  rintro e w1 ⟨rfl, hb⟩
  go_wp2
  go_ret
  exact ⟨rfl, hb⟩
end Go.Proofs.Ytjjabfcdhknigaa.line
