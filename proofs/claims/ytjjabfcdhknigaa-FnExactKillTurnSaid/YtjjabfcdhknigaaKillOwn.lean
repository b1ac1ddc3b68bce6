/-
  The program's Kills: a list of texts made anew, what a face hands back, turning. For every Kills of at most a million texts.
-/
import Derived.Test.YtjjabfcdhknigaaKillImpl
namespace Go.Proofs.Ytjjabfcdhknigaa.kill
open Go.ChangeShapes Go.WideShapes Go.ChangeAt Go.RowKit
open Go.Proofs.Ytjjabfcdhknigaa.strs Go.Proofs.Ytjjabfcdhknigaa.line
theorem strs_step (l : List ByteArray) (k : Nat) (hk : k < l.length) : (l.take (k + 1)).map Value.string = (l.take k).map Value.string ++ [Value.string l[k]] := by
  rw [List.take_add_one, List.map_append, List.getElem?_eq_getElem hk]; rfl
set_option maxRecDepth 20000 in
theorem ownStrs_any (a : Option Addr) (C : Nat) (l : List ByteArray) (hn : l.length ≤ 1048576) (hl : ∀ s ∈ l, s.size ≤ 1048576) (w : World) (h : SRow w a l) :
    Calls Try.prog 50 #[.slice a l.length C, .func (.func 31) #[] #[]] w fun e w' => ∃ v', e = .returned v' ∧ w'.ownsRow w.heap.size 9 1 v' l.length (l.map Value.string) ∧ Below w.heap.size w w' := by
  obtain ⟨i0, hi, hz0, hz1, hz2⟩ := info_parts infoS
  obtain ⟨n, hn'⟩ : ∃ n, n = l.length := ⟨_, rfl⟩
  have HA := Lib.hid h
  have HN := Lib.hid hn'
  have HL := Lib.hid hl
  rw [← hn'] at hn ⊢
  clear h hl hn'
  go_enter Try.func50, Try.ntmps50
  go_wp2
  go_loopw [5, 10] (fun lv iv wr => ∃ k : Nat, k ≤ n ∧ iv = .int .i64 k ∧ wr.ownsRow w.heap.size 9 1 lv k ((l.take k).map Value.string) ∧ Below w.heap.size w wr) (fun _ iv _ => n - (intOf iv).toNat)
  case atStart => exact ⟨0, Nat.zero_le _, rfl, World.ownsRow_nil _ _ _ _, Below.refl _ _⟩
  case round =>
    obtain ⟨k, hk, rfl, hown, hb⟩ := hrel
    rename_i lv
    rename World => wr
    have HO := Lib.hid hown
    have HB := Lib.hid hb
    have hz := hb.size
    have HA2 := Lib.hid (HA.out.below hb)
    clear hown hb
    by_cases hlt : k < n
    · have hkl : k < l.length := by rw [← HN.out]; exact hlt
      obtain ⟨g, o, rfl, c0⟩ := HA2.out.at hkl
      have HS := Lib.hid (HL.out l[k] (List.getElem_mem hkl))
      have HST := Lib.hid (strs_step l k hkl)
      obtain ⟨s, hse⟩ : ∃ s, s = l[k] := ⟨_, rfl⟩
      rw [← hse] at c0 HS HST
      clear hse hkl
      go_wp2_with fail
      refine (cloneS_any s (by have := HS.out; omega) _).mono ?_
      rintro e w3 ⟨rfl, hb3⟩
      have HO3 := Lib.hid (own_later HO.out hb3)
      have HB3 := Lib.hid (bthen HB.out hb3 hz)
      have z3 : w.heap.size ≤ w3.heap.size := Nat.le_trans hz hb3.size
      clear hb3
      go_wp2_with (first | (at_builtin; refine wpList_append_own _ rfl _ _ 22 rfl w.heap.size 9 i0 (.string ⟨#[]⟩) 1 16 Try.underlying22 hi hz0 hz1 hz2 rfl (by decide) _ _ _ rfl (HO3.out.alloc _) ⟨w3.heap.size, 0, none⟩ 1 1 [.string s] rfl rfl ?c1 ?c2 ?c3 ?c4 ?c5 ?_))
      case c1 =>
        intro j u hj
        match j, hj with
        | 0, hj => simp at hj; subst hj; simp [Addr.add]
      case c2 => intro u hu; simp at hu; subst hu; rfl
      case c3 => unfold maxLen; omega
      case c4 => omega
      case c5 => simp; omega
      intro v' w4 hown' hgrow hnil
      have HO4 := Lib.hid (show w4.ownsRow w.heap.size 9 1 v' (k + 1) ((l.take (k + 1)).map Value.string) by rw [HST.out, List.map_take]; exact hown')
      have HB4 := Lib.hid ((HB3.out.alloc z3 (.cells #[.string s] 9)).grown hgrow (by simp; omega) (fun j hj => (HO3.out.lt j hj).1))
      clear hown' hgrow hnil
      go_wp2
      go_roundw
      case rel => exact ⟨k + 1, by omega, by go_num, HO4.out, HB4.out⟩
      case measure => simp [intOf]; omega
    · obtain rfl : k = n := by omega
      go_wp2
      go_ret
      exact ⟨_, rfl, by have := HO.out; rw [HN.out, List.take_length] at this; rw [HN.out]; exact this, HB.out⟩
theorem ownStrs_own (a : Option Addr) (C : Nat) (l : List ByteArray) (hn : l.length ≤ 1048576) (hl : ∀ s ∈ l, s.size ≤ 1048576) (w : World) (h : SRow w a l) :
    Calls Try.prog 50 #[.slice a l.length C, .func (.func 31) #[] #[]] w fun e w' => ∃ a' c', e = .returned (.slice a' l.length c') ∧ SRow w' a' l ∧ SBlk w.heap.size w' a' l.length ∧ Below w.heap.size w w' :=
  (ownStrs_any a C l hn hl w h).mono fun e w' ⟨v', e1, e2, e3⟩ => by
    obtain ⟨a', c', rfl, _, _, h1, h2⟩ := own_open e2
    exact ⟨a', c', e1, h1, h2, e3⟩
theorem kills_any (a : Option Addr) (C : Nat) (l : List ByteArray) (t : Int) (hn : l.length ≤ 1048576) (hl : ∀ s ∈ l, s.size ≤ 1048576) (w : World) (h : SRow w a l) :
    Calls Try.prog 36 #[kV a l.length C t] w fun e w' => ∃ a' c', e = .returned (kV a' l.length c' t) ∧ SRow w' a' l ∧ SBlk w.heap.size w' a' l.length ∧ Below w.heap.size w w' := by
  have hal := ((Below.refl _ w).alloc (Nat.le_refl _) (.cells #[.slice a l.length C, .int .i64 t] 48)).alloc (by simp) (.cells #[.slice none 0 0, .int .i64 0] 27)
  have HB := Lib.hid hal.drew
  have HC := Lib.hid (ownStrs_own a C l hn hl _ (h.below hal.drew))
  obtain ⟨n, hn'⟩ : ∃ n, n = l.length := ⟨_, rfl⟩
  have HN := Lib.hid hn'
  rw [← hn'] at HC HB ⊢
  unfold kV
  clear h hal hn' hn hl
  go_enter Try.func36, Try.ntmps36
  go_wp2_with fail
  go_region_with (first | (go_at_call 50; refine HC.out.mono ?_; rintro e w1 ⟨a', c', rfl, hr, hs, hb⟩; obtain ⟨p0, _⟩ := keepC hb (g := w.heap.size) (by simp; omega); obtain ⟨p1, q1⟩ := keepC hb (g := w.heap.size + 1) (by simp)))
  all_goals
    have HR := Lib.hid hr
    have HS := Lib.hid (SBlk.lo (b' := w.heap.size) hs (by simp; omega))
    have hne := hs.ne (b := w.heap.size + 1) (by simp)
    have HNE := Lib.hid (show l ≠ [] → blockOf a' ≠ some (w.heap.size + 1) from fun e => hne (fun e2 => e (List.eq_nil_of_length_eq_zero (by rw [← HN.out]; exact e2))))
    have HNF := Lib.hid hne
    have HX := Lib.hid (bthen HB.out hb (by simp; omega))
    clear hr hs hb hne
    go_wp2
    refine bodyPost_ret (v := kV a' n c' t) (by simp [kV, results, Try.results36, go_sem, p1]) rfl ⟨a', c', rfl, (HR.out.setA HNE.out).setA HNE.out, (HS.out.setA HNF.out).setA HNF.out, (HX.out.setCell (p := ⟨w.heap.size + 1, 0, none⟩) (by show w.heap.size ≤ w.heap.size + 1; omega) _).setCell (p := ⟨w.heap.size + 1, 1, none⟩) (by show w.heap.size ≤ w.heap.size + 1; omega) _⟩
theorem turn_zero (n : Nat) : turnT n 0 = lastT n := by
  unfold turnT lastT
  rw [if_neg (by omega)]
  split <;> omega
theorem turned_any (a : Option Addr) (n C : Nat) (t : Int) (hn : n ≤ 1048576) (ht : (0 ≤ t ∧ t ≤ (n : Int) - 1) ∨ (n = 0 ∧ t = 0)) (w : World) :
    Calls Try.prog 35 #[kV a n C t] w fun e w' => e = .returned (kV a n C (turnT n t)) ∧ Below w.heap.size w w' := by
  have HL := Lib.hid (fun W => last_any a n C t hn W)
  have hal := ((Below.refl _ w).alloc (Nat.le_refl _) (.cells #[.slice a n C, .int .i64 t] 46)).alloc (by simp) (.cells #[.slice none 0 0, .int .i64 0] 46)
  have HB := Lib.hid hal
  have HD := Lib.hid hal.drew
  unfold kV at HL ⊢
  clear hal
  by_cases h0 : t = 0
  · subst h0
    have HV := Lib.hid (turn_zero n)
    rw [HV.out]
    obtain ⟨L, hL⟩ : ∃ L, L = lastT n := ⟨_, rfl⟩
    rw [← hL] at HL ⊢
    clear hL HV ht
    go_enter Try.func35, Try.ntmps35
    go_wp2_with fail
    go_region_with (first | (go_at_call 49; refine (HL.out _).mono ?_; rintro e w1 ⟨rfl, hb⟩; obtain ⟨p0, _⟩ := keepC hb (g := w.heap.size) (by simp; omega); obtain ⟨p1, q1⟩ := keepC hb (g := w.heap.size + 1) (by simp)))
    all_goals
      have HX := Lib.hid (bthen HD.out hb (by simp; omega))
      clear hb
      go_wp2
      refine bodyPost_ret (v := kV a n C L) (by simp [kV, results, Try.results35, go_sem, p1]) rfl ⟨rfl, (HX.out.setCell (p := ⟨w.heap.size + 1, 0, none⟩) (by show w.heap.size ≤ w.heap.size + 1; omega) _).setCell (p := ⟨w.heap.size + 1, 1, none⟩) (by show w.heap.size ≤ w.heap.size + 1; omega) _⟩
  · have HV := Lib.hid (show turnT n t = t - 1 by unfold turnT; rw [if_pos (by omega)])
    have hb : (t == 0) = false := by simpa using h0
    rw [HV.out]
    have h1 : 0 < t := by omega
    have h2 : t ≤ 1048576 := by omega
    clear HV ht h0
    go_enter Try.func35, Try.ntmps35
    go_wp2
    refine bodyPost_ret (v := kV a n C (t - 1)) (by simp [kV, results, Try.results35, go_sem]) rfl ⟨rfl, ((Below.refl _ w).alloc (Nat.le_refl _) _).alloc (by simp) _⟩
set_option maxRecDepth 20000 in
theorem implTurn_any (a : Option Addr) (C : Nat) (l : List ByteArray) (t : Int) (hn : l.length ≤ 1048576) (hl : ∀ s ∈ l, s.size ≤ 1048576) (w : World) (h : SRow w a l) :
    Calls Try.prog 15 #[kV a l.length C t] w fun e w' => ∃ a' c', e = .returned (kV a' l.length c' (specTurnV l t)) ∧ SRow w' a' l ∧ SBlk w.heap.size w' a' l.length ∧ Below w.heap.size w w' := by
  have HR := Lib.hid (fun W (h : SRow W a l) => heldRight_any a C l t hn (fun s hs => by have := hl s hs; unfold maxLen; omega) W h)
  have HO := Lib.hid (fun n W => ofKills_any a n C t W)
  have HA := Lib.hid (fun W (hb : Below w.heap.size w W) => h.below hb)
  have HT := Lib.hid (fun (hk : killsB l t = true) W => turned_any a l.length C t hn (killsB_parts hk).2 W)
  have HK := Lib.hid (fun T W (h : SRow W a l) => kills_any a C l T hn hl W h)
  have HNN := Lib.hid (show l ≠ [] → l.length ≠ 0 from fun e e2 => e (List.eq_nil_of_length_eq_zero e2))
  have hal := ((Below.refl _ w).alloc (Nat.le_refl _) (.cells #[.slice a l.length C, .int .i64 t] 27)).alloc (by simp) (.cells #[.slice none 0 0, .int .i64 0] 27)
  obtain ⟨n, hn'⟩ : ∃ n, n = l.length := ⟨_, rfl⟩
  rw [← hn'] at HR HT HK HNN hal ⊢
  have HB := Lib.hid hal
  cases hB : killsB l t
  · have HV := Lib.hid (show specTurnV l t = t by unfold specTurnV; rw [hB]; rfl)
    rw [HV.out]
    rw [hB] at HR
    have HK := Lib.hid (HK.out t)
    unfold kV at HR HO HK ⊢
    clear hB hn' hn hl h HT hal
    go_enter Try.func15, Try.ntmps15
    go_wp2_with fail
    refine (HO.out _ _).mono ?_
    rintro e w1 ⟨rfl, hb⟩
    have HX := Lib.hid ((bthen HB.out hb (by simp; omega)).alloc (by have := hb.size; simp at this; omega) (.cells #[.slice a n C, .int .i64 t] 48))
    have z1 : w.heap.size + 1 < w1.heap.size := by have := hb.size; simp at this; omega
    have HA1 := Lib.hid (HA.out _ HX.out)
    obtain ⟨p1, q1⟩ := keepC hb (g := w.heap.size + 1) (by simp)
    have c0 : w1.cell? ⟨w.heap.size + 1, 0, none⟩ = some (.slice none 0 0) := by rw [p1 0]; simp [go_sem]
    have c1 : w1.cell? ⟨w.heap.size + 1, 1, none⟩ = some (.int .i64 0) := by rw [p1 1]; simp [go_sem]
    have f0 : w1.frozen? ⟨w.heap.size + 1, 0, none⟩ = false := by rw [q1 0]; simp [go_sem]
    have f1 : w1.frozen? ⟨w.heap.size + 1, 1, none⟩ = false := by rw [q1 1]; simp [go_sem]
    clear hb p1 q1
    go_wp2_with fail
    refine (HR.out _ HA1.out).mono ?_
    rintro e w2 ⟨rfl, hb⟩
    have HX2 := Lib.hid (bthen HX.out hb HX.out.size)
    have HA2 := Lib.hid (HA.out _ HX2.out)
    have z2 : w1.heap.size < w2.heap.size := by have := hb.size; simp at this; omega
    obtain ⟨p1, q1⟩ := keepC hb (g := w.heap.size + 1) (by simp; omega)
    obtain ⟨p2, q2⟩ := keepC hb (g := w1.heap.size) (by simp)
    have c0 : w2.cell? ⟨w.heap.size + 1, 0, none⟩ = some (.slice none 0 0) := by rw [p1 0]; simp [go_sem, c0, z1]
    have c1 : w2.cell? ⟨w.heap.size + 1, 1, none⟩ = some (.int .i64 0) := by rw [p1 1]; simp [go_sem, c1, z1]
    have f0 : w2.frozen? ⟨w.heap.size + 1, 0, none⟩ = false := by rw [q1 0]; simp [go_sem, f0, z1]
    have f1 : w2.frozen? ⟨w.heap.size + 1, 1, none⟩ = false := by rw [q1 1]; simp [go_sem, f1, z1]
    have e0 : w2.cell? ⟨w1.heap.size, 0, none⟩ = some (.slice a n C) := by rw [p2 0]; simp [go_sem]
    have e1 : w2.cell? ⟨w1.heap.size, 1, none⟩ = some (.int .i64 t) := by rw [p2 1]; simp [go_sem]
    have g0 : w2.frozen? ⟨w1.heap.size, 0, none⟩ = false := by rw [q2 0]; simp [go_sem]
    have g1 : w2.frozen? ⟨w1.heap.size, 1, none⟩ = false := by rw [q2 1]; simp [go_sem]
    clear hb p1 q1 p2 q2
    go_wp2_with fail
    refine (HK.out _ HA2.out).mono ?_
    rintro e w5 ⟨a', c', rfl, hr, hs, hb⟩
    have z5 := Nat.lt_of_lt_of_le (show w.heap.size + 1 < w2.heap.size by omega) (by first | exact hb.size | simpa using hb.size)
    obtain ⟨p1, q1⟩ := keepC hb (g := w.heap.size + 1) (by first | omega | (simp; omega))
    have d0 : w5.cell? ⟨w.heap.size + 1, 0, none⟩ = some (.slice none 0 0) := by rw [p1 0]; simp [go_sem, c0]
    have d1 : w5.cell? ⟨w.heap.size + 1, 1, none⟩ = some (.int .i64 0) := by rw [p1 1]; simp [go_sem, c1]
    have h0 : w5.frozen? ⟨w.heap.size + 1, 0, none⟩ = false := by rw [q1 0]; simp [go_sem, f0]
    have h1 : w5.frozen? ⟨w.heap.size + 1, 1, none⟩ = false := by rw [q1 1]; simp [go_sem, f1]
    have HR5 := Lib.hid hr
    have HS5 := Lib.hid (SBlk.lo (b' := w.heap.size) hs (by first | omega | (simp; omega)))
    have hne := hs.ne (b := w.heap.size + 1) (by first | omega | (simp; omega))
    have HNE := Lib.hid (show l ≠ [] → blockOf a' ≠ some (w.heap.size + 1) from fun e => hne (HNN.out e))
    have HNF := Lib.hid hne
    have HX5 := Lib.hid (bthen HX2.out hb HX2.out.size)
    clear hb p1 q1 hr hs hne c0 c1 f0 f1 e0 e1 g0 g1
    go_wp2
    exact bodyPost_ret (v := kV a' n c' t) (by simp [kV, results, Try.results15, go_sem, d0, d1]) rfl ⟨a', c', rfl, (HR5.out.setA HNE.out).setA HNE.out, (HS5.out.setA HNF.out).setA HNF.out, (HX5.out.setCell (p := ⟨w.heap.size + 1, 0, none⟩) (by show w.heap.size ≤ w.heap.size + 1; omega) _).setCell (p := ⟨w.heap.size + 1, 1, none⟩) (by show w.heap.size ≤ w.heap.size + 1; omega) _⟩
  · have HV := Lib.hid (show specTurnV l t = turnT n t by unfold specTurnV; rw [hB, ← hn']; rfl)
    rw [HV.out]
    rw [hB] at HR
    have HT := Lib.hid (HT.out hB)
    have HK := Lib.hid (HK.out (turnT n t))
    obtain ⟨T, hT⟩ : ∃ T, T = turnT n t := ⟨_, rfl⟩
    rw [← hT] at HT HK ⊢
    unfold kV at HR HO HK HT ⊢
    clear hB hn' hn hl h hal hT HV
    go_enter Try.func15, Try.ntmps15
    go_wp2_with fail
    refine (HO.out _ _).mono ?_
    rintro e w1 ⟨rfl, hb⟩
    have HX := Lib.hid ((bthen HB.out hb (by simp; omega)).alloc (by have := hb.size; simp at this; omega) (.cells #[.slice a n C, .int .i64 t] 48))
    have z1 : w.heap.size + 1 < w1.heap.size := by have := hb.size; simp at this; omega
    have HA1 := Lib.hid (HA.out _ HX.out)
    obtain ⟨p1, q1⟩ := keepC hb (g := w.heap.size + 1) (by simp)
    have c0 : w1.cell? ⟨w.heap.size + 1, 0, none⟩ = some (.slice none 0 0) := by rw [p1 0]; simp [go_sem]
    have c1 : w1.cell? ⟨w.heap.size + 1, 1, none⟩ = some (.int .i64 0) := by rw [p1 1]; simp [go_sem]
    have f0 : w1.frozen? ⟨w.heap.size + 1, 0, none⟩ = false := by rw [q1 0]; simp [go_sem]
    have f1 : w1.frozen? ⟨w.heap.size + 1, 1, none⟩ = false := by rw [q1 1]; simp [go_sem]
    clear hb p1 q1
    go_wp2_with fail
    refine (HR.out _ HA1.out).mono ?_
    rintro e w2 ⟨rfl, hb⟩
    have HX2 := Lib.hid (bthen HX.out hb HX.out.size)
    have HA2 := Lib.hid (HA.out _ HX2.out)
    have z2 : w1.heap.size < w2.heap.size := by have := hb.size; simp at this; omega
    obtain ⟨p1, q1⟩ := keepC hb (g := w.heap.size + 1) (by simp; omega)
    obtain ⟨p2, q2⟩ := keepC hb (g := w1.heap.size) (by simp)
    have c0 : w2.cell? ⟨w.heap.size + 1, 0, none⟩ = some (.slice none 0 0) := by rw [p1 0]; simp [go_sem, c0, z1]
    have c1 : w2.cell? ⟨w.heap.size + 1, 1, none⟩ = some (.int .i64 0) := by rw [p1 1]; simp [go_sem, c1, z1]
    have f0 : w2.frozen? ⟨w.heap.size + 1, 0, none⟩ = false := by rw [q1 0]; simp [go_sem, f0, z1]
    have f1 : w2.frozen? ⟨w.heap.size + 1, 1, none⟩ = false := by rw [q1 1]; simp [go_sem, f1, z1]
    have e0 : w2.cell? ⟨w1.heap.size, 0, none⟩ = some (.slice a n C) := by rw [p2 0]; simp [go_sem]
    have e1 : w2.cell? ⟨w1.heap.size, 1, none⟩ = some (.int .i64 t) := by rw [p2 1]; simp [go_sem]
    have g0 : w2.frozen? ⟨w1.heap.size, 0, none⟩ = false := by rw [q2 0]; simp [go_sem]
    have g1 : w2.frozen? ⟨w1.heap.size, 1, none⟩ = false := by rw [q2 1]; simp [go_sem]
    clear hb p1 q1 p2 q2
    go_wp2_with fail
    refine (HT.out _).mono ?_
    rintro e w3 ⟨rfl, hb⟩
    have HX3 := Lib.hid (((bthen HX2.out hb HX2.out.size).setCell (p := ⟨w1.heap.size, 0, none⟩) (by show w.heap.size ≤ w1.heap.size; omega) (.slice a n C)).setCell (p := ⟨w1.heap.size, 1, none⟩) (by show w.heap.size ≤ w1.heap.size; omega) (.int .i64 T))
    have HA3 := Lib.hid (HA.out _ HX3.out)
    have z3 : w1.heap.size < w3.heap.size := by have := hb.size; omega
    obtain ⟨p1, q1⟩ := keepC hb (g := w.heap.size + 1) (by omega)
    obtain ⟨p2, q2⟩ := keepC hb (g := w1.heap.size) (by omega)
    have c0 := (p1 0).trans c0
    have c1 := (p1 1).trans c1
    have f0 := (q1 0).trans f0
    have f1 := (q1 1).trans f1
    have e0 := (p2 0).trans e0
    have e1 := (p2 1).trans e1
    have g0 := (q2 0).trans g0
    have g1 := (q2 1).trans g1
    have ne1 : w.heap.size + 1 ≠ w1.heap.size := by omega
    have ne2 : w1.heap.size ≠ w.heap.size + 1 := by omega
    clear hb p1 q1 p2 q2
    go_wp2_with fail
    refine (HK.out _ HA3.out).mono ?_
    rintro e w5 ⟨a', c', rfl, hr, hs, hb⟩
    have z5 := Nat.lt_of_lt_of_le (show w.heap.size + 1 < w3.heap.size by omega) (by first | exact hb.size | simpa using hb.size)
    obtain ⟨p1, q1⟩ := keepC hb (g := w.heap.size + 1) (by first | omega | (simp; omega))
    have d0 : w5.cell? ⟨w.heap.size + 1, 0, none⟩ = some (.slice none 0 0) := by rw [p1 0]; simp [go_sem, c0]
    have d1 : w5.cell? ⟨w.heap.size + 1, 1, none⟩ = some (.int .i64 0) := by rw [p1 1]; simp [go_sem, c1]
    have h0 : w5.frozen? ⟨w.heap.size + 1, 0, none⟩ = false := by rw [q1 0]; simp [go_sem, f0]
    have h1 : w5.frozen? ⟨w.heap.size + 1, 1, none⟩ = false := by rw [q1 1]; simp [go_sem, f1]
    have HR5 := Lib.hid hr
    have HS5 := Lib.hid (SBlk.lo (b' := w.heap.size) hs (by first | omega | (simp; omega)))
    have hne := hs.ne (b := w.heap.size + 1) (by first | omega | (simp; omega))
    have HNE := Lib.hid (show l ≠ [] → blockOf a' ≠ some (w.heap.size + 1) from fun e => hne (HNN.out e))
    have HNF := Lib.hid hne
    have HX5 := Lib.hid (bthen HX3.out hb HX3.out.size)
    clear hb p1 q1 hr hs hne c0 c1 f0 f1 e0 e1 g0 g1
    go_wp2
    exact bodyPost_ret (v := kV a' n c' T) (by simp [kV, results, Try.results15, go_sem, d0, d1]) rfl ⟨a', c', rfl, (HR5.out.setA HNE.out).setA HNE.out, (HS5.out.setA HNF.out).setA HNF.out, (HX5.out.setCell (p := ⟨w.heap.size + 1, 0, none⟩) (by show w.heap.size ≤ w.heap.size + 1; omega) _).setCell (p := ⟨w.heap.size + 1, 1, none⟩) (by show w.heap.size ≤ w.heap.size + 1; omega) _⟩
end Go.Proofs.Ytjjabfcdhknigaa.kill
