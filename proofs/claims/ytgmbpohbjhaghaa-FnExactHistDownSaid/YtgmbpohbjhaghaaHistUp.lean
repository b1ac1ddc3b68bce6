/-
  The model's HistUp and HistDown. For every such value.
-/
import Derived.Test.YtgmbpohbjhaghaaHistCopy
import Derived.Test.YtgmbpohbjhaghaaHistRight
import Derived.Test.YtgmbpohbjhaghaaHistOut
import Derived.BigRegion
namespace Go.Proofs.Ytgmbpohbjhaghaa.hist
open Go.ChangeShapes Go.WideShapes Go.ChangeAt Go.RowKit
open Go.Proofs.Ytgmbpohbjhaghaa.strs Go.Proofs.Ytgmbpohbjhaghaa.line
open Go.Proofs.Ytgmbpohbjhaghaa.kill (own_set own_lo own_later own_krN KR)
/-- a HistOut as a tuple: lines, at, kept, text, code -/
abbrev HO := List ByteArray × Int × ByteArray × ByteArray × Int
def hoV (a : Option Addr) (c : Nat) (v : HO) : Value := oV a v.1.length c v.2.1 v.2.2.1 v.2.2.2.1 v.2.2.2.2
def illV (co : Int) : HO := ([], 0, ⟨#[]⟩, ⟨#[]⟩, co)
noncomputable def upV (l : List ByteArray) (t : Int) (k x : ByteArray) : HO := if t = 0 then illV 6 else (l, t - 1, if t = (l.length : Int) then x else k, l[(t - 1).toNat]?.getD ⟨#[]⟩, 0)
theorem ill_any (co : Int) (w : World) :
    Calls Try.prog 96 #[.int .i64 co] w fun e w' => e = .returned (hoV none 0 (illV co)) ∧ Below w.heap.size w w' := by
  have hal := (Below.refl _ w).alloc (Nat.le_refl _) (.cells #[.slice none 0 0, .int .i64 0, .string ⟨#[]⟩, .string ⟨#[]⟩, .int .i64 co] 63)
  have HB := Lib.hid hal
  clear hal
  unfold hoV illV oV
  go_enter Try.func96, Try.ntmps96
  go_wp2
  exact bodyPost_ret (v := .agg #[.slice none 0 0, .int .i64 0, .string ⟨#[]⟩, .string ⟨#[]⟩, .int .i64 co]) (by simp [results, Try.results96, go_sem]) rfl ⟨rfl, HB.out⟩
theorem five {n b : Nat} {w w1 : World} (h : Below n w w1) (hb : n ≤ b) (v0 v1 v2 v3 v4 : Value) : Below n w (((((w1.setCell ⟨b, 0, none⟩ v0).setCell ⟨b, 1, none⟩ v1).setCell ⟨b, 2, none⟩ v2).setCell ⟨b, 3, none⟩ v3).setCell ⟨b, 4, none⟩ v4) :=
  ((((h.setCell (p := ⟨b, 0, none⟩) hb _).setCell (p := ⟨b, 1, none⟩) hb _).setCell (p := ⟨b, 2, none⟩) hb _).setCell (p := ⟨b, 3, none⟩) hb _).setCell (p := ⟨b, 4, none⟩) hb _
theorem fiveK {b m c : Nat} {w : World} {a : Option Addr} {l : List ByteArray} (h : KR m w a c l) (hb : b < m) (v0 v1 v2 v3 v4 : Value) : KR m (((((w.setCell ⟨b, 0, none⟩ v0).setCell ⟨b, 1, none⟩ v1).setCell ⟨b, 2, none⟩ v2).setCell ⟨b, 3, none⟩ v3).setCell ⟨b, 4, none⟩ v4) a c l :=
  ((((h.set hb).set hb).set hb).set hb).set hb
theorem krNil (m : Nat) (w : World) : KR m w none 0 [] := ⟨Nat.le_refl _, Nat.zero_le _, fun _ => ⟨rfl, rfl⟩, fun e => absurd rfl e⟩
theorem upKR {m m' b n c : Nat} {w : World} {a : Option Addr} {l : List ByteArray} {v0 v1 v2 v3 v4 : Value} {ob : Obj} (hn : n = l.length) (h : w.ownsRow m 9 1 (.slice a n c) n (l.map Value.string)) (hb : b < m) (hm : m' ≤ m) :
    KR m' (((((((w.setCell ⟨b, 0, none⟩ v0).setCell ⟨b, 1, none⟩ v1).setCell ⟨b, 2, none⟩ v2).setCell ⟨b, 3, none⟩ v3).setCell ⟨b, 4, none⟩ v4).alloc ob).drew) a c l :=
  (((fiveK (own_krN hn h) hb v0 v1 v2 v3 v4).alloc ob).later (Below.refl _ _).drew).lo hm
set_option maxRecDepth 20000 in
set_option maxHeartbeats 800000 in
theorem up1_any (a : Option Addr) (C : Nat) (l : List ByteArray) (t : Int) (k x : ByteArray) (hz : a = none → C = 0 ∧ l = []) (hn : l.length ≤ 1048576) (ht : 0 ≤ t ∧ t ≤ l.length) (w : World) (h : SRow w a l) :
    Calls Try.prog 97 #[hV a l.length C t k, .string x] w fun e w' => ∃ a' c', e = .returned (hoV a' c' (upV l t k x)) ∧ KR w.heap.size w' a' c' (upV l t k x).1 ∧ Below w.heap.size w w' := by
  have hal := ((Below.refl _ w).alloc (Nat.le_refl _) (.cells #[.slice a l.length C, .int .i64 t, .string k] 58)).alloc (by simp) (.cells #[.slice none 0 0, .int .i64 0, .string ⟨#[]⟩, .string ⟨#[]⟩, .int .i64 0] 63)
  by_cases h0 : t = 0
  · have HV := Lib.hid (show upV l t k x = illV 6 by unfold upV; rw [if_pos h0])
    have HI := Lib.hid (ill_any 6)
    have HB := Lib.hid hal
    unfold hV
    clear h hal hz
    subst h0
    obtain ⟨n, hn'⟩ : ∃ n, n = l.length := ⟨_, rfl⟩
    rw [← hn'] at HB ⊢
    clear hn hn' ht
    rw [HV.out]
    unfold hoV illV oV at *
    go_enter Try.func97, Try.ntmps97
    go_wp2_with fail
    refine (HI.out _).mono ?_
    rintro e w1 ⟨rfl, hb1⟩
    have z1 : w.heap.size + 1 < w1.heap.size := by have := hb1.size; simp at this; omega
    obtain ⟨p1, q1⟩ := keepC hb1 (g := w.heap.size + 1) (by simp)
    have HX := Lib.hid (bthen HB.out hb1 (by simp; omega))
    clear hb1
    go_wp2
    exact bodyPost_ret (v := .agg #[.slice none 0 0, .int .i64 0, .string ⟨#[]⟩, .string ⟨#[]⟩, .int .i64 6]) (by simp [results, Try.results97, go_sem, p1]) rfl ⟨none, 0, rfl, krNil _ _, five HX.out (by omega) _ _ _ _ _⟩
  · obtain ⟨m, hm⟩ : ∃ m : Nat, t - 1 = m := ⟨(t - 1).toNat, by omega⟩
    have hml : m < l.length := by omega
    have hw : IntKind.i64.wrap (t - 1) = (m : Int) := by rw [hm]; exact IntWalk.i64_in _ (by omega)
    have h1 : (t == 0) = false := by simpa using h0
    obtain ⟨g, o, ha, c0⟩ := h.at hml
    obtain ⟨K, hK⟩ : ∃ K, K = (if t = (l.length : Int) then x else k) := ⟨_, rfl⟩
    obtain ⟨X, hX⟩ : ∃ X, X = l[m] := ⟨_, rfl⟩
    have HV := Lib.hid (show upV l t k x = (l, (m : Int), K, X, 0) by unfold upV; rw [if_neg h0, hm, Int.toNat_natCast, List.getElem?_eq_getElem hml, ← hK, ← hX]; rfl)
    have HC := Lib.hid (copyH_any a C l t k hz hn _ (h.below hal))
    rw [← hX] at c0
    obtain ⟨n, hn'⟩ : ∃ n, n = l.length := ⟨_, rfl⟩
    have HN := Lib.hid hn'
    rw [← hn'] at HC hal hn hml hK ht ⊢
    have HB := Lib.hid hal
    have hg : g < w.heap.size := blk_lt c0
    rw [HV.out]
    unfold hV hoV oV at *
    subst ha
    clear h hal hn' hz hX h0
    by_cases h2 : t = n
    · rw [if_pos h2] at hK
      subst hK
      have h3 : (t == (n : Int)) = true := by simpa using h2
      clear h2
      go_enter Try.func97, Try.ntmps97
      go_wp2_with fail
      refine HC.out.mono ?_
      rintro e w1 ⟨a', c', rfl, ho, hb1⟩
      have z1 : w.heap.size + 1 < w1.heap.size := by have := hb1.size; simp at this; omega
      have z0 : w.heap.size < w1.heap.size := by omega
      have zg : g < w1.heap.size := by omega
      obtain ⟨p0, q0⟩ := keepC hb1 (g := w.heap.size) (by simp; omega)
      obtain ⟨p1, q1⟩ := keepC hb1 (g := w.heap.size + 1) (by simp)
      obtain ⟨p2, q2⟩ := keepC hb1 (g := g) (by simp; omega)
      have HO := Lib.hid ho
      have HX := Lib.hid (bthen HB.out hb1 (by simp; omega))
      clear hb1 ho
      go_wp2
      have c1 : (w1.alloc (.cells #[.slice a' n c', .int .i64 (m : Nat), .string K] 58)).cell? ⟨g, o + m, none⟩ = some (.string X) := by
        rw [((Below.refl w1.heap.size w1).alloc (Nat.le_refl _) _).cell zg, p2]
        rw [(((Below.refl w.heap.size w).alloc (Nat.le_refl _) _).alloc (by simp) _).cell hg]
        exact c0
      have e1 : ¬ ((n : Int) ≤ (m : Int)) := by omega
      have e2 : ¬ ((m : Int) < 0) := by omega
      have e3 : ((m : Int)).toNat = m := rfl
      go_region
      go_wp2
      exact bodyPost_ret (v := .agg #[.slice a' n c', .int .i64 (m : Nat), .string K, .string X, .int .i64 0]) (by simp [results, Try.results97, go_sem, z1, p1]) rfl ⟨a', c', by rw [HN.out], upKR (b := w.heap.size + 1) HN.out HO.out (by simp) (by simp; omega), ((five (b := w.heap.size + 1) HX.out (by omega) _ _ _ _ _).alloc (by simp; omega) _).drew⟩
    · rw [if_neg h2] at hK
      subst hK
      have h3 : (t == (n : Int)) = false := by simpa using h2
      clear h2
      go_enter Try.func97, Try.ntmps97
      go_wp2_with fail
      refine HC.out.mono ?_
      rintro e w1 ⟨a', c', rfl, ho, hb1⟩
      have z1 : w.heap.size + 1 < w1.heap.size := by have := hb1.size; simp at this; omega
      have z0 : w.heap.size < w1.heap.size := by omega
      have zg : g < w1.heap.size := by omega
      obtain ⟨p0, q0⟩ := keepC hb1 (g := w.heap.size) (by simp; omega)
      obtain ⟨p1, q1⟩ := keepC hb1 (g := w.heap.size + 1) (by simp)
      obtain ⟨p2, q2⟩ := keepC hb1 (g := g) (by simp; omega)
      have HO := Lib.hid ho
      have HX := Lib.hid (bthen HB.out hb1 (by simp; omega))
      clear hb1 ho
      go_wp2
      have c1 : (w1.alloc (.cells #[.slice a' n c', .int .i64 (m : Nat), .string K] 58)).cell? ⟨g, o + m, none⟩ = some (.string X) := by
        rw [((Below.refl w1.heap.size w1).alloc (Nat.le_refl _) _).cell zg, p2]
        rw [(((Below.refl w.heap.size w).alloc (Nat.le_refl _) _).alloc (by simp) _).cell hg]
        exact c0
      have e1 : ¬ ((n : Int) ≤ (m : Int)) := by omega
      have e2 : ¬ ((m : Int) < 0) := by omega
      have e3 : ((m : Int)).toNat = m := rfl
      go_region
      go_wp2
      exact bodyPost_ret (v := .agg #[.slice a' n c', .int .i64 (m : Nat), .string K, .string X, .int .i64 0]) (by simp [results, Try.results97, go_sem, z1, p1]) rfl ⟨a', c', by rw [HN.out], upKR (b := w.heap.size + 1) HN.out HO.out (by simp) (by simp; omega), ((five (b := w.heap.size + 1) HX.out (by omega) _ _ _ _ _).alloc (by simp; omega) _).drew⟩
noncomputable def specUpV (l : List ByteArray) (t : Int) (k x : ByteArray) : HO := if x.size ≤ 8000 then (if histB l t k = true ∧ textB x = true then upV l t k x else illV 1) else illV 2
set_option maxRecDepth 20000 in
set_option maxHeartbeats 800000 in
theorem specUp_any (a : Option Addr) (C : Nat) (l : List ByteArray) (t : Int) (k x : ByteArray) (hz : a = none → C = 0 ∧ l = []) (hn : l.length ≤ 1048576) (hl : ∀ s ∈ l, s.size ≤ 1048576) (hk : k.size ≤ 1048576) (hx : x.size ≤ 1048576) (w : World) (h : SRow w a l) :
    Calls Try.prog 45 #[hV a l.length C t k, .string x] w fun e w' => ∃ a' c', e = .returned (hoV a' c' (specUpV l t k x)) ∧ KR w.heap.size w' a' c' (specUpV l t k x).1 ∧ Below w.heap.size w w' := by
  have hal := ((Below.refl _ w).alloc (Nat.le_refl _) (.cells #[.slice a l.length C, .int .i64 t, .string k] 58)).alloc (by simp) (.cells #[.slice none 0 0, .int .i64 0, .string ⟨#[]⟩, .string ⟨#[]⟩, .int .i64 0] 63)
  have HH := Lib.hid (specHist_any a C l t k hn (fun s hs => by have := hl s hs; unfold maxLen; omega) (by unfold maxLen; omega) _ (h.below hal))
  have HX := Lib.hid (specRight_any x (by unfold maxLen; omega))
  have HU := Lib.hid (fun w1 (hb : Below w.heap.size w w1) (ht : 0 ≤ t ∧ t ≤ (l.length : Int)) => up1_any a C l t k x hz hn ht w1 (h.below hb))
  have HP := Lib.hid (fun (hh : histB l t k = true) => (show 0 ≤ t ∧ t ≤ (l.length : Int) from ⟨(histB_parts hh).2.2.1, (histB_parts hh).2.2.2.1⟩))
  have HI := Lib.hid ill_any
  have HB := Lib.hid hal
  obtain ⟨n, hn'⟩ : ∃ n, n = l.length := ⟨_, rfl⟩
  have HN := Lib.hid hn'
  rw [← hn'] at HH HU HP HB hn ⊢
  clear h hal hl hn' hz
  by_cases h1 : x.size ≤ 8000
  · have g1 : ¬ (8000 : Int) < x.size := by omega
    cases hh : histB l t k
    · have HV := Lib.hid (show specUpV l t k x = illV 1 by unfold specUpV; rw [if_pos h1, if_neg (by rw [hh]; simp)])
      rw [HV.out]
      rw [hh] at HH
      clear HU HP HX hh h1
      unfold hV hoV illV oV at *
      go_enter Try.func45, Try.ntmps45
      go_wp2_with fail
      refine HH.out.mono ?_
      rintro e w1 ⟨rfl, hb1⟩
      have z0 : w.heap.size < w1.heap.size := by have := hb1.size; simp at this; omega
      have z1 : w.heap.size + 1 < w1.heap.size := by have := hb1.size; simp at this; omega
      obtain ⟨p0, q0⟩ := keepC hb1 (g := w.heap.size) (by simp; omega)
      obtain ⟨p1, q1⟩ := keepC hb1 (g := w.heap.size + 1) (by simp)
      have HX1 := Lib.hid (bthen HB.out hb1 (by simp; omega))
      clear hb1
      go_wp2_with fail
      refine (HI.out _ _).mono ?_
      rintro e wN ⟨rfl, hbN⟩
      have zN : w.heap.size + 1 < wN.heap.size := Nat.lt_of_lt_of_le z1 hbN.size
      obtain ⟨pN, qN⟩ := keepC hbN (g := w.heap.size + 1) z1
      have HXN := Lib.hid (bthen HX1.out hbN (by omega))
      clear hbN
      go_wp2
      exact bodyPost_ret (v := .agg #[.slice none 0 0, .int .i64 0, .string ⟨#[]⟩, .string ⟨#[]⟩, .int .i64 1]) (by simp [results, Try.results45, go_sem, pN, p1]) rfl ⟨none, 0, rfl, krNil _ _, five HXN.out (by omega) _ _ _ _ _⟩
    · have HP1 := Lib.hid (HP.out hh)
      cases hx2 : textB x
      · have HV := Lib.hid (show specUpV l t k x = illV 1 by unfold specUpV; rw [if_pos h1, if_neg (by rw [hx2]; simp)])
        rw [HV.out]
        rw [hh] at HH
        rw [hx2] at HX
        clear HU HP HP1 hh h1 hx2
        unfold hV hoV illV oV at *
        go_enter Try.func45, Try.ntmps45
        go_wp2_with fail
        refine HH.out.mono ?_
        rintro e w1 ⟨rfl, hb1⟩
        have z0 : w.heap.size < w1.heap.size := by have := hb1.size; simp at this; omega
        have z1 : w.heap.size + 1 < w1.heap.size := by have := hb1.size; simp at this; omega
        obtain ⟨p0, q0⟩ := keepC hb1 (g := w.heap.size) (by simp; omega)
        obtain ⟨p1, q1⟩ := keepC hb1 (g := w.heap.size + 1) (by simp)
        have HX1 := Lib.hid (bthen HB.out hb1 (by simp; omega))
        clear hb1
        go_wp2_with fail
        refine (HX.out _).mono ?_
        rintro e w1' ⟨rfl, rfl⟩
        go_wp2_with fail
        refine (HI.out _ _).mono ?_
        rintro e wN ⟨rfl, hbN⟩
        have zN : w.heap.size + 1 < wN.heap.size := Nat.lt_of_lt_of_le z1 hbN.size
        obtain ⟨pN, qN⟩ := keepC hbN (g := w.heap.size + 1) z1
        have HXN := Lib.hid (bthen HX1.out hbN (by omega))
        clear hbN
        go_wp2
        exact bodyPost_ret (v := .agg #[.slice none 0 0, .int .i64 0, .string ⟨#[]⟩, .string ⟨#[]⟩, .int .i64 1]) (by simp [results, Try.results45, go_sem, pN, p1]) rfl ⟨none, 0, rfl, krNil _ _, five HXN.out (by omega) _ _ _ _ _⟩
      · have HV := Lib.hid (show specUpV l t k x = upV l t k x by unfold specUpV; rw [if_pos h1, if_pos ⟨hh, hx2⟩])
        rw [HV.out]
        obtain ⟨V, hV'⟩ : ∃ V, V = upV l t k x := ⟨_, rfl⟩
        rw [← hV'] at HU ⊢
        obtain ⟨L, T, K2, X2, co⟩ := V
        rw [hh] at HH
        rw [hx2] at HX
        clear HV HP HI hh h1 hx2 hV'
        unfold hV hoV oV at *
        go_enter Try.func45, Try.ntmps45
        go_wp2_with fail
        refine HH.out.mono ?_
        rintro e w1 ⟨rfl, hb1⟩
        have z0 : w.heap.size < w1.heap.size := by have := hb1.size; simp at this; omega
        have z1 : w.heap.size + 1 < w1.heap.size := by have := hb1.size; simp at this; omega
        obtain ⟨p0, q0⟩ := keepC hb1 (g := w.heap.size) (by simp; omega)
        obtain ⟨p1, q1⟩ := keepC hb1 (g := w.heap.size + 1) (by simp)
        have HX1 := Lib.hid (bthen HB.out hb1 (by simp; omega))
        clear hb1
        have HU1 := Lib.hid (HU.out _ HX1.out HP1.out)
        go_wp2_with fail
        refine (HX.out _).mono ?_
        rintro e w1' ⟨rfl, rfl⟩
        go_wp2_with fail
        refine HU1.out.mono ?_
        rintro e wN ⟨a', c', rfl, hr, hbN⟩
        have zN : w.heap.size + 1 < wN.heap.size := Nat.lt_of_lt_of_le z1 hbN.size
        obtain ⟨pN, qN⟩ := keepC hbN (g := w.heap.size + 1) z1
        have HR := Lib.hid hr
        have HXN := Lib.hid (bthen HX1.out hbN (by omega))
        clear hbN hr
        go_wp2
        exact bodyPost_ret (v := .agg #[.slice a' L.length c', .int .i64 T, .string K2, .string X2, .int .i64 co]) (by simp [results, Try.results45, go_sem, pN, p1]) rfl ⟨a', c', rfl, (fiveK (b := w.heap.size + 1) HR.out (by omega) _ _ _ _ _).lo (by omega), five HXN.out (by omega) _ _ _ _ _⟩
  · have HV := Lib.hid (show specUpV l t k x = illV 2 by unfold specUpV; rw [if_neg h1])
    have g1 : (8000 : Int) < x.size := by omega
    rw [HV.out]
    clear HH HU HP h1
    unfold hV hoV illV oV at *
    go_enter Try.func45, Try.ntmps45
    go_wp2_with fail
    refine (HI.out _ _).mono ?_
    rintro e w1 ⟨rfl, hb1⟩
    have z1 : w.heap.size + 1 < w1.heap.size := by have := hb1.size; simp at this; omega
    obtain ⟨p1, q1⟩ := keepC hb1 (g := w.heap.size + 1) (by simp)
    have HX := Lib.hid (bthen HB.out hb1 (by simp; omega))
    clear hb1
    go_wp2
    exact bodyPost_ret (v := .agg #[.slice none 0 0, .int .i64 0, .string ⟨#[]⟩, .string ⟨#[]⟩, .int .i64 2]) (by simp [results, Try.results45, go_sem, p1]) rfl ⟨none, 0, rfl, krNil _ _, five HX.out (by omega) _ _ _ _ _⟩
end Go.Proofs.Ytgmbpohbjhaghaa.hist
