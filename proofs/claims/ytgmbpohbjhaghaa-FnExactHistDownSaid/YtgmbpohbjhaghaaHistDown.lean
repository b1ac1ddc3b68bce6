/-
  The model's HistDown. For every such value.
-/
import Derived.Test.YtgmbpohbjhaghaaHistUp
namespace Go.Proofs.Ytgmbpohbjhaghaa.hist
open Go.ChangeShapes Go.WideShapes Go.ChangeAt Go.RowKit
open Go.Proofs.Ytgmbpohbjhaghaa.strs Go.Proofs.Ytgmbpohbjhaghaa.line
open Go.Proofs.Ytgmbpohbjhaghaa.kill (own_set own_lo own_later own_krN KR)
noncomputable def downV (l : List ByteArray) (t : Int) (k : ByteArray) : HO := if t = (l.length : Int) then illV 6 else (l, t + 1, k, if t + 1 = (l.length : Int) then k else l[(t + 1).toNat]?.getD ⟨#[]⟩, 0)
theorem upKR' {m m' b n c : Nat} {w : World} {a : Option Addr} {l : List ByteArray} {v0 v1 v2 v3 v4 : Value} {ob : Obj} (hn : n = l.length) (h : w.ownsRow m 9 1 (.slice a n c) n (l.map Value.string)) (hb : b < m) (hm : m' ≤ m) :
    KR m' ((((((w.setCell ⟨b, 0, none⟩ v0).setCell ⟨b, 1, none⟩ v1).setCell ⟨b, 2, none⟩ v2).setCell ⟨b, 3, none⟩ v3).setCell ⟨b, 4, none⟩ v4).alloc ob) a c l :=
  ((fiveK (own_krN hn h) hb v0 v1 v2 v3 v4).alloc ob).lo hm
set_option maxRecDepth 20000 in
set_option maxHeartbeats 800000 in
theorem down1_any (a : Option Addr) (C : Nat) (l : List ByteArray) (t : Int) (k : ByteArray) (hz : a = none → C = 0 ∧ l = []) (hn : l.length ≤ 1048576) (ht : 0 ≤ t ∧ t ≤ l.length) (w : World) (h : SRow w a l) :
    Calls Try.prog 101 #[hV a l.length C t k] w fun e w' => ∃ a' c', e = .returned (hoV a' c' (downV l t k)) ∧ KR w.heap.size w' a' c' (downV l t k).1 ∧ Below w.heap.size w w' := by
  have hal := ((Below.refl _ w).alloc (Nat.le_refl _) (.cells #[.slice a l.length C, .int .i64 t, .string k] 58)).alloc (by simp) (.cells #[.slice none 0 0, .int .i64 0, .string ⟨#[]⟩, .string ⟨#[]⟩, .int .i64 0] 63)
  by_cases h0 : t = (l.length : Int)
  · have HV := Lib.hid (show downV l t k = illV 6 by unfold downV; rw [if_pos h0])
    have HI := Lib.hid (ill_any 6)
    have HB := Lib.hid hal
    unfold hV
    obtain ⟨n, hn'⟩ : ∃ n, n = l.length := ⟨_, rfl⟩
    rw [← hn'] at HB h0 ⊢
    have h3 : (t == (n : Int)) = true := by simpa using h0
    clear h hal hz hn hn' ht h0
    rw [HV.out]
    unfold hoV illV oV at *
    go_enter Try.func101, Try.ntmps101
    go_wp2_with fail
    refine (HI.out _).mono ?_
    rintro e w1 ⟨rfl, hb1⟩
    have z1 : w.heap.size + 1 < w1.heap.size := by have := hb1.size; simp at this; omega
    obtain ⟨p1, q1⟩ := keepC hb1 (g := w.heap.size + 1) (by simp)
    have HX := Lib.hid (bthen HB.out hb1 (by simp; omega))
    clear hb1
    go_wp2
    exact bodyPost_ret (v := .agg #[.slice none 0 0, .int .i64 0, .string ⟨#[]⟩, .string ⟨#[]⟩, .int .i64 6]) (by simp [results, Try.results101, go_sem, p1]) rfl ⟨none, 0, rfl, krNil _ _, five HX.out (by omega) _ _ _ _ _⟩
  · obtain ⟨m, hm⟩ : ∃ m : Nat, t + 1 = m := ⟨(t + 1).toNat, by omega⟩
    have hw : IntKind.i64.wrap (t + 1) = (m : Int) := by rw [hm]; exact IntWalk.i64_in _ (by omega)
    have HC := Lib.hid (copyH_any a C l t k hz hn _ (h.below hal))
    by_cases h2 : m = l.length
    · have HV := Lib.hid (show downV l t k = (l, (m : Int), k, k, 0) by unfold downV; rw [if_neg h0, hm, if_pos (by rw [h2])])
      obtain ⟨n, hn'⟩ : ∃ n, n = l.length := ⟨_, rfl⟩
      have HN := Lib.hid hn'
      rw [← hn'] at HC hal hn h2 h0 ht ⊢
      have HB := Lib.hid hal
      have h1 : (t == (n : Int)) = false := by simpa using h0
      have h3 : ((m : Int) == (n : Int)) = true := beq_iff_eq.2 (by omega)
      rw [HV.out]
      unfold hV hoV oV at *
      clear h hal hn' hz h0 h2 hm
      go_enter Try.func101, Try.ntmps101
      go_wp2_with fail
      refine HC.out.mono ?_
      rintro e w1 ⟨a', c', rfl, ho, hb1⟩
      have z1 : w.heap.size + 1 < w1.heap.size := by have := hb1.size; simp at this; omega
      have z0 : w.heap.size < w1.heap.size := by omega
      obtain ⟨p0, q0⟩ := keepC hb1 (g := w.heap.size) (by simp; omega)
      obtain ⟨p1, q1⟩ := keepC hb1 (g := w.heap.size + 1) (by simp)
      have HO := Lib.hid ho
      have HX := Lib.hid (bthen HB.out hb1 (by simp; omega))
      clear hb1 ho
      go_wp2
      exact bodyPost_ret (v := .agg #[.slice a' n c', .int .i64 (m : Nat), .string k, .string k, .int .i64 0]) (by simp [results, Try.results101, go_sem, z1, p1]) rfl ⟨a', c', by rw [HN.out], upKR' (b := w.heap.size + 1) HN.out HO.out (by simp) (by simp; omega), ((five (b := w.heap.size + 1) HX.out (by omega) _ _ _ _ _).alloc (by simp; omega) _)⟩
    · have hml : m < l.length := by omega
      obtain ⟨g, o, ha, c0⟩ := h.at hml
      obtain ⟨X, hX⟩ : ∃ X, X = l[m] := ⟨_, rfl⟩
      have HV := Lib.hid (show downV l t k = (l, (m : Int), k, X, 0) by unfold downV; rw [if_neg h0, hm, if_neg (by omega), Int.toNat_natCast, List.getElem?_eq_getElem hml, ← hX]; rfl)
      rw [← hX] at c0
      obtain ⟨n, hn'⟩ : ∃ n, n = l.length := ⟨_, rfl⟩
      have HN := Lib.hid hn'
      rw [← hn'] at HC hal hn hml h2 h0 ht ⊢
      have HB := Lib.hid hal
      have hg : g < w.heap.size := blk_lt c0
      have h1 : (t == (n : Int)) = false := by simpa using h0
      have h3 : ((m : Int) == (n : Int)) = false := beq_eq_false_iff_ne.2 (by omega)
      rw [HV.out]
      unfold hV hoV oV at *
      subst ha
      clear h hal hn' hz hX h0 h2 hm
      go_enter Try.func101, Try.ntmps101
      go_wp2_with fail
      refine HC.out.mono ?_
      rintro e w1 ⟨a', c', rfl, ho, hb1⟩
      have z1 : w.heap.size + 1 < w1.heap.size := by have := hb1.size; simp at this; omega
      have z0 : w.heap.size < w1.heap.size := by omega
      obtain ⟨p0, q0⟩ := keepC hb1 (g := w.heap.size) (by simp; omega)
      obtain ⟨p1, q1⟩ := keepC hb1 (g := w.heap.size + 1) (by simp)
      have zg : g < w1.heap.size := by omega
      obtain ⟨p2, q2⟩ := keepC hb1 (g := g) (by simp; omega)
      have HO := Lib.hid ho
      have HX := Lib.hid (bthen HB.out hb1 (by simp; omega))
      clear hb1 ho
      go_wp2
      have c1 : (w1.alloc (.cells #[.slice a' n c', .int .i64 (m : Nat), .string k] 58)).cell? ⟨g, o + m, none⟩ = some (.string X) := by
        rw [((Below.refl w1.heap.size w1).alloc (Nat.le_refl _) _).cell zg, p2]
        rw [(((Below.refl w.heap.size w).alloc (Nat.le_refl _) _).alloc (by simp) _).cell hg]
        exact c0
      have e1 : ¬ ((n : Int) ≤ (m : Int)) := by omega
      have e2 : ¬ ((m : Int) < 0) := by omega
      have e3 : ((m : Int)).toNat = m := rfl
      go_region
      go_wp2
      exact bodyPost_ret (v := .agg #[.slice a' n c', .int .i64 (m : Nat), .string k, .string X, .int .i64 0]) (by simp [results, Try.results101, go_sem, z1, p1]) rfl ⟨a', c', by rw [HN.out], upKR (b := w.heap.size + 1) HN.out HO.out (by simp) (by simp; omega), ((five (b := w.heap.size + 1) HX.out (by omega) _ _ _ _ _).alloc (by simp; omega) _).drew⟩
noncomputable def specDownV (l : List ByteArray) (t : Int) (k x : ByteArray) : HO := if x.size ≤ 8000 then (if histB l t k = true ∧ textB x = true then downV l t k else illV 1) else illV 2
set_option maxRecDepth 20000 in
set_option maxHeartbeats 800000 in
theorem specDown_any (a : Option Addr) (C : Nat) (l : List ByteArray) (t : Int) (k x : ByteArray) (hz : a = none → C = 0 ∧ l = []) (hn : l.length ≤ 1048576) (hl : ∀ s ∈ l, s.size ≤ 1048576) (hk : k.size ≤ 1048576) (hx : x.size ≤ 1048576) (w : World) (h : SRow w a l) :
    Calls Try.prog 51 #[hV a l.length C t k, .string x] w fun e w' => ∃ a' c', e = .returned (hoV a' c' (specDownV l t k x)) ∧ KR w.heap.size w' a' c' (specDownV l t k x).1 ∧ Below w.heap.size w w' := by
  have hal := ((Below.refl _ w).alloc (Nat.le_refl _) (.cells #[.slice a l.length C, .int .i64 t, .string k] 58)).alloc (by simp) (.cells #[.slice none 0 0, .int .i64 0, .string ⟨#[]⟩, .string ⟨#[]⟩, .int .i64 0] 63)
  have HH := Lib.hid (specHist_any a C l t k hn (fun s hs => by have := hl s hs; unfold maxLen; omega) (by unfold maxLen; omega) _ (h.below hal))
  have HX := Lib.hid (specRight_any x (by unfold maxLen; omega))
  have HU := Lib.hid (fun w1 (hb : Below w.heap.size w w1) (ht : 0 ≤ t ∧ t ≤ (l.length : Int)) => down1_any a C l t k hz hn ht w1 (h.below hb))
  have HP := Lib.hid (fun (hh : histB l t k = true) => (show 0 ≤ t ∧ t ≤ (l.length : Int) from ⟨(histB_parts hh).2.2.1, (histB_parts hh).2.2.2.1⟩))
  have HI := Lib.hid ill_any
  have HB := Lib.hid hal
  obtain ⟨n, hn'⟩ : ∃ n, n = l.length := ⟨_, rfl⟩
  have HN := Lib.hid hn'
  rw [← hn'] at HH HU HP HB hn ⊢
  clear h hal hl hn' hz
  by_cases h1 : x.size ≤ 8000
  · have g1 : ¬ (8000 : Int) < x.size := by omega
    cases hh : histB l t k
    · have HV := Lib.hid (show specDownV l t k x = illV 1 by unfold specDownV; rw [if_pos h1, if_neg (by rw [hh]; simp)])
      rw [HV.out]
      rw [hh] at HH
      clear HU HP HX hh h1
      unfold hV hoV illV oV at *
      go_enter Try.func51, Try.ntmps51
      go_wp2_with fail
      refine HH.out.mono ?_
      rintro e w1 ⟨rfl, hb1⟩
      have z0 : w.heap.size < w1.heap.size := by have := hb1.size; simp at this; omega
      have z1 : w.heap.size + 1 < w1.heap.size := by have := hb1.size; simp at this; omega
      obtain ⟨p0, q0⟩ := keepC hb1 (g := w.heap.size) (by simp; omega)
      obtain ⟨p1, q1⟩ := keepC hb1 (g := w.heap.size + 1) (by simp)
      have HX1 := Lib.hid (bthen HB.out hb1 (by simp; omega))
      clear hb1
      go_wp2_with fail
      refine (HI.out _ _).mono ?_
      rintro e wN ⟨rfl, hbN⟩
      have zN : w.heap.size + 1 < wN.heap.size := Nat.lt_of_lt_of_le z1 hbN.size
      obtain ⟨pN, qN⟩ := keepC hbN (g := w.heap.size + 1) z1
      have HXN := Lib.hid (bthen HX1.out hbN (by omega))
      clear hbN
      go_wp2
      exact bodyPost_ret (v := .agg #[.slice none 0 0, .int .i64 0, .string ⟨#[]⟩, .string ⟨#[]⟩, .int .i64 1]) (by simp [results, Try.results51, go_sem, pN, p1]) rfl ⟨none, 0, rfl, krNil _ _, five HXN.out (by omega) _ _ _ _ _⟩
    · have HP1 := Lib.hid (HP.out hh)
      cases hx2 : textB x
      · have HV := Lib.hid (show specDownV l t k x = illV 1 by unfold specDownV; rw [if_pos h1, if_neg (by rw [hx2]; simp)])
        rw [HV.out]
        rw [hh] at HH
        rw [hx2] at HX
        clear HU HP HP1 hh h1 hx2
        unfold hV hoV illV oV at *
        go_enter Try.func51, Try.ntmps51
        go_wp2_with fail
        refine HH.out.mono ?_
        rintro e w1 ⟨rfl, hb1⟩
        have z0 : w.heap.size < w1.heap.size := by have := hb1.size; simp at this; omega
        have z1 : w.heap.size + 1 < w1.heap.size := by have := hb1.size; simp at this; omega
        obtain ⟨p0, q0⟩ := keepC hb1 (g := w.heap.size) (by simp; omega)
        obtain ⟨p1, q1⟩ := keepC hb1 (g := w.heap.size + 1) (by simp)
        have HX1 := Lib.hid (bthen HB.out hb1 (by simp; omega))
        clear hb1
        go_wp2_with fail
        refine (HX.out _).mono ?_
        rintro e w1' ⟨rfl, rfl⟩
        go_wp2_with fail
        refine (HI.out _ _).mono ?_
        rintro e wN ⟨rfl, hbN⟩
        have zN : w.heap.size + 1 < wN.heap.size := Nat.lt_of_lt_of_le z1 hbN.size
        obtain ⟨pN, qN⟩ := keepC hbN (g := w.heap.size + 1) z1
        have HXN := Lib.hid (bthen HX1.out hbN (by omega))
        clear hbN
        go_wp2
        exact bodyPost_ret (v := .agg #[.slice none 0 0, .int .i64 0, .string ⟨#[]⟩, .string ⟨#[]⟩, .int .i64 1]) (by simp [results, Try.results51, go_sem, pN, p1]) rfl ⟨none, 0, rfl, krNil _ _, five HXN.out (by omega) _ _ _ _ _⟩
      · have HV := Lib.hid (show specDownV l t k x = downV l t k by unfold specDownV; rw [if_pos h1, if_pos ⟨hh, hx2⟩])
        rw [HV.out]
        obtain ⟨V, hV'⟩ : ∃ V, V = downV l t k := ⟨_, rfl⟩
        rw [← hV'] at HU ⊢
        obtain ⟨L, T, K2, X2, co⟩ := V
        rw [hh] at HH
        rw [hx2] at HX
        clear HV HP HI hh h1 hx2 hV'
        unfold hV hoV oV at *
        go_enter Try.func51, Try.ntmps51
        go_wp2_with fail
        refine HH.out.mono ?_
        rintro e w1 ⟨rfl, hb1⟩
        have z0 : w.heap.size < w1.heap.size := by have := hb1.size; simp at this; omega
        have z1 : w.heap.size + 1 < w1.heap.size := by have := hb1.size; simp at this; omega
        obtain ⟨p0, q0⟩ := keepC hb1 (g := w.heap.size) (by simp; omega)
        obtain ⟨p1, q1⟩ := keepC hb1 (g := w.heap.size + 1) (by simp)
        have HX1 := Lib.hid (bthen HB.out hb1 (by simp; omega))
        clear hb1
        have HU1 := Lib.hid (HU.out _ HX1.out HP1.out)
        go_wp2_with fail
        refine (HX.out _).mono ?_
        rintro e w1' ⟨rfl, rfl⟩
        go_wp2_with fail
        refine HU1.out.mono ?_
        rintro e wN ⟨a', c', rfl, hr, hbN⟩
        have zN : w.heap.size + 1 < wN.heap.size := Nat.lt_of_lt_of_le z1 hbN.size
        obtain ⟨pN, qN⟩ := keepC hbN (g := w.heap.size + 1) z1
        have HR := Lib.hid hr
        have HXN := Lib.hid (bthen HX1.out hbN (by omega))
        clear hbN hr
        go_wp2
        exact bodyPost_ret (v := .agg #[.slice a' L.length c', .int .i64 T, .string K2, .string X2, .int .i64 co]) (by simp [results, Try.results51, go_sem, pN, p1]) rfl ⟨a', c', rfl, (fiveK (b := w.heap.size + 1) HR.out (by omega) _ _ _ _ _).lo (by omega), five HXN.out (by omega) _ _ _ _ _⟩
  · have HV := Lib.hid (show specDownV l t k x = illV 2 by unfold specDownV; rw [if_neg h1])
    have g1 : (8000 : Int) < x.size := by omega
    rw [HV.out]
    clear HH HU HP h1
    unfold hV hoV illV oV at *
    go_enter Try.func51, Try.ntmps51
    go_wp2_with fail
    refine (HI.out _ _).mono ?_
    rintro e w1 ⟨rfl, hb1⟩
    have z1 : w.heap.size + 1 < w1.heap.size := by have := hb1.size; simp at this; omega
    obtain ⟨p1, q1⟩ := keepC hb1 (g := w.heap.size + 1) (by simp)
    have HX := Lib.hid (bthen HB.out hb1 (by simp; omega))
    clear hb1
    go_wp2
    exact bodyPost_ret (v := .agg #[.slice none 0 0, .int .i64 0, .string ⟨#[]⟩, .string ⟨#[]⟩, .int .i64 2]) (by simp [results, Try.results51, go_sem, p1]) rfl ⟨none, 0, rfl, krNil _ _, five HX.out (by omega) _ _ _ _ _⟩
end Go.Proofs.Ytgmbpohbjhaghaa.hist
