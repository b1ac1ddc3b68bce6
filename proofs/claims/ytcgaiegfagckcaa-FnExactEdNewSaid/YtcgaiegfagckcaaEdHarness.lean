/-
  What the laws do around an editor: sizes, copies, comparing, writing over. For every such value. Written by wip/tool/gen_edharness.py.
-/
import Derived.Test.YtcgaiegfagckcaaEd
import Derived.Test.YtcgaiegfagckcaaVarB
namespace Go.Proofs.Ytcgaiegfagckcaa.ed
open Go.ChangeShapes Go.WideShapes Go.ChangeAt Go.RowKit
open Go.Proofs.Ytcgaiegfagckcaa.strs Go.Proofs.Ytcgaiegfagckcaa.lines Go.Proofs.Ytcgaiegfagckcaa.kill Go.Proofs.Ytcgaiegfagckcaa.hist Go.Proofs.Ytcgaiegfagckcaa.varb
def szE (v : E) (left : Int) : Int :=
  if szOne v.x left < 0 then -1 else if szV v.ks (szOne v.x left) < 0 then -1 else if szL v.us (szV v.ks (szOne v.x left)) < 0 then -1 else szH v.hl v.hk (szL v.us (szV v.ks (szOne v.x left)))
theorem szOne_bd (s : ByteArray) (z : Int) : szOne s z = -1 ∨ (0 ≤ szOne s z ∧ szOne s z ≤ z) := by unfold szOne; split <;> omega
theorem szV_bd (l : List ByteArray) (z : Int) : szV l z = -1 ∨ (0 ≤ szV l z ∧ szV l z ≤ z) := by unfold szV; split <;> omega
theorem szL_bd (l : List (ByteArray × Int)) (z : Int) : szL l z = -1 ∨ (0 ≤ szL l z ∧ szL l z ≤ z) := szV_bd _ z
theorem szH_bd (l : List ByteArray) (k : ByteArray) (z : Int) : szH l k z = -1 ∨ (0 ≤ szH l k z ∧ szH l k z ≤ z) := by
  unfold szH
  rcases szV_bd l z with h | h
  · rw [if_pos (by omega)]; exact .inl rfl
  · rw [if_neg (by omega)]
    split
    · exact .inl rfl
    · exact .inr (by omega)
theorem szV_fit {l : List ByteArray} {z : Int} (hz : z ≤ 1048576) (h : 0 ≤ szV l z) : l.length ≤ 1048576 ∧ ∀ s ∈ l, s.size ≤ 1048576 := by
  unfold szV at h
  split at h
  · omega
  · exact ⟨by omega, fun s hs => by have := sum_mem hs; omega⟩
theorem szE_or (v : E) : szE v 1048576 = -1 ∨ (0 ≤ szE v 1048576 ∧ EFit v) := by
  unfold szE
  split
  · exact .inl rfl
  · rename_i h1
    split
    · exact .inl rfl
    · rename_i h2
      split
      · exact .inl rfl
      · rename_i h3
        have b1 := szOne_bd v.x 1048576
        have b2 := szV_bd v.ks (szOne v.x 1048576)
        have b3 := szL_bd v.us (szV v.ks (szOne v.x 1048576))
        rcases szH_bd v.hl v.hk (szL v.us (szV v.ks (szOne v.x 1048576))) with h4 | ⟨h4, h5⟩
        · exact .inl h4
        · have f2 := szV_fit (l := v.ks) (z := szOne v.x 1048576) (by omega) (by omega)
          have f3 := szV_fit (l := v.us.map Prod.fst) (z := szV v.ks (szOne v.x 1048576)) (by omega) (show 0 ≤ szL v.us (szV v.ks (szOne v.x 1048576)) by omega)
          have hx : v.x.size ≤ 1048576 := by
            unfold szOne at h1
            split at h1 <;> omega
          have f4 : v.hl.length ≤ 1048576 ∧ (∀ s ∈ v.hl, s.size ≤ 1048576) ∧ v.hk.size ≤ 1048576 := by
            unfold szH at h4
            split at h4
            · omega
            · rename_i h6
              split at h4
              · omega
              · rename_i h7
                have b4 := szV_bd v.hl (szL v.us (szV v.ks (szOne v.x 1048576)))
                have f5 := szV_fit (l := v.hl) (z := szL v.us (szV v.ks (szOne v.x 1048576))) (by omega) (by omega)
                exact ⟨f5.1, f5.2, by omega⟩
          exact .inr ⟨h4, ⟨hx, f2.1, f2.2, by have := f3.1; rwa [List.length_map] at this, fun s hs => f3.2 s.1 (List.mem_map.2 ⟨s, hs, rfl⟩), f4.1, f4.2.1, f4.2.2⟩⟩
set_option maxHeartbeats 1600000 in
theorem szEd_any (v : E) (A : EA) (left : Int) (h0 : 0 ≤ left) (h1 : left ≤ 1048576) (hx : v.x.size ≤ maxLen) (hk1 : v.ks.length ≤ maxLen) (hk2 : ∀ s ∈ v.ks, s.size ≤ maxLen) (hu1 : v.us.length ≤ maxLen) (hu2 : ∀ s ∈ v.us, s.1.size ≤ maxLen) (hh1 : v.hl.length ≤ maxLen) (hh2 : ∀ s ∈ v.hl, s.size ≤ maxLen) (hh3 : v.hk.size ≤ maxLen) (w : World) (h : ERow w A v) :
    Calls Try.prog 5 #[eV v A, .int .i64 left] w fun e w' => e = .returned (.int .i64 (szE v left)) ∧ Below w.heap.size w w' := by
  obtain ⟨x, i, ks, kt, us, hl, ht, hk, la⟩ := v
  obtain ⟨a, c, b, d, g, f⟩ := A
  dsimp only at hx hk1 hk2 hu1 hu2 hh1 hh2 hh3
  have hal := (Below.refl _ w).alloc (Nat.le_refl _) (.cells #[.string x, .int .i64 i, .slice a ks.length c, .int .i64 kt, .slice b us.length d, .slice g hl.length f, .int .i64 ht, .string hk, .int .i64 la] 31)
  have HC1 := Lib.hid (fun W => szLine_any x i left h0 h1 hx W)
  have HC2 := Lib.hid (fun z (h0 : 0 ≤ z) (h1 : z ≤ 1048576) W (hb : Below w.heap.size w W) => szKills_any a c ks kt z h0 h1 hk1 hk2 W (h.k.below hb))
  have HC3 := Lib.hid (fun z (h0 : 0 ≤ z) (h1 : z ≤ 1048576) W (hb : Below w.heap.size w W) => szLineS_any b d us z h0 h1 hu1 hu2 W (h.u.below hb))
  have HC4 := Lib.hid (fun z (h0 : 0 ≤ z) (h1 : z ≤ 1048576) W (hb : Below w.heap.size w W) => szHist_any g f hl ht hk z h0 h1 hh1 hh2 hh3 W (h.h.below hb))
  obtain ⟨n1, hn1⟩ : ∃ n, n = ks.length := ⟨_, rfl⟩
  obtain ⟨n2, hn2⟩ : ∃ n, n = us.length := ⟨_, rfl⟩
  obtain ⟨n3, hn3⟩ : ∃ n, n = hl.length := ⟨_, rfl⟩
  obtain ⟨z1, e1⟩ : ∃ z, z = szOne x left := ⟨_, rfl⟩
  obtain ⟨z2, e2⟩ : ∃ z, z = szV ks z1 := ⟨_, rfl⟩
  obtain ⟨z3, e3⟩ : ∃ z, z = szL us z2 := ⟨_, rfl⟩
  obtain ⟨z4, e4⟩ : ∃ z, z = szH hl hk z3 := ⟨_, rfl⟩
  have HV := Lib.hid (show szE ⟨x, i, ks, kt, us, hl, ht, hk, la⟩ left = if z1 < 0 then -1 else if z2 < 0 then -1 else if z3 < 0 then -1 else z4 by rw [e4, e3, e2, e1]; rfl)
  have b1 := szOne_bd x left
  have b2 := szV_bd ks z1
  have b3 := szL_bd us z2
  have b4 := szH_bd hl hk z3
  unfold eV
  dsimp only
  rw [← hn1] at HC2 hal ⊢
  rw [← hn2] at HC3 hal ⊢
  rw [← hn3] at HC4 hal ⊢
  rw [← e1] at HC1 b1
  rw [← e2] at b2
  rw [← e3] at b3
  rw [← e4] at b4
  have HB := Lib.hid hal
  rw [HV.out]
  clear HV h hk1 hk2 hu1 hu2 hh1 hh2 hh3 hx hal hn1 hn2 hn3
  unfold lV kV hV at *
  by_cases c1 : z1 < 0
  · rw [if_pos c1]
    have d1 : z1 = -1 := by omega
    subst d1
    clear HC2 HC3 HC4 e1 e2 e3 e4 b1 b2 b3 b4 c1
    go_enter Try.func5, Try.ntmps5
    go_wp2_with fail
    refine (HC1.out _).mono ?_
    rintro e w1 ⟨rfl, hb⟩
    obtain ⟨p1, _⟩ := keepC hb (g := w.heap.size) (by simp)
    have y1 : w.heap.size < w1.heap.size := by have := hb.size; simp at this; omega
    have HB := Lib.hid (bthen HB.out hb (by simp))
    clear hb

    go_wp2
    go_ret
    exact ⟨rfl, HB.out⟩
  rw [if_neg c1]
  have HD2 := Lib.hid (HC2.out z1 (by omega) (by omega))
  rw [← e2] at HD2
  by_cases c2 : z2 < 0
  · rw [if_pos c2]
    have d2 : z2 = -1 := by omega
    have g1 : ¬ z1 < 0 := c1
    subst d2
    clear HC2 HC3 HC4 e1 e2 e3 e4 b1 b2 b3 b4 c2 c1
    go_enter Try.func5, Try.ntmps5
    go_wp2_with fail
    refine (HC1.out _).mono ?_
    rintro e w1 ⟨rfl, hb⟩
    obtain ⟨p1, _⟩ := keepC hb (g := w.heap.size) (by simp)
    have y1 : w.heap.size < w1.heap.size := by have := hb.size; simp at this; omega
    have HB := Lib.hid (bthen HB.out hb (by simp))
    clear hb

    go_wp2_with fail
    refine (HD2.out _ HB.out).mono ?_
    rintro e w2 ⟨rfl, hb⟩
    obtain ⟨p2, _⟩ := keepC hb (g := w.heap.size) y1
    have y2 : w.heap.size < w2.heap.size := Nat.lt_of_lt_of_le y1 hb.size
    have HB := Lib.hid (bthen HB.out hb HB.out.size)
    clear hb

    go_wp2
    go_ret
    exact ⟨rfl, HB.out⟩
  rw [if_neg c2]
  have HD3 := Lib.hid (HC3.out z2 (by omega) (by omega))
  rw [← e3] at HD3
  by_cases c3 : z3 < 0
  · rw [if_pos c3]
    have d3 : z3 = -1 := by omega
    subst d3
    clear HC2 HC3 HC4 e1 e2 e3 e4 b1 b2 b3 b4 c3
    go_enter Try.func5, Try.ntmps5
    go_wp2_with fail
    refine (HC1.out _).mono ?_
    rintro e w1 ⟨rfl, hb⟩
    obtain ⟨p1, _⟩ := keepC hb (g := w.heap.size) (by simp)
    have y1 : w.heap.size < w1.heap.size := by have := hb.size; simp at this; omega
    have HB := Lib.hid (bthen HB.out hb (by simp))
    clear hb

    go_wp2_with fail
    refine (HD2.out _ HB.out).mono ?_
    rintro e w2 ⟨rfl, hb⟩
    obtain ⟨p2, _⟩ := keepC hb (g := w.heap.size) y1
    have y2 : w.heap.size < w2.heap.size := Nat.lt_of_lt_of_le y1 hb.size
    have HB := Lib.hid (bthen HB.out hb HB.out.size)
    clear hb

    go_wp2_with fail
    refine (HD3.out _ HB.out).mono ?_
    rintro e w3 ⟨rfl, hb⟩
    obtain ⟨p3, _⟩ := keepC hb (g := w.heap.size) y2
    have y3 : w.heap.size < w3.heap.size := Nat.lt_of_lt_of_le y2 hb.size
    have HB := Lib.hid (bthen HB.out hb HB.out.size)
    clear hb

    go_wp2
    go_ret
    exact ⟨rfl, HB.out⟩
  rw [if_neg c3]
  have HD4 := Lib.hid (HC4.out z3 (by omega) (by omega))
  rw [← e4] at HD4
  have d4 : z4 = -1 ∨ ¬ z4 < 0 := by omega
  clear HC2 HC3 HC4 e1 e2 e3 e4 b1 b2 b3 b4
  rcases d4 with d4 | d4
  · subst d4
    go_enter Try.func5, Try.ntmps5
    go_wp2_with fail
    refine (HC1.out _).mono ?_
    rintro e w1 ⟨rfl, hb⟩
    obtain ⟨p1, _⟩ := keepC hb (g := w.heap.size) (by simp)
    have y1 : w.heap.size < w1.heap.size := by have := hb.size; simp at this; omega
    have HB := Lib.hid (bthen HB.out hb (by simp))
    clear hb

    go_wp2_with fail
    refine (HD2.out _ HB.out).mono ?_
    rintro e w2 ⟨rfl, hb⟩
    obtain ⟨p2, _⟩ := keepC hb (g := w.heap.size) y1
    have y2 : w.heap.size < w2.heap.size := Nat.lt_of_lt_of_le y1 hb.size
    have HB := Lib.hid (bthen HB.out hb HB.out.size)
    clear hb

    go_wp2_with fail
    refine (HD3.out _ HB.out).mono ?_
    rintro e w3 ⟨rfl, hb⟩
    obtain ⟨p3, _⟩ := keepC hb (g := w.heap.size) y2
    have y3 : w.heap.size < w3.heap.size := Nat.lt_of_lt_of_le y2 hb.size
    have HB := Lib.hid (bthen HB.out hb HB.out.size)
    clear hb

    go_wp2_with fail
    refine (HD4.out _ HB.out).mono ?_
    rintro e w4 ⟨rfl, hb⟩
    obtain ⟨p4, _⟩ := keepC hb (g := w.heap.size) y3
    have y4 : w.heap.size < w4.heap.size := Nat.lt_of_lt_of_le y3 hb.size
    have HB := Lib.hid (bthen HB.out hb HB.out.size)
    clear hb

    go_wp2
    go_ret
    exact ⟨rfl, HB.out⟩
  · go_enter Try.func5, Try.ntmps5
    go_wp2_with fail
    refine (HC1.out _).mono ?_
    rintro e w1 ⟨rfl, hb⟩
    obtain ⟨p1, _⟩ := keepC hb (g := w.heap.size) (by simp)
    have y1 : w.heap.size < w1.heap.size := by have := hb.size; simp at this; omega
    have HB := Lib.hid (bthen HB.out hb (by simp))
    clear hb

    go_wp2_with fail
    refine (HD2.out _ HB.out).mono ?_
    rintro e w2 ⟨rfl, hb⟩
    obtain ⟨p2, _⟩ := keepC hb (g := w.heap.size) y1
    have y2 : w.heap.size < w2.heap.size := Nat.lt_of_lt_of_le y1 hb.size
    have HB := Lib.hid (bthen HB.out hb HB.out.size)
    clear hb

    go_wp2_with fail
    refine (HD3.out _ HB.out).mono ?_
    rintro e w3 ⟨rfl, hb⟩
    obtain ⟨p3, _⟩ := keepC hb (g := w.heap.size) y2
    have y3 : w.heap.size < w3.heap.size := Nat.lt_of_lt_of_le y2 hb.size
    have HB := Lib.hid (bthen HB.out hb HB.out.size)
    clear hb

    go_wp2_with fail
    refine (HD4.out _ HB.out).mono ?_
    rintro e w4 ⟨rfl, hb⟩
    obtain ⟨p4, _⟩ := keepC hb (g := w.heap.size) y3
    have y4 : w.heap.size < w4.heap.size := Nat.lt_of_lt_of_le y3 hb.size
    have HB := Lib.hid (bthen HB.out hb HB.out.size)
    clear hb

    go_wp2
    go_ret
    exact ⟨rfl, HB.out⟩
theorem nine {n b : Nat} {w w1 : World} (h : Below n w w1) (hb : n ≤ b) (v0 v1 v2 v3 v4 v5 v6 v7 v8 : Value) : Below n w (((((((((w1.setCell ⟨b, 0, none⟩ v0).setCell ⟨b, 1, none⟩ v1).setCell ⟨b, 2, none⟩ v2).setCell ⟨b, 3, none⟩ v3).setCell ⟨b, 4, none⟩ v4).setCell ⟨b, 5, none⟩ v5).setCell ⟨b, 6, none⟩ v6).setCell ⟨b, 7, none⟩ v7).setCell ⟨b, 8, none⟩ v8) :=
  ((((((((h.setCell (p := ⟨b, 0, none⟩) hb _).setCell (p := ⟨b, 1, none⟩) hb _).setCell (p := ⟨b, 2, none⟩) hb _).setCell (p := ⟨b, 3, none⟩) hb _).setCell (p := ⟨b, 4, none⟩) hb _).setCell (p := ⟨b, 5, none⟩) hb _).setCell (p := ⟨b, 6, none⟩) hb _).setCell (p := ⟨b, 7, none⟩) hb _).setCell (p := ⟨b, 8, none⟩) hb _
theorem blkN_ge {B n : Nat} {W : World} {b : Option Addr} (h : SBlk B W b n) : ∀ x, blkN b n = some x → B ≤ x := h.lt
/-- a row stays where another block is written into -/
theorem ERow.set {W : World} {A : EA} {v : E} (h : ERow W A v) {b k : Nat} {u : Value} (hne : ¬ ein A v b) : ERow (W.setCell ⟨b, k, none⟩ u) A v := by
  have h1 : ∀ {a : Option Addr} {n : Nat}, blkN a n ≠ some b → n ≠ 0 → blockOf a ≠ some b := fun h2 h3 e => h2 (by unfold blkN; rw [if_neg h3]; exact e)
  refine ⟨h.k.setA fun e => h1 (fun e2 => hne (.inl e2)) (fun e3 => e (List.eq_nil_of_length_eq_zero e3)), ?_, h.h.setA fun e => h1 (fun e2 => hne (.inr (.inr e2))) (fun e3 => e (List.eq_nil_of_length_eq_zero e3))⟩
  exact h.u.kept (grown_set W b k u) fun e => .inl (h1 (fun e2 => hne (.inr (.inl e2))) (fun e3 => e (List.eq_nil_of_length_eq_zero e3)))
theorem EBlk.set {B : Nat} {W : World} {A : EA} {v : E} (h : EBlk B W A v) {b k : Nat} {u : Value} (hne : ¬ ein A v b) : EBlk B (W.setCell ⟨b, k, none⟩ u) A v := by
  have h1 : ∀ {a : Option Addr} {n : Nat}, blkN a n ≠ some b → n ≠ 0 → blockOf a ≠ some b := fun h2 h3 e => h2 (by unfold blkN; rw [if_neg h3]; exact e)
  exact ⟨h.k.setA fun e => h1 (fun e2 => hne (.inl e2)) e, h.u.kept (grown_set W b k u) fun e => .inl (h1 (fun e2 => hne (.inr (.inl e2))) e), h.h.setA fun e => h1 (fun e2 => hne (.inr (.inr e2))) e, h.ku, h.kh, h.uh⟩
theorem setA_lrow {W : World} {b : Option Addr} {l : List (ByteArray × Int)} (h : LRow W b l) {g k : Nat} {u : Value} (hne : ∀ x, blkN b l.length = some x → x ≠ g) : LRow (W.setCell ⟨g, k, none⟩ u) b l :=
  h.kept (grown_set W g k u) fun e => .inl fun e2 => hne g (by unfold blkN; rw [if_neg (fun e3 => e (List.eq_nil_of_length_eq_zero e3))]; exact e2) rfl
theorem setA_srow {W : World} {b : Option Addr} {l : List ByteArray} (h : SRow W b l) {g k : Nat} {u : Value} (hne : ∀ x, blkN b l.length = some x → x ≠ g) : SRow (W.setCell ⟨g, k, none⟩ u) b l :=
  h.kept (grown_set W g k u) fun e => .inl fun e2 => hne g (by unfold blkN; rw [if_neg (fun e3 => e (List.eq_nil_of_length_eq_zero e3))]; exact e2) rfl
theorem setA_sblk {W : World} {b : Option Addr} {B n : Nat} (h : SBlk B W b n) {g k : Nat} {u : Value} (hne : g < B) : SBlk B (W.setCell ⟨g, k, none⟩ u) b n :=
  h.kept (grown_set W g k u) fun e => .inl fun e2 => by have := h.lt g (by unfold blkN; rw [if_neg e]; exact e2); omega
theorem setA_lblk {W : World} {b : Option Addr} {B n : Nat} (h : LBlk B W b n) {g k : Nat} {u : Value} (hne : g < B) : LBlk B (W.setCell ⟨g, k, none⟩ u) b n :=
  h.kept (grown_set W g k u) fun e => .inl fun e2 => by have := h.lt g (by unfold blkN; rw [if_neg e]; exact e2); omega
theorem srow9 {W : World} {b : Option Addr} {l : List ByteArray} (h : SRow W b l) (g : Nat) (hne : ∀ x, blkN b l.length = some x → x ≠ g) (v0 v1 v2 v3 v4 v5 v6 v7 v8 : Value) : SRow (((((((((W.setCell ⟨g, 0, none⟩ v0).setCell ⟨g, 1, none⟩ v1).setCell ⟨g, 2, none⟩ v2).setCell ⟨g, 3, none⟩ v3).setCell ⟨g, 4, none⟩ v4).setCell ⟨g, 5, none⟩ v5).setCell ⟨g, 6, none⟩ v6).setCell ⟨g, 7, none⟩ v7).setCell ⟨g, 8, none⟩ v8) b l :=
  (setA_srow (setA_srow (setA_srow (setA_srow (setA_srow (setA_srow (setA_srow (setA_srow (setA_srow h hne) hne) hne) hne) hne) hne) hne) hne) hne)
theorem lrow9 {W : World} {b : Option Addr} {l : List (ByteArray × Int)} (h : LRow W b l) (g : Nat) (hne : ∀ x, blkN b l.length = some x → x ≠ g) (v0 v1 v2 v3 v4 v5 v6 v7 v8 : Value) : LRow (((((((((W.setCell ⟨g, 0, none⟩ v0).setCell ⟨g, 1, none⟩ v1).setCell ⟨g, 2, none⟩ v2).setCell ⟨g, 3, none⟩ v3).setCell ⟨g, 4, none⟩ v4).setCell ⟨g, 5, none⟩ v5).setCell ⟨g, 6, none⟩ v6).setCell ⟨g, 7, none⟩ v7).setCell ⟨g, 8, none⟩ v8) b l :=
  (setA_lrow (setA_lrow (setA_lrow (setA_lrow (setA_lrow (setA_lrow (setA_lrow (setA_lrow (setA_lrow h hne) hne) hne) hne) hne) hne) hne) hne) hne)
theorem sblk9 {W : World} {b : Option Addr} {B n : Nat} (h : SBlk B W b n) (g : Nat) (hne : g < B) (v0 v1 v2 v3 v4 v5 v6 v7 v8 : Value) : SBlk B (((((((((W.setCell ⟨g, 0, none⟩ v0).setCell ⟨g, 1, none⟩ v1).setCell ⟨g, 2, none⟩ v2).setCell ⟨g, 3, none⟩ v3).setCell ⟨g, 4, none⟩ v4).setCell ⟨g, 5, none⟩ v5).setCell ⟨g, 6, none⟩ v6).setCell ⟨g, 7, none⟩ v7).setCell ⟨g, 8, none⟩ v8) b n :=
  (setA_sblk (setA_sblk (setA_sblk (setA_sblk (setA_sblk (setA_sblk (setA_sblk (setA_sblk (setA_sblk h hne) hne) hne) hne) hne) hne) hne) hne) hne)
theorem lblk9 {W : World} {b : Option Addr} {B n : Nat} (h : LBlk B W b n) (g : Nat) (hne : g < B) (v0 v1 v2 v3 v4 v5 v6 v7 v8 : Value) : LBlk B (((((((((W.setCell ⟨g, 0, none⟩ v0).setCell ⟨g, 1, none⟩ v1).setCell ⟨g, 2, none⟩ v2).setCell ⟨g, 3, none⟩ v3).setCell ⟨g, 4, none⟩ v4).setCell ⟨g, 5, none⟩ v5).setCell ⟨g, 6, none⟩ v6).setCell ⟨g, 7, none⟩ v7).setCell ⟨g, 8, none⟩ v8) b n :=
  (setA_lblk (setA_lblk (setA_lblk (setA_lblk (setA_lblk (setA_lblk (setA_lblk (setA_lblk (setA_lblk h hne) hne) hne) hne) hne) hne) hne) hne) hne)
theorem varb9 {W : World} {g : Nat} {t : TypeId} {u0 u1 u2 u3 u4 u5 u6 u7 u8 : Value} (h : VarB W g #[u0, u1, u2, u3, u4, u5, u6, u7, u8] t) (v0 v1 v2 v3 v4 v5 v6 v7 v8 : Value) : VarB (((((((((W.setCell ⟨g, 0, none⟩ v0).setCell ⟨g, 1, none⟩ v1).setCell ⟨g, 2, none⟩ v2).setCell ⟨g, 3, none⟩ v3).setCell ⟨g, 4, none⟩ v4).setCell ⟨g, 5, none⟩ v5).setCell ⟨g, 6, none⟩ v6).setCell ⟨g, 7, none⟩ v7).setCell ⟨g, 8, none⟩ v8) g #[v0, v1, v2, v3, v4, v5, v6, v7, v8] t :=
  (VarB.setTo (VarB.setTo (VarB.setTo (VarB.setTo (VarB.setTo (VarB.setTo (VarB.setTo (VarB.setTo (VarB.setTo h 0 v0 (cs' := #[v0, u1, u2, u3, u4, u5, u6, u7, u8]) (by kernel_rfl)) 1 v1 (cs' := #[v0, v1, u2, u3, u4, u5, u6, u7, u8]) (by kernel_rfl)) 2 v2 (cs' := #[v0, v1, v2, u3, u4, u5, u6, u7, u8]) (by kernel_rfl)) 3 v3 (cs' := #[v0, v1, v2, v3, u4, u5, u6, u7, u8]) (by kernel_rfl)) 4 v4 (cs' := #[v0, v1, v2, v3, v4, u5, u6, u7, u8]) (by kernel_rfl)) 5 v5 (cs' := #[v0, v1, v2, v3, v4, v5, u6, u7, u8]) (by kernel_rfl)) 6 v6 (cs' := #[v0, v1, v2, v3, v4, v5, v6, u7, u8]) (by kernel_rfl)) 7 v7 (cs' := #[v0, v1, v2, v3, v4, v5, v6, v7, u8]) (by kernel_rfl)) 8 v8 (cs' := #[v0, v1, v2, v3, v4, v5, v6, v7, v8]) (by kernel_rfl))
theorem vcell9 {W : World} {g : Nat} {t : TypeId} {u0 u1 u2 u3 u4 u5 u6 u7 u8 : Value} (h : VarB W g #[u0, u1, u2, u3, u4, u5, u6, u7, u8] t) : W.cell? ⟨g, 0, none⟩ = some u0 ∧ W.cell? ⟨g, 1, none⟩ = some u1 ∧ W.cell? ⟨g, 2, none⟩ = some u2 ∧ W.cell? ⟨g, 3, none⟩ = some u3 ∧ W.cell? ⟨g, 4, none⟩ = some u4 ∧ W.cell? ⟨g, 5, none⟩ = some u5 ∧ W.cell? ⟨g, 6, none⟩ = some u6 ∧ W.cell? ⟨g, 7, none⟩ = some u7 ∧ W.cell? ⟨g, 8, none⟩ = some u8 :=
  ⟨h.cell (i := 0) rfl, h.cell (i := 1) rfl, h.cell (i := 2) rfl, h.cell (i := 3) rfl, h.cell (i := 4) rfl, h.cell (i := 5) rfl, h.cell (i := 6) rfl, h.cell (i := 7) rfl, h.cell (i := 8) rfl⟩
set_option maxRecDepth 20000 in
set_option maxHeartbeats 6400000 in
theorem toEd_any (v : E) (A : EA) (hf : EFit v) (w : World) (h : ERow w A v) :
    Calls Try.prog 7 #[eV v A] w fun e w' => ∃ A', e = .returned (eV v A') ∧ ERow w' A' v ∧ EBlk w.heap.size w' A' v ∧ Below w.heap.size w w' := by
  obtain ⟨x, i, ks, kt, us, hl, ht, hk, la⟩ := v
  obtain ⟨a, c, b, d, g, f⟩ := A
  have hal := (((Below.refl _ w).alloc (Nat.le_refl _) (.cells #[.string x, .int .i64 i, .slice a ks.length c, .int .i64 kt, .slice b us.length d, .slice g hl.length f, .int .i64 ht, .string hk, .int .i64 la] 31)).alloc (by simp) (.cells #[.string ⟨#[]⟩, .int .i64 0, .slice none 0 0, .int .i64 0, .slice none 0 0, .slice none 0 0, .int .i64 0, .string ⟨#[]⟩, .int .i64 0] 39)).alloc (by simp; omega) (.cells #[.string ⟨#[]⟩, .int .i64 0, .slice none 0 0, .int .i64 0, .slice none 0 0, .slice none 0 0, .int .i64 0, .string ⟨#[]⟩, .int .i64 0] 39)
  have HC1 := Lib.hid (fun W => toLine_any x i W)
  have HC2 := Lib.hid (fun W (hb : Below w.heap.size w W) => toKills_any a c ks kt hf.k W (h.k.below hb))
  have HC3 := Lib.hid (fun W (hb : Below w.heap.size w W) => ((toLineS_any b d us hf.u W (h.u.below hb)).mono (R' := fun e w' => ∃ g, e = .returned (.slice (some ⟨g, 0, none⟩) us.length us.length) ∧ LRow w' (some ⟨g, 0, none⟩) us ∧ LBlk W.heap.size w' (some ⟨g, 0, none⟩) us.length ∧ Below W.heap.size W w') fun _ _ ⟨e1, e2, e3, e4, _⟩ => ⟨_, e1, e2, e3, e4⟩))
  have HC4 := Lib.hid (fun W (hb : Below w.heap.size w W) => toHist_any g f hl ht hk hf.h W (h.h.below hb))
  have HP := Lib.hid (show VarB (((w.alloc (.cells #[.string x, .int .i64 i, .slice a ks.length c, .int .i64 kt, .slice b us.length d, .slice g hl.length f, .int .i64 ht, .string hk, .int .i64 la] 31)).alloc (.cells #[.string ⟨#[]⟩, .int .i64 0, .slice none 0 0, .int .i64 0, .slice none 0 0, .slice none 0 0, .int .i64 0, .string ⟨#[]⟩, .int .i64 0] 39)).alloc (.cells #[.string ⟨#[]⟩, .int .i64 0, .slice none 0 0, .int .i64 0, .slice none 0 0, .slice none 0 0, .int .i64 0, .string ⟨#[]⟩, .int .i64 0] 39)) w.heap.size #[.string x, .int .i64 i, .slice a ks.length c, .int .i64 kt, .slice b us.length d, .slice g hl.length f, .int .i64 ht, .string hk, .int .i64 la] 31 from ((VarB.new w _ _).alloc _).alloc _)
  have HR := Lib.hid (show VarB (((w.alloc (.cells #[.string x, .int .i64 i, .slice a ks.length c, .int .i64 kt, .slice b us.length d, .slice g hl.length f, .int .i64 ht, .string hk, .int .i64 la] 31)).alloc (.cells #[.string ⟨#[]⟩, .int .i64 0, .slice none 0 0, .int .i64 0, .slice none 0 0, .slice none 0 0, .int .i64 0, .string ⟨#[]⟩, .int .i64 0] 39)).alloc (.cells #[.string ⟨#[]⟩, .int .i64 0, .slice none 0 0, .int .i64 0, .slice none 0 0, .slice none 0 0, .int .i64 0, .string ⟨#[]⟩, .int .i64 0] 39)) (w.heap.size + 1) #[.string ⟨#[]⟩, .int .i64 0, .slice none 0 0, .int .i64 0, .slice none 0 0, .slice none 0 0, .int .i64 0, .string ⟨#[]⟩, .int .i64 0] 39 from by
    have h1 := (VarB.new (w.alloc (.cells #[.string x, .int .i64 i, .slice a ks.length c, .int .i64 kt, .slice b us.length d, .slice g hl.length f, .int .i64 ht, .string hk, .int .i64 la] 31)) #[.string ⟨#[]⟩, .int .i64 0, .slice none 0 0, .int .i64 0, .slice none 0 0, .slice none 0 0, .int .i64 0, .string ⟨#[]⟩, .int .i64 0] 39).alloc (.cells #[.string ⟨#[]⟩, .int .i64 0, .slice none 0 0, .int .i64 0, .slice none 0 0, .slice none 0 0, .int .i64 0, .string ⟨#[]⟩, .int .i64 0] 39)
    simpa using h1)
  have HO := Lib.hid (show VarB (((w.alloc (.cells #[.string x, .int .i64 i, .slice a ks.length c, .int .i64 kt, .slice b us.length d, .slice g hl.length f, .int .i64 ht, .string hk, .int .i64 la] 31)).alloc (.cells #[.string ⟨#[]⟩, .int .i64 0, .slice none 0 0, .int .i64 0, .slice none 0 0, .slice none 0 0, .int .i64 0, .string ⟨#[]⟩, .int .i64 0] 39)).alloc (.cells #[.string ⟨#[]⟩, .int .i64 0, .slice none 0 0, .int .i64 0, .slice none 0 0, .slice none 0 0, .int .i64 0, .string ⟨#[]⟩, .int .i64 0] 39)) (w.heap.size + 2) #[.string ⟨#[]⟩, .int .i64 0, .slice none 0 0, .int .i64 0, .slice none 0 0, .slice none 0 0, .int .i64 0, .string ⟨#[]⟩, .int .i64 0] 39 from by
    have h1 := VarB.new ((w.alloc (.cells #[.string x, .int .i64 i, .slice a ks.length c, .int .i64 kt, .slice b us.length d, .slice g hl.length f, .int .i64 ht, .string hk, .int .i64 la] 31)).alloc (.cells #[.string ⟨#[]⟩, .int .i64 0, .slice none 0 0, .int .i64 0, .slice none 0 0, .slice none 0 0, .int .i64 0, .string ⟨#[]⟩, .int .i64 0] 39)) #[.string ⟨#[]⟩, .int .i64 0, .slice none 0 0, .int .i64 0, .slice none 0 0, .slice none 0 0, .int .i64 0, .string ⟨#[]⟩, .int .i64 0] 39
    simpa using h1)
  obtain ⟨n1, hn1⟩ : ∃ n, n = ks.length := ⟨_, rfl⟩
  obtain ⟨n2, hn2⟩ : ∃ n, n = us.length := ⟨_, rfl⟩
  obtain ⟨n3, hn3⟩ : ∃ n, n = hl.length := ⟨_, rfl⟩
  have HN1 := Lib.hid hn1
  have HN2 := Lib.hid hn2
  have HN3 := Lib.hid hn3
  unfold eV
  dsimp only at *
  rw [← hn1] at HC2 hal HP HR HO ⊢
  rw [← hn2] at HC3 hal HP HR HO ⊢
  rw [← hn3] at HC4 hal HP HR HO ⊢
  have HB := Lib.hid hal
  clear h hf hal hn1 hn2 hn3
  unfold lV kV hV at *
  go_enter Try.func7, Try.ntmps7
  go_wp2_with fail
  refine (HC1.out _).mono ?_
  rintro e w1 ⟨rfl, hb⟩
  have HP := Lib.hid (HP.out.below hb)
  have HR := Lib.hid (HR.out.below hb)
  have HO := Lib.hid (HO.out.below hb)
  have HB := Lib.hid (bthen HB.out hb HB.out.size)
  clear hb
  have q0 := HP.out.cell (i := 0) rfl
  have q1 := HP.out.cell (i := 1) rfl
  have q2 := HP.out.cell (i := 2) rfl
  have q3 := HP.out.cell (i := 3) rfl
  have q4 := HP.out.cell (i := 4) rfl
  have q5 := HP.out.cell (i := 5) rfl
  have q6 := HP.out.cell (i := 6) rfl
  have q7 := HP.out.cell (i := 7) rfl
  have q8 := HP.out.cell (i := 8) rfl
  have o0 := HO.out.cell (i := 0) rfl
  have o1 := HO.out.cell (i := 1) rfl
  have o2 := HO.out.cell (i := 2) rfl
  have o3 := HO.out.cell (i := 3) rfl
  have o4 := HO.out.cell (i := 4) rfl
  have o5 := HO.out.cell (i := 5) rfl
  have o6 := HO.out.cell (i := 6) rfl
  have o7 := HO.out.cell (i := 7) rfl
  have o8 := HO.out.cell (i := 8) rfl
  have of := HO.out.froz
  have y0 : w.heap.size < w1.heap.size := HP.out.lt
  have y2 : w.heap.size + 2 < w1.heap.size := HO.out.lt
  go_wp2_with fail
  clear q0 q1 q2 q3 q4 q5 q6 q7 q8 o0 o1 o2 o3 o4 o5 o6 o7 o8 of y0 y2
  have HP := Lib.hid ((HP.out.other (b := w.heap.size + 2) (k := 0) (by omega) (.string x)).other (b := w.heap.size + 2) (k := 1) (by omega) (.int .i64 i))
  have HR := Lib.hid ((HR.out.other (b := w.heap.size + 2) (k := 0) (by omega) (.string x)).other (b := w.heap.size + 2) (k := 1) (by omega) (.int .i64 i))
  have HO := Lib.hid (VarB.setTo (VarB.setTo HO.out 0 (.string x) (cs' := #[.string x, .int .i64 0, .slice none 0 0, .int .i64 0, .slice none 0 0, .slice none 0 0, .int .i64 0, .string ⟨#[]⟩, .int .i64 0]) (by kernel_rfl)) 1 (.int .i64 i) (cs' := #[.string x, .int .i64 i, .slice none 0 0, .int .i64 0, .slice none 0 0, .slice none 0 0, .int .i64 0, .string ⟨#[]⟩, .int .i64 0]) (by kernel_rfl))
  have HB := Lib.hid ((HB.out.setCell (p := ⟨w.heap.size + 2, 0, none⟩) (by show w.heap.size ≤ w.heap.size + 2; omega) (.string x)).setCell (p := ⟨w.heap.size + 2, 1, none⟩) (by show w.heap.size ≤ w.heap.size + 2; omega) (.int .i64 i))
  refine (HC2.out _ HB.out).mono ?_
  rintro e w2 ⟨g1, rfl, hr, hs, hb⟩
  have HK := Lib.hid hr
  have HKB := Lib.hid (SBlk.lo (b' := w.heap.size + 3) hs (by have := HO.out.lt; omega))
  have GHK := Lib.hid (show ∀ x, blkN (some ⟨g1, 0, none⟩) ks.length = some x → w.heap.size + 3 ≤ x from fun x e => HKB.out.lt x (by rw [HN1.out]; exact e))
  have LK := Lib.hid (show ∀ x, blkN (some ⟨g1, 0, none⟩) ks.length = some x → x < w2.heap.size from HK.out.lt)
  have HP := Lib.hid (HP.out.below hb)
  have HR := Lib.hid (HR.out.below hb)
  have HO := Lib.hid (HO.out.below hb)
  have HB := Lib.hid (bthen HB.out hb HB.out.size)
  clear hb hr hs
  have q0 := HP.out.cell (i := 0) rfl
  have q1 := HP.out.cell (i := 1) rfl
  have q2 := HP.out.cell (i := 2) rfl
  have q3 := HP.out.cell (i := 3) rfl
  have q4 := HP.out.cell (i := 4) rfl
  have q5 := HP.out.cell (i := 5) rfl
  have q6 := HP.out.cell (i := 6) rfl
  have q7 := HP.out.cell (i := 7) rfl
  have q8 := HP.out.cell (i := 8) rfl
  have o0 := HO.out.cell (i := 0) rfl
  have o1 := HO.out.cell (i := 1) rfl
  have o2 := HO.out.cell (i := 2) rfl
  have o3 := HO.out.cell (i := 3) rfl
  have o4 := HO.out.cell (i := 4) rfl
  have o5 := HO.out.cell (i := 5) rfl
  have o6 := HO.out.cell (i := 6) rfl
  have o7 := HO.out.cell (i := 7) rfl
  have o8 := HO.out.cell (i := 8) rfl
  have of := HO.out.froz
  have y0 : w.heap.size < w2.heap.size := HP.out.lt
  have y2 : w.heap.size + 2 < w2.heap.size := HO.out.lt
  go_wp2_with fail
  clear q0 q1 q2 q3 q4 q5 q6 q7 q8 o0 o1 o2 o3 o4 o5 o6 o7 o8 of y0 y2
  have HP := Lib.hid ((HP.out.other (b := w.heap.size + 2) (k := 2) (by omega) (.slice (some ⟨g1, 0, none⟩) n1 n1)).other (b := w.heap.size + 2) (k := 3) (by omega) (.int .i64 kt))
  have HR := Lib.hid ((HR.out.other (b := w.heap.size + 2) (k := 2) (by omega) (.slice (some ⟨g1, 0, none⟩) n1 n1)).other (b := w.heap.size + 2) (k := 3) (by omega) (.int .i64 kt))
  have HO := Lib.hid (VarB.setTo (VarB.setTo HO.out 2 (.slice (some ⟨g1, 0, none⟩) n1 n1) (cs' := #[.string x, .int .i64 i, .slice (some ⟨g1, 0, none⟩) n1 n1, .int .i64 0, .slice none 0 0, .slice none 0 0, .int .i64 0, .string ⟨#[]⟩, .int .i64 0]) (by kernel_rfl)) 3 (.int .i64 kt) (cs' := #[.string x, .int .i64 i, .slice (some ⟨g1, 0, none⟩) n1 n1, .int .i64 kt, .slice none 0 0, .slice none 0 0, .int .i64 0, .string ⟨#[]⟩, .int .i64 0]) (by kernel_rfl))
  have HB := Lib.hid ((HB.out.setCell (p := ⟨w.heap.size + 2, 2, none⟩) (by show w.heap.size ≤ w.heap.size + 2; omega) (.slice (some ⟨g1, 0, none⟩) n1 n1)).setCell (p := ⟨w.heap.size + 2, 3, none⟩) (by show w.heap.size ≤ w.heap.size + 2; omega) (.int .i64 kt))
  have HK := Lib.hid (setA_srow (setA_srow HK.out (g := w.heap.size + 2) (k := 2) (u := .slice (some ⟨g1, 0, none⟩) n1 n1) (fun x e => by have := GHK.out x e; omega)) (g := w.heap.size + 2) (k := 3) (u := .int .i64 kt) (fun x e => by have := GHK.out x e; omega))
  have HKB := Lib.hid (setA_sblk (setA_sblk HKB.out (g := w.heap.size + 2) (k := 2) (u := .slice (some ⟨g1, 0, none⟩) n1 n1) (by omega)) (g := w.heap.size + 2) (k := 3) (u := .int .i64 kt) (by omega))
  refine (HC3.out _ HB.out).mono ?_
  rintro e w3 ⟨g2, rfl, hr, hs, hb⟩
  have HU := Lib.hid hr
  have HUB := Lib.hid (LBlk.lo (b' := w.heap.size + 3) hs (by have := HO.out.lt; omega))
  have HU2 := Lib.hid (show ∀ x, blkN (some ⟨g2, 0, none⟩) n2 = some x → w2.heap.size ≤ x from fun x e => by have := hs.lt x e; simpa using this)
  have GHU := Lib.hid (show ∀ x, blkN (some ⟨g2, 0, none⟩) us.length = some x → w.heap.size + 3 ≤ x from fun x e => HUB.out.lt x (by rw [HN2.out]; exact e))
  have LU := Lib.hid (show ∀ x, blkN (some ⟨g2, 0, none⟩) us.length = some x → x < w3.heap.size from HU.out.lt)
  have HP := Lib.hid (HP.out.below hb)
  have HR := Lib.hid (HR.out.below hb)
  have HO := Lib.hid (HO.out.below hb)
  have T3 := Lib.hid (show w2.heap.size ≤ w3.heap.size by have := hb.size; simpa using this)
  have HK := Lib.hid (HK.out.below hb)
  have HKB := Lib.hid (HKB.out.below hb)

  have HB := Lib.hid (bthen HB.out hb HB.out.size)
  clear hb hr hs
  have q0 := HP.out.cell (i := 0) rfl
  have q1 := HP.out.cell (i := 1) rfl
  have q2 := HP.out.cell (i := 2) rfl
  have q3 := HP.out.cell (i := 3) rfl
  have q4 := HP.out.cell (i := 4) rfl
  have q5 := HP.out.cell (i := 5) rfl
  have q6 := HP.out.cell (i := 6) rfl
  have q7 := HP.out.cell (i := 7) rfl
  have q8 := HP.out.cell (i := 8) rfl
  have o0 := HO.out.cell (i := 0) rfl
  have o1 := HO.out.cell (i := 1) rfl
  have o2 := HO.out.cell (i := 2) rfl
  have o3 := HO.out.cell (i := 3) rfl
  have o4 := HO.out.cell (i := 4) rfl
  have o5 := HO.out.cell (i := 5) rfl
  have o6 := HO.out.cell (i := 6) rfl
  have o7 := HO.out.cell (i := 7) rfl
  have o8 := HO.out.cell (i := 8) rfl
  have of := HO.out.froz
  have y0 : w.heap.size < w3.heap.size := HP.out.lt
  have y2 : w.heap.size + 2 < w3.heap.size := HO.out.lt
  go_wp2_with fail
  clear q0 q1 q2 q3 q4 q5 q6 q7 q8 o0 o1 o2 o3 o4 o5 o6 o7 o8 of y0 y2
  have HP := Lib.hid (HP.out.other (b := w.heap.size + 2) (k := 4) (by omega) (.slice (some ⟨g2, 0, none⟩) n2 n2))
  have HR := Lib.hid (HR.out.other (b := w.heap.size + 2) (k := 4) (by omega) (.slice (some ⟨g2, 0, none⟩) n2 n2))
  have HO := Lib.hid (VarB.setTo HO.out 4 (.slice (some ⟨g2, 0, none⟩) n2 n2) (cs' := #[.string x, .int .i64 i, .slice (some ⟨g1, 0, none⟩) n1 n1, .int .i64 kt, .slice (some ⟨g2, 0, none⟩) n2 n2, .slice none 0 0, .int .i64 0, .string ⟨#[]⟩, .int .i64 0]) (by kernel_rfl))
  have HB := Lib.hid (HB.out.setCell (p := ⟨w.heap.size + 2, 4, none⟩) (by show w.heap.size ≤ w.heap.size + 2; omega) (.slice (some ⟨g2, 0, none⟩) n2 n2))
  have HK := Lib.hid (setA_srow HK.out (g := w.heap.size + 2) (k := 4) (u := .slice (some ⟨g2, 0, none⟩) n2 n2) (fun x e => by have := GHK.out x e; omega))
  have HKB := Lib.hid (setA_sblk HKB.out (g := w.heap.size + 2) (k := 4) (u := .slice (some ⟨g2, 0, none⟩) n2 n2) (by omega))
  have HU := Lib.hid (setA_lrow HU.out (g := w.heap.size + 2) (k := 4) (u := .slice (some ⟨g2, 0, none⟩) n2 n2) (fun x e => by have := GHU.out x e; omega))
  have HUB := Lib.hid (setA_lblk HUB.out (g := w.heap.size + 2) (k := 4) (u := .slice (some ⟨g2, 0, none⟩) n2 n2) (by omega))
  refine (HC4.out _ HB.out).mono ?_
  rintro e w4 ⟨g3, rfl, hr, hs, hb⟩
  have HH := Lib.hid hr
  have HHB := Lib.hid (SBlk.lo (b' := w.heap.size + 3) hs (by have := HO.out.lt; omega))
  have HH2 := Lib.hid (show ∀ x, blkN (some ⟨g3, 0, none⟩) n3 = some x → w3.heap.size ≤ x from fun x e => by have := hs.lt x e; simpa using this)
  have GHH := Lib.hid (show ∀ x, blkN (some ⟨g3, 0, none⟩) hl.length = some x → w.heap.size + 3 ≤ x from fun x e => HHB.out.lt x (by rw [HN3.out]; exact e))
  have HP := Lib.hid (HP.out.below hb)
  have HR := Lib.hid (HR.out.below hb)
  have HO := Lib.hid (HO.out.below hb)
  have HK := Lib.hid (HK.out.below hb)
  have HKB := Lib.hid (HKB.out.below hb)
  have HU := Lib.hid (HU.out.below hb)
  have HUB := Lib.hid (HUB.out.below hb)

  have HB := Lib.hid (bthen HB.out hb HB.out.size)
  clear hb hr hs
  have q0 := HP.out.cell (i := 0) rfl
  have q1 := HP.out.cell (i := 1) rfl
  have q2 := HP.out.cell (i := 2) rfl
  have q3 := HP.out.cell (i := 3) rfl
  have q4 := HP.out.cell (i := 4) rfl
  have q5 := HP.out.cell (i := 5) rfl
  have q6 := HP.out.cell (i := 6) rfl
  have q7 := HP.out.cell (i := 7) rfl
  have q8 := HP.out.cell (i := 8) rfl
  have o0 := HO.out.cell (i := 0) rfl
  have o1 := HO.out.cell (i := 1) rfl
  have o2 := HO.out.cell (i := 2) rfl
  have o3 := HO.out.cell (i := 3) rfl
  have o4 := HO.out.cell (i := 4) rfl
  have o5 := HO.out.cell (i := 5) rfl
  have o6 := HO.out.cell (i := 6) rfl
  have o7 := HO.out.cell (i := 7) rfl
  have o8 := HO.out.cell (i := 8) rfl
  have of := HO.out.froz
  have y0 : w.heap.size < w4.heap.size := HP.out.lt
  have y2 : w.heap.size + 2 < w4.heap.size := HO.out.lt
  have r0 := HR.out.cell (i := 0) rfl
  have r1 := HR.out.cell (i := 1) rfl
  have r2 := HR.out.cell (i := 2) rfl
  have r3 := HR.out.cell (i := 3) rfl
  have r4 := HR.out.cell (i := 4) rfl
  have r5 := HR.out.cell (i := 5) rfl
  have r6 := HR.out.cell (i := 6) rfl
  have r7 := HR.out.cell (i := 7) rfl
  have r8 := HR.out.cell (i := 8) rfl
  have rf := HR.out.froz
  have y1 : w.heap.size + 1 < w4.heap.size := HR.out.lt
  go_wp2
  have QQ : True := trivial
  have HP := Lib.hid ((((HP.out.other (b := w.heap.size + 2) (k := 5) (by omega) (.slice (some ⟨g3, 0, none⟩) n3 n3)).other (b := w.heap.size + 2) (k := 6) (by omega) (.int .i64 ht)).other (b := w.heap.size + 2) (k := 7) (by omega) (.string hk)).other (b := w.heap.size + 2) (k := 8) (by omega) (.int .i64 la))
  have HR := Lib.hid ((((HR.out.other (b := w.heap.size + 2) (k := 5) (by omega) (.slice (some ⟨g3, 0, none⟩) n3 n3)).other (b := w.heap.size + 2) (k := 6) (by omega) (.int .i64 ht)).other (b := w.heap.size + 2) (k := 7) (by omega) (.string hk)).other (b := w.heap.size + 2) (k := 8) (by omega) (.int .i64 la))
  have HO := Lib.hid (VarB.setTo (VarB.setTo (VarB.setTo (VarB.setTo HO.out 5 (.slice (some ⟨g3, 0, none⟩) n3 n3) (cs' := #[.string x, .int .i64 i, .slice (some ⟨g1, 0, none⟩) n1 n1, .int .i64 kt, .slice (some ⟨g2, 0, none⟩) n2 n2, .slice (some ⟨g3, 0, none⟩) n3 n3, .int .i64 0, .string ⟨#[]⟩, .int .i64 0]) (by kernel_rfl)) 6 (.int .i64 ht) (cs' := #[.string x, .int .i64 i, .slice (some ⟨g1, 0, none⟩) n1 n1, .int .i64 kt, .slice (some ⟨g2, 0, none⟩) n2 n2, .slice (some ⟨g3, 0, none⟩) n3 n3, .int .i64 ht, .string ⟨#[]⟩, .int .i64 0]) (by kernel_rfl)) 7 (.string hk) (cs' := #[.string x, .int .i64 i, .slice (some ⟨g1, 0, none⟩) n1 n1, .int .i64 kt, .slice (some ⟨g2, 0, none⟩) n2 n2, .slice (some ⟨g3, 0, none⟩) n3 n3, .int .i64 ht, .string hk, .int .i64 0]) (by kernel_rfl)) 8 (.int .i64 la) (cs' := #[.string x, .int .i64 i, .slice (some ⟨g1, 0, none⟩) n1 n1, .int .i64 kt, .slice (some ⟨g2, 0, none⟩) n2 n2, .slice (some ⟨g3, 0, none⟩) n3 n3, .int .i64 ht, .string hk, .int .i64 la]) (by kernel_rfl))
  have HB := Lib.hid ((((HB.out.setCell (p := ⟨w.heap.size + 2, 5, none⟩) (by show w.heap.size ≤ w.heap.size + 2; omega) (.slice (some ⟨g3, 0, none⟩) n3 n3)).setCell (p := ⟨w.heap.size + 2, 6, none⟩) (by show w.heap.size ≤ w.heap.size + 2; omega) (.int .i64 ht)).setCell (p := ⟨w.heap.size + 2, 7, none⟩) (by show w.heap.size ≤ w.heap.size + 2; omega) (.string hk)).setCell (p := ⟨w.heap.size + 2, 8, none⟩) (by show w.heap.size ≤ w.heap.size + 2; omega) (.int .i64 la))
  have HK := Lib.hid (setA_srow (setA_srow (setA_srow (setA_srow HK.out (g := w.heap.size + 2) (k := 5) (u := .slice (some ⟨g3, 0, none⟩) n3 n3) (fun x e => by have := GHK.out x e; omega)) (g := w.heap.size + 2) (k := 6) (u := .int .i64 ht) (fun x e => by have := GHK.out x e; omega)) (g := w.heap.size + 2) (k := 7) (u := .string hk) (fun x e => by have := GHK.out x e; omega)) (g := w.heap.size + 2) (k := 8) (u := .int .i64 la) (fun x e => by have := GHK.out x e; omega))
  have HKB := Lib.hid (setA_sblk (setA_sblk (setA_sblk (setA_sblk HKB.out (g := w.heap.size + 2) (k := 5) (u := .slice (some ⟨g3, 0, none⟩) n3 n3) (by omega)) (g := w.heap.size + 2) (k := 6) (u := .int .i64 ht) (by omega)) (g := w.heap.size + 2) (k := 7) (u := .string hk) (by omega)) (g := w.heap.size + 2) (k := 8) (u := .int .i64 la) (by omega))
  have HU := Lib.hid (setA_lrow (setA_lrow (setA_lrow (setA_lrow HU.out (g := w.heap.size + 2) (k := 5) (u := .slice (some ⟨g3, 0, none⟩) n3 n3) (fun x e => by have := GHU.out x e; omega)) (g := w.heap.size + 2) (k := 6) (u := .int .i64 ht) (fun x e => by have := GHU.out x e; omega)) (g := w.heap.size + 2) (k := 7) (u := .string hk) (fun x e => by have := GHU.out x e; omega)) (g := w.heap.size + 2) (k := 8) (u := .int .i64 la) (fun x e => by have := GHU.out x e; omega))
  have HUB := Lib.hid (setA_lblk (setA_lblk (setA_lblk (setA_lblk HUB.out (g := w.heap.size + 2) (k := 5) (u := .slice (some ⟨g3, 0, none⟩) n3 n3) (by omega)) (g := w.heap.size + 2) (k := 6) (u := .int .i64 ht) (by omega)) (g := w.heap.size + 2) (k := 7) (u := .string hk) (by omega)) (g := w.heap.size + 2) (k := 8) (u := .int .i64 la) (by omega))
  have HH := Lib.hid (setA_srow (setA_srow (setA_srow (setA_srow HH.out (g := w.heap.size + 2) (k := 5) (u := .slice (some ⟨g3, 0, none⟩) n3 n3) (fun x e => by have := GHH.out x e; omega)) (g := w.heap.size + 2) (k := 6) (u := .int .i64 ht) (fun x e => by have := GHH.out x e; omega)) (g := w.heap.size + 2) (k := 7) (u := .string hk) (fun x e => by have := GHH.out x e; omega)) (g := w.heap.size + 2) (k := 8) (u := .int .i64 la) (fun x e => by have := GHH.out x e; omega))
  have HHB := Lib.hid (setA_sblk (setA_sblk (setA_sblk (setA_sblk HHB.out (g := w.heap.size + 2) (k := 5) (u := .slice (some ⟨g3, 0, none⟩) n3 n3) (by omega)) (g := w.heap.size + 2) (k := 6) (u := .int .i64 ht) (by omega)) (g := w.heap.size + 2) (k := 7) (u := .string hk) (by omega)) (g := w.heap.size + 2) (k := 8) (u := .int .i64 la) (by omega))
  obtain ⟨e0, e1, e2, e3, e4, e5, e6, e7, e8⟩ := vcell9 (varb9 HR.out (.string x) (.int .i64 i) (.slice (some ⟨g1, 0, none⟩) n1 n1) (.int .i64 kt) (.slice (some ⟨g2, 0, none⟩) n2 n2) (.slice (some ⟨g3, 0, none⟩) n3 n3) (.int .i64 ht) (.string hk) (.int .i64 la))
  refine bodyPost_ret (v := .agg #[.string x, .int .i64 i, .slice (some ⟨g1, 0, none⟩) n1 n1, .int .i64 kt, .slice (some ⟨g2, 0, none⟩) n2 n2, .slice (some ⟨g3, 0, none⟩) n3 n3, .int .i64 ht, .string hk, .int .i64 la]) (by simp [results, Try.results7, go_sem, e0, e1, e2, e3, e4, e5, e6, e7, e8]) rfl ⟨⟨some ⟨g1, 0, none⟩, n1, some ⟨g2, 0, none⟩, n2, some ⟨g3, 0, none⟩, n3⟩, rfl, ⟨srow9 HK.out _ (fun x e => by have := GHK.out x e; omega) (.string x) (.int .i64 i) (.slice (some ⟨g1, 0, none⟩) n1 n1) (.int .i64 kt) (.slice (some ⟨g2, 0, none⟩) n2 n2) (.slice (some ⟨g3, 0, none⟩) n3 n3) (.int .i64 ht) (.string hk) (.int .i64 la), lrow9 HU.out _ (fun x e => by have := GHU.out x e; omega) (.string x) (.int .i64 i) (.slice (some ⟨g1, 0, none⟩) n1 n1) (.int .i64 kt) (.slice (some ⟨g2, 0, none⟩) n2 n2) (.slice (some ⟨g3, 0, none⟩) n3 n3) (.int .i64 ht) (.string hk) (.int .i64 la), srow9 HH.out _ (fun x e => by have := GHH.out x e; omega) (.string x) (.int .i64 i) (.slice (some ⟨g1, 0, none⟩) n1 n1) (.int .i64 kt) (.slice (some ⟨g2, 0, none⟩) n2 n2) (.slice (some ⟨g3, 0, none⟩) n3 n3) (.int .i64 ht) (.string hk) (.int .i64 la)⟩, ⟨?_, ?_, ?_, ?_, ?_, ?_⟩, nine HB.out (by omega) (.string x) (.int .i64 i) (.slice (some ⟨g1, 0, none⟩) n1 n1) (.int .i64 kt) (.slice (some ⟨g2, 0, none⟩) n2 n2) (.slice (some ⟨g3, 0, none⟩) n3 n3) (.int .i64 ht) (.string hk) (.int .i64 la)⟩
  · dsimp only; rw [← HN1.out]; exact (sblk9 HKB.out _ (by omega) (.string x) (.int .i64 i) (.slice (some ⟨g1, 0, none⟩) n1 n1) (.int .i64 kt) (.slice (some ⟨g2, 0, none⟩) n2 n2) (.slice (some ⟨g3, 0, none⟩) n3 n3) (.int .i64 ht) (.string hk) (.int .i64 la)).lo (by omega)
  · dsimp only; rw [← HN2.out]; exact (lblk9 HUB.out _ (by omega) (.string x) (.int .i64 i) (.slice (some ⟨g1, 0, none⟩) n1 n1) (.int .i64 kt) (.slice (some ⟨g2, 0, none⟩) n2 n2) (.slice (some ⟨g3, 0, none⟩) n3 n3) (.int .i64 ht) (.string hk) (.int .i64 la)).lo (by omega)
  · dsimp only; rw [← HN3.out]; exact (sblk9 HHB.out _ (by omega) (.string x) (.int .i64 i) (.slice (some ⟨g1, 0, none⟩) n1 n1) (.int .i64 kt) (.slice (some ⟨g2, 0, none⟩) n2 n2) (.slice (some ⟨g3, 0, none⟩) n3 n3) (.int .i64 ht) (.string hk) (.int .i64 la)).lo (by omega)
  · intro x e1 e2
    have := LK.out x e1
    have := HU2.out x (by rw [HN2.out]; exact e2)
    omega
  · intro x e1 e2
    have := LK.out x e1
    have := HH2.out x (by rw [HN3.out]; exact e2)
    have := T3.out
    omega
  · intro x e1 e2
    have := LU.out x e1
    have := HH2.out x (by rw [HN3.out]; exact e2)
    omega
set_option maxRecDepth 20000 in
set_option maxHeartbeats 1600000 in
theorem eqEd_same (v : E) (A B : EA) (hk : v.ks.length ≤ 1048576) (hu : v.us.length ≤ 1048576) (hh : v.hl.length ≤ 1048576) (w : World) (ha : ERow w A v) (hb : ERow w B v) :
    Calls Try.prog 9 #[eV v A, eV v B] w fun e w' => e = .returned (.bool true) ∧ Below w.heap.size w w' := by
  obtain ⟨x, i, ks, kt, us, hl, ht, kp, la⟩ := v
  obtain ⟨a, c, b, d, g, f⟩ := A
  obtain ⟨a2, c2, b2, d2, g2, f2⟩ := B
  have hal := ((Below.refl _ w).alloc (Nat.le_refl _) (.cells #[.string x, .int .i64 i, .slice a ks.length c, .int .i64 kt, .slice b us.length d, .slice g hl.length f, .int .i64 ht, .string kp, .int .i64 la] 39)).alloc (by simp) (.cells #[.string x, .int .i64 i, .slice a2 ks.length c2, .int .i64 kt, .slice b2 us.length d2, .slice g2 hl.length f2, .int .i64 ht, .string kp, .int .i64 la] 39)
  have HC1 := Lib.hid (fun W => eqLine_same x i W)
  have HC2 := Lib.hid (fun W (h : Below w.heap.size w W) => eqKills_same a a2 c c2 ks kt hk W (ha.k.below h) (hb.k.below h))
  have HC3 := Lib.hid (fun W (h : Below w.heap.size w W) => eqLineS_same b b2 d d2 us hu W (ha.u.below h) (hb.u.below h))
  have HC4 := Lib.hid (fun W (h : Below w.heap.size w W) => eqHist_same g g2 f f2 hl ht kp hh W (ha.h.below h) (hb.h.below h))
  obtain ⟨n1, hn1⟩ : ∃ n, n = ks.length := ⟨_, rfl⟩
  obtain ⟨n2, hn2⟩ : ∃ n, n = us.length := ⟨_, rfl⟩
  obtain ⟨n3, hn3⟩ : ∃ n, n = hl.length := ⟨_, rfl⟩
  unfold eV
  dsimp only at *
  rw [← hn1] at HC2 hal ⊢
  rw [← hn2] at HC3 hal ⊢
  rw [← hn3] at HC4 hal ⊢
  have HB := Lib.hid hal
  clear ha hb hk hu hh hal hn1 hn2 hn3
  unfold lV kV hV at *
  go_enter Try.func9, Try.ntmps9
  go_wp2_with fail
  refine (HC1.out _).mono ?_
  rintro e w1 ⟨rfl, hb⟩
  obtain ⟨p1, _⟩ := keepC hb (g := w.heap.size) (by simp; omega)
  obtain ⟨q1, _⟩ := keepC hb (g := w.heap.size + 1) (by simp)
  have y1 : w.heap.size + 1 < w1.heap.size := by have := hb.size; simp at this; omega
  have y0 : w.heap.size < w1.heap.size := by omega
  have HB := Lib.hid (bthen HB.out hb (by simp; omega))
  clear hb
  go_wp2_with fail
  refine (HC2.out _ HB.out).mono ?_
  rintro e w2 ⟨rfl, hb⟩
  obtain ⟨p2, _⟩ := keepC hb (g := w.heap.size) y0
  obtain ⟨q2, _⟩ := keepC hb (g := w.heap.size + 1) y1
  have y1 : w.heap.size + 1 < w2.heap.size := Nat.lt_of_lt_of_le y1 hb.size
  have y0 : w.heap.size < w2.heap.size := by omega
  have HB := Lib.hid (bthen HB.out hb HB.out.size)
  clear hb
  go_wp2_with fail
  refine (HC3.out _ HB.out).mono ?_
  rintro e w3 ⟨rfl, hb⟩
  obtain ⟨p3, _⟩ := keepC hb (g := w.heap.size) y0
  obtain ⟨q3, _⟩ := keepC hb (g := w.heap.size + 1) y1
  have y1 : w.heap.size + 1 < w3.heap.size := Nat.lt_of_lt_of_le y1 hb.size
  have y0 : w.heap.size < w3.heap.size := by omega
  have HB := Lib.hid (bthen HB.out hb HB.out.size)
  clear hb
  go_wp2_with fail
  refine (HC4.out _ HB.out).mono ?_
  rintro e w4 ⟨rfl, hb⟩
  obtain ⟨p4, _⟩ := keepC hb (g := w.heap.size) y0
  obtain ⟨q4, _⟩ := keepC hb (g := w.heap.size + 1) y1
  have y1 : w.heap.size + 1 < w4.heap.size := Nat.lt_of_lt_of_le y1 hb.size
  have y0 : w.heap.size < w4.heap.size := by omega
  have HB := Lib.hid (bthen HB.out hb HB.out.size)
  clear hb
  go_wp2
  go_ret
  exact ⟨rfl, HB.out⟩
theorem gro_lo {W W' : World} {r : Option Nat} {n : Nat} {w : World} (h : Below n w W) (hg : W.grownBy W' r) (hn : n ≤ W.heap.size) (hr : ∀ j, r = some j → n ≤ j) : Below n w W' := h.grown hg hn hr
set_option maxRecDepth 20000 in
set_option maxHeartbeats 1600000 in
theorem markEd_any (B : Nat) (v : E) (A : EA) (p : Nat) (hp : 0 < p) (hk : p + v.ks.length ≤ 1048577) (hu : v.us.length ≤ 1048576) (hh : v.hl.length ≤ 1048576) (w : World) (h : EBlk B w A v) :
    Calls Try.prog 43 #[eV v A, .int .i64 p] w fun e w' => e = .returned (.int .i64 (p + eN v : Nat)) ∧ EMark p w' A v ∧ G3 w w' A v := by
  obtain ⟨x, i, ks, kt, us, hl, ht, kp, la⟩ := v
  obtain ⟨a, c, b, d, g, f⟩ := A
  obtain ⟨h1, h2, h3, h12, h13, h23⟩ := h
  have HN := Lib.hid (show p + eN ⟨x, i, ks, kt, us, hl, ht, kp, la⟩ = p + ks.length + 2 * us.length + hl.length by unfold eN; dsimp only; omega)
  rw [HN.out]
  clear HN
  unfold eV
  dsimp only at *
  have hal := (Below.refl _ w).alloc (Nat.le_refl _) (.cells #[.string x, .int .i64 i, .slice a ks.length c, .int .i64 kt, .slice b us.length d, .slice g hl.length f, .int .i64 ht, .string kp, .int .i64 la] 39)
  have HC1 := Lib.hid (fun W (hb : Below w.heap.size w W) => markKills_any B a ks.length c p kt hp (by omega) W (h1.below hb))
  have HC2 := Lib.hid (fun W (hb : LBlk B W b us.length) => markLineS_any B b us.length d (p + ks.length) (by omega) (by omega) W hb)
  have HC3 := Lib.hid (fun W (hb : SBlk B W g hl.length) => markHist_any B g hl.length f (p + ks.length + 2 * us.length) ht kp (by omega) (by omega) W hb)
  have H2 := Lib.hid (fun W (hb : Below w.heap.size w W) => h2.below hb)
  have H3 := Lib.hid (fun W (hb : Below w.heap.size w W) => h3.below hb)
  have HA := Lib.hid (show (∀ x, blkN a ks.length = some x → x < w.heap.size) ∧ (∀ x, blkN b us.length = some x → x < w.heap.size) ∧ (∀ x, blkN g hl.length = some x → x < w.heap.size) from by
    refine ⟨fun x e => ?_, fun x e => ?_, fun x e => ?_⟩
    · unfold blkN at e
      split at e
      · cases e
      · rename_i hz
        obtain ⟨q, o, rfl, _, M, hM, _⟩ := h1 hz
        have : q = x := by simpa [blockOf] using e
        rw [← this]
        exact (Array.getElem?_eq_some_iff.1 hM).1
    · unfold blkN at e
      split at e
      · cases e
      · rename_i hz
        obtain ⟨q, o, rfl, _, M, hM, _⟩ := h2 hz
        have : q = x := by simpa [blockOf] using e
        rw [← this]
        exact (Array.getElem?_eq_some_iff.1 hM).1
    · unfold blkN at e
      split at e
      · cases e
      · rename_i hz
        obtain ⟨q, o, rfl, _, M, hM, _⟩ := h3 hz
        have : q = x := by simpa [blockOf] using e
        rw [← this]
        exact (Array.getElem?_eq_some_iff.1 hM).1)
  have HD := Lib.hid (show (∀ x, blkN a ks.length = some x → blkN b us.length ≠ some x) ∧ (∀ x, blkN a ks.length = some x → blkN g hl.length ≠ some x) ∧ (∀ x, blkN b us.length = some x → blkN g hl.length ≠ some x) from ⟨h12, h13, h23⟩)
  have HL1 := Lib.hid (show (markS p ks.length).length = ks.length by simp [markS])
  have HL2 := Lib.hid (show (markL (p + ks.length) us.length).length = us.length by simp [markL])
  have HB := Lib.hid hal
  clear h1 h2 h3 h12 h13 h23 hal
  obtain ⟨n1, hn1⟩ : ∃ n, n = ks.length := ⟨_, rfl⟩
  obtain ⟨n2, hn2⟩ : ∃ n, n = us.length := ⟨_, rfl⟩
  obtain ⟨n3, hn3⟩ : ∃ n, n = hl.length := ⟨_, rfl⟩
  have HNN := Lib.hid (show n1 = ks.length ∧ n2 = us.length ∧ n3 = hl.length from ⟨hn1, hn2, hn3⟩)
  rw [← hn1, ← hn2, ← hn3] at HC3 HB HA HD
  rw [← hn1, ← hn2] at HC2 HL2
  rw [← hn1] at HC1 HL1 hk
  rw [← hn2] at hu H2
  rw [← hn3] at hh H3
  rw [← hn1, ← hn2, ← hn3]
  clear hn1 hn2 hn3
  unfold kV hV at *
  go_enter Try.func43, Try.ntmps43
  go_wp2_with fail
  refine (HC1.out _ HB.out).mono ?_
  rintro e w1 ⟨rfl, hr, hg⟩
  have hg0 := grown_trans (grown_below (r := blkN a n1) HB.out) hg
  have ne0 : ¬ ∃ x, blkN a n1 = some x ∧ x = w.heap.size := fun ⟨x, e1, e2⟩ => by have := HA.out.1 x e1; omega
  have p1 : ∀ o u, (w.alloc (.cells #[.string x, .int .i64 i, .slice a n1 c, .int .i64 kt, .slice b n2 d, .slice g n3 f, .int .i64 ht, .string kp, .int .i64 la] 39)).cell? ⟨w.heap.size, o, none⟩ = some u → w1.cell? ⟨w.heap.size, o, none⟩ = some u := fun o u hu => by
    rw [hg.cell_far ⟨w.heap.size, o, none⟩ (by simp) (fun e => ne0 ⟨_, e.symm, rfl⟩)]
    exact hu
  have k4 := p1 4 (.slice b n2 d) (by simp [go_sem])
  have k5 := p1 5 (.slice g n3 f) (by simp [go_sem])
  have k6 := p1 6 (.int .i64 ht) (by simp [go_sem])
  have k7 := p1 7 (.string kp) (by simp [go_sem])
  have HR1 := Lib.hid hr
  have HG1 := Lib.hid hg0
  have HU1 := Lib.hid (LBlk.off (H2.out _ HB.out) hg (fun x e1 e2 => HD.out.1 x e2 e1))
  have HH1 := Lib.hid (SBlk.off (H3.out _ HB.out) hg (fun x e1 e2 => HD.out.2.1 x e2 e1))
  clear hr hg hg0 p1
  go_wp2_with fail
  refine (HC2.out _ HU1.out).mono ?_
  rintro e w2 ⟨rfl, hr, hg⟩
  have z1 : w.heap.size < w1.heap.size := blk_lt k5
  have ne1 : some w.heap.size ≠ blkN b n2 := fun e => by have := HA.out.2.1 _ e.symm; omega
  have k5 := (hg.cell_far ⟨w.heap.size, 5, none⟩ z1 ne1).trans k5
  have k6 := (hg.cell_far ⟨w.heap.size, 6, none⟩ z1 ne1).trans k6
  have k7 := (hg.cell_far ⟨w.heap.size, 7, none⟩ z1 ne1).trans k7
  have HR1 := Lib.hid (SRow.off HR1.out hg (fun x e1 e2 => HD.out.1 x (by rw [← HL1.out]; exact e1) e2))
  have HR2 := Lib.hid hr
  have HG2 := Lib.hid hg
  have HH2 := Lib.hid (SBlk.off HH1.out hg (fun x e1 e2 => HD.out.2.2 x e2 e1))
  clear hr hg
  go_wp2_with fail
  refine (HC3.out _ HH2.out).mono ?_
  rintro e w3 ⟨rfl, hr, hg⟩
  have HR1 := Lib.hid (SRow.off HR1.out hg (fun x e1 e2 => HD.out.2.1 x (by rw [← HL1.out]; exact e1) e2))
  have HR2 := Lib.hid (LRow.off HR2.out hg (fun x e1 e2 => HD.out.2.2 x (by rw [← HL2.out]; exact e1) e2))
  have HR3 := Lib.hid hr
  have HG3 := Lib.hid hg
  clear hr hg
  go_wp2
  go_ret
  obtain ⟨rfl, rfl, rfl⟩ := HNN.out
  exact ⟨rfl, ⟨HR1.out, HR2.out, HR3.out⟩, ⟨w1, w2, HG1.out, HG2.out, HG3.out⟩⟩
set_option maxRecDepth 20000 in
set_option maxHeartbeats 1600000 in
theorem heldEd_any (v : E) (A : EA) (p : Nat) (hp : 0 < p) (hk : p + v.ks.length ≤ 1048577) (hu : v.us.length ≤ 1048576) (hh : v.hl.length ≤ 1048576) (w : World) (h : EMark p w A v) :
    Calls Try.prog 44 #[eV v A, .int .i64 p] w fun e w' => e = .returned (.int .i64 (p + eN v : Nat)) ∧ Below w.heap.size w w' := by
  obtain ⟨x, i, ks, kt, us, hl, ht, kp, la⟩ := v
  obtain ⟨a, c, b, d, g, f⟩ := A
  obtain ⟨h1, h2, h3⟩ := h
  have HN := Lib.hid (show p + eN ⟨x, i, ks, kt, us, hl, ht, kp, la⟩ = p + ks.length + 2 * us.length + hl.length by unfold eN; dsimp only; omega)
  rw [HN.out]
  clear HN
  unfold eV
  dsimp only at *
  have hal := (Below.refl _ w).alloc (Nat.le_refl _) (.cells #[.string x, .int .i64 i, .slice a ks.length c, .int .i64 kt, .slice b us.length d, .slice g hl.length f, .int .i64 ht, .string kp, .int .i64 la] 39)
  have HC1 := Lib.hid (fun W (hb : Below w.heap.size w W) => heldKills_any a ks.length c p kt hp (by omega) W (h1.below hb))
  have HC2 := Lib.hid (fun W (hb : Below w.heap.size w W) => heldLineS_any b us.length d (p + ks.length) (by omega) (by omega) W (h2.below hb))
  have HC3 := Lib.hid (fun W (hb : Below w.heap.size w W) => heldHist_any g hl.length f (p + ks.length + 2 * us.length) ht kp (by omega) (by omega) W (h3.below hb))
  have HB := Lib.hid hal
  clear h1 h2 h3 hal
  obtain ⟨n1, hn1⟩ : ∃ n, n = ks.length := ⟨_, rfl⟩
  obtain ⟨n2, hn2⟩ : ∃ n, n = us.length := ⟨_, rfl⟩
  obtain ⟨n3, hn3⟩ : ∃ n, n = hl.length := ⟨_, rfl⟩
  rw [← hn1, ← hn2, ← hn3] at HC3 HB
  rw [← hn1, ← hn2] at HC2
  rw [← hn1] at HC1
  rw [← hn1, ← hn2, ← hn3]
  clear hn1 hn2 hn3 hk hu hh
  obtain ⟨m1, hm1⟩ : ∃ m, m = p + n1 := ⟨_, rfl⟩
  rw [← hm1] at HC1 HC2 HC3 ⊢
  obtain ⟨m2, hm2⟩ : ∃ m, m = m1 + 2 * n2 := ⟨_, rfl⟩
  rw [← hm2] at HC2 HC3 ⊢
  obtain ⟨m3, hm3⟩ : ∃ m, m = m2 + n3 := ⟨_, rfl⟩
  rw [← hm3] at HC3 ⊢
  clear hm1 hm2 hm3
  have s1 : ¬ (m1 : Int) < 0 := by omega
  have s2 : ¬ (m2 : Int) < 0 := by omega
  have s3 : ¬ (m3 : Int) < 0 := by omega
  unfold kV hV at *
  go_enter Try.func44, Try.ntmps44
  go_wp2_with fail
  refine (HC1.out _ HB.out).mono ?_
  rintro e w1 ⟨rfl, hb⟩
  obtain ⟨p1, _⟩ := keepC hb (g := w.heap.size) (by simp)
  have y1 : w.heap.size < w1.heap.size := by have := hb.size; simp at this; omega
  have HB := Lib.hid (bthen HB.out hb (by simp))
  clear hb
  go_wp2_with fail
  refine (HC2.out _ HB.out).mono ?_
  rintro e w2 ⟨rfl, hb⟩
  obtain ⟨p2, _⟩ := keepC hb (g := w.heap.size) y1
  have HB := Lib.hid (bthen HB.out hb HB.out.size)
  clear hb
  go_wp2_with fail
  refine (HC3.out _ HB.out).mono ?_
  rintro e w3 ⟨rfl, hb⟩
  have HB := Lib.hid (bthen HB.out hb HB.out.size)
  clear hb
  go_wp2
  go_ret
  exact ⟨rfl, HB.out⟩
/-- an EdOut: an editor, bell, done, text, code -/
structure EO where
  e : E
  bell : Bool
  dn : Bool
  tx : ByteArray
  co : Int
def oV (o : EO) (A : EA) : Value := .agg #[.string o.e.x, .int .i64 o.e.i, .slice A.a o.e.ks.length A.c, .int .i64 o.e.kt, .slice A.b o.e.us.length A.d, .slice A.g o.e.hl.length A.f, .int .i64 o.e.ht, .string o.e.hk, .int .i64 o.e.la, .bool o.bell, .bool o.dn, .string o.tx, .int .i64 o.co]
set_option maxRecDepth 20000 in
set_option maxHeartbeats 1600000 in
theorem eqEdOut_same (o : EO) (A B : EA) (hk : o.e.ks.length ≤ 1048576) (hu : o.e.us.length ≤ 1048576) (hh : o.e.hl.length ≤ 1048576) (w : World) (ha : ERow w A o.e) (hb : ERow w B o.e) :
    Calls Try.prog 14 #[oV o A, oV o B] w fun e w' => e = .returned (.bool true) ∧ Below w.heap.size w w' := by
  obtain ⟨⟨x, i, ks, kt, us, hl, ht, kp, la⟩, bell, dn, tx, co⟩ := o
  obtain ⟨a, c, b, d, g, f⟩ := A
  obtain ⟨a2, c2, b2, d2, g2, f2⟩ := B
  have HC := Lib.hid (fun W (h : Below w.heap.size w W) => eqEd_same ⟨x, i, ks, kt, us, hl, ht, kp, la⟩ ⟨a, c, b, d, g, f⟩ ⟨a2, c2, b2, d2, g2, f2⟩ hk hu hh W (ha.below h) (hb.below h))
  have hal := ((Below.refl _ w).alloc (Nat.le_refl _) (.cells #[.string x, .int .i64 i, .slice a ks.length c, .int .i64 kt, .slice b us.length d, .slice g hl.length f, .int .i64 ht, .string kp, .int .i64 la, .bool bell, .bool dn, .string tx, .int .i64 co] 45)).alloc (by simp) (.cells #[.string x, .int .i64 i, .slice a2 ks.length c2, .int .i64 kt, .slice b2 us.length d2, .slice g2 hl.length f2, .int .i64 ht, .string kp, .int .i64 la, .bool bell, .bool dn, .string tx, .int .i64 co] 45)
  have HB := Lib.hid hal
  unfold oV
  unfold eV at HC
  dsimp only at *
  obtain ⟨n1, hn1⟩ : ∃ n, n = ks.length := ⟨_, rfl⟩
  obtain ⟨n2, hn2⟩ : ∃ n, n = us.length := ⟨_, rfl⟩
  obtain ⟨n3, hn3⟩ : ∃ n, n = hl.length := ⟨_, rfl⟩
  rw [← hn1, ← hn2, ← hn3] at HC HB ⊢
  clear hn1 hn2 hn3 hk hu hh ha hb hal
  go_enter Try.func14, Try.ntmps14
  go_wp2_with fail
  refine (HC.out _ HB.out).mono ?_
  rintro e w1 ⟨rfl, hb⟩
  obtain ⟨p1, _⟩ := keepC hb (g := w.heap.size) (by simp; omega)
  obtain ⟨q1, _⟩ := keepC hb (g := w.heap.size + 1) (by simp)
  have y1 : w.heap.size + 1 < w1.heap.size := by have := hb.size; simp at this; omega
  have y0 : w.heap.size < w1.heap.size := by omega
  have HB := Lib.hid (bthen HB.out hb (by simp; omega))
  clear hb
  go_wp2
  go_ret
  exact ⟨rfl, HB.out⟩
set_option maxRecDepth 20000 in
theorem markOut_any (B : Nat) (o : EO) (A : EA) (p : Nat) (hp : 0 < p) (hk : p + o.e.ks.length ≤ 1048577) (hu : o.e.us.length ≤ 1048576) (hh : o.e.hl.length ≤ 1048576) (w : World) (h : EBlk B w A o.e) :
    Calls Try.prog 17 #[oV o A, .int .i64 p] w fun e w' => e = .returned (.int .i64 (p + eN o.e : Nat)) ∧ EMark p w' A o.e ∧ ∃ W, Below w.heap.size w W ∧ G3 W w' A o.e := by
  obtain ⟨⟨x, i, ks, kt, us, hl, ht, kp, la⟩, bell, dn, tx, co⟩ := o
  obtain ⟨a, c, b, d, g, f⟩ := A
  have HC := Lib.hid (fun W (hb : Below w.heap.size w W) => markEd_any B ⟨x, i, ks, kt, us, hl, ht, kp, la⟩ ⟨a, c, b, d, g, f⟩ p hp hk hu hh W (h.below hb))
  have hal := (Below.refl _ w).alloc (Nat.le_refl _) (.cells #[.string x, .int .i64 i, .slice a ks.length c, .int .i64 kt, .slice b us.length d, .slice g hl.length f, .int .i64 ht, .string kp, .int .i64 la, .bool bell, .bool dn, .string tx, .int .i64 co] 45)
  have HB := Lib.hid hal
  obtain ⟨V, hV⟩ : ∃ V, V = (⟨x, i, ks, kt, us, hl, ht, kp, la⟩ : E) := ⟨_, rfl⟩
  obtain ⟨M, hM⟩ : ∃ M, M = p + eN V := ⟨_, rfl⟩
  have HVV := Lib.hid hV
  unfold eV at HC
  unfold oV
  dsimp only at *
  rw [← hV] at HC ⊢
  rw [← hM] at HC ⊢
  obtain ⟨n1, hn1⟩ : ∃ n, n = ks.length := ⟨_, rfl⟩
  obtain ⟨n2, hn2⟩ : ∃ n, n = us.length := ⟨_, rfl⟩
  obtain ⟨n3, hn3⟩ : ∃ n, n = hl.length := ⟨_, rfl⟩
  rw [← hn1, ← hn2, ← hn3] at HC HB ⊢
  clear hn1 hn2 hn3 hk hu hh h hal hV hM
  go_enter Try.func17, Try.ntmps17
  go_wp2_with fail
  refine (HC.out _ HB.out).mono ?_
  rintro e w1 ⟨rfl, hm, hg⟩
  have HM := Lib.hid hm
  have HG := Lib.hid hg
  clear hm hg
  go_wp2
  go_ret
  exact ⟨rfl, HM.out, _, HB.out, HG.out⟩
set_option maxRecDepth 20000 in
theorem heldOut_any (o : EO) (A : EA) (p : Nat) (hp : 0 < p) (hk : p + o.e.ks.length ≤ 1048577) (hu : o.e.us.length ≤ 1048576) (hh : o.e.hl.length ≤ 1048576) (w : World) (h : EMark p w A o.e) :
    Calls Try.prog 18 #[oV o A, .int .i64 p] w fun e w' => e = .returned (.int .i64 (p + eN o.e : Nat)) ∧ Below w.heap.size w w' := by
  obtain ⟨⟨x, i, ks, kt, us, hl, ht, kp, la⟩, bell, dn, tx, co⟩ := o
  obtain ⟨a, c, b, d, g, f⟩ := A
  have HC := Lib.hid (fun W (hb : Below w.heap.size w W) => heldEd_any ⟨x, i, ks, kt, us, hl, ht, kp, la⟩ ⟨a, c, b, d, g, f⟩ p hp hk hu hh W (h.below hb))
  have hal := (Below.refl _ w).alloc (Nat.le_refl _) (.cells #[.string x, .int .i64 i, .slice a ks.length c, .int .i64 kt, .slice b us.length d, .slice g hl.length f, .int .i64 ht, .string kp, .int .i64 la, .bool bell, .bool dn, .string tx, .int .i64 co] 45)
  have HB := Lib.hid hal
  obtain ⟨M, hM⟩ : ∃ M, M = p + eN (⟨x, i, ks, kt, us, hl, ht, kp, la⟩ : E) := ⟨_, rfl⟩
  have s1 : ¬ (M : Int) < 0 := by omega
  unfold eV at HC
  unfold oV
  dsimp only at *
  rw [← hM] at HC ⊢
  obtain ⟨n1, hn1⟩ : ∃ n, n = ks.length := ⟨_, rfl⟩
  obtain ⟨n2, hn2⟩ : ∃ n, n = us.length := ⟨_, rfl⟩
  obtain ⟨n3, hn3⟩ : ∃ n, n = hl.length := ⟨_, rfl⟩
  rw [← hn1, ← hn2, ← hn3] at HC HB ⊢
  clear hn1 hn2 hn3 hk hu hh h hal hM
  go_enter Try.func18, Try.ntmps18
  go_wp2_with fail
  refine (HC.out _ HB.out).mono ?_
  rintro e w1 ⟨rfl, hb⟩
  have HB := Lib.hid (bthen HB.out hb (by simp))
  clear hb
  go_wp2
  go_ret
  exact ⟨rfl, HB.out⟩
end Go.Proofs.Ytcgaiegfagckcaa.ed
