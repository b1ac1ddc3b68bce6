/-
  The program's KillPut, of a text of at most 8000 bytes. For every Kills of at most a million texts.
-/
import Derived.Test.YtgmbpohbjhaghaaKillBehind
import Derived.Test.YtgmbpohbjhaghaaKillLaws
namespace Go.Proofs.Ytgmbpohbjhaghaa.kill
open Go.ChangeShapes Go.WideShapes Go.ChangeAt Go.RowKit
open Go.Proofs.Ytgmbpohbjhaghaa.strs Go.Proofs.Ytgmbpohbjhaghaa.line Go.Proofs.Ytgmbpohbjhaghaa.join
theorem mid_alone {l : List ByteArray} {x : ByteArray} {more : Int} (h : more = 0 ∨ l.length = 0) : midV l x more = l ++ [x] := by
  have hj : joinV l x more = ⟨#[]⟩ := by
    unfold joinV
    by_cases hl : l.length = 0
    · rw [if_pos hl]
    · rw [if_neg hl, if_neg (by omega), if_neg (by omega)]
  unfold midV
  rw [hj, if_neg (by rw [goodB, show ByteArray.size (⟨#[]⟩ : ByteArray) = 0 from rfl]; simp)]
theorem join_grown {l : List ByteArray} {x : ByteArray} {more : Int} (h : more ≠ 0) (hl : 0 < l.length) : joinV l x more = if 0 < more then l[l.length - 1] ++ x else x ++ l[l.length - 1] := by
  unfold joinV
  rw [if_neg (by omega), List.getElem?_eq_getElem (by omega)]
  split
  · rfl
  · rw [if_pos (by omega)]; rfl
theorem set_last {l : List ByteArray} {y : ByteArray} (hl : 0 < l.length) : l.set (l.length - 1) y = l.take (l.length - 1) ++ [y] := by
  apply List.ext_getElem
  · simp; omega
  · intro i h1 h2
    rw [List.getElem_set]
    by_cases e : l.length - 1 = i
    · rw [if_pos e, List.getElem_append_right (by simp; omega)]
      simp
    · rw [if_neg e, List.getElem_append_left (by simp at h1 h2 ⊢; omega), List.getElem_take]
theorem mid_whole {l : List ByteArray} {x : ByteArray} {more : Int} (hl : 0 < l.length) (hg : goodB (joinV l x more) = true) : midV l x more = l.take (l.length - 1) ++ [joinV l x more] := by
  unfold midV
  rw [if_pos hg, set_last hl]
theorem mid_new {l : List ByteArray} {x : ByteArray} {more : Int} (hg : goodB (joinV l x more) = false) : midV l x more = l ++ [x] := by
  unfold midV
  rw [hg]; rfl
theorem heldPut_alone (a : Option Addr) (C : Nat) (l : List ByteArray) (t : Int) (x : ByteArray) (more : Int) (h0 : more = 0 ∨ l.length = 0) (hn : l.length ≤ 5) (hC : l.length ≤ C) (hz : a = none → l = []) (w : World) (h : SRow w a l) :
    Calls Try.prog 64 #[kV a l.length C t, .string x, .int .i64 more] w fun e w' => ∃ a' c', e = .returned (kV a' (trimV (l ++ [x])).length c' ((trimV (l ++ [x])).length - 1)) ∧ SRow w' a' (trimV (l ++ [x])) ∧ SBlk w.heap.size w' a' (trimV (l ++ [x])).length ∧ Below w.heap.size w w' := by
  have hal := ((((Below.refl _ w).alloc (Nat.le_refl _) (.cells #[.slice a l.length C, .int .i64 t] 80)).alloc (by simp) (.cells #[.slice none 0 0, .int .i64 0] 80))).alloc (by simp; omega) (.cells #[.slice a l.length C, .int .i64 t] 78)
  have HC := Lib.hid (ringPut_any a C l t x hn hC hz _ (h.below hal))
  have hlen := trim_len (x := x) hn
  obtain ⟨T, hT⟩ : ∃ T, T = trimV (l ++ [x]) := ⟨_, rfl⟩
  obtain ⟨q, hq⟩ : ∃ q, q = T.length := ⟨_, rfl⟩
  obtain ⟨n, hn'⟩ : ∃ n, n = l.length := ⟨_, rfl⟩
  have HQ := Lib.hid hq
  rw [← hT, ← hq, ← hn'] at HC
  rw [← hT, ← hq] at hlen ⊢
  rw [← hn'] at hal h0 hn ⊢
  have HB := Lib.hid hal
  unfold kV at HC ⊢
  clear hal h hz hC hn' hT hq
  by_cases hm : more = 0
  · have hbm : (more != 0) = false := by simpa using hm
    subst hm
    clear h0
    go_enter Try.func64, Try.ntmps64
    go_wp2_with fail
    refine HC.out.mono ?_
    rintro e w1 ⟨a', c', rfl, hr, hs, hb⟩
    have HR1 := Lib.hid hr
    have HS1 := Lib.hid (SBlk.lo (b' := w.heap.size) hs (by simp <;> omega))
    have hne := hs.ne (b := w.heap.size + 1) (by simp)
    have HNF := Lib.hid hne
    have HNE := Lib.hid (show T ≠ [] → blockOf a' ≠ some (w.heap.size + 1) from fun e => hne (fun e2 => e (List.eq_nil_of_length_eq_zero (by rw [← HQ.out]; exact e2))))
    have HX1 := Lib.hid (bthen HB.out hb (by simp; omega))
    obtain ⟨p1, q1⟩ := keepC hb (g := w.heap.size + 1) (by simp)
    clear hr hs hb hne
    go_wp2
    exact bodyPost_ret (v := kV a' q c' ((q : Int) - 1)) (by simp [kV, results, Try.results64, go_sem, p1]) rfl ⟨a', c', rfl, (HR1.out.setA HNE.out).setA HNE.out, (HS1.out.setA HNF.out).setA HNF.out, (HX1.out.setCell (p := ⟨w.heap.size + 1, 0, none⟩) (by show w.heap.size ≤ w.heap.size + 1; omega) _).setCell (p := ⟨w.heap.size + 1, 1, none⟩) (by show w.heap.size ≤ w.heap.size + 1; omega) _⟩
  · have hbm : (more != 0) = true := by simpa using hm
    obtain rfl : n = 0 := by omega
    clear h0 hm
    go_enter Try.func64, Try.ntmps64
    go_wp2_with fail
    refine HC.out.mono ?_
    rintro e w1 ⟨a', c', rfl, hr, hs, hb⟩
    have HR1 := Lib.hid hr
    have HS1 := Lib.hid (SBlk.lo (b' := w.heap.size) hs (by simp <;> omega))
    have hne := hs.ne (b := w.heap.size + 1) (by simp)
    have HNF := Lib.hid hne
    have HNE := Lib.hid (show T ≠ [] → blockOf a' ≠ some (w.heap.size + 1) from fun e => hne (fun e2 => e (List.eq_nil_of_length_eq_zero (by rw [← HQ.out]; exact e2))))
    have HX1 := Lib.hid (bthen HB.out hb (by simp; omega))
    obtain ⟨p1, q1⟩ := keepC hb (g := w.heap.size + 1) (by simp)
    clear hr hs hb hne
    go_wp2
    exact bodyPost_ret (v := kV a' q c' ((q : Int) - 1)) (by simp [kV, results, Try.results64, go_sem, p1]) rfl ⟨a', c', rfl, (HR1.out.setA HNE.out).setA HNE.out, (HS1.out.setA HNF.out).setA HNF.out, (HX1.out.setCell (p := ⟨w.heap.size + 1, 0, none⟩) (by show w.heap.size ≤ w.heap.size + 1; omega) _).setCell (p := ⟨w.heap.size + 1, 1, none⟩) (by show w.heap.size ≤ w.heap.size + 1; omega) _⟩
theorem slice_to (a : Option Addr) (n C m : Nat) (hm : m < n) (hC : n ≤ C) : ∀ W, (Instr.slice 23 (.slice a n C) none (some (.int .i64 (m : Int))) none).run Try.prog W = .ok (.slice a m C) W := fun W => by
  have hsz : (sizeOf (Try.prog.elem 23)).run Try.prog W = .ok 1 W := by
    rw [show Try.prog.elem 23 = 9 from by kernel_rfl]; exact Try.sizeOf9 W
  rw [run_slice_h W 23 a n C (by rw [show Try.prog.elem 23 = 9 from by kernel_rfl]; exact Try.underlying23) .i64 m (by omega) (by omega), hsz]
  simp [Result.andThen, sliced, Addr.add]
set_option maxRecDepth 20000 in
set_option maxHeartbeats 1600000 in
theorem heldPut_joined (a : Option Addr) (C : Nat) (l : List ByteArray) (t : Int) (x : ByteArray) (more : Int) (hm : more ≠ 0) (hpos : 0 < l.length) (hxs : x.size ≤ 1000000) (hl : ∀ s ∈ l, s.size ≤ 1000000) (hx0 : x.size ≠ 0) (hn : l.length ≤ 5) (hC : l.length ≤ C) (hz : a = none → l = []) (w : World) (h : SRow w a l) :
    Calls Try.prog 64 #[kV a l.length C t, .string x, .int .i64 more] w fun e w' => ∃ a' c', e = .returned (kV a' (trimV (midV l x more)).length c' ((trimV (midV l x more)).length - 1)) ∧ SRow w' a' (trimV (midV l x more)) ∧ SBlk w.heap.size w' a' (trimV (midV l x more)).length ∧ Below w.heap.size w w' := by
  obtain ⟨m, hmm⟩ : ∃ m, l.length = m + 1 := ⟨l.length - 1, by omega⟩
  have hml : m < l.length := by omega
  obtain ⟨g, o, rfl, hcell⟩ := h.at hml
  have hal := ((((Below.refl _ w).alloc (Nat.le_refl _) (.cells #[.slice (some ⟨g, o, none⟩) (m + 1) C, .int .i64 t] 80)).alloc (by simp) (.cells #[.slice none 0 0, .int .i64 0] 80))).alloc (by simp; omega) (.cells #[.slice (some ⟨g, o, none⟩) (m + 1) C, .int .i64 t] 78)
  obtain ⟨y, hy⟩ : ∃ y, y = l[m] := ⟨_, rfl⟩
  have hj : joinV l x more = if 0 < more then y ++ x else x ++ y := by
    rw [join_grown hm hpos, hy]
    have e : l.length - 1 = m := by omega
    simp only [e]
  have hys : y.size ≤ 1000000 := by rw [hy]; exact hl _ (List.getElem_mem _)
  obtain ⟨J, hJ⟩ : ∃ J, J = joinV l x more := ⟨_, rfl⟩
  have hJs : J.size = x.size + y.size := by rw [hJ, hj]; split <;> simp <;> omega
  have hg : goodB J = textB J := by unfold goodB; rw [decide_eq_true (by omega), Bool.and_true]
  have HG := Lib.hid (fun W => grown_any y x more (by omega) (by omega) W)
  rw [← hj, ← hJ] at HG
  have HLA := Lib.hid (fun a C t W => last_any a (m + 1) C t (by omega) W)
  have HLV := Lib.hid (show lastT (m + 1) = (m : Int) by unfold lastT; omega)
  have HTR := Lib.hid (implRight_any J (by unfold maxLen; omega))
  rw [← hy] at hcell
  have HCE := Lib.hid (show ∀ W, Below w.heap.size w W → W.cell? ⟨g, o + m, none⟩ = some (.string y) from fun W hb => by rw [hb.cell (p := ⟨g, o + m, none⟩) (blk_lt hcell)]; exact hcell)
  have hbm : (more != 0) = true := by simpa using hm
  have HROW := Lib.hid (fun W (hb : Below w.heap.size w W) => h.below hb)
  have HPN := Lib.hid (fun W (h : SRow W (some ⟨g, o, none⟩) l) => ringPut_any (some ⟨g, o, none⟩) C l t x hn hC hz W h)
  have HPJ := Lib.hid (fun W (h : SRow W (some ⟨g, o, none⟩) l) => by
    have h2 := ringPut_any (some ⟨g, o, none⟩) C (l.take m) t J (by rw [List.length_take]; omega) (by rw [List.length_take]; omega) (by intro e; cases e) W (h.take m)
    rw [show (l.take m).length = m by rw [List.length_take]; omega] at h2
    exact h2)
  have hmC : (m : Int) ≤ C := by omega
  have hm4 : m ≤ 4 := by omega
  rw [hmm]
  have HB := Lib.hid hal
  have hgz := blk_lt hcell
  cases hT : textB J
  · have hmid : midV l x more = l ++ [x] := mid_new (by rw [← hJ, hg, hT])
    have hlen := trim_len (x := x) hn
    rw [hmid]
    rw [hT] at HTR
    rw [hmm] at HPN
    obtain ⟨T, hT2⟩ : ∃ T, T = trimV (l ++ [x]) := ⟨_, rfl⟩
    obtain ⟨q, hq⟩ : ∃ q, q = T.length := ⟨_, rfl⟩
    have HQ := Lib.hid hq
    rw [← hT2, ← hq] at HPN hlen ⊢
    unfold kV at HPN HLA ⊢
    clear hq hT2 hmid hT hg hJs hJ hj hy hal hm hpos hl hn hC hz h hmm hml hcell HPJ
    go_enter Try.func64, Try.ntmps64
    go_wp2_with fail
    refine (HLA.out _ _ _ _).mono ?_
    rintro e w1 ⟨rfl, hb⟩
    have HX1 := Lib.hid (bthen HB.out hb (by simp; omega))
    obtain ⟨p0, p0f⟩ := keepC hb (g := w.heap.size) (by first | (simp; done) | (simp; omega))
    obtain ⟨p1, p1f⟩ := keepC hb (g := w.heap.size + 1) (by first | (simp; done) | (simp; omega))
    obtain ⟨p2, p2f⟩ := keepC hb (g := w.heap.size + 1 + 1) (by first | (simp; done) | (simp; omega))
    have z1 : w.heap.size + 1 + 1 < w1.heap.size := by have := hb.size; simp at this; omega
    have c0 : w1.cell? ⟨w.heap.size, 0, none⟩ = some (.slice (some ⟨g, o, none⟩) (m + 1) C) := by rw [p0 0]; simp [go_sem]
    have c1 : w1.cell? ⟨w.heap.size, 1, none⟩ = some (.int .i64 t) := by rw [p0 1]; simp [go_sem]
    have d0 : w1.cell? ⟨w.heap.size + 1, 0, none⟩ = some (.slice none 0 0) := by rw [p1 0]; simp [go_sem]
    have d1 : w1.cell? ⟨w.heap.size + 1, 1, none⟩ = some (.int .i64 0) := by rw [p1 1]; simp [go_sem]
    have e0 : w1.cell? ⟨w.heap.size + 1 + 1, 0, none⟩ = some (.slice (some ⟨g, o, none⟩) (m + 1) C) := by rw [p2 0]; simp [go_sem]
    have e1 : w1.cell? ⟨w.heap.size + 1 + 1, 1, none⟩ = some (.int .i64 t) := by rw [p2 1]; simp [go_sem]
    have fd0 : w1.frozen? ⟨w.heap.size + 1, 0, none⟩ = false := by rw [p1f 0]; simp [go_sem]
    have fd1 : w1.frozen? ⟨w.heap.size + 1, 1, none⟩ = false := by rw [p1f 1]; simp [go_sem]
    have fe0 : w1.frozen? ⟨w.heap.size + 1 + 1, 0, none⟩ = false := by rw [p2f 0]; simp [go_sem]
    have fe1 : w1.frozen? ⟨w.heap.size + 1 + 1, 1, none⟩ = false := by rw [p2f 1]; simp [go_sem]
    clear hb p0 p1 p2 p0f p1f p2f
    have hv := HLV.out
    have hcy := HCE.out _ HX1.out
    rw [HLV.out]
    clear hv
    go_wp2_with fail
    refine (HG.out _).mono ?_
    rintro e w2 ⟨rfl, hb⟩
    clear hcy
    have HX2 := Lib.hid (bthen HX1.out hb (by exact HX1.out.size))
    obtain ⟨p0, p0f⟩ := keepC hb (g := w.heap.size) (by omega)
    obtain ⟨p1, p1f⟩ := keepC hb (g := w.heap.size + 1) (by omega)
    obtain ⟨p2, p2f⟩ := keepC hb (g := w.heap.size + 1 + 1) (by omega)
    have z2 : w.heap.size + 1 + 1 < w2.heap.size := Nat.lt_of_lt_of_le z1 hb.size
    have c0 := (p0 0).trans c0
    have c1 := (p0 1).trans c1
    have d0 := (p1 0).trans d0
    have d1 := (p1 1).trans d1
    have e0 := (p2 0).trans e0
    have e1 := (p2 1).trans e1
    have fd0 := (p1f 0).trans fd0
    have fd1 := (p1f 1).trans fd1
    have fe0 := (p2f 0).trans fe0
    have fe1 := (p2f 1).trans fe1
    clear hb p0 p1 p2 p0f p1f p2f
    clear z1
    go_wp2_with fail
    refine (HTR.out _).mono ?_
    rintro e w3 ⟨rfl, hb⟩
    have HX3 := Lib.hid (bthen HX2.out hb (by exact HX2.out.size))
    obtain ⟨p0, p0f⟩ := keepC hb (g := w.heap.size) (by omega)
    obtain ⟨p1, p1f⟩ := keepC hb (g := w.heap.size + 1) (by omega)
    obtain ⟨p2, p2f⟩ := keepC hb (g := w.heap.size + 1 + 1) (by omega)
    have z3 : w.heap.size + 1 + 1 < w3.heap.size := Nat.lt_of_lt_of_le z2 hb.size
    have c0 := (p0 0).trans c0
    have c1 := (p0 1).trans c1
    have d0 := (p1 0).trans d0
    have d1 := (p1 1).trans d1
    have e0 := (p2 0).trans e0
    have e1 := (p2 1).trans e1
    have fd0 := (p1f 0).trans fd0
    have fd1 := (p1f 1).trans fd1
    have fe0 := (p2f 0).trans fe0
    have fe1 := (p2f 1).trans fe1
    clear hb p0 p1 p2 p0f p1f p2f
    clear z2
    have HR3 := Lib.hid (HROW.out _ HX3.out)
    go_wp2_with fail
    refine (HPN.out _ HR3.out).mono ?_
    rintro e w4 ⟨a', c', rfl, hr, hs, hb⟩
    have HR4 := Lib.hid hr
    have HS4 := Lib.hid (SBlk.lo (b' := w.heap.size) hs (by omega))
    have hne := hs.ne (b := w.heap.size + 1) (by omega)
    have HNF := Lib.hid hne
    have HNE := Lib.hid (show T ≠ [] → blockOf a' ≠ some (w.heap.size + 1) from fun e => hne (fun e2 => e (List.eq_nil_of_length_eq_zero (by rw [← HQ.out]; exact e2))))
    have HX4 := Lib.hid (bthen HX3.out hb HX3.out.size)
    obtain ⟨p1, q1⟩ := keepC hb (g := w.heap.size + 1) (by omega)
    have h0 := (p1 0).trans d0
    have h1 := (p1 1).trans d1
    have k0 := (q1 0).trans fd0
    have k1 := (q1 1).trans fd1
    clear hr hs hb hne p1 q1 c0 c1 d0 d1 e0 e1 fd0 fd1 fe0 fe1
    go_wp2
    exact bodyPost_ret (v := kV a' q c' ((q : Int) - 1)) (by simp [kV, results, Try.results64, go_sem, h0, h1]) rfl ⟨a', c', rfl, (HR4.out.setA HNE.out).setA HNE.out, (HS4.out.setA HNF.out).setA HNF.out, (HX4.out.setCell (p := ⟨w.heap.size + 1, 0, none⟩) (by show w.heap.size ≤ w.heap.size + 1; omega) _).setCell (p := ⟨w.heap.size + 1, 1, none⟩) (by show w.heap.size ≤ w.heap.size + 1; omega) _⟩
  · have hmid : midV l x more = l.take m ++ [J] := by
      have := mid_whole (l := l) (x := x) (more := more) hpos (by rw [← hJ, hg, hT])
      rw [this, ← hJ, show l.length - 1 = m by omega]
    have hlen := trim_len (l := l.take m) (x := J) (by rw [List.length_take]; omega)
    rw [hmid]
    rw [hT] at HTR
    obtain ⟨T, hT2⟩ : ∃ T, T = trimV (l.take m ++ [J]) := ⟨_, rfl⟩
    obtain ⟨q, hq⟩ : ∃ q, q = T.length := ⟨_, rfl⟩
    have HQ := Lib.hid hq
    rw [← hT2, ← hq] at HPJ hlen ⊢
    have HSL := Lib.hid (slice_to (some ⟨g, o, none⟩) (m + 1) C m (by omega) (by omega))
    unfold kV at HPJ HLA ⊢
    clear hq hT2 hmid hT hg hJs hJ hj hy hal hm hpos hl hn hC hz h hmm hml hcell HPN
    go_enter Try.func64, Try.ntmps64
    go_wp2_with fail
    refine (HLA.out _ _ _ _).mono ?_
    rintro e w1 ⟨rfl, hb⟩
    have HX1 := Lib.hid (bthen HB.out hb (by simp; omega))
    obtain ⟨p0, p0f⟩ := keepC hb (g := w.heap.size) (by first | (simp; done) | (simp; omega))
    obtain ⟨p1, p1f⟩ := keepC hb (g := w.heap.size + 1) (by first | (simp; done) | (simp; omega))
    obtain ⟨p2, p2f⟩ := keepC hb (g := w.heap.size + 1 + 1) (by first | (simp; done) | (simp; omega))
    have z1 : w.heap.size + 1 + 1 < w1.heap.size := by have := hb.size; simp at this; omega
    have c0 : w1.cell? ⟨w.heap.size, 0, none⟩ = some (.slice (some ⟨g, o, none⟩) (m + 1) C) := by rw [p0 0]; simp [go_sem]
    have c1 : w1.cell? ⟨w.heap.size, 1, none⟩ = some (.int .i64 t) := by rw [p0 1]; simp [go_sem]
    have d0 : w1.cell? ⟨w.heap.size + 1, 0, none⟩ = some (.slice none 0 0) := by rw [p1 0]; simp [go_sem]
    have d1 : w1.cell? ⟨w.heap.size + 1, 1, none⟩ = some (.int .i64 0) := by rw [p1 1]; simp [go_sem]
    have e0 : w1.cell? ⟨w.heap.size + 1 + 1, 0, none⟩ = some (.slice (some ⟨g, o, none⟩) (m + 1) C) := by rw [p2 0]; simp [go_sem]
    have e1 : w1.cell? ⟨w.heap.size + 1 + 1, 1, none⟩ = some (.int .i64 t) := by rw [p2 1]; simp [go_sem]
    have fd0 : w1.frozen? ⟨w.heap.size + 1, 0, none⟩ = false := by rw [p1f 0]; simp [go_sem]
    have fd1 : w1.frozen? ⟨w.heap.size + 1, 1, none⟩ = false := by rw [p1f 1]; simp [go_sem]
    have fe0 : w1.frozen? ⟨w.heap.size + 1 + 1, 0, none⟩ = false := by rw [p2f 0]; simp [go_sem]
    have fe1 : w1.frozen? ⟨w.heap.size + 1 + 1, 1, none⟩ = false := by rw [p2f 1]; simp [go_sem]
    clear hb p0 p1 p2 p0f p1f p2f
    have hv := HLV.out
    have hcy := HCE.out _ HX1.out
    rw [HLV.out]
    clear hv
    go_wp2_with fail
    refine (HG.out _).mono ?_
    rintro e w2 ⟨rfl, hb⟩
    clear hcy
    have HX2 := Lib.hid (bthen HX1.out hb (by exact HX1.out.size))
    obtain ⟨p0, p0f⟩ := keepC hb (g := w.heap.size) (by omega)
    obtain ⟨p1, p1f⟩ := keepC hb (g := w.heap.size + 1) (by omega)
    obtain ⟨p2, p2f⟩ := keepC hb (g := w.heap.size + 1 + 1) (by omega)
    have z2 : w.heap.size + 1 + 1 < w2.heap.size := Nat.lt_of_lt_of_le z1 hb.size
    have c0 := (p0 0).trans c0
    have c1 := (p0 1).trans c1
    have d0 := (p1 0).trans d0
    have d1 := (p1 1).trans d1
    have e0 := (p2 0).trans e0
    have e1 := (p2 1).trans e1
    have fd0 := (p1f 0).trans fd0
    have fd1 := (p1f 1).trans fd1
    have fe0 := (p2f 0).trans fe0
    have fe1 := (p2f 1).trans fe1
    clear hb p0 p1 p2 p0f p1f p2f
    clear z1
    go_wp2_with fail
    refine (HTR.out _).mono ?_
    rintro e w3 ⟨rfl, hb⟩
    have HX3 := Lib.hid (bthen HX2.out hb (by exact HX2.out.size))
    obtain ⟨p0, p0f⟩ := keepC hb (g := w.heap.size) (by omega)
    obtain ⟨p1, p1f⟩ := keepC hb (g := w.heap.size + 1) (by omega)
    obtain ⟨p2, p2f⟩ := keepC hb (g := w.heap.size + 1 + 1) (by omega)
    have z3 : w.heap.size + 1 + 1 < w3.heap.size := Nat.lt_of_lt_of_le z2 hb.size
    have c0 := (p0 0).trans c0
    have c1 := (p0 1).trans c1
    have d0 := (p1 0).trans d0
    have d1 := (p1 1).trans d1
    have e0 := (p2 0).trans e0
    have e1 := (p2 1).trans e1
    have fd0 := (p1f 0).trans fd0
    have fd1 := (p1f 1).trans fd1
    have fe0 := (p2f 0).trans fe0
    have fe1 := (p2f 1).trans fe1
    clear hb p0 p1 p2 p0f p1f p2f
    clear z2
    have hsl := HSL.out
    go_wp2_with fail
    clear hsl
    have HX3b := Lib.hid (HX3.out.setCell (p := ⟨w.heap.size + 1 + 1, 0, none⟩) (show w.heap.size ≤ w.heap.size + 1 + 1 by omega) (.slice (some ⟨g, o, none⟩) m C))
    have HR3 := Lib.hid (HROW.out _ HX3b.out)
    have n1 : w.heap.size + 1 ≠ w.heap.size + 1 + 1 := by omega
    have d0' : (w3.setCell ⟨w.heap.size + 1 + 1, 0, none⟩ (.slice (some ⟨g, o, none⟩) m C)).cell? ⟨w.heap.size + 1, 0, none⟩ = some (.slice none 0 0) := by simp [go_sem, d0]
    have d1' : (w3.setCell ⟨w.heap.size + 1 + 1, 0, none⟩ (.slice (some ⟨g, o, none⟩) m C)).cell? ⟨w.heap.size + 1, 1, none⟩ = some (.int .i64 0) := by simp [go_sem, d1]
    have fd0' : (w3.setCell ⟨w.heap.size + 1 + 1, 0, none⟩ (.slice (some ⟨g, o, none⟩) m C)).frozen? ⟨w.heap.size + 1, 0, none⟩ = false := by simp [go_sem, fd0]
    have fd1' : (w3.setCell ⟨w.heap.size + 1 + 1, 0, none⟩ (.slice (some ⟨g, o, none⟩) m C)).frozen? ⟨w.heap.size + 1, 1, none⟩ = false := by simp [go_sem, fd1]
    refine (HPJ.out _ HR3.out).mono ?_
    rintro e w4 ⟨a', c', rfl, hr, hs, hb⟩
    have HR4 := Lib.hid hr
    have HS4 := Lib.hid (SBlk.lo (b' := w.heap.size) hs (by simp; omega))
    have hne := hs.ne (b := w.heap.size + 1) (by simp; omega)
    have HNF := Lib.hid hne
    have HNE := Lib.hid (show T ≠ [] → blockOf a' ≠ some (w.heap.size + 1) from fun e => hne (fun e2 => e (List.eq_nil_of_length_eq_zero (by rw [← HQ.out]; exact e2))))
    have HX4 := Lib.hid (bthen HX3b.out hb HX3b.out.size)
    obtain ⟨p1, q1⟩ := keepC hb (g := w.heap.size + 1) (by simp; omega)
    have h0 := (p1 0).trans d0'
    have h1 := (p1 1).trans d1'
    have k0 := (q1 0).trans fd0'
    have k1 := (q1 1).trans fd1'
    clear hr hs hb hne p1 q1 c0 c1 d0 d1 e0 e1 fd0 fd1 fe0 fe1
    go_wp2
    exact bodyPost_ret (v := kV a' q c' ((q : Int) - 1)) (by simp [kV, results, Try.results64, go_sem, h0, h1]) rfl ⟨a', c', rfl, (HR4.out.setA HNE.out).setA HNE.out, (HS4.out.setA HNF.out).setA HNF.out, (HX4.out.setCell (p := ⟨w.heap.size + 1, 0, none⟩) (by show w.heap.size ≤ w.heap.size + 1; omega) _).setCell (p := ⟨w.heap.size + 1, 1, none⟩) (by show w.heap.size ≤ w.heap.size + 1; omega) _⟩
theorem heldPut_any (a : Option Addr) (C : Nat) (l : List ByteArray) (t : Int) (x : ByteArray) (more : Int) (hxs : x.size ≤ 1000000) (hl : ∀ s ∈ l, s.size ≤ 1000000) (hx0 : x.size ≠ 0) (hn : l.length ≤ 5) (hC : l.length ≤ C) (hz : a = none → l = []) (w : World) (h : SRow w a l) :
    Calls Try.prog 64 #[kV a l.length C t, .string x, .int .i64 more] w fun e w' => ∃ a' c', e = .returned (kV a' (trimV (midV l x more)).length c' ((trimV (midV l x more)).length - 1)) ∧ SRow w' a' (trimV (midV l x more)) ∧ SBlk w.heap.size w' a' (trimV (midV l x more)).length ∧ Below w.heap.size w w' := by
  by_cases h0 : more = 0 ∨ l.length = 0
  · rw [mid_alone h0]
    exact heldPut_alone a C l t x more h0 hn hC hz w h
  · exact heldPut_joined a C l t x more (by omega) (by omega) hxs hl hx0 hn hC hz w h
theorem mem_trim {l : List ByteArray} {x : ByteArray} {more : Int} {s : ByteArray} (h : s ∈ trimV (midV l x more)) : s ∈ l ∨ s = x ∨ s = joinV l x more := by
  have h1 : s ∈ midV l x more := by
    unfold trimV at h
    split at h
    · exact List.mem_of_mem_drop h
    · exact h
  unfold midV at h1
  split at h1
  · rcases List.mem_or_eq_of_mem_set h1 with h2 | h2
    · exact .inl h2
    · exact .inr (.inr h2)
  · rcases List.mem_append.1 h1 with h2 | h2
    · exact .inl h2
    · exact .inr (.inl (by simpa using h2))
theorem join_size {l : List ByteArray} {x : ByteArray} {more : Int} {n : Nat} (hx : x.size ≤ n) (hl : ∀ s ∈ l, s.size ≤ n) : (joinV l x more).size ≤ 2 * n := by
  have hg : (l[l.length - 1]?.getD ⟨#[]⟩).size ≤ n := by
    cases e : l[l.length - 1]? with
    | none => exact Nat.zero_le _
    | some s => exact hl s (List.mem_of_getElem? e)
  unfold joinV
  split
  · exact Nat.zero_le _
  · split
    · rw [ByteArray.size_append]; omega
    · split
      · rw [ByteArray.size_append]; omega
      · exact Nat.zero_le _
theorem killsB_small {l : List ByteArray} {t : Int} (h : killsB l t = true) : ∀ s ∈ l, s.size ≤ 60 := fun s hs => by
  unfold killsB textsB at h
  simp only [Bool.and_eq_true, List.all_eq_true] at h
  have := h.1 s hs
  unfold goodB at this
  simp only [Bool.and_eq_true] at this
  exact (textB_ok this.1).1
set_option maxRecDepth 20000 in
theorem implPut_ill (a : Option Addr) (C : Nat) (l : List ByteArray) (t : Int) (x : ByteArray) (more : Int) (hx : x.size ≤ 8000) (hn : l.length ≤ 1048576) (hl : ∀ s ∈ l, s.size ≤ 1048576) (hk : killsB l t = false) (w : World) (h : SRow w a l) :
    Calls Try.prog 14 #[kV a l.length C t, .string x, .int .i64 more] w fun e w' => ∃ a' c', e = .returned (kV a' l.length c' t) ∧ SRow w' a' l ∧ SBlk w.heap.size w' a' l.length ∧ Below w.heap.size w w' := by
  have HR := Lib.hid (fun W (h : SRow W a l) => heldRight_any a C l t hn (fun s hs => by have := hl s hs; unfold maxLen; omega) W h)
  have HO := Lib.hid (fun n W => ofKills_any a n C t W)
  have HA := Lib.hid (fun W (hb : Below w.heap.size w W) => h.below hb)
  have HTX := Lib.hid (implRight_any x (by unfold maxLen; omega))
  have HK := Lib.hid (fun W (h : SRow W a l) => kills_any a C l t hn hl W h)
  have HNN := Lib.hid (show l ≠ [] → l.length ≠ 0 from fun e e2 => e (List.eq_nil_of_length_eq_zero e2))
  have hal := ((Below.refl _ w).alloc (Nat.le_refl _) (.cells #[.slice a l.length C, .int .i64 t] 25)).alloc (by simp) (.cells #[.slice none 0 0, .int .i64 0] 25)
  obtain ⟨n, hn'⟩ : ∃ n, n = l.length := ⟨_, rfl⟩
  obtain ⟨L, hL⟩ : ∃ L, L = l := ⟨_, rfl⟩
  rw [← hn'] at HR HK HNN hal ⊢
  have HB := Lib.hid hal
  rw [hk] at HR
  clear hk HTX
  have hx8 : ¬ (8000 : Int) < x.size := by omega
  rw [← hL] at HR HA HK HNN ⊢
  unfold kV at HR HO HK ⊢
  clear hal hn hl h hn' hL
  go_enter Try.func14, Try.ntmps14
  go_wp2_with fail
  refine (HO.out _ _).mono ?_
  rintro e w1 ⟨rfl, hb⟩
  have HX1 := Lib.hid ((bthen HB.out hb (by simp; omega)).alloc (by have := hb.size; simp at this; omega) (.cells #[.slice a n C, .int .i64 t] 80))
  have z1 : w.heap.size + 1 < w1.heap.size := by have := hb.size; simp at this; omega
  have HA1 := Lib.hid (HA.out _ HX1.out)
  obtain ⟨p1, q1⟩ := keepC hb (g := w.heap.size + 1) (by simp)
  have c0 : w1.cell? ⟨w.heap.size + 1, 0, none⟩ = some (.slice none 0 0) := by rw [p1 0]; simp [go_sem]
  have c1 : w1.cell? ⟨w.heap.size + 1, 1, none⟩ = some (.int .i64 0) := by rw [p1 1]; simp [go_sem]
  have f0 : w1.frozen? ⟨w.heap.size + 1, 0, none⟩ = false := by rw [q1 0]; simp [go_sem]
  have f1 : w1.frozen? ⟨w.heap.size + 1, 1, none⟩ = false := by rw [q1 1]; simp [go_sem]
  clear hb p1 q1
  go_wp2_with fail
  refine (HR.out _ HA1.out).mono ?_
  rintro e w2 ⟨rfl, hb⟩
  have HX2 := Lib.hid (bthen HX1.out hb HX1.out.size)
  have z2 : w1.heap.size < w2.heap.size := by have := hb.size; simp at this; omega
  obtain ⟨p1, q1⟩ := keepC hb (g := w.heap.size + 1) (by simp; omega)
  obtain ⟨p2, q2⟩ := keepC hb (g := w1.heap.size) (by simp)
  have c0 : w2.cell? ⟨w.heap.size + 1, 0, none⟩ = some (.slice none 0 0) := by rw [p1 0]; simp [go_sem, c0, z1]
  have c1 : w2.cell? ⟨w.heap.size + 1, 1, none⟩ = some (.int .i64 0) := by rw [p1 1]; simp [go_sem, c1, z1]
  have f0 : w2.frozen? ⟨w.heap.size + 1, 0, none⟩ = false := by rw [q1 0]; simp [go_sem, f0, z1]
  have f1 : w2.frozen? ⟨w.heap.size + 1, 1, none⟩ = false := by rw [q1 1]; simp [go_sem, f1, z1]
  have e0 : w2.cell? ⟨w1.heap.size, 0, none⟩ = some (.slice a n C) := by rw [p2 0]; simp [go_sem]
  have e1 : w2.cell? ⟨w1.heap.size, 1, none⟩ = some (.int .i64 t) := by rw [p2 1]; simp [go_sem]
  have g0 : w2.frozen? ⟨w1.heap.size, 0, none⟩ = false := by rw [q2 0]; simp [go_sem]
  have g1 : w2.frozen? ⟨w1.heap.size, 1, none⟩ = false := by rw [q2 1]; simp [go_sem]
  clear hb p1 q1 p2 q2
  have HA2 := Lib.hid (HA.out _ HX2.out)
  go_wp2_with fail
  refine (HK.out _ HA2.out).mono ?_
  rintro e w5 ⟨a', c', rfl, hr, hs, hb⟩
  obtain ⟨p1, q1⟩ := keepC hb (g := w.heap.size + 1) (by omega)
  have d0 : w5.cell? ⟨w.heap.size + 1, 0, none⟩ = some (.slice none 0 0) := by rw [p1 0]; simp [go_sem, c0]
  have d1 : w5.cell? ⟨w.heap.size + 1, 1, none⟩ = some (.int .i64 0) := by rw [p1 1]; simp [go_sem, c1]
  have h0 : w5.frozen? ⟨w.heap.size + 1, 0, none⟩ = false := by rw [q1 0]; simp [go_sem, f0]
  have h1 : w5.frozen? ⟨w.heap.size + 1, 1, none⟩ = false := by rw [q1 1]; simp [go_sem, f1]
  have HR5 := Lib.hid hr
  have HS5 := Lib.hid (SBlk.lo (b' := w.heap.size) hs (by omega))
  have hne := hs.ne (b := w.heap.size + 1) (by omega)
  have HNE := Lib.hid (show L ≠ [] → blockOf a' ≠ some (w.heap.size + 1) from fun e => hne (HNN.out e))
  have HNF := Lib.hid hne
  have HX5 := Lib.hid (bthen HX2.out hb HX2.out.size)
  clear hb p1 q1 hr hs hne c0 c1 f0 f1 e0 e1 g0 g1
  go_wp2
  exact bodyPost_ret (v := kV a' n c' (t)) (by simp [kV, results, Try.results14, go_sem, d0, d1]) rfl ⟨a', c', rfl, (HR5.out.setA HNE.out).setA HNE.out, (HS5.out.setA HNF.out).setA HNF.out, (HX5.out.setCell (p := ⟨w.heap.size + 1, 0, none⟩) (by show w.heap.size ≤ w.heap.size + 1; omega) _).setCell (p := ⟨w.heap.size + 1, 1, none⟩) (by show w.heap.size ≤ w.heap.size + 1; omega) _⟩
set_option maxRecDepth 20000 in
theorem implPut_odd (a : Option Addr) (C : Nat) (l : List ByteArray) (t : Int) (x : ByteArray) (more : Int) (hx : x.size ≤ 8000) (hn : l.length ≤ 1048576) (hl : ∀ s ∈ l, s.size ≤ 1048576) (hk : killsB l t = true) (ht : textB x = false) (w : World) (h : SRow w a l) :
    Calls Try.prog 14 #[kV a l.length C t, .string x, .int .i64 more] w fun e w' => ∃ a' c', e = .returned (kV a' l.length c' t) ∧ SRow w' a' l ∧ SBlk w.heap.size w' a' l.length ∧ Below w.heap.size w w' := by
  have HR := Lib.hid (fun W (h : SRow W a l) => heldRight_any a C l t hn (fun s hs => by have := hl s hs; unfold maxLen; omega) W h)
  have HO := Lib.hid (fun n W => ofKills_any a n C t W)
  have HA := Lib.hid (fun W (hb : Below w.heap.size w W) => h.below hb)
  have HTX := Lib.hid (implRight_any x (by unfold maxLen; omega))
  have HK := Lib.hid (fun W (h : SRow W a l) => kills_any a C l t hn hl W h)
  have HNN := Lib.hid (show l ≠ [] → l.length ≠ 0 from fun e e2 => e (List.eq_nil_of_length_eq_zero e2))
  have hal := ((Below.refl _ w).alloc (Nat.le_refl _) (.cells #[.slice a l.length C, .int .i64 t] 25)).alloc (by simp) (.cells #[.slice none 0 0, .int .i64 0] 25)
  obtain ⟨n, hn'⟩ : ∃ n, n = l.length := ⟨_, rfl⟩
  obtain ⟨L, hL⟩ : ∃ L, L = l := ⟨_, rfl⟩
  rw [← hn'] at HR HK HNN hal ⊢
  have HB := Lib.hid hal
  rw [hk] at HR
  rw [ht] at HTX
  clear hk ht
  have hx8 : ¬ (8000 : Int) < x.size := by omega
  rw [← hL] at HR HA HK HNN ⊢
  unfold kV at HR HO HK ⊢
  clear hal hn hl h hn' hL
  go_enter Try.func14, Try.ntmps14
  go_wp2_with fail
  refine (HO.out _ _).mono ?_
  rintro e w1 ⟨rfl, hb⟩
  have HX1 := Lib.hid ((bthen HB.out hb (by simp; omega)).alloc (by have := hb.size; simp at this; omega) (.cells #[.slice a n C, .int .i64 t] 80))
  have z1 : w.heap.size + 1 < w1.heap.size := by have := hb.size; simp at this; omega
  have HA1 := Lib.hid (HA.out _ HX1.out)
  obtain ⟨p1, q1⟩ := keepC hb (g := w.heap.size + 1) (by simp)
  have c0 : w1.cell? ⟨w.heap.size + 1, 0, none⟩ = some (.slice none 0 0) := by rw [p1 0]; simp [go_sem]
  have c1 : w1.cell? ⟨w.heap.size + 1, 1, none⟩ = some (.int .i64 0) := by rw [p1 1]; simp [go_sem]
  have f0 : w1.frozen? ⟨w.heap.size + 1, 0, none⟩ = false := by rw [q1 0]; simp [go_sem]
  have f1 : w1.frozen? ⟨w.heap.size + 1, 1, none⟩ = false := by rw [q1 1]; simp [go_sem]
  clear hb p1 q1
  go_wp2_with fail
  refine (HR.out _ HA1.out).mono ?_
  rintro e w2 ⟨rfl, hb⟩
  have HX2 := Lib.hid (bthen HX1.out hb HX1.out.size)
  have z2 : w1.heap.size < w2.heap.size := by have := hb.size; simp at this; omega
  obtain ⟨p1, q1⟩ := keepC hb (g := w.heap.size + 1) (by simp; omega)
  obtain ⟨p2, q2⟩ := keepC hb (g := w1.heap.size) (by simp)
  have c0 : w2.cell? ⟨w.heap.size + 1, 0, none⟩ = some (.slice none 0 0) := by rw [p1 0]; simp [go_sem, c0, z1]
  have c1 : w2.cell? ⟨w.heap.size + 1, 1, none⟩ = some (.int .i64 0) := by rw [p1 1]; simp [go_sem, c1, z1]
  have f0 : w2.frozen? ⟨w.heap.size + 1, 0, none⟩ = false := by rw [q1 0]; simp [go_sem, f0, z1]
  have f1 : w2.frozen? ⟨w.heap.size + 1, 1, none⟩ = false := by rw [q1 1]; simp [go_sem, f1, z1]
  have e0 : w2.cell? ⟨w1.heap.size, 0, none⟩ = some (.slice a n C) := by rw [p2 0]; simp [go_sem]
  have e1 : w2.cell? ⟨w1.heap.size, 1, none⟩ = some (.int .i64 t) := by rw [p2 1]; simp [go_sem]
  have g0 : w2.frozen? ⟨w1.heap.size, 0, none⟩ = false := by rw [q2 0]; simp [go_sem]
  have g1 : w2.frozen? ⟨w1.heap.size, 1, none⟩ = false := by rw [q2 1]; simp [go_sem]
  clear hb p1 q1 p2 q2
  go_wp2_with fail
  refine (HTX.out _).mono ?_
  rintro e w3 ⟨rfl, hb⟩
  have HX3 := Lib.hid (bthen HX2.out hb HX2.out.size)
  have z3 : w1.heap.size < w3.heap.size := Nat.lt_of_lt_of_le z2 hb.size
  obtain ⟨p1, q1⟩ := keepC hb (g := w.heap.size + 1) (by omega)
  obtain ⟨p2, q2⟩ := keepC hb (g := w1.heap.size) (by omega)
  have c0 := (p1 0).trans c0
  have c1 := (p1 1).trans c1
  have f0 := (q1 0).trans f0
  have f1 := (q1 1).trans f1
  have e0 := (p2 0).trans e0
  have e1 := (p2 1).trans e1
  have g0 := (q2 0).trans g0
  have g1 := (q2 1).trans g1
  clear hb p1 q1 p2 q2
  have HA2 := Lib.hid (HA.out _ HX3.out)
  go_wp2_with fail
  refine (HK.out _ HA2.out).mono ?_
  rintro e w5 ⟨a', c', rfl, hr, hs, hb⟩
  obtain ⟨p1, q1⟩ := keepC hb (g := w.heap.size + 1) (by omega)
  have d0 : w5.cell? ⟨w.heap.size + 1, 0, none⟩ = some (.slice none 0 0) := by rw [p1 0]; simp [go_sem, c0]
  have d1 : w5.cell? ⟨w.heap.size + 1, 1, none⟩ = some (.int .i64 0) := by rw [p1 1]; simp [go_sem, c1]
  have h0 : w5.frozen? ⟨w.heap.size + 1, 0, none⟩ = false := by rw [q1 0]; simp [go_sem, f0]
  have h1 : w5.frozen? ⟨w.heap.size + 1, 1, none⟩ = false := by rw [q1 1]; simp [go_sem, f1]
  have HR5 := Lib.hid hr
  have HS5 := Lib.hid (SBlk.lo (b' := w.heap.size) hs (by omega))
  have hne := hs.ne (b := w.heap.size + 1) (by omega)
  have HNE := Lib.hid (show L ≠ [] → blockOf a' ≠ some (w.heap.size + 1) from fun e => hne (HNN.out e))
  have HNF := Lib.hid hne
  have HX5 := Lib.hid (bthen HX3.out hb HX3.out.size)
  clear hb p1 q1 hr hs hne c0 c1 f0 f1 e0 e1 g0 g1
  go_wp2
  exact bodyPost_ret (v := kV a' n c' (t)) (by simp [kV, results, Try.results14, go_sem, d0, d1]) rfl ⟨a', c', rfl, (HR5.out.setA HNE.out).setA HNE.out, (HS5.out.setA HNF.out).setA HNF.out, (HX5.out.setCell (p := ⟨w.heap.size + 1, 0, none⟩) (by show w.heap.size ≤ w.heap.size + 1; omega) _).setCell (p := ⟨w.heap.size + 1, 1, none⟩) (by show w.heap.size ≤ w.heap.size + 1; omega) _⟩
set_option maxRecDepth 20000 in
theorem implPut_empty (a : Option Addr) (C : Nat) (l : List ByteArray) (t : Int) (x : ByteArray) (more : Int) (hx : x.size ≤ 8000) (hn : l.length ≤ 1048576) (hl : ∀ s ∈ l, s.size ≤ 1048576) (hk : killsB l t = true) (ht : textB x = true) (h0 : x.size = 0) (w : World) (h : SRow w a l) :
    Calls Try.prog 14 #[kV a l.length C t, .string x, .int .i64 more] w fun e w' => ∃ a' c', e = .returned (kV a' l.length c' t) ∧ SRow w' a' l ∧ SBlk w.heap.size w' a' l.length ∧ Below w.heap.size w w' := by
  have HR := Lib.hid (fun W (h : SRow W a l) => heldRight_any a C l t hn (fun s hs => by have := hl s hs; unfold maxLen; omega) W h)
  have HO := Lib.hid (fun n W => ofKills_any a n C t W)
  have HA := Lib.hid (fun W (hb : Below w.heap.size w W) => h.below hb)
  have HTX := Lib.hid (implRight_any x (by unfold maxLen; omega))
  have HK := Lib.hid (fun W (h : SRow W a l) => kills_any a C l t hn hl W h)
  have HNN := Lib.hid (show l ≠ [] → l.length ≠ 0 from fun e e2 => e (List.eq_nil_of_length_eq_zero e2))
  have hal := ((Below.refl _ w).alloc (Nat.le_refl _) (.cells #[.slice a l.length C, .int .i64 t] 25)).alloc (by simp) (.cells #[.slice none 0 0, .int .i64 0] 25)
  obtain ⟨n, hn'⟩ : ∃ n, n = l.length := ⟨_, rfl⟩
  obtain ⟨L, hL⟩ : ∃ L, L = l := ⟨_, rfl⟩
  rw [← hn'] at HR HK HNN hal ⊢
  have HB := Lib.hid hal
  rw [hk] at HR
  rw [ht] at HTX
  have hem := empty_t (s := x) (by omega)
  clear hk ht h0
  have hx8 : ¬ (8000 : Int) < x.size := by omega
  rw [← hL] at HR HA HK HNN ⊢
  unfold kV at HR HO HK ⊢
  clear hal hn hl h hn' hL
  go_enter Try.func14, Try.ntmps14
  go_wp2_with fail
  refine (HO.out _ _).mono ?_
  rintro e w1 ⟨rfl, hb⟩
  have HX1 := Lib.hid ((bthen HB.out hb (by simp; omega)).alloc (by have := hb.size; simp at this; omega) (.cells #[.slice a n C, .int .i64 t] 80))
  have z1 : w.heap.size + 1 < w1.heap.size := by have := hb.size; simp at this; omega
  have HA1 := Lib.hid (HA.out _ HX1.out)
  obtain ⟨p1, q1⟩ := keepC hb (g := w.heap.size + 1) (by simp)
  have c0 : w1.cell? ⟨w.heap.size + 1, 0, none⟩ = some (.slice none 0 0) := by rw [p1 0]; simp [go_sem]
  have c1 : w1.cell? ⟨w.heap.size + 1, 1, none⟩ = some (.int .i64 0) := by rw [p1 1]; simp [go_sem]
  have f0 : w1.frozen? ⟨w.heap.size + 1, 0, none⟩ = false := by rw [q1 0]; simp [go_sem]
  have f1 : w1.frozen? ⟨w.heap.size + 1, 1, none⟩ = false := by rw [q1 1]; simp [go_sem]
  clear hb p1 q1
  go_wp2_with fail
  refine (HR.out _ HA1.out).mono ?_
  rintro e w2 ⟨rfl, hb⟩
  have HX2 := Lib.hid (bthen HX1.out hb HX1.out.size)
  have z2 : w1.heap.size < w2.heap.size := by have := hb.size; simp at this; omega
  obtain ⟨p1, q1⟩ := keepC hb (g := w.heap.size + 1) (by simp; omega)
  obtain ⟨p2, q2⟩ := keepC hb (g := w1.heap.size) (by simp)
  have c0 : w2.cell? ⟨w.heap.size + 1, 0, none⟩ = some (.slice none 0 0) := by rw [p1 0]; simp [go_sem, c0, z1]
  have c1 : w2.cell? ⟨w.heap.size + 1, 1, none⟩ = some (.int .i64 0) := by rw [p1 1]; simp [go_sem, c1, z1]
  have f0 : w2.frozen? ⟨w.heap.size + 1, 0, none⟩ = false := by rw [q1 0]; simp [go_sem, f0, z1]
  have f1 : w2.frozen? ⟨w.heap.size + 1, 1, none⟩ = false := by rw [q1 1]; simp [go_sem, f1, z1]
  have e0 : w2.cell? ⟨w1.heap.size, 0, none⟩ = some (.slice a n C) := by rw [p2 0]; simp [go_sem]
  have e1 : w2.cell? ⟨w1.heap.size, 1, none⟩ = some (.int .i64 t) := by rw [p2 1]; simp [go_sem]
  have g0 : w2.frozen? ⟨w1.heap.size, 0, none⟩ = false := by rw [q2 0]; simp [go_sem]
  have g1 : w2.frozen? ⟨w1.heap.size, 1, none⟩ = false := by rw [q2 1]; simp [go_sem]
  clear hb p1 q1 p2 q2
  go_wp2_with fail
  refine (HTX.out _).mono ?_
  rintro e w3 ⟨rfl, hb⟩
  have HX3 := Lib.hid (bthen HX2.out hb HX2.out.size)
  have z3 : w1.heap.size < w3.heap.size := Nat.lt_of_lt_of_le z2 hb.size
  obtain ⟨p1, q1⟩ := keepC hb (g := w.heap.size + 1) (by omega)
  obtain ⟨p2, q2⟩ := keepC hb (g := w1.heap.size) (by omega)
  have c0 := (p1 0).trans c0
  have c1 := (p1 1).trans c1
  have f0 := (q1 0).trans f0
  have f1 := (q1 1).trans f1
  have e0 := (p2 0).trans e0
  have e1 := (p2 1).trans e1
  have g0 := (q2 0).trans g0
  have g1 := (q2 1).trans g1
  clear hb p1 q1 p2 q2
  have HA2 := Lib.hid (HA.out _ HX3.out)
  go_wp2_with fail
  refine (HK.out _ HA2.out).mono ?_
  rintro e w5 ⟨a', c', rfl, hr, hs, hb⟩
  obtain ⟨p1, q1⟩ := keepC hb (g := w.heap.size + 1) (by omega)
  have d0 : w5.cell? ⟨w.heap.size + 1, 0, none⟩ = some (.slice none 0 0) := by rw [p1 0]; simp [go_sem, c0]
  have d1 : w5.cell? ⟨w.heap.size + 1, 1, none⟩ = some (.int .i64 0) := by rw [p1 1]; simp [go_sem, c1]
  have h0 : w5.frozen? ⟨w.heap.size + 1, 0, none⟩ = false := by rw [q1 0]; simp [go_sem, f0]
  have h1 : w5.frozen? ⟨w.heap.size + 1, 1, none⟩ = false := by rw [q1 1]; simp [go_sem, f1]
  have HR5 := Lib.hid hr
  have HS5 := Lib.hid (SBlk.lo (b' := w.heap.size) hs (by omega))
  have hne := hs.ne (b := w.heap.size + 1) (by omega)
  have HNE := Lib.hid (show L ≠ [] → blockOf a' ≠ some (w.heap.size + 1) from fun e => hne (HNN.out e))
  have HNF := Lib.hid hne
  have HX5 := Lib.hid (bthen HX3.out hb HX3.out.size)
  clear hb p1 q1 hr hs hne c0 c1 f0 f1 e0 e1 g0 g1
  go_wp2
  exact bodyPost_ret (v := kV a' n c' (t)) (by simp [kV, results, Try.results14, go_sem, d0, d1]) rfl ⟨a', c', rfl, (HR5.out.setA HNE.out).setA HNE.out, (HS5.out.setA HNF.out).setA HNF.out, (HX5.out.setCell (p := ⟨w.heap.size + 1, 0, none⟩) (by show w.heap.size ≤ w.heap.size + 1; omega) _).setCell (p := ⟨w.heap.size + 1, 1, none⟩) (by show w.heap.size ≤ w.heap.size + 1; omega) _⟩
set_option maxRecDepth 20000 in
theorem implPut_good (a : Option Addr) (C : Nat) (l : List ByteArray) (t : Int) (x : ByteArray) (more : Int) (hx : x.size ≤ 8000) (hn : l.length ≤ 1048576) (hl : ∀ s ∈ l, s.size ≤ 1048576) (hk : killsB l t = true) (ht : textB x = true) (h0 : x.size ≠ 0) (hC : l.length ≤ C) (hz : a = none → l = []) (hlen : (trimV (midV l x more)).length ≤ 1048576) (hls : ∀ s ∈ trimV (midV l x more), s.size ≤ 1048576) (h5 : l.length ≤ 5) (h60 : ∀ s ∈ l, s.size ≤ 1000000) (w : World) (h : SRow w a l) :
    Calls Try.prog 14 #[kV a l.length C t, .string x, .int .i64 more] w fun e w' => ∃ a' c', e = .returned (kV a' (trimV (midV l x more)).length c' ((trimV (midV l x more)).length - 1)) ∧ SRow w' a' (trimV (midV l x more)) ∧ SBlk w.heap.size w' a' (trimV (midV l x more)).length ∧ Below w.heap.size w w' := by
  have HR := Lib.hid (fun W (h : SRow W a l) => heldRight_any a C l t hn (fun s hs => by have := hl s hs; unfold maxLen; omega) W h)
  have HO := Lib.hid (fun n W => ofKills_any a n C t W)
  have HA := Lib.hid (fun W (hb : Below w.heap.size w W) => h.below hb)
  have HTX := Lib.hid (implRight_any x (by unfold maxLen; omega))
  have HP := Lib.hid (fun W (h : SRow W a l) => heldPut_any a C l t x more (by omega) h60 h0 h5 hC hz W h)
  have HK := Lib.hid (fun a1 C1 W (h : SRow W a1 (trimV (midV l x more))) => kills_any a1 C1 (trimV (midV l x more)) ((trimV (midV l x more)).length - 1) hlen hls W h)
  have HNN := Lib.hid (show trimV (midV l x more) ≠ [] → (trimV (midV l x more)).length ≠ 0 from fun e e2 => e (List.eq_nil_of_length_eq_zero e2))
  have hal := ((Below.refl _ w).alloc (Nat.le_refl _) (.cells #[.slice a l.length C, .int .i64 t] 25)).alloc (by simp) (.cells #[.slice none 0 0, .int .i64 0] 25)
  obtain ⟨n, hn'⟩ : ∃ n, n = l.length := ⟨_, rfl⟩
  obtain ⟨L, hL⟩ : ∃ L, L = trimV (midV l x more) := ⟨_, rfl⟩
  obtain ⟨q, hq⟩ : ∃ q, q = L.length := ⟨_, rfl⟩
  rw [← hL, ← hq] at HP HK HNN ⊢
  rw [← hn'] at HR HP hal ⊢
  rw [hk] at HR
  rw [ht] at HTX
  have hem := empty_f (s := x) (by omega)
  have HB := Lib.hid hal
  have hx8 : ¬ (8000 : Int) < x.size := by omega
  unfold kV at HR HO HK HP ⊢
  clear hal hn hl h hn' hL hq hlen hls h5 h60 hC hz hk ht h0
  go_enter Try.func14, Try.ntmps14
  go_wp2_with fail
  refine (HO.out _ _).mono ?_
  rintro e w1 ⟨rfl, hb⟩
  have HX1 := Lib.hid ((bthen HB.out hb (by simp; omega)).alloc (by have := hb.size; simp at this; omega) (.cells #[.slice a n C, .int .i64 t] 80))
  have z1 : w.heap.size + 1 < w1.heap.size := by have := hb.size; simp at this; omega
  have HA1 := Lib.hid (HA.out _ HX1.out)
  obtain ⟨p1, q1⟩ := keepC hb (g := w.heap.size + 1) (by simp)
  have c0 : w1.cell? ⟨w.heap.size + 1, 0, none⟩ = some (.slice none 0 0) := by rw [p1 0]; simp [go_sem]
  have c1 : w1.cell? ⟨w.heap.size + 1, 1, none⟩ = some (.int .i64 0) := by rw [p1 1]; simp [go_sem]
  have f0 : w1.frozen? ⟨w.heap.size + 1, 0, none⟩ = false := by rw [q1 0]; simp [go_sem]
  have f1 : w1.frozen? ⟨w.heap.size + 1, 1, none⟩ = false := by rw [q1 1]; simp [go_sem]
  clear hb p1 q1
  go_wp2_with fail
  refine (HR.out _ HA1.out).mono ?_
  rintro e w2 ⟨rfl, hb⟩
  have HX2 := Lib.hid (bthen HX1.out hb HX1.out.size)
  have z2 : w1.heap.size < w2.heap.size := by have := hb.size; simp at this; omega
  obtain ⟨p1, q1⟩ := keepC hb (g := w.heap.size + 1) (by simp; omega)
  obtain ⟨p2, q2⟩ := keepC hb (g := w1.heap.size) (by simp)
  have c0 : w2.cell? ⟨w.heap.size + 1, 0, none⟩ = some (.slice none 0 0) := by rw [p1 0]; simp [go_sem, c0, z1]
  have c1 : w2.cell? ⟨w.heap.size + 1, 1, none⟩ = some (.int .i64 0) := by rw [p1 1]; simp [go_sem, c1, z1]
  have f0 : w2.frozen? ⟨w.heap.size + 1, 0, none⟩ = false := by rw [q1 0]; simp [go_sem, f0, z1]
  have f1 : w2.frozen? ⟨w.heap.size + 1, 1, none⟩ = false := by rw [q1 1]; simp [go_sem, f1, z1]
  have e0 : w2.cell? ⟨w1.heap.size, 0, none⟩ = some (.slice a n C) := by rw [p2 0]; simp [go_sem]
  have e1 : w2.cell? ⟨w1.heap.size, 1, none⟩ = some (.int .i64 t) := by rw [p2 1]; simp [go_sem]
  have g0 : w2.frozen? ⟨w1.heap.size, 0, none⟩ = false := by rw [q2 0]; simp [go_sem]
  have g1 : w2.frozen? ⟨w1.heap.size, 1, none⟩ = false := by rw [q2 1]; simp [go_sem]
  clear hb p1 q1 p2 q2
  go_wp2_with fail
  refine (HTX.out _).mono ?_
  rintro e w3 ⟨rfl, hb⟩
  have HX3 := Lib.hid (bthen HX2.out hb HX2.out.size)
  have z3 : w1.heap.size < w3.heap.size := Nat.lt_of_lt_of_le z2 hb.size
  obtain ⟨p1, q1⟩ := keepC hb (g := w.heap.size + 1) (by omega)
  obtain ⟨p2, q2⟩ := keepC hb (g := w1.heap.size) (by omega)
  have c0 := (p1 0).trans c0
  have c1 := (p1 1).trans c1
  have f0 := (q1 0).trans f0
  have f1 := (q1 1).trans f1
  have e0 := (p2 0).trans e0
  have e1 := (p2 1).trans e1
  have g0 := (q2 0).trans g0
  have g1 := (q2 1).trans g1
  clear hb p1 q1 p2 q2
  have HA3 := Lib.hid (HA.out _ HX3.out)
  go_wp2_with fail
  refine (HP.out _ HA3.out).mono ?_
  rintro e w4 ⟨a1, C1, rfl, hr, hs, hb⟩
  have HX4 := Lib.hid (((bthen HX3.out hb HX3.out.size).setCell (p := ⟨w1.heap.size, 0, none⟩) (by show w.heap.size ≤ w1.heap.size; omega) (.slice a1 q C1)).setCell (p := ⟨w1.heap.size, 1, none⟩) (by show w.heap.size ≤ w1.heap.size; omega) (.int .i64 ((q : Int) - 1)))
  have hne1 := hs.ne (b := w1.heap.size) (by omega)
  have HN1 := Lib.hid (show L ≠ [] → blockOf a1 ≠ some w1.heap.size from fun e => hne1 (HNN.out e))
  have HRK := Lib.hid ((SRow.setA hr HN1.out (k := 0) (v := .slice a1 q C1)).setA HN1.out (k := 1) (v := .int .i64 ((q : Int) - 1)))
  have z4 : w1.heap.size < w4.heap.size := Nat.lt_of_lt_of_le z3 hb.size
  have ne1 : w.heap.size + 1 ≠ w1.heap.size := by omega
  have ne2 : w1.heap.size ≠ w.heap.size + 1 := by omega
  clear hr hs hne1
  obtain ⟨p1, q1⟩ := keepC hb (g := w.heap.size + 1) (by omega)
  obtain ⟨p2, q2⟩ := keepC hb (g := w1.heap.size) (by omega)
  have c0 := (p1 0).trans c0
  have c1 := (p1 1).trans c1
  have f0 := (q1 0).trans f0
  have f1 := (q1 1).trans f1
  have e0 := (p2 0).trans e0
  have e1 := (p2 1).trans e1
  have g0 := (q2 0).trans g0
  have g1 := (q2 1).trans g1
  clear hb p1 q1 p2 q2
  go_wp2_with fail
  refine (HK.out _ _ _ HRK.out).mono ?_
  rintro e w5 ⟨a', c', rfl, hr, hs, hb⟩
  obtain ⟨p1, q1⟩ := keepC hb (g := w.heap.size + 1) (by simp; omega)
  have d0 : w5.cell? ⟨w.heap.size + 1, 0, none⟩ = some (.slice none 0 0) := by rw [p1 0]; simp [go_sem, c0]
  have d1 : w5.cell? ⟨w.heap.size + 1, 1, none⟩ = some (.int .i64 0) := by rw [p1 1]; simp [go_sem, c1]
  have h0 : w5.frozen? ⟨w.heap.size + 1, 0, none⟩ = false := by rw [q1 0]; simp [go_sem, f0]
  have h1 : w5.frozen? ⟨w.heap.size + 1, 1, none⟩ = false := by rw [q1 1]; simp [go_sem, f1]
  have HR5 := Lib.hid hr
  have HS5 := Lib.hid (SBlk.lo (b' := w.heap.size) hs (by simp; omega))
  have hne := hs.ne (b := w.heap.size + 1) (by simp; omega)
  have HNE := Lib.hid (show L ≠ [] → blockOf a' ≠ some (w.heap.size + 1) from fun e => hne (HNN.out e))
  have HNF := Lib.hid hne
  have HX5 := Lib.hid (bthen HX4.out hb HX4.out.size)
  clear hb p1 q1 hr hs hne c0 c1 f0 f1 e0 e1 g0 g1
  go_wp2
  exact bodyPost_ret (v := kV a' q c' ((q : Int) - 1)) (by simp [kV, results, Try.results14, go_sem, d0, d1]) rfl ⟨a', c', rfl, (HR5.out.setA HNE.out).setA HNE.out, (HS5.out.setA HNF.out).setA HNF.out, (HX5.out.setCell (p := ⟨w.heap.size + 1, 0, none⟩) (by show w.heap.size ≤ w.heap.size + 1; omega) _).setCell (p := ⟨w.heap.size + 1, 1, none⟩) (by show w.heap.size ≤ w.heap.size + 1; omega) _⟩
theorem implPut_any (a : Option Addr) (C : Nat) (l : List ByteArray) (t : Int) (x : ByteArray) (more : Int) (hx : x.size ≤ 8000) (hn : l.length ≤ 1048576) (hl : ∀ s ∈ l, s.size ≤ 1048576) (hC : l.length ≤ C) (hz : a = none → l = []) (w : World) (h : SRow w a l) :
    Calls Try.prog 14 #[kV a l.length C t, .string x, .int .i64 more] w fun e w' => ∃ a' c', e = .returned (kV a' (specPutV l t x more).1.length c' (specPutV l t x more).2) ∧ SRow w' a' (specPutV l t x more).1 ∧ SBlk w.heap.size w' a' (specPutV l t x more).1.length ∧ Below w.heap.size w w' := by
  cases hk : killsB l t
  · have e : specPutV l t x more = (l, t) := by unfold specPutV; rw [if_neg (by rw [hk]; simp)]
    rw [e]
    exact implPut_ill a C l t x more hx hn hl hk w h
  cases ht : textB x
  · have e : specPutV l t x more = (l, t) := by unfold specPutV; rw [if_neg (by rw [ht]; simp)]
    rw [e]
    exact implPut_odd a C l t x more hx hn hl hk ht w h
  have e : specPutV l t x more = putV l t x more := by unfold specPutV; rw [if_pos ⟨hk, ht⟩]
  rw [e]
  by_cases h0 : x.size = 0
  · have e2 : putV l t x more = (l, t) := by unfold putV; rw [if_pos h0]
    rw [e2]
    exact implPut_empty a C l t x more hx hn hl hk ht h0 w h
  · have e2 : putV l t x more = (trimV (midV l x more), ((trimV (midV l x more)).length : Int) - 1) := by unfold putV; rw [if_neg h0]
    rw [e2]
    have h5 := (killsB_parts hk).1
    have h60 : ∀ s ∈ l, s.size ≤ 60 := killsB_small hk
    have hxt := (textB_ok ht).1
    have hj : (joinV l x more).size ≤ 120 := join_size (n := 60) hxt h60
    exact implPut_good a C l t x more hx hn hl hk ht h0 hC hz (by have := putV_len (l := l) (t := t) (x := x) (more := more) h5; rw [e2] at this; simp at this; omega)
      (fun s hs => by
        rcases mem_trim hs with h1 | h1 | h1
        · have := h60 s h1; omega
        · rw [h1]; omega
        · rw [h1]; omega) h5 (fun s hs => by have := h60 s hs; omega) w h
end Go.Proofs.Ytgmbpohbjhaghaa.kill
