/-
  A text put behind a list, the first ones gone where there are more than so many; the program's KillPut. For every list of at most a million texts.
-/
import Derived.Test.YtgmbpohbjhaghaaKillOwn
import Derived.Test.YtgmbpohbjhaghaaJoin
import Derived.ArgAppend
namespace Go.Proofs.Ytgmbpohbjhaghaa.kill
open Go.ChangeShapes Go.WideShapes Go.ChangeAt Go.RowKit
open Go.Proofs.Ytgmbpohbjhaghaa.strs Go.Proofs.Ytgmbpohbjhaghaa.line Go.Proofs.Ytgmbpohbjhaghaa.join
theorem row_drop {w : World} {g o : Nat} {l : List ByteArray} (h : SRow w (some ⟨g, o, none⟩) l) (k : Nat) : SRow w (some ⟨g, o + k, none⟩) (l.drop k) := ⟨fun hl => by
  obtain ⟨g', o', e, h1⟩ := h.it (fun e => hl (by rw [e]; simp))
  injection e with e
  injection e with e1 e2
  subst e1 e2
  refine ⟨g, o + k, rfl, fun i hi => ?_⟩
  rw [List.length_drop] at hi
  rw [List.getElem_drop, Nat.add_assoc]
  exact h1 (k + i) (by omega)⟩
/-- a list cut with three indexes, nothing behind it -/
theorem slice_tail (w : World) (a : Option Addr) (C : Nat) (l : List ByteArray) (k : Nat) (hk : k ≤ l.length) (hC : l.length ≤ C) (hz : a = none → l = []) (h : SRow w a l) :
    ∃ ao, (∀ W, (Instr.slice 23 (.slice a l.length C) (some (.int .i64 (k : Int))) (some (.int .i64 (l.length : Int))) (some (.int .i64 (l.length : Int)))).run Try.prog W = .ok (.slice ao (l.length - k) (l.length - k)) W) ∧
      (ao = none → l = []) ∧ SRow w ao (l.drop k) := by
  have hsz : ∀ W : World, (sizeOf (Try.prog.elem 23)).run Try.prog W = .ok 1 W := fun W => by
    rw [show Try.prog.elem 23 = 9 from by kernel_rfl]; exact Try.sizeOf9 W
  have hrun : ∀ W, (Instr.slice 23 (.slice a l.length C) (some (.int .i64 (k : Int))) (some (.int .i64 (l.length : Int))) (some (.int .i64 (l.length : Int)))).run Try.prog W = .ok (sliced a k l.length l.length 1) W := fun W => by
    rw [run_slice_lhm W 23 a l.length C (by rw [show Try.prog.elem 23 = 9 from by kernel_rfl]; exact Try.underlying23) .i64 .i64 .i64 k l.length l.length (by omega) (by omega) (by omega) (by omega), hsz]
    simp [Result.andThen]
  by_cases hl : l = []
  · subst hl
    refine ⟨a, fun W => ?_, fun _ => rfl, by rw [List.drop_nil]; exact SRow.nil _ _⟩
    rw [hrun]
    simp [sliced] at hk ⊢
    intro h1; omega
  · by_cases hkn : l.length = k
    · refine ⟨a, fun W => ?_, hz, ?_⟩
      · rw [hrun]; simp [sliced, hkn]
      · rw [List.drop_of_length_le (by omega)]; exact SRow.nil _ _
    · obtain ⟨g, o, rfl, _⟩ := h.it hl
      refine ⟨some ⟨g, o + k, none⟩, fun W => ?_, (fun e => by cases e), row_drop h k⟩
      rw [hrun]
      simp [sliced, hkn, Addr.add]
set_option maxRecDepth 20000 in
theorem behindS_any (a : Option Addr) (C : Nat) (l : List ByteArray) (x : ByteArray) (most : Nat) (hm : 1 ≤ most) (hm2 : most ≤ 1000) (hn : l.length ≤ 1048576) (hC : l.length ≤ C) (hz : a = none → l = []) (w : World) (h : SRow w a l) :
    Calls Try.prog 134 #[.slice a l.length C, .string x, .int .i64 (most : Int)] w fun e w' => ∃ v', e = .returned v' ∧ w'.ownsRow w.heap.size 9 1 v' (l.drop (l.length + 1 - most) ++ [x]).length ((l.drop (l.length + 1 - most) ++ [x]).map Value.string) ∧ Below w.heap.size w w' := by
  obtain ⟨i0, hi, hz0, hz1, hz2⟩ := info_parts infoS
  obtain ⟨k, hk⟩ : ∃ k, k = l.length + 1 - most := ⟨_, rfl⟩
  rw [← hk]
  obtain ⟨ao, hrun, hnil, hrow⟩ := slice_tail w a C l k (by omega) hC hz h
  have hmx : max ((l.length : Int) + 1 - (most : Int)) 0 = (k : Int) := by omega
  have hk0 : (0 : Int) ≤ k := by omega
  have HR := Lib.hid hrow
  have HNI := Lib.hid hnil
  have HLEN := Lib.hid (show (l.drop k).length = l.length - k from List.length_drop)
  obtain ⟨m, hmm⟩ : ∃ m, m = l.length - k := ⟨_, rfl⟩
  obtain ⟨n, hn'⟩ : ∃ n, n = l.length := ⟨_, rfl⟩
  rw [← hmm] at hrun HLEN
  have hkn : (k : Int) ≤ l.length := by omega
  have hm3 : m ≤ 1048576 := by omega
  have HEMP := Lib.hid (show l = [] → m = 0 from fun e => by rw [hmm, e]; simp)
  rw [← hn'] at hn hrun hmx hkn ⊢
  clear hC hz h hrow hnil hmm hn' hk
  go_enter Try.func134, Try.ntmps134
  go_wp2_with (first | (at_builtin; refine wpList_append_grows _ rfl _ _ 23 rfl 9 i0 (.string ⟨#[]⟩) 1 16 Try.underlying23 hi hz0 hz1 hz2 rfl (by decide) ao m m ((l.drop k).map Value.string) rfl ?c0 ?c1 ?c2 ⟨w.heap.size, 0, none⟩ 1 1 [.string x] rfl rfl ?c3 ?c4 ?c5 ?c6 ?c7 ?_))
  case c0 =>
    intro e
    have := HEMP.out (HNI.out e)
    exact ⟨this, this⟩
  case c1 => rw [List.length_map, HLEN.out]; omega
  case c2 =>
    intro b e j u hj
    rw [List.getElem?_map] at hj
    by_cases hjl : j < (l.drop k).length
    · obtain ⟨g, o, e2, hc⟩ := (HR.out.below ((Below.refl _ w).alloc (Nat.le_refl _) (.cells #[.string x] 9))).at hjl
      rw [e] at e2
      injection e2 with e2
      subst e2
      rw [add_plain rfl, hc]
      rw [List.getElem?_eq_getElem hjl] at hj
      simpa using hj
    · rw [List.getElem?_eq_none (by omega)] at hj
      cases hj
  case c3 =>
    intro j u hj
    match j, hj with
    | 0, hj => simp at hj; subst hj; simp [Addr.add]
  case c4 => intro u hu; simp at hu; subst hu; rfl
  case c5 => omega
  case c6 => unfold maxLen; omega
  case c7 => omega
  intro v' w4 hown hgrow
  have HO := Lib.hid (show w4.ownsRow w.heap.size 9 1 v' (l.drop k ++ [x]).length ((l.drop k ++ [x]).map Value.string) from by
    rw [List.length_append, HLEN.out, List.map_append, List.map_drop]
    exact own_lo hown (Nat.le_succ _))
  have HB := Lib.hid (((Below.refl _ w).alloc (Nat.le_refl _) (.cells #[.string x] 9)).grown hgrow (by simp) (fun j hj => by cases hj))
  clear hown hgrow
  go_wp2
  go_ret
  exact ⟨_, rfl, HO.out, HB.out⟩
theorem grown_any (s x : ByteArray) (more : Int) (hs : s.size ≤ 1000000000) (hx : x.size ≤ 1000000000) (w : World) :
    Calls Try.prog 115 #[.string s, .string x, .int .i64 more] w fun e w' => e = .returned (.string (if 0 < more then s ++ x else x ++ s)) ∧ Below w.heap.size w w' := by
  by_cases h : 0 < more
  · rw [if_pos h]
    go_enter Try.func115, Try.ntmps115
    go_wp2_with fail
    refine (joined_any s x (by omega) (by omega) _).mono ?_
    rintro e w1 ⟨rfl, hb⟩
    have HB := Lib.hid hb
    clear hb
    go_wp2
    go_ret
    exact ⟨rfl, HB.out⟩
  · rw [if_neg h]
    have h2 : ¬ (more > 0) := h
    have hd := Lib.hid (show decide (0 < more) = false from decide_eq_false h)
    go_enter Try.func115, Try.ntmps115
    have hd := hd.out
    go_wp2_with fail
    refine (joined_any x s (by omega) (by omega) _).mono ?_
    rintro e w1 ⟨rfl, hb⟩
    have HB := Lib.hid hb
    clear hb
    go_wp2
    go_ret
    exact ⟨rfl, HB.out⟩
theorem drop_trim {l : List ByteArray} {x : ByteArray} (h : l.length ≤ 5) : l.drop (l.length + 1 - 5) ++ [x] = trimV (l ++ [x]) := by
  unfold trimV
  by_cases h5 : l.length = 5
  · rw [if_pos (by simp; omega), h5, List.drop_append_of_le_length (by omega)]
  · rw [if_neg (by simp; omega), show l.length + 1 - 5 = 0 by omega, List.drop_zero]
theorem behind5_any (a : Option Addr) (C : Nat) (l : List ByteArray) (x : ByteArray) (hn : l.length ≤ 5) (hC : l.length ≤ C) (hz : a = none → l = []) (w : World) (h : SRow w a l) :
    Calls Try.prog 134 #[.slice a l.length C, .string x, .int .i64 5] w fun e w' => ∃ a' c', e = .returned (.slice a' (trimV (l ++ [x])).length c') ∧ SRow w' a' (trimV (l ++ [x])) ∧ SBlk w.heap.size w' a' (trimV (l ++ [x])).length ∧ Below w.heap.size w w' :=
  (behindS_any a C l x 5 (by omega) (by omega) (by omega) hC hz w h).mono fun e w' ⟨v', e1, e2, e3⟩ => by
    obtain ⟨a', c', rfl, _, _, h1, h2⟩ := own_open e2
    rw [drop_trim hn] at e1 h1 h2
    exact ⟨a', c', e1, h1, h2, e3⟩
theorem trim_len {l : List ByteArray} {x : ByteArray} (h : l.length ≤ 5) : 1 ≤ (trimV (l ++ [x])).length ∧ (trimV (l ++ [x])).length ≤ 5 := by
  unfold trimV
  by_cases h5 : l.length = 5
  · rw [if_pos (by simp; omega)]; simp; omega
  · rw [if_neg (by simp; omega)]; simp; omega
theorem ringPut_any (a : Option Addr) (C : Nat) (l : List ByteArray) (t : Int) (x : ByteArray) (hn : l.length ≤ 5) (hC : l.length ≤ C) (hz : a = none → l = []) (w : World) (h : SRow w a l) :
    Calls Try.prog 116 #[kV a l.length C t, .string x] w fun e w' => ∃ a' c', e = .returned (kV a' (trimV (l ++ [x])).length c' ((trimV (l ++ [x])).length - 1)) ∧ SRow w' a' (trimV (l ++ [x])) ∧ SBlk w.heap.size w' a' (trimV (l ++ [x])).length ∧ Below w.heap.size w w' := by
  have hal := ((Below.refl _ w).alloc (Nat.le_refl _) (.cells #[.slice a l.length C, .int .i64 t] 78)).alloc (by simp) (.cells #[.slice none 0 0, .int .i64 0] 78)
  have HC := Lib.hid (behind5_any a C l x hn hC hz _ (h.below hal))
  have hlen := trim_len (x := x) hn
  have hpos : 1 ≤ (trimV (l ++ [x])).length := hlen.1
  have hle : (trimV (l ++ [x])).length ≤ 1048576 := by omega
  obtain ⟨T, hT⟩ : ∃ T, T = trimV (l ++ [x]) := ⟨_, rfl⟩
  obtain ⟨q, hq⟩ : ∃ q, q = T.length := ⟨_, rfl⟩
  obtain ⟨n, hn'⟩ : ∃ n, n = l.length := ⟨_, rfl⟩
  have HQ := Lib.hid hq
  rw [← hT, ← hq, ← hn'] at HC
  rw [← hT, ← hq] at hpos hle ⊢
  rw [← hn'] at hal ⊢
  have HB := Lib.hid hal
  have HLA := Lib.hid (fun a C t W => last_any a q C t hle W)
  have HLV := Lib.hid (show lastT q = (q : Int) - 1 by unfold lastT; omega)
  unfold kV at HLA ⊢
  clear hal h hz hC hn hn' hT hq hlen
  go_enter Try.func116, Try.ntmps116
  go_wp2_with fail
  refine HC.out.mono ?_
  rintro e w1 ⟨a', c', rfl, hr, hs, hb⟩
  have HR1 := Lib.hid hr
  have HS1 := Lib.hid (SBlk.lo (b' := w.heap.size) hs (by simp; omega))
  have HNF := Lib.hid (hs.ne (b := w.heap.size + 1) (by simp))
  have hne1 := hs.ne (b := w.heap.size + 1) (by simp)
  have HX1 := Lib.hid ((bthen HB.out hb (by simp; omega)).alloc (by have := hb.size; simp at this; omega) (.cells #[.slice a' q c', .int .i64 0] 78))
  have z1 : w.heap.size + 1 < w1.heap.size := by have := hb.size; simp at this; omega
  obtain ⟨p1, q1⟩ := keepC hb (g := w.heap.size + 1) (by simp)
  have c0 : w1.cell? ⟨w.heap.size + 1, 0, none⟩ = some (.slice none 0 0) := by rw [p1 0]; simp [go_sem]
  have c1 : w1.cell? ⟨w.heap.size + 1, 1, none⟩ = some (.int .i64 0) := by rw [p1 1]; simp [go_sem]
  have f0 : w1.frozen? ⟨w.heap.size + 1, 0, none⟩ = false := by rw [q1 0]; simp [go_sem]
  have f1 : w1.frozen? ⟨w.heap.size + 1, 1, none⟩ = false := by rw [q1 1]; simp [go_sem]
  have HNE := Lib.hid (show T ≠ [] → blockOf a' ≠ some (w.heap.size + 1) from fun e => hne1 (fun e2 => e (List.eq_nil_of_length_eq_zero (by rw [← HQ.out]; exact e2))))
  have HNB := Lib.hid (show T ≠ [] → blockOf a' ≠ some w1.heap.size from fun e => by
    obtain ⟨g, o, e1, h1⟩ := HR1.out.it e
    have := blk_lt (h1 0 (List.length_pos_iff.2 e))
    rw [e1]; intro e2; injection e2 with e2; simp at e2 this; omega)
  have HNG := Lib.hid (show q ≠ 0 → blockOf a' ≠ some w1.heap.size from fun e => HNB.out (fun e2 => e (by rw [HQ.out, e2]; rfl)))
  clear hr hs hb p1 q1 hne1
  go_wp2_with fail
  refine (HLA.out _ _ _ _).mono ?_
  rintro e w2 ⟨rfl, hb⟩
  have HX2 := Lib.hid (bthen HX1.out hb HX1.out.size)
  have HR2 := Lib.hid ((HR1.out.below ((Below.refl _ w1).alloc (Nat.le_refl _) (.cells #[.slice a' q c', .int .i64 0] 78))).below hb)
  have HS2 := Lib.hid ((HS1.out.below ((Below.refl _ w1).alloc (Nat.le_refl _) (.cells #[.slice a' q c', .int .i64 0] 78))).below hb)
  have z2 : w1.heap.size < w2.heap.size := by have := hb.size; simp at this; omega
  obtain ⟨p1, q1⟩ := keepC hb (g := w.heap.size + 1) (by simp; omega)
  obtain ⟨p2, q2⟩ := keepC hb (g := w1.heap.size) (by simp)
  have c0 : w2.cell? ⟨w.heap.size + 1, 0, none⟩ = some (.slice none 0 0) := by rw [p1 0]; simp [go_sem, c0, z1]
  have c1 : w2.cell? ⟨w.heap.size + 1, 1, none⟩ = some (.int .i64 0) := by rw [p1 1]; simp [go_sem, c1, z1]
  have f0 : w2.frozen? ⟨w.heap.size + 1, 0, none⟩ = false := by rw [q1 0]; simp [go_sem, f0, z1]
  have f1 : w2.frozen? ⟨w.heap.size + 1, 1, none⟩ = false := by rw [q1 1]; simp [go_sem, f1, z1]
  have e0 : w2.cell? ⟨w1.heap.size, 0, none⟩ = some (.slice a' q c') := by rw [p2 0]; simp [go_sem]
  have e1 : w2.cell? ⟨w1.heap.size, 1, none⟩ = some (.int .i64 0) := by rw [p2 1]; simp [go_sem]
  have g1 : w2.frozen? ⟨w1.heap.size, 1, none⟩ = false := by rw [q2 1]; simp [go_sem]
  have ne1 : w.heap.size + 1 ≠ w1.heap.size := by omega
  have ne2 : w1.heap.size ≠ w.heap.size + 1 := by omega
  rw [HLV.out]
  clear hb p1 q1 p2 q2
  go_wp2
  refine bodyPost_ret (v := kV a' q c' ((q : Int) - 1)) (by simp [kV, results, Try.results116, go_sem, c0, c1]) rfl ⟨a', c', rfl, ?_, ?_, ?_⟩
  · exact ((HR2.out.setA HNB.out).setA HNE.out).setA HNE.out
  · exact ((HS2.out.setA HNG.out).setA HNF.out).setA HNF.out
  · exact ((HX2.out.setCell (p := ⟨w1.heap.size, 1, none⟩) (show w.heap.size ≤ w1.heap.size by omega) _).setCell (p := ⟨w.heap.size + 1, 0, none⟩) (by show w.heap.size ≤ w.heap.size + 1; omega) _).setCell (p := ⟨w.heap.size + 1, 1, none⟩) (by show w.heap.size ≤ w.heap.size + 1; omega) _
end Go.Proofs.Ytgmbpohbjhaghaa.kill
