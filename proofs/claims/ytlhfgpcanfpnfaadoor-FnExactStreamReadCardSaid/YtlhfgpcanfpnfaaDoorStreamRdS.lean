/-
  StreamRead of the model. For every text that the row reads.
-/
import Derived.Test.YtlhfgpcanfpnfaaDoorSplit
import Derived.Test.YtlhfgpcanfpnfaaDoorStreamRead
namespace Go.Proofs.YtlhfgpcanfpnfaaDoor.frames
open Go.ChangeShapes Go.WideShapes Go.ChangeAt Go.RowKit Go.Deep
open Go.Proofs.YtlhfgpcanfpnfaaDoor.strs Go.Proofs.YtlhfgpcanfpnfaaDoor.frame Go.Proofs.YtlhfgpcanfpnfaaDoor.line Go.Proofs.YtlhfgpcanfpnfaaDoor.varb
theorem sCells_at (l : List ByteArray) (i : Nat) (h : i < l.length) : (sCells l)[i]? = some (.string l[i]) := by simp [sCells, List.getElem?_eq_getElem h]
/-- a row of texts of one's own, as rows are spoken of -/
theorem own_srow {w : World} {base : Nat} {v : Value} {l : List ByteArray} (h : w.ownsRow base 9 1 v l.length (sCells l)) : ∃ a C, v = .slice a l.length C ∧ SRow w a l := by
  rcases h.2 with ⟨rfl, hn⟩ | ⟨g, cap, cur, rfl, h1, h2, h3, h4, h5, h6⟩
  · obtain rfl := List.eq_nil_of_length_eq_zero hn
    exact ⟨none, 0, rfl, ⟨fun h => absurd rfl h⟩⟩
  · refine ⟨some ⟨g, 0, none⟩, cap, rfl, ⟨fun _ => ⟨g, 0, rfl, fun i hi => ?_⟩⟩⟩
    rw [Nat.zero_add, h.cellAt i (by omega)]
    exact sCells_at l i hi
theorem own_apart {w : World} {B B' : Nat} {e e' : TypeId} {s s' n n' : Nat} {v v' : Value} {xs xs' : List Value} (h : w.ownsRow B e s v n xs) (h' : w.ownsRow B' e' s' v' n' xs') (he : e ≠ e') : v.ownBlock = none ∨ v.ownBlock ≠ v'.ownBlock := by
  rcases h.2 with ⟨rfl, _⟩ | ⟨g, cap, cur, rfl, _, h1, _⟩
  · exact .inl rfl
  · rcases h'.2 with ⟨rfl, _⟩ | ⟨g', cap', cur', rfl, _, h2, _⟩
    · exact .inr (by simp [Value.ownBlock])
    · refine .inr fun e1 => ?_
      have e2 : g = g' := by simpa [Value.ownBlock] using e1
      subst e2
      rw [h1] at h2
      injection h2 with h2
      injection h2 with _ h3
      exact he h3
noncomputable def fromP (P : List ByteArray) (k : Nat) : List FT := (P.take k).map fun p => (outF p).1
theorem fromP_len {P : List ByteArray} {k : Nat} (h : k ≤ P.length) : (fromP P k).length = k := by simp [fromP, h]
theorem fromP_step {P : List ByteArray} {k : Nat} (h : k < P.length) : fromP P (k + 1) = fromP P k ++ [(outF P[k]).1] := by
  unfold fromP
  rw [List.take_add_one, List.getElem?_eq_getElem h, List.map_append]
  rfl
theorem outF_size (p : ByteArray) : (outF p).1.2.2.size ≤ 80 := by
  unfold outF
  split
  · simp [noF, ByteArray.size]
  · split
    · rename_i f hf
      exact (frB_facts (readV_some hf).1).2.2.2.2.1
    · simp [noF, ByteArray.size]
theorem outF_text {f : FT} (h : frF f = true) : (outF (bA (frL f.1 f.2.1 f.2.2))).1 = f := by
  have hl : ¬ 8000 < (bA (frL f.1 f.2.1 f.2.2)).size := by
    rw [bA_size]
    have := frL_len (k := f.1) (a := f.2.1) (t := f.2.2) h
    omega
  rw [outF_some hl (read_text h)]
/-- what the model comes to -/
theorem strRd_model {s : ByteArray} (h8 : ¬ 8000 < s.size) {m : Nat} (hm : m = min ((splitR s.data.toList).length - 1) 401) :
    (strTx (fromP ((splitR s.data.toList).map bA) m) = s → strRd s = (fromP ((splitR s.data.toList).map bA) m, 0)) ∧
    (strTx (fromP ((splitR s.data.toList).map bA) m) ≠ s → strRd s = ([], 3)) := by
  obtain ⟨h1, _⟩ := splitR_len s.data.toList
  constructor
  · intro h
    have hall : allF (fromP ((splitR s.data.toList).map bA) m) = true := by
      cases ha : allF (fromP ((splitR s.data.toList).map bA) m)
      · exfalso
        unfold strTx at h
        rw [if_neg (by rw [ha]; exact Bool.noConfusion)] at h
        rw [← h] at hm ha
        have e1 : m = 0 := by rw [hm]; simp [splitR]
        rw [e1] at ha
        simp [fromP, allF] at ha
      · rfl
    refine strRd_is h8 ⟨?_, ?_, ?_⟩
    · simp only [allF, Bool.and_eq_true, decide_eq_true_eq] at hall; exact hall.1
    · simp only [allF, Bool.and_eq_true, decide_eq_true_eq] at hall; exact fun f hf => List.all_eq_true.1 hall.2 f hf
    · unfold strTx at h
      rw [if_pos hall] at h
      have h5 := congrArg (fun b : ByteArray => b.data.toList) h
      simpa using h5
  · intro h
    refine strRd_no h8 fun l ⟨h2, h3, h4⟩ => h ?_
    have hs : splitR s.data.toList = (l.map fun f => frL f.1 f.2.1 f.2.2) ++ [[]] := by rw [← h4]; exact splitR_str h3
    have hml : m = l.length := by rw [hm, hs]; simp; omega
    have hf : fromP ((splitR s.data.toList).map bA) m = l := by
      unfold fromP
      rw [hs, hml, List.map_append, List.take_append_of_le_length (by simp), List.take_of_length_le (by simp), List.map_map, List.map_map]
      conv => rhs; rw [← List.map_id l]
      exact List.map_congr_left fun f hf => outF_text (h3 f hf)
    rw [hf]
    unfold strTx
    rw [if_pos (by simp only [allF, Bool.and_eq_true, decide_eq_true_eq]; exact ⟨h2, List.all_eq_true.2 h3⟩), h4]
set_option maxRecDepth 30000 in
set_option maxHeartbeats 3200000 in
theorem specStreamRd_any (s : ByteArray) (hs : s.size ≤ maxLen) (w : World) :
    Calls Tryd.prog 8 #[.string s] w fun e w' => ∃ a C, e = .returned (.agg #[.slice a (strRd s).1.length C, .int .i64 (strRd s).2]) ∧ FRow w' a (strRd s).1 ∧ Below w.heap.size w w' := by
  unfold maxLen at hs
  by_cases h8 : (8000 : Int) < s.size
  · have HV := Lib.hid (strRd_big (s := s) (by omega))
    rw [HV.out]
    go_enter Tryd.func8, Tryd.ntmps8
    go_wp2
    exact bodyPost_ret (v := .agg #[.slice none 0 0, .int .i64 2]) (by simp [results, Tryd.results8, go_sem]) rfl
      ⟨none, 0, rfl, FRow.nil _ _, by repeat (first | exact Below.refl _ w | refine Below.alloc ?_ (by simp; try omega) _)⟩
  obtain ⟨i0, hi, hz0, hz1, hz2⟩ := info_parts infoFr
  have h8' : s.size ≤ 8000 := by omega
  have HSP := Lib.hid (split_any s h8')
  obtain ⟨P, hP⟩ : ∃ P, P = (splitR s.data.toList).map bA := ⟨_, rfl⟩
  have hPl : P.length = (splitR s.data.toList).length := by rw [hP]; simp
  have hP1 : 1 ≤ P.length := by rw [hPl]; exact (splitR_len _).1
  have hP2 : P.length ≤ 8001 := by rw [hPl]; have h1 := (splitR_len s.data.toList).2; have h2 : s.data.toList.length = s.size := rfl; omega
  have HPS := Lib.hid (show ∀ p ∈ P, p.size ≤ 8000 from fun p hp => by
    rw [hP] at hp
    obtain ⟨q, hq, rfl⟩ := List.mem_map.1 hp
    rw [bA_size]
    have h1 := splitR_mem s.data.toList q hq
    have h2 : s.data.toList.length = s.size := rfl
    omega)
  have HMD := Lib.hid (strRd_model (s := s) (by omega) rfl)
  rw [← hP] at HSP
  rw [← hPl, ← hP] at HMD
  obtain ⟨n, hn⟩ : ∃ n, n = P.length := ⟨_, rfl⟩
  have HNP := Lib.hid hn
  rw [← hn] at HSP HMD hP1 hP2
  obtain ⟨M, hM⟩ : ∃ M, M = min (n - 1) 401 := ⟨_, rfl⟩
  rw [← hM] at HMD
  have hM1 : M ≤ n - 1 := by omega
  have hM2 : M ≤ 401 := by omega
  have hM3 : M < n - 1 → M = 401 := by omega
  have HM3 := Lib.hid hM3
  have HVB0 := Lib.hid ((VarB.new w #[.slice none 0 0, .int .i64 0] 31).alloc (.cells #[] 23))
  have HO0 := Lib.hid (show ((w.alloc (.cells #[.slice none 0 0, .int .i64 0] 31)).alloc (.cells #[] 23)).ownsRow (w.alloc (.cells #[.slice none 0 0, .int .i64 0] 31)).heap.size 23 3 (.slice (some ⟨(w.alloc (.cells #[.slice none 0 0, .int .i64 0] 31)).heap.size, 0, none⟩) 0 0) 0 (fCells []) from World.ownsRow_lit _ #[] 0 (Nat.le_refl _) (by decide) rfl)
  have HB0 := Lib.hid (((Below.refl _ w).alloc (Nat.le_refl _) (.cells #[.slice none 0 0, .int .i64 0] 31)).alloc (by simp) (.cells #[] 23))
  clear hP hPl hn hM hM3
  go_enter Tryd.func8, Tryd.ntmps8
  go_wp2_with fail
  refine (HSP.out _).mono ?_
  rintro e w1 ⟨v, rfl, hown, hb⟩
  have HVB1 := Lib.hid (HVB0.out.below hb)
  have HO1 := Lib.hid (own_later HO0.out hb)
  have HB1 := Lib.hid (bthen HB0.out hb (by simp; omega))
  rw [HNP.out] at hown
  obtain ⟨aw, Cw, rfl, hsrow⟩ := own_srow hown
  rw [← HNP.out] at hown ⊢
  have HSO := Lib.hid hown
  clear hb hown hsrow HVB0 HO0 HB0
  go_wp2
  go_loopw [3, 5] (fun lv iv wr => ∃ k : Nat, k ≤ M ∧ iv = .int .i64 k ∧ wr.ownsRow (w.heap.size + 1) 23 3 lv k (fCells (fromP P k)) ∧ VarB wr w.heap.size #[.slice none 0 0, .int .i64 0] 31 ∧ Below w.heap.size w wr ∧ wr.ownsRow ((w.alloc (.cells #[.slice none 0 0, .int .i64 0] 31)).alloc (.cells #[] 23)).heap.size 9 1 (.slice aw n Cw) n (sCells P)) (fun _ iv _ => M - (intOf iv).toNat)
  case atStart => exact ⟨0, Nat.zero_le _, rfl, by simpa [fromP, fCells] using HO1.out, HVB1.out, HB1.out, HSO.out⟩
  case round =>
    obtain ⟨k, hk, rfl, hown, hvb, hbel, hso⟩ := hrel
    rename World => wr
    have HO := Lib.hid hown
    have HVB := Lib.hid hvb
    have HB := Lib.hid hbel
    have HSW := Lib.hid hso
    have hso2 := hso
    rw [HNP.out] at hso2
    obtain ⟨aw2, Cw2, he, hsr2⟩ := own_srow hso2
    rw [← HNP.out] at he
    obtain ⟨rfl, rfl⟩ : aw = aw2 ∧ Cw = Cw2 := by injection he with e1 _ e3; exact ⟨e1, e3⟩
    have HSR2 := Lib.hid hsr2
    have hzz := hvb.lt
    clear hown hvb hbel hso hso2 hsr2 he
    by_cases hlt : k < M
    · have hkn : k < n - 1 := by omega
      have hk4 : k ≤ 400 := by omega
      have hkP : k < P.length := by rw [← HNP.out]; omega
      obtain ⟨g, o, rfl, c0⟩ := HSR2.out.at hkP
      have hps := HPS.out P[k] (List.getElem_mem hkP)
      have HST := Lib.hid (fromP_step hkP)
      obtain ⟨p, hp⟩ : ∃ p, p = P[k] := ⟨_, rfl⟩
      rw [← hp] at c0 hps HST
      have HFR := Lib.hid (specRead_any p (by unfold maxLen; omega))
      obtain ⟨f, hf⟩ : ∃ f, f = (outF p).1 := ⟨_, rfl⟩
      obtain ⟨c, hc⟩ : ∃ c, c = (outF p).2 := ⟨_, rfl⟩
      rw [← hf, ← hc] at HFR
      rw [← hf] at HST
      have e1 : (n : Int) - 1 = ((n - 1 : Nat) : Int) := by omega
      unfold foV at HFR
      have hfd : ∀ W : World, (Instr.field 25 (.agg #[.int .i64 f.1, .int .i64 f.2.1, .string f.2.2, .int .i64 c]) 0).run Tryd.prog W = .ok (.agg #[.int .i64 f.1, .int .i64 f.2.1, .string f.2.2]) W := fun _ => by kernel_rfl
      clear hp hf hc hps
      go_wp2_with fail
      refine (HFR.out _).mono ?_
      rintro e w3 ⟨rfl, hb⟩
      have HVB3 := Lib.hid (HVB.out.below hb)
      have HB3 := Lib.hid (bthen HB.out hb HB.out.size)
      have HSW3 := Lib.hid (own_later HSW.out hb)
      have HO3 := Lib.hid (own_later HO.out hb)
      have l3 := HVB3.out.lt
      have HO4 := Lib.hid (HO3.out.alloc (.cells #[.int .i64 f.1, .int .i64 f.2.1, .string f.2.2] 23))
      clear hb
      go_wp2_with (first | (at_builtin; refine wpList_append_own _ rfl _ _ 29 rfl (w.heap.size + 1) 23 i0 (.agg #[.int .i64 0, .int .i64 0, .string ⟨#[]⟩]) 3 32 Tryd.underlying29 hi hz0 hz1 hz2 rfl (by decide) _ _ _ rfl HO4.out ⟨w3.heap.size, 0, none⟩ 1 1 [.int .i64 f.1, .int .i64 f.2.1, .string f.2.2] rfl rfl ?c1 ?c2 ?c3 ?c4 ?c5 ?_))
      case c1 =>
        intro j u hj
        match j, hj with
        | 0, hj => simp at hj; subst hj; simp [Addr.add]
        | 1, hj => simp at hj; subst hj; simp [Addr.add]
        | 2, hj => simp at hj; subst hj; simp [Addr.add]
      case c2 => intro u hu; simp at hu; rcases hu with rfl | rfl | rfl <;> rfl
      case c3 => unfold maxLen; omega
      case c4 => omega
      case c5 => simp; omega
      intro v' w4 hown' hgrow _
      have HO5 := Lib.hid (show w4.ownsRow (w.heap.size + 1) 23 3 v' (k + 1) (fCells (fromP P (k + 1))) by
        rw [HST.out, fCells_append, fCells_one]
        exact hown')
      have HB4 := Lib.hid ((HB3.out.alloc HB3.out.size (.cells #[.int .i64 f.1, .int .i64 f.2.1, .string f.2.2] 23)).grown hgrow (by have := HB3.out.size; simp; omega) (fun j hj => by have := (HO4.out.lt j hj).1; omega))
      have HVB4 := Lib.hid ((HVB3.out.alloc (.cells #[.int .i64 f.1, .int .i64 f.2.1, .string f.2.2] 23)).grown hgrow (fun e => by have := (HO4.out.lt _ e).1; omega))
      have HSW4 := Lib.hid ((HSW3.out.alloc (.cells #[.int .i64 f.1, .int .i64 f.2.1, .string f.2.2] 23)).kept hgrow (own_apart (HSW3.out.alloc _) HO4.out (by decide)))
      clear hown' hgrow
      go_wp2
      go_roundw
      case rel => exact ⟨k + 1, by omega, by go_num, HO5.out, HVB4.out, HB4.out, HSW4.out⟩
      case measure => simp [intOf]; omega
    · obtain rfl : k = M := by omega
      have e1 : (n : Int) - 1 = ((n - 1 : Nat) : Int) := by omega
      have hlen := fromP_len (P := P) (k := k) (by rw [← HNP.out]; omega)
      have HO2 := Lib.hid (show wr.ownsRow (w.heap.size + 1) 23 3 u3 (fromP P k).length (fCells (fromP P k)) by rw [hlen]; exact HO.out)
      obtain ⟨al, Cl, hu, hfrow, hfblk⟩ := own_row HO2.out
      rw [hlen] at hfblk
      have HFB := Lib.hid hfblk
      rw [hlen] at hu
      subst hu
      have HFR := Lib.hid hfrow
      have HTX := Lib.hid (specStream_any al Cl (fromP P k) (by rw [hlen]; omega) (fun f hf => by
        obtain ⟨p, _, rfl⟩ := List.mem_map.1 hf
        have := outF_size p
        omega) wr hfrow)
      rw [hlen] at HTX
      have HLN := Lib.hid hlen
      have y0 := HVB.out.cell (i := 0) rfl
      have y1 := HVB.out.cell (i := 1) rfl
      have f0 := HVB.out.froz 0
      have f1 := HVB.out.froz 1
      obtain ⟨T, hT⟩ : ∃ T, T = strTx (fromP P k) := ⟨_, rfl⟩
      rw [← hT] at HTX HMD
      clear hfrow hlen hT hfblk
      by_cases hts : T = s
      · have hq : (T.toList == s.toList) = true := by rw [eqS, decide_eq_true hts]
        have HV := Lib.hid (HMD.out.1 hts)
        clear hts
        by_cases hkn : k < n - 1
        · have hk4 : k = 401 := HM3.out hkn
          have hk5 : ¬ (k : Int) ≤ 400 := by omega
          have hk6 : (k : Int) < ((n - 1 : Nat) : Int) := by omega
          clear hk4
          go_wp2_with fail
          refine HTX.out.mono ?_
          rintro e w2 ⟨rfl, hb⟩
          have HVB2 := Lib.hid (HVB.out.below hb)
          have HB2 := Lib.hid (bthen HB.out hb HB.out.size)
          have HFR2 := Lib.hid (HFR.out.below hb)
          have HFB2 := Lib.hid (HFB.out.below hb)
          have z0 := HVB2.out.cell (i := 0) rfl
          have z1 := HVB2.out.cell (i := 1) rfl
          have f0 := HVB2.out.froz 0
          have f1 := HVB2.out.froz 1
          clear hb
          have H1 := Lib.hid (row_set (o := 0) (.slice al k Cl) HFR2.out (by rw [HLN.out]; exact HFB2.out))
          have H2 := Lib.hid (row_set (o := 1) (.int .i64 0) H1.out.1 H1.out.2)
          go_wp2
          exact bodyPost_ret (v := .agg #[.slice al k Cl, .int .i64 0]) (by simp [results, Tryd.results8, go_sem, z0, z1]) rfl
            ⟨al, by rw [HV.out]; first
              | exact ⟨⟨Cl, by rw [HLN.out]⟩, H2.out.1, by repeat (first | exact HB2.out | refine Below.setCell (B := w.heap.size) (p := ⟨w.heap.size, _, none⟩) ?_ (Nat.le_refl _) _)⟩
              | exact ⟨Cl, by rw [HLN.out], H2.out.1, by repeat (first | exact HB2.out | refine Below.setCell (B := w.heap.size) (p := ⟨w.heap.size, _, none⟩) ?_ (Nat.le_refl _) _)⟩⟩
        · have hk6 : ¬ (k : Int) < ((n - 1 : Nat) : Int) := by omega
          go_wp2_with fail
          refine HTX.out.mono ?_
          rintro e w2 ⟨rfl, hb⟩
          have HVB2 := Lib.hid (HVB.out.below hb)
          have HB2 := Lib.hid (bthen HB.out hb HB.out.size)
          have HFR2 := Lib.hid (HFR.out.below hb)
          have HFB2 := Lib.hid (HFB.out.below hb)
          have z0 := HVB2.out.cell (i := 0) rfl
          have z1 := HVB2.out.cell (i := 1) rfl
          have f0 := HVB2.out.froz 0
          have f1 := HVB2.out.froz 1
          clear hb
          have H1 := Lib.hid (row_set (o := 0) (.slice al k Cl) HFR2.out (by rw [HLN.out]; exact HFB2.out))
          have H2 := Lib.hid (row_set (o := 1) (.int .i64 0) H1.out.1 H1.out.2)
          go_wp2
          exact bodyPost_ret (v := .agg #[.slice al k Cl, .int .i64 0]) (by simp [results, Tryd.results8, go_sem, z0, z1]) rfl
            ⟨al, by rw [HV.out]; first
              | exact ⟨⟨Cl, by rw [HLN.out]⟩, H2.out.1, by repeat (first | exact HB2.out | refine Below.setCell (B := w.heap.size) (p := ⟨w.heap.size, _, none⟩) ?_ (Nat.le_refl _) _)⟩
              | exact ⟨Cl, by rw [HLN.out], H2.out.1, by repeat (first | exact HB2.out | refine Below.setCell (B := w.heap.size) (p := ⟨w.heap.size, _, none⟩) ?_ (Nat.le_refl _) _)⟩⟩
      · have hq : (T.toList == s.toList) = false := by rw [eqS, decide_eq_false hts]
        have HV := Lib.hid (HMD.out.2 hts)
        clear hts
        by_cases hkn : k < n - 1
        · have hk4 : k = 401 := HM3.out hkn
          have hk5 : ¬ (k : Int) ≤ 400 := by omega
          have hk6 : (k : Int) < ((n - 1 : Nat) : Int) := by omega
          clear hk4
          go_wp2_with fail
          refine HTX.out.mono ?_
          rintro e w2 ⟨rfl, hb⟩
          have HVB2 := Lib.hid (HVB.out.below hb)
          have HB2 := Lib.hid (bthen HB.out hb HB.out.size)
          have HFR2 := Lib.hid (HFR.out.below hb)
          have HFB2 := Lib.hid (HFB.out.below hb)
          have z0 := HVB2.out.cell (i := 0) rfl
          have z1 := HVB2.out.cell (i := 1) rfl
          have f0 := HVB2.out.froz 0
          have f1 := HVB2.out.froz 1
          clear hb
          go_wp2
          exact bodyPost_ret (v := .agg #[.slice none 0 0, .int .i64 3]) (by simp [results, Tryd.results8, go_sem, z0, z1]) rfl
            ⟨none, by rw [HV.out]; first
              | exact ⟨⟨0, rfl⟩, FRow.nil _ _, by repeat (first | exact HB2.out | refine Below.setCell (B := w.heap.size) (p := ⟨w.heap.size, _, none⟩) ?_ (Nat.le_refl _) _)⟩
              | exact ⟨0, rfl, FRow.nil _ _, by repeat (first | exact HB2.out | refine Below.setCell (B := w.heap.size) (p := ⟨w.heap.size, _, none⟩) ?_ (Nat.le_refl _) _)⟩⟩
        · have hk6 : ¬ (k : Int) < ((n - 1 : Nat) : Int) := by omega
          go_wp2_with fail
          refine HTX.out.mono ?_
          rintro e w2 ⟨rfl, hb⟩
          have HVB2 := Lib.hid (HVB.out.below hb)
          have HB2 := Lib.hid (bthen HB.out hb HB.out.size)
          have HFR2 := Lib.hid (HFR.out.below hb)
          have HFB2 := Lib.hid (HFB.out.below hb)
          have z0 := HVB2.out.cell (i := 0) rfl
          have z1 := HVB2.out.cell (i := 1) rfl
          have f0 := HVB2.out.froz 0
          have f1 := HVB2.out.froz 1
          clear hb
          go_wp2
          exact bodyPost_ret (v := .agg #[.slice none 0 0, .int .i64 3]) (by simp [results, Tryd.results8, go_sem, z0, z1]) rfl
            ⟨none, by rw [HV.out]; first
              | exact ⟨⟨0, rfl⟩, FRow.nil _ _, by repeat (first | exact HB2.out | refine Below.setCell (B := w.heap.size) (p := ⟨w.heap.size, _, none⟩) ?_ (Nat.le_refl _) _)⟩
              | exact ⟨0, rfl, FRow.nil _ _, by repeat (first | exact HB2.out | refine Below.setCell (B := w.heap.size) (p := ⟨w.heap.size, _, none⟩) ?_ (Nat.le_refl _) _)⟩⟩
end Go.Proofs.YtlhfgpcanfpnfaaDoor.frames
