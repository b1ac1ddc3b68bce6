/-
  The model's HistLoad. For every text.
-/
import Derived.Test.YtgmbpohbjhaghaaDoorLoadMath
import Derived.Test.YtgmbpohbjhaghaaDoorBehind
import Derived.Test.YtgmbpohbjhaghaaDoorHistHarness
import Derived.Test.YtgmbpohbjhaghaaDoorVarB
namespace Go.Proofs.YtgmbpohbjhaghaaDoor.load
open Go.ChangeShapes Go.WideShapes Go.ChangeAt Go.RowKit
open Go.Proofs.YtgmbpohbjhaghaaDoor.strs Go.Proofs.YtgmbpohbjhaghaaDoor.hist Go.Proofs.YtgmbpohbjhaghaaDoor.varb
open Go.Proofs.YtgmbpohbjhaghaaDoor.line (textB)
open Go.Proofs.YtgmbpohbjhaghaaDoor.kill (own_lo own_set own_later own_open append_copy row_drop)
open Go.Proofs.YtgmbpohbjhaghaaDoor.read (textV getV rd getV_in toutV)
open Go.Proofs.YtgmbpohbjhaghaaDoor.unseal_ (unV)
open Go.Proofs.YtgmbpohbjhaghaaDoor.all_ (goodB)
structure LS (s : ByteArray) (w : World) (p : Nat) (acc : List ByteArray) (v : Value) (wr : World) : Prop where
  pos : p ≤ s.size
  rest : ∃ f, s.size < p + f ∧ acc ++ loadF s f p = allL s
  len : acc.length ≤ p
  own : wr.ownsRow (w.heap.size + 2) 9 1 v acc.length (acc.map Value.string)
  res : VarB wr w.heap.size #[.slice none 0 0, .int .i64 0, .string ⟨#[]⟩] 24
  out : VarB wr (w.heap.size + 1) #[v, .int .i64 0, .string ⟨#[]⟩] 24
  bel : Below w.heap.size w wr
theorem LS.below {s : ByteArray} {w : World} {p : Nat} {acc : List ByteArray} {v : Value} {wr wt : World} (h : LS s w p acc v wr) (hb : Below wr.heap.size wr wt) : LS s w p acc v wt :=
  ⟨h.pos, h.rest, h.len, own_later h.own hb, h.res.below hb, h.out.below hb, bthen h.bel hb h.bel.size⟩
theorem LS.alloc {s : ByteArray} {w : World} {p : Nat} {acc : List ByteArray} {v : Value} {wr : World} (h : LS s w p acc v wr) (o : Obj) : LS s w p acc v (wr.alloc o) := h.below ((Below.refl _ wr).alloc (Nat.le_refl _) o)
theorem allL_big {s : ByteArray} (h : 8000 < s.size) : allL s = [] := load_none (fun e => by have := (textV_in s 0 e).1; omega) _
theorem out_of {s : ByteArray} {p : Nat} {x : ByteArray} {y z : Int} (h : textV s p = (x, y, z)) : toutV (textV s p) = .agg #[.string x, .int .i64 y, .int .i64 z] := by rw [h]; rfl
theorem wrap_i (k : Nat) (hk : k ≤ 1048576) : wrap64 (k : Int) = (k : Int) := IntWalk.wrap64_in _ (by omega)
set_option maxRecDepth 20000 in
set_option maxHeartbeats 1600000 in
theorem specLoad_big (s : ByteArray) (h8 : ¬ s.size ≤ 8000) (hs : s.size ≤ 1048576) (w : World) :
    Calls Tryd.prog 4 #[.string s] w fun e w' => ∃ a c, e = .returned (hV a (loadV s).length c (loadV s).length ⟨#[]⟩) ∧ SRow w' a (loadV s) ∧ Below w.heap.size w w' := by
  have HV := Lib.hid (show loadV s = [] by unfold loadV; rw [allL_big (by omega)]; rfl)
  rw [HV.out]
  have h9 : ¬ (s.size : Int) ≤ 8000 := by omega
  clear h8 HV
  unfold hV
  go_enter Tryd.func4, Tryd.ntmps4
  go_wp2
  go_loopw [4] (fun iv wr => iv = .int .i64 0 ∧ wr = ((w.alloc (.cells #[.slice none 0 0, .int .i64 0, .string ⟨#[]⟩] 24)).alloc (.cells #[.slice none 0 0, .int .i64 0, .string ⟨#[]⟩] 24))) (fun _ _ => 0)
  case atStart => exact ⟨rfl, rfl⟩
  case round =>
    obtain ⟨rfl, rfl⟩ := hrel
    go_wp2
    exact bodyPost_ret (v := .agg #[.slice none 0 0, .int .i64 0, .string ⟨#[]⟩]) (by simp [results, Tryd.results4, go_sem]) rfl ⟨none, 0, rfl, SRow.nil _ _, ((Below.refl _ w).alloc (Nat.le_refl _) _).alloc (by simp) _⟩
set_option maxRecDepth 20000 in
set_option maxHeartbeats 1600000 in
theorem specLoad_small (s : ByteArray) (h8 : s.size ≤ 8000) (w : World) :
    Calls Tryd.prog 4 #[.string s] w fun e w' => ∃ a c, e = .returned (hV a (loadV s).length c (loadV s).length ⟨#[]⟩) ∧ SRow w' a (loadV s) ∧ Below w.heap.size w w' := by
  obtain ⟨i0, hi, hz0, hz1, hz2⟩ := info_parts infoS
  have h9 : (s.size : Int) ≤ 8000 := by omega
  have HT := Lib.hid (fun (p : Nat) (hp : p ≤ s.size) W => read.specText_any s p (by unfold maxLen; omega) (by omega) W)
  have HU := Lib.hid (fun (x : ByteArray) (hx : x.size ≤ 8000) W => unseal_.specUn_any x (by unfold maxLen; omega) W)
  have HR := Lib.hid (fun (x : ByteArray) (hx : x.size ≤ 8000) W => line.specRight_any x (by unfold maxLen; omega) W)
  unfold hV
  go_enter Tryd.func4, Tryd.ntmps4
  go_wp2
  go_loopw [4] (fun iv wr => ∃ p acc v, iv = .int .i64 (p : Nat) ∧ LS s w p acc v wr) (fun iv _ => s.size + 1 - (intOf iv).toNat)
  case atStart =>
    refine ⟨0, [], .slice none 0 0, rfl, Nat.zero_le _, ⟨s.size + 1, by omega, rfl⟩, Nat.le_refl _, World.ownsRow_nil _ _ _ _, (VarB.new w _ _).alloc _, ?_, ((Below.refl _ w).alloc (Nat.le_refl _) _).alloc (by simp) _⟩
    have := VarB.new (w.alloc (.cells #[.slice none 0 0, .int .i64 0, .string ⟨#[]⟩] 24)) #[.slice none 0 0, .int .i64 0, .string ⟨#[]⟩] 24
    simpa using this
  case round =>
    obtain ⟨p, acc, v, rfl, hI⟩ := hrel
    rename World => wr
    have HI := Lib.hid hI
    obtain ⟨x, y, z, hV⟩ : ∃ x y z, textV s p = (x, y, z) := ⟨_, _, _, rfl⟩
    have HTp := Lib.hid (HT.out p hI.pos)
    rw [out_of hV] at HTp
    clear hI
    by_cases hz : z = 0
    · subst hz
      obtain ⟨_, k2, k3, k4⟩ := textV_in s p (by rw [hV])
      obtain ⟨f, hf, hacc⟩ := HI.out.rest
      obtain ⟨f', q, e1, e2, e3, e4, e5⟩ := load_step (by rw [hV]) hf
      rw [hV] at k2 k3 k4 e1 e5
      dsimp only at k2 k3 k4 e1 e5
      subst e1
      have hwq := wrap_i q (by omega)
      have HU1 := Lib.hid (HU.out x k4)
      obtain ⟨T, c, hun⟩ : ∃ T c, unT x = (T, c) := ⟨_, _, rfl⟩
      have hTs := unT_size x
      have HUV := Lib.hid (unV_T x)
      rw [hun] at HUV hTs
      dsimp only at HUV hTs
      rw [HUV.out] at HU1
      have HK := Lib.hid (show keepL x = if c = 0 ∧ goodB T = true then [T] else [] by unfold keepL; rw [hun])
      have HSTEP := Lib.hid (show (acc ++ keepL x) ++ loadF s f' q = allL s by rw [List.append_assoc, ← e5]; exact hacc)
      clear k2 k3 e5 hacc hf f hV hun HUV
      go_wp2_with fail
      refine (HTp.out _).mono ?_
      rintro e w1 ⟨rfl, hb1⟩
      have HI := Lib.hid ((HI.out.below hb1).alloc (.cells #[.string x, .int .i64 (q : Nat), .int .i64 0] 30))
      clear hb1
      go_wp2_with fail
      refine (HU1.out _).mono ?_
      rintro e w2 ⟨rfl, hb2⟩
      have HI := Lib.hid (HI.out.below hb2)
      have z2 : w.heap.size + 1 < w2.heap.size := HI.out.out.lt
      clear hb2
      by_cases hc : c = 0
      · subst hc
        have HR1 := Lib.hid (HR.out T hTs)
        cases ht : textB T
        · have HG := Lib.hid (show goodB T = false by unfold goodB; rw [ht]; rfl)
          rw [ht] at HR1
          clear ht
          go_wp2_with fail
          refine (HR1.out _).mono ?_
          rintro e w3 ⟨rfl, rfl⟩
          go_wp2
          go_roundw
          case rel =>
            have h2 := HI.out.alloc (.cells #[.string T, .int .i64 0, .int .i64 0] 30)
            refine ⟨q, acc, v, rfl, e3, ⟨f', e4, ?_⟩, by have := h2.len; omega, h2.own, h2.res, h2.out, h2.bel⟩
            have := HSTEP.out
            rw [HK.out, if_neg (fun e => by rw [HG.out] at e; simp at e), List.append_nil] at this
            exact this
          case measure => simp [intOf]; omega
        · rw [ht] at HR1
          by_cases hz : T.size = 0
          · have HG := Lib.hid (show goodB T = false by unfold goodB; rw [hz]; simp)
            have hem := empty_t (s := T) (by omega)
            clear ht hz
            go_wp2_with fail
            refine (HR1.out _).mono ?_
            rintro e w3 ⟨rfl, rfl⟩
            go_wp2
            go_roundw
            case rel =>
              have h2 := HI.out.alloc (.cells #[.string T, .int .i64 0, .int .i64 0] 30)
              refine ⟨q, acc, v, rfl, e3, ⟨f', e4, ?_⟩, by have := h2.len; omega, h2.own, h2.res, h2.out, h2.bel⟩
              have := HSTEP.out
              rw [HK.out, if_neg (fun e => by rw [HG.out] at e; simp at e), List.append_nil] at this
              exact this
            case measure => simp [intOf]; omega
          · have HG := Lib.hid (show goodB T = true by unfold goodB; rw [ht]; simpa using hz)
            have hem := empty_f (s := T) (by omega)
            clear ht hz
            have c0 := HI.out.out.cell (i := 0) rfl
            go_wp2_with fail
            refine (HR1.out _).mono ?_
            rintro e w3 ⟨rfl, rfl⟩
            have HO := Lib.hid ((HI.out.alloc (.cells #[.string T, .int .i64 0, .int .i64 0] 30)).alloc (.cells #[.string T] 9))
            have hlen := HI.out.len
            go_wp2_with (first | (at_builtin; refine wpList_append_own _ rfl _ _ 22 rfl (w.heap.size + 2) 9 i0 (.string ⟨#[]⟩) 1 16 Tryd.underlying22 hi hz0 hz1 hz2 rfl (by decide) _ _ _ rfl HO.out.own ⟨w2.heap.size + 1, 0, none⟩ 1 1 [.string T] rfl rfl ?c1 ?c2 ?c3 ?c4 ?c5 ?_))
            case c1 =>
              intro j u hj
              match j, hj with
              | 0, hj => simp at hj; subst hj; simp [Addr.add]
            case c2 => intro u hu; simp at hu; subst hu; rfl
            case c3 => unfold maxLen; omega
            case c4 => omega
            case c5 => simp; omega
            intro v' w4 hown' hgrow hnil
            have hown2 : w4.ownsRow (w.heap.size + 2) 9 1 v' (acc ++ [T]).length ((acc ++ [T]).map Value.string) := by
              rw [List.length_append, List.length_singleton, List.map_append]
              exact hown'
            obtain ⟨a', c', rfl, _, _, _, _⟩ := own_open hown2
            obtain ⟨k, hk⟩ : ∃ k, k = (acc ++ [T]).length := ⟨_, rfl⟩
            have HKK := Lib.hid hk
            rw [← hk] at hown2
            try rw [← hk]
            have o4 := HO.out.out.grown hgrow (fun e => by have := (HO.out.own.lt _ e).1; omega)
            have r4 := HO.out.res.grown hgrow (fun e => by have := (HO.out.own.lt _ e).1; omega)
            have b4 := HO.out.bel.grown hgrow HO.out.bel.size (fun j hj => by have := (HO.out.own.lt j hj).1; omega)
            have HO4 := Lib.hid o4
            have HR4 := Lib.hid r4
            have HB4 := Lib.hid b4
            have HN4 := Lib.hid hown2
            have c4 := o4.cell (i := 0) rfl
            have f4 := o4.froz 0
            clear o4 r4 b4 hgrow hnil hown' hown2 hk
            go_wp2
            go_roundw
            case rel =>
              refine ⟨q, acc ++ [T], .slice a' k c', rfl, e3, ⟨f', e4, ?_⟩, by rw [List.length_append, List.length_singleton]; omega, ?_, HR4.out.other (by omega) _, HO4.out.set _, HB4.out.setCell (p := ⟨w.heap.size + 1, 0, none⟩) (by show w.heap.size ≤ w.heap.size + 1; omega) _⟩
              · have := HSTEP.out
                rw [HK.out, if_pos (by simp [HG.out])] at this
                exact this
              · rw [← HKK.out]
                exact own_set HN4.out (by omega)
            case measure => simp [intOf]; omega
      · have hcb : (c == 0) = false := by simpa using hc
        go_wp2
        go_roundw
        case rel =>
          have h2 := HI.out.alloc (.cells #[.string T, .int .i64 0, .int .i64 c] 30)
          refine ⟨q, acc, v, rfl, e3, ⟨f', e4, ?_⟩, by have := h2.len; omega, h2.own, h2.res, h2.out, h2.bel⟩
          have := HSTEP.out
          rw [HK.out, if_neg (fun e => hc e.1), List.append_nil] at this
          exact this
        case measure => simp [intOf]; omega
    · have hzb : (z == 0) = false := by simpa using hz
      have hall : acc = allL s := by
        obtain ⟨f, _, h⟩ := HI.out.rest
        rw [load_none (by rw [hV]; exact hz), List.append_nil] at h
        exact h
      have HVV := Lib.hid (show loadV s = last12 acc by unfold loadV; rw [hall])
      clear hall hV HT HU HR
      go_wp2_with fail
      refine (HTp.out _).mono ?_
      rintro e w1 ⟨rfl, hb1⟩
      have HI := Lib.hid (HI.out.below hb1)
      clear hb1
      obtain ⟨a, C, rfl, o1, o2, o3, _⟩ := own_open HI.out.own
      have HROW := Lib.hid o3
      have HB := Lib.hid HI.out.bel
      have hlen := HI.out.len
      have hpos := HI.out.pos
      have HO := Lib.hid HI.out.out
      have HRES := Lib.hid HI.out.res
      have HOWN := Lib.hid HI.out.own
      obtain ⟨n, hn⟩ : ∃ n, n = acc.length := ⟨_, rfl⟩
      have HN := Lib.hid hn
      have HZ := Lib.hid o2
      rw [← hn] at o1 hlen HO HOWN
      have z1 : w.heap.size + 1 < w1.heap.size := HO.out.lt
      have z0 : w.heap.size < w1.heap.size := by omega
      have c0 := HO.out.cell (i := 0) rfl
      have c1 := HO.out.cell (i := 1) rfl
      have c2 := HO.out.cell (i := 2) rfl
      have f0 := HO.out.froz
      have d0 := HRES.out.cell (i := 0) rfl
      have d1 := HRES.out.cell (i := 1) rfl
      have d2 := HRES.out.cell (i := 2) rfl
      have g0 := HRES.out.froz
      clear o2 o3
      by_cases h12 : n ≤ 12
      · have hng : (n : Int) ≤ 12 := by omega
        have HL := Lib.hid (show last12 acc = acc by unfold last12; rw [show acc.length - 12 = 0 by omega, List.drop_zero])
        clear hn h12 HI
        go_wp2
        have hF := (((((HRES.out.other (b := w.heap.size + 1) (k := 1) (by omega) (.int .i64 (n : Nat))).set (k := 0) (.slice a n C)).set (k := 1) (.int .i64 (n : Nat))).set (k := 2) (.string ⟨#[]⟩)).alloc (.cells #[.string x, .int .i64 y, .int .i64 z] 30))
        have e0 := hF.cell (i := 0) (v := .slice a n C) rfl
        have e1 := hF.cell (i := 1) (v := .int .i64 (n : Nat)) rfl
        have e2 := hF.cell (i := 2) (v := .string ⟨#[]⟩) rfl
        refine bodyPost_ret (v := .agg #[.slice a n C, .int .i64 (n : Nat), .string ⟨#[]⟩]) (by simp [results, Tryd.results4, go_sem, e0, e1, e2]) rfl ⟨a, C, by rw [HVV.out, HL.out, HN.out], ?_, ?_⟩
        · rw [HVV.out, HL.out]
          have h1 := own_set (k := 2) (u := .string ⟨#[]⟩) (own_set (k := 1) (u := .int .i64 (n : Nat)) (own_set (k := 0) (u := .slice a n C) (own_set (b := w.heap.size + 1) (k := 1) (u := .int .i64 (n : Nat)) HOWN.out (by omega)) (show w.heap.size < w.heap.size + 2 by omega)) (show w.heap.size < w.heap.size + 2 by omega)) (show w.heap.size < w.heap.size + 2 by omega)
          rw [HN.out] at h1
          obtain ⟨a', c', e, _, _, h2, _⟩ := own_open h1
          injection e with ea
          subst ea
          rw [HN.out]
          exact h2.below ((Below.refl _ _).alloc (Nat.le_refl _) _)
        · exact ((((HB.out.setCell (p := ⟨w.heap.size + 1, 1, none⟩) (by show w.heap.size ≤ w.heap.size + 1; omega) _).setCell (p := ⟨w.heap.size, 0, none⟩) (Nat.le_refl _) _).setCell (p := ⟨w.heap.size, 1, none⟩) (Nat.le_refl _) _).setCell (p := ⟨w.heap.size, 2, none⟩) (Nat.le_refl _) _).alloc (by simp; omega) _
      · have hng : ¬ (n : Int) ≤ 12 := by omega
        have hw : wrap64 ((n : Int) - 12) = ((n - 12 : Nat) : Int) := by rw [show (n : Int) - 12 = ((n - 12 : Nat) : Int) by omega]; exact wrap_i _ (by omega)
        obtain ⟨g, o, ha, hcc⟩ := HROW.out.at (show 0 < acc.length by omega)
        have hgl : g < w1.heap.size := blk_lt hcc
        clear hcc
        subst ha
        have hn12 : 12 < n := by omega
        have hCm : ¬ C = n - 12 := by omega
        have HDL := Lib.hid (show (acc.drop (n - 12)).length = n - (n - 12) by rw [List.length_drop, HN.out])
        have HL := Lib.hid (show last12 acc = acc.drop (n - 12) by unfold last12; rw [HN.out])
        have hB0 := ((Below.refl _ w1).alloc (Nat.le_refl _) (.cells #[.string x, .int .i64 y, .int .i64 z] 30)).alloc (by simp) (.cells #[] 9)
        have HROW2 := Lib.hid ((row_drop HROW.out (n - 12)).below hB0)
        have HE := Lib.hid (show ((w1.alloc (.cells #[.string x, .int .i64 y, .int .i64 z] 30)).alloc (.cells #[] 9)).ownsRow (w.heap.size + 2) 9 1 (.slice (some ⟨w1.heap.size + 1, 0, none⟩) 0 0) 0 [] from
          ⟨rfl, .inr ⟨w1.heap.size + 1, 0, #[], rfl, by omega, by
            have h3 := heap_alloc_new (w1.alloc (.cells #[.string x, .int .i64 y, .int .i64 z] 30)) (.cells #[] 9)
            rw [show (w1.alloc (.cells #[.string x, .int .i64 y, .int .i64 z] 30)).heap.size = w1.heap.size + 1 by simp] at h3
            exact h3, Nat.le_refl _, Nat.zero_le _, rfl, rfl⟩⟩)
        have HV0 := Lib.hid (HO.out.below hB0)
        have HR0 := Lib.hid (HRES.out.below hB0)
        have HB0 := Lib.hid (bthen HB.out hB0 HB.out.size)
        clear hn h12 HI hB0 d0 d1 d2 g0 c1 c2 f0
        go_wp2_with (first | (at_builtin; refine wpList_append_own _ rfl _ _ 22 rfl (w.heap.size + 2) 9 i0 (.string ⟨#[]⟩) 1 16 Tryd.underlying22 hi hz0 hz1 hz2 rfl (by decide) _ _ _ rfl HE.out ⟨g, o + (n - 12), none⟩ (n - (n - 12)) (C - (n - 12)) ((acc.drop (n - 12)).map Value.string) rfl ?c0 ?c1 ?c2 ?c3 ?c4 ?c5 ?_))
        case c0 => rw [List.length_map, HDL.out, Nat.mul_one]
        case c1 =>
          intro j u hj
          rw [List.getElem?_map] at hj
          by_cases hjl : j < (acc.drop (n - 12)).length
          · obtain ⟨g', o', e, hc⟩ := HROW2.out.at hjl
            injection e with e
            injection e with e1 e2
            subst e1 e2
            rw [add_plain rfl, hc]
            rw [List.getElem?_eq_getElem hjl] at hj
            simpa using hj
          · rw [List.getElem?_eq_none (by omega)] at hj
            cases hj
        case c2 =>
          intro u hu
          obtain ⟨s, _, rfl⟩ := List.mem_map.1 hu
          rfl
        case c3 => unfold maxLen; omega
        case c4 => omega
        case c5 => simp; omega
        intro v' w4 hown' hgrow hnil
        try simp only [Nat.zero_add, List.nil_append] at hown'
        rw [← HDL.out] at hown'
        try rw [← List.map_drop] at hown'
        obtain ⟨a', c', rfl, _, _, _, _⟩ := own_open hown'
        have HV4 := Lib.hid (HV0.out.grown hgrow (by intro e; injection e with e; have e : w1.heap.size + 1 = w.heap.size + 1 := e; omega))
        have HR4 := Lib.hid (HR0.out.grown hgrow (by intro e; injection e with e; have e : w1.heap.size + 1 = w.heap.size := e; omega))
        have HB4 := Lib.hid (HB0.out.grown hgrow HB0.out.size (fun j hj => by cases hj; show w.heap.size ≤ w1.heap.size + 1; omega))
        have HOWN4 := Lib.hid hown'
        obtain ⟨L, hL⟩ : ∃ L, L = acc.drop (n - 12) := ⟨_, rfl⟩
        rw [← hL] at HL HOWN4
        try rw [← hL]
        obtain ⟨k, hk⟩ : ∃ k, k = L.length := ⟨_, rfl⟩
        have HK := Lib.hid hk
        rw [← hk] at HOWN4
        try rw [← hk]
        have c4 := HV4.out.cell (i := 0) rfl
        have c5 := HV4.out.cell (i := 1) rfl
        have c6 := HV4.out.cell (i := 2) rfl
        have f4 := HV4.out.froz
        have d4 := HR4.out.cell (i := 0) rfl
        have d5 := HR4.out.cell (i := 1) rfl
        have d6 := HR4.out.cell (i := 2) rfl
        have g4 := HR4.out.froz
        clear hown' hgrow hnil hL hk c0 hw hCm hn12 hng
        go_wp2
        have hF := (((((HR4.out.other (b := w.heap.size + 1) (k := 0) (by omega) (.slice a' k c')).other (b := w.heap.size + 1) (k := 1) (by omega) (.int .i64 (k : Nat))).set (k := 0) (.slice a' k c')).set (k := 1) (.int .i64 (k : Nat))).set (k := 2) (.string ⟨#[]⟩))
        have e0 := hF.cell (i := 0) (v := .slice a' k c') rfl
        have e1 := hF.cell (i := 1) (v := .int .i64 (k : Nat)) rfl
        have e2 := hF.cell (i := 2) (v := .string ⟨#[]⟩) rfl
        refine bodyPost_ret (v := .agg #[.slice a' k c', .int .i64 (k : Nat), .string ⟨#[]⟩]) (by simp [results, Tryd.results4, go_sem, e0, e1, e2]) rfl ⟨a', c', by rw [HVV.out, HL.out, HK.out], ?_, ?_⟩
        · rw [HVV.out, HL.out]
          have h1 := own_set (k := 2) (u := .string ⟨#[]⟩) (own_set (k := 1) (u := .int .i64 (k : Nat)) (own_set (k := 0) (u := .slice a' k c') (own_set (b := w.heap.size + 1) (k := 1) (u := .int .i64 (k : Nat)) (own_set (b := w.heap.size + 1) (k := 0) (u := .slice a' k c') HOWN4.out (by omega)) (by omega)) (show w.heap.size < w.heap.size + 2 by omega)) (show w.heap.size < w.heap.size + 2 by omega)) (show w.heap.size < w.heap.size + 2 by omega)
          rw [HK.out] at h1
          obtain ⟨a'', c'', e, _, _, h2, _⟩ := own_open h1
          injection e with ea
          subst ea
          rw [HK.out]
          exact h2
        · exact ((((HB4.out.setCell (p := ⟨w.heap.size + 1, 0, none⟩) (by show w.heap.size ≤ w.heap.size + 1; omega) _).setCell (p := ⟨w.heap.size + 1, 1, none⟩) (by show w.heap.size ≤ w.heap.size + 1; omega) _).setCell (p := ⟨w.heap.size, 0, none⟩) (Nat.le_refl _) _).setCell (p := ⟨w.heap.size, 1, none⟩) (Nat.le_refl _) _).setCell (p := ⟨w.heap.size, 2, none⟩) (Nat.le_refl _) _
theorem specLoad_any (s : ByteArray) (hs : s.size ≤ 1048576) (w : World) :
    Calls Tryd.prog 4 #[.string s] w fun e w' => ∃ a c, e = .returned (hV a (loadV s).length c (loadV s).length ⟨#[]⟩) ∧ SRow w' a (loadV s) ∧ Below w.heap.size w w' := by
  by_cases h : s.size ≤ 8000
  · exact specLoad_small s h w
  · exact specLoad_big s h hs w
end Go.Proofs.YtgmbpohbjhaghaaDoor.load
