/-
  FrameRead of the model. For every text that the row reads.
-/
import Derived.Test.YtlhfgpcanfpnfaaDoorReadCalls
import Derived.Test.YtlhfgpcanfpnfaaDoorVarB
namespace Go.Proofs.YtlhfgpcanfpnfaaDoor.frame
open Go.ChangeShapes Go.WideShapes Go.ChangeAt Go.RowKit
open Go.Proofs.YtlhfgpcanfpnfaaDoor.line Go.Proofs.YtlhfgpcanfpnfaaDoor.all_ Go.Proofs.YtlhfgpcanfpnfaaDoor.varb
/-- a frame and a code -/
def foV (f : FT3) (c : Int) : Value := .agg #[.int .i64 f.1, .int .i64 f.2.1, .string f.2.2, .int .i64 c]
def noF : FT3 := (0, 0, ⟨#[]⟩)
/-- what FrameRead answers -/
noncomputable def outF (s : ByteArray) : FT3 × Int := if 8000 < s.size then (noF, 2) else match readV s with | some f => (f, 0) | none => (noF, 3)
theorem outF_big {s : ByteArray} (h : 8000 < s.size) : outF s = (noF, 2) := if_pos h
theorem outF_some {s : ByteArray} {f : FT3} (h : ¬ 8000 < s.size) (hr : readV s = some f) : outF s = (f, 0) := by unfold outF; rw [if_neg h, hr]
theorem outF_none {s : ByteArray} (h : ¬ 8000 < s.size) (hr : readV s = none) : outF s = (noF, 3) := by unfold outF; rw [if_neg h, hr]
theorem eqL (x : ByteArray) (l : List UInt8) : (x.toList == l) = decide (x.data.toList = l) := by
  rw [ByteArray.toList_eq]
  by_cases h : x.data.toList = l
  · rw [decide_eq_true h, h]; simp
  · rw [decide_eq_false h]; exact beq_eq_false_iff_ne.2 h
theorem eqS (x y : ByteArray) : (x.toList == y.toList) = decide (x = y) := by
  by_cases h : x = y
  · subst h
    simp
  · rw [decide_eq_false h]
    apply Bool.eq_false_iff.2
    intro e
    have e2 : x.toList = y.toList := by simpa using e
    rw [ByteArray.toList_eq, ByteArray.toList_eq] at e2
    exact h (ByteArray.ext (Array.toList_inj.1 e2))
set_option maxHeartbeats 1600000 in
theorem specRead_any (s : ByteArray) (hs : s.size ≤ maxLen) (w : World) :
    Calls Tryd.prog 5 #[.string s] w fun e w' => e = .returned (foV (outF s).1 (outF s).2) ∧ Below w.heap.size w w' := by
  unfold maxLen at hs
  by_cases h8 : (8000 : Int) < s.size
  · have HV := Lib.hid (outF_big (s := s) (by omega))
    rw [HV.out]
    go_enter Tryd.func5, Tryd.ntmps5
    go_wp2
    exact bodyPost_ret (v := foV noF 2) (by simp [results, Tryd.results5, go_sem, foV, noF]) rfl ⟨rfl, by repeat (first | exact Below.refl _ w | refine Below.alloc ?_ (by simp; try omega) _)⟩
  have h8' : s.size ≤ 8000 := by omega
  have HO := Lib.hid (fun (f : FT3) (hr : readV s = some f) => outF_some (s := s) (by omega) hr)
  have HN := Lib.hid (fun (hr : readV s = none) => outF_none (s := s) (by omega) hr)
  have HC := Lib.hid (specCut_any s h8')
  obtain ⟨x, hx⟩ : ∃ x, x = bA (cutA 32 s.data.toList).1 := ⟨_, rfl⟩
  obtain ⟨r, hr⟩ : ∃ r, r = bA (cutA 32 s.data.toList).2.1 := ⟨_, rfl⟩
  have hxl : x.data.toList = (cutA 32 s.data.toList).1 := by rw [hx]; simp [bA]
  have hrl : r.data.toList = (cutA 32 s.data.toList).2.1 := by rw [hr]; simp [bA]
  have hrs : r.size ≤ 8000 := by
    have h1 := (cutA_len 32 s.data.toList).2
    rw [← hrl] at h1
    exact Nat.le_trans h1 h8'
  rw [show (bA (cutA 32 s.data.toList).1) = x from hx.symm, show (bA (cutA 32 s.data.toList).2.1) = r from hr.symm] at HC
  have HC2 := Lib.hid (specCut_any r hrs)
  obtain ⟨p, hp⟩ : ∃ p, p = bA (cutA 32 r.data.toList).1 := ⟨_, rfl⟩
  obtain ⟨b, hb⟩ : ∃ b, b = bA (cutA 32 r.data.toList).2.1 := ⟨_, rfl⟩
  have hpl : p.data.toList = (cutA 32 r.data.toList).1 := by rw [hp]; simp [bA]
  have hps : p.size ≤ 8000 := by
    have h1 := (cutA_len 32 r.data.toList).1
    rw [← hpl] at h1
    exact Nat.le_trans h1 hrs
  have hbs : b.size ≤ 8000 := by
    have h1 := (cutA_len 32 r.data.toList).2
    rw [hb, bA_size']
    exact Nat.le_trans h1 hrs
  rw [show (bA (cutA 32 r.data.toList).1) = p from hp.symm, show (bA (cutA 32 r.data.toList).2.1) = b from hb.symm] at HC2
  have HNU := Lib.hid (specNum_any p hps)
  obtain ⟨z, hz⟩ : ∃ z, z = numV p.data.toList := ⟨_, rfl⟩
  rw [← hz] at HNU
  have HSC := Lib.hid (fun (k : Int) => (show scV k s.data.toList = if k ≤ 4 then (k, z, b) else (k, 0, r) by unfold scV; rw [hz, hpl, hb, hrl, hr]))
  have HXL := Lib.hid hxl
  have HBS := Lib.hid hbs
  have HRS := Lib.hid hrs
  clear hx hr hxl hrl hp hb hpl hps hz hbs hrs
  have HV0 := Lib.hid (VarB.new w #[.int .i64 0, .int .i64 0, .string ⟨#[]⟩, .int .i64 0] 25)
  have HB0 := Lib.hid ((Below.refl _ w).alloc (Nat.le_refl _) (.cells #[.int .i64 0, .int .i64 0, .string ⟨#[]⟩, .int .i64 0] 25))
  go_enter Tryd.func5, Tryd.ntmps5
  go_wp2_with fail
  refine (HC.out _).mono ?_
  rintro e w1 ⟨rfl, hb⟩
  have HV1 := Lib.hid (HV0.out.below hb)
  have HB1 := Lib.hid (bthen HB0.out hb (by simp))
  clear hb HV0 HB0
  go_wp2
  go_loopw [5] (fun iv wr => ∃ k : Nat, k ≤ 8 ∧ 1 ≤ k ∧ iv = .int .i64 k ∧ (∀ f, readV s = some f → (k : Int) ≤ f.1) ∧ VarB wr w.heap.size #[.int .i64 0, .int .i64 0, .string ⟨#[]⟩, .int .i64 0] 25 ∧ Below w.heap.size w wr) (fun iv _ => 8 - (intOf iv).toNat)
  case atStart => exact ⟨1, by omega, by omega, rfl, fun f hf => (read_kind hf).1, HV1.out, HB1.out⟩
  case round =>
    obtain ⟨k, hk8, hk1, rfl, hall, hvb, hbel⟩ := hrel
    rename World => wr
    have HX := Lib.hid hall
    have HB := Lib.hid hbel
    have HVB := Lib.hid hvb
    have hzz := hbel.size
    clear hall hbel hvb HB1 HV1
    by_cases hk7 : k = 8
    · subst hk7
      have hnone : readV s = none := by
        cases hr : readV s with
        | none => rfl
        | some f => have h1 := HX.out f hr; have h2 := (read_kind hr).2; omega
      have HV := Lib.hid (HN.out hnone)
      have y0 := HVB.out.cell (i := 0) rfl
      have y1 := HVB.out.cell (i := 1) rfl
      have y2 := HVB.out.cell (i := 2) rfl
      have y3 := HVB.out.cell (i := 3) rfl
      have f0 := HVB.out.froz 0
      have f1 := HVB.out.froz 1
      have f2 := HVB.out.froz 2
      have f3 := HVB.out.froz 3
      go_wp2
      exact bodyPost_ret (v := foV noF 3) (by simp [results, Tryd.results5, go_sem, foV, noF, y0, y1, y2, y3]) rfl
        ⟨by rw [HV.out], by repeat (first | exact HB.out | refine Below.setCell (B := w.heap.size) (p := ⟨w.heap.size, _, none⟩) ?_ (Nat.le_refl _) _)⟩
    have HW := Lib.hid (specWord_any (k : Int) (by omega) (by omega))
    obtain ⟨X, hX⟩ : ∃ X : ByteArray, X = ⟨(wordL (k : Int)).toArray⟩ := ⟨_, rfl⟩
    have hXl : X.data.toList = wordL k := by rw [hX]
    rw [← hX] at HW
    by_cases hw : (cutA 32 s.data.toList).1 = wordL k
    · have hxe : (X.toList == x.toList) = true := by rw [eqS, decide_eq_true]; exact ByteArray.ext (Array.toList_inj.1 (by rw [hXl, HXL.out, hw]))
      clear hX hXl
      by_cases h4 : (k : Int) ≤ 4
      · skip
        have HTX := Lib.hid (specText_any k z b (by unfold maxLen; have := HBS.out; omega))
        obtain ⟨T, hT⟩ : ∃ T, T = frTx k z b := ⟨_, rfl⟩
        rw [← hT] at HTX
        unfold fV at HTX
        have hsc : scV k s.data.toList = ((k : Int), z, b) := by rw [HSC.out, if_pos h4]
        have HYES := Lib.hid (fun (e : T = s) => HO.out _ (read_this hw (by rw [hsc]; exact (hT ▸ e))))
        rw [hsc] at HYES
        have HNO := Lib.hid (fun (e : ¬ T = s) => (show ∀ f, readV s = some f → ((k + 1 : Nat) : Int) ≤ f.1 from fun f hf => by
          have h1 := HX.out f hf
          have h2 := read_other (s := s) (k := k) (by rw [hsc]; exact (hT ▸ e)) f hf
          omega))
        clear hT hsc hw
        by_cases hts : T = s
        · have hq : (T.toList == s.toList) = true := by rw [eqS, decide_eq_true hts]
          have HV := Lib.hid (HYES.out hts)
          clear hts HYES HNO
          go_wp2_with fail
          refine (HW.out _).mono ?_
          rintro e w2 ⟨rfl, hb⟩
          have HVB2 := Lib.hid (HVB.out.below hb)
          have HB2 := Lib.hid (bthen HB.out hb hzz)
          have hl2 := HVB2.out.lt
          clear hb
          have HF2 := Lib.hid (VarB.new w2 #[.int .i64 k, .int .i64 0, .string r] 23)
          have HVBA := Lib.hid (HVB2.out.alloc (.cells #[.int .i64 k, .int .i64 0, .string r] 23))
          have HBA := Lib.hid (HB2.out.alloc HB2.out.size (.cells #[.int .i64 k, .int .i64 0, .string r] 23))
          go_wp2_with fail
          refine (HC2.out _).mono ?_
          rintro e w4 ⟨rfl, hb⟩
          have HVB4 := Lib.hid (HVBA.out.below hb)
          have HF4 := Lib.hid (HF2.out.below hb)
          have HB4 := Lib.hid (bthen HBA.out hb HBA.out.size)
          have zz := HF4.out.lt
          clear hb
          have g0 := HF4.out.froz 1
          have g1 := HF4.out.froz 2
          have g2 := HF4.out.cell (i := 1) rfl
          have g3 := HF4.out.cell (i := 2) rfl
          have g4 := HF4.out.cell (i := 0) rfl
          have hne : w2.heap.size ≠ w.heap.size := by omega
          have HST := Lib.hid (show VarB ((w4.setCell ⟨w2.heap.size, 1, none⟩ (.int .i64 z)).setCell ⟨w2.heap.size, 2, none⟩ (.string b)) w.heap.size #[.int .i64 0, .int .i64 0, .string ⟨#[]⟩, .int .i64 0] 25 ∧
              Below w.heap.size w ((w4.setCell ⟨w2.heap.size, 1, none⟩ (.int .i64 z)).setCell ⟨w2.heap.size, 2, none⟩ (.string b)) ∧ VarB ((w4.setCell ⟨w2.heap.size, 1, none⟩ (.int .i64 z)).setCell ⟨w2.heap.size, 2, none⟩ (.string b)) w2.heap.size #[.int .i64 k, .int .i64 z, .string b] 23 from
            ⟨(HVB4.out.other hne _).other hne _, (HB4.out.setCell (p := ⟨w2.heap.size, 1, none⟩) HB2.out.size _).setCell (p := ⟨w2.heap.size, 2, none⟩) HB2.out.size _, (HF4.out.set _).set _⟩)
          go_wp2_with (go_at_call 15; refine (HNU.out _).mono ?_; rintro e w5 ⟨rfl, rfl⟩)
          refine (HTX.out _).mono ?_
          rintro e w3 ⟨rfl, hb⟩
          have HVB3 := Lib.hid (HST.out.1.below hb)
          have HF3 := Lib.hid (HST.out.2.2.below hb)
          have HB3 := Lib.hid (bthen HST.out.2.1 hb HST.out.2.1.size)
          have v0 := HF3.out.cell (i := 0) rfl
          have v1 := HF3.out.cell (i := 1) rfl
          have v2 := HF3.out.cell (i := 2) rfl
          clear hb
          have y0 := HVB3.out.froz 0
          have y1 := HVB3.out.froz 1
          have y2 := HVB3.out.froz 2
          have y3 := HVB3.out.froz 3
          have x0 := HVB3.out.cell (i := 0) rfl
          have x1 := HVB3.out.cell (i := 1) rfl
          have x2 := HVB3.out.cell (i := 2) rfl
          have x3 := HVB3.out.cell (i := 3) rfl
          go_wp2
          exact bodyPost_ret (v := foV ((k : Int), z, b) 0) (by simp [results, Tryd.results5, go_sem, foV, x0, x1, x2, x3]) rfl
            ⟨by rw [HV.out], by repeat (first | exact HB3.out | refine Below.setCell (B := w.heap.size) (p := ⟨w.heap.size, _, none⟩) ?_ (Nat.le_refl _) _)⟩
        · have hq : (T.toList == s.toList) = false := by rw [eqS, decide_eq_false hts]
          have HNX := Lib.hid (HNO.out hts)
          clear hts HYES HNO
          go_wp2_with fail
          refine (HW.out _).mono ?_
          rintro e w2 ⟨rfl, hb⟩
          have HVB2 := Lib.hid (HVB.out.below hb)
          have HB2 := Lib.hid (bthen HB.out hb hzz)
          have hl2 := HVB2.out.lt
          clear hb
          have HF2 := Lib.hid (VarB.new w2 #[.int .i64 k, .int .i64 0, .string r] 23)
          have HVBA := Lib.hid (HVB2.out.alloc (.cells #[.int .i64 k, .int .i64 0, .string r] 23))
          have HBA := Lib.hid (HB2.out.alloc HB2.out.size (.cells #[.int .i64 k, .int .i64 0, .string r] 23))
          go_wp2_with fail
          refine (HC2.out _).mono ?_
          rintro e w4 ⟨rfl, hb⟩
          have HVB4 := Lib.hid (HVBA.out.below hb)
          have HF4 := Lib.hid (HF2.out.below hb)
          have HB4 := Lib.hid (bthen HBA.out hb HBA.out.size)
          have zz := HF4.out.lt
          clear hb
          have g0 := HF4.out.froz 1
          have g1 := HF4.out.froz 2
          have g2 := HF4.out.cell (i := 1) rfl
          have g3 := HF4.out.cell (i := 2) rfl
          have g4 := HF4.out.cell (i := 0) rfl
          have hne : w2.heap.size ≠ w.heap.size := by omega
          have HST := Lib.hid (show VarB ((w4.setCell ⟨w2.heap.size, 1, none⟩ (.int .i64 z)).setCell ⟨w2.heap.size, 2, none⟩ (.string b)) w.heap.size #[.int .i64 0, .int .i64 0, .string ⟨#[]⟩, .int .i64 0] 25 ∧
              Below w.heap.size w ((w4.setCell ⟨w2.heap.size, 1, none⟩ (.int .i64 z)).setCell ⟨w2.heap.size, 2, none⟩ (.string b)) ∧ VarB ((w4.setCell ⟨w2.heap.size, 1, none⟩ (.int .i64 z)).setCell ⟨w2.heap.size, 2, none⟩ (.string b)) w2.heap.size #[.int .i64 k, .int .i64 z, .string b] 23 from
            ⟨(HVB4.out.other hne _).other hne _, (HB4.out.setCell (p := ⟨w2.heap.size, 1, none⟩) HB2.out.size _).setCell (p := ⟨w2.heap.size, 2, none⟩) HB2.out.size _, (HF4.out.set _).set _⟩)
          go_wp2_with (go_at_call 15; refine (HNU.out _).mono ?_; rintro e w5 ⟨rfl, rfl⟩)
          refine (HTX.out _).mono ?_
          rintro e w3 ⟨rfl, hb⟩
          have HVB3 := Lib.hid (HST.out.1.below hb)
          have HF3 := Lib.hid (HST.out.2.2.below hb)
          have HB3 := Lib.hid (bthen HST.out.2.1 hb HST.out.2.1.size)
          have v0 := HF3.out.cell (i := 0) rfl
          have v1 := HF3.out.cell (i := 1) rfl
          have v2 := HF3.out.cell (i := 2) rfl
          clear hb
          go_wp2
          go_roundw
          case rel => exact ⟨k + 1, by omega, by omega, by go_num, HNX.out, HVB3.out, HB3.out⟩
          case measure => simp [intOf]; omega
      · skip
        have HTX := Lib.hid (specText_any k 0 r (by unfold maxLen; have := HRS.out; omega))
        obtain ⟨T, hT⟩ : ∃ T, T = frTx k 0 r := ⟨_, rfl⟩
        rw [← hT] at HTX
        unfold fV at HTX
        have hsc : scV k s.data.toList = ((k : Int), 0, r) := by rw [HSC.out, if_neg h4]
        have HYES := Lib.hid (fun (e : T = s) => HO.out _ (read_this hw (by rw [hsc]; exact (hT ▸ e))))
        rw [hsc] at HYES
        have HNO := Lib.hid (fun (e : ¬ T = s) => (show ∀ f, readV s = some f → ((k + 1 : Nat) : Int) ≤ f.1 from fun f hf => by
          have h1 := HX.out f hf
          have h2 := read_other (s := s) (k := k) (by rw [hsc]; exact (hT ▸ e)) f hf
          omega))
        clear hT hsc hw
        by_cases hts : T = s
        · have hq : (T.toList == s.toList) = true := by rw [eqS, decide_eq_true hts]
          have HV := Lib.hid (HYES.out hts)
          clear hts HYES HNO
          go_wp2_with fail
          refine (HW.out _).mono ?_
          rintro e w2 ⟨rfl, hb⟩
          have HVB2 := Lib.hid (HVB.out.below hb)
          have HB2 := Lib.hid (bthen HB.out hb hzz)
          have hl2 := HVB2.out.lt
          clear hb
          have HF2 := Lib.hid (VarB.new w2 #[.int .i64 k, .int .i64 0, .string r] 23)
          have HVBA := Lib.hid (HVB2.out.alloc (.cells #[.int .i64 k, .int .i64 0, .string r] 23))
          have HBA := Lib.hid (HB2.out.alloc HB2.out.size (.cells #[.int .i64 k, .int .i64 0, .string r] 23))
          go_wp2_with fail
          refine (HTX.out _).mono ?_
          rintro e w3 ⟨rfl, hb⟩
          have HVB3 := Lib.hid (HVBA.out.below hb)
          have HF3 := Lib.hid (HF2.out.below hb)
          have HB3 := Lib.hid (bthen HBA.out hb HBA.out.size)
          have v0 := HF3.out.cell (i := 0) rfl
          have v1 := HF3.out.cell (i := 1) rfl
          have v2 := HF3.out.cell (i := 2) rfl
          clear hb
          have y0 := HVB3.out.froz 0
          have y1 := HVB3.out.froz 1
          have y2 := HVB3.out.froz 2
          have y3 := HVB3.out.froz 3
          have x0 := HVB3.out.cell (i := 0) rfl
          have x1 := HVB3.out.cell (i := 1) rfl
          have x2 := HVB3.out.cell (i := 2) rfl
          have x3 := HVB3.out.cell (i := 3) rfl
          go_wp2
          exact bodyPost_ret (v := foV ((k : Int), 0, r) 0) (by simp [results, Tryd.results5, go_sem, foV, x0, x1, x2, x3]) rfl
            ⟨by rw [HV.out], by repeat (first | exact HB3.out | refine Below.setCell (B := w.heap.size) (p := ⟨w.heap.size, _, none⟩) ?_ (Nat.le_refl _) _)⟩
        · have hq : (T.toList == s.toList) = false := by rw [eqS, decide_eq_false hts]
          have HNX := Lib.hid (HNO.out hts)
          clear hts HYES HNO
          go_wp2_with fail
          refine (HW.out _).mono ?_
          rintro e w2 ⟨rfl, hb⟩
          have HVB2 := Lib.hid (HVB.out.below hb)
          have HB2 := Lib.hid (bthen HB.out hb hzz)
          have hl2 := HVB2.out.lt
          clear hb
          have HF2 := Lib.hid (VarB.new w2 #[.int .i64 k, .int .i64 0, .string r] 23)
          have HVBA := Lib.hid (HVB2.out.alloc (.cells #[.int .i64 k, .int .i64 0, .string r] 23))
          have HBA := Lib.hid (HB2.out.alloc HB2.out.size (.cells #[.int .i64 k, .int .i64 0, .string r] 23))
          go_wp2_with fail
          refine (HTX.out _).mono ?_
          rintro e w3 ⟨rfl, hb⟩
          have HVB3 := Lib.hid (HVBA.out.below hb)
          have HF3 := Lib.hid (HF2.out.below hb)
          have HB3 := Lib.hid (bthen HBA.out hb HBA.out.size)
          have v0 := HF3.out.cell (i := 0) rfl
          have v1 := HF3.out.cell (i := 1) rfl
          have v2 := HF3.out.cell (i := 2) rfl
          clear hb
          go_wp2
          go_roundw
          case rel => exact ⟨k + 1, by omega, by omega, by go_num, HNX.out, HVB3.out, HB3.out⟩
          case measure => simp [intOf]; omega
    · have hne : (X.toList == x.toList) = false := by
        rw [eqS, decide_eq_false]
        intro e
        exact hw (by rw [← HXL.out, ← hXl, e])
      have HNX := Lib.hid (show ∀ f, readV s = some f → ((k + 1 : Nat) : Int) ≤ f.1 from fun f hf => by
        have h1 := HX.out f hf
        have h2 := read_word hw f hf
        omega)
      clear hX hXl hw
      go_wp2_with fail
      refine (HW.out _).mono ?_
      rintro e w2 ⟨rfl, hb⟩
      have HVB2 := Lib.hid (HVB.out.below hb)
      have HB2 := Lib.hid (bthen HB.out hb hzz)
      clear hb
      go_wp2
      go_roundw
      case rel => exact ⟨k + 1, by omega, by omega, by go_num, HNX.out, HVB2.out, HB2.out⟩
      case measure => simp [intOf]; omega
end Go.Proofs.YtlhfgpcanfpnfaaDoor.frame
