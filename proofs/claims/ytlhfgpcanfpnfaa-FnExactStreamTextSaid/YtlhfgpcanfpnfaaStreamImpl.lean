/-
  StreamText of the program. For every list of frames that the row reads.
-/
import Derived.Test.YtlhfgpcanfpnfaaStreamSpec
import Derived.Deep.RegionHeld3
namespace Go.Proofs.Ytlhfgpcanfpnfaa.frames
open Go.ChangeShapes Go.WideShapes Go.ChangeAt Go.RowKit Go.Deep
open Go.Proofs.Ytlhfgpcanfpnfaa.strs Go.Proofs.Ytlhfgpcanfpnfaa.frame
theorem allB_f {l : List FT} {i : Nat} (hi : i < l.length) (h : frF l[i] = false) : allF l = false := by
  have : l.all frF = false := by
    rw [List.all_eq_false]
    exact ⟨l[i], List.getElem_mem hi, by simp [h]⟩
  simp [allF, this]
theorem allB_t {l : List FT} (hm : l.length ≤ 400) (h : ∀ i (hi : i < l.length), frF l[i] = true) : allF l = true := by
  have : l.all frF = true := by
    rw [List.all_eq_true]
    intro s hs
    obtain ⟨i, hi, rfl⟩ := List.getElem_of_mem hs
    exact h i hi
  simp [allF, this, hm]
theorem areAllF_any (a : Option Addr) (C : Nat) (l : List FT) (hn : l.length ≤ 1048576) (hl : ∀ s ∈ l, s.2.2.size ≤ 1048576) (w : World) (h : FRow w a l) :
    Calls Try.prog 22 #[.slice a l.length C, .int .i64 400, .func (.func 9) #[] #[]] w fun e w' => e = .returned (.bool (allF l)) ∧ Below w.heap.size w w' := by
  obtain ⟨n, hn'⟩ : ∃ n, n = l.length := ⟨_, rfl⟩
  have HA := Lib.hid h
  have HN := Lib.hid hn'
  have HL := Lib.hid hl
  rw [← hn'] at hn ⊢
  have HM := Lib.hid (show 400 < n → allF l = false from fun h => by have : ¬ l.length ≤ 400 := by omega
                                                                     simp [allF, this])
  have HT := Lib.hid (show n ≤ 400 → (∀ i (hi : i < l.length), frF l[i] = true) → allF l = true from fun h => allB_t (by rw [← hn']; exact h))
  have HF := Lib.hid (fun (i : Nat) (hi : i < l.length) (hg : frF l[i] = false) => allB_f hi hg)
  clear h hl hn'
  by_cases h4 : (400 : Int) < n
  · have HV := Lib.hid (HM.out (by omega))
    clear HM HT HF
    go_enter Try.func22, Try.ntmps22
    go_wp2
    go_ret
    exact ⟨by rw [HV.out]; rfl, Below.refl _ _⟩
  have HTT := Lib.hid (HT.out (by omega))
  have hnn : (0 : Int) ≤ n := by omega
  clear HM HT
  go_enter Try.func22, Try.ntmps22
  go_wp2
  go_loopw [15] (fun iv wr => ∃ k : Nat, k ≤ n ∧ iv = .int .i64 k ∧ (∀ i (hi : i < l.length), i < k → frF l[i] = true) ∧ Below w.heap.size w wr) (fun iv _ => n - (intOf iv).toNat)
  case atStart => exact ⟨0, Nat.zero_le _, rfl, fun i _ hi => absurd hi (by omega), Below.refl _ _⟩
  case round =>
    obtain ⟨k, hk, rfl, hall, hbel⟩ := hrel
    rename World => wr
    have HX := Lib.hid hall
    have HB := Lib.hid hbel
    have HA2 := Lib.hid (HA.out.below hbel)
    have hzz := hbel.size
    clear hall hbel
    by_cases hlt : k < n
    · have hkl : k < l.length := by rw [← HN.out]; exact hlt
      obtain ⟨g, o, rfl, c0, c1, c2⟩ := HA2.out.at hkl
      have hs := HL.out l[k] (List.getElem_mem hkl)
      have HBAD := Lib.hid (HF.out k hkl)
      have HGOOD := Lib.hid (fun (hg : frF l[k] = true) => (show ∀ i (hi : i < l.length), i < k + 1 → frF l[i] = true from fun i hi hik => by
        by_cases e : i = k
        · subst e; exact hg
        · exact HX.out i hi (by omega)))
      unfold frF at HBAD HGOOD
      obtain ⟨s, hse⟩ : ∃ s, s = l[k].2.2 := ⟨_, rfl⟩
      obtain ⟨fk, hfk⟩ : ∃ z, z = l[k].1 := ⟨_, rfl⟩
      obtain ⟨fa, hfa⟩ : ∃ z, z = l[k].2.1 := ⟨_, rfl⟩
      rw [← hse] at c2 hs HBAD HGOOD
      rw [← hfk] at c0 HBAD HGOOD
      rw [← hfa] at c1 HBAD HGOOD
      have HR := Lib.hid (implFrame_any fk fa s (by omega))
      clear hse hfk hfa hs
      cases hg : frB fk fa s
      · have HV := Lib.hid (HBAD.out hg)
        rw [hg] at HR
        unfold fV at HR
        clear hg
        go_wp2_with fail
        refine (HR.out _).mono ?_
        rintro e w1 ⟨rfl, hb⟩
        have HX2 := Lib.hid (bthen (HB.out.alloc hzz _) hb (by simp; omega))
        clear hb
        go_wp2
        go_ret
        exact ⟨by rw [HV.out]; rfl, HX2.out⟩
      · have HNX := Lib.hid (HGOOD.out hg)
        rw [hg] at HR
        unfold fV at HR
        clear hg
        go_wp2_with fail
        refine (HR.out _).mono ?_
        rintro e w1 ⟨rfl, hb⟩
        have HX2 := Lib.hid (bthen (HB.out.alloc hzz _) hb (by simp; omega))
        clear hb
        go_wp2
        go_roundw
        case rel => exact ⟨k + 1, by omega, by go_num, HNX.out, HX2.out⟩
        case measure => simp [intOf]; omega
    · obtain rfl : k = n := by omega
      have HV := Lib.hid (HTT.out (fun i hi => HX.out i hi (by rw [HN.out]; exact hi)))
      go_wp2
      go_ret
      exact ⟨by rw [HV.out]; rfl, HB.out⟩
theorem writeS_any (B b : Nat) (bs : List Value) (s : ByteArray) (w : World) (h : Lib.IsBuilder 48 5 B b bs w) (hlen : bs.length + s.size ≤ 140737488355328) (hBw : B ≤ w.heap.size) :
    Calls Try.prog 23 #[.pointer (some ⟨b, 0, none⟩), .string s] w fun e w' => e = .returned (.tuple #[.int .i64 s.size, .nilIface]) ∧ (Lib.BuilderAt 48 5 B b (.pointer (some ⟨b, 0, none⟩)) (bs ++ Lib.strCells s) w' ∧ Below B w w') :=
  Any.Builder_WriteString (P := Try.prog) (ρ := Try.lays156_ren) { Try.lays156 with } Try.Builder_Extra_156 B b bs s w h hlen hBw
theorem builder_later {T e : TypeId} {B b : Nat} {bs : List Value} {w w' : World} (h : Lib.IsBuilder T e B b bs w) (hb : Below w.heap.size w w') : Lib.IsBuilder T e B b bs w' := by
  have one : ∀ {p : Value}, Lib.BuilderAt T e B b p bs w → Lib.BuilderAt T e B b p bs w' := fun {p} k => by
    obtain ⟨k1, v, k2, k3, k4⟩ := k
    exact ⟨k1, v, by rw [hb.block b (Array.getElem?_eq_some_iff.1 k2).1]; exact k2, own_later k3 hb, k4⟩
  rcases h with h | h
  · exact .inl (one h)
  · exact .inr (one h)
set_option maxHeartbeats 3200000 in
theorem implStream_any (a : Option Addr) (C : Nat) (l : List FT) (hn : l.length ≤ 1048576) (hl : ∀ s ∈ l, s.2.2.size ≤ 1048576) (w : World) (h : FRow w a l) :
    Calls Try.prog 15 #[.slice a l.length C] w fun e w' => e = .returned (.string (strTx l)) ∧ Below w.heap.size w w' := by
  have HAll := Lib.hid (areAllF_any a C l hn hl w h)
  cases hall : allF l
  · have HV := Lib.hid (show strTx l = ⟨#[]⟩ by unfold strTx; rw [if_neg (by rw [hall]; exact Bool.noConfusion)])
    rw [hall] at HAll
    obtain ⟨n, hn'⟩ : ∃ n, n = l.length := ⟨_, rfl⟩
    rw [← hn'] at HAll ⊢
    clear hall hn' h hn hl
    go_enter Try.func15, Try.ntmps15
    go_wp2_with fail
    refine HAll.out.mono ?_
    rintro e w1 ⟨rfl, hb⟩
    have HB := Lib.hid hb
    clear hb
    go_wp2
    go_ret
    exact ⟨by rw [HV.out]; rfl, HB.out⟩
  have HV := Lib.hid (show strTx l = ⟨(strL l).toArray⟩ by unfold strTx; rw [if_pos hall])
  have hall' := hall
  simp only [allF, Bool.and_eq_true, decide_eq_true_eq] at hall'
  obtain ⟨h4, hal⟩ := hall'
  rw [List.all_eq_true] at hal
  rw [hall] at HAll
  obtain ⟨n, hn'⟩ : ∃ n, n = l.length := ⟨_, rfl⟩
  have HA := Lib.hid h
  have HN := Lib.hid hn'
  have HL := Lib.hid hl
  have HG := Lib.hid hal
  rw [← hn'] at HAll hn h4 ⊢
  clear hall hal h hn' hl
  have hnn : (0 : Int) ≤ n := by omega
  go_enter Try.func15, Try.ntmps15
  go_wp2_with fail
  refine HAll.out.mono ?_
  rintro e wa ⟨rfl, hba⟩
  have HBa := Lib.hid hba
  have HAa := Lib.hid (HA.out.below hba)
  have zA := hba.size
  have HI0 := Lib.hid (Lib.fresh_isBuilder 48 5 wa)
  clear hba
  go_wp2
  go_loopw [11] (fun iv wr => ∃ k : Nat, k ≤ n ∧ iv = .int .i64 k ∧ Lib.IsBuilder 48 5 wa.heap.size wa.heap.size (Lib.byteCells (strL (l.take k))) wr ∧ (strL (l.take k)).length ≤ 91 * k ∧ Below wa.heap.size wa wr) (fun iv _ => n - (intOf iv).toNat)
  case atStart => exact ⟨0, Nat.zero_le _, rfl, by simpa [strL, Lib.byteCells] using HI0.out, by simp [strL], (Below.refl _ _).alloc (Nat.le_refl _) _⟩
  case round =>
    obtain ⟨k, hk, rfl, hib, hlen, hbel⟩ := hrel
    rename World => wr
    have HB := Lib.hid hbel
    have HI := Lib.hid hib
    have HA2 := Lib.hid (HAa.out.below hbel)
    have HLN := Lib.hid hlen
    have hzz := hbel.size
    clear hbel hib hlen
    by_cases hlt : k < n
    · have hkl : k < l.length := by rw [← HN.out]; exact hlt
      obtain ⟨g, o, rfl, c0, c1, c2⟩ := HA2.out.at hkl
      have hs := HL.out l[k] (List.getElem_mem hkl)
      have hg := HG.out l[k] (List.getElem_mem hkl)
      have HTK := Lib.hid (strL_take hkl)
      unfold oneL at HTK
      unfold frF at hg
      obtain ⟨s, hse⟩ : ∃ s, s = l[k].2.2 := ⟨_, rfl⟩
      obtain ⟨fk, hfk⟩ : ∃ z, z = l[k].1 := ⟨_, rfl⟩
      obtain ⟨fa, hfa⟩ : ∃ z, z = l[k].2.1 := ⟨_, rfl⟩
      rw [← hse] at c2 hs hg HTK
      rw [← hfk] at c0 hg HTK
      rw [← hfa] at c1 hg HTK
      have HTX := Lib.hid (implText_any fk fa s (by omega))
      rw [frTx_t hg] at HTX
      have hfl := frL_len hg
      obtain ⟨X, hX⟩ : ∃ X, X = frS fk fa s := ⟨_, rfl⟩
      have hxl : X.size ≤ 90 := by rw [hX]; simpa [frS, ByteArray.size] using hfl
      have HXD := Lib.hid (show Lib.strCells X = Lib.byteCells (frL fk fa s) by rw [hX]; simp [Lib.strCells, Lib.byteCells, frS])
      have HXS := Lib.hid (show X.size = (frL fk fa s).length by rw [hX]; simp [frS, ByteArray.size])
      rw [← hX] at HTX
      unfold fV at HTX
      have hbl : (Lib.byteCells (strL (l.take k))).length = (strL (l.take k)).length := Lib.byteCells_length _
      have HBL := Lib.hid hbl
      clear hg hX hfl hse hfk hfa hs hbl
      go_wp2_with fail
      refine (HTX.out _).mono ?_
      rintro e w1 ⟨rfl, hb⟩
      have HB1 := Lib.hid (bthen (HB.out.alloc hzz (.cells #[.int .i64 fk, .int .i64 fa, .string s] 26)) hb (by simp; omega))
      have HI1 := Lib.hid (builder_later (builder_later HI.out ((Below.refl _ wr).alloc (Nat.le_refl _) (.cells #[.int .i64 fk, .int .i64 fa, .string s] 26))) hb)
      clear hb
      go_wp2_with fail
      refine (writeS_any wa.heap.size wa.heap.size _ X _ HI1.out (by have := HLN.out; have := HBL.out; omega) HB1.out.size).mono ?_
      rintro e w2 ⟨rfl, hi2, hb⟩
      rw [HXD.out, ← Lib.byteCells_append] at hi2
      have HB2 := Lib.hid (HB1.out.trans hb)
      have HI2 := Lib.hid hi2
      clear hb hi2
      go_wp2_with fail
      refine (writeS_any wa.heap.size wa.heap.size _ ⟨#[10]⟩ _ (.inr HI2.out) (by rw [Lib.byteCells_length, List.length_append]; have := HLN.out; have := HXS.out; have : (⟨#[10]⟩ : ByteArray).size = 1 := rfl; omega) HB2.out.size).mono ?_
      rintro e w3 ⟨rfl, hi3, hb⟩
      rw [show Lib.strCells ⟨#[10]⟩ = Lib.byteCells [10] from rfl, ← Lib.byteCells_append, List.append_assoc, ← HTK.out] at hi3
      have HB3 := Lib.hid (HB2.out.trans hb)
      have HI3 := Lib.hid (show Lib.IsBuilder 48 5 wa.heap.size wa.heap.size (Lib.byteCells (strL (l.take (k + 1)))) w3 from .inr hi3)
      have HL3 := Lib.hid (show (strL (l.take (k + 1))).length ≤ 91 * (k + 1) by
        rw [HTK.out, List.length_append, List.length_append]
        have := HLN.out
        have := HXS.out
        simp
        omega)
      clear hb hi3
      go_wp2
      go_roundw
      case rel => exact ⟨k + 1, by omega, by go_num, HI3.out, HL3.out, HB3.out⟩
      case measure => simp [intOf]; omega
    · obtain rfl : k = n := by omega
      have HTA := Lib.hid (show l.take k = l from by rw [HN.out]; exact List.take_length)
      have hi := HI.out
      rw [HTA.out] at hi
      have HI2 := Lib.hid hi
      clear hi
      go_wp2_with fail
      refine (Try.Builder_String_any wa.heap.size wa.heap.size (strL l) _ HI2.out HB.out.size).mono ?_
      rintro e w2 ⟨rfl, hb⟩
      have HB2 := Lib.hid (HBa.out.trans ((HB.out.trans hb).mono zA))
      clear hb
      go_wp2
      go_ret
      exact ⟨by rw [HV.out]; rfl, HB2.out⟩
end Go.Proofs.Ytlhfgpcanfpnfaa.frames
