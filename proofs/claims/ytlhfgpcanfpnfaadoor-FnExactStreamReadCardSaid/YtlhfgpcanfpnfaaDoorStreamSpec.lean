/-
  StreamText of the model. For every list of frames that the row reads.
-/
import Derived.Test.YtlhfgpcanfpnfaaDoorFrames
import Derived.Lib.AppendStr
namespace Go.Proofs.YtlhfgpcanfpnfaaDoor.frames
open Go.ChangeShapes Go.WideShapes Go.ChangeAt Go.RowKit Go.Deep
open Go.Proofs.YtlhfgpcanfpnfaaDoor.strs Go.Proofs.YtlhfgpcanfpnfaaDoor.frame
noncomputable def frF (f : FT) : Bool := frB f.1 f.2.1 f.2.2
def oneL (f : FT) : List UInt8 := frL f.1 f.2.1 f.2.2 ++ [10]
/-- the text of such frames -/
def strL (l : List FT) : List UInt8 := l.flatMap oneL
noncomputable def allF (l : List FT) : Bool := decide (l.length ≤ 400) && l.all frF
noncomputable def strTx (l : List FT) : ByteArray := if allF l = true then ⟨(strL l).toArray⟩ else ⟨#[]⟩
theorem allF_f {l : List FT} {i : Nat} (hi : i < l.length) (h : frF l[i] = false) : strTx l = ⟨#[]⟩ := by
  have : l.all frF = false := by
    rw [List.all_eq_false]
    exact ⟨l[i], List.getElem_mem hi, by simp [h]⟩
  unfold strTx
  rw [if_neg (by simp [allF, this])]
theorem allF_t {l : List FT} (hm : l.length ≤ 400) (h : ∀ i (hi : i < l.length), frF l[i] = true) : strTx l = ⟨(strL l).toArray⟩ := by
  have : l.all frF = true := by
    rw [List.all_eq_true]
    intro s hs
    obtain ⟨i, hi, rfl⟩ := List.getElem_of_mem hs
    exact h i hi
  unfold strTx
  rw [if_pos (by simp [allF, this, hm])]
theorem allF_long {l : List FT} (hm : 400 < l.length) : strTx l = ⟨#[]⟩ := by
  unfold strTx
  rw [if_neg (by simp [allF]; omega)]
theorem frL_len {k a : Int} {t : ByteArray} (h : frB k a t = true) : (frL k a t).length ≤ 90 := by
  obtain ⟨h1, h7, hp, hz, ht, _⟩ := frB_facts h
  have e1 : t.data.toList.length = t.size := rfl
  unfold frL
  repeat' split
  all_goals simp [putL, dropL, moveL, allL, sayL, bellL, doneL, e1]
  all_goals try have hd := dec_len (hp (by omega))
  all_goals omega
theorem strL_take {l : List FT} {k : Nat} (hk : k < l.length) : strL (l.take (k + 1)) = strL (l.take k) ++ oneL l[k] := by
  unfold strL
  rw [List.take_add_one, List.getElem?_eq_getElem hk, List.flatMap_append]
  simp
set_option maxHeartbeats 3200000 in
theorem specStream_any (a : Option Addr) (C : Nat) (l : List FT) (hn : l.length ≤ 1048576) (hl : ∀ s ∈ l, s.2.2.size ≤ 1048576) (w : World) (h : FRow w a l) :
    Calls Tryd.prog 21 #[.slice a l.length C] w fun e w' => e = .returned (.string (strTx l)) ∧ Below w.heap.size w w' := by
  obtain ⟨n, hn'⟩ : ∃ n, n = l.length := ⟨_, rfl⟩
  have HA := Lib.hid h
  have HN := Lib.hid hn'
  have HL := Lib.hid hl
  rw [← hn'] at hn ⊢
  have HM := Lib.hid (show 400 < n → strTx l = ⟨#[]⟩ from fun h => allF_long (by rw [← hn']; exact h))
  have HT := Lib.hid (show n ≤ 400 → (∀ i (hi : i < l.length), frF l[i] = true) → strTx l = ⟨(strL l).toArray⟩ from fun h => allF_t (by rw [← hn']; exact h))
  clear h hl hn'
  by_cases h4 : (400 : Int) < n
  · have HV := Lib.hid (HM.out (by omega))
    clear HM HT
    go_enter Tryd.func21, Tryd.ntmps21
    go_wp2
    go_ret
    exact ⟨by rw [HV.out]; rfl, Below.refl _ _⟩
  have HTT := Lib.hid (HT.out (by omega))
  clear HM HT
  obtain ⟨i0, hi, hz0, hz1, hz2⟩ := info_parts info5
  have h4' : n ≤ 400 := by omega
  have HO := Lib.hid (show (w.alloc (.cells #[] 5)).ownsRow w.heap.size 5 1 (.slice (some ⟨w.heap.size, 0, none⟩) 0 0) 0 (Lib.byteCells []) from World.ownsRow_lit w #[] 0 (Nat.le_refl _) (by decide) rfl)
  have HB0 := Lib.hid ((Below.refl _ w).alloc (Nat.le_refl _) (.cells #[] 5))
  go_enter Tryd.func21, Tryd.ntmps21
  go_wp2
  go_loopw [3, 4] (fun bv iv wr => ∃ k : Nat, k ≤ n ∧ iv = .int .i64 k ∧ (∀ i (hi : i < l.length), i < k → frF l[i] = true) ∧ wr.ownsRow w.heap.size 5 1 bv (strL (l.take k)).length (Lib.byteCells (strL (l.take k))) ∧ (strL (l.take k)).length ≤ 91 * k ∧ Below w.heap.size w wr) (fun _ iv _ => n - (intOf iv).toNat)
  case atStart => exact ⟨0, Nat.zero_le _, rfl, fun i _ hi => absurd hi (by omega), by simpa [strL] using HO.out, by simp [strL], HB0.out⟩
  case round =>
    obtain ⟨k, hk, rfl, hall, hown, hlen, hbel⟩ := hrel
    rename_i bv
    rename World => wr
    have HX := Lib.hid hall
    have HB := Lib.hid hbel
    have HO := Lib.hid hown
    have HA2 := Lib.hid (HA.out.below hbel)
    have HLN := Lib.hid hlen
    have hzz := hbel.size
    clear hall hbel hown hlen
    by_cases hlt : k < n
    · have hkl : k < l.length := by rw [← HN.out]; exact hlt
      obtain ⟨g, o, rfl, c0, c1, c2⟩ := HA2.out.at hkl
      have hs := HL.out l[k] (List.getElem_mem hkl)
      have HBAD := Lib.hid (fun (hg : frF l[k] = false) => allF_f hkl hg)
      have HGOOD := Lib.hid (fun (hg : frF l[k] = true) => (show ∀ i (hi : i < l.length), i < k + 1 → frF l[i] = true from fun i hi hik => by
        by_cases e : i = k
        · subst e; exact hg
        · exact HX.out i hi (by omega)))
      have HTK := Lib.hid (strL_take hkl)
      unfold oneL at HTK
      unfold frF at HBAD HGOOD
      obtain ⟨s, hse⟩ : ∃ s, s = l[k].2.2 := ⟨_, rfl⟩
      obtain ⟨fk, hfk⟩ : ∃ z, z = l[k].1 := ⟨_, rfl⟩
      obtain ⟨fa, hfa⟩ : ∃ z, z = l[k].2.1 := ⟨_, rfl⟩
      rw [← hse] at c2 hs HBAD HGOOD HTK
      rw [← hfk] at c0 HBAD HGOOD HTK
      rw [← hfa] at c1 HBAD HGOOD HTK
      have HR := Lib.hid (specFrame_any fk fa s (by unfold maxLen; omega))
      have gl := blk_lt c0
      clear hse hfk hfa hs
      cases hg : frB fk fa s
      · have HV := Lib.hid (HBAD.out hg)
        rw [hg] at HR
        unfold fV at HR
        clear hg
        go_wp2_with fail
        refine (HR.out _).mono ?_
        rintro e w1 ⟨rfl, hb⟩
        have HX2 := Lib.hid (bthen HB.out hb hzz)
        clear hb
        go_wp2
        go_ret
        exact ⟨by rw [HV.out]; rfl, HX2.out⟩
      · have HNX := Lib.hid (HGOOD.out hg)
        have HTX := Lib.hid (specTx_any fk fa s hg)
        have hfl := frL_len hg
        obtain ⟨X, hX⟩ : ∃ X, X = frS fk fa s := ⟨_, rfl⟩
        have hxl : X.size ≤ 90 := by rw [hX]; simpa [frS, ByteArray.size] using hfl
        have HXD := Lib.hid (show Lib.strCells (X ++ ⟨#[10]⟩) = Lib.byteCells (frL fk fa s ++ [10]) by rw [hX]; simp [Lib.strCells, Lib.byteCells, frS])
        have HXS := Lib.hid (show X.size + 1 = (frL fk fa s ++ [10]).length by rw [hX]; simp [frS, ByteArray.size])
        have HXZ := Lib.hid (show (X ++ ⟨#[10]⟩ : ByteArray).size = X.size + 1 by rw [ByteArray.size_append]; rfl)
        rw [hg] at HR
        rw [← hX] at HTX
        unfold fV at HR HTX
        have cc : ¬ 9223372036854775807 < X.size + 1 := by omega
        clear hg hX hfl
        go_wp2_with fail
        refine (HR.out _).mono ?_
        rintro e w1 ⟨rfl, hb⟩
        obtain ⟨k1, _⟩ := keepC hb (g := g) gl
        have HB1 := Lib.hid (bthen HB.out hb hzz)
        have HO1 := Lib.hid (own_later HO.out hb)
        have gl1 : g < w1.heap.size := Nat.lt_of_lt_of_le gl hb.size
        clear hb
        go_wp2_with fail
        refine (HTX.out _).mono ?_
        rintro e w2 ⟨rfl, hb⟩
        have HB2 := Lib.hid (bthen HB1.out hb HB1.out.size)
        have HO2 := Lib.hid (own_later HO1.out hb)
        have z2 := HB2.out.size
        clear hb
        go_wp2_with (first
          | (at_builtin; refine Lib.wpList_append_own_string _ rfl _ _ 74 9 rfl w.heap.size 5 i0 Tryd.underlying74 Tryd.underlying9 hi hz0 hz1 hz2 _ _ _ rfl HO2.out _ rfl ?c3 ?c4 ?c5 ?_))
        case c3 => unfold maxLen; have := HLN.out; have := HXZ.out; omega
        case c4 => have := HLN.out; have := HXZ.out; omega
        case c5 => exact z2
        intro v' w3 hown' hgrow _
        rw [HXD.out, ← Lib.byteCells_append, HXS.out, ← List.length_append, ← HTK.out] at hown'
        have HO3 := Lib.hid hown'
        have hl3 : (strL (l.take (k + 1))).length ≤ 91 * (k + 1) := by
          rw [HTK.out, List.length_append]
          have := HLN.out
          have := HXS.out
          omega
        have HB3 := Lib.hid (HB2.out.grown hgrow z2 (fun j hj => (HO2.out.lt j hj).1))
        have HL3 := Lib.hid hl3
        clear hown' hgrow hl3
        go_wp2
        go_roundw
        case rel => exact ⟨k + 1, by omega, by go_num, HNX.out, HO3.out, HL3.out, HB3.out⟩
        case measure => simp [intOf]; omega
    · obtain rfl : k = n := by omega
      have HV := Lib.hid (HTT.out (fun i hi => HX.out i hi (by rw [HN.out]; exact hi)))
      have hcv := conv_own (P := Tryd.prog) 74 5 Tryd.underlying74 Tryd.underlying5 (strL (l.take k)) HO.out 9 Tryd.underlying9
      have HTA := Lib.hid (show l.take k = l from by rw [HN.out]; exact List.take_length)
      rw [HTA.out] at hcv
      go_wp2
      go_ret
      exact ⟨by rw [HV.out]; rfl, HB.out⟩
end Go.Proofs.YtlhfgpcanfpnfaaDoor.frames
