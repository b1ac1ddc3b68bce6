/-
  What a frame's text says: the program. For every text of at most 8000 bytes; of the library's variables it asks what the row tells.
-/
import Derived.Test.YtlhfgpcanfpnfaaDoorCut
import Derived.Test.YtlhfgpcanfpnfaaDoorSaidBy
import Derived.Lib.AtoiErrMem
import Derived.Lib.CutLaws
import Derived.Laws.Slices
namespace Go.Proofs.YtlhfgpcanfpnfaaDoor.frame
open Go.ChangeShapes Go.WideShapes Go.ChangeAt Go.RowKit
open Go.Proofs.YtlhfgpcanfpnfaaDoor.line Go.Proofs.YtlhfgpcanfpnfaaDoor.all_
/-- what is asked of the library's variables -/
structure Vars (w : World) : Prop where
  y : ∃ t p, w.cell? ⟨1, 0, none⟩ = some (.iface t p)
  r : ∃ t p, w.cell? ⟨2, 0, none⟩ = some (.iface t p)
theorem Vars.below {w w' : World} (h : Vars w) (hb : Below w.heap.size w w') : Vars w' := by
  obtain ⟨⟨t, p, hy⟩, ⟨t2, p2, hr⟩⟩ := h
  exact ⟨⟨t, p, by rw [hb.cell (p := ⟨_, 0, none⟩) (blk_lt hy)]; exact hy⟩, ⟨t2, p2, by rw [hb.cell (p := ⟨_, 0, none⟩) (blk_lt hr)]; exact hr⟩⟩
theorem drewC (w : World) : Below w.heap.size w w.drew := (Below.refl _ w).drew
theorem cutA_index (s : ByteArray) (c : UInt8) : (Lib.indexByte s.data.toList c = -1 ∧ (cutA c s.data.toList) = (s.data.toList, [], false)) ∨
    ∃ i : Nat, Lib.indexByte s.data.toList c = i ∧ i + 1 ≤ s.size ∧ bA (cutA c s.data.toList).1 = s.extract 0 i ∧ bA (cutA c s.data.toList).2.1 = s.extract (i + 1) s.size ∧ (cutA c s.data.toList).2.2 = true := by
  have e := cut_eq c s.data.toList
  rw [← Lib.index_one]
  rcases Lib.indexB_cases s ⟨#[c]⟩ with h | ⟨i, h, hi⟩
  · refine .inl ⟨h, ?_⟩
    rw [← e]
    unfold Lib.cut
    rw [show Lib.index s.data.toList [c] = -1 from h, if_neg (by omega)]
  · refine .inr ⟨i, h, hi, ?_⟩
    obtain ⟨h1, h2, h3⟩ := Lib.cutB_hit s ⟨#[c]⟩ i h
    rw [show (⟨#[c]⟩ : ByteArray).data.toList = [c] from rfl, e] at h1 h2 h3
    exact ⟨h1, h2, h3⟩
theorem slcut_any (s : ByteArray) (c : UInt8) (hs : s.size ≤ 8000) (w : World) :
    Calls Tryd.prog 30 #[.string s, .string ⟨#[c]⟩] w fun e w' => e = .returned (.tuple #[.string (bA (cutA c s.data.toList).1), .string (bA (cutA c s.data.toList).2.1), .bool (cutA c s.data.toList).2.2]) ∧ Below w.heap.size w w' := by
  have HI := Lib.hid (Tryd.stringslite_Index_one s c)
  rcases cutA_index s c with ⟨h, e⟩ | ⟨i, h, hi, e1, e2, e3⟩
  · rw [h] at HI
    rw [e]
    rw [show bA s.data.toList = s from bA_list s, show bA [] = ⟨#[]⟩ from rfl]
    clear e h
    go_enter Tryd.func30, Tryd.ntmps30
    go_wp2_with fail
    refine (HI.out _).mono ?_
    rintro e w1 ⟨rfl, rfl⟩
    go_wp2
    exact bodyPost_ret (v := .tuple #[.string s, .string ⟨#[]⟩, .bool false]) (by simp [results, Tryd.results30, go_sem]) rfl ⟨rfl, Below.refl _ _⟩
  · rw [h] at HI
    obtain ⟨X, hX⟩ : ∃ X, X = s.extract 0 i := ⟨_, rfl⟩
    obtain ⟨Y, hY⟩ : ∃ Y, Y = s.extract (i + 1) s.size := ⟨_, rfl⟩
    rw [e1, e2, e3, ← hX, ← hY]
    have hb1 : (0 : Int) ≤ (i : Int) := by omega
    have hb2 : (i : Int) ≤ (s.size : Int) := by omega
    have hsx : ∀ W : World, (Instr.slice 9 (.string s) none (some (.int .i64 (i : Int))) none).run Tryd.prog W = .ok (.string X) W := fun W => by
      rw [run_slice_string_h (P := Tryd.prog) W 9 (s := s) Tryd.underlying9 .i64 (i : Int) (by omega) (by omega), hX]; rfl
    have hsy : ∀ W : World, (Instr.slice 9 (.string s) (some (.int .i64 ((i : Int) + 1))) none none).run Tryd.prog W = .ok (.string Y) W := fun W => by
      rw [run_slice_string_l (P := Tryd.prog) W 9 (s := s) Tryd.underlying9 .i64 ((i : Int) + 1) (by omega) (by omega), hY]; rfl
    clear e1 e2 e3 h hX hY
    go_enter Tryd.func30, Tryd.ntmps30
    go_wp2_with fail
    refine (HI.out _).mono ?_
    rintro e w1 ⟨rfl, rfl⟩
    go_wp2_with fail
    go_region
    go_wp2
    exact bodyPost_ret (v := .tuple #[.string X, .string Y, .bool true]) (by simp [results, Tryd.results30, go_sem]) rfl ⟨rfl, drewC _⟩
theorem cut_any (s : ByteArray) (c : UInt8) (hs : s.size ≤ 8000) (w : World) :
    Calls Tryd.prog 22 #[.string s, .string ⟨#[c]⟩] w fun e w' => e = .returned (.tuple #[.string (bA (cutA c s.data.toList).1), .string (bA (cutA c s.data.toList).2.1), .bool (cutA c s.data.toList).2.2]) ∧ Below w.heap.size w w' := by
  have HC := Lib.hid (slcut_any s c hs)
  obtain ⟨X, hX⟩ : ∃ X, X = bA (cutA c s.data.toList).1 := ⟨_, rfl⟩
  obtain ⟨Y, hY⟩ : ∃ Y, Y = bA (cutA c s.data.toList).2.1 := ⟨_, rfl⟩
  obtain ⟨Z, hZ⟩ : ∃ Z, Z = (cutA c s.data.toList).2.2 := ⟨_, rfl⟩
  rw [← hX, ← hY, ← hZ] at HC ⊢
  clear hX hY hZ
  go_enter Tryd.func22, Tryd.ntmps22
  go_wp2_with fail
  refine (HC.out _).mono ?_
  rintro e w1 ⟨rfl, hb⟩
  go_wp2
  exact bodyPost_ret (v := .tuple #[.string X, .string Y, .bool Z]) (by simp [results, Tryd.results22, go_sem]) rfl ⟨rfl, hb⟩
theorem parse_any (s : ByteArray) (hs : s.size ≤ 8000) (w : World) (h : Vars w) :
    Calls Tryd.prog 28 #[.string s, .int .i64 10, .int .i64 64] w fun e w' => ∃ v, e = .returned (.tuple #[.int .i64 (atV s.data.toList), v]) ∧ Below w.heap.size w w' := by
  unfold atV
  rcases hp : Lib.parseIntB 64 s.data.toList with v | _ | _
  · refine (Tryd.strconv_ParseInt_10_at64_ok s (by omega) v hp w).mono ?_
    rintro e w' ⟨rfl, rfl | ⟨t, rfl⟩⟩
    · exact ⟨_, rfl, Below.refl _ _⟩
    · refine ⟨_, rfl, ?_⟩
      exact Lib.bytesWorld_below _ _ _
  · obtain ⟨t, p, hr⟩ := h.y
    refine (Any.strconv_ParseInt_10_at64_syntax Tryd.laysC174 s (by omega) hp _ w hr (.inr ⟨t, p, rfl⟩)).mono ?_
    rintro e w' ⟨N, rfl, _, _, hb⟩
    exact ⟨_, rfl, hb⟩
  · obtain ⟨t, p, hr⟩ := h.r
    refine (Tryd.strconv_ParseInt_10_at64_range s (by omega) hp _ w hr (.inr ⟨t, p, rfl⟩)).mono ?_
    rintro e w' ⟨N, rfl, _, _, hb⟩
    exact ⟨_, rfl, hb⟩
theorem bA_size (l : List UInt8) : (bA l).size = l.length := rfl
theorem eqB (x y : ByteArray) : (x.toList == y.toList) = decide (x = y) := by
  by_cases h : x = y
  · subst h
    simp
  · rw [decide_eq_false h]
    apply Bool.eq_false_iff.2
    intro e
    have e2 : x.toList = y.toList := by simpa using e
    rw [ByteArray.toList_eq, ByteArray.toList_eq] at e2
    exact h (ByteArray.ext (Array.toList_inj.1 e2))
set_option maxHeartbeats 1600000 in
theorem said_1 (s : ByteArray) (hs : s.size ≤ 8000) (w : World) (h : Vars w) (hw : (cutA 32 s.data.toList).1 = putL) (a : Int) (ha : a = atV (cutA 32 (cutA 32 s.data.toList).2.1).1) (t : ByteArray) (ht : t = bA (cutA 32 (cutA 32 s.data.toList).2.1).2.1) :
    Calls Tryd.prog 17 #[.string s] w fun e w' => ∃ b, e = .returned (.tuple #[.iface 61 (.agg #[.int .i64 a, .string t]), .bool b]) ∧ b = (frB 1 a t && decide (frS 1 a t = s)) ∧ Below w.heap.size w w' := by
  have HC := Lib.hid (cut_any s 32 hs w)
  rw [hw, show bA putL = ⟨#[112, 117, 116]⟩ from rfl] at HC
  obtain ⟨r, hr⟩ : ∃ r, r = bA (cutA 32 s.data.toList).2.1 := ⟨_, rfl⟩
  have hrl : r.data.toList = (cutA 32 s.data.toList).2.1 := by rw [hr]; simp [bA]
  have hrs : r.size ≤ 8000 := by
    have h1 := (cutA_len 32 s.data.toList).2
    rw [← hrl] at h1
    exact Nat.le_trans h1 hs
  rw [← hr] at HC
  have HC2 := Lib.hid (cut_any r 32 hrs)
  obtain ⟨b, hb⟩ : ∃ b, b = bA (cutA 32 r.data.toList).2.1 := ⟨_, rfl⟩
  obtain ⟨q, hq⟩ : ∃ q, q = bA (cutA 32 r.data.toList).1 := ⟨_, rfl⟩
  have hql : q.data.toList = (cutA 32 r.data.toList).1 := by rw [hq]; simp [bA]
  have hqs : q.size ≤ 8000 := by
    have h1 := (cutA_len 32 r.data.toList).1
    rw [← hql] at h1
    exact Nat.le_trans h1 hrs
  have hbs : b.size ≤ 8000 := by
    have h1 := (cutA_len 32 r.data.toList).2
    rw [hb, bA_size]
    exact Nat.le_trans h1 hrs
  rw [← hq, ← hb] at HC2
  have HP := Lib.hid (fun w1 (h1 : Vars w1) => parse_any q hqs w1 h1)
  obtain ⟨z, hz⟩ : ∃ z, z = atV q.data.toList := ⟨_, rfl⟩
  rw [← hz] at HP
  obtain ⟨c1, hc1⟩ : ∃ c, c = (cutA 32 s.data.toList).2.2 := ⟨_, rfl⟩
  obtain ⟨c2, hc2⟩ : ∃ c, c = (cutA 32 r.data.toList).2.2 := ⟨_, rfl⟩
  rw [← hc1] at HC
  rw [← hc2] at HC2
  have HV := Lib.hid h
  rw [← hrl] at ha
  rw [← hql] at ha
  rw [← hz] at ha
  obtain rfl := ha
  rw [← hrl] at ht
  rw [← hb] at ht
  obtain rfl := ht
  have hm : t.size ≤ maxLen := by unfold maxLen; omega
  have HR := Lib.hid (changeR_any a t hm)
  have hcm := rightM_1 a t
  have hcw := writtenM_1 a t
  have hB : frB 1 a t = (plB a && goodB t) := by rw [frB_1]
  rw [← hB] at HR
  cases hbb : frB 1 a t
  · rw [hbb] at HR
    rw [Bool.false_and]
    clear hw hr hrl hb hq hql hrs hqs hbs hz hc1 hc2 h hs hB hbb hm
    go_enter Tryd.func17, Tryd.ntmps17
    go_wp2_with fail
    refine HC.out.mono ?_
    rintro e w1 ⟨rfl, hb⟩
    have HV1 := Lib.hid (HV.out.below hb)
    have HB := Lib.hid hb
    clear hb
    go_wp2_with fail
    refine (HC2.out _).mono ?_
    rintro e w2 ⟨rfl, hb⟩
    have HV2 := Lib.hid (HV1.out.below hb)
    have HB := Lib.hid (bthen HB.out hb HB.out.size)
    clear hb
    go_wp2_with fail
    refine (HP.out _ HV2.out).mono ?_
    rintro e w3 ⟨pv, rfl, hb⟩
    have HB := Lib.hid (bthen HB.out hb HB.out.size)
    clear hb
    go_wp2_with fail
    refine (HR.out _).mono ?_
    rintro e w4 ⟨rfl, hb⟩
    have HB := Lib.hid (bthen HB.out hb HB.out.size)
    clear hb
    go_wp2
    exact bodyPost_ret (v := .tuple #[.iface 61 (.agg #[.int .i64 a, .string t]), .bool false]) (by simp [results, Tryd.results17, go_sem]) rfl ⟨_, rfl, ⟨rfl, HB.out⟩⟩
  · obtain ⟨_, _, hp, _, ht80, _⟩ := frB_facts hbb
    have HW := Lib.hid (written_1 a t (hp (by omega)) ht80)
    obtain ⟨X, hX⟩ : ∃ X, X = frS 1 a t := ⟨_, rfl⟩
    rw [← hX] at HW ⊢
    rw [hbb] at HR
    rw [Bool.true_and]
    clear hw hr hrl hb hq hql hrs hqs hbs hz hc1 hc2 h hs hB hbb hm hp ht80 hX
    go_enter Tryd.func17, Tryd.ntmps17
    go_wp2_with fail
    refine HC.out.mono ?_
    rintro e w1 ⟨rfl, hb⟩
    have HV1 := Lib.hid (HV.out.below hb)
    have HB := Lib.hid hb
    clear hb
    go_wp2_with fail
    refine (HC2.out _).mono ?_
    rintro e w2 ⟨rfl, hb⟩
    have HV2 := Lib.hid (HV1.out.below hb)
    have HB := Lib.hid (bthen HB.out hb HB.out.size)
    clear hb
    go_wp2_with fail
    refine (HP.out _ HV2.out).mono ?_
    rintro e w3 ⟨pv, rfl, hb⟩
    have HB := Lib.hid (bthen HB.out hb HB.out.size)
    clear hb
    go_wp2_with fail
    refine (HR.out _).mono ?_
    rintro e w4 ⟨rfl, hb⟩
    have HB := Lib.hid (bthen HB.out hb HB.out.size)
    clear hb
    go_wp2_with fail
    refine (HW.out _).mono ?_
    rintro e w5 ⟨rfl, hb⟩
    have HB := Lib.hid (bthen HB.out hb HB.out.size)
    clear hb
    go_wp2
    exact bodyPost_ret (v := .tuple #[.iface 61 (.agg #[.int .i64 a, .string t]), .bool (X.toList == s.toList)]) (by simp [results, Tryd.results17, go_sem]) rfl ⟨_, rfl, ⟨eqB X s, HB.out⟩⟩
set_option maxHeartbeats 1600000 in
theorem said_2 (s : ByteArray) (hs : s.size ≤ 8000) (w : World) (h : Vars w) (hw : (cutA 32 s.data.toList).1 = dropL) (a : Int) (ha : a = atV (cutA 32 (cutA 32 s.data.toList).2.1).1) (t : ByteArray) (ht : t = bA (cutA 32 (cutA 32 s.data.toList).2.1).2.1) :
    Calls Tryd.prog 17 #[.string s] w fun e w' => ∃ b, e = .returned (.tuple #[.iface 62 (.agg #[.int .i64 a, .string t]), .bool b]) ∧ b = (frB 2 a t && decide (frS 2 a t = s)) ∧ Below w.heap.size w w' := by
  have HC := Lib.hid (cut_any s 32 hs w)
  rw [hw, show bA dropL = ⟨#[100, 114, 111, 112]⟩ from rfl] at HC
  obtain ⟨r, hr⟩ : ∃ r, r = bA (cutA 32 s.data.toList).2.1 := ⟨_, rfl⟩
  have hrl : r.data.toList = (cutA 32 s.data.toList).2.1 := by rw [hr]; simp [bA]
  have hrs : r.size ≤ 8000 := by
    have h1 := (cutA_len 32 s.data.toList).2
    rw [← hrl] at h1
    exact Nat.le_trans h1 hs
  rw [← hr] at HC
  have HC2 := Lib.hid (cut_any r 32 hrs)
  obtain ⟨b, hb⟩ : ∃ b, b = bA (cutA 32 r.data.toList).2.1 := ⟨_, rfl⟩
  obtain ⟨q, hq⟩ : ∃ q, q = bA (cutA 32 r.data.toList).1 := ⟨_, rfl⟩
  have hql : q.data.toList = (cutA 32 r.data.toList).1 := by rw [hq]; simp [bA]
  have hqs : q.size ≤ 8000 := by
    have h1 := (cutA_len 32 r.data.toList).1
    rw [← hql] at h1
    exact Nat.le_trans h1 hrs
  have hbs : b.size ≤ 8000 := by
    have h1 := (cutA_len 32 r.data.toList).2
    rw [hb, bA_size]
    exact Nat.le_trans h1 hrs
  rw [← hq, ← hb] at HC2
  have HP := Lib.hid (fun w1 (h1 : Vars w1) => parse_any q hqs w1 h1)
  obtain ⟨z, hz⟩ : ∃ z, z = atV q.data.toList := ⟨_, rfl⟩
  rw [← hz] at HP
  obtain ⟨c1, hc1⟩ : ∃ c, c = (cutA 32 s.data.toList).2.2 := ⟨_, rfl⟩
  obtain ⟨c2, hc2⟩ : ∃ c, c = (cutA 32 r.data.toList).2.2 := ⟨_, rfl⟩
  rw [← hc1] at HC
  rw [← hc2] at HC2
  have HV := Lib.hid h
  rw [← hrl] at ha
  rw [← hql] at ha
  rw [← hz] at ha
  obtain rfl := ha
  rw [← hrl] at ht
  rw [← hb] at ht
  obtain rfl := ht
  have hm : t.size ≤ maxLen := by unfold maxLen; omega
  have HR := Lib.hid (changeR_any a t hm)
  have hcm := rightM_2 a t
  have hcw := writtenM_2 a t
  have hB : frB 2 a t = (plB a && goodB t) := by rw [frB_2]
  rw [← hB] at HR
  cases hbb : frB 2 a t
  · rw [hbb] at HR
    rw [Bool.false_and]
    clear hw hr hrl hb hq hql hrs hqs hbs hz hc1 hc2 h hs hB hbb hm
    go_enter Tryd.func17, Tryd.ntmps17
    go_wp2_with fail
    refine HC.out.mono ?_
    rintro e w1 ⟨rfl, hb⟩
    have HV1 := Lib.hid (HV.out.below hb)
    have HB := Lib.hid hb
    clear hb
    go_wp2_with fail
    refine (HC2.out _).mono ?_
    rintro e w2 ⟨rfl, hb⟩
    have HV2 := Lib.hid (HV1.out.below hb)
    have HB := Lib.hid (bthen HB.out hb HB.out.size)
    clear hb
    go_wp2_with fail
    refine (HP.out _ HV2.out).mono ?_
    rintro e w3 ⟨pv, rfl, hb⟩
    have HB := Lib.hid (bthen HB.out hb HB.out.size)
    clear hb
    go_wp2_with fail
    refine (HR.out _).mono ?_
    rintro e w4 ⟨rfl, hb⟩
    have HB := Lib.hid (bthen HB.out hb HB.out.size)
    clear hb
    go_wp2
    exact bodyPost_ret (v := .tuple #[.iface 62 (.agg #[.int .i64 a, .string t]), .bool false]) (by simp [results, Tryd.results17, go_sem]) rfl ⟨_, rfl, ⟨rfl, HB.out⟩⟩
  · obtain ⟨_, _, hp, _, ht80, _⟩ := frB_facts hbb
    have HW := Lib.hid (written_2 a t (hp (by omega)) ht80)
    obtain ⟨X, hX⟩ : ∃ X, X = frS 2 a t := ⟨_, rfl⟩
    rw [← hX] at HW ⊢
    rw [hbb] at HR
    rw [Bool.true_and]
    clear hw hr hrl hb hq hql hrs hqs hbs hz hc1 hc2 h hs hB hbb hm hp ht80 hX
    go_enter Tryd.func17, Tryd.ntmps17
    go_wp2_with fail
    refine HC.out.mono ?_
    rintro e w1 ⟨rfl, hb⟩
    have HV1 := Lib.hid (HV.out.below hb)
    have HB := Lib.hid hb
    clear hb
    go_wp2_with fail
    refine (HC2.out _).mono ?_
    rintro e w2 ⟨rfl, hb⟩
    have HV2 := Lib.hid (HV1.out.below hb)
    have HB := Lib.hid (bthen HB.out hb HB.out.size)
    clear hb
    go_wp2_with fail
    refine (HP.out _ HV2.out).mono ?_
    rintro e w3 ⟨pv, rfl, hb⟩
    have HB := Lib.hid (bthen HB.out hb HB.out.size)
    clear hb
    go_wp2_with fail
    refine (HR.out _).mono ?_
    rintro e w4 ⟨rfl, hb⟩
    have HB := Lib.hid (bthen HB.out hb HB.out.size)
    clear hb
    go_wp2_with fail
    refine (HW.out _).mono ?_
    rintro e w5 ⟨rfl, hb⟩
    have HB := Lib.hid (bthen HB.out hb HB.out.size)
    clear hb
    go_wp2
    exact bodyPost_ret (v := .tuple #[.iface 62 (.agg #[.int .i64 a, .string t]), .bool (X.toList == s.toList)]) (by simp [results, Tryd.results17, go_sem]) rfl ⟨_, rfl, ⟨eqB X s, HB.out⟩⟩
set_option maxHeartbeats 1600000 in
theorem said_3 (s : ByteArray) (hs : s.size ≤ 8000) (w : World) (h : Vars w) (hw : (cutA 32 s.data.toList).1 = moveL) (a : Int) (ha : a = atV (cutA 32 (cutA 32 s.data.toList).2.1).1) :
    Calls Tryd.prog 17 #[.string s] w fun e w' => ∃ b, e = .returned (.tuple #[.iface 64 (.agg #[.int .i64 a]), .bool b]) ∧ b = (frB 3 a ⟨#[]⟩ && decide (frS 3 a ⟨#[]⟩ = s)) ∧ Below w.heap.size w w' := by
  have HC := Lib.hid (cut_any s 32 hs w)
  rw [hw, show bA moveL = ⟨#[109, 111, 118, 101]⟩ from rfl] at HC
  obtain ⟨r, hr⟩ : ∃ r, r = bA (cutA 32 s.data.toList).2.1 := ⟨_, rfl⟩
  have hrl : r.data.toList = (cutA 32 s.data.toList).2.1 := by rw [hr]; simp [bA]
  have hrs : r.size ≤ 8000 := by
    have h1 := (cutA_len 32 s.data.toList).2
    rw [← hrl] at h1
    exact Nat.le_trans h1 hs
  rw [← hr] at HC
  have HC2 := Lib.hid (cut_any r 32 hrs)
  obtain ⟨b, hb⟩ : ∃ b, b = bA (cutA 32 r.data.toList).2.1 := ⟨_, rfl⟩
  obtain ⟨q, hq⟩ : ∃ q, q = bA (cutA 32 r.data.toList).1 := ⟨_, rfl⟩
  have hql : q.data.toList = (cutA 32 r.data.toList).1 := by rw [hq]; simp [bA]
  have hqs : q.size ≤ 8000 := by
    have h1 := (cutA_len 32 r.data.toList).1
    rw [← hql] at h1
    exact Nat.le_trans h1 hrs
  have hbs : b.size ≤ 8000 := by
    have h1 := (cutA_len 32 r.data.toList).2
    rw [hb, bA_size]
    exact Nat.le_trans h1 hrs
  rw [← hq, ← hb] at HC2
  have HP := Lib.hid (fun w1 (h1 : Vars w1) => parse_any q hqs w1 h1)
  obtain ⟨z, hz⟩ : ∃ z, z = atV q.data.toList := ⟨_, rfl⟩
  rw [← hz] at HP
  obtain ⟨c1, hc1⟩ : ∃ c, c = (cutA 32 s.data.toList).2.2 := ⟨_, rfl⟩
  obtain ⟨c2, hc2⟩ : ∃ c, c = (cutA 32 r.data.toList).2.2 := ⟨_, rfl⟩
  rw [← hc1] at HC
  rw [← hc2] at HC2
  have HV := Lib.hid h
  rw [← hrl] at ha
  rw [← hql] at ha
  rw [← hz] at ha
  obtain rfl := ha
  have HR := Lib.hid (moveR_any a)
  have hcm := rightM_3 a
  have hcw := writtenM_3 a
  have hB : frB 3 a ⟨#[]⟩ = (plB a) := by rw [frB_3]; cases plB a <;> rfl
  rw [← hB] at HR
  cases hbb : frB 3 a ⟨#[]⟩
  · rw [hbb] at HR
    rw [Bool.false_and]
    clear hw hr hrl hb hq hql hrs hqs hbs hz hc1 hc2 h hs hB hbb
    go_enter Tryd.func17, Tryd.ntmps17
    go_wp2_with fail
    refine HC.out.mono ?_
    rintro e w1 ⟨rfl, hb⟩
    have HV1 := Lib.hid (HV.out.below hb)
    have HB := Lib.hid hb
    clear hb
    go_wp2_with fail
    refine (HC2.out _).mono ?_
    rintro e w2 ⟨rfl, hb⟩
    have HV2 := Lib.hid (HV1.out.below hb)
    have HB := Lib.hid (bthen HB.out hb HB.out.size)
    clear hb
    go_wp2_with fail
    refine (HP.out _ HV2.out).mono ?_
    rintro e w3 ⟨pv, rfl, hb⟩
    have HB := Lib.hid (bthen HB.out hb HB.out.size)
    clear hb
    go_wp2_with fail
    refine (HR.out _).mono ?_
    rintro e w4 ⟨rfl, hb⟩
    have HB := Lib.hid (bthen HB.out hb HB.out.size)
    clear hb
    go_wp2
    exact bodyPost_ret (v := .tuple #[.iface 64 (.agg #[.int .i64 a]), .bool false]) (by simp [results, Tryd.results17, go_sem]) rfl ⟨_, rfl, ⟨rfl, HB.out⟩⟩
  · obtain ⟨_, _, hp, _, ht80, _⟩ := frB_facts hbb
    have HW := Lib.hid (written_3 a ⟨#[]⟩ (hp (by omega)))
    obtain ⟨X, hX⟩ : ∃ X, X = frS 3 a ⟨#[]⟩ := ⟨_, rfl⟩
    rw [← hX] at HW ⊢
    rw [hbb] at HR
    rw [Bool.true_and]
    clear hw hr hrl hb hq hql hrs hqs hbs hz hc1 hc2 h hs hB hbb hp ht80 hX
    go_enter Tryd.func17, Tryd.ntmps17
    go_wp2_with fail
    refine HC.out.mono ?_
    rintro e w1 ⟨rfl, hb⟩
    have HV1 := Lib.hid (HV.out.below hb)
    have HB := Lib.hid hb
    clear hb
    go_wp2_with fail
    refine (HC2.out _).mono ?_
    rintro e w2 ⟨rfl, hb⟩
    have HV2 := Lib.hid (HV1.out.below hb)
    have HB := Lib.hid (bthen HB.out hb HB.out.size)
    clear hb
    go_wp2_with fail
    refine (HP.out _ HV2.out).mono ?_
    rintro e w3 ⟨pv, rfl, hb⟩
    have HB := Lib.hid (bthen HB.out hb HB.out.size)
    clear hb
    go_wp2_with fail
    refine (HR.out _).mono ?_
    rintro e w4 ⟨rfl, hb⟩
    have HB := Lib.hid (bthen HB.out hb HB.out.size)
    clear hb
    go_wp2_with fail
    refine (HW.out _).mono ?_
    rintro e w5 ⟨rfl, hb⟩
    have HB := Lib.hid (bthen HB.out hb HB.out.size)
    clear hb
    go_wp2
    exact bodyPost_ret (v := .tuple #[.iface 64 (.agg #[.int .i64 a]), .bool (X.toList == s.toList)]) (by simp [results, Tryd.results17, go_sem]) rfl ⟨_, rfl, ⟨eqB X s, HB.out⟩⟩
set_option maxHeartbeats 1600000 in
theorem said_4 (s : ByteArray) (hs : s.size ≤ 8000) (w : World) (h : Vars w) (hw : (cutA 32 s.data.toList).1 = allL) (a : Int) (ha : a = atV (cutA 32 (cutA 32 s.data.toList).2.1).1) (t : ByteArray) (ht : t = bA (cutA 32 (cutA 32 s.data.toList).2.1).2.1) :
    Calls Tryd.prog 17 #[.string s] w fun e w' => ∃ b, e = .returned (.tuple #[.iface 65 (.agg #[.int .i64 a, .string t]), .bool b]) ∧ b = (frB 4 a t && decide (frS 4 a t = s)) ∧ Below w.heap.size w w' := by
  have HC := Lib.hid (cut_any s 32 hs w)
  rw [hw, show bA allL = ⟨#[97, 108, 108]⟩ from rfl] at HC
  obtain ⟨r, hr⟩ : ∃ r, r = bA (cutA 32 s.data.toList).2.1 := ⟨_, rfl⟩
  have hrl : r.data.toList = (cutA 32 s.data.toList).2.1 := by rw [hr]; simp [bA]
  have hrs : r.size ≤ 8000 := by
    have h1 := (cutA_len 32 s.data.toList).2
    rw [← hrl] at h1
    exact Nat.le_trans h1 hs
  rw [← hr] at HC
  have HC2 := Lib.hid (cut_any r 32 hrs)
  obtain ⟨b, hb⟩ : ∃ b, b = bA (cutA 32 r.data.toList).2.1 := ⟨_, rfl⟩
  obtain ⟨q, hq⟩ : ∃ q, q = bA (cutA 32 r.data.toList).1 := ⟨_, rfl⟩
  have hql : q.data.toList = (cutA 32 r.data.toList).1 := by rw [hq]; simp [bA]
  have hqs : q.size ≤ 8000 := by
    have h1 := (cutA_len 32 r.data.toList).1
    rw [← hql] at h1
    exact Nat.le_trans h1 hrs
  have hbs : b.size ≤ 8000 := by
    have h1 := (cutA_len 32 r.data.toList).2
    rw [hb, bA_size]
    exact Nat.le_trans h1 hrs
  rw [← hq, ← hb] at HC2
  have HP := Lib.hid (fun w1 (h1 : Vars w1) => parse_any q hqs w1 h1)
  obtain ⟨z, hz⟩ : ∃ z, z = atV q.data.toList := ⟨_, rfl⟩
  rw [← hz] at HP
  obtain ⟨c1, hc1⟩ : ∃ c, c = (cutA 32 s.data.toList).2.2 := ⟨_, rfl⟩
  obtain ⟨c2, hc2⟩ : ∃ c, c = (cutA 32 r.data.toList).2.2 := ⟨_, rfl⟩
  rw [← hc1] at HC
  rw [← hc2] at HC2
  have HV := Lib.hid h
  rw [← hrl] at ha
  rw [← hql] at ha
  rw [← hz] at ha
  obtain rfl := ha
  rw [← hrl] at ht
  rw [← hb] at ht
  obtain rfl := ht
  have hm : t.size ≤ maxLen := by unfold maxLen; omega
  have HR := Lib.hid (allR_any a t hm)
  have hcm := rightM_4 a t
  have hcw := writtenM_4 a t
  have hB : frB 4 a t = (plB a && textB t) := by rw [frB_4]
  rw [← hB] at HR
  cases hbb : frB 4 a t
  · rw [hbb] at HR
    rw [Bool.false_and]
    clear hw hr hrl hb hq hql hrs hqs hbs hz hc1 hc2 h hs hB hbb hm
    go_enter Tryd.func17, Tryd.ntmps17
    go_wp2_with fail
    refine HC.out.mono ?_
    rintro e w1 ⟨rfl, hb⟩
    have HV1 := Lib.hid (HV.out.below hb)
    have HB := Lib.hid hb
    clear hb
    go_wp2_with fail
    refine (HC2.out _).mono ?_
    rintro e w2 ⟨rfl, hb⟩
    have HV2 := Lib.hid (HV1.out.below hb)
    have HB := Lib.hid (bthen HB.out hb HB.out.size)
    clear hb
    go_wp2_with fail
    refine (HP.out _ HV2.out).mono ?_
    rintro e w3 ⟨pv, rfl, hb⟩
    have HB := Lib.hid (bthen HB.out hb HB.out.size)
    clear hb
    go_wp2_with fail
    refine (HR.out _).mono ?_
    rintro e w4 ⟨rfl, hb⟩
    have HB := Lib.hid (bthen HB.out hb HB.out.size)
    clear hb
    go_wp2
    exact bodyPost_ret (v := .tuple #[.iface 65 (.agg #[.int .i64 a, .string t]), .bool false]) (by simp [results, Tryd.results17, go_sem]) rfl ⟨_, rfl, ⟨rfl, HB.out⟩⟩
  · obtain ⟨_, _, hp, _, ht80, _⟩ := frB_facts hbb
    have HW := Lib.hid (written_4 a t (hp (by omega)) ht80)
    obtain ⟨X, hX⟩ : ∃ X, X = frS 4 a t := ⟨_, rfl⟩
    rw [← hX] at HW ⊢
    rw [hbb] at HR
    rw [Bool.true_and]
    clear hw hr hrl hb hq hql hrs hqs hbs hz hc1 hc2 h hs hB hbb hm hp ht80 hX
    go_enter Tryd.func17, Tryd.ntmps17
    go_wp2_with fail
    refine HC.out.mono ?_
    rintro e w1 ⟨rfl, hb⟩
    have HV1 := Lib.hid (HV.out.below hb)
    have HB := Lib.hid hb
    clear hb
    go_wp2_with fail
    refine (HC2.out _).mono ?_
    rintro e w2 ⟨rfl, hb⟩
    have HV2 := Lib.hid (HV1.out.below hb)
    have HB := Lib.hid (bthen HB.out hb HB.out.size)
    clear hb
    go_wp2_with fail
    refine (HP.out _ HV2.out).mono ?_
    rintro e w3 ⟨pv, rfl, hb⟩
    have HB := Lib.hid (bthen HB.out hb HB.out.size)
    clear hb
    go_wp2_with fail
    refine (HR.out _).mono ?_
    rintro e w4 ⟨rfl, hb⟩
    have HB := Lib.hid (bthen HB.out hb HB.out.size)
    clear hb
    go_wp2_with fail
    refine (HW.out _).mono ?_
    rintro e w5 ⟨rfl, hb⟩
    have HB := Lib.hid (bthen HB.out hb HB.out.size)
    clear hb
    go_wp2
    exact bodyPost_ret (v := .tuple #[.iface 65 (.agg #[.int .i64 a, .string t]), .bool (X.toList == s.toList)]) (by simp [results, Tryd.results17, go_sem]) rfl ⟨_, rfl, ⟨eqB X s, HB.out⟩⟩
set_option maxHeartbeats 1600000 in
theorem said_5 (s : ByteArray) (hs : s.size ≤ 8000) (w : World) (h : Vars w) (hw : (cutA 32 s.data.toList).1 = sayL) (t : ByteArray) (ht : t = bA (cutA 32 s.data.toList).2.1) :
    Calls Tryd.prog 17 #[.string s] w fun e w' => ∃ b, e = .returned (.tuple #[.iface 67 (.agg #[.string t]), .bool b]) ∧ b = (frB 5 0 t && decide (frS 5 0 t = s)) ∧ Below w.heap.size w w' := by
  have HC := Lib.hid (cut_any s 32 hs w)
  rw [hw, show bA sayL = ⟨#[115, 97, 121]⟩ from rfl] at HC
  obtain ⟨r, hr⟩ : ∃ r, r = bA (cutA 32 s.data.toList).2.1 := ⟨_, rfl⟩
  have hrl : r.data.toList = (cutA 32 s.data.toList).2.1 := by rw [hr]; simp [bA]
  have hrs : r.size ≤ 8000 := by
    have h1 := (cutA_len 32 s.data.toList).2
    rw [← hrl] at h1
    exact Nat.le_trans h1 hs
  rw [← hr] at HC
  have HC2 := Lib.hid (cut_any r 32 hrs)
  obtain ⟨b, hb⟩ : ∃ b, b = bA (cutA 32 r.data.toList).2.1 := ⟨_, rfl⟩
  obtain ⟨q, hq⟩ : ∃ q, q = bA (cutA 32 r.data.toList).1 := ⟨_, rfl⟩
  have hql : q.data.toList = (cutA 32 r.data.toList).1 := by rw [hq]; simp [bA]
  have hqs : q.size ≤ 8000 := by
    have h1 := (cutA_len 32 r.data.toList).1
    rw [← hql] at h1
    exact Nat.le_trans h1 hrs
  have hbs : b.size ≤ 8000 := by
    have h1 := (cutA_len 32 r.data.toList).2
    rw [hb, bA_size]
    exact Nat.le_trans h1 hrs
  rw [← hq, ← hb] at HC2
  have HP := Lib.hid (fun w1 (h1 : Vars w1) => parse_any q hqs w1 h1)
  obtain ⟨z, hz⟩ : ∃ z, z = atV q.data.toList := ⟨_, rfl⟩
  rw [← hz] at HP
  obtain ⟨c1, hc1⟩ : ∃ c, c = (cutA 32 s.data.toList).2.2 := ⟨_, rfl⟩
  obtain ⟨c2, hc2⟩ : ∃ c, c = (cutA 32 r.data.toList).2.2 := ⟨_, rfl⟩
  rw [← hc1] at HC
  rw [← hc2] at HC2
  have HV := Lib.hid h
  rw [← hr] at ht
  obtain rfl := ht
  have hm : t.size ≤ maxLen := by unfold maxLen; omega
  have HR := Lib.hid (sayR_any t hm)
  have hcm := rightM_5 t
  have hcw := writtenM_5 t
  have hB : frB 5 0 t = (sayB t) := by rw [frB_5]; simp
  rw [← hB] at HR
  cases hbb : frB 5 0 t
  · rw [hbb] at HR
    rw [Bool.false_and]
    clear hw hr hrl hb hq hql hrs hqs hbs hz hc1 hc2 h hs hB hbb hm
    go_enter Tryd.func17, Tryd.ntmps17
    go_wp2_with fail
    refine HC.out.mono ?_
    rintro e w1 ⟨rfl, hb⟩
    have HV1 := Lib.hid (HV.out.below hb)
    have HB := Lib.hid hb
    clear hb
    go_wp2_with fail
    refine (HC2.out _).mono ?_
    rintro e w2 ⟨rfl, hb⟩
    have HV2 := Lib.hid (HV1.out.below hb)
    have HB := Lib.hid (bthen HB.out hb HB.out.size)
    clear hb
    go_wp2_with fail
    refine (HP.out _ HV2.out).mono ?_
    rintro e w3 ⟨pv, rfl, hb⟩
    have HB := Lib.hid (bthen HB.out hb HB.out.size)
    clear hb
    go_wp2_with fail
    refine (HR.out _).mono ?_
    rintro e w4 ⟨rfl, hb⟩
    have HB := Lib.hid (bthen HB.out hb HB.out.size)
    clear hb
    go_wp2
    exact bodyPost_ret (v := .tuple #[.iface 67 (.agg #[.string t]), .bool false]) (by simp [results, Tryd.results17, go_sem]) rfl ⟨_, rfl, ⟨rfl, HB.out⟩⟩
  · obtain ⟨_, _, hp, _, ht80, _⟩ := frB_facts hbb
    have HW := Lib.hid (written_5 0 t ht80)
    obtain ⟨X, hX⟩ : ∃ X, X = frS 5 0 t := ⟨_, rfl⟩
    rw [← hX] at HW ⊢
    rw [hbb] at HR
    rw [Bool.true_and]
    clear hw hr hrl hb hq hql hrs hqs hbs hz hc1 hc2 h hs hB hbb hm hp ht80 hX
    go_enter Tryd.func17, Tryd.ntmps17
    go_wp2_with fail
    refine HC.out.mono ?_
    rintro e w1 ⟨rfl, hb⟩
    have HV1 := Lib.hid (HV.out.below hb)
    have HB := Lib.hid hb
    clear hb
    go_wp2_with fail
    refine (HC2.out _).mono ?_
    rintro e w2 ⟨rfl, hb⟩
    have HV2 := Lib.hid (HV1.out.below hb)
    have HB := Lib.hid (bthen HB.out hb HB.out.size)
    clear hb
    go_wp2_with fail
    refine (HP.out _ HV2.out).mono ?_
    rintro e w3 ⟨pv, rfl, hb⟩
    have HB := Lib.hid (bthen HB.out hb HB.out.size)
    clear hb
    go_wp2_with fail
    refine (HR.out _).mono ?_
    rintro e w4 ⟨rfl, hb⟩
    have HB := Lib.hid (bthen HB.out hb HB.out.size)
    clear hb
    go_wp2_with fail
    refine (HW.out _).mono ?_
    rintro e w5 ⟨rfl, hb⟩
    have HB := Lib.hid (bthen HB.out hb HB.out.size)
    clear hb
    go_wp2
    exact bodyPost_ret (v := .tuple #[.iface 67 (.agg #[.string t]), .bool (X.toList == s.toList)]) (by simp [results, Tryd.results17, go_sem]) rfl ⟨_, rfl, ⟨eqB X s, HB.out⟩⟩
set_option maxHeartbeats 1600000 in
theorem said_6 (s : ByteArray) (hs : s.size ≤ 8000) (w : World) (h : Vars w) (hw : (cutA 32 s.data.toList).1 = bellL) :
    Calls Tryd.prog 17 #[.string s] w fun e w' => ∃ b, e = .returned (.tuple #[.iface 69 (.agg #[]), .bool b]) ∧ b = (frB 6 0 ⟨#[]⟩ && decide (frS 6 0 ⟨#[]⟩ = s)) ∧ Below w.heap.size w w' := by
  have HC := Lib.hid (cut_any s 32 hs w)
  rw [hw, show bA bellL = ⟨#[98, 101, 108, 108]⟩ from rfl] at HC
  obtain ⟨r, hr⟩ : ∃ r, r = bA (cutA 32 s.data.toList).2.1 := ⟨_, rfl⟩
  have hrl : r.data.toList = (cutA 32 s.data.toList).2.1 := by rw [hr]; simp [bA]
  have hrs : r.size ≤ 8000 := by
    have h1 := (cutA_len 32 s.data.toList).2
    rw [← hrl] at h1
    exact Nat.le_trans h1 hs
  rw [← hr] at HC
  have HC2 := Lib.hid (cut_any r 32 hrs)
  obtain ⟨b, hb⟩ : ∃ b, b = bA (cutA 32 r.data.toList).2.1 := ⟨_, rfl⟩
  obtain ⟨q, hq⟩ : ∃ q, q = bA (cutA 32 r.data.toList).1 := ⟨_, rfl⟩
  have hql : q.data.toList = (cutA 32 r.data.toList).1 := by rw [hq]; simp [bA]
  have hqs : q.size ≤ 8000 := by
    have h1 := (cutA_len 32 r.data.toList).1
    rw [← hql] at h1
    exact Nat.le_trans h1 hrs
  have hbs : b.size ≤ 8000 := by
    have h1 := (cutA_len 32 r.data.toList).2
    rw [hb, bA_size]
    exact Nat.le_trans h1 hrs
  rw [← hq, ← hb] at HC2
  have HP := Lib.hid (fun w1 (h1 : Vars w1) => parse_any q hqs w1 h1)
  obtain ⟨z, hz⟩ : ∃ z, z = atV q.data.toList := ⟨_, rfl⟩
  rw [← hz] at HP
  obtain ⟨c1, hc1⟩ : ∃ c, c = (cutA 32 s.data.toList).2.2 := ⟨_, rfl⟩
  obtain ⟨c2, hc2⟩ : ∃ c, c = (cutA 32 r.data.toList).2.2 := ⟨_, rfl⟩
  rw [← hc1] at HC
  rw [← hc2] at HC2
  have HV := Lib.hid h
  have HR := Lib.hid (bellR_any)
  have hcm := rightM_6
  have hcw := writtenM_6
  have hB : frB 6 0 ⟨#[]⟩ = true := by rw [frB_6]; rfl
  rw [hB, Bool.true_and]
  have HW := Lib.hid (written_6 0 ⟨#[]⟩)
  obtain ⟨X, hX⟩ : ∃ X, X = frS 6 0 ⟨#[]⟩ := ⟨_, rfl⟩
  rw [← hX] at HW ⊢
  clear hw hr hrl hb hq hql hrs hqs hbs hz hc1 hc2 h hs hB hX
  go_enter Tryd.func17, Tryd.ntmps17
  go_wp2_with fail
  refine HC.out.mono ?_
  rintro e w1 ⟨rfl, hb⟩
  have HV1 := Lib.hid (HV.out.below hb)
  have HB := Lib.hid hb
  clear hb
  go_wp2_with fail
  refine (HC2.out _).mono ?_
  rintro e w2 ⟨rfl, hb⟩
  have HV2 := Lib.hid (HV1.out.below hb)
  have HB := Lib.hid (bthen HB.out hb HB.out.size)
  clear hb
  go_wp2_with fail
  refine (HP.out _ HV2.out).mono ?_
  rintro e w3 ⟨pv, rfl, hb⟩
  have HB := Lib.hid (bthen HB.out hb HB.out.size)
  clear hb
  go_wp2_with fail
  refine (HR.out _).mono ?_
  rintro e w4 ⟨rfl, hb⟩
  have HB := Lib.hid (bthen HB.out hb HB.out.size)
  clear hb
  go_wp2_with fail
  refine (HW.out _).mono ?_
  rintro e w5 ⟨rfl, hb⟩
  have HB := Lib.hid (bthen HB.out hb HB.out.size)
  clear hb
  go_wp2
  exact bodyPost_ret (v := .tuple #[.iface 69 (.agg #[]), .bool (X.toList == s.toList)]) (by simp [results, Tryd.results17, go_sem]) rfl ⟨_, rfl, ⟨eqB X s, HB.out⟩⟩
set_option maxHeartbeats 1600000 in
theorem said_7 (s : ByteArray) (hs : s.size ≤ 8000) (w : World) (h : Vars w) (hw : (cutA 32 s.data.toList).1 = doneL) (t : ByteArray) (ht : t = bA (cutA 32 s.data.toList).2.1) :
    Calls Tryd.prog 17 #[.string s] w fun e w' => ∃ b, e = .returned (.tuple #[.iface 70 (.agg #[.string t]), .bool b]) ∧ b = (frB 7 0 t && decide (frS 7 0 t = s)) ∧ Below w.heap.size w w' := by
  have HC := Lib.hid (cut_any s 32 hs w)
  rw [hw, show bA doneL = ⟨#[100, 111, 110, 101]⟩ from rfl] at HC
  obtain ⟨r, hr⟩ : ∃ r, r = bA (cutA 32 s.data.toList).2.1 := ⟨_, rfl⟩
  have hrl : r.data.toList = (cutA 32 s.data.toList).2.1 := by rw [hr]; simp [bA]
  have hrs : r.size ≤ 8000 := by
    have h1 := (cutA_len 32 s.data.toList).2
    rw [← hrl] at h1
    exact Nat.le_trans h1 hs
  rw [← hr] at HC
  have HC2 := Lib.hid (cut_any r 32 hrs)
  obtain ⟨b, hb⟩ : ∃ b, b = bA (cutA 32 r.data.toList).2.1 := ⟨_, rfl⟩
  obtain ⟨q, hq⟩ : ∃ q, q = bA (cutA 32 r.data.toList).1 := ⟨_, rfl⟩
  have hql : q.data.toList = (cutA 32 r.data.toList).1 := by rw [hq]; simp [bA]
  have hqs : q.size ≤ 8000 := by
    have h1 := (cutA_len 32 r.data.toList).1
    rw [← hql] at h1
    exact Nat.le_trans h1 hrs
  have hbs : b.size ≤ 8000 := by
    have h1 := (cutA_len 32 r.data.toList).2
    rw [hb, bA_size]
    exact Nat.le_trans h1 hrs
  rw [← hq, ← hb] at HC2
  have HP := Lib.hid (fun w1 (h1 : Vars w1) => parse_any q hqs w1 h1)
  obtain ⟨z, hz⟩ : ∃ z, z = atV q.data.toList := ⟨_, rfl⟩
  rw [← hz] at HP
  obtain ⟨c1, hc1⟩ : ∃ c, c = (cutA 32 s.data.toList).2.2 := ⟨_, rfl⟩
  obtain ⟨c2, hc2⟩ : ∃ c, c = (cutA 32 r.data.toList).2.2 := ⟨_, rfl⟩
  rw [← hc1] at HC
  rw [← hc2] at HC2
  have HV := Lib.hid h
  rw [← hr] at ht
  obtain rfl := ht
  have hm : t.size ≤ maxLen := by unfold maxLen; omega
  have HR := Lib.hid (doneR_any t hm)
  have hcm := rightM_7 t
  have hcw := writtenM_7 t
  have hB : frB 7 0 t = (textB t) := by rw [frB_7]; simp
  rw [← hB] at HR
  cases hbb : frB 7 0 t
  · rw [hbb] at HR
    rw [Bool.false_and]
    clear hw hr hrl hb hq hql hrs hqs hbs hz hc1 hc2 h hs hB hbb hm
    go_enter Tryd.func17, Tryd.ntmps17
    go_wp2_with fail
    refine HC.out.mono ?_
    rintro e w1 ⟨rfl, hb⟩
    have HV1 := Lib.hid (HV.out.below hb)
    have HB := Lib.hid hb
    clear hb
    go_wp2_with fail
    refine (HC2.out _).mono ?_
    rintro e w2 ⟨rfl, hb⟩
    have HV2 := Lib.hid (HV1.out.below hb)
    have HB := Lib.hid (bthen HB.out hb HB.out.size)
    clear hb
    go_wp2_with fail
    refine (HP.out _ HV2.out).mono ?_
    rintro e w3 ⟨pv, rfl, hb⟩
    have HB := Lib.hid (bthen HB.out hb HB.out.size)
    clear hb
    go_wp2_with fail
    refine (HR.out _).mono ?_
    rintro e w4 ⟨rfl, hb⟩
    have HB := Lib.hid (bthen HB.out hb HB.out.size)
    clear hb
    go_wp2
    exact bodyPost_ret (v := .tuple #[.iface 70 (.agg #[.string t]), .bool false]) (by simp [results, Tryd.results17, go_sem]) rfl ⟨_, rfl, ⟨rfl, HB.out⟩⟩
  · obtain ⟨_, _, hp, _, ht80, _⟩ := frB_facts hbb
    have HW := Lib.hid (written_7 0 t ht80)
    obtain ⟨X, hX⟩ : ∃ X, X = frS 7 0 t := ⟨_, rfl⟩
    rw [← hX] at HW ⊢
    rw [hbb] at HR
    rw [Bool.true_and]
    clear hw hr hrl hb hq hql hrs hqs hbs hz hc1 hc2 h hs hB hbb hm hp ht80 hX
    go_enter Tryd.func17, Tryd.ntmps17
    go_wp2_with fail
    refine HC.out.mono ?_
    rintro e w1 ⟨rfl, hb⟩
    have HV1 := Lib.hid (HV.out.below hb)
    have HB := Lib.hid hb
    clear hb
    go_wp2_with fail
    refine (HC2.out _).mono ?_
    rintro e w2 ⟨rfl, hb⟩
    have HV2 := Lib.hid (HV1.out.below hb)
    have HB := Lib.hid (bthen HB.out hb HB.out.size)
    clear hb
    go_wp2_with fail
    refine (HP.out _ HV2.out).mono ?_
    rintro e w3 ⟨pv, rfl, hb⟩
    have HB := Lib.hid (bthen HB.out hb HB.out.size)
    clear hb
    go_wp2_with fail
    refine (HR.out _).mono ?_
    rintro e w4 ⟨rfl, hb⟩
    have HB := Lib.hid (bthen HB.out hb HB.out.size)
    clear hb
    go_wp2_with fail
    refine (HW.out _).mono ?_
    rintro e w5 ⟨rfl, hb⟩
    have HB := Lib.hid (bthen HB.out hb HB.out.size)
    clear hb
    go_wp2
    exact bodyPost_ret (v := .tuple #[.iface 70 (.agg #[.string t]), .bool (X.toList == s.toList)]) (by simp [results, Tryd.results17, go_sem]) rfl ⟨_, rfl, ⟨eqB X s, HB.out⟩⟩
set_option maxHeartbeats 1600000 in
theorem said_none (s : ByteArray) (hs : s.size ≤ 8000) (w : World) (h : Vars w) (hw : ∀ x, x ∈ [putL, dropL, moveL, allL, sayL, bellL, doneL] → (cutA 32 s.data.toList).1 ≠ x) :
    Calls Tryd.prog 17 #[.string s] w fun e w' => e = .returned (.tuple #[.nilIface, .bool false]) ∧ Below w.heap.size w w' := by
  have HC := Lib.hid (cut_any s 32 hs w)
  obtain ⟨x, hx⟩ : ∃ x, x = bA (cutA 32 s.data.toList).1 := ⟨_, rfl⟩
  have hxl : x.toList = (cutA 32 s.data.toList).1 := by rw [hx, ByteArray.toList_eq]; simp [bA]
  rw [← hx] at HC
  rw [← hxl] at hw
  have e1 : (x.toList == [112, 117, 116]) = false := beq_eq_false_iff_ne.2 (hw putL (by simp))
  have e2 : (x.toList == [100, 114, 111, 112]) = false := beq_eq_false_iff_ne.2 (hw dropL (by simp))
  have e3 : (x.toList == [109, 111, 118, 101]) = false := beq_eq_false_iff_ne.2 (hw moveL (by simp))
  have e4 : (x.toList == [97, 108, 108]) = false := beq_eq_false_iff_ne.2 (hw allL (by simp))
  have e5 : (x.toList == [115, 97, 121]) = false := beq_eq_false_iff_ne.2 (hw sayL (by simp))
  have e6 : (x.toList == [98, 101, 108, 108]) = false := beq_eq_false_iff_ne.2 (hw bellL (by simp))
  have e7 : (x.toList == [100, 111, 110, 101]) = false := beq_eq_false_iff_ne.2 (hw doneL (by simp))
  obtain ⟨r, hr⟩ : ∃ r, r = bA (cutA 32 s.data.toList).2.1 := ⟨_, rfl⟩
  have hrl : r.data.toList = (cutA 32 s.data.toList).2.1 := by rw [hr]; simp [bA]
  have hrs : r.size ≤ 8000 := by
    have h1 := (cutA_len 32 s.data.toList).2
    rw [← hrl] at h1
    exact Nat.le_trans h1 hs
  rw [← hr] at HC
  have HC2 := Lib.hid (cut_any r 32 hrs)
  obtain ⟨b, hb⟩ : ∃ b, b = bA (cutA 32 r.data.toList).2.1 := ⟨_, rfl⟩
  obtain ⟨q, hq⟩ : ∃ q, q = bA (cutA 32 r.data.toList).1 := ⟨_, rfl⟩
  have hql : q.data.toList = (cutA 32 r.data.toList).1 := by rw [hq]; simp [bA]
  have hqs : q.size ≤ 8000 := by
    have h1 := (cutA_len 32 r.data.toList).1
    rw [← hql] at h1
    exact Nat.le_trans h1 hrs
  have hbs : b.size ≤ 8000 := by
    have h1 := (cutA_len 32 r.data.toList).2
    rw [hb, bA_size]
    exact Nat.le_trans h1 hrs
  rw [← hq, ← hb] at HC2
  have HP := Lib.hid (fun w1 (h1 : Vars w1) => parse_any q hqs w1 h1)
  obtain ⟨z, hz⟩ : ∃ z, z = atV q.data.toList := ⟨_, rfl⟩
  rw [← hz] at HP
  obtain ⟨c1, hc1⟩ : ∃ c, c = (cutA 32 s.data.toList).2.2 := ⟨_, rfl⟩
  obtain ⟨c2, hc2⟩ : ∃ c, c = (cutA 32 r.data.toList).2.2 := ⟨_, rfl⟩
  rw [← hc1] at HC
  rw [← hc2] at HC2
  have HV := Lib.hid h
  clear hw hr hrl hb hq hql hrs hqs hbs hz hc1 hc2 h hs hx hxl
  go_enter Tryd.func17, Tryd.ntmps17
  go_wp2_with fail
  refine HC.out.mono ?_
  rintro e w1 ⟨rfl, hb⟩
  have HV1 := Lib.hid (HV.out.below hb)
  have HB := Lib.hid hb
  clear hb
  go_wp2_with fail
  refine (HC2.out _).mono ?_
  rintro e w2 ⟨rfl, hb⟩
  have HV2 := Lib.hid (HV1.out.below hb)
  have HB := Lib.hid (bthen HB.out hb HB.out.size)
  clear hb
  go_wp2_with fail
  refine (HP.out _ HV2.out).mono ?_
  rintro e w3 ⟨pv, rfl, hb⟩
  have HB := Lib.hid (bthen HB.out hb HB.out.size)
  clear hb
  go_wp2
  exact bodyPost_ret (v := .tuple #[.nilIface, .bool false]) (by simp [results, Tryd.results17, go_sem]) rfl ⟨rfl, HB.out⟩
theorem saidIn_any (s : ByteArray) (hs : s.size ≤ 8000) (w : World) (h : Vars w) :
    Calls Tryd.prog 17 #[.string s] w fun e w' => ∃ v b, e = .returned (.tuple #[v, .bool b]) ∧ b = (readV s).isSome ∧ (∀ f, readV s = some f → v = sV f.1 f.2.1 f.2.2) ∧ Below w.heap.size w w' := by
  have K : ∀ (k a : Int) (t : ByteArray) (b : Bool), candV s.data.toList = some (k, a, t) → b = (frB k a t && decide (frS k a t = s)) → b = (readV s).isSome ∧ ∀ f, readV s = some f → f = (k, a, t) := fun k a t b hc hb => by
    rw [readV_cand hc, hb]
    show (rightF (k, a, t) && decide (textF (k, a, t) = s)) = _ ∧ _
    by_cases h1 : rightF (k, a, t) = true
    · by_cases h2 : textF (k, a, t) = s
      · rw [if_pos ⟨h1, h2⟩, h1, decide_eq_true h2]
        exact ⟨rfl, fun f hf => by cases hf; rfl⟩
      · rw [if_neg (fun x => h2 x.2), decide_eq_false h2, Bool.and_false]
        exact ⟨rfl, fun f hf => by cases hf⟩
    · rw [if_neg (fun x => h1 x.1), Bool.eq_false_iff.2 h1, Bool.false_and]
      exact ⟨rfl, fun f hf => by cases hf⟩
  by_cases w1 : (cutA 32 s.data.toList).1 = putL
  · refine (said_1 s hs w h w1 _ rfl _ rfl).mono ?_
    rintro e w' ⟨b, rfl, hb, hB⟩
    obtain ⟨k1, k2⟩ := K 1 _ _ b (by unfold candV; rw [if_pos w1]) hb
    exact ⟨_, b, rfl, k1, fun f hf => by rw [k2 f hf]; exact (sV_1 _ _).symm, hB⟩
  by_cases w2 : (cutA 32 s.data.toList).1 = dropL
  · refine (said_2 s hs w h w2 _ rfl _ rfl).mono ?_
    rintro e w' ⟨b, rfl, hb, hB⟩
    obtain ⟨k1, k2⟩ := K 2 _ _ b (by unfold candV; rw [if_neg w1, if_pos w2]) hb
    exact ⟨_, b, rfl, k1, fun f hf => by rw [k2 f hf]; exact (sV_2 _ _).symm, hB⟩
  by_cases w3 : (cutA 32 s.data.toList).1 = moveL
  · refine (said_3 s hs w h w3 _ rfl).mono ?_
    rintro e w' ⟨b, rfl, hb, hB⟩
    obtain ⟨k1, k2⟩ := K 3 _ ⟨#[]⟩ b (by unfold candV; rw [if_neg w1, if_neg w2, if_pos w3]) hb
    exact ⟨_, b, rfl, k1, fun f hf => by rw [k2 f hf]; exact (sV_3 _ _).symm, hB⟩
  by_cases w4 : (cutA 32 s.data.toList).1 = allL
  · refine (said_4 s hs w h w4 _ rfl _ rfl).mono ?_
    rintro e w' ⟨b, rfl, hb, hB⟩
    obtain ⟨k1, k2⟩ := K 4 _ _ b (by unfold candV; rw [if_neg w1, if_neg w2, if_neg w3, if_pos w4]) hb
    exact ⟨_, b, rfl, k1, fun f hf => by rw [k2 f hf]; exact (sV_4 _ _).symm, hB⟩
  by_cases w5 : (cutA 32 s.data.toList).1 = sayL
  · refine (said_5 s hs w h w5 _ rfl).mono ?_
    rintro e w' ⟨b, rfl, hb, hB⟩
    obtain ⟨k1, k2⟩ := K 5 0 _ b (by unfold candV; rw [if_neg w1, if_neg w2, if_neg w3, if_neg w4, if_pos w5]) hb
    exact ⟨_, b, rfl, k1, fun f hf => by rw [k2 f hf]; exact (sV_5 _ _).symm, hB⟩
  by_cases w6 : (cutA 32 s.data.toList).1 = bellL
  · refine (said_6 s hs w h w6).mono ?_
    rintro e w' ⟨b, rfl, hb, hB⟩
    obtain ⟨k1, k2⟩ := K 6 0 ⟨#[]⟩ b (by unfold candV; rw [if_neg w1, if_neg w2, if_neg w3, if_neg w4, if_neg w5, if_pos w6]) hb
    exact ⟨_, b, rfl, k1, fun f hf => by rw [k2 f hf]; exact (sV_6 _ _).symm, hB⟩
  by_cases w7 : (cutA 32 s.data.toList).1 = doneL
  · refine (said_7 s hs w h w7 _ rfl).mono ?_
    rintro e w' ⟨b, rfl, hb, hB⟩
    obtain ⟨k1, k2⟩ := K 7 0 _ b (by unfold candV; rw [if_neg w1, if_neg w2, if_neg w3, if_neg w4, if_neg w5, if_neg w6, if_pos w7]) hb
    exact ⟨_, b, rfl, k1, fun f hf => by rw [k2 f hf]; exact (sV_7 _ _).symm, hB⟩
  refine (said_none s hs w h (fun x hx => by simp at hx; rcases hx with rfl | rfl | rfl | rfl | rfl | rfl | rfl <;> assumption)).mono ?_
  rintro e w' ⟨rfl, hB⟩
  have hr : readV s = none := readV_no (by unfold candV; rw [if_neg w1, if_neg w2, if_neg w3, if_neg w4, if_neg w5, if_neg w6, if_neg w7])
  refine ⟨_, _, rfl, by rw [hr]; rfl, ⟨fun f hf => ?_, hB⟩⟩
  rw [hr] at hf
  cases hf
end Go.Proofs.YtlhfgpcanfpnfaaDoor.frame
