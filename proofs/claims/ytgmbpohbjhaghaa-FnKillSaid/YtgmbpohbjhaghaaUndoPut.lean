/-
  The program's UndoPut, of at most 400 lines. For every such list.
-/
import Derived.Test.YtgmbpohbjhaghaaUndoRow
namespace Go.Proofs.Ytgmbpohbjhaghaa.undo
open Go.ChangeShapes Go.WideShapes Go.ChangeAt Go.RowKit
open Go.Proofs.Ytgmbpohbjhaghaa.strs Go.Proofs.Ytgmbpohbjhaghaa.lines Go.Proofs.Ytgmbpohbjhaghaa.line
open Go.Proofs.Ytgmbpohbjhaghaa.kill (own_later own_lo)
theorem append_growsL (W : World) (ao : Option Addr) (l : List (ByteArray × Int)) (m : Nat) (hm : m = l.length) (hn : l.length ≤ 1048576) (hz : ao = none → l = []) (h : LRow W ao l) (B : Nat) (s : ByteArray) (z : Int)
    (h0 : W.cell? ⟨B, 0, none⟩ = some (.string s)) (h1 : W.cell? ⟨B, 1, none⟩ = some (.int .i64 z)) (ty : TypeId) :
    ∃ v' W', (Builtin.append_ #[31, 31] ty #[.slice ao m m, .slice (some ⟨B, 0, none⟩) 1 1]).run Try.prog W = .ok v' W' ∧ W'.ownsRow W.heap.size 33 2 v' (l ++ [(s, z)]).length (lCells (l ++ [(s, z)])) ∧ W.grownBy W' none := by
  obtain ⟨i0, hi, hz0, hz1, hz2⟩ := info_parts infoL
  have hnews : ∀ j u, ([.string s, .int .i64 z] : List Value)[j]? = some u → W.cell? ((⟨B, 0, none⟩ : Addr).add j) = some u := fun j u hj => by
    match j, hj with
    | 0, hj => simp at hj; subst hj; rw [add_plain rfl]; exact h0
    | 1, hj => simp at hj; subst hj; rw [add_plain rfl]; exact h1
  rw [lCells_append, lCells_one, List.length_append]
  subst hm
  cases ao with
  | some b => exact run_append_arg_grows (P := Try.prog) W 31 ty 33 i0 (lV ⟨#[]⟩ 0) 2 24 Try.underlying31 hi hz0 hz1 hz2 rfl (by decide) b l.length l.length (lCells l) (lCells_len l) (row_cells h b rfl) ⟨B, 0, none⟩ 1 1 [.string s, .int .i64 z] rfl hnews (by omega) (by unfold maxLen; omega) (by omega)
  | none =>
    obtain rfl := hz rfl
    obtain ⟨v', w', hr, h2, h3, _⟩ := run_append_own (P := Try.prog) W W.heap.size 31 ty 33 i0 (lV ⟨#[]⟩ 0) 2 24 Try.underlying31 hi hz0 hz1 hz2 rfl (by decide) (.slice none 0 0) 0 [] (World.ownsRow_nil W _ _ _) ⟨B, 0, none⟩ 1 1 [.string s, .int .i64 z] rfl hnews (fun u hu => by simp at hu; rcases hu with rfl | rfl <;> rfl) (by unfold maxLen; omega) (by omega) (Nat.le_refl _)
    exact ⟨v', w', hr, h2, h3⟩
set_option maxRecDepth 20000 in
theorem behindL_any (a : Option Addr) (C : Nat) (l : List (ByteArray × Int)) (s : ByteArray) (z : Int) (most : Nat) (hm : 1 ≤ most) (hm2 : most ≤ 1000) (hn : l.length ≤ 1048576) (hC : l.length ≤ C) (hz : a = none → l = []) (w : World) (h : LRow w a l) :
    Calls Try.prog 72 #[.slice a l.length C, lV s z, .int .i64 (most : Int)] w fun e w' => ∃ v', e = .returned v' ∧ w'.ownsRow w.heap.size 33 2 v' (l.drop (l.length + 1 - most) ++ [(s, z)]).length (lCells (l.drop (l.length + 1 - most) ++ [(s, z)])) ∧ Below w.heap.size w w' := by
  obtain ⟨k, hk⟩ : ∃ k, k = l.length + 1 - most := ⟨_, rfl⟩
  rw [← hk]
  obtain ⟨ao, hrun, hnil, hrow⟩ := slice_tailL w a C l k (by omega) hC hz h
  have hmx : max ((l.length : Int) + 1 - (most : Int)) 0 = (k : Int) := by omega
  have hk0 : (0 : Int) ≤ k := by omega
  have HR := Lib.hid hrow
  have HNI := Lib.hid hnil
  have HLEN := Lib.hid (show (l.drop k).length = l.length - k from List.length_drop)
  obtain ⟨m, hmm⟩ : ∃ m, m = l.length - k := ⟨_, rfl⟩
  obtain ⟨n, hn'⟩ : ∃ n, n = l.length := ⟨_, rfl⟩
  rw [← hmm] at hrun HLEN
  have hkn : (k : Int) ≤ l.length := by omega
  have hm3 : m ≤ 1048576 := by omega
  have HEMP := Lib.hid (show l = [] → m = 0 from fun e => by rw [hmm, e]; simp)
  rw [← hn'] at hn hrun hmx hkn ⊢
  unfold lV
  clear hC hz h hrow hnil hmm hn' hk
  have hal := ((Below.refl _ w).alloc (Nat.le_refl _) (.cells #[.string s, .int .i64 z] 33)).alloc (by simp) (.cells #[.string s, .int .i64 z] 33)
  obtain ⟨v', W', happ, hown, hgrow⟩ := append_growsL (((w.alloc (.cells #[.string s, .int .i64 z] 33)).alloc (.cells #[.string s, .int .i64 z] 33)).drew) ao (l.drop k) m HLEN.out.symm (by rw [HLEN.out]; exact hm3)
    (fun e => by rw [HNI.out e]; simp) (HR.out.below hal.drew) (w.heap.size + 1) s z (by simp [go_sem]) (by simp [go_sem]) 31
  have HRUN := Lib.hid happ
  have HO := Lib.hid (show W'.ownsRow w.heap.size 33 2 v' (l.drop k ++ [(s, z)]).length (lCells (l.drop k ++ [(s, z)])) from own_lo hown (by simp [World.drew]; omega))
  have HB := Lib.hid (hal.drew.grown hgrow (by simp [World.drew]; omega) (fun j hj => by cases hj))
  clear hal happ hown hgrow
  go_enter Try.func72, Try.ntmps72
  go_wp2_with fail
  go_region_law (first | (refine kill.step_append_run rfl _ _ _ rfl _ _ rfl rfl _ _ HRUN.out ?_))
  all_goals
    go_wp2
    go_ret
    exact ⟨_, rfl, HO.out, HB.out⟩
def endsB (l : List (ByteArray × Int)) (s : ByteArray) : Bool := match l[l.length - 1]? with
  | some y => y.1.toList == s.toList
  | none => false
theorem endsWith_any (a : Option Addr) (C : Nat) (l : List (ByteArray × Int)) (s : ByteArray) (hn : l.length ≤ 1048576) (w : World) (h : LRow w a l) :
    Calls Try.prog 71 #[.slice a l.length C, .string s] w fun e w' => e = .returned (.bool (endsB l s)) ∧ w = w' := by
  by_cases hl : l.length = 0
  · have HV := Lib.hid (show endsB l s = false by unfold endsB; rw [List.eq_nil_of_length_eq_zero hl]; rfl)
    rw [hl]
    clear hl hn h
    go_enter Try.func71, Try.ntmps71
    go_wp2
    go_ret
    exact ⟨by rw [HV.out]; rfl, rfl⟩
  · obtain ⟨m, hm⟩ : ∃ m, l.length = m + 1 := ⟨l.length - 1, by omega⟩
    have hml : m < l.length := by omega
    obtain ⟨g, o, rfl, c0, c1⟩ := h.at hml
    have HV := Lib.hid (show endsB l s = (l[m].1.toList == s.toList) by unfold endsB; rw [show l.length - 1 = m by omega, List.getElem?_eq_getElem hml])
    obtain ⟨y, hy⟩ : ∃ y, y = l[m].1 := ⟨_, rfl⟩
    rw [← hy] at c0 HV
    rw [hm] at hn ⊢
    clear hl hm hml h c1 hy
    have hm2 : m ≤ 1048576 := by omega
    go_enter Try.func71, Try.ntmps71
    go_wp2
    go_ret
    exact ⟨by rw [HV.out]; rfl, rfl⟩
def trimL (l : List (ByteArray × Int)) : List (ByteArray × Int) := if 20 < l.length then l.drop 1 else l
noncomputable def undoV (l : List (ByteArray × Int)) (s : ByteArray) (z : Int) : List (ByteArray × Int) := if undosB l = true ∧ lineB s z = true ∧ endsB l s = false then trimL (l ++ [(s, z)]) else l
theorem undosB_len {l : List (ByteArray × Int)} (h : undosB l = true) : l.length ≤ 20 := by
  unfold undosB at h
  simp only [Bool.and_eq_true, decide_eq_true_eq] at h
  omega
theorem drop_trimL {l : List (ByteArray × Int)} {x : ByteArray × Int} (h : l.length ≤ 20) : l.drop (l.length + 1 - 20) ++ [x] = trimL (l ++ [x]) := by
  unfold trimL
  by_cases h5 : l.length = 20
  · rw [if_pos (by simp; omega), h5, List.drop_append_of_le_length (by omega)]
  · rw [if_neg (by simp; omega), show l.length + 1 - 20 = 0 by omega, List.drop_zero]
theorem trimL_len {l : List (ByteArray × Int)} {x : ByteArray × Int} (h : l.length ≤ 20) : 1 ≤ (trimL (l ++ [x])).length ∧ (trimL (l ++ [x])).length ≤ 20 := by
  unfold trimL
  by_cases h5 : l.length = 20
  · rw [if_pos (by simp; omega)]; simp; omega
  · rw [if_neg (by simp; omega)]; simp; omega
theorem trimL_mem {l : List (ByteArray × Int)} {x y : ByteArray × Int} (h : y ∈ trimL (l ++ [x])) : y ∈ l ∨ y = x := by
  have h1 : y ∈ l ++ [x] := by
    unfold trimL at h
    split at h
    · exact List.mem_of_mem_drop h
    · exact h
  rcases List.mem_append.1 h1 with h2 | h2
  · exact .inl h2
  · exact .inr (by simpa using h2)
theorem ownL_own (a : Option Addr) (C : Nat) (l : List (ByteArray × Int)) (hn : l.length ≤ 1048576) (hl : ∀ s ∈ l, s.1.size ≤ 1048576) (w : World) (h : LRow w a l) :
    Calls Try.prog 73 #[.slice a l.length C, .func (.func 74) #[] #[]] w fun e w' => ∃ a' c', e = .returned (.slice a' l.length c') ∧ LRow w' a' l ∧ LBlk w.heap.size w' a' l.length ∧ Below w.heap.size w w' :=
  (ownLines_any a C l hn hl w h).mono fun e w' ⟨v', e1, e2, e3⟩ => by
    obtain ⟨a', c', rfl, _, _, h1, h2⟩ := own_lines e2
    exact ⟨a', c', e1, h1, h2, e3⟩
theorem behind20_any (a : Option Addr) (C : Nat) (l : List (ByteArray × Int)) (s : ByteArray) (z : Int) (hn : l.length ≤ 20) (hC : l.length ≤ C) (hz : a = none → l = []) (w : World) (h : LRow w a l) :
    Calls Try.prog 72 #[.slice a l.length C, lV s z, .int .i64 20] w fun e w' => ∃ a' c', e = .returned (.slice a' (trimL (l ++ [(s, z)])).length c') ∧ LRow w' a' (trimL (l ++ [(s, z)])) ∧ Below w.heap.size w w' :=
  (behindL_any a C l s z 20 (by omega) (by omega) (by omega) hC hz w h).mono fun e w' ⟨v', e1, e2, e3⟩ => by
    obtain ⟨a', c', rfl, _, _, h1, h2⟩ := own_lines e2
    rw [drop_trimL hn] at e1 h1
    exact ⟨a', c', e1, h1, e3⟩
set_option maxRecDepth 20000 in
theorem implUndo_any (a : Option Addr) (C : Nat) (l : List (ByteArray × Int)) (s : ByteArray) (z : Int) (hn : l.length ≤ 400) (hl : ∀ y ∈ l, y.1.size ≤ 1048576) (hs : s.size ≤ 1048576) (hC : l.length ≤ C) (hz : a = none → l = []) (w : World) (h : LRow w a l) :
    Calls Try.prog 18 #[.slice a l.length C, lV s z] w fun e w' => ∃ a' c', e = .returned (.slice a' (undoV l s z).length c') ∧ LRow w' a' (undoV l s z) ∧ LBlk w.heap.size w' a' (undoV l s z).length ∧ Below w.heap.size w w' := by
  have hal := (Below.refl _ w).alloc (Nat.le_refl _) (.cells #[.string s, .int .i64 z] 33)
  have HB := Lib.hid hal
  have HA := Lib.hid (fun W (hb : Below w.heap.size w W) => h.below hb)
  have HU := Lib.hid (fun W (h : LRow W a l) => implUndos_any a C l (by omega) (fun y hy => by have := hl y hy; unfold maxLen; omega) W h)
  have HL := Lib.hid (fun W => implLine_any s z (by unfold maxLen; omega) W)
  have HE := Lib.hid (fun W (h : LRow W a l) => endsWith_any a C l s (by omega) W h)
  have HO := Lib.hid (fun W (h : LRow W a l) => ownL_own a C l (by omega) hl W h)
  have HP := Lib.hid (fun (h20 : l.length ≤ 20) W (h : LRow W a l) => behind20_any a C l s z h20 hC hz W h)
  have HQ := Lib.hid (fun (h20 : l.length ≤ 20) a1 C1 W (h : LRow W a1 (trimL (l ++ [(s, z)]))) => ownL_own a1 C1 (trimL (l ++ [(s, z)])) (by have := (trimL_len (x := (s, z)) h20).2; omega) (fun y hy => by
    rcases trimL_mem hy with h1 | h1
    · exact hl y h1
    · rw [h1]; exact hs) W h)
  have HV := Lib.hid (show undoV l s z = if undosB l = true ∧ lineB s z = true ∧ endsB l s = false then trimL (l ++ [(s, z)]) else l from rfl)
  have H20 := Lib.hid (fun h : undosB l = true => undosB_len h)
  obtain ⟨V, hV⟩ : ∃ V, V = undoV l s z := ⟨_, rfl⟩
  rw [← hV] at HV ⊢
  unfold lV at HP ⊢
  clear hV h hl hs hC hz hal
  cases hu : undosB l
  · rw [hu] at HU HV
    obtain rfl : V = l := by rw [HV.out]; simp
    obtain ⟨n, hn'⟩ : ∃ n, n = V.length := ⟨_, rfl⟩
    rw [← hn'] at HU HO hn ⊢
    clear hn' HV HP HQ HE HL hu H20
    go_enter Try.func18, Try.ntmps18
    go_wp2_with fail
    refine (HU.out _ (HA.out _ HB.out)).mono ?_
    rintro e w1 ⟨rfl, hb⟩
    have HX1 := Lib.hid (bthen HB.out hb (by simp))
    clear hb
    go_wp2_with fail
    refine (HO.out _ (HA.out _ HX1.out)).mono ?_
    rintro e w2 ⟨a', c', rfl, hr, hs, hb⟩
    have HX2 := Lib.hid (bthen HX1.out hb HX1.out.size)
    have HR := Lib.hid hr
    have HS := Lib.hid (hs.lo HX1.out.size)
    clear hb hr hs
    go_wp2
    go_ret
    exact ⟨a', c', rfl, HR.out, HS.out, HX2.out⟩
  have h20 := H20.out hu
  have HP := Lib.hid (HP.out h20)
  have HQ := Lib.hid (HQ.out h20)
  rw [hu] at HU
  cases hb : lineB s z
  · rw [hu, hb] at HV
    rw [hb] at HL
    obtain rfl : V = l := by rw [HV.out]; simp
    obtain ⟨n, hn'⟩ : ∃ n, n = V.length := ⟨_, rfl⟩
    rw [← hn'] at HU HO HE hn ⊢
    clear hn' HV HP HQ HE hu hb H20
    go_enter Try.func18, Try.ntmps18
    go_wp2_with fail
    refine (HU.out _ (HA.out _ HB.out)).mono ?_
    rintro e w1 ⟨rfl, hb⟩
    have HX1 := Lib.hid (bthen HB.out hb (by simp))
    obtain ⟨p0, _⟩ := keepC hb (g := w.heap.size) (by simp)
    have c0 : w1.cell? ⟨w.heap.size, 0, none⟩ = some (.string s) := by rw [p0 0]; simp [go_sem]
    have c1 : w1.cell? ⟨w.heap.size, 1, none⟩ = some (.int .i64 z) := by rw [p0 1]; simp [go_sem]
    have z1 : w.heap.size < w1.heap.size := by have := hb.size; simp at this; omega
    clear hb p0
    go_wp2_with fail
    refine (HL.out _).mono ?_
    rintro e w2 ⟨rfl, hb⟩
    have HX2 := Lib.hid (bthen HX1.out hb HX1.out.size)
    obtain ⟨p0, _⟩ := keepC hb (g := w.heap.size) z1
    have c0 := (p0 0).trans c0
    have c1 := (p0 1).trans c1
    have z2 : w.heap.size < w2.heap.size := Nat.lt_of_lt_of_le z1 hb.size
    clear hb p0
    go_wp2_with fail
    refine (HO.out _ (HA.out _ HX2.out)).mono ?_
    rintro e w9 ⟨a', c', rfl, hr, hs, hb⟩
    have HX9 := Lib.hid (bthen HX2.out hb HX2.out.size)
    have HR := Lib.hid hr
    have HS := Lib.hid (hs.lo HX2.out.size)
    clear hb hr hs
    go_wp2
    go_ret
    exact ⟨a', c', rfl, HR.out, HS.out, HX9.out⟩
  cases hd : endsB l s
  · rw [hu, hb, hd] at HV
    rw [hb] at HL
    rw [hd] at HE
    obtain rfl : V = trimL (l ++ [(s, z)]) := by rw [HV.out]; simp
    obtain ⟨T, hT⟩ : ∃ T, T = trimL (l ++ [(s, z)]) := ⟨_, rfl⟩
    obtain ⟨n, hn'⟩ : ∃ n, n = l.length := ⟨_, rfl⟩
    obtain ⟨q, hq⟩ : ∃ q, q = T.length := ⟨_, rfl⟩
    rw [← hT, ← hq] at HP HQ ⊢
    rw [← hn'] at HU HE HP hn ⊢
    clear hn' HV HO hu hb hd H20 hT hq h20
    go_enter Try.func18, Try.ntmps18
    go_wp2_with fail
    refine (HU.out _ (HA.out _ HB.out)).mono ?_
    rintro e w1 ⟨rfl, hb⟩
    have HX1 := Lib.hid (bthen HB.out hb (by simp))
    obtain ⟨p0, _⟩ := keepC hb (g := w.heap.size) (by simp)
    have c0 : w1.cell? ⟨w.heap.size, 0, none⟩ = some (.string s) := by rw [p0 0]; simp [go_sem]
    have c1 : w1.cell? ⟨w.heap.size, 1, none⟩ = some (.int .i64 z) := by rw [p0 1]; simp [go_sem]
    have z1 : w.heap.size < w1.heap.size := by have := hb.size; simp at this; omega
    clear hb p0
    go_wp2_with fail
    refine (HL.out _).mono ?_
    rintro e w2 ⟨rfl, hb⟩
    have HX2 := Lib.hid (bthen HX1.out hb HX1.out.size)
    obtain ⟨p0, _⟩ := keepC hb (g := w.heap.size) z1
    have c0 := (p0 0).trans c0
    have c1 := (p0 1).trans c1
    have z2 : w.heap.size < w2.heap.size := Nat.lt_of_lt_of_le z1 hb.size
    clear hb p0
    go_wp2_with fail
    refine (HE.out _ (HA.out _ HX2.out)).mono ?_
    rintro e w3 ⟨rfl, rfl⟩
    go_wp2_with fail
    refine (HP.out _ (HA.out _ HX2.out)).mono ?_
    rintro e w4 ⟨a1, C1, rfl, hr, hb⟩
    have HX4 := Lib.hid (bthen HX2.out hb HX2.out.size)
    have HR4 := Lib.hid hr
    clear hb hr c0 c1
    go_wp2_with fail
    refine (HQ.out _ _ _ HR4.out).mono ?_
    rintro e w9 ⟨a', c', rfl, hr, hs, hb⟩
    have HX9 := Lib.hid (bthen HX4.out hb HX4.out.size)
    have HR := Lib.hid hr
    have HS := Lib.hid (hs.lo HX4.out.size)
    clear hb hr hs
    go_wp2
    go_ret
    exact ⟨a', c', rfl, HR.out, HS.out, HX9.out⟩
  · rw [hu, hb, hd] at HV
    rw [hb] at HL
    rw [hd] at HE
    obtain rfl : V = l := by rw [HV.out]; simp
    obtain ⟨n, hn'⟩ : ∃ n, n = V.length := ⟨_, rfl⟩
    rw [← hn'] at HU HO HE hn ⊢
    clear hn' HV HP HQ hu hb hd H20
    go_enter Try.func18, Try.ntmps18
    go_wp2_with fail
    refine (HU.out _ (HA.out _ HB.out)).mono ?_
    rintro e w1 ⟨rfl, hb⟩
    have HX1 := Lib.hid (bthen HB.out hb (by simp))
    obtain ⟨p0, _⟩ := keepC hb (g := w.heap.size) (by simp)
    have c0 : w1.cell? ⟨w.heap.size, 0, none⟩ = some (.string s) := by rw [p0 0]; simp [go_sem]
    have c1 : w1.cell? ⟨w.heap.size, 1, none⟩ = some (.int .i64 z) := by rw [p0 1]; simp [go_sem]
    have z1 : w.heap.size < w1.heap.size := by have := hb.size; simp at this; omega
    clear hb p0
    go_wp2_with fail
    refine (HL.out _).mono ?_
    rintro e w2 ⟨rfl, hb⟩
    have HX2 := Lib.hid (bthen HX1.out hb HX1.out.size)
    obtain ⟨p0, _⟩ := keepC hb (g := w.heap.size) z1
    have c0 := (p0 0).trans c0
    have c1 := (p0 1).trans c1
    have z2 : w.heap.size < w2.heap.size := Nat.lt_of_lt_of_le z1 hb.size
    clear hb p0
    go_wp2_with fail
    refine (HE.out _ (HA.out _ HX2.out)).mono ?_
    rintro e w3 ⟨rfl, rfl⟩
    go_wp2_with fail
    refine (HO.out _ (HA.out _ HX2.out)).mono ?_
    rintro e w9 ⟨a', c', rfl, hr, hs, hb⟩
    have HX9 := Lib.hid (bthen HX2.out hb HX2.out.size)
    have HR := Lib.hid hr
    have HS := Lib.hid (hs.lo HX2.out.size)
    clear hb hr hs
    go_wp2
    go_ret
    exact ⟨a', c', rfl, HR.out, HS.out, HX9.out⟩
end Go.Proofs.Ytgmbpohbjhaghaa.undo
