/-
  The model's KeyOf (l04Rows, l04Of, l04Wait). For every text that the row reads, every number.
-/
import Derived.Test.YtbefoalecogmbaaKeyOf
namespace Go.Proofs.Ytbefoalecogmbaa.key
open Go.ChangeShapes Go.WideShapes Go.ChangeAt Go.RowKit
/-- the model's rows as they lie in memory -/
structure RowsAt (w : World) (g h : Nat) : Prop where
  text : ∀ i, i < 29 → w.cell? ⟨g, i, none⟩ = some (.string (mB i))
  kind : ∀ i, i < 29 → w.cell? ⟨h, i, none⟩ = some (.int .i64 (mK i))
theorem RowsAt.below {w w' : World} {g h : Nat} (r : RowsAt w g h) (hb : Below w.heap.size w w') : RowsAt w' g h where
  text i hi := by rw [hb.cell (p := ⟨g, i, none⟩) (blk_lt (r.text i hi))]; exact r.text i hi
  kind i hi := by rw [hb.cell (p := ⟨h, i, none⟩) (blk_lt (r.kind i hi))]; exact r.kind i hi
theorem rows_at (w : World) (c d : Array Value) (T U : TypeId) (hc : c = (mRows.map fun r => Value.string r.1).toArray) (hd : d = (mRows.map fun r => Value.int .i64 r.2).toArray) :
    RowsAt ((w.alloc (.cells c T)).alloc (.cells d U)) w.heap.size (w.heap.size + 1) where
  text i hi := by
    rw [old_cell (by simp), World.cell?_alloc_at _ _ _ _ rfl, hc]
    simp only [List.getElem?_toArray, List.getElem?_map]
    rw [List.getElem?_eq_getElem (show i < mRows.length from hi)]
    unfold mB
    rw [List.getD_eq_getElem?_getD, List.getElem?_eq_getElem (show i < mRows.length from hi)]; rfl
  kind i hi := by
    rw [World.cell?_alloc_at _ _ _ _ (by simp), hd]
    simp only [List.getElem?_toArray, List.getElem?_map]
    rw [List.getElem?_eq_getElem (show i < mRows.length from hi)]
    unfold mK
    rw [List.getD_eq_getElem?_getD, List.getElem?_eq_getElem (show i < mRows.length from hi)]; rfl
set_option maxHeartbeats 800000 in
theorem rows_any (w : World) :
    Calls Try.prog 41 #[] w fun e w' => ∃ g h, e = .returned (.tuple #[.slice (some ⟨g, 0, none⟩) 29 29, .slice (some ⟨h, 0, none⟩) 29 29]) ∧ RowsAt w' g h ∧ Below w.heap.size w w' := by
  go_enter Try.func41, Try.ntmps41
  go_wp2
  go_ret2
  exact ⟨_, _, rfl, rows_at _ _ _ _ _ rfl rfl, ((Below.refl _ w).alloc (Nat.le_refl _) _).alloc (by simp) _⟩
theorem w_nil {s : ByteArray} (h : s.toList.isEmpty = true) : decide (s.data.toList ∈ waits) = true := by
  rw [ByteArray.toList_eq] at h
  have : s.data.toList = [] := by simpa using h
  simp [this, waits]
theorem w_one {s : ByteArray} (h : s.toList = [27]) : decide (s.data.toList ∈ waits) = true := by
  rw [ByteArray.toList_eq] at h
  simp [h, waits]
theorem w_two {s : ByteArray} (h : s.toList.isEmpty = false) (h2 : ¬ s.toList = [27]) : decide (s.data.toList ∈ waits) = (s.toList == [27, 91]) := by
  rw [ByteArray.toList_eq] at h h2 ⊢
  have h0 : ¬ s.data.toList = [] := by simpa using h
  by_cases h3 : s.data.toList = [27, 91]
  · rw [h3]; rfl
  · have : (s.data.toList == [27, 91]) = false := by simpa using h3
    rw [this]
    simp only [waits, List.mem_cons, List.not_mem_nil, or_false, decide_eq_false_iff_not]
    rintro (e | e | e)
    · exact h0 e
    · exact h2 e
    · exact h3 e
theorem l04Wait_any (s : ByteArray) (w : World) :
    Calls Try.prog 39 #[.string s] w fun e w' => e = .returned (.bool (decide (s.data.toList ∈ waits))) ∧ w = w' := by
  have e1 := Lib.hid (@w_nil s)
  have e2 := Lib.hid (@w_one s)
  have e3 := Lib.hid (@w_two s)
  obtain ⟨b, hb⟩ : ∃ b, b = decide (s.data.toList ∈ waits) := ⟨_, rfl⟩
  rw [← hb] at e1 e2 e3 ⊢
  clear hb
  go_enter Try.func39, Try.ntmps39
  go_wp2
  all_goals
    go_ret
    refine ⟨?_, rfl⟩
    first
      | (rw [e1.out (by assumption)]; rfl)
      | (rw [e2.out (by assumption)]; rfl)
      | (rw [e3.out (by assumption) (by assumption)]; rfl)
theorem find_hit {t : List UInt8} {k : Nat} (h : findTo t k = none) (e : (mB k).data.toList = t) : findTo t (k + 1) = some (mK k) := by
  simp [findTo, h, e]
theorem find_miss {t : List UInt8} {k : Nat} (h : findTo t k = none) (e : ¬ (mB k).data.toList = t) : findTo t (k + 1) = none := by
  simp [findTo, h, e]
theorem find_up {t : List UInt8} {k : Nat} {v : Int} (h : findTo t k = some v) : ∀ m, k ≤ m → findTo t m = some v := by
  intro m
  induction m with
  | zero => intro hm; obtain rfl : k = 0 := by omega
            exact h
  | succ m ih =>
    intro hm
    by_cases e : k = m + 1
    · rw [← e]; exact h
    · simp [findTo, ih (by omega)]
theorem of_found {s : ByteArray} {x : UInt8} {K : Int} (h : findTo (s.data.toList ++ [x]) 29 = some K) : koKO (ofV s.data.toList x) = koV ⟨#[]⟩ K 0 true 0 := by
  unfold ofV; rw [h]; rfl
theorem of_begun {s : ByteArray} {x : UInt8} (h : findTo (s.data.toList ++ [x]) 29 = none) (hb : begTo (s.data.toList ++ [x]) 29 = true) : koKO (ofV s.data.toList x) = koV (s ++ oneB x) 0 0 false 0 := by
  unfold ofV; rw [h]; dsimp only; rw [if_pos hb, ← ba_add]; rfl
theorem of_rest {s : ByteArray} {x : UInt8} (h : findTo (s.data.toList ++ [x]) 29 = none) (hb : begTo (s.data.toList ++ [x]) 29 = false) : koKO (ofV s.data.toList x) = koKO (restV s.data.toList x) := by
  unfold ofV; rw [h]; dsimp only; rw [if_neg (by simp [hb])]
theorem beg_t {t : List UInt8} {k : Nat} (h : begTo t k = true) : begTo t (k + 1) = true := by simp [begTo, h]
theorem beg_f {t : List UInt8} {k : Nat} (h : begTo t k = false) : begTo t (k + 1) = (decide (t.length < (mB k).size) && decide ((mB k).data.toList.take t.length = t)) := by simp [begTo, h]
theorem ne_toList {U T : ByteArray} (h : ¬ U = T) : (U.toList == T.toList) = false := by
  rw [ByteArray.toList_eq, ByteArray.toList_eq]
  simp only [beq_eq_false_iff_ne, ne_eq]
  intro e
  exact h (by rw [← ba_of U, e, ba_of])
theorem eq_toList {U T : ByteArray} (h : U = T) : (U.toList == T.toList) = true := by rw [h]; simp
theorem ext_eq {U T : ByteArray} : U.extract 0 T.size = T ↔ U.data.toList.take T.size = T.data.toList := by
  rw [← ext_list]
  constructor
  · intro e; rw [e]
  · intro e; rw [← ba_of (U.extract 0 T.size), e, ba_of]
set_option maxHeartbeats 1600000 in
theorem l04Of_any (s : ByteArray) (x : UInt8) (hw : s.data.toList ∈ waits) (w : World) :
    Calls Try.prog 38 #[.string s, .int .i64 (x.toNat : Nat)] w fun e w' => e = .returned (koKO (ofV s.data.toList x)) ∧ Below w.heap.size w w' := by
  have hs := wait_size hw
  obtain ⟨T, hT⟩ : ∃ T, T = s ++ oneB x := ⟨_, rfl⟩
  have hTl : T.data.toList = s.data.toList ++ [x] := by rw [hT, ← ba_add]
  have hTs : T.size ≤ 3 := by rw [hT, ByteArray.size_append]; show s.size + 1 ≤ 3; omega
  have HTL := Lib.hid hTl
  have HT := Lib.hid hT
  clear hT hTl
  have hlt := x.toNat_lt
  have hwr : IntKind.u8.wrap ((x.toNat : Nat) : Int) = x.toNat := by simp [IntKind.wrap, IntKind.bits, IntKind.signed]; omega
  have hcv := conv_one x (w.alloc (.cells #[.string ⟨#[]⟩, .int .i64 0, .int .i64 0, .bool false, .int .i64 0] 31))
  rw [show ∀ o, (w.alloc o).heap.size = w.heap.size + 1 from fun o => by simp] at hcv
  have z1 : (oneB x).size = 1 := rfl
  have z2 : ¬ 9223372036854775807 < s.size + (oneB x).size := by omega
  have z3 : (s ++ oneB x).size = s.size + (oneB x).size := ByteArray.size_append
  obtain ⟨X, hX⟩ : ∃ X, X = oneB x := ⟨_, rfl⟩
  rw [← hX] at hcv z1 z2 z3 HT
  have HOX := Lib.hid hX
  clear hX
  go_enter Try.func38, Try.ntmps38
  go_wp2_with fail
  refine (rows_any _).mono ?_
  rintro e w1 ⟨g, h, rfl, hr, hb1⟩
  have K1 := Lib.hid (((Ko0.made w 31).below ((Below.refl _ _).alloc (Nat.le_refl _) _)).below hb1)
  have HB1 := Lib.hid (bthen (((Below.refl _ w).alloc (Nat.le_refl _) _).alloc (by simp) _) hb1 (by simp; omega))
  have z4 : w.heap.size < w1.heap.size := by have := hb1.size; simp at this; omega
  have HR := Lib.hid hr
  clear hb1 hr hcv
  rw [← HT.out]
  go_wp2
  go_loop [8, 9] (fun bg iv => ∃ k : Nat, k ≤ 29 ∧ iv = .int .i64 k ∧ bg = .bool (begTo T.data.toList k) ∧ findTo T.data.toList k = none) (fun _ iv => 29 - (intOf iv).toNat)
  case atStart => exact ⟨0, Nat.zero_le _, rfl, rfl, rfl⟩
  case round =>
    obtain ⟨k, hk, rfl, rfl, hf⟩ := hrel
    have HF := Lib.hid hf
    clear hf
    by_cases hlt2 : k < 29
    · have c0 := HR.out.text k hlt2
      have c1 := HR.out.kind k hlt2
      obtain ⟨U, hU⟩ : ∃ U, U = mB k := ⟨_, rfl⟩
      obtain ⟨K, hK⟩ : ∃ K, K = mK k := ⟨_, rfl⟩
      rw [← hU] at c0
      rw [← hK] at c1
      by_cases he : U = T
      · have HA := Lib.hid (find_up (find_hit HF.out (by rw [← hU, he])) 29 (by omega))
        rw [← hK] at HA
        subst he
        obtain ⟨k0, k1, k2, k3, k4, fz⟩ := K1.out
        have f0 := fz 0 (by omega)
        have f1 := fz 1 (by omega)
        have f2 := fz 2 (by omega)
        have f3 := fz 3 (by omega)
        have f4 := fz 4 (by omega)
        clear fz
        clear hU hK
        go_wp2
        exact bodyPost_ret (v := koV ⟨#[]⟩ K 0 true 0) (by simp [koV, results, Try.results38, go_sem, k0, k1, k2, k3, k4]) rfl ⟨by rw [of_found (by rw [← HTL.out]; exact HA.out)], five HB1.out (Nat.le_refl _) _ _ _ _ _⟩
      · have HM := Lib.hid (find_miss HF.out (by rw [← hU]; intro e; exact he (by rw [← ba_of U, e, ba_of])))
        have hne := ne_toList he
        have hlU : T.data.toList.length = T.size := rfl
        cases hbg : begTo T.data.toList k
        · have hb := beg_f hbg
          rw [hlU, ← hU] at hb
          by_cases hz : (T.size : Int) < U.size
          · by_cases hx2 : U.extract 0 T.size = T
            · have HBG := Lib.hid (show begTo T.data.toList (k + 1) = true from hb.trans (by rw [decide_eq_true (show T.size < U.size by omega), decide_eq_true (ext_eq.1 hx2)]; rfl))
              have hxe := eq_toList hx2
              have hle : T.size ≤ U.size := by omega
              have hd : decide ((T.size : Int) < U.size) = true := decide_eq_true hz
              clear hU hK hb he hx2 hlU
              go_wp2
              go_round
              case rel => exact ⟨k + 1, by omega, by go_num, by rw [HBG.out], HM.out⟩
              case measure => simp [intOf]; omega
            · have HBG := Lib.hid (show begTo T.data.toList (k + 1) = false from hb.trans (by rw [decide_eq_true (show T.size < U.size by omega), decide_eq_false (fun e => hx2 (ext_eq.2 e))]; rfl))
              have hxe := ne_toList hx2
              have hle : T.size ≤ U.size := by omega
              have hd : decide ((T.size : Int) < U.size) = true := decide_eq_true hz
              clear hU hK hb he hx2 hlU
              go_wp2
              go_round
              case rel => exact ⟨k + 1, by omega, by go_num, by rw [HBG.out], HM.out⟩
              case measure => simp [intOf]; omega
          · have HBG := Lib.hid (show begTo T.data.toList (k + 1) = false from hb.trans (by rw [decide_eq_false (show ¬ T.size < U.size by omega)]; rfl))
            have hd : decide ((T.size : Int) < U.size) = false := decide_eq_false hz
            clear hU hK hb he hlU
            go_wp2
            go_round
            case rel => exact ⟨k + 1, by omega, by go_num, by rw [HBG.out], HM.out⟩
            case measure => simp [intOf]; omega
        · have HBG := Lib.hid (beg_t hbg)
          clear hU hK he hlU
          go_wp2
          go_round
          case rel => exact ⟨k + 1, by omega, by go_num, by rw [HBG.out], HM.out⟩
          case measure => simp [intOf]; omega
    · obtain rfl : k = 29 := by omega
      obtain ⟨k0, k1, k2, k3, k4, fz⟩ := K1.out
      have f0 := fz 0 (by omega)
      have f1 := fz 1 (by omega)
      have f2 := fz 2 (by omega)
      have f3 := fz 3 (by omega)
      have f4 := fz 4 (by omega)
      clear fz
      rw [HTL.out] at HF
      cases hbg : begTo T.data.toList 29
      · have HBG := Lib.hid (of_rest HF.out (by rw [← HTL.out]; exact hbg))
        have hp := is_any (x.toNat : Nat) 32 126
        by_cases hs0 : s.data.toList = []
        · obtain rfl := ba_nil hs0
          cases hx : betB 32 (x.toNat : Nat) 126
          · have HV := Lib.hid (restV_bad (wt := ByteArray.data ⟨#[]⟩ |>.toList) (x := x) (fun ⟨_, h2, h3⟩ => by rw [betB_t (by omega) (by omega)] at hx; cases hx))
            rw [hx] at hp
            clear hbg hs0 hx hw
            go_wp2_with (go_at_call 40; refine (hp _).mono ?_; rintro e w' ⟨rfl, rfl⟩)
            exact bodyPost_ret (v := koV ⟨#[]⟩ 25 (x.toNat : Nat) true 0) (by simp [koV, results, Try.results38, go_sem, k0, k1, k2, k3, k4]) rfl ⟨by rw [HBG.out, HV.out]; rfl, five HB1.out (Nat.le_refl _) _ _ _ _ _⟩
          · have HV := Lib.hid (restV_self (wt := ByteArray.data ⟨#[]⟩ |>.toList) (x := x) ⟨rfl, by simp [betB] at hx; omega, by simp [betB] at hx; omega⟩)
            rw [hx] at hp
            clear hbg hs0 hx hw
            go_wp2_with (go_at_call 40; refine (hp _).mono ?_; rintro e w' ⟨rfl, rfl⟩)
            exact bodyPost_ret (v := koV ⟨#[]⟩ 1 (x.toNat : Nat) true 0) (by simp [koV, results, Try.results38, go_sem, k0, k1, k2, k3, k4]) rfl ⟨by rw [HBG.out, HV.out]; rfl, five HB1.out (Nat.le_refl _) _ _ _ _ _⟩
        · have HV := Lib.hid (restV_bad (wt := s.data.toList) (x := x) (fun ⟨h1, _⟩ => hs0 h1))
          have e2 : s.toList.isEmpty = false := empty_f (by
            rcases Nat.eq_zero_or_pos s.size with h0 | h0
            · exfalso; exact hs0 (List.eq_nil_of_length_eq_zero h0)
            · exact h0)
          clear hbg hs0 hp
          go_wp2
          exact bodyPost_ret (v := koV ⟨#[]⟩ 25 (x.toNat : Nat) true 0) (by simp [koV, results, Try.results38, go_sem, k0, k1, k2, k3, k4]) rfl ⟨by rw [HBG.out, HV.out]; rfl, five HB1.out (Nat.le_refl _) _ _ _ _ _⟩
      · have HBG := Lib.hid (of_begun HF.out (by rw [← HTL.out]; exact hbg))
        go_wp2
        exact bodyPost_ret (v := koV T 0 0 false 0) (by simp [koV, results, Try.results38, go_sem, k0, k1, k2, k3, k4]) rfl ⟨by rw [HBG.out, ← HOX.out, ← HT.out], five HB1.out (Nat.le_refl _) _ _ _ _ _⟩
end Go.Proofs.Ytbefoalecogmbaa.key
