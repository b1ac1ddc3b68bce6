/-
  The program's HistFind. For every such value.
-/
import Derived.Test.YtgmbpohbjhaghaaHistImpl
import Derived.Test.YtgmbpohbjhaghaaHistFind
import Derived.Test.YtgmbpohbjhaghaaShelf
import Derived.Lib.IndexMore
import Derived.Lib.Strings
namespace Go.Proofs.Ytgmbpohbjhaghaa.hist
open Go.ChangeShapes Go.WideShapes Go.ChangeAt Go.RowKit
open Go.Proofs.Ytgmbpohbjhaghaa.strs Go.Proofs.Ytgmbpohbjhaghaa.line
theorem ext_toList (t : ByteArray) (i n : Nat) : (t.extract i (i + n)).data.toList = (t.data.toList.drop i).take n := by
  rw [ByteArray.data_extract, Array.toList_extract, List.extract_eq_take_drop, show i + n - i = n by omega]
theorem contains_hasB (t p : ByteArray) : Lib.contains t.data.toList p.data.toList = hasB t p := by
  have hl : ∀ x : ByteArray, x.data.toList.length = x.size := fun x => rfl
  rcases Lib.index_spec t.data.toList p.data.toList with ⟨h1, h2⟩ | ⟨i, h1, h2, h3, _⟩
  · rw [hasB_f, Lib.contains, h1]
    · rfl
    · rintro ⟨i, hi, he⟩
      have h3 := h2 i (by rw [hl]; omega)
      have h4 := ext_toList t i p.size
      rw [he] at h4
      rw [Lib.occAt, h4] at h3
      have h5 : ((t.data.toList.drop i).take p.size).isPrefixOf (t.data.toList.drop i) = true := List.isPrefixOf_iff_prefix.2 (List.take_prefix _ _)
      rw [h5] at h3
      cases h3
  · rw [hasB_t, Lib.contains, h1]
    · exact decide_eq_true (by omega)
    · have h4 := List.isPrefixOf_iff_prefix.1 h3
      have h5 := h4.length_le
      rw [List.length_drop, hl, hl] at h5
      rw [hl] at h2
      refine ⟨i, by omega, ?_⟩
      have h6 := List.prefix_iff_eq_take.1 h4
      rw [hl] at h6
      have h7 := ext_toList t i p.size
      rw [← h6] at h7
      cases hx : t.extract i (i + p.size) with | mk A => cases p with | mk B => rw [hx] at h7; cases A; cases B; simp at h7; subst h7; rfl
theorem having_any (x : ByteArray) (w : World) :
    Calls Try.prog 104 #[.string x] w fun e w' => e = .returned (.func (.func 125) #[] #[.pointer (some ⟨w.heap.size, 0, none⟩)]) ∧ w'.cell? ⟨w.heap.size, 0, none⟩ = some (.string x) ∧ Below w.heap.size w w' := by
  go_enter Try.func104, Try.ntmps104
  go_wp2
  go_ret
  exact ⟨rfl, by simp [go_sem], (Below.refl _ w).alloc (Nat.le_refl _) _⟩
theorem having1_any (x t : ByteArray) (b : Nat) (m : Int) (ht : t.size ≤ 1048576) (w : World) (hb : w.cell? ⟨b, 0, none⟩ = some (.string x)) (hm : w.cell? ⟨0, 0, none⟩ = some (.int .i64 m)) :
    Calls Try.prog 125 #[.string t, .pointer (some ⟨b, 0, none⟩)] w fun e w' => e = .returned (.bool (hasB t x)) ∧ w' = w := by
  have HC := Lib.hid (Try.strings_Contains t x m w (by omega) hm)
  rw [contains_hasB] at HC
  go_enter Try.func125, Try.ntmps125
  go_wp2_with fail
  refine HC.out.mono ?_
  rintro e w1 ⟨rfl, rfl⟩
  go_wp2
  go_ret
  exact ⟨rfl, rfl⟩
set_option maxHeartbeats 800000 in
theorem lastPlace_any (a : Option Addr) (C : Nat) (l : List ByteArray) (x : ByteArray) (b m : Int) (c : Nat) (hn : l.length ≤ 1048576) (hl : ∀ s ∈ l, s.size ≤ 1048576) (w : World) (h : SRow w a l) (hc : w.cell? ⟨c, 0, none⟩ = some (.string x)) (hm : w.cell? ⟨0, 0, none⟩ = some (.int .i64 m)) :
    Calls Try.prog 103 #[.slice a l.length C, .int .i64 b, .func (.func 125) #[] #[.pointer (some ⟨c, 0, none⟩)]] w fun e w' => e = .returned (.int .i64 (scanV l x b l.length)) ∧ w' = w := by
  have HS := Lib.hid (fun (i : Nat) (hi : i < l.length) => having1_any x l[i] c m (hl _ (List.getElem_mem hi)) w hc hm)
  have HQ := Lib.hid (fun (i : Nat) (hi : i < l.length) => (show scanV l x b (i + 1) = if (i : Int) < b ∧ hasB l[i] x = true then (i : Int) else scanV l x b i by rw [scanV, List.getElem?_eq_getElem hi]; rfl))
  have HA := Lib.hid h
  obtain ⟨n, hn'⟩ : ∃ n, n = l.length := ⟨_, rfl⟩
  have HN := Lib.hid hn'
  rw [← hn'] at hn ⊢
  clear h hl hn' hc hm
  go_enter Try.func103, Try.ntmps103
  go_wp2
  go_loop [7, 12] (fun lv iv => ∃ k : Nat, k ≤ n ∧ iv = .int .i64 k ∧ lv = .int .i64 (scanV l x b k)) (fun _ iv => n - (intOf iv).toNat)
  case atStart => exact ⟨0, Nat.zero_le _, rfl, rfl⟩
  case round =>
    obtain ⟨k, hk, rfl, rfl⟩ := hrel
    by_cases hlt : k < n
    · have hkl : k < l.length := by rw [← HN.out]; exact hlt
      obtain ⟨g, o, rfl, c0⟩ := HA.out.at hkl
      have HQ1 := Lib.hid (HQ.out k hkl)
      have HS1 := Lib.hid (HS.out k hkl)
      obtain ⟨s, hse⟩ : ∃ s, s = l[k] := ⟨_, rfl⟩
      rw [← hse] at c0 HQ1 HS1
      obtain ⟨P, hP⟩ : ∃ P, P = scanV l x b k := ⟨_, rfl⟩
      rw [← hP] at HQ1 ⊢
      clear hse hkl hP
      by_cases hlb : (k : Int) < b
      · cases hs : hasB s x
        · have HE := Lib.hid (show scanV l x b (k + 1) = P by rw [HQ1.out, if_neg (by rw [hs]; simp)])
          rw [hs] at HS1
          clear hs HQ1
          go_wp2_with fail
          refine HS1.out.mono ?_
          rintro e w2' ⟨rfl, rfl⟩
          go_wp2
          go_round
          case rel => exact ⟨k + 1, by omega, by go_num, by rw [HE.out]⟩
          case measure => simp [intOf]; omega
        · have HE := Lib.hid (show scanV l x b (k + 1) = (k : Int) by rw [HQ1.out, if_pos ⟨hlb, hs⟩])
          rw [hs] at HS1
          clear hs HQ1
          go_wp2_with fail
          refine HS1.out.mono ?_
          rintro e w2' ⟨rfl, rfl⟩
          go_wp2
          go_round
          case rel => exact ⟨k + 1, by omega, by go_num, by rw [HE.out]⟩
          case measure => simp [intOf]; omega
      · have HE := Lib.hid (show scanV l x b (k + 1) = P by rw [HQ1.out, if_neg (fun h => hlb h.1)])
        clear HQ1
        go_wp2
        go_round
        case rel => exact ⟨k + 1, by omega, by go_num, by rw [HE.out]⟩
        case measure => simp [intOf]; omega
    · obtain rfl : k = n := by omega
      go_wp2
      go_ret
      exact ⟨rfl, rfl⟩
set_option maxHeartbeats 1600000 in
theorem implFind_any (a : Option Addr) (C : Nat) (l : List ByteArray) (t : Int) (k x : ByteArray) (b m : Int) (hn : l.length ≤ 1048576) (hl : ∀ s ∈ l, s.size ≤ 1048576) (hk : k.size ≤ 1048576) (hx : x.size ≤ 1048576) (w : World) (h : SRow w a l) (hm : w.cell? ⟨0, 0, none⟩ = some (.int .i64 m)) :
    Calls Try.prog 54 #[hV a l.length C t k, .string x, .int .i64 b] w fun e w' => e = .returned (.int .i64 (findV l t k x b)) ∧ Below w.heap.size w w' := by
  have hal := (Below.refl _ w).alloc (Nat.le_refl _) (.cells #[.slice a l.length C, .int .i64 t, .string k] 58)
  have HR := Lib.hid (fun W (hb : Below w.heap.size w W) => implHist_any a C l t k hn (fun s hs => by have := hl s hs; unfold maxLen; omega) (by unfold maxLen; omega) W (h.below hb))
  have HX := Lib.hid (implRight_any x (by unfold maxLen; omega))
  have HL := Lib.hid (fun c W (hb : Below w.heap.size w W) (hc : W.cell? ⟨c, 0, none⟩ = some (.string x)) => lastPlace_any a C l x b m c hn hl W (h.below hb) hc (by rw [hb.cell (p := ⟨0, 0, none⟩) (blk_lt hm)]; exact hm))
  have HH := Lib.hid (fun W => having_any x W)
  have HB := Lib.hid hal
  obtain ⟨B, hB⟩ : ∃ B, B = histB l t k := ⟨_, rfl⟩
  obtain ⟨T, hT⟩ : ∃ T, T = textB x := ⟨_, rfl⟩
  have HV := Lib.hid (show findV l t k x b = if B = true ∧ T = true then scanV l x b l.length else -1 by rw [hB, hT]; rfl)
  rw [HV.out]
  rw [← hB] at HR
  rw [← hT] at HX
  obtain ⟨V, hV'⟩ : ∃ V, V = scanV l x b l.length := ⟨_, rfl⟩
  rw [← hV'] at HL ⊢
  obtain ⟨n, hn'⟩ : ∃ n, n = l.length := ⟨_, rfl⟩
  rw [← hn'] at HR HB HL ⊢
  clear hV' hB hT hn' hn hl hk hx hal h HV hm
  unfold hV at *
  cases B
  · rw [if_neg (by simp)]
    go_enter Try.func54, Try.ntmps54
    go_wp2_with fail
    refine (HR.out _ HB.out).mono ?_
    rintro e w1 ⟨rfl, hb⟩
    have HB := Lib.hid (bthen HB.out hb (by simp))
    clear hb
    go_wp2
    go_ret
    exact ⟨rfl, HB.out⟩
  · cases T
    · rw [if_neg (by simp)]
      go_enter Try.func54, Try.ntmps54
      go_wp2_with fail
      refine (HR.out _ HB.out).mono ?_
      rintro e w1 ⟨rfl, hb⟩
      have HB := Lib.hid (bthen HB.out hb (by simp))
      clear hb
      go_wp2_with fail
      refine (HX.out _).mono ?_
      rintro e w2 ⟨rfl, hb⟩
      have HB := Lib.hid (bthen HB.out hb HB.out.size)
      clear hb
      go_wp2
      go_ret
      exact ⟨rfl, HB.out⟩
    · rw [if_pos (by simp)]
      go_enter Try.func54, Try.ntmps54
      go_wp2_with fail
      refine (HR.out _ HB.out).mono ?_
      rintro e w1 ⟨rfl, hb⟩
      obtain ⟨p0, q0⟩ := keepC hb (g := w.heap.size) (by simp)
      have HB := Lib.hid (bthen HB.out hb (by simp))
      clear hb
      go_wp2_with fail
      refine (HX.out _).mono ?_
      rintro e w2 ⟨rfl, hb⟩
      obtain ⟨r2, _⟩ := keepC hb (g := w.heap.size) (by have := HB.out.size; have := hb.size; have := blk_lt (show w1.cell? ⟨w.heap.size, 0, none⟩ = some (.slice a n C) by rw [p0]; simp [go_sem]); omega)
      have HB := Lib.hid (bthen HB.out hb HB.out.size)
      clear hb
      go_wp2_with fail
      have p2 : w2.cell? ⟨w.heap.size, 0, none⟩ = some (.slice a n C) := by
        rw [r2 0, p0]; simp [go_sem]
      refine wp_region_held_drew (S := fun w' => w'.cell? ⟨w.heap.size, 0, none⟩ = some (.slice a n C)) (by kernel_rfl) (show w2.cell? ⟨w.heap.size, 0, none⟩ = some (.slice a n C) from p2) (fun hHeld => ?_)
      refine wpAnyH_take (i := 0) rfl (by kernel_rfl) (by kernel_rfl) (by kernel_rfl) (fun _ _ _ h => h) (Or.inl ⟨by kernel_rfl, by rintro w q0; go_simp; try with_reducible rfl⟩) (by assumption) ?_
      refine wpAnyH_take (i := 1) rfl (by kernel_rfl) (by kernel_rfl) (by kernel_rfl) (fun _ _ _ h => h) (Or.inl ⟨by kernel_rfl, by rintro w q0; go_simp; try with_reducible rfl⟩) (by assumption) ?_
      refine wpAnyH_take (i := 2) rfl (by kernel_rfl) (by kernel_rfl) (by kernel_rfl) (fun _ _ _ h => h) (Or.inl ⟨by kernel_rfl, by rintro w q0; go_simp; try with_reducible rfl⟩) (by assumption) ?_
      refine wpAnyH_take (i := 3) rfl (by kernel_rfl) (by kernel_rfl) (by kernel_rfl) (fun _ _ _ h => h) (Or.inl ⟨by kernel_rfl, by rintro w q0; go_simp; try with_reducible rfl⟩) (by assumption) ?_
      refine wpAnyH_ready (rs := [4]) (by kernel_rfl) (by simp) (AllReadyH.cons rfl (fun K hK => ?_) AllReadyH.nil)
      go_simp
      refine (HH.out _).mono ?_
      rintro e w3 ⟨rfl, hc, hb⟩
      have hS : w3.cell? ⟨w.heap.size, 0, none⟩ = some (.slice a n C) := by rw [hb.cell (p := ⟨w.heap.size, 0, none⟩) (blk_lt hHeld)]; exact hHeld
      have HB := Lib.hid (bthen HB.out.drew hb (by have := HB.out.size; simpa using this))
      have HL := Lib.hid (HL.out _ _ HB.out hc)
      clear hHeld hb hc
      refine hK.out _ _ hS (fun hHeld => ?_)
      clear hK K
      refine wpAnyH_ready (rs := [5]) (by kernel_rfl) (by simp) (AllReadyH.cons rfl (fun K hK => ?_) AllReadyH.nil)
      go_simp
      refine HL.out.mono ?_
      rintro e w3' ⟨rfl, rfl⟩
      refine hK.out _ _ hHeld (fun hHeld => ?_)
      clear hK K
      refine wpAnyH_take (i := 6) rfl (by kernel_rfl) (by kernel_rfl) (by kernel_rfl) (fun _ _ _ h => h) (Or.inl ⟨by kernel_rfl, by rintro w q0; go_simp; try with_reducible rfl⟩) (by assumption) ?_
      refine wpAnyH_done (by kernel_rfl) ?_ _
      go_simp
      go_wp2
      go_ret
      exact ⟨rfl, HB.out⟩
end Go.Proofs.Ytgmbpohbjhaghaa.hist
