/-
  The model's l03Put: one more byte behind a list of runs. For every list that the call owns.
-/
import Derived.Test.YthdnhopkkgdclaaLine
import Derived.Deep.Draws
namespace Go.Proofs.Ythdnhopkkgdclaa.put
open Go.ChangeShapes Go.WideShapes Go.ChangeAt Go.RowKit
abbrev Run := Int × ByteArray
def cellsOf (d : Run) : List Value := [.int .i64 d.1, .string d.2]
def dCells (ds : List Run) : List Value := ds.flatMap cellsOf
theorem dCells_append (a b : List Run) : dCells (a ++ b) = dCells a ++ dCells b := by simp [dCells]
theorem dCells_len (ds : List Run) : (dCells ds).length = ds.length * 2 := by
  induction ds with
  | nil => rfl
  | cons d r ih => simp [dCells, cellsOf] at ih ⊢; omega
def oneB (c : UInt8) : ByteArray := ⟨#[c]⟩
/-- one more byte: behind the last run, if it is of this kind; else a run of its own -/
def putL (ds : List Run) (k : Int) (c : UInt8) : List Run :=
  match ds.reverse with
  | (k', x) :: r => if k' = k then r.reverse ++ [(k, x ++ oneB c)] else ds ++ [(k, oneB c)]
  | [] => [(k, oneB c)]
theorem putL_nil (k : Int) (c : UInt8) : putL [] k c = [(k, oneB c)] := rfl
theorem putL_same (ds : List Run) (k : Int) (x : ByteArray) (c : UInt8) : putL (ds ++ [(k, x)]) k c = ds ++ [(k, x ++ oneB c)] := by
  simp [putL]
theorem putL_other (ds : List Run) (k k' : Int) (x : ByteArray) (c : UInt8) (h : ¬ k' = k) : putL (ds ++ [(k', x)]) k c = ds ++ [(k', x)] ++ [(k, oneB c)] := by
  simp [putL, h]
theorem infoD : (Try.prog.info? 54).map (fun i => (i.zero, i.size, i.bytes)) = some (some (.agg #[.int .i64 0, .string ⟨#[]⟩]), 2, 24) := by kernel_rfl
theorem conv_one (c : UInt8) (W : World) :
    (convert 22 9 (.slice (some ⟨W.heap.size, 0, none⟩) 1 1)).run Try.prog (W.alloc (.cells #[.int .u8 (c.toNat : Nat)] 5)) = .ok (.string (oneB c)) (W.alloc (.cells #[.int .u8 (c.toNat : Nat)] 5)) :=
  conv_row (P := Try.prog) (w := W.alloc (.cells #[.int .u8 (c.toNat : Nat)] 5)) (g := W.heap.size) (cap := 1) 22 5 Try.underlying22 Try.underlying5 [c] (fun i hi => by
    have : i = 0 := by simp at hi; omega
    subst this
    rw [World.cell?_alloc_at _ _ _ _ rfl]; rfl) 9 Try.underlying9
set_option maxHeartbeats 1600000 in
theorem put_other (base g n cap : Nat) (xs : List Value) (k : Int) (c : UInt8) (hn : n ≤ 200) (w : World) (hbase : base ≤ w.heap.size) (hown : w.ownsRow base 54 2 (.slice (some ⟨g, 0, none⟩) n cap) n xs)
    (hlast : n = 0 ∨ ∃ k', xs[(n - 1) * 2]? = some (.int .i64 k') ∧ k' ≠ k) :
    Calls Try.prog 56 #[.slice (some ⟨g, 0, none⟩) n cap, .int .i64 k, .int .u8 (c.toNat : Nat)] w fun e w' => ∃ g' cap', e = .returned (.slice (some ⟨g', 0, none⟩) (n + 1) cap') ∧ w'.ownsRow base 54 2 (.slice (some ⟨g', 0, none⟩) (n + 1) cap') (n + 1) (xs ++ [.int .i64 k, .string (oneB c)]) ∧ Below base w w' := by
  obtain ⟨i0, hi, hz0, hz1, hz2⟩ := info_parts infoD
  have hcv := conv_one c
  have hc := c.toNat_lt
  have HO := Lib.hid hown
  clear hown
  rcases hlast with hn0 | ⟨k', hk', hne⟩
  · subst hn0
    go_enter Try.func56, Try.ntmps56
    go_wp2_with (first | (at_builtin; refine wpList_append_own _ rfl _ _ 25 rfl base 54 i0 (.agg #[.int .i64 0, .string ⟨#[]⟩]) 2 24 Try.underlying25 hi hz0 hz1 hz2 rfl (by decide) _ _ _ rfl ((HO.out.alloc _).alloc _) ⟨w.heap.size + 1, 0, none⟩ 1 1 [.int .i64 k, .string (oneB c)] rfl rfl ?c1 ?c2 ?c3 ?c4 ?c5 ?_))
    case c1 =>
      intro j u hj
      match j, hj with
      | 0, hj => simp at hj; subst hj; simp [Addr.add]
      | 1, hj => simp at hj; subst hj; simp [Addr.add]
    case c2 => intro u hu; simp at hu; rcases hu with rfl | rfl <;> rfl
    case c3 => unfold maxLen; omega
    case c4 => omega
    case c5 => simp; omega
    intro v' w1 hown' hgrow hnil
    have hbel : Below base w w1 := (((Below.refl base w).alloc hbase _).alloc (by simp; omega) _).grown hgrow (by simp; omega) (fun k hk => (HO.out.lt k hk).1)
    have HN := Lib.hid hown'
    have HB := Lib.hid hbel
    obtain ⟨g', cap', rfl⟩ : ∃ g' cap', v' = .slice (some ⟨g', 0, none⟩) (0 + 1) cap' := by
      rcases hown'.2 with ⟨h, _⟩ | ⟨g', cap', _, h, _⟩
      · exact (hnil h).elim
      · exact ⟨g', cap', h⟩
    clear hown' hgrow hbel hnil
    go_wp2
    go_ret
    exact ⟨_, _, rfl, HN.out, HB.out⟩
  · by_cases hn0 : n = 0
    · subst hn0
      have := HO.out.1
      simp at this
      subst this
      simp at hk'
    obtain ⟨m, rfl⟩ : ∃ m, n = m + 1 := ⟨n - 1, by omega⟩
    have hc0 : w.cell? ⟨g, m * 2, none⟩ = some (.int .i64 k') := by
      rw [HO.out.cellAt (m * 2) (by omega)]; simpa using hk'
    have e1 : (k' == k) = false := by simpa using hne
    have b1 : IntKind.i64.wrap ((m : Int) + 1 - 1) = m := by rw [IntWalk.i64_in _ (by omega)]; omega
    have b2 : (0 : Int) ≤ m := by omega
    have b3 : (m : Int) < (m : Int) + 1 := by omega
    clear hk' hne hn0
    go_enter Try.func56, Try.ntmps56
    go_wp2_with (first | (at_builtin; refine wpList_append_own _ rfl _ _ 25 rfl base 54 i0 (.agg #[.int .i64 0, .string ⟨#[]⟩]) 2 24 Try.underlying25 hi hz0 hz1 hz2 rfl (by decide) _ _ _ rfl ((HO.out.alloc _).alloc _) ⟨w.heap.size + 1, 0, none⟩ 1 1 [.int .i64 k, .string (oneB c)] rfl rfl ?c1 ?c2 ?c3 ?c4 ?c5 ?_))
    case c1 =>
      intro j u hj
      match j, hj with
      | 0, hj => simp at hj; subst hj; simp [Addr.add]
      | 1, hj => simp at hj; subst hj; simp [Addr.add]
    case c2 => intro u hu; simp at hu; rcases hu with rfl | rfl <;> rfl
    case c3 => unfold maxLen; omega
    case c4 => omega
    case c5 => simp; omega
    intro v' w1 hown' hgrow hnil
    have hbel : Below base w w1 := (((Below.refl base w).alloc hbase _).alloc (by simp; omega) _).grown hgrow (by simp; omega) (fun k hk => (HO.out.lt k hk).1)
    have HN := Lib.hid hown'
    have HB := Lib.hid hbel
    obtain ⟨g', cap', rfl⟩ : ∃ g' cap', v' = .slice (some ⟨g', 0, none⟩) (m + 1 + 1) cap' := by
      rcases hown'.2 with ⟨h, _⟩ | ⟨g', cap', _, h, _⟩
      · exact (hnil h).elim
      · exact ⟨g', cap', h⟩
    clear hown' hgrow hbel hnil
    go_wp2
    go_ret
    exact ⟨_, _, rfl, HN.out, HB.out⟩
theorem own_set {w : World} {base g n cap j : Nat} {e : TypeId} {size : Nat} {xs : List Value} (h : w.ownsRow base e size (.slice (some ⟨g, 0, none⟩) n cap) n xs) (u : Value) :
    (w.setCell ⟨g, j, none⟩ u).ownsRow base e size (.slice (some ⟨g, 0, none⟩) n cap) n (xs.set j u) := by
  rcases h.2 with ⟨h0, _⟩ | ⟨g', cap', cur, h1, h2, h3, h4, h5, h6, h7⟩
  · cases h0
  · injection h1 with a1 a2 a3
    injection a1 with a1
    injection a1 with a1
    subst a1 a3
    refine ⟨by rw [List.length_set]; exact h.1, .inr ⟨g, cap, cur.setIfInBounds j u, rfl, h2, bset h3 u, h4, h5, by simpa using h6, ?_⟩⟩
    rw [Array.toList_setIfInBounds, ← h7]
    exact List.take_set
set_option maxHeartbeats 1600000 in
theorem put_same (base g m cap : Nat) (xs : List Value) (k : Int) (x : ByteArray) (c : UInt8) (hn : m ≤ 200) (hx : x.size ≤ 1000) (w : World) (hbase : base ≤ w.heap.size) (hown : w.ownsRow base 54 2 (.slice (some ⟨g, 0, none⟩) (m + 1) cap) (m + 1) xs)
    (hk : xs[m * 2]? = some (.int .i64 k)) (ht : xs[m * 2 + 1]? = some (.string x)) :
    Calls Try.prog 56 #[.slice (some ⟨g, 0, none⟩) (m + 1) cap, .int .i64 k, .int .u8 (c.toNat : Nat)] w fun e w' =>
      e = .returned (.slice (some ⟨g, 0, none⟩) (m + 1) cap) ∧ w'.ownsRow base 54 2 (.slice (some ⟨g, 0, none⟩) (m + 1) cap) (m + 1) (xs.set (m * 2 + 1) (.string (x ++ oneB c))) ∧ Below base w w' := by
  have hcv := conv_one c
  have hcv2 : ∀ W : World, (convert 22 9 (.slice (some ⟨W.heap.size, 0, none⟩) 1 1)).run Try.prog (W.alloc (.cells #[.int .u8 (c.toNat : Nat)] 5)).drew = .ok (.string (oneB c)) (W.alloc (.cells #[.int .u8 (c.toNat : Nat)] 5)).drew := fun W => conv_one c W.drew
  have hc := c.toNat_lt
  have HO := Lib.hid hown
  have hc0 : w.cell? ⟨g, m * 2, none⟩ = some (.int .i64 k) := by rw [hown.cellAt (m * 2) (by omega)]; exact hk
  have hc1 : w.cell? ⟨g, m * 2 + 1, none⟩ = some (.string x) := by rw [hown.cellAt (m * 2 + 1) (by omega)]; exact ht
  have hf1 : w.frozen? ⟨g, m * 2 + 1, none⟩ = false := by
    rcases hown.2 with ⟨h, _⟩ | ⟨g', cap', cur, h, _, hg, _⟩
    · cases h
    · injection h with h1 h2 h3
      injection h1 with h1
      injection h1 with h1
      subst h1
      simp [World.frozen?, hg]
  have hgl := blk_lt hc0
  have hgl' : g ≠ w.heap.size := by omega
  have e1 : (k == k) = true := by simp
  have b1 : IntKind.i64.wrap ((m : Int) + 1 - 1) = m := by rw [IntWalk.i64_in _ (by omega)]; omega
  have b2 : (0 : Int) ≤ m := by omega
  have b3 : (m : Int) < (m : Int) + 1 := by omega
  have b4 : IntKind.i64.wrap (m : Int) = m := IntWalk.i64_in _ (by omega)
  have z1 : (oneB c).size = 1 := rfl
  have z2 : ¬ 9223372036854775807 < x.size + (oneB c).size := by omega
  obtain ⟨B, hB⟩ : ∃ B, B = oneB c := ⟨_, rfl⟩
  rw [← hB] at hcv hcv2 z1 z2 ⊢
  clear hown hk ht hB
  go_enter Try.func56, Try.ntmps56
  go_wp2
  go_region
  go_wp2
  go_ret
  exact ⟨rfl, (own_set HO.out _).alloc _, ((((Below.refl base w).setCell (p := ⟨g, m * 2 + 1, none⟩) (by
    rcases HO.out.2 with ⟨h, _⟩ | ⟨g', cap', cur, h, hl, _⟩
    · cases h
    · injection h with h1
      injection h1 with h1
      injection h1 with h1
      subst h1
      exact hl) _).alloc (by simpa [World.setCell] using hbase) _).drew)⟩
theorem dCells_one (k : Int) (x : ByteArray) : dCells [(k, x)] = [.int .i64 k, .string x] := by simp [dCells, cellsOf]
theorem putL_len (ds : List Run) (k : Int) (c : UInt8) : (putL ds k c).length ≤ ds.length + 1 := by
  rcases List.eq_nil_or_concat ds with rfl | ⟨L, ⟨k', x⟩, rfl⟩
  · simp [putL_nil]
  · rw [List.concat_eq_append]
    by_cases h : k' = k
    · subst h; rw [putL_same]; simp
    · rw [putL_other _ _ _ _ _ h]; simp
theorem putL_size (ds : List Run) (k : Int) (c : UInt8) (n : Nat) (h : ∀ d ∈ ds, d.2.size ≤ n) : ∀ d ∈ putL ds k c, d.2.size ≤ n + 1 := by
  have h1 : (oneB c).size = 1 := rfl
  rcases List.eq_nil_or_concat ds with rfl | ⟨L, ⟨k', x⟩, rfl⟩
  · rw [putL_nil]; intro d hd; simp at hd; subst hd; show (oneB c).size ≤ n + 1; omega
  · rw [List.concat_eq_append] at h ⊢
    have hx : x.size ≤ n := h (k', x) (by simp)
    by_cases e : k' = k
    · subst e
      rw [putL_same]
      intro d hd
      rcases List.mem_append.1 hd with hd | hd
      · have := h d (List.mem_append_left _ hd); omega
      · simp at hd; subst hd; simp only [ByteArray.size_append]; omega
    · rw [putL_other _ _ _ _ _ e]
      intro d hd
      rcases List.mem_append.1 hd with hd | hd
      · have := h d hd; omega
      · simp at hd; subst hd; show (oneB c).size ≤ n + 1; omega
theorem put_any (base g cap : Nat) (ds : List Run) (k : Int) (c : UInt8) (hn : ds.length ≤ 200) (hx : ∀ d ∈ ds, d.2.size ≤ 1000) (w : World) (hbase : base ≤ w.heap.size)
    (hown : w.ownsRow base 54 2 (.slice (some ⟨g, 0, none⟩) ds.length cap) ds.length (dCells ds)) :
    Calls Try.prog 56 #[.slice (some ⟨g, 0, none⟩) ds.length cap, .int .i64 k, .int .u8 (c.toNat : Nat)] w fun e w' =>
      ∃ g' cap', e = .returned (.slice (some ⟨g', 0, none⟩) (putL ds k c).length cap') ∧ w'.ownsRow base 54 2 (.slice (some ⟨g', 0, none⟩) (putL ds k c).length cap') (putL ds k c).length (dCells (putL ds k c)) ∧ Below base w w' := by
  rcases List.eq_nil_or_concat ds with rfl | ⟨L, ⟨k', x⟩, rfl⟩
  · rw [putL_nil, dCells_one]
    exact put_other base g 0 cap [] k c (by omega) w hbase hown (.inl rfl)
  · rw [List.concat_eq_append] at hn hx hown ⊢
    have hl : (L ++ [((k', x) : Run)]).length = L.length + 1 := by simp
    have hdl := dCells_len L
    rw [hl] at hown hn ⊢
    rw [dCells_append, dCells_one] at hown
    have i0 : (dCells L ++ [Value.int .i64 k', .string x])[L.length * 2]? = some (.int .i64 k') := by
      rw [List.getElem?_append_right (by omega), hdl, Nat.sub_self]; rfl
    have i1 : (dCells L ++ [Value.int .i64 k', .string x])[L.length * 2 + 1]? = some (.string x) := by
      rw [List.getElem?_append_right (by omega), hdl, Nat.add_sub_cancel_left]; rfl
    by_cases h : k' = k
    · subst h
      rw [putL_same]
      have h2 : (L ++ [((k', x ++ oneB c) : Run)]).length = L.length + 1 := by simp
      rw [h2, dCells_append, dCells_one]
      refine (put_same base g L.length cap _ k' x c (by omega) (hx (k', x) (by simp)) w hbase hown i0 i1).mono ?_
      rintro e w' ⟨rfl, ho, hb⟩
      refine ⟨g, cap, rfl, ?_, hb⟩
      have : (dCells L ++ [Value.int .i64 k', .string x]).set (L.length * 2 + 1) (.string (x ++ oneB c)) = dCells L ++ [.int .i64 k', .string (x ++ oneB c)] := by
        rw [List.set_append_right _ _ (by omega), hdl, Nat.add_sub_cancel_left]; rfl
      rw [← this]; exact ho
    · rw [putL_other _ _ _ _ _ h]
      have h2 : (L ++ [((k', x) : Run)] ++ [(k, oneB c)]).length = L.length + 1 + 1 := by simp
      rw [h2, dCells_append, dCells_append, dCells_one, dCells_one]
      exact put_other base g (L.length + 1) cap _ k c (by omega) w hbase hown (.inr ⟨k', by simpa using i0, h⟩)
theorem put_anyN (base g cap : Nat) (ds : List Run) (k : Int) (c : UInt8) (hn : ds.length ≤ 200) (hx : ∀ d ∈ ds, d.2.size ≤ 1000) (w : World) (q : Nat) (hbase : base ≤ w.heap.size)
    (hown : w.ownsRow base 54 2 (.slice (some ⟨g, 0, none⟩) ds.length cap) ds.length (dCells ds)) :
    Calls Try.prog 56 #[.slice (some ⟨g, 0, none⟩) ds.length cap, .int .i64 k, .int .u8 (c.toNat : Nat)] (w.drewN q) fun e w' =>
      ∃ g' cap', e = .returned (.slice (some ⟨g', 0, none⟩) (putL ds k c).length cap') ∧ w'.ownsRow base 54 2 (.slice (some ⟨g', 0, none⟩) (putL ds k c).length cap') (putL ds k c).length (dCells (putL ds k c)) ∧ Below base w w' := by
  refine (put_any base g cap ds k c hn hx (w.drewN q) hbase hown).mono ?_
  rintro e w' ⟨g', cap', he, ho, hb⟩
  exact ⟨g', cap', he, ho, (show Below base w (w.drewN q) from ⟨rfl, rfl, rfl, Nat.le_refl _, fun _ _ => rfl⟩).trans hb⟩
end Go.Proofs.Ythdnhopkkgdclaa.put
