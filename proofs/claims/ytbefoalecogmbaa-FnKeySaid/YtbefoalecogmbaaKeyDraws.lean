/-
  Draws: bytes that are typed; what waits, and a byte; a key that may not be right. What comes is bounded; nothing else is said of it.
-/
import Derived.Test.YtbefoalecogmbaaDrawBytes
import Derived.Test.YtbefoalecogmbaaKeySpec
import Derived.Lib.AppendStr
namespace Go.Proofs.Ytbefoalecogmbaa.src
open Go.ChangeShapes Go.WideShapes Go.ChangeAt Go.RowKit
open Go.Proofs.Ytbefoalecogmbaa.key (mRows mB rows_at RowsAt)
/-- 29 short texts in a block -/
def StrBlk (w : World) (b : Nat) : Prop := ∃ M : Array Value, w.heap[b]? = some (.cells M 9 (0, 0)) ∧ ∀ i, i < 29 → ∃ s : ByteArray, M[i]? = some (.string s) ∧ s.size ≤ 3
theorem StrBlk.lt {w : World} {b : Nat} (h : StrBlk w b) : b < w.heap.size := by
  obtain ⟨M, h1, _⟩ := h
  exact (Array.getElem?_eq_some_iff.1 h1).1
theorem StrBlk.kept {w w' : World} {b : Nat} {r : Option Nat} (h : StrBlk w b) (hg : w.grownBy w' r) (hne : some b ≠ r) : StrBlk w' b := by
  have hl := h.lt
  obtain ⟨M, h1, h2⟩ := h
  exact ⟨M, by rw [hg.block b hl hne]; exact h1, h2⟩
theorem StrBlk.below {w w' : World} {b : Nat} (h : StrBlk w b) (hb : Below w.heap.size w w') : StrBlk w' b := by
  have hl := h.lt
  obtain ⟨M, h1, h2⟩ := h
  exact ⟨M, by rw [hb.block b hl]; exact h1, h2⟩
theorem StrBlk.at {w : World} {b i : Nat} (h : StrBlk w b) (hi : i < 29) : ∃ s : ByteArray, w.cell? ⟨b, i, none⟩ = some (.string s) ∧ s.size ≤ 3 := by
  obtain ⟨M, h1, h2⟩ := h
  obtain ⟨s, h3, h4⟩ := h2 i hi
  exact ⟨s, by simp [World.cell?, h1]; exact h3, h4⟩
theorem mB_size : ∀ i, i < 29 → (mB i).size ≤ 3 := by decide +kernel
theorem strBlk_rows (w : World) (c d : Array Value) (T : TypeId) (hc : c = (mRows.map fun r => Value.string r.1).toArray) : StrBlk ((w.alloc (.cells c 9)).alloc (.cells d T)) w.heap.size := by
  refine ⟨c, by rw [(World.grownBy_alloc _ _ none).block w.heap.size (by simp) (by simp)]; exact heap_alloc_new w _, fun i hi => ⟨mB i, ?_, mB_size i hi⟩⟩
  rw [hc]
  simp only [List.getElem?_toArray, List.getElem?_map]
  rw [List.getElem?_eq_getElem (show i < mRows.length from hi)]
  unfold mB
  rw [List.getD_eq_getElem?_getD, List.getElem?_eq_getElem (show i < mRows.length from hi)]; rfl
set_option maxHeartbeats 800000 in
theorem rowsS_any (w : World) :
    Calls Try.prog 41 #[] w fun e w' => ∃ g h, e = .returned (.tuple #[.slice (some ⟨g, 0, none⟩) 29 29, .slice (some ⟨h, 0, none⟩) 29 29]) ∧ StrBlk w' g ∧ w.heap.size ≤ g ∧ Below w.heap.size w w' := by
  go_enter Try.func41, Try.ntmps41
  go_wp2
  go_ret2
  exact ⟨_, _, rfl, strBlk_rows _ _ _ _ rfl, Nat.le_refl _, ((Below.refl _ w).alloc (Nat.le_refl _) _).alloc (by simp) _⟩
/-- one more text behind a row of bytes -/
theorem app_step {N g b B : Nat} {w W W' : World} {v v' : Value} {l : List UInt8} {s : ByteArray} (hD : Drew N g w W) (hown : W.ownsRow B 5 1 v l.length (Lib.byteCells l)) (hs : StrBlk W b) (hN : N ≤ B) (hB : w.heap.size ≤ B) (hg : g < w.heap.size)
    (hgrow : W.grownBy W' v.ownBlock) (hown' : W'.ownsRow B 5 1 v' (l.length + s.size) (Lib.byteCells l ++ Lib.strCells s)) :
    ∃ l' : List UInt8, l'.length = l.length + s.size ∧ W'.ownsRow B 5 1 v' l'.length (Lib.byteCells l') ∧ Drew N g w W' ∧ StrBlk W' b := by
  have hl : (l ++ s.data.toList).length = l.length + s.size := by rw [List.length_append]; rfl
  have hc : Lib.byteCells (l ++ s.data.toList) = Lib.byteCells l ++ Lib.strCells s := by rw [Lib.byteCells_append]; rfl
  refine ⟨l ++ s.data.toList, hl, by rw [hl, hc]; exact hown', ?_, ?_⟩
  · rcases hown.2 with ⟨rfl, _⟩ | ⟨k, cap, cur, rfl, hk, _⟩
    · exact hD.below ⟨hgrow.os, hgrow.tape, hgrow.output, hgrow.size, fun j hj => hgrow.block j hj (by simp [Value.ownBlock])⟩
    · exact drew_own hD hgrow (by show N ≤ k; omega) (by show k ≠ g; omega) (by show w.heap.size ≤ k; omega)
  · refine hs.kept hgrow ?_
    rcases hown.2 with ⟨rfl, _⟩ | ⟨k, cap, cur, rfl, _, hk, _⟩
    · simp [Value.ownBlock]
    · intro e
      have e1 : b = k := by simpa [Value.ownBlock] using e
      obtain ⟨M, h1, _⟩ := hs
      rw [e1, hk] at h1
      injection h1 with h1
      injection h1 with _ h2
      exact absurd h2 (by decide)
theorem strs_le {cs : List Value} {B : Nat} (h : ∀ v ∈ cs, ∃ s : ByteArray, v = .string s ∧ s.size ≤ B) : StrRow cs B := h
set_option maxHeartbeats 3200000 in
theorem typed_any (N g : Nat) (w : World) (h : Src N g w) (hN : N ≤ w.heap.size) :
    Calls Try.prog 27 #[.pointer (some ⟨g, 0, none⟩)] w fun e w' => ∃ s : ByteArray, e = .returned (.string s) ∧ s.size ≤ 93 ∧ Drew N g w w' := by
  obtain ⟨i0, hi, hz0, hz1, hz2⟩ := info_parts info5
  have hgl := h.lt
  have HS := Lib.hid (show Drew N g w (w.alloc (.cells #[] 5)) from ⟨h.below ((Below.refl _ w).alloc (Nat.le_refl _) _), World.grownBy_alloc w _ _⟩)
  have HO := Lib.hid (show (w.alloc (.cells #[] 5)).ownsRow w.heap.size 5 1 (.slice (some ⟨w.heap.size, 0, none⟩) 0 0) 0 (Lib.byteCells []) from World.ownsRow_lit w #[] 0 (Nat.le_refl _) (by decide) rfl)
  clear h
  go_enter Try.func27, Try.ntmps27
  go_wp2_with fail
  refine (rowsS_any _).mono ?_
  rintro e w1 ⟨gg, hh, rfl, hst, hlo, hb1⟩
  have HS1 := Lib.hid (HS.out.below hb1)
  have HO1 := Lib.hid (show w1.ownsRow w.heap.size 5 1 (.slice (some ⟨w.heap.size, 0, none⟩) 0 0) 0 (Lib.byteCells []) from HO.out.kept (row := none) ⟨hb1.os, hb1.tape, hb1.output, hb1.size, fun i hi _ => hb1.block i hi⟩ (by simp [Value.ownBlock]))
  have HST := Lib.hid hst
  have hgg : g ≠ gg := by simp at hlo; omega
  obtain ⟨a, n, C, k, m, z, hsc⟩ := HS1.out.1
  have c3 := hsc.z_
  have hz := hsc.zz
  clear hb1 hst HS HO hsc
  go_wp2_with fail
  refine (n_in N g (20 + z) (by omega) (by omega) _ HS1.out.1).mono ?_
  rintro e w2 ⟨r, rfl, hr, hd⟩
  have HS2 := Lib.hid (HS1.out.trans hd)
  have HO2 := Lib.hid (HO1.out.kept hd.2 (.inr (by simp [Value.ownBlock]; omega)))
  have HST2 := Lib.hid (HST.out.kept hd.2 (by simp; omega))
  clear hd HS1 HO1 HST c3
  go_wp2
  go_loopw [3, 6] (fun v kv wr => ∃ (k : Nat) (l : List UInt8), kv = .int .i64 (k : Nat) ∧ wr.ownsRow w.heap.size 5 1 v l.length (Lib.byteCells l) ∧ l.length + 3 * k ≤ 93 ∧ StrBlk wr gg ∧ Drew N g w wr) (fun _ kv _ => (intOf kv).toNat)
  case atStart => exact ⟨r, [], rfl, HO2.out, by simp; omega, HST2.out, HS2.out⟩
  case round =>
    obtain ⟨k, l, rfl, hown, hlen, hst, hd⟩ := hrel
    rename World => wr
    have HD := Lib.hid hd
    have HO := Lib.hid hown
    have HST := Lib.hid hst
    have hzz := hd.2.size
    clear hown hd hst
    by_cases hk : 0 < k
    · obtain ⟨j, rfl⟩ : ∃ j, k = j + 1 := ⟨k - 1, by omega⟩
      go_wp2_with fail
      refine (n_in N g 5 (by omega) (by omega) _ HD.out.1).mono ?_
      rintro e w3 ⟨q, rfl, hq, hd3⟩
      have hne : u3.ownBlock = none ∨ u3.ownBlock ≠ some g := by
        rcases HO.out.2 with ⟨rfl, _⟩ | ⟨b, cap, cur, rfl, hb, _⟩
        · exact .inl rfl
        · exact .inr (fun e => by simp [Value.ownBlock] at e; omega)
      have HO3 := Lib.hid (HO.out.kept hd3.2 hne)
      have HST3 := Lib.hid (HST.out.kept hd3.2 (by simp; omega))
      have HD3 := Lib.hid (HD.out.trans hd3)
      have hz3 := HD3.out.2.size
      clear hd3 HO HST HD
      have hq5 : q = 0 ∨ q = 1 ∨ q = 2 ∨ q = 3 ∨ q = 4 := by omega
      rcases hq5 with rfl | rfl | rfl | rfl | rfl
      · go_wp2_with fail
        refine (pick_any N g w3.heap.size 7 _ _ _ 3 (by omega) (by omega) rfl ?_ (by omega) _ (HD3.out.1.below ((Below.refl _ w3).alloc (Nat.le_refl _) _)) (heap_alloc_new w3 _)).mono ?_
        · intro v hv
          simp at hv
          rcases hv with rfl | rfl | rfl | rfl | rfl | rfl | rfl <;> exact ⟨_, rfl, by decide⟩
        rintro e w4 ⟨s, rfl, hs, hd4⟩
        have HD4 := Lib.hid ((HD3.out.below ((Below.refl _ w3).alloc (Nat.le_refl _) _)).trans hd4)
        have HO4 := Lib.hid ((HO3.out.alloc _).kept hd4.2 hne)
        have HST4 := Lib.hid ((HST3.out.below ((Below.refl _ w3).alloc (Nat.le_refl _) _)).kept hd4.2 (by simp; omega))
        have hz4 := HD4.out.2.size
        clear hd4 HD3 HO3 HST3
        go_wp2_with (first
        | (at_builtin; refine Lib.wpList_append_own_string _ rfl _ _ 22 9 rfl w.heap.size 5 i0 Try.underlying22 Try.underlying9 hi hz0 hz1 hz2 _ _ _ rfl HO4.out s rfl ?c3 ?c4 ?c5 ?_))
        case c3 => unfold maxLen; omega
        case c4 => omega
        case c5 => omega
        intro v' w6 hown' hgrow _
        obtain ⟨l', e1, e2, e3, e4⟩ := app_step HD4.out HO4.out HST4.out hN (Nat.le_refl _) hgl hgrow hown'
        have H2 := Lib.hid e2
        have H3 := Lib.hid e3
        have H4 := Lib.hid e4
        have e5 : l'.length ≤ l.length + 3 := by omega
        clear e1 e2 e3 e4 hown' hgrow
        go_wp2
        go_roundw
        case rel => exact ⟨j, l', by go_num, H2.out, by omega, H4.out, H3.out⟩
        case measure => simp [intOf]
      · go_wp2_with fail
        refine (pick_any N g w3.heap.size 7 _ _ _ 3 (by omega) (by omega) rfl ?_ (by omega) _ (HD3.out.1.below ((Below.refl _ w3).alloc (Nat.le_refl _) _)) (heap_alloc_new w3 _)).mono ?_
        · intro v hv
          simp at hv
          rcases hv with rfl | rfl | rfl | rfl | rfl | rfl | rfl <;> exact ⟨_, rfl, by decide⟩
        rintro e w4 ⟨s, rfl, hs, hd4⟩
        have HD4 := Lib.hid ((HD3.out.below ((Below.refl _ w3).alloc (Nat.le_refl _) _)).trans hd4)
        have HO4 := Lib.hid ((HO3.out.alloc _).kept hd4.2 hne)
        have HST4 := Lib.hid ((HST3.out.below ((Below.refl _ w3).alloc (Nat.le_refl _) _)).kept hd4.2 (by simp; omega))
        have hz4 := HD4.out.2.size
        clear hd4 HD3 HO3 HST3
        go_wp2_with (first
        | (at_builtin; refine Lib.wpList_append_own_string _ rfl _ _ 22 9 rfl w.heap.size 5 i0 Try.underlying22 Try.underlying9 hi hz0 hz1 hz2 _ _ _ rfl HO4.out s rfl ?c3 ?c4 ?c5 ?_))
        case c3 => unfold maxLen; omega
        case c4 => omega
        case c5 => omega
        intro v' w6 hown' hgrow _
        obtain ⟨l', e1, e2, e3, e4⟩ := app_step HD4.out HO4.out HST4.out hN (Nat.le_refl _) hgl hgrow hown'
        have H2 := Lib.hid e2
        have H3 := Lib.hid e3
        have H4 := Lib.hid e4
        have e5 : l'.length ≤ l.length + 3 := by omega
        clear e1 e2 e3 e4 hown' hgrow
        go_wp2
        go_roundw
        case rel => exact ⟨j, l', by go_num, H2.out, by omega, H4.out, H3.out⟩
        case measure => simp [intOf]
      · go_wp2_with fail
        refine (one_any N g 4 (by omega) _ HD3.out.1).mono ?_
        rintro e w4 ⟨b1, rfl, hd4⟩
        have HD5 := Lib.hid (HD3.out.trans hd4)
        have HO5 := Lib.hid (HO3.out.kept hd4.2 hne)
        have HST5 := Lib.hid (HST3.out.kept hd4.2 (by simp; omega))
        clear hd4 HD3 HO3 HST3
        cases b1
        · go_wp2
          go_roundw
          case rel => exact ⟨j, l, by go_num, HO5.out, by omega, HST5.out, HD5.out⟩
          case measure => simp [intOf]
        go_wp2_with fail
        refine (n_in N g 2 (by omega) (by omega) _ HD5.out.1).mono ?_
        rintro e w5 ⟨r2, rfl, hr2, hd5⟩
        have HD6 := Lib.hid (HD5.out.trans hd5)
        have HO6 := Lib.hid (HO5.out.kept hd5.2 hne)
        have HST6 := Lib.hid (HST5.out.kept hd5.2 (by simp; omega))
        have hz6 := HD6.out.2.size
        clear hd5 HD5 HO5 HST5
        have hby := bytes_any N g (1 + r2) (by omega) w5 HD6.out.1 (by omega)
        rw [show (((1 + r2 : Nat)) : Int) = 1 + (r2 : Int) by omega] at hby
        go_wp2_with fail
        refine hby.mono ?_
        rintro e w4 ⟨s, rfl, hs, hd4⟩
        have HD4 := Lib.hid (HD6.out.trans hd4)
        have HO4 := Lib.hid (HO6.out.kept hd4.2 hne)
        have HST4 := Lib.hid (HST6.out.kept hd4.2 (by simp; omega))
        have hz4 := HD4.out.2.size
        clear hd4 hby HD6 HO6 HST6
        go_wp2_with (first
        | (at_builtin; refine Lib.wpList_append_own_string _ rfl _ _ 22 9 rfl w.heap.size 5 i0 Try.underlying22 Try.underlying9 hi hz0 hz1 hz2 _ _ _ rfl HO4.out s rfl ?c3 ?c4 ?c5 ?_))
        case c3 => unfold maxLen; omega
        case c4 => omega
        case c5 => omega
        intro v' w6 hown' hgrow _
        obtain ⟨l', e1, e2, e3, e4⟩ := app_step HD4.out HO4.out HST4.out hN (Nat.le_refl _) hgl hgrow hown'
        have H2 := Lib.hid e2
        have H3 := Lib.hid e3
        have H4 := Lib.hid e4
        have e5 : l'.length ≤ l.length + 3 := by omega
        clear e1 e2 e3 e4 hown' hgrow
        go_wp2
        go_roundw
        case rel => exact ⟨j, l', by go_num, H2.out, by omega, H4.out, H3.out⟩
        case measure => simp [intOf]
      · go_wp2_with fail
        refine (n_in N g 29 (by omega) (by omega) _ HD3.out.1).mono ?_
        rintro e w4 ⟨r2, rfl, hr2, hd4⟩
        have hst4 := HST3.out.kept hd4.2 (by simp; omega)
        obtain ⟨s, hc, hs⟩ := hst4.at (i := r2) (by omega)
        have HD4 := Lib.hid (HD3.out.trans hd4)
        have HO4 := Lib.hid (HO3.out.kept hd4.2 hne)
        have HST4 := Lib.hid hst4
        have hz4 := HD4.out.2.size
        clear hd4 HD3 HO3 HST3 hst4
        go_wp2_with (first
        | (at_builtin; refine Lib.wpList_append_own_string _ rfl _ _ 22 9 rfl w.heap.size 5 i0 Try.underlying22 Try.underlying9 hi hz0 hz1 hz2 _ _ _ rfl HO4.out s rfl ?c3 ?c4 ?c5 ?_))
        case c3 => unfold maxLen; omega
        case c4 => omega
        case c5 => omega
        intro v' w6 hown' hgrow _
        obtain ⟨l', e1, e2, e3, e4⟩ := app_step HD4.out HO4.out HST4.out hN (Nat.le_refl _) hgl hgrow hown'
        have H2 := Lib.hid e2
        have H3 := Lib.hid e3
        have H4 := Lib.hid e4
        have e5 : l'.length ≤ l.length + 3 := by omega
        clear e1 e2 e3 e4 hown' hgrow
        go_wp2
        go_roundw
        case rel => exact ⟨j, l', by go_num, H2.out, by omega, H4.out, H3.out⟩
        case measure => simp [intOf]
      · go_wp2_with fail
        refine (n_in N g 29 (by omega) (by omega) _ HD3.out.1).mono ?_
        rintro e w4 ⟨r2, rfl, hr2, hd4⟩
        have hst4 := HST3.out.kept hd4.2 (by simp; omega)
        obtain ⟨s, hc, hs⟩ := hst4.at (i := r2) (by omega)
        have HD4 := Lib.hid (HD3.out.trans hd4)
        have HO4 := Lib.hid (HO3.out.kept hd4.2 hne)
        have HST4 := Lib.hid hst4
        have hz4 := HD4.out.2.size
        clear hd4 HD3 HO3 HST3 hst4
        go_wp2_with (first
        | (at_builtin; refine Lib.wpList_append_own_string _ rfl _ _ 22 9 rfl w.heap.size 5 i0 Try.underlying22 Try.underlying9 hi hz0 hz1 hz2 _ _ _ rfl HO4.out s rfl ?c3 ?c4 ?c5 ?_))
        case c3 => unfold maxLen; omega
        case c4 => omega
        case c5 => omega
        intro v' w6 hown' hgrow _
        obtain ⟨l', e1, e2, e3, e4⟩ := app_step HD4.out HO4.out HST4.out hN (Nat.le_refl _) hgl hgrow hown'
        have H2 := Lib.hid e2
        have H3 := Lib.hid e3
        have H4 := Lib.hid e4
        have e5 : l'.length ≤ l.length + 3 := by omega
        clear e1 e2 e3 e4 hown' hgrow
        go_wp2
        go_roundw
        case rel => exact ⟨j, l', by go_num, H2.out, by omega, H4.out, H3.out⟩
        case measure => simp [intOf]
    · obtain rfl : k = 0 := by omega
      have hconv := conv_own 22 5 Try.underlying22 Try.underlying5 _ HO.out 9 Try.underlying9
      obtain ⟨s, hs⟩ : ∃ s : ByteArray, s = ⟨l.toArray⟩ := ⟨_, rfl⟩
      rw [← hs] at hconv
      have hsz : s.size ≤ 93 := by rw [hs]; simp [ByteArray.size]; omega
      clear hs
      go_wp2
      go_ret
      exact ⟨s, rfl, hsz, HD.out⟩
end Go.Proofs.Ytbefoalecogmbaa.src
