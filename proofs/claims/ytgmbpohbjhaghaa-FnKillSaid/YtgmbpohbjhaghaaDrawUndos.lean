/-
  Draws: what a line was, right ones as a rule. What comes is bounded; nothing else is said of it.
-/
import Derived.Test.YtgmbpohbjhaghaaDrawTwo
import Derived.Test.YtgmbpohbjhaghaaUndoSpec
namespace Go.Proofs.Ytgmbpohbjhaghaa.src
open Go.ChangeShapes Go.WideShapes Go.ChangeAt Go.RowKit
open Go.Proofs.Ytgmbpohbjhaghaa.strs Go.Proofs.Ytgmbpohbjhaghaa.lines Go.Proofs.Ytgmbpohbjhaghaa.undo
/-- what is known of lines that are drawn -/
structure USt (N g : Nat) (w : World) (v : Value) (l : List (ByteArray × Int)) (W : World) : Prop where
  own : W.ownsRow w.heap.size 33 2 v l.length (lCells l)
  dr : Drew N g w W
  sz : ∀ y ∈ l, y.1.size ≤ 60
  gw : g < w.heap.size
theorem own_keptL {base : Nat} {w w' : World} {v : Value} {n g : Nat} {xs : List Value} (h : w.ownsRow base 33 2 v n xs) (hg : w.grownBy w' (some g)) (hb : g < base) : w'.ownsRow base 33 2 v n xs :=
  h.kept hg (by
    cases hv : v.ownBlock with
    | none => exact .inl rfl
    | some b =>
      have := (h.lt b hv).1
      exact .inr (by simp; omega))
theorem USt.draw {N g : Nat} {w : World} {v : Value} {l : List (ByteArray × Int)} {W W' : World} (h : USt N g w v l W) (hd : Drew N g W W') : USt N g w v l W' :=
  ⟨own_keptL h.own hd.2 h.gw, h.dr.trans hd, h.sz, h.gw⟩
theorem USt.below {N g : Nat} {w : World} {v : Value} {l : List (ByteArray × Int)} {W W' : World} (h : USt N g w v l W) (hb : Below W.heap.size W W') : USt N g w v l W' :=
  ⟨kill.own_later h.own hb, h.dr.below hb, h.sz, h.gw⟩
theorem own_drew {N g : Nat} {w W W' W2 : World} {v : Value} {n : Nat} {xs : List Value} (h : Drew N g w W2) (ho : W.ownsRow w.heap.size 33 2 v n xs) (hg : W2.grownBy W' v.ownBlock) (hN : N ≤ w.heap.size) (hgl : g < w.heap.size) : Drew N g w W' := by
  cases hv : v.ownBlock with
  | none =>
    rw [hv] at hg
    exact drew_own h (k := w.heap.size) ⟨hg.os, hg.tape, hg.output, hg.size, fun i hi _ => hg.block i hi (by simp)⟩ hN (by omega) (Nat.le_refl _)
  | some k =>
    rw [hv] at hg
    have := (ho.lt k hv).1
    exact drew_own h hg (by omega) (by omega) this
theorem row_drawn {base : Nat} {w w' : World} {a : Option Addr} {l : List (ByteArray × Int)} {g : Nat} (h : LRow w a l) (hb : LBlk base w a l.length) (hg : w.grownBy w' (some g)) (hlt : g < base) : LRow w' a l ∧ LBlk base w' a l.length := by
  have hne : l.length ≠ 0 → blockOf a ≠ some g := fun e e2 => by
    obtain ⟨g', o, e3, h1, _⟩ := hb e
    rw [e3] at e2
    injection e2 with e2
    simp at e2
    omega
  exact ⟨h.kept hg (fun e => .inl (hne (fun e2 => e (List.eq_nil_of_length_eq_zero e2)))), hb.kept hg (fun e => .inl (hne e))⟩
theorem und_fit {l : List (ByteArray × Int)} {s : ByteArray} {z : Int} (hs : ∀ y ∈ l, y.1.size ≤ 60) (h : s.size ≤ 60) : (undV l s z).length ≤ l.length + 1 ∧ ∀ y ∈ undV l s z, y.1.size ≤ 60 := by
  unfold undV
  split
  · exact ⟨by omega, hs⟩
  · refine ⟨?_, fun y hy => ?_⟩
    · unfold trimL
      split
      · rw [List.length_drop, List.length_append]; simp
      · rw [List.length_append]; simp
    · rcases trimL_mem hy with h1 | h1
      · exact hs y h1
      · rw [h1]; exact h
set_option maxHeartbeats 3200000 in
set_option maxRecDepth 20000 in
theorem undos_draw (N g : Nat) (w : World) (h : Src N g w) (hN : N ≤ w.heap.size) :
    Calls Try.prog 67 #[.pointer (some ⟨g, 0, none⟩)] w fun e w' => ∃ a C l, e = .returned (.slice a l.length C) ∧ LRow w' a l ∧ LBlk w.heap.size w' a l.length ∧ l.length ≤ C ∧ (a = none → C = 0 ∧ l = []) ∧ l.length ≤ 30 ∧ (∀ y ∈ l, y.1.size ≤ 60) ∧ Drew N g w w' := by
  have hgl := h.lt
  have hgn : w.heap.size ≠ g := by omega
  obtain ⟨i0, hi, hz0, hz1, hz2⟩ := info_parts infoL
  have hst : USt N g w (.slice (some ⟨w.heap.size, 0, none⟩) 0 0) [] (w.alloc (.cells #[] 33)) :=
    ⟨⟨rfl, .inr ⟨w.heap.size, 0, #[], rfl, Nat.le_refl _, heap_alloc_new w _, Nat.le_refl _, Nat.zero_le _, rfl, rfl⟩⟩, (drew0 h).below ((Below.refl _ w).alloc (Nat.le_refl _) _), fun y h => absurd h List.not_mem_nil, hgl⟩
  have HST := Lib.hid hst
  clear hst h
  go_enter Try.func67, Try.ntmps67
  go_wp2_with fail
  refine (n_in N g 6 (by omega) (by omega) _ HST.out.dr.1).mono ?_
  rintro e w1 ⟨r, rfl, hr, hd⟩
  have HS1 := Lib.hid (HST.out.draw hd)
  have hr5 : r ≤ 5 := by omega
  clear hd HST hr
  go_wp2
  go_loopw [3, 4] (fun lv iv wr => ∃ k : Nat, iv = .int .i64 k ∧ k ≤ 5 ∧ ∃ l, USt N g w lv l wr ∧ l.length + k ≤ 5) (fun _ iv _ => (intOf iv).toNat)
  case atStart => exact ⟨r, rfl, hr5, [], HS1.out, by simpa using hr5⟩
  case round =>
    obtain ⟨k, rfl, hk, l, hst, hl⟩ := hrel
    rename_i lv
    rename World => wr
    have HSW := Lib.hid hst
    have HL := Lib.hid hl
    clear hst hl
    by_cases hpos : 0 < k
    · obtain ⟨a, C, rfl, q1, q2, q3, q4⟩ := own_lines HSW.out.own
      have HZ := Lib.hid q2
      clear q1 q2 q3 q4
      go_wp2_with fail
      refine (lineOf_any N g _ HSW.out.dr.1 (by have := HSW.out.dr.2.size; omega)).mono ?_
      rintro e w2 ⟨s, z, rfl, hs, hd⟩
      have HS2 := Lib.hid (HSW.out.draw hd)
      have HSS := Lib.hid hs
      clear hd hs
      obtain ⟨a2, C2, e2, _, _, q3, _⟩ := own_lines HS2.out.own
      injection e2 with e2 _ e3
      subst e2 e3
      have HU := Lib.hid (specUnd_any a C l s z (by have := HL.out; omega) HZ.out w2 q3)
      unfold lV at HU
      clear q3
      go_wp2_with fail
      refine HU.out.mono ?_
      rintro e w3 ⟨a3, c3, rfl, h1, h2, h3, h4, hb⟩
      have hown := h4 (by have := HL.out; omega)
      have HS3 := Lib.hid (show USt N g w (.slice a3 (undV l s z).length c3) (undV l s z) w3 from
        ⟨kill.own_lo hown HS2.out.dr.2.size, HS2.out.dr.below hb, (und_fit HS2.out.sz (by have := HSS.out; omega)).2, hgl⟩)
      have HL3 := Lib.hid ((und_fit (z := z) HS2.out.sz (show s.size ≤ 60 by have := HSS.out; omega)).1)
      clear h1 h2 h3 h4 hb hown
      go_wp2
      go_roundw
      case rel => exact ⟨k - 1, by go_num, by omega, undV l s z, HS3.out, by have := HL3.out; have := HL.out; omega⟩
      case measure => simp [intOf]; omega
    · obtain rfl : k = 0 := by omega
      go_wp2_with fail
      refine (one_any N g 8 (by omega) _ HSW.out.dr.1).mono ?_
      rintro e w2 ⟨b, rfl, hd⟩
      have HS2 := Lib.hid (HSW.out.draw hd)
      clear hd HSW
      cases b
      · obtain ⟨a, C, rfl, q1, q2, q3, q4⟩ := own_lines HS2.out.own
        have Q := Lib.hid (And.intro q1 (And.intro q2 (And.intro q3 q4)))
        clear q1 q2 q3 q4
        go_wp2
        go_ret
        exact ⟨a, C, l, rfl, Q.out.2.2.1, Q.out.2.2.2, Q.out.1, Q.out.2.1, by have := HL.out; omega, HS2.out.sz, HS2.out.dr⟩
      · go_wp2_with fail
        refine (n_in N g 25 (by omega) (by omega) _ HS2.out.dr.1).mono ?_
        rintro e w3 ⟨q, rfl, hq, hd⟩
        have HS3 := Lib.hid (HS2.out.draw hd)
        have hq24 : q ≤ 24 := by omega
        clear hd HS2 hq
        go_wp2
        go_loopw [3, 5] (fun lv iv wr => ∃ k : Nat, iv = .int .i64 k ∧ k ≤ 24 ∧ ∃ l, USt N g w lv l wr ∧ l.length + k ≤ 29) (fun _ iv _ => (intOf iv).toNat)
        case atStart => exact ⟨q, rfl, hq24, l, HS3.out, by have := HL.out; omega⟩
        case round =>
          obtain ⟨k, rfl, hk, l, hst, hl⟩ := hrel
          rename World => wr
          have HSW := Lib.hid hst
          have HL := Lib.hid hl
          clear hst hl
          by_cases hpos : 0 < k
          · go_wp2_with (first | (at_builtin; refine wpList_append_own _ rfl _ _ 31 rfl w.heap.size 33 i0 (lV ⟨#[]⟩ 0) 2 24 Try.underlying31 hi hz0 hz1 hz2 rfl (by decide) _ _ _ rfl (HSW.out.own.alloc _) ⟨wr.heap.size, 0, none⟩ 1 1 [.string ((⟨#[120, 121, 122]⟩ : ByteArray).extract 0 (k % 3)), .int .i64 0] rfl rfl ?c1 ?c2 ?c3 ?c4 ?c5 ?_))
            case c1 =>
              intro j u hj
              match j, hj with
              | 0, hj => simp at hj; subst hj; simp [Addr.add]
              | 1, hj => simp at hj; subst hj; simp [Addr.add]
            case c2 => intro u hu; simp at hu; rcases hu with rfl | rfl <;> rfl
            case c3 => have := HL.out; unfold maxLen; omega
            case c4 => have := HL.out; omega
            case c5 => have := HSW.out.dr.2.size; simp; omega
            intro v' w4 hown' hgrow hnil
            have hal : Below wr.heap.size wr (wr.alloc (.cells #[.string ((⟨#[120, 121, 122]⟩ : ByteArray).extract 0 (k % 3)), .int .i64 0] 33)) := (Below.refl _ wr).alloc (Nat.le_refl _) _
            have HS4 := Lib.hid (show USt N g w v' (l ++ [((⟨#[120, 121, 122]⟩ : ByteArray).extract 0 (k % 3), 0)]) w4 from
              ⟨by rw [List.length_append, lCells_append, lCells_one]; exact hown', own_drew (HSW.out.dr.below hal) HSW.out.own hgrow hN hgl, fun y hy => by
                rcases List.mem_append.1 hy with h1 | h1
                · exact HSW.out.sz y h1
                · simp at h1; rw [h1]; simp; omega, hgl⟩)
            clear hown' hgrow hnil hal
            go_wp2
            go_roundw
            case rel => exact ⟨k - 1, by go_num, by omega, _, HS4.out, by have := HL.out; simp; omega⟩
            case measure => simp [intOf]; omega
          · obtain rfl : k = 0 := by omega
            obtain ⟨a, C, rfl, q1, q2, q3, q4⟩ := own_lines HSW.out.own
            have Q := Lib.hid (And.intro q1 (And.intro q2 (And.intro q3 q4)))
            clear q1 q2 q3 q4
            go_wp2
            go_ret
            exact ⟨a, C, l, rfl, Q.out.2.2.1, Q.out.2.2.2, Q.out.1, Q.out.2.1, by have := HL.out; omega, HSW.out.sz, HSW.out.dr⟩
end Go.Proofs.Ytgmbpohbjhaghaa.src
