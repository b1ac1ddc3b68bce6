/-
  Draws: some bytes; a number at some limit; a text of noughts. What comes is bounded; nothing else is said of it.
-/
import Derived.Test.YtemfobhfejmboaaDoorDraw
import Derived.Test.YtemfobhfejmboaaDoorSource
namespace Go.Proofs.YtemfobhfejmboaaDoor.src
open Go.ChangeShapes Go.WideShapes Go.ChangeAt Go.RowKit
set_option maxHeartbeats 1600000 in
theorem bytes_any (N g n : Nat) (hn : n ≤ 1000) (w : World) (h : Src N g w) (hN : N ≤ w.heap.size) :
    Calls Tryd.prog 20 #[.pointer (some ⟨g, 0, none⟩), .int .i64 (n : Nat)] w fun e w' => ∃ s : ByteArray, e = .returned (.string s) ∧ s.size ≤ n ∧ Drew N g w w' := by
  obtain ⟨i0, hi, hz0, hz1, hz2⟩ := info_parts info5
  have hgl := h.lt
  have HS := Lib.hid (show Drew N g w (w.alloc (.cells #[] 5)) from ⟨h.below ((Below.refl _ w).alloc (Nat.le_refl _) _), World.grownBy_alloc w _ _⟩)
  clear h
  go_enter Tryd.func20, Tryd.ntmps20
  go_wp2
  go_loopw [5, 6] (fun v x wr => ∃ l : List UInt8, l.length ≤ n ∧ x = .int .i64 (l.length : Nat) ∧ wr.ownsRow w.heap.size 5 1 v l.length (Lib.byteCells l) ∧ Drew N g w wr) (fun _ x _ => n - (intOf x).toNat)
  case atStart => exact ⟨[], Nat.zero_le _, rfl, World.ownsRow_lit w #[] 0 (Nat.le_refl _) (by decide) rfl, HS.out⟩
  case round =>
    obtain ⟨l, hl, rfl, hown, hd⟩ := hrel
    rename World => wr
    have HD := Lib.hid hd
    have HO := Lib.hid hown
    clear hown hd HS
    by_cases hlt : l.length < n
    · go_wp2_with fail
      refine (n_in N g 256 (by omega) (by omega) _ HD.out.1).mono ?_
      rintro e w1 ⟨r, rfl, hr, hd1⟩
      have hne : u5.ownBlock = none ∨ u5.ownBlock ≠ some g := by
        rcases HO.out.2 with ⟨rfl, _⟩ | ⟨b, cap, cur, rfl, hb, _⟩
        · exact .inl rfl
        · exact .inr (fun e => by simp [Value.ownBlock] at e; omega)
      have hown := HO.out.kept hd1.2 hne
      have HD1 := Lib.hid (HD.out.trans hd1)
      have hsz := HD1.out.2.size
      have hwr : IntKind.u8.wrap (r : Int) = (r : Int) := by
        show (r : Int) % 256 = r
        omega
      clear hd1 HD HO
      go_wp2_with (first
      | (at_builtin; refine wpList_append_own _ rfl _ _ 22 rfl w.heap.size 5 i0 (.int .u8 0) 1 1 Tryd.underlying22 hi hz0 hz1 hz2 rfl (by decide) _ _ _ rfl (hown.alloc _) ⟨w1.heap.size, 0, none⟩ 1 1 [.int .u8 (r : Int)] rfl rfl ?c1 ?c2 ?c3 ?c4 ?c5 ?_))
      case c1 =>
        intro j u hj
        match j, hj with
        | 0, hj => simp at hj; subst hj; simp [Addr.add]
      case c2 => intro u hu; simp at hu; subst hu; rfl
      case c3 => unfold maxLen; omega
      case c4 => omega
      case c5 => simp; omega
      intro v' w2 hown' hgrow _
      have hl2 : (l ++ [UInt8.ofNat r]).length = l.length + 1 := by simp
      have hcells : Lib.byteCells l ++ [Value.int .u8 (r : Int)] = Lib.byteCells (l ++ [UInt8.ofNat r]) := by
        rw [Lib.byteCells_append]
        have : (UInt8.ofNat r).toNat = r := by rw [UInt8.toNat_ofNat']; omega
        simp [Lib.byteCells, this]
      rw [hcells, ← hl2] at hown'
      have hd2 : Drew N g w w2 := by
        have ha := HD1.out.below ((Below.refl _ w1).alloc (Nat.le_refl _) (.cells #[.int .u8 (r : Int)] 5))
        rcases hown.2 with ⟨rfl, _⟩ | ⟨b, cap, cur, rfl, hb, _⟩
        · exact ha.below ⟨hgrow.os, hgrow.tape, hgrow.output, hgrow.size, fun k hk => hgrow.block k hk (by simp [Value.ownBlock])⟩
        · exact drew_own ha hgrow (by show N ≤ b; omega) (by show b ≠ g; omega) hb
      have HO2 := Lib.hid hown'
      have HD2 := Lib.hid hd2
      clear hown' hgrow hcells hown hd2 HD1
      go_wp2
      go_roundw
      case rel => exact ⟨l ++ [UInt8.ofNat r], by omega, by rw [hl2]; go_num, HO2.out, HD2.out⟩
      case measure => simp [intOf]; omega
    · have hconv := conv_own 22 5 Tryd.underlying22 Tryd.underlying5 _ HO.out 9 Tryd.underlying9
      obtain ⟨s, hs⟩ : ∃ s : ByteArray, s = ⟨l.toArray⟩ := ⟨_, rfl⟩
      rw [← hs] at hconv
      have hsz : s.size ≤ n := by rw [hs]; simpa [ByteArray.size] using hl
      clear hs
      go_wp2
      go_ret
      exact ⟨s, rfl, hsz, HD.out⟩
end Go.Proofs.YtemfobhfejmboaaDoor.src
