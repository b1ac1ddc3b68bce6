/-
  KeysOf, of the program and of the model. For every text that the row reads.
-/
import Derived.Test.YtbefoalecogmbaaKeyLaw
namespace Go.Proofs.Ytbefoalecogmbaa.key
open Go.ChangeShapes Go.WideShapes Go.ChangeAt Go.RowKit
abbrev KK := Int × Int
def kCells (l : List KK) : List Value := l.flatMap fun d => [.int .i64 d.1, .int .i64 d.2]
theorem kCells_append (a b : List KK) : kCells (a ++ b) = kCells a ++ kCells b := by simp [kCells]
theorem kCells_one (k y : Int) : kCells [(k, y)] = [.int .i64 k, .int .i64 y] := by simp [kCells]
theorem kCells_len (l : List KK) : (kCells l).length = l.length * 2 := by
  induction l with
  | nil => rfl
  | cons d r ih => simp [kCells] at ih ⊢; omega
def stepK (x : KO) (l : List KK) : List KK := if x.2.2.2 then l ++ [(x.2.1, x.2.2.1)] else l
def keysTo (t : List UInt8) : Nat → List UInt8 × List KK
  | 0 => ([], [])
  | i + 1 => ((ofV (keysTo t i).1 (t.getD i 0)).1, stepK (ofV (keysTo t i).1 (t.getD i 0)) (keysTo t i).2)
def keysV (s : ByteArray) : List KK := if 8000 < s.size then [] else (keysTo s.data.toList s.size).2
theorem keysTo_wait (t : List UInt8) : ∀ i, (keysTo t i).1 ∈ waits
  | 0 => by simp [keysTo, waits]
  | i + 1 => (next_of (keysTo_wait t i) _).2
theorem keysTo_len (t : List UInt8) : ∀ i, (keysTo t i).2.length ≤ i
  | 0 => Nat.le_refl _
  | i + 1 => by
    have := keysTo_len t i
    simp only [keysTo, stepK]
    split
    · simp; omega
    · omega
theorem keysV_len (s : ByteArray) : (keysV s).length ≤ 8000 := by
  unfold keysV
  split
  · exact Nat.zero_le _
  · have := keysTo_len s.data.toList s.size; omega
theorem keysTo_step {s : ByteArray} {k : Nat} (h : k < s.size) : keysTo s.data.toList (k + 1) = ((ofV (keysTo s.data.toList k).1 s[k]).1, stepK (ofV (keysTo s.data.toList k).1 s[k]) (keysTo s.data.toList k).2) := by
  rw [at_list s k h]; rfl
theorem grown_below {A B : World} {r : Option Nat} (h : Below A.heap.size A B) : A.grownBy B r := ⟨h.os, h.tape, h.output, h.size, fun i hi _ => h.block i hi⟩
theorem own_later {w w' : World} {base : Nat} {e : TypeId} {size n : Nat} {v : Value} {xs : List Value} (h : w.ownsRow base e size v n xs) (hb : Below w.heap.size w w') : w'.ownsRow base e size v n xs := by
  refine h.kept (grown_below (r := none) hb) ?_
  cases hv : v.ownBlock with
  | none => exact .inl rfl
  | some g => exact .inr (by simp)
theorem own_base {w : World} {b b' : Nat} {e : TypeId} {size n : Nat} {v : Value} {xs : List Value} (h : w.ownsRow b e size v n xs) (hle : b' ≤ b) : w.ownsRow b' e size v n xs := by
  obtain ⟨h1, h2 | ⟨g, cap, cur, h3, h4, h5⟩⟩ := h
  · exact ⟨h1, .inl h2⟩
  · exact ⟨h1, .inr ⟨g, cap, cur, h3, Nat.le_trans hle h4, h5⟩⟩
theorem infoK : (Try.prog.info? 29).map (fun i => (i.zero, i.size, i.bytes)) = some (some (.agg #[.int .i64 0, .int .i64 0]), 2, 16) := by kernel_rfl
/-- what is handed back: a list of keys in memory of the call's own -/
def KeysAt (base : Nat) (w : World) (v : Value) (l : List KK) : Prop := w.ownsRow base 29 2 v l.length (kCells l)
set_option maxHeartbeats 3200000 in
theorem implKeys_any (s : ByteArray) (hs : s.size ≤ maxLen) (w : World) :
    Calls Try.prog 9 #[.string s] w fun e w' => ∃ v, e = .returned v ∧ KeysAt w.heap.size w' v (keysV s) ∧ Below w.heap.size w w' := by
  unfold maxLen at hs
  by_cases h8 : (8000 : Int) < s.size
  · have HV := Lib.hid (show keysV s = [] by unfold keysV; rw [if_pos (by omega)])
    go_enter Try.func9, Try.ntmps9
    go_wp2
    go_ret
    exact ⟨_, rfl, by rw [HV.out]; exact World.ownsRow_nil _ _ _ _, Below.refl _ _⟩
  have HV := Lib.hid (show keysV s = (keysTo s.data.toList s.size).2 by unfold keysV; rw [if_neg (by omega)])
  obtain ⟨i0, hi, hz0, hz1, hz2⟩ := info_parts infoK
  go_enter Try.func9, Try.ntmps9
  go_wp2_with fail
  refine (keyTable_any _).mono ?_
  rintro e w1 ⟨g, rfl, ht, hb1⟩
  have HB1 := Lib.hid hb1
  have HT := Lib.hid ht
  clear hb1 ht
  go_wp2_with fail
  refine (keyMapsOf_any g _ _ HT.out).mono ?_
  rintro e w2 ⟨B, rfl, hm, hb2⟩
  have HB2 := Lib.hid (bthen HB1.out hb2 HB1.out.size)
  have HM := Lib.hid hm
  have z2 := HB2.out.size
  clear hb2 hm HT HB1
  go_wp2
  go_loopw [4, 5, 15] (fun lv wv iv wr => ∃ k : Nat, k ≤ s.size ∧ iv = .int .i64 k ∧ wv = .string ⟨(keysTo s.data.toList k).1.toArray⟩ ∧ KeysAt w2.heap.size wr lv (keysTo s.data.toList k).2 ∧ Below w2.heap.size w2 wr) (fun _ _ iv _ => s.size - (intOf iv).toNat)
  case atStart => exact ⟨0, Nat.zero_le _, rfl, rfl, World.ownsRow_nil _ _ _ _, Below.refl _ _⟩
  case round =>
    obtain ⟨k, hk, rfl, rfl, hown, hb⟩ := hrel
    rename_i lv
    rename World => wr
    have HO := Lib.hid hown
    have HB := Lib.hid hb
    have hz := hb.size
    clear hown hb
    by_cases hlt : k < s.size
    · have HST := Lib.hid (keysTo_step hlt)
      have HL := Lib.hid (keysTo_len s.data.toList k)
      obtain ⟨wt, hwt⟩ : ∃ wt : ByteArray, wt = ⟨(keysTo s.data.toList k).1.toArray⟩ := ⟨_, rfl⟩
      have hwl : wt.data.toList = (keysTo s.data.toList k).1 := by rw [hwt]
      have HN := Lib.hid (next_any _ B 300 wt s[k] (by rw [hwl]; exact keysTo_wait s.data.toList k) wr (HM.out.below HB.out))
      rw [← hwl] at HST
      rw [← hwt]
      obtain ⟨⟨X1, X2, X3, X4⟩, hX⟩ : ∃ X, X = ofV wt.data.toList s[k] := ⟨_, rfl⟩
      obtain ⟨L, hL⟩ : ∃ L, L = (keysTo s.data.toList k).2 := ⟨_, rfl⟩
      rw [← hX] at HST HN
      rw [← hL] at HST HO HL
      unfold koKO koV at HN
      dsimp only at HN
      have HLL := Lib.hid hL
      clear hwl hwt hX hL
      cases X4
      · have HSS := Lib.hid (show keysTo s.data.toList (k + 1) = (X1, L) from HST.out)
        go_wp2_with fail
        refine HN.out.mono ?_
        rintro e w3 ⟨rfl, hb3⟩
        have HO3 := Lib.hid ((own_later HO.out hb3).alloc (.cells #[.string ⟨X1.toArray⟩, .int .i64 X2, .int .i64 X3, .bool false, .int .i64 0] 31))
        have HB3 := Lib.hid ((bthen HB.out hb3 hz).alloc (Nat.le_trans hz hb3.size) (.cells #[.string ⟨X1.toArray⟩, .int .i64 X2, .int .i64 X3, .bool false, .int .i64 0] 31))
        clear hb3
        go_wp2
        go_roundw
        case rel => exact ⟨k + 1, by omega, by go_num, by rw [HSS.out], by rw [HSS.out]; exact HO3.out, HB3.out⟩
        case measure => simp [intOf]; omega
      · have HSS := Lib.hid (show keysTo s.data.toList (k + 1) = (X1, L ++ [(X2, X3)]) from HST.out)
        go_wp2_with fail
        refine HN.out.mono ?_
        rintro e w3 ⟨rfl, hb3⟩
        have HO3 := Lib.hid (own_later HO.out hb3)
        have HB3 := Lib.hid (bthen HB.out hb3 hz)
        have z3 : w2.heap.size ≤ w3.heap.size := Nat.le_trans hz hb3.size
        have hll := HL.out
        clear hb3
        go_wp2_with (first | (at_builtin; refine wpList_append_own _ rfl _ _ 24 rfl w2.heap.size 29 i0 (.agg #[.int .i64 0, .int .i64 0]) 2 16 Try.underlying24 hi hz0 hz1 hz2 rfl (by decide) _ _ _ rfl ((HO3.out.alloc _).alloc _) ⟨w3.heap.size + 1, 0, none⟩ 1 1 [.int .i64 X2, .int .i64 X3] rfl rfl ?c1 ?c2 ?c3 ?c4 ?c5 ?_))
        case c1 =>
          intro j u hj
          match j, hj with
          | 0, hj => simp at hj; subst hj; simp [Addr.add]
          | 1, hj => simp at hj; subst hj; simp [Addr.add]
        case c2 => intro u hu; simp at hu; rcases hu with rfl | rfl <;> rfl
        case c3 => unfold maxLen; omega
        case c4 => omega
        case c5 => simp; omega
        intro v' w4 hown' hgrow hnil
        have HO4 := Lib.hid (show KeysAt w2.heap.size w4 v' (L ++ [(X2, X3)]) by unfold KeysAt; rw [kCells_append, kCells_one, List.length_append]; exact hown')
        have HB4 := Lib.hid (((HB3.out.alloc z3 (.cells #[.string ⟨X1.toArray⟩, .int .i64 X2, .int .i64 X3, .bool true, .int .i64 0] 31)).alloc (Nat.le_trans z3 (by simp)) (.cells #[.int .i64 X2, .int .i64 X3] 29)).grown hgrow (by simp; omega) (fun j hj => (HO3.out.lt j hj).1))
        have hzz := hgrow.size
        have d0 : w4.cell? ⟨w3.heap.size, 0, none⟩ = some (.string ⟨X1.toArray⟩) := by
          refine hgrow.cell ?_ ?_
          · rw [old_cell (by simp), World.cell?_alloc_at _ _ _ _ rfl]; rfl
          · intro e1
            have := (HO3.out.lt w3.heap.size e1.symm).2
            omega
        clear hown' hgrow hnil
        go_wp2
        go_roundw
        case rel => exact ⟨k + 1, by omega, by go_num, by rw [HSS.out], by rw [HSS.out]; exact HO4.out, HB4.out⟩
        case measure => simp [intOf]; omega
    · obtain rfl : k = s.size := by omega
      go_wp2
      go_ret
      exact ⟨_, rfl, by rw [HV.out]; exact own_base HO.out z2, HB2.out.trans (HB.out.mono z2)⟩
end Go.Proofs.Ytbefoalecogmbaa.key
