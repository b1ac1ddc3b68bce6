/-
  PutNum of the program and of the model: both come to the same bytes. For every number of int64.
-/
import Derived.Test.YtgmbpohbjhaghaaBase
namespace Go.Proofs.Ytgmbpohbjhaghaa.num
open Go.ChangeShapes Go.WideShapes Go.ChangeAt Go.RowKit
/-- the number of int64 as a number from 0 to 2^64-1 -/
def foldN (n : Int) : Nat := if n < 0 then (2 * (-(n + 1)) + 1).toNat else (2 * n).toNat
theorem foldN_lt {n : Int} (h1 : -9223372036854775808 ≤ n) (h2 : n ≤ 9223372036854775807) : foldN n < 18446744073709551616 := by
  unfold foldN; split <;> omega
theorem specFold_any (n : Int) (h1 : -9223372036854775808 ≤ n) (h2 : n ≤ 9223372036854775807) (w : World) :
    Calls Try.prog 137 #[.int .i64 n] w fun e w' => e = .returned (.int .u64 (foldN n)) ∧ w = w' := by
  by_cases h : n < 0
  · have hf : ((foldN n : Nat) : Int) = 2 * (-(n + 1)) + 1 := by unfold foldN; rw [if_pos h]; omega
    rw [hf]
    go_enter Try.func137, Try.ntmps137
    go_wp2
    go_ret
    exact ⟨rfl, rfl⟩
  · have hf : ((foldN n : Nat) : Int) = 2 * n := by unfold foldN; rw [if_neg h]; omega
    rw [hf]
    go_enter Try.func137, Try.ntmps137
    go_wp2
    go_ret
    exact ⟨rfl, rfl⟩
theorem implFold_any (n : Int) (h1 : -9223372036854775808 ≤ n) (h2 : n ≤ 9223372036854775807) (w : World) :
    Calls Try.prog 138 #[.int .i64 n] w fun e w' => e = .returned (.int .u64 (foldN n)) ∧ w = w' := by
  by_cases h : n < 0
  · have hf : ((foldN n : Nat) : Int) = 2 * (-(n + 1)) + 1 := by unfold foldN; rw [if_pos h]; omega
    rw [hf]
    go_enter Try.func138, Try.ntmps138
    go_wp2
    go_ret
    exact ⟨rfl, rfl⟩
  · have hf : ((foldN n : Nat) : Int) = 2 * n := by unfold foldN; rw [if_neg h]; omega
    rw [hf]
    go_enter Try.func138, Try.ntmps138
    go_wp2
    go_ret
    exact ⟨rfl, rfl⟩

/-! ### seven bits a byte -/
def bd : Nat → Nat
  | 0 => 2
  | f + 1 => 128 * bd f
def vb : Nat → Nat → List UInt8
  | 0, x => [UInt8.ofNat x]
  | f + 1, x => if x < 128 then [UInt8.ofNat x] else UInt8.ofNat (x % 128 + 128) :: vb f (x / 128)
theorem vb_last (f : Nat) {x : Nat} (h : x < 128) : vb f x = [UInt8.ofNat x] := by
  cases f with
  | zero => rfl
  | succ f => rw [vb, if_pos h]
theorem vb_more (f : Nat) {x : Nat} (h : ¬ x < 128) : vb (f + 1) x = UInt8.ofNat (x % 128 + 128) :: vb f (x / 128) := by rw [vb, if_neg h]
theorem vb_len : ∀ (f x : Nat), (vb f x).length ≤ f + 1
  | 0, _ => by simp [vb]
  | f + 1, x => by
    rw [vb]; split
    · simp
    · have := vb_len f (x / 128); simp; omega
def numL (n : Int) : List UInt8 := vb 9 (foldN n)
def numB (n : Int) : ByteArray := ⟨(numL n).toArray⟩
theorem bd_le : ∀ {f : Nat}, f ≤ 9 → bd f ≤ 18446744073709551616
  | 0, _ => by decide
  | 1, _ => by decide
  | 2, _ => by decide
  | 3, _ => by decide
  | 4, _ => by decide
  | 5, _ => by decide
  | 6, _ => by decide
  | 7, _ => by decide
  | 8, _ => by decide
  | 9, _ => by decide
theorem bd9 : bd 9 = 18446744073709551616 := by decide

theorem byte_of (x : Nat) : Value.int .u8 (((UInt8.ofNat (x % 128 + 128)).toNat : Nat) : Int) = .int .u8 ((x : Int) % 128 + 128) := by
  congr 1
  rw [UInt8.toNat_ofNat']; omega
theorem byte_of' (x : Nat) (h : x < 128) : Value.int .u8 (((UInt8.ofNat x).toNat : Nat) : Int) = .int .u8 (x : Int) := by
  congr 1
  rw [UInt8.toNat_ofNat']; omega
set_option maxHeartbeats 800000 in
set_option maxRecDepth 100000 in
theorem specPut_any (n : Int) (h1 : -9223372036854775808 ≤ n) (h2 : n ≤ 9223372036854775807) (w : World) :
    Calls Try.prog 127 #[.int .i64 n] w fun e w' => e = .returned (.string (numB n)) ∧ Below w.heap.size w w' := by
  obtain ⟨i0, hi, hz0, hz1, hz2⟩ := info_parts info5
  have hb9 : foldN n < bd 9 := by rw [bd9]; exact foldN_lt h1 h2
  have HB := Lib.hid hb9
  have hb9' := Lib.hid h1
  have HN := Lib.hid (show numL n = vb 9 (foldN n) from rfl)
  have HNB := Lib.hid (show numB n = ⟨(numL n).toArray⟩ from rfl)
  clear hb9
  go_enter Try.func127, Try.ntmps127
  go_wp2_with (go_at_call 137; refine (specFold_any _ h1 h2 _).mono ?_; rintro e w' ⟨rfl, rfl⟩)
  go_loopw [3, 4] (fun u b wr => ∃ (x f : Nat) (acc : List UInt8), acc.length + f ≤ 9 ∧ u = .int .u64 x ∧ x < bd f ∧ acc ++ vb f x = numL n ∧ wr.ownsRow w.heap.size 5 1 b acc.length (Lib.byteCells acc) ∧ Below w.heap.size w wr)
    (fun u _ _ => (intOf u).toNat)
  case atStart => exact ⟨foldN n, 9, [], by simp, rfl, HB.out, HN.out.symm, World.ownsRow_lit w #[] 0 (Nat.le_refl _) (by decide) rfl, (Below.refl _ _).alloc (Nat.le_refl _) _⟩
  case round =>
    obtain ⟨x, f, acc, hlen, rfl, hx, hacc, hown, hbel⟩ := hrel
    have hbig : (x : Int) ≤ 18446744073709551615 := by have := bd_le (f := f) (by omega); omega
    have HX := Lib.hid hx
    have HA := Lib.hid hacc
    have hsz := hbel.size
    clear hx hacc
    by_cases hlt : x < 128
    · have hx0 : (x : Int) < 128 := by omega
      go_wp2_with (first
      | (at_builtin; refine wpList_append_own _ rfl _ _ 22 rfl w.heap.size 5 i0 (.int .u8 0) 1 1 Try.underlying22 hi hz0 hz1 hz2 rfl (by decide) _ _ _ rfl (hown.alloc _) ⟨wr.heap.size, 0, none⟩ 1 1 [.int .u8 (x : Int)] rfl rfl ?c1 ?c2 ?c3 ?c4 ?c5 ?_))
      case c1 =>
        intro j u hj
        match j, hj with
        | 0, hj => simp at hj; subst hj; simp [Addr.add]
      case c2 => intro u hu; simp at hu; subst hu; rfl
      case c3 => unfold maxLen; omega
      case c4 => omega
      case c5 => simp; omega
      intro v' w1 hown' hgrow _
      have hl : (acc ++ [UInt8.ofNat x]).length = acc.length + 1 := by simp
      have hcells : Lib.byteCells acc ++ [Value.int .u8 (x : Int)] = Lib.byteCells (acc ++ [UInt8.ofNat x]) := by
        rw [Lib.byteCells_append, ← byte_of' x hlt]; rfl
      rw [hcells, ← hl] at hown'
      have hconv := conv_own 22 5 Try.underlying22 Try.underlying5 _ hown' 9 Try.underlying9
      have hfin : numB n = ⟨(acc ++ [UInt8.ofNat x]).toArray⟩ := by rw [HNB.out, ← HA.out, vb_last f hlt]
      rw [← hfin] at hconv
      have hbel' := ((hbel.alloc hsz _).grown hgrow (by simp; omega) (fun k hk => (hown.lt k hk).1))
      clear hown' hgrow hl hcells hfin hown hbel
      go_wp2
      go_ret
      exact ⟨rfl, hbel'⟩
    · have hx0 : 128 ≤ (x : Int) := by omega
      obtain ⟨g, rfl⟩ : ∃ g, f = g + 1 := by
        cases f with
        | zero => have := HX.out; simp [bd] at this; omega
        | succ g => exact ⟨g, rfl⟩
      go_wp2_with (first
      | (at_builtin; refine wpList_append_own _ rfl _ _ 22 rfl w.heap.size 5 i0 (.int .u8 0) 1 1 Try.underlying22 hi hz0 hz1 hz2 rfl (by decide) _ _ _ rfl (hown.alloc _) ⟨wr.heap.size, 0, none⟩ 1 1 [.int .u8 ((x : Int) % 128 + 128)] rfl rfl ?c1 ?c2 ?c3 ?c4 ?c5 ?_))
      case c1 =>
        intro j u hj
        match j, hj with
        | 0, hj => simp at hj; subst hj; simp [Addr.add]
      case c2 => intro u hu; simp at hu; subst hu; rfl
      case c3 => unfold maxLen; omega
      case c4 => omega
      case c5 => simp; omega
      intro v' w1 hown' hgrow _
      have hl : (acc ++ [UInt8.ofNat (x % 128 + 128)]).length = acc.length + 1 := by simp
      have hcells : Lib.byteCells acc ++ [Value.int .u8 ((x : Int) % 128 + 128)] = Lib.byteCells (acc ++ [UInt8.ofNat (x % 128 + 128)]) := by
        rw [Lib.byteCells_append, ← byte_of x]; rfl
      rw [hcells, ← hl] at hown'
      have hbel' := ((hbel.alloc hsz _).grown hgrow (by simp; omega) (fun k hk => (hown.lt k hk).1))
      have HO := Lib.hid hown'
      clear hown' hgrow hl hcells hown hbel
      go_wp2
      go_roundw
      case rel => exact ⟨x / 128, g, acc ++ [UInt8.ofNat (x % 128 + 128)], by simp; omega, by go_num, by have := HX.out; simp [bd] at this; omega, by rw [← HA.out, vb_more g hlt]; simp, HO.out, hbel'⟩
      case measure => simp [intOf]; omega

theorem slice36 (W : World) (g k : Nat) (hk : k + 1 ≤ 10) : (Instr.sliceAt 136 (.pointer (some ⟨g, 0, none⟩)) none (some (.int .i64 ((k : Int) + 1))) none).run Try.prog W = .ok (.slice (some ⟨g, 0, none⟩) (k + 1) 10) W := by
  have hl : Try.prog.arrayLen 136 = 10 := by kernel_rfl
  have he : Try.prog.elem 136 = 5 := by kernel_rfl
  have hs : (sizeOf 5).run Try.prog W = .ok 1 W := by kernel_rfl
  have h := run_sliceAt_array_h (P := Try.prog) W 136 ⟨g, 0, none⟩ (by kernel_rfl) .i64 ((k : Int) + 1) (by omega) (by rw [hl]; omega)
  rw [h, he, hs, hl]
  simp only [Result.andThen, slicedAt]
  rw [show ((k : Int) + 1).toNat = k + 1 from by omega]
  simp [Addr.add]

set_option maxHeartbeats 800000 in
set_option maxRecDepth 100000 in
theorem implPut_any (n : Int) (h1 : -9223372036854775808 ≤ n) (h2 : n ≤ 9223372036854775807) (w : World) :
    Calls Try.prog 130 #[.int .i64 n] w fun e w' => e = .returned (.string (numB n)) ∧ Below w.heap.size w w' := by
  have hb9 : foldN n < bd 9 := by rw [bd9]; exact foldN_lt h1 h2
  have HB := Lib.hid hb9
  have HN := Lib.hid (show numL n = vb 9 (foldN n) from rfl)
  have HNB := Lib.hid (show numB n = ⟨(numL n).toArray⟩ from rfl)
  clear hb9
  go_enter Try.func130, Try.ntmps130
  go_wp2_with (go_at_call 138; refine (implFold_any _ h1 h2 _).mono ?_; rintro e w' ⟨rfl, hw'⟩; subst hw')
  go_loopw [4, 5] (fun u i wr => ∃ (x f : Nat) (acc : List UInt8), acc.length + f = 9 ∧ u = .int .u64 x ∧ i = .int .i64 acc.length ∧ x < bd f ∧ acc ++ vb f x = numL n ∧
      wr.heap[w.heap.size]? = some (.cells (rowOf acc 10) 136 (0, 0)) ∧ Below w.heap.size w wr)
    (fun u _ _ => (intOf u).toNat)
  case atStart => exact ⟨foldN n, 9, [], by simp, rfl, rfl, HB.out, HN.out.symm, by rw [rowOf_nil]; exact heap_alloc_new w _, (Below.refl _ _).alloc (Nat.le_refl _) _⟩
  case round =>
    obtain ⟨x, f, acc, hlen, rfl, rfl, hx, hacc, hrow, hbel⟩ := hrel
    have hbig : (x : Int) ≤ 18446744073709551615 := by have := bd_le (f := f) (by omega); omega
    have HX := Lib.hid hx
    have HA := Lib.hid hacc
    have HL := Lib.hid hlen
    have hl9 : acc.length ≤ 9 := by omega
    have hsz := hbel.size
    have hcell : wr.cell? ⟨w.heap.size, acc.length, none⟩ = some (.int .u8 0) := by
      rw [cell_of_row wr _ _ _ _ _ hrow, rowOf_free _ _ (by omega)]
    have hfz : wr.frozen? ⟨w.heap.size, acc.length, none⟩ = false := by simp [World.frozen?, hrow]
    clear hx hacc hlen
    have HR := Lib.hid hrow
    clear hrow
    by_cases hlt : x < 128
    · have hx0 : (x : Int) < 128 := by omega
      have hsl := fun W => slice36 W w.heap.size acc.length (by omega)
      have hrow' := bset (k := acc.length) HR.out (.int .u8 ((UInt8.ofNat x).toNat : Nat))
      rw [rowOf_set _ _ _ (by omega), byte_of' x hlt] at hrow'
      have hl : (acc ++ [UInt8.ofNat x]).length = acc.length + 1 := by simp
      have hfin : numB n = ⟨(acc ++ [UInt8.ofNat x]).toArray⟩ := by rw [HNB.out, ← HA.out, vb_last f hlt]
      have hconv := conv_row (P := Try.prog) (cap := 10) 22 5 Try.underlying22 Try.underlying5 (acc ++ [UInt8.ofNat x]) (fun i hi => by
        rw [cell_of_row _ _ _ _ _ _ hrow', rowOf_at _ _ _ hi]) 9 Try.underlying9
      rw [← hfin, hl] at hconv
      have hbel' := hbel.setCell (p := ⟨w.heap.size, acc.length, none⟩) (Nat.le_refl _) (.int .u8 (x : Int))
      clear hrow' hfin hl
      go_wp2
      go_ret
      exact ⟨rfl, hbel'⟩
    · have hx0 : 128 ≤ (x : Int) := by omega
      obtain ⟨g, rfl⟩ : ∃ g, f = g + 1 := by
        cases f with
        | zero => have := HX.out; simp [bd] at this; omega
        | succ g => exact ⟨g, rfl⟩
      have hrow' := bset (k := acc.length) HR.out (.int .u8 ((UInt8.ofNat (x % 128 + 128)).toNat : Nat))
      rw [rowOf_set _ _ _ (by omega), byte_of x] at hrow'
      have HR' := Lib.hid hrow'
      have hbel' := hbel.setCell (p := ⟨w.heap.size, acc.length, none⟩) (Nat.le_refl _) (.int .u8 ((x : Int) % 128 + 128))
      clear hrow'
      go_wp2
      go_roundw
      case rel => exact ⟨x / 128, g, acc ++ [UInt8.ofNat (x % 128 + 128)], by have := HL.out; simp; omega, by go_num, by simp, by have := HX.out; simp [bd] at this; omega, by rw [← HA.out, vb_more g hlt]; simp, HR'.out, hbel'⟩
      case measure => simp [intOf]; omega

end Go.Proofs.Ytgmbpohbjhaghaa.num
