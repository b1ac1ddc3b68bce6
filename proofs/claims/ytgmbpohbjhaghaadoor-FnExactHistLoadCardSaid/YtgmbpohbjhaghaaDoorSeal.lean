/-
  Seal of the program and of the model: both come to the same bytes. For every text that the row reads.
-/
import Derived.Test.YtgmbpohbjhaghaaDoorCrc
import Derived.Test.YtgmbpohbjhaghaaDoorJoin
namespace Go.Proofs.YtgmbpohbjhaghaaDoor.seal_
open Go.ChangeShapes Go.WideShapes Go.ChangeAt Go.RowKit
open Go.Proofs.YtgmbpohbjhaghaaDoor.crc Go.Proofs.YtgmbpohbjhaghaaDoor.join

/-- the four bytes of a number below 2^32, the lowest first -/
def fourL (n : Nat) : List UInt8 := [UInt8.ofNat n, UInt8.ofNat (n / 256), UInt8.ofNat (n / 65536), UInt8.ofNat (n / 16777216)]
def fourB (n : Nat) : ByteArray := ⟨(fourL n).toArray⟩
theorem fourB_size (n : Nat) : (fourB n).size = 4 := rfl
theorem low_byte (x : Nat) : Value.int .u8 (((UInt8.ofNat x).toNat : Nat) : Int) = .int .u8 ((x : Int) % 256) := by
  rw [UInt8.toNat_ofNat']; rfl
theorem top_byte (n : Nat) (h : n < 4294967296) : Value.int .u8 (((UInt8.ofNat (n / 16777216)).toNat : Nat) : Int) = .int .u8 ((n : Int) / 16777216) := by
  congr 1
  rw [UInt8.toNat_ofNat']; omega
theorem fourL_take (n : Nat) (k : Nat) (h : k < 4) : (fourL n).take (k + 1) = (fourL n).take k ++ [(fourL n).getD k 0] := by
  obtain rfl | rfl | rfl | rfl : k = 0 ∨ k = 1 ∨ k = 2 ∨ k = 3 := by omega
  all_goals rfl
theorem fourL_len (n k : Nat) (h : k ≤ 4) : ((fourL n).take k).length = k := by rw [List.length_take]; simp [fourL]; omega
theorem slice4 (W : World) (g : Nat) : (Instr.sliceAt 76 (.pointer (some ⟨g, 0, none⟩)) none none none).run Tryd.prog W = .ok (.slice (some ⟨g, 0, none⟩) 4 4) W := by
  have hl : Tryd.prog.arrayLen 76 = 4 := by kernel_rfl
  have he : Tryd.prog.elem 76 = 5 := by kernel_rfl
  have hs : (sizeOf 5).run Tryd.prog W = .ok 1 W := by kernel_rfl
  rw [run_sliceAt_array_all (P := Tryd.prog) W 76 ⟨g, 0, none⟩ (by kernel_rfl), he, hs, hl]
  simp [Result.andThen, slicedAt, Addr.add]

set_option maxHeartbeats 800000 in
set_option maxRecDepth 100000 in
theorem specFour_any (n : Nat) (hn : n < 4294967296) (w : World) :
    Calls Tryd.prog 20 #[.int .i64 n] w fun e w' => e = .returned (.string (fourB n)) ∧ Below w.heap.size w w' := by
  have hconv := conv_row (P := Tryd.prog) (w := w.alloc (.cells #[.int .u8 ((n : Int) % 256), .int .u8 ((n : Int) / 256 % 256), .int .u8 ((n : Int) / 65536 % 256), .int .u8 ((n : Int) / 16777216)] 5)) (g := w.heap.size) (cap := 4)
    50 5 Tryd.underlying50 Tryd.underlying5 (fourL n) (fun i hi => by
      rw [cell_of_row _ _ _ _ _ _ (heap_alloc_new w _)]
      have hi4 : i < 4 := hi
      obtain rfl | rfl | rfl | rfl : i = 0 ∨ i = 1 ∨ i = 2 ∨ i = 3 := by omega
      · exact congrArg some (low_byte n).symm
      · exact congrArg some (low_byte (n / 256)).symm
      · exact congrArg some (low_byte (n / 65536)).symm
      · exact congrArg some (top_byte n hn).symm) 9 Tryd.underlying9
  have hconv' : ∀ x, x = 4 → (convert 50 9 (.slice (some ⟨w.heap.size, 0, none⟩) x 4)).run Tryd.prog (w.alloc (.cells #[.int .u8 ((n : Int) % 256), .int .u8 ((n : Int) / 256 % 256), .int .u8 ((n : Int) / 65536 % 256), .int .u8 ((n : Int) / 16777216)] 5)) = .ok (.string (fourB n)) (w.alloc (.cells #[.int .u8 ((n : Int) % 256), .int .u8 ((n : Int) / 256 % 256), .int .u8 ((n : Int) / 65536 % 256), .int .u8 ((n : Int) / 16777216)] 5)) := by
    rintro x rfl; exact hconv
  have hc := hconv' 4 rfl
  clear hconv hconv'
  go_enter Tryd.func20, Tryd.ntmps20
  go_wp2
  go_ret
  exact ⟨rfl, (Below.refl _ _).alloc (Nat.le_refl _) _⟩
set_option maxHeartbeats 800000 in
set_option maxRecDepth 100000 in
theorem implSum_any (n : Nat) (hn : n < 4294967296) (w : World) :
    Calls Tryd.prog 31 #[.int .i64 n] w fun e w' => e = .returned (.string (fourB n)) ∧ Below w.heap.size w w' := by
  go_enter Tryd.func31, Tryd.ntmps31
  go_wp2
  go_loopw [5] (fun i wr => ∃ (k : Nat), k ≤ 4 ∧ i = .int .i64 k ∧ wr.heap[w.heap.size]? = some (.cells (rowOf ((fourL n).take k) 4) 76 (0, 0)) ∧ Below w.heap.size w wr)
    (fun i _ => 4 - (intOf i).toNat)
  case atStart => exact ⟨0, by simp, rfl, by rw [List.take_zero, rowOf_nil]; exact heap_alloc_new w _, (Below.refl _ _).alloc (Nat.le_refl _) _⟩
  case round =>
    obtain ⟨k, hk, rfl, hrow, hbel⟩ := hrel
    have hsz := hbel.size
    by_cases hlt : k < 4
    · have hcell : wr.cell? ⟨w.heap.size, k, none⟩ = some (.int .u8 0) := by
        have hl := fourL_len n k hk
        rw [cell_of_row wr _ _ _ _ _ hrow]
        have := rowOf_free ((fourL n).take k) 4 (by omega)
        rw [hl] at this; exact this
      have hfz : wr.frozen? ⟨w.heap.size, k, none⟩ = false := by simp [World.frozen?, hrow]
      have hrow' := bset (k := k) hrow (.int .u8 (((fourL n).getD k 0).toNat : Nat))
      have hset := rowOf_set ((fourL n).take k) 4 ((fourL n).getD k 0) (by rw [fourL_len n k hk]; omega)
      rw [fourL_len n k hk] at hset
      rw [hset, ← fourL_take n k hlt] at hrow'
      have hb' := hbel.setCell (p := ⟨w.heap.size, k, none⟩) (Nat.le_refl _) (.int .u8 (((fourL n).getD k 0).toNat : Nat))
      have HR := Lib.hid hrow'
      have HB := Lib.hid hb'
      clear hrow hrow' hset hb'
      obtain rfl | rfl | rfl | rfl : k = 0 ∨ k = 1 ∨ k = 2 ∨ k = 3 := by omega
      · go_wp2
        have e : Value.int .u8 (((fourL n).getD 0 0).toNat : Nat) = .int .u8 ((n : Int) % 256) := low_byte n
        rw [e] at HR HB
        exact ⟨⟨1, by omega, rfl, HR.out, HB.out⟩, by simp [intOf]⟩
      · go_wp2
        have e : Value.int .u8 (((fourL n).getD 1 0).toNat : Nat) = .int .u8 ((n : Int) / 256 % 256) := low_byte (n / 256)
        rw [e] at HR HB
        exact ⟨⟨2, by omega, rfl, HR.out, HB.out⟩, by simp [intOf]⟩
      · go_wp2
        have e : Value.int .u8 (((fourL n).getD 2 0).toNat : Nat) = .int .u8 ((n : Int) / 65536 % 256) := low_byte (n / 65536)
        rw [e] at HR HB
        exact ⟨⟨3, by omega, rfl, HR.out, HB.out⟩, by simp [intOf]⟩
      · go_wp2
        have e : Value.int .u8 (((fourL n).getD 3 0).toNat : Nat) = .int .u8 ((n : Int) / 16777216) := top_byte n hn
        rw [e] at HR HB
        exact ⟨⟨4, by omega, rfl, HR.out, HB.out⟩, by simp [intOf]⟩
    · obtain rfl : k = 4 := by omega
      have hsl := fun W => slice4 W w.heap.size
      have hconv := conv_row (P := Tryd.prog) (w := wr) (g := w.heap.size) (cap := 4) 50 5 Tryd.underlying50 Tryd.underlying5 (fourL n) (fun i hi => by
        rw [cell_of_row _ _ _ _ _ _ hrow]
        exact rowOf_at (fourL n) 4 i hi) 9 Tryd.underlying9
      have hc : (convert 50 9 (.slice (some ⟨w.heap.size, 0, none⟩) 4 4)).run Tryd.prog wr = .ok (.string (fourB n)) wr := hconv
      clear hconv hrow
      go_wp2
      go_ret
      exact ⟨rfl, hbel⟩

def crcN (s : ByteArray) : Nat := flipped (regs s (flipped 0) s.size)
theorem crcN_lt (s : ByteArray) : crcN s < 4294967296 := flipped_lt (regs_lt (flipped_lt (by omega)) _)
theorem crcN_eq {s : ByteArray} (h : s.size ≤ 8000) : crcFrom 0 s = (crcN s : Nat) := crcFrom_in (r := 0) h (by omega)
def sealB (s : ByteArray) : ByteArray := if 7996 < s.size then ByteArray.empty else s ++ fourB (crcN s)
set_option maxHeartbeats 400000 in
theorem implSeal_any (s : ByteArray) (hs : s.size ≤ maxLen) (w : World) :
    Calls Tryd.prog 24 #[.string s] w fun e w' => e = .returned (.string (sealB s)) ∧ Below w.heap.size w w' := by
  have H := Lib.hid hs
  unfold maxLen at hs
  by_cases h1 : (7996 : Int) < s.size
  · have hf : sealB s = ByteArray.empty := if_pos (by omega)
    have HF := Lib.hid hf
    clear hf
    go_enter Tryd.func24, Tryd.ntmps24
    go_wp2
    go_ret
    exact ⟨by rw [HF.out]; rfl, Below.refl _ _⟩
  · have hf : sealB s = s ++ fourB (crcN s) := if_neg (by omega)
    have HF := Lib.hid hf
    clear hf
    have hcb := crcN_lt s
    have HC := Lib.hid (crcN_eq (s := s) (by omega))
    go_enter Tryd.func24, Tryd.ntmps24
    go_wp2_with fail
    refine (implCrc_all _ H.out _).mono ?_
    rintro e w1 ⟨rfl, rfl⟩
    rw [HC.out]
    go_wp2_with fail
    refine (implSum_any (crcN s) hcb _).mono ?_
    rintro e w1 ⟨rfl, hb1⟩
    have hz := fourB_size (crcN s)
    have hz' : (fourB (crcN s)).size ≤ 4 := by omega
    clear hz
    go_wp2_with fail
    refine (joined_any _ _ (by omega) (by omega) _).mono ?_
    rintro e w2 ⟨rfl, hb2⟩
    have hb := hb1.trans (hb2.mono hb1.size)
    clear hb1 hb2
    go_wp2
    go_ret
    exact ⟨by rw [HF.out]; rfl, hb⟩
end Go.Proofs.YtgmbpohbjhaghaaDoor.seal_
