/-
  The draws of FnSeal's law. For every row of bytes that can be read.
-/
import Derived.Test.YtdkdkdbdnfhonaaDrawBytes
import Derived.Test.YtdkdkdbdnfhonaaCrc
namespace Go.Proofs.Ytdkdkdbdnfhonaa.src
open Go.ChangeShapes Go.WideShapes Go.ChangeAt Go.RowKit
open Go.Proofs.Ytdkdkdbdnfhonaa.crc
theorem ints_at (l : List Int) (r : Nat) (hr : r < l.length) : ∃ v : Int, ((l.map (Value.int .i64)).toArray)[r]? = some (.int .i64 v) := by
  rw [List.getElem?_toArray, List.getElem?_map, List.getElem?_eq_getElem hr]
  exact ⟨_, rfl⟩
set_option maxHeartbeats 1600000 in
theorem edge_any (N g : Nat) (w : World) (h : Src N g w) :
    Calls Try.prog 22 #[.pointer (some ⟨g, 0, none⟩)] w fun e w' => ∃ i : Int, e = .returned (.int .i64 i) ∧ Drew N g w w' := by
  have hgl := h.lt
  have hgn : w.heap.size ≠ g := by omega
  go_enter Try.func22, Try.ntmps22
  go_wp2_with fail
  refine (n_in N g 14 (by omega) (by omega) _ (h.below ((Below.refl _ w).alloc (Nat.le_refl _) _))).mono ?_
  rintro e w1 ⟨r, rfl, hr, hd⟩
  have hrow := (hd.2.block w.heap.size (by simp) (fun e => hgn (by injection e))).trans (heap_alloc_new w _)
  obtain ⟨v, hv⟩ := ints_at [0, 1, -1, 2, 1000, 1001, 2147483648, 2147483647, -2147483648, 4611686018427387904, 9223372036854775807, -9223372036854775808, 1000000, 1000001] r (by simp; omega)
  have hc : w1.cell? ⟨w.heap.size, r, none⟩ = some (.int .i64 v) := (cell_of_row _ _ _ _ _ _ hrow).trans hv
  have HD := Lib.hid (Drew.after ((Below.refl _ w).alloc (Nat.le_refl _) _) hd)
  clear hd hrow hv h
  go_wp2
  go_ret
  exact ⟨v, rfl, HD.out⟩
set_option maxHeartbeats 1600000 in
theorem drawSeal_any (N : Nat) (a : Option Addr) (n C : Nat) (hn : n ≤ 1048576) (w : World) (hN : N ≤ w.heap.size) (hb : BytesA N a n w) :
    Calls Try.prog 4 #[.slice a n C] w fun e w' => ∃ s : ByteArray, e = .returned (.string s) ∧ (s.size ≤ 20 ∨ 8000 < s.size ∧ s.size ≤ 20000) ∧ Below w.heap.size w w' := by
  obtain ⟨i0, hi0, hz0, hz1, hz2⟩ := info_parts info5
  go_enter Try.func4, Try.ntmps4
  go_wp2_with fail
  refine (source_any N a n C hn _ hb).mono ?_
  rintro e w1 ⟨rfl, hs, hb1⟩
  have hw1 := hb1.size
  have HS0 := Lib.hid hs
  have HB1 := Lib.hid hb1
  go_wp2_with fail
  refine (one_any N _ 30 (by omega) _ hs).mono ?_
  rintro e w2 ⟨t, rfl, hd⟩
  have HB2 := Lib.hid (drew_all hb1 hd)
  have HS2 := Lib.hid hd.1
  have hw2 := HB2.out.size
  clear hs hb1 hd
  cases t
  · go_wp2_with fail
    refine (n_in N _ 20 (by omega) (by omega) _ HS2.out).mono ?_
    rintro e w3 ⟨r, rfl, hr, hd3⟩
    have HB3 := Lib.hid (drew_all HB2.out hd3)
    have HS3 := Lib.hid hd3.1
    have hw3 := HB3.out.size
    clear hd3
    go_wp2_with fail
    refine (bytes_any N _ r (by omega) _ HS3.out (by omega)).mono ?_
    rintro e w4 ⟨s, rfl, hs, hd4⟩
    have HB4 := Lib.hid (drew_all HB3.out hd4)
    clear hd4
    go_wp2
    go_ret
    exact ⟨s, rfl, .inl (by omega), HB4.out⟩
  · go_wp2_with fail
    refine (n_in N _ 3 (by omega) (by omega) _ HS2.out).mono ?_
    rintro e w3 ⟨r, rfl, hr, hd3⟩
    have HB3 := Lib.hid (drew_all HB2.out hd3)
    have hw3 := HB3.out.size
    clear hd3
    obtain ⟨m, hm⟩ : ∃ m : Nat, m = 19995 + r := ⟨_, rfl⟩
    have hmi : (19995 : Int) + (r : Int) = (m : Int) := by omega
    have hmk : ∀ W : World, (Instr.makeSlice 22 (.int .i64 (m : Int)) (.int .i64 (m : Int))).run Try.prog W = .ok (.slice (some ⟨W.heap.size, 0, none⟩) m m) (W.alloc (.cells (rowOf [] m) 5)) := fun W => by
      have h := run_make (P := Try.prog) W 22 5 i0 (.int .u8 0) Try.underlying22 hi0 hz0 .i64 .i64 m m (by omega) (by omega) (by rw [hz2]; omega) (by omega)
      have e : madeCells (Value.int .u8 0).cells ((m : Int).toNat * i0.size) = rowOf [] m := by
        rw [hz1, Nat.mul_one, rowOf_nil]
        apply Array.ext'
        exact toList_madeCells_one _ _
      rw [e] at h
      exact h
    rw [← hmi] at hmk
    clear hmi
    have hcv := conv_row (P := Try.prog) (w := w3.alloc (.cells (rowOf [] m) 5)) (g := w3.heap.size) (cap := m) 22 5 Try.underlying22 Try.underlying5 (List.replicate m 0) (fun j hj => by
      rw [List.length_replicate] at hj
      rw [cell_of_row _ _ _ _ _ _ (heap_alloc_new w3 _), rowOf_nil, List.getElem?_toArray, zeros, List.getElem?_replicate, if_pos hj, List.getD_eq_getElem?_getD, List.getElem?_replicate, if_pos hj]
      rfl) 9 Try.underlying9
    rw [List.length_replicate] at hcv
    obtain ⟨Z, hZ⟩ : ∃ Z : ByteArray, Z = ⟨(List.replicate m (0 : UInt8)).toArray⟩ := ⟨_, rfl⟩
    rw [← hZ] at hcv
    have hZs : Z.size = m := by rw [hZ]; simp [ByteArray.size]
    clear hZ
    have HB4 := Lib.hid ((HB3.out.alloc hw3 (.cells (rowOf [] m) 5)))
    have HZ := Lib.hid (show Z.size ≤ 20 ∨ 8000 < Z.size ∧ Z.size ≤ 20000 from .inr (by omega))
    clear hm hZs
    go_wp2
    go_ret
    exact ⟨Z, rfl, HZ.out, HB4.out⟩
set_option maxHeartbeats 1600000 in
theorem drawCrcMore_any (N : Nat) (a : Option Addr) (n C : Nat) (hn : n ≤ 1048576) (w : World) (hN : N ≤ w.heap.size) (hb : BytesA N a n w) :
    Calls Try.prog 9 #[.slice a n C] w fun e w' => ∃ (c : Int) (s : ByteArray), e = .returned (.tuple #[.int .i64 c, .string s]) ∧ s.size ≤ 9 ∧ Below w.heap.size w w' := by
  go_enter Try.func9, Try.ntmps9
  go_wp2_with fail
  refine (source_any N a n C hn _ hb).mono ?_
  rintro e w1 ⟨rfl, hs, hb1⟩
  have hw1 := hb1.size
  have HS1 := Lib.hid hs
  have HB1 := Lib.hid hb1
  clear hs hb1
  go_wp2_with fail
  refine (n_in N _ 9 (by omega) (by omega) _ HS1.out).mono ?_
  rintro e w2 ⟨r, rfl, hr, hd2⟩
  have HB2 := Lib.hid (drew_all HB1.out hd2)
  have HS2 := Lib.hid hd2.1
  have hw2 := HB2.out.size
  clear hd2
  go_wp2_with fail
  refine (bytes_any N _ r (by omega) _ HS2.out (by omega)).mono ?_
  rintro e w3 ⟨s, rfl, hs, hd3⟩
  have HB3 := Lib.hid (drew_all HB2.out hd3)
  have HS3 := Lib.hid hd3.1
  have hw3 := HB3.out.size
  clear hd3
  go_wp2_with fail
  refine (one_any N _ 5 (by omega) _ HS3.out).mono ?_
  rintro e w4 ⟨t, rfl, hd4⟩
  have HB4 := Lib.hid (drew_all HB3.out hd4)
  have HS4 := Lib.hid hd4.1
  have hw4 := HB4.out.size
  clear hd4
  cases t
  · go_wp2_with fail
    refine (n_in N _ 9 (by omega) (by omega) _ HS4.out).mono ?_
    rintro e w5 ⟨q, rfl, hq, hd5⟩
    have HB5 := Lib.hid (drew_all HB4.out hd5)
    have HS5 := Lib.hid hd5.1
    have hw5 := HB5.out.size
    clear hd5
    go_wp2_with fail
    refine (bytes_any N _ q (by omega) _ HS5.out (by omega)).mono ?_
    rintro e w6 ⟨u, rfl, hu, hd6⟩
    have HB6 := Lib.hid (drew_all HB5.out hd6)
    clear hd6
    go_wp2_with fail
    refine (specCrc_all u (by unfold maxLen; omega) _).mono ?_
    rintro e wx ⟨rfl, rfl⟩
    go_wp2
    go_ret2
    exact ⟨_, s, rfl, by omega, HB6.out⟩
  · go_wp2_with fail
    refine (edge_any N _ _ HS4.out).mono ?_
    rintro e w5 ⟨i, rfl, hd5⟩
    have HB5 := Lib.hid (drew_all HB4.out hd5)
    clear hd5
    go_wp2
    go_ret2
    exact ⟨_, s, rfl, by omega, HB5.out⟩
end Go.Proofs.Ytdkdkdbdnfhonaa.src
