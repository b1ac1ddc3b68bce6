/-
  The draws of FnNums' law. For every row of bytes that can be read.
-/
import Derived.Test.YtemfobhfejmboaaDoorDrawBytes
namespace Go.Proofs.YtemfobhfejmboaaDoor.src
open Go.ChangeShapes Go.WideShapes Go.ChangeAt Go.RowKit
def InI (v : Int) : Prop := -9223372036854775808 ≤ v ∧ v ≤ 9223372036854775807
theorem ints_in (l : List Int) (hl : ∀ v ∈ l, InI v) (r : Nat) (hr : r < l.length) : ∃ v : Int, InI v ∧ ((l.map (Value.int .i64)).toArray)[r]? = some (.int .i64 v) := by
  rw [List.getElem?_toArray, List.getElem?_map, List.getElem?_eq_getElem hr]
  exact ⟨_, hl _ (List.getElem_mem hr), rfl⟩
theorem edges_in : ∀ v ∈ [0, 1, -1, 2, 1000, 1001, 2147483648, 2147483647, -2147483648, 4611686018427387904, 9223372036854775807, -9223372036854775808, 1000000, 1000001], InI v := by
  intro v hv
  simp at hv
  unfold InI
  rcases hv with rfl | rfl | rfl | rfl | rfl | rfl | rfl | rfl | rfl | rfl | rfl | rfl | rfl | rfl <;> omega
set_option maxHeartbeats 1600000 in
theorem edgeI_any (N g : Nat) (w : World) (h : Src N g w) :
    Calls Tryd.prog 23 #[.pointer (some ⟨g, 0, none⟩)] w fun e w' => ∃ i : Int, InI i ∧ e = .returned (.int .i64 i) ∧ Drew N g w w' := by
  have hgl := h.lt
  have hgn : w.heap.size ≠ g := by omega
  go_enter Tryd.func23, Tryd.ntmps23
  go_wp2_with fail
  refine (n_in N g 14 (by omega) (by omega) _ (h.below ((Below.refl _ w).alloc (Nat.le_refl _) _))).mono ?_
  rintro e w1 ⟨r, rfl, hr, hd⟩
  have hrow := (hd.2.block w.heap.size (by simp) (fun e => hgn (by injection e))).trans (heap_alloc_new w _)
  obtain ⟨v, hv0, hv⟩ := ints_in _ edges_in r (by simp; omega)
  have hc : w1.cell? ⟨w.heap.size, r, none⟩ = some (.int .i64 v) := (cell_of_row _ _ _ _ _ _ hrow).trans hv
  have HD := Lib.hid (Drew.after ((Below.refl _ w).alloc (Nat.le_refl _) _) hd)
  have HV := Lib.hid hv0
  clear hd hrow hv h hv0
  go_wp2
  go_ret
  exact ⟨v, HV.out, rfl, HD.out⟩
theorem any_any (N g : Nat) (w : World) (h : Src N g w) :
    Calls Tryd.prog 13 #[.pointer (some ⟨g, 0, none⟩)] w fun e w' => ∃ i : Int, InI i ∧ e = .returned (.int .i64 i) ∧ Drew N g w w' := by
  go_enter Tryd.func13, Tryd.ntmps13
  go_wp2_with fail
  refine (one_any N g 4 (by omega) _ h).mono ?_
  rintro e w1 ⟨b, rfl, hd⟩
  have HD := Lib.hid hd
  clear hd h
  cases b
  · go_wp2_with fail
    refine (n_in N g 1099511627776 (by omega) (by omega) _ HD.out.1).mono ?_
    rintro e w2 ⟨r, rfl, hr, hd⟩
    have HD2 := Lib.hid (HD.out.trans hd)
    have HI := Lib.hid (show InI ((r : Int) - 1048576) by unfold InI; omega)
    clear hd
    go_wp2
    go_ret
    exact ⟨_, HI.out, rfl, HD2.out⟩
  · go_wp2_with fail
    refine (edgeI_any N g _ HD.out.1).mono ?_
    rintro e w2 ⟨i, hi, rfl, hd⟩
    have HD2 := Lib.hid (HD.out.trans hd)
    have HI := Lib.hid hi
    clear hd hi
    go_wp2
    go_ret
    exact ⟨_, HI.out, rfl, HD2.out⟩
theorem drawPutNum_any (N : Nat) (a : Option Addr) (n C : Nat) (hn : n ≤ 1048576) (w : World) (hb : BytesA N a n w) :
    Calls Tryd.prog 4 #[.slice a n C] w fun e w' => ∃ i : Int, InI i ∧ e = .returned (.int .i64 i) ∧ Below w.heap.size w w' := by
  go_enter Tryd.func4, Tryd.ntmps4
  go_wp2_with fail
  refine (source_any N a n C hn _ hb).mono ?_
  rintro e w1 ⟨rfl, hs, hb1⟩
  have HB1 := Lib.hid hb1
  clear hb1
  go_wp2_with fail
  refine (any_any N _ _ hs).mono ?_
  rintro e w2 ⟨i, hi, rfl, hd⟩
  have HD := Lib.hid (drew_all HB1.out hd)
  have HI := Lib.hid hi
  clear hd hi hs
  go_wp2
  go_ret
  exact ⟨i, HI.out, rfl, HD.out⟩
set_option maxHeartbeats 1600000 in
theorem drawPutText_any (N : Nat) (a : Option Addr) (n C : Nat) (hn : n ≤ 1048576) (w : World) (hN : N ≤ w.heap.size) (hb : BytesA N a n w) :
    Calls Tryd.prog 8 #[.slice a n C] w fun e w' => ∃ s : ByteArray, e = .returned (.string s) ∧ (s.size ≤ 20 ∨ 8000 < s.size ∧ s.size ≤ 20001) ∧ Below w.heap.size w w' := by
  obtain ⟨i0, hi0, hz0, hz1, hz2⟩ := info_parts info5
  go_enter Tryd.func8, Tryd.ntmps8
  go_wp2_with fail
  refine (source_any N a n C hn _ hb).mono ?_
  rintro e w1 ⟨rfl, hs, hb1⟩
  have hw1 := hb1.size
  have HS0 := Lib.hid hs
  have HB1 := Lib.hid hb1
  go_wp2_with fail
  refine (one_any N _ 8 (by omega) _ hs).mono ?_
  rintro e w2 ⟨t, rfl, hd⟩
  have HB2 := Lib.hid (drew_all hb1 hd)
  have HS2 := Lib.hid hd.1
  have hw2 := HB2.out.size
  clear hs hb1 hd
  cases t
  · go_wp2_with fail
    refine (n_in N _ 20 (by omega) (by omega) _ HS2.out).mono ?_
    rintro e w3 ⟨r, rfl, hr, hd3⟩
    have HB3 := Lib.hid (drew_all HB2.out hd3)
    have HS3 := Lib.hid hd3.1
    have hw3 := HB3.out.size
    clear hd3
    go_wp2_with fail
    refine (bytes_any N _ r (by omega) _ HS3.out (by omega)).mono ?_
    rintro e w4 ⟨s, rfl, hs, hd4⟩
    have HB4 := Lib.hid (drew_all HB3.out hd4)
    clear hd4
    go_wp2
    go_ret
    exact ⟨s, rfl, .inl (by omega), HB4.out⟩
  · go_wp2_with fail
    refine (n_in N _ 3 (by omega) (by omega) _ HS2.out).mono ?_
    rintro e w3 ⟨r, rfl, hr, hd3⟩
    have HB3 := Lib.hid (drew_all HB2.out hd3)
    have hw3 := HB3.out.size
    clear hd3
    obtain ⟨m, hm⟩ : ∃ m : Nat, m = 19999 + r := ⟨_, rfl⟩
    have hmi : (19999 : Int) + (r : Int) = (m : Int) := by omega
    have hmk : ∀ W : World, (Instr.makeSlice 22 (.int .i64 (m : Int)) (.int .i64 (m : Int))).run Tryd.prog W = .ok (.slice (some ⟨W.heap.size, 0, none⟩) m m) (W.alloc (.cells (rowOf [] m) 5)) := fun W => by
      have h := run_make (P := Tryd.prog) W 22 5 i0 (.int .u8 0) Tryd.underlying22 hi0 hz0 .i64 .i64 m m (by omega) (by omega) (by rw [hz2]; omega) (by omega)
      have e : madeCells (Value.int .u8 0).cells ((m : Int).toNat * i0.size) = rowOf [] m := by
        rw [hz1, Nat.mul_one, rowOf_nil]
        apply Array.ext'
        exact toList_madeCells_one _ _
      rw [e] at h
      exact h
    rw [← hmi] at hmk
    clear hmi
    have hcv := conv_row (P := Tryd.prog) (w := w3.alloc (.cells (rowOf [] m) 5)) (g := w3.heap.size) (cap := m) 22 5 Tryd.underlying22 Tryd.underlying5 (List.replicate m 0) (fun j hj => by
      rw [List.length_replicate] at hj
      rw [cell_of_row _ _ _ _ _ _ (heap_alloc_new w3 _), rowOf_nil, List.getElem?_toArray, zeros, List.getElem?_replicate, if_pos hj, List.getD_eq_getElem?_getD, List.getElem?_replicate, if_pos hj]
      rfl) 9 Tryd.underlying9
    rw [List.length_replicate] at hcv
    obtain ⟨Z, hZ⟩ : ∃ Z : ByteArray, Z = ⟨(List.replicate m (0 : UInt8)).toArray⟩ := ⟨_, rfl⟩
    rw [← hZ] at hcv
    have hZs : Z.size = m := by rw [hZ]; simp [ByteArray.size]
    clear hZ
    have HB4 := Lib.hid ((HB3.out.alloc hw3 (.cells (rowOf [] m) 5)))
    have HZ := Lib.hid (show Z.size ≤ 20 ∨ 8000 < Z.size ∧ Z.size ≤ 20001 from .inr (by omega))
    clear hm hZs
    go_wp2
    go_ret
    exact ⟨Z, rfl, HZ.out, HB4.out⟩
end Go.Proofs.YtemfobhfejmboaaDoor.src
