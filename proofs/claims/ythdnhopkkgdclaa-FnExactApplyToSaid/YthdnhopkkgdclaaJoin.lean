/-
  'joined' of the program: both texts, one behind the other, in new memory. For texts of at most 10^12 bytes each.
-/
import Derived.Test.YthdnhopkkgdclaaBase
namespace Go.Proofs.Ythdnhopkkgdclaa.join
open Go.ChangeShapes Go.WideShapes Go.ChangeAt Go.RowKit

theorem data_add (a b : ByteArray) : (⟨(a.data.toList ++ b.data.toList).toArray⟩ : ByteArray) = a ++ b := by
  apply ByteArray.ext
  simp
theorem sliceAt (W : World) (g n l : Nat) (hl : l ≤ n) : (Instr.slice 22 (.slice (some ⟨g, 0, none⟩) n n) (some (.int .i64 (l : Int))) none none).run Try.prog W =
    .ok (.slice (some ⟨g, if n = l then 0 else l, none⟩) (n - l) (n - l)) W := by
  have he : Try.prog.elem 22 = 5 := by kernel_rfl
  have hs : (sizeOf 5).run Try.prog W = .ok 1 W := by kernel_rfl
  rw [run_slice_l (P := Try.prog) W 22 _ n n (by kernel_rfl) .i64 (l : Int) (by omega) (by omega), he, hs]
  simp only [Result.andThen, sliced, Int.toNat_natCast, Option.map_some]
  by_cases h : n = l
  · simp [h]
  · rw [if_neg h, if_neg h]
    unfold Addr.add
    by_cases h0 : l * 1 = 0
    · have : l = 0 := by omega
      subst this; rfl
    · rw [if_neg h0]; simp

set_option maxHeartbeats 800000 in
set_option maxRecDepth 100000 in
theorem joined_any (a b : ByteArray) (ha : a.size ≤ 1000000000000) (hb : b.size ≤ 1000000000000) (w : World) :
    Calls Try.prog 55 #[.string a, .string b] w fun e w' => e = .returned (.string (a ++ b)) ∧ Below w.heap.size w w' := by
  obtain ⟨i0, hi, hz0, hz1, hz2⟩ := info_parts info5
  have hinfo : (Try.prog.info? 5).map (·.size) = some 1 := by rw [hi]; simp [hz1]
  obtain ⟨n, hn⟩ : ∃ n, n = a.size + b.size := ⟨_, rfl⟩
  obtain ⟨M, hM⟩ : ∃ M, M = madeCells (Value.int .u8 0).cells (((n : Nat) : Int).toNat * i0.size) := ⟨_, rfl⟩
  have hMs : M.size = n := by rw [hM, size_madeCells, hz1]; simp
  have hmk : ∀ W : World, (Instr.makeSlice 22 (.int .i64 ((a.size : Int) + (b.size : Int))) (.int .i64 ((a.size : Int) + (b.size : Int)))).run Try.prog W = .ok (.slice (some ⟨W.heap.size, 0, none⟩) n n) (W.alloc (.cells M 5)) := fun W => by
    have h := run_make (P := Try.prog) W 22 5 i0 (.int .u8 0) Try.underlying22 hi hz0 .i64 .i64 (n : Int) (n : Int) (by omega) (by omega) (by rw [hz2]; omega) (by omega)
    rw [← hM] at h
    rw [show (a.size : Int) + (b.size : Int) = (n : Int) from by omega]
    simpa using h
  have hg0 : (w.alloc (.cells M 5)).heap[w.heap.size]? = some (.cells M 5 (0, 0)) := heap_alloc_new w _
  have hcp := Lib.run_copy_row_string (P := Try.prog) (w.alloc (.cells M 5)) 22 9 3 5 w.heap.size 0 n n a M 5 Try.underlying22 hinfo hg0 (by omega) (by omega)
  obtain ⟨Y, hY⟩ : ∃ Y, Y = (M.toList.take 0 ++ Lib.byteCells a.data.toList ++ M.toList.drop (0 + a.size)).toArray := ⟨_, rfl⟩
  rw [← hY] at hcp
  have hYs : Y.size = n := by
    rw [hY]; simp [Lib.byteCells_length]
    have : a.data.size = a.size := rfl
    omega
  have hg1 : ((w.alloc (.cells M 5)).setRow w.heap.size Y).heap[w.heap.size]? = some (.cells Y 5 (0, 0)) := setRow_heap _ _ M _ _ _ hg0
  have hsl := fun W => sliceAt W w.heap.size n a.size (by omega)
  obtain ⟨o, ho⟩ : ∃ o, o = if n = a.size then 0 else a.size := ⟨_, rfl⟩
  rw [← ho] at hsl
  have hob : o + b.size ≤ n := by rw [ho]; split <;> omega
  have hcp2 := Lib.run_copy_row_string (P := Try.prog) ((w.alloc (.cells M 5)).setRow w.heap.size Y) 22 9 3 5 w.heap.size o (n - a.size) (n - a.size) b Y 5 Try.underlying22 hinfo hg1 (by omega) (by omega)
  obtain ⟨Z, hZ⟩ : ∃ Z, Z = (Y.toList.take o ++ Lib.byteCells b.data.toList ++ Y.toList.drop (o + b.size)).toArray := ⟨_, rfl⟩
  rw [← hZ] at hcp2
  have hYl : Y.toList = Lib.byteCells a.data.toList ++ M.toList.drop a.size := by
    rw [hY, List.toList_toArray, List.take_zero, List.nil_append, Nat.zero_add]
  have hZl : Z.toList = Lib.byteCells (a.data.toList ++ b.data.toList) := by
    have hla : (Lib.byteCells a.data.toList).length = a.size := by rw [Lib.byteCells_length, ← Lib.size_eq]
    have hlM : (M.toList.drop a.size).length = b.size := by rw [List.length_drop, Array.length_toList]; omega
    rw [hZ, List.toList_toArray, Lib.byteCells_append]
    by_cases h0 : b.size = 0
    · have hb0 : b.data.toList = [] := List.eq_nil_of_length_eq_zero (by rw [← Lib.size_eq]; exact h0)
      have ho0 : o = 0 := by rw [ho, if_pos (by omega)]
      rw [ho0, hb0, hYl, h0]
      have : M.toList.drop a.size = [] := List.eq_nil_of_length_eq_zero (by omega)
      rw [this]
      simp [Lib.byteCells]
    · have ho1 : o = a.size := by rw [ho, if_neg (by omega)]
      rw [ho1, hYl, List.take_left' hla, List.drop_of_length_le (by rw [List.length_append]; omega), List.append_nil]
  have hg2 : (((w.alloc (.cells M 5)).setRow w.heap.size Y).setRow w.heap.size Z).heap[w.heap.size]? = some (.cells Z 5 (0, 0)) := setRow_heap _ _ Y _ _ _ hg1
  have hln : (a.data.toList ++ b.data.toList).length = n := by
    rw [List.length_append, ← Lib.size_eq, ← Lib.size_eq]; omega
  have hconv := conv_row (P := Try.prog) (cap := n) 22 5 Try.underlying22 Try.underlying5 (a.data.toList ++ b.data.toList) (fun i hi => by
    rw [cell_of_row _ _ _ _ _ _ hg2, ← Array.getElem?_toList, hZl]
    unfold Lib.byteCells
    rw [List.getElem?_map, List.getD_eq_getElem?_getD, List.getElem?_eq_getElem hi]; rfl) 9 Try.underlying9
  rw [hln, data_add] at hconv
  have hbel : Below w.heap.size w (((w.alloc (.cells M 5)).setRow w.heap.size Y).setRow w.heap.size Z) :=
    below_setRow (below_setRow ((Below.refl _ w).alloc (Nat.le_refl _) _) (Nat.le_refl _) _) (Nat.le_refl _) _
  clear hM hY hZ hZl hYl hg0 hg1 hg2 hln ho hn hMs hYs hi hz0 hz1 hz2 hinfo
  go_enter Try.func55, Try.ntmps55
  go_wp2
  go_ret
  exact ⟨rfl, hbel⟩
end Go.Proofs.Ythdnhopkkgdclaa.join
