/-
  Plain lemmas that this seat's proofs share: bytes of a string, rows of bytes that a call owns, such a row made a string. Own work.
-/
import Derived.Test.YtjjabfcdhknigaaRows
import Derived.WalkKit
import Derived.ProofKit
import Derived.OpenShut
import Derived.ShutString
import Derived.LoopTactic
import Derived.BigGuardPart
import Derived.Below
import Derived.Lib.Hide
import Derived.IntWalk
import Derived.Laws.BitsAllLaws
import Derived.Laws.BitsLemmas
import Derived.Laws.AppendOwn
import Derived.Laws.BytesArg
import Derived.Laws.MakeOwn
import Derived.Laws.CopyOwn
import Derived.Lib.UnsafeStr
import Derived.Lib.BufferWrite
import Derived.OwnWalk
import Derived.Laws.Slices
namespace Go.Proofs.Ytjjabfcdhknigaa
open Go.ChangeShapes Go.WideShapes Go.ChangeAt Go.RowKit
def byteAt (s : ByteArray) (k : Nat) : Nat := if h : k < s.size then s[k].toNat else 0
theorem byteAt_eq {s : ByteArray} {k : Nat} (h : k < s.size) : byteAt s k = s[k].toNat := dif_pos h
theorem byteAt_lt (s : ByteArray) (k : Nat) : byteAt s k < 256 := by
  unfold byteAt; split
  · exact UInt8.toNat_lt _
  · omega
theorem xor32 {a b : Nat} (ha : a < 4294967296) (hb : b < 4294967296) : a ^^^ b < 4294967296 :=
  Nat.xor_lt_two_pow (n := 32) ha hb
theorem empty_t {s : ByteArray} (h : s.size < 1) : s.toList.isEmpty = true := by
  rw [ByteArray.toList_eq, List.eq_nil_of_length_eq_zero (l := s.data.toList) (by have : s.data.toList.length = s.size := rfl; omega)]; rfl
theorem empty_f {s : ByteArray} (h : 1 ≤ s.size) : s.toList.isEmpty = false := by
  rw [ByteArray.toList_eq]
  cases hl : s.data.toList with
  | nil => have : s.data.toList.length = s.size := rfl; rw [hl] at this; simp at this; omega
  | cons _ _ => rfl
theorem str_of_nums (l : List UInt8) : strOfNums (l.map fun b => (b.toNat : Int)) = ⟨l.toArray⟩ := by
  unfold strOfNums
  congr 2
  rw [List.map_map]
  conv => rhs; rw [← List.map_id l]
  apply List.map_congr_left
  intro b _
  simp
theorem nums_getD (l : List UInt8) (i : Nat) : Value.int .u8 ((l.map fun b => (b.toNat : Int)).getD i 0) = Value.int .u8 ((l.getD i 0).toNat : Nat) := by
  rw [List.getD_eq_getElem?_getD, List.getD_eq_getElem?_getD, List.getElem?_map]
  cases l[i]? <;> rfl
/-- a row of the call's own that holds bytes, made a string -/
theorem conv_row {P : Program} {w : World} {g cap : Nat} (src e : TypeId) (hs : P.underlying src = some (.slice e)) (he : P.underlying e = some (.int .u8)) (l : List UInt8)
    (hc : ∀ i, i < l.length → w.cell? ⟨g, i, none⟩ = some (.int .u8 ((l.getD i 0).toNat : Nat))) (dst : TypeId) (hd : P.underlying dst = some .string) :
    (convert src dst (.slice (some ⟨g, 0, none⟩) l.length cap)).run P w = .ok (.string ⟨l.toArray⟩) w := by
  have := run_convert_bytes_arg (P := P) w src e hs he g 0 l.length cap (l.map fun b => (b.toNat : Int)) (by simp) (fun i hi => by
    rw [Nat.zero_add, nums_getD]; exact hc i hi) dst hd
  rw [str_of_nums] at this
  exact this
theorem conv_own {P : Program} {w : World} {base : Nat} {v : Value} (src e : TypeId) (hs : P.underlying src = some (.slice e)) (he : P.underlying e = some (.int .u8)) (l : List UInt8)
    (h : w.ownsRow base e 1 v l.length (Lib.byteCells l)) (dst : TypeId) (hd : P.underlying dst = some .string) :
    (convert src dst v).run P w = .ok (.string ⟨l.toArray⟩) w := by
  rcases h.2 with ⟨rfl, hn⟩ | ⟨g, cap, cur, rfl, h1, h2, h3, h4, h5, h6⟩
  · obtain rfl := List.eq_nil_of_length_eq_zero hn
    exact run_convert_bytes_nil w src e hs he 0 0 dst hd
  · refine conv_row src e hs he l (fun i hi => ?_) dst hd
    have hx : (Lib.byteCells l)[i]? = some (.int .u8 ((l.getD i 0).toNat : Nat)) := by
      unfold Lib.byteCells
      rw [List.getElem?_map, List.getD_eq_getElem?_getD, List.getElem?_eq_getElem hi]; rfl
    rw [h.cellAt i (by omega), hx]
theorem bset {w : World} {g k : Nat} {cs : Array Value} {t : TypeId} {fr : Nat × Nat} (h : w.heap[g]? = some (.cells cs t fr)) (v : Value) :
    (w.setCell ⟨g, k, none⟩ v).heap[g]? = some (.cells (cs.setIfInBounds k v) t fr) := by
  simp [World.setCell, Array.getElem?_modify, h]
def zeros (n : Nat) : List Value := List.replicate n (.int .u8 0)
def rowOf (acc : List UInt8) (n : Nat) : Array Value := (Lib.byteCells acc ++ zeros (n - acc.length)).toArray
theorem rowOf_nil (n : Nat) : rowOf [] n = (zeros n).toArray := by simp [rowOf, Lib.byteCells]
theorem rowOf_set (acc : List UInt8) (n : Nat) (b : UInt8) (h : acc.length < n) : (rowOf acc n).setIfInBounds acc.length (.int .u8 b.toNat) = rowOf (acc ++ [b]) n := by
  unfold rowOf
  obtain ⟨m, hm⟩ : ∃ m, n - acc.length = m + 1 := ⟨n - acc.length - 1, by omega⟩
  rw [hm, show n - (acc ++ [b]).length = m from by simp; omega]
  apply Array.ext'
  rw [Array.toList_setIfInBounds]
  have hl : (Lib.byteCells acc).length = acc.length := Lib.byteCells_length acc
  rw [List.set_append_right _ _ (by omega), hl, Nat.sub_self, Lib.byteCells_append, List.append_assoc]
  rfl
theorem rowOf_at (acc : List UInt8) (n i : Nat) (h : i < acc.length) : (rowOf acc n)[i]? = some (.int .u8 ((acc.getD i 0).toNat : Nat)) := by
  unfold rowOf
  have hl : (Lib.byteCells acc).length = acc.length := Lib.byteCells_length acc
  rw [List.getElem?_toArray, List.getElem?_append_left (by omega)]
  unfold Lib.byteCells
  rw [List.getElem?_map, List.getD_eq_getElem?_getD, List.getElem?_eq_getElem h]; rfl
theorem rowOf_free (acc : List UInt8) (n : Nat) (h : acc.length < n) : (rowOf acc n)[acc.length]? = some (.int .u8 0) := by
  unfold rowOf
  have hl : (Lib.byteCells acc).length = acc.length := Lib.byteCells_length acc
  rw [List.getElem?_toArray, List.getElem?_append_right (by omega), hl, Nat.sub_self]
  obtain ⟨m, hm⟩ : ∃ m, n - acc.length = m + 1 := ⟨n - acc.length - 1, by omega⟩
  rw [hm]; rfl

theorem set_same {w : World} {a : Addr} {u v : Value} (h : w.cell? a = some u) : (w.setCell a v).cell? a = some v :=
  World.cell?_setCell_same' w a v (by rw [h]; rfl)
theorem set_other {w : World} {a b : Addr} {v : Value} (h : a ≠ b) : (w.setCell a v).cell? b = w.cell? b := by
  first | exact World.cell?_setCell_other _ _ _ _ h | exact World.cell?_setCell_other _ _ _ h | exact World.cell?_setCell_other h
/-- what a call leaves of the blocks that were there -/
theorem keepC {W w1 : World} (hb : Below W.heap.size W w1) {g : Nat} (hg : g < W.heap.size) :
    (∀ o, w1.cell? ⟨g, o, none⟩ = W.cell? ⟨g, o, none⟩) ∧ (∀ o, w1.frozen? ⟨g, o, none⟩ = W.frozen? ⟨g, o, none⟩) :=
  ⟨fun o => hb.cell (p := ⟨g, o, none⟩) hg, fun o => hb.frozen (p := ⟨g, o, none⟩) hg⟩
theorem blk_lt {w : World} {g o : Nat} {v : Value} (h : w.cell? ⟨g, o, none⟩ = some v) : g < w.heap.size := by
  rcases Nat.lt_or_ge g w.heap.size with h' | h'
  · exact h'
  · simp [World.cell?, Array.getElem?_eq_none h'] at h
/-- one call behind another: what lies below the first world's end stays -/
theorem bthen {n : Nat} {a b c : World} (h : Below n a b) (k : Below b.heap.size b c) (hn : n ≤ b.heap.size) : Below n a c := h.trans (k.mono hn)

theorem info5 : (Try.prog.info? 5).map (fun i => (i.zero, i.size, i.bytes)) = some (some (.int .u8 0), 1, 1) := by kernel_rfl

theorem i64_bd {n : Int} (h : (Lit.int .i64 n).wf = true) : -9223372036854775808 ≤ n ∧ n ≤ 9223372036854775807 := by
  simp only [Lit.wf, IntKind.min, IntKind.max, IntKind.signed, IntKind.bits, Bool.and_eq_true, decide_eq_true_eq] at h
  exact ⟨by simpa using h.1, by simpa using h.2⟩
end Go.Proofs.Ytjjabfcdhknigaa
