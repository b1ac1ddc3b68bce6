/-
  A number, and a text, come back from their bytes; of bytes that end too early nothing is got. Plain terms. For every number of int64, every text of at most 8000 bytes.
-/
import Derived.Test.YtemfobhfejmboaaDoorRead
import Derived.Test.YtemfobhfejmboaaDoorText
import Derived.Test.YtemfobhfejmboaaDoorGetText
namespace Go.Proofs.YtemfobhfejmboaaDoor.back
open Go.ChangeShapes Go.WideShapes Go.ChangeAt Go.RowKit
open Go.Proofs.YtemfobhfejmboaaDoor.num Go.Proofs.YtemfobhfejmboaaDoor.read Go.Proofs.YtemfobhfejmboaaDoor.text
theorem byteAt_list (s : ByteArray) (k : Nat) : byteAt s k = (s.data.toList.getD k 0).toNat := by
  unfold byteAt
  split
  · rename_i h
    have h2 : k < s.data.toList.length := h
    rw [List.getD_eq_getElem?_getD, List.getElem?_eq_getElem h2]; rfl
  · rename_i h
    have h2 : s.data.toList.length ≤ k := by show s.size ≤ k; omega
    rw [List.getD_eq_getElem?_getD, List.getElem?_eq_none h2]; rfl
theorem vb_pos : ∀ (f x : Nat), 1 ≤ (vb f x).length
  | 0, x => by simp [vb]
  | f + 1, x => by rw [vb]; split <;> simp
theorem u8n {n : Nat} (h : n < 256) : (UInt8.ofNat n).toNat = n := by rw [UInt8.toNat_ofNat']; omega
theorem rd_vb (s : ByteArray) (p : Nat) : ∀ (f i u x : Nat), i + f = 9 → x < bd f → (x ≠ 0 ∨ i = 0) → (∀ j, j < (vb f x).length → byteAt s (p + i + j) = ((vb f x).getD j 0).toNat) → p + i + (vb f x).length ≤ s.size →
    rd s p (f + 1) i u = (unf (u + x * 2 ^ (7 * i)), (p : Int) + i + (vb f x).length, 0)
  | 0, i, u, x, hi, hx, h0, hb, hs => by
    have hx2 : x < 2 := hx
    have hl : (vb 0 x).length = 1 := rfl
    have hb0 := hb 0 (by omega)
    have e : byteAt s (p + i) = x := by
      rw [Nat.add_zero] at hb0
      rw [hb0]; show (UInt8.ofNat x).toNat = x; exact u8n (by omega)
    rw [rd, if_neg (by omega), e, if_neg (by omega), if_pos (by omega), if_neg (by omega)]
    rfl
  | f + 1, i, u, x, hi, hx, h0, hb, hs => by
    by_cases hlt : x < 128
    · rw [vb_last (f + 1) hlt] at hb hs ⊢
      have hb0 := hb 0 (by simp)
      have e : byteAt s (p + i) = x := by
        rw [Nat.add_zero] at hb0
        rw [hb0]; show (UInt8.ofNat x).toNat = x; exact u8n (by omega)
      simp only [List.length_singleton] at hs ⊢
      rw [rd, if_neg (by omega), e, if_neg (by omega), if_pos hlt, if_neg (by omega)]
      rfl
    · rw [vb_more f hlt] at hb hs ⊢
      have hb0 := hb 0 (by simp)
      have e : byteAt s (p + i) = x % 128 + 128 := by
        rw [Nat.add_zero] at hb0
        rw [hb0]; show (UInt8.ofNat (x % 128 + 128)).toNat = _; exact u8n (by omega)
      simp only [List.length_cons] at hs ⊢
      have ih := rd_vb s p f (i + 1) (u + (x % 128) * 2 ^ (7 * i)) (x / 128) (by omega) (by
          have : x < 128 * bd f := hx
          omega) (.inl (by omega)) (fun j hj => by
          have := hb (j + 1) (by simp; omega)
          rw [show p + (i + 1) + j = p + i + (j + 1) by omega, this]
          simp) (by omega)
      rw [rd, if_neg (by omega), e, if_neg (by omega), if_neg (by omega), show x % 128 + 128 - 128 = x % 128 by omega, ih]
      have hp : 2 ^ (7 * (i + 1)) = 128 * 2 ^ (7 * i) := by rw [show 7 * (i + 1) = 7 * i + 7 by omega, Nat.pow_add]; omega
      have hm : x % 128 * 2 ^ (7 * i) + x / 128 * 2 ^ (7 * (i + 1)) = x * 2 ^ (7 * i) := by
        rw [hp, ← Nat.mul_assoc, ← Nat.add_mul]
        congr 1
        omega
      rw [Nat.add_assoc, hm]
      congr 2
      push_cast
      omega
theorem rd_short (s : ByteArray) (p : Nat) : ∀ (f i u x : Nat), i + f = 9 → (∀ j, j + 1 < (vb f x).length → byteAt s (p + i + j) = ((vb f x).getD j 0).toNat) → s.size + 1 = p + i + (vb f x).length → rd s p (f + 1) i u = (0, 0, 4)
  | 0, i, u, x, _, _, hs => by
    have hl : (vb 0 x).length = 1 := rfl
    rw [rd, if_pos (by omega)]
  | f + 1, i, u, x, hi, hb, hs => by
    by_cases hlt : x < 128
    · rw [vb_last (f + 1) hlt] at hs
      simp only [List.length_singleton] at hs
      rw [rd, if_pos (by omega)]
    · rw [vb_more f hlt] at hb hs
      simp only [List.length_cons] at hs
      have hp := vb_pos f (x / 128)
      have hb0 := hb 0 (by simp; omega)
      have e : byteAt s (p + i) = x % 128 + 128 := by
        rw [Nat.add_zero] at hb0
        rw [hb0]; show (UInt8.ofNat (x % 128 + 128)).toNat = _; exact u8n (by omega)
      have ih := rd_short s p f (i + 1) (u + (x % 128) * 2 ^ (7 * i)) (x / 128) (by omega) (fun j hj => by
          have := hb (j + 1) (by simp; omega)
          rw [show p + (i + 1) + j = p + i + (j + 1) by omega, this]
          simp) (by omega)
      rw [rd, if_neg (by omega), e, if_neg (by omega), if_neg (by omega), show x % 128 + 128 - 128 = x % 128 by omega, ih]
theorem unf_fold (n : Int) : unf (foldN n) = n := by
  unfold foldN
  split
  · rw [unf_odd (by omega)]; omega
  · rw [unf_even (by omega)]; omega
theorem numB_list (n : Int) : (numB n).data.toList = numL n := by simp [numB]
theorem numB_len (n : Int) : (numB n).size = (numL n).length := by rw [← numB_list]; rfl
theorem numL_pos (n : Int) : 1 ≤ (numL n).length := vb_pos 9 _
theorem getV_num {s : ByteArray} {p : Nat} {n : Int} (hs : s.size ≤ 8000) (h1 : -9223372036854775808 ≤ n) (h2 : n ≤ 9223372036854775807) (hb : ∀ j, j < (numL n).length → byteAt s (p + j) = ((numL n).getD j 0).toNat) (hl : p + (numL n).length ≤ s.size) :
    getV s p = (n, (p : Int) + (numL n).length, 0) := by
  unfold getV
  rw [if_neg (by omega), if_neg (by omega), Int.toNat_natCast, rd_vb s p 9 0 0 (foldN n) (by omega) (by rw [bd9]; exact foldN_lt h1 h2) (.inr rfl) (fun j hj => by rw [Nat.add_zero]; exact hb j hj) (by rw [Nat.add_zero]; exact hl)]
  simp only [Nat.zero_add, Nat.mul_zero, Nat.pow_zero, Nat.mul_one, unf_fold]
  rfl
theorem getV_cut {s : ByteArray} {n : Int} (hs : s.size ≤ 8000) (hb : ∀ j, j + 1 < (numL n).length → byteAt s j = ((numL n).getD j 0).toNat) (hl : s.size + 1 = (numL n).length) :
    getV s 0 = (0, 0, 4) := by
  unfold getV
  rw [if_neg (by omega), if_neg (by omega)]
  exact rd_short s 0 9 0 0 (foldN n) (by omega) (fun j hj => by simpa [numL] using hb j hj) (by simpa [numL] using hl)
theorem app_list (a b : ByteArray) : (a ++ b).data.toList = a.data.toList ++ b.data.toList := by simp
/-- "xy", the number's bytes, "z": from place 2 on -/
theorem num_back (n : Int) (h1 : -9223372036854775808 ≤ n) (h2 : n ≤ 9223372036854775807) : getV (⟨#[120, 121]⟩ ++ numB n ++ ⟨#[122]⟩) 2 = (n, ((numB n).size : Int) + 2, 0) := by
  have hz := numB_size n
  have hl : (⟨#[120, 121]⟩ ++ numB n ++ ⟨#[122]⟩ : ByteArray).data.toList = [120, 121] ++ numL n ++ [122] := by rw [app_list, app_list, numB_list]
  have hsz : (⟨#[120, 121]⟩ ++ numB n ++ ⟨#[122]⟩ : ByteArray).size = (numL n).length + 3 := by
    show (⟨#[120, 121]⟩ ++ numB n ++ ⟨#[122]⟩ : ByteArray).data.toList.length = _
    rw [hl]; simp
  have hnl := numB_len n
  have := getV_num (s := ⟨#[120, 121]⟩ ++ numB n ++ ⟨#[122]⟩) (p := 2) (n := n) (by omega) h1 h2 (fun j hj => by
    rw [byteAt_list, hl, List.getD_eq_getElem?_getD, List.getD_eq_getElem?_getD, List.append_assoc, List.getElem?_append_right (by simp), List.getElem?_append_left (by simpa using hj)]
    simp) (by omega)
  rw [show ((2 : Nat) : Int) = 2 from rfl] at this
  rw [this, hnl]
  congr 2
  omega
theorem cut_list (s : ByteArray) (i : Nat) : (s.extract 0 i).data.toList = s.data.toList.take i := by simp [ByteArray.data_extract]
theorem cut_size {s : ByteArray} {i : Nat} (h : i ≤ s.size) : (s.extract 0 i).size = i := by simp [ByteArray.size_extract]; omega
theorem cut_at {s : ByteArray} {i j : Nat} (h : j < i) : byteAt (s.extract 0 i) j = (s.data.toList.getD j 0).toNat := by
  rw [byteAt_list, cut_list, List.getD_eq_getElem?_getD, List.getD_eq_getElem?_getD, List.getElem?_take, if_pos h]
theorem num_short (n : Int) : (getV ((numB n).extract 0 ((numB n).size - 1)) 0).2.2 = 4 := by
  have hz := numB_size n
  have hnl := numB_len n
  have hp := numL_pos n
  have hc := cut_size (s := numB n) (i := (numB n).size - 1) (by omega)
  rw [getV_cut (n := n) (by omega) (fun j hj => by rw [cut_at (by omega), numB_list]) (by omega)]
/-- "x", the text's bytes: from place 1 on -/
theorem text_back (U : ByteArray) (h8 : (numB U.size ++ U).size + 1 ≤ 8000) : textV (⟨#[120]⟩ ++ (numB U.size ++ U)) 1 = (U, ((numB U.size ++ U).size : Int) + 1, 0) := by
  have hnl := numB_len U.size
  have hp := numL_pos U.size
  have hsz0 : (numB U.size ++ U).size = (numL U.size).length + U.size := by rw [ByteArray.size_append, hnl]
  have hl : (⟨#[120]⟩ ++ (numB U.size ++ U) : ByteArray).data.toList = [120] ++ (numL U.size ++ U.data.toList) := by rw [app_list, app_list, numB_list]
  have hsz : (⟨#[120]⟩ ++ (numB U.size ++ U) : ByteArray).size = (numL U.size).length + U.size + 1 := by
    rw [ByteArray.size_append, hsz0]
    show 1 + _ = _
    omega
  have hg := getV_num (s := ⟨#[120]⟩ ++ (numB U.size ++ U)) (p := 1) (n := U.size) (by omega) (by omega) (by omega) (fun j hj => by
    rw [byteAt_list, hl, List.getD_eq_getElem?_getD, List.getD_eq_getElem?_getD, List.getElem?_append_right (by simp), List.getElem?_append_left (by simpa using hj)]
    simp) (by omega)
  unfold textV
  rw [show ((1 : Nat) : Int) = 1 from rfl] at hg
  rw [hg]
  simp only [ne_eq, not_true_eq_false, if_false]
  rw [if_neg (by omega), if_neg (by omega)]
  have e1 : ((1 : Int) + ((numL U.size).length : Nat)).toNat = 1 + (numL U.size).length := by omega
  rw [e1, Int.toNat_natCast]
  have hx : (⟨#[120]⟩ ++ (numB U.size ++ U) : ByteArray).extract (1 + (numL U.size).length) (1 + (numL U.size).length + U.size) = U := by
    apply ByteArray.ext
    apply Array.ext'
    have hul : U.data.toList.length = U.size := rfl
    rw [ByteArray.data_extract, Array.toList_extract, hl, List.extract_eq_take_drop]
    rw [← List.append_assoc, List.drop_left' (by simp; omega), List.take_of_length_le (by omega)]
  rw [hx, hsz0]
  congr 2
  push_cast
  omega
theorem text_short (U : ByteArray) (h8 : (numB U.size ++ U).size ≤ 8000) : (textV ((numB U.size ++ U).extract 0 ((numB U.size ++ U).size - 1)) 0).2.2 = 4 := by
  have hnl := numB_len U.size
  have hp := numL_pos U.size
  have hsz0 : (numB U.size ++ U).size = (numL U.size).length + U.size := by rw [ByteArray.size_append, hnl]
  have hc := cut_size (s := numB U.size ++ U) (i := (numB U.size ++ U).size - 1) (by omega)
  have hl : (numB U.size ++ U).data.toList = numL U.size ++ U.data.toList := by rw [app_list, numB_list]
  have hat : ∀ j, j < (numL U.size).length → ((numB U.size ++ U).data.toList.getD j 0) = (numL U.size).getD j 0 := fun j hj => by
    rw [hl, List.getD_eq_getElem?_getD, List.getD_eq_getElem?_getD, List.getElem?_append_left hj]
  by_cases h0 : U.size = 0
  · have hg := getV_cut (s := (numB U.size ++ U).extract 0 ((numB U.size ++ U).size - 1)) (n := U.size) (by omega) (fun j hj => by rw [cut_at (by omega), hat j (by omega)]) (by omega)
    unfold textV
    rw [hg, if_pos (by simp)]
  · have hg := getV_num (s := (numB U.size ++ U).extract 0 ((numB U.size ++ U).size - 1)) (p := 0) (n := U.size) (by omega) (by omega) (by omega) (fun j hj => by rw [Nat.zero_add, cut_at (by omega), hat j hj]) (by omega)
    rw [show ((0 : Nat) : Int) = 0 from rfl] at hg
    unfold textV
    rw [hg]
    simp only [ne_eq, not_true_eq_false, if_false]
    rw [if_neg (by omega), hc, if_pos (by omega)]
end Go.Proofs.YtemfobhfejmboaaDoor.back
