/-
  What is put in and erased, erased and put in, exchanged twice: the line as it was. Answers that are right leave a right line. Own work.
-/
import Derived.Test.YtdkdkdbdnfhonaaDoorErase
import Derived.Test.YtdkdkdbdnfhonaaDoorSwap
import Derived.Test.YtdkdkdbdnfhonaaDoorCase
namespace Go.Proofs.YtdkdkdbdnfhonaaDoor.line
open Go.ChangeShapes Go.WideShapes Go.ChangeAt Go.RowKit
theorem bytes_ext {a b : ByteArray} (h : a.data.toList = b.data.toList) : a = b := ByteArray.ext (Array.ext' h)
theorem len_list (s : ByteArray) : s.data.toList.length = s.size := rfl
theorem ext_list (s : ByteArray) (i j : Nat) : (s.extract i j).data.toList = (s.data.toList.drop i).take (j - i) := by
  rw [ByteArray.data_extract, Array.toList_extract, List.extract_eq_take_drop]
theorem textB_all {s : ByteArray} : textB s = true ↔ s.size ≤ 60 ∧ ∀ b ∈ s.data.toList, printN b.toNat = true := by
  constructor
  · intro h
    obtain ⟨h1, h2⟩ := textB_ok h
    refine ⟨h1, fun b hb => ?_⟩
    obtain ⟨i, hi, rfl⟩ := List.getElem_of_mem hb
    exact h2 i hi hi
  · rintro ⟨h1, h2⟩
    exact textB_t ⟨h1, fun i hi _ => h2 _ (List.getElem_mem (l := s.data.toList) hi)⟩
theorem lineB_all {s : ByteArray} {a : Int} : lineB s a = true ↔ textB s = true ∧ 0 ≤ a ∧ a ≤ s.size := by
  simp [lineB, Bool.and_eq_true, decide_eq_true_eq]
theorem insL (s t : ByteArray) (k : Nat) : (insT s t k).data.toList = s.data.toList.take k ++ t.data.toList ++ s.data.toList.drop k := by
  unfold insT
  rw [ByteArray.data_append, ByteArray.data_append, Array.toList_append, Array.toList_append, ext_list, ext_list, List.drop_zero, Nat.sub_zero, List.take_of_length_le (l := s.data.toList.drop k) (by rw [List.length_drop, len_list]; omega)]
theorem eraL (s : ByteArray) (f t : Nat) : (eraT s f t).data.toList = s.data.toList.take f ++ s.data.toList.drop t := by
  unfold eraT
  rw [ByteArray.data_append, Array.toList_append, ext_list, ext_list, List.drop_zero, Nat.sub_zero, List.take_of_length_le (l := s.data.toList.drop t) (by rw [List.length_drop, len_list]; omega)]
theorem ins_size (s t : ByteArray) (k : Nat) (hk : k ≤ s.size) : (insT s t k).size = s.size + t.size := by
  rw [← len_list, insL]
  have := len_list s
  have := len_list t
  simp only [List.length_append, List.length_take, List.length_drop]
  omega
theorem era_size (s : ByteArray) (f t : Nat) (hf : f ≤ t) (ht : t ≤ s.size) : (eraT s f t).size = s.size - (t - f) := by
  rw [← len_list, eraL]
  have := len_list s
  simp only [List.length_append, List.length_take, List.length_drop]
  omega
theorem era_ins (s t : ByteArray) (k : Nat) (hk : k ≤ s.size) : eraT (insT s t k) k (k + t.size) = s ∧ (insT s t k).extract k (k + t.size) = t := by
  have hl := len_list s
  have ht := len_list t
  have h1 : (s.data.toList.take k).length = k := by rw [List.length_take]; omega
  constructor
  · apply bytes_ext
    rw [eraL, insL, List.append_assoc, List.take_append_of_le_length (by omega), List.take_of_length_le (by omega), ← List.drop_drop, List.drop_append_of_le_length (l₁ := s.data.toList.take k) (by omega), List.drop_of_length_le (l := s.data.toList.take k) (by omega), List.nil_append,
      List.drop_append_of_le_length (by omega), List.drop_of_length_le (l := t.data.toList) (by omega), List.nil_append, List.take_append_drop]
  · apply bytes_ext
    rw [ext_list, insL, List.append_assoc, List.drop_append_of_le_length (l₁ := s.data.toList.take k) (by omega), List.drop_of_length_le (l := s.data.toList.take k) (by omega), List.nil_append, Nat.add_sub_cancel_left, List.take_append_of_le_length (by omega), List.take_of_length_le (by omega)]
theorem ins_era (s : ByteArray) (f t : Nat) (hf : f ≤ t) (ht : t ≤ s.size) : insT (eraT s f t) (s.extract f t) f = s := by
  have hl := len_list s
  have h1 : (s.data.toList.take f).length = f := by rw [List.length_take]; omega
  apply bytes_ext
  rw [insL, eraL, ext_list, List.take_append_of_le_length (by omega), List.take_of_length_le (by omega), List.drop_append_of_le_length (l₁ := s.data.toList.take f) (by omega), List.drop_of_length_le (l := s.data.toList.take f) (by omega), List.nil_append, List.append_assoc]
  have e : (s.data.toList.drop f).take (t - f) ++ s.data.toList.drop t = s.data.toList.drop f := by
    have := List.take_append_drop (t - f) (s.data.toList.drop f)
    rwa [List.drop_drop, show f + (t - f) = t by omega] at this
  rw [e, List.take_append_drop]
theorem ins_text {s t : ByteArray} (k : Nat) (hk : k ≤ s.size) (hs : textB s = true) (ht : textB t = true) (h6 : s.size + t.size ≤ 60) : textB (insT s t k) = true := by
  rw [textB_all] at *
  refine ⟨by rw [ins_size s t k hk]; exact h6, fun b hb => ?_⟩
  rw [insL] at hb
  simp only [List.mem_append] at hb
  rcases hb with (hb | hb) | hb
  · exact hs.2 b (List.mem_of_mem_take hb)
  · exact ht.2 b hb
  · exact hs.2 b (List.mem_of_mem_drop hb)
theorem era_text {s : ByteArray} (f t : Nat) (hf : f ≤ t) (ht : t ≤ s.size) (hs : textB s = true) : textB (eraT s f t) = true ∧ textB (s.extract f t) = true := by
  rw [textB_all] at hs
  have hl := len_list s
  constructor
  · rw [textB_all]
    refine ⟨by rw [era_size s f t hf ht]; omega, fun b hb => ?_⟩
    rw [eraL] at hb
    rcases List.mem_append.1 hb with hb | hb
    · exact hs.2 b (List.mem_of_mem_take hb)
    · exact hs.2 b (List.mem_of_mem_drop hb)
  · rw [textB_all]
    refine ⟨by rw [ByteArray.size_extract]; omega, fun b hb => ?_⟩
    rw [ext_list] at hb
    exact hs.2 b (List.mem_of_mem_drop (List.mem_of_mem_take hb))
theorem ill_ne {c : Int} (hc : c ≠ 0) {x : ByteArray} {i : Int} {g : ByteArray} (h : illV c = .agg #[.string x, .int .i64 i, .string g, .int .i64 0]) : False := by
  unfold illV at h
  injection h with h
  have h2 := congrArg Array.toList h
  simp at h2
  exact hc h2.2.2.2
theorem agg4 {x y : ByteArray} {i j : Int} {g h : ByteArray} {c d : Int} (e : Value.agg #[.string x, .int .i64 i, .string g, .int .i64 c] = .agg #[.string y, .int .i64 j, .string h, .int .i64 d]) : x = y ∧ i = j ∧ g = h ∧ c = d := by
  injection e with e
  have h2 := congrArg Array.toList e
  simpa using h2
theorem insV_ok {s : ByteArray} {a : Int} {t x : ByteArray} {i : Int} {g : ByteArray} (h : insV s a t = .agg #[.string x, .int .i64 i, .string g, .int .i64 0]) :
    ∃ k : Nat, a = k ∧ k ≤ s.size ∧ textB s = true ∧ textB t = true ∧ s.size + t.size ≤ 60 ∧ x = insT s t k ∧ i = ((k + t.size : Nat) : Int) ∧ g = ⟨#[]⟩ := by
  unfold insV at h
  split at h
  · exact (ill_ne (by decide) h).elim
  · split at h
    · exact (ill_ne (by decide) h).elim
    · rename_i hn
      split at h
      · exact (ill_ne (by decide) h).elim
      · obtain ⟨h1, h2, h3, _⟩ := agg4 h
        simp only [not_or, Bool.not_eq_false] at hn
        obtain ⟨hl, ht⟩ := hn
        obtain ⟨l1, l2, l3⟩ := lineB_all.1 hl
        refine ⟨a.toNat, by omega, by omega, l1, ht, by omega, h1.symm, by omega, h3.symm⟩
theorem insV_line {s : ByteArray} {a : Int} {t x : ByteArray} {i : Int} {g : ByteArray} (h : insV s a t = .agg #[.string x, .int .i64 i, .string g, .int .i64 0]) : lineB x i = true := by
  obtain ⟨k, rfl, hk, hs, ht, h6, rfl, rfl, rfl⟩ := insV_ok h
  have := ins_size s t k hk
  exact lineB_all.2 ⟨ins_text k hk hs ht h6, by omega, by omega⟩
/-- what was put in, and is erased -/
theorem insV_back {s : ByteArray} {a : Int} {t x : ByteArray} {i : Int} {g : ByteArray} (h : insV s a t = .agg #[.string x, .int .i64 i, .string g, .int .i64 0]) :
    eraV x i a i = .agg #[.string s, .int .i64 a, .string t, .int .i64 0] := by
  have hl := insV_line h
  obtain ⟨k, rfl, hk, hs, ht, h6, rfl, rfl, rfl⟩ := insV_ok h
  have hz := ins_size s t k hk
  obtain ⟨e1, e2⟩ := era_ins s t k hk
  unfold eraV
  have ha : newAt ((k + t.size : Nat) : Int) (k : Int) ((k + t.size : Nat) : Int) = k := by
    unfold newAt; rw [if_neg (by omega)]; split <;> omega
  rw [if_neg (by rw [hl]; decide), if_pos (by omega)]
  unfold eraOk
  simp only [Int.toNat_natCast]
  rw [e1, e2, ha]
theorem eraV_ok {s : ByteArray} {a f t : Int} {x : ByteArray} {i : Int} {g : ByteArray} (h : eraV s a f t = .agg #[.string x, .int .i64 i, .string g, .int .i64 0]) :
    ∃ k m n : Nat, a = k ∧ f = m ∧ t = n ∧ k ≤ s.size ∧ m ≤ n ∧ n ≤ s.size ∧ textB s = true ∧ x = eraT s m n ∧ i = newAt k m n ∧ g = s.extract m n := by
  unfold eraV at h
  split at h
  · exact (ill_ne (by decide) h).elim
  · rename_i hl
    rw [Bool.not_eq_false] at hl
    obtain ⟨l1, l2, l3⟩ := lineB_all.1 hl
    split at h
    · rename_i hb
      unfold eraOk at h
      obtain ⟨h1, h2, h3, _⟩ := agg4 h
      exact ⟨a.toNat, f.toNat, t.toNat, by omega, by omega, by omega, by omega, by omega, by omega, l1, h1.symm, h2.symm, h3.symm⟩
    · exact (ill_ne (by decide) h).elim
theorem eraV_line {s : ByteArray} {a f t : Int} {x : ByteArray} {i : Int} {g : ByteArray} (h : eraV s a f t = .agg #[.string x, .int .i64 i, .string g, .int .i64 0]) : lineB x i = true := by
  obtain ⟨k, m, n, rfl, rfl, rfl, hk, hmn, hn, hs, rfl, rfl, rfl⟩ := eraV_ok h
  have := era_size s m n hmn hn
  refine lineB_all.2 ⟨(era_text m n hmn hn hs).1, ?_, ?_⟩
  · unfold newAt; split
    · omega
    · split <;> omega
  · unfold newAt; split
    · omega
    · split <;> omega
/-- what was erased, and is put in -/
theorem eraV_back {s : ByteArray} {a f t : Int} {x : ByteArray} {i : Int} {g : ByteArray} (h : eraV s a f t = .agg #[.string x, .int .i64 i, .string g, .int .i64 0]) :
    ∃ (j : Int) (e : ByteArray) (c : Int), insV x f g = .agg #[.string s, .int .i64 j, .string e, .int .i64 c] := by
  obtain ⟨k, m, n, rfl, rfl, rfl, hk, hmn, hn, hs, rfl, rfl, rfl⟩ := eraV_ok h
  have hz := era_size s m n hmn hn
  obtain ⟨t1, t2⟩ := era_text m n hmn hn hs
  have h6 := (textB_all.1 hs).1
  have hg : (s.extract m n).size = n - m := by rw [ByteArray.size_extract]; omega
  have hl : lineB (eraT s m n) (m : Int) = true := lineB_all.2 ⟨t1, by omega, by omega⟩
  unfold insV
  rw [if_neg (by omega), if_neg (by rw [hl, t2]; decide), if_neg (by omega)]
  simp only [Int.toNat_natCast]
  rw [ins_era s m n hmn hn]
  exact ⟨_, _, _, rfl⟩
theorem sw_size (s : ByteArray) (m : Nat) : (swT s m).size = s.size := by
  show (swL s.data.toList m).toArray.size = _
  rw [List.size_toArray, swL_len]; rfl
theorem swL_at (l : List UInt8) (m i : Nat) (hm : m + 1 < l.length) : (swL l m)[i]? = if i = m + 1 then l[m]? else if i = m then l[m + 1]? else l[i]? := by
  unfold swL
  by_cases e1 : i = m + 1
  · subst e1
    rw [if_pos rfl, List.getElem?_set_self (by rw [List.length_set]; omega), List.getD_eq_getElem?_getD, List.getElem?_eq_getElem (by omega)]; rfl
  · rw [if_neg e1, List.getElem?_set_ne (by omega)]
    by_cases e2 : i = m
    · subst e2
      rw [if_pos rfl, List.getElem?_set_self (by omega), List.getD_eq_getElem?_getD, List.getElem?_eq_getElem hm]; rfl
    · rw [if_neg e2, List.getElem?_set_ne (by omega)]
theorem sw_two (l : List UInt8) (m : Nat) (hm : m + 1 < l.length) : swL (swL l m) m = l := by
  apply List.ext_getElem?
  intro i
  have hm2 : m + 1 < (swL l m).length := by rw [swL_len]; exact hm
  rw [swL_at (swL l m) m i hm2]
  by_cases e1 : i = m + 1
  · subst e1
    rw [if_pos rfl, swL_at l m m hm, if_neg (by omega), if_pos rfl]
  · rw [if_neg e1]
    by_cases e2 : i = m
    · subst e2
      rw [if_pos rfl, swL_at l i (i + 1) hm, if_pos rfl]
    · rw [if_neg e2, swL_at l m i hm, if_neg e1, if_neg e2]
theorem sw_text {s : ByteArray} (m : Nat) (hm : m + 1 < s.size) (hs : textB s = true) : textB (swT s m) = true := by
  rw [textB_all] at *
  refine ⟨by rw [sw_size]; exact hs.1, fun b hb => ?_⟩
  have hb2 : b ∈ swL s.data.toList m := hb
  have hl := len_list s
  have g1 : s.data.toList.getD (m + 1) 0 ∈ s.data.toList := by rw [List.getD_eq_getElem?_getD, List.getElem?_eq_getElem (by omega)]; exact List.getElem_mem _
  have g2 : s.data.toList.getD m 0 ∈ s.data.toList := by rw [List.getD_eq_getElem?_getD, List.getElem?_eq_getElem (by omega)]; exact List.getElem_mem _
  unfold swL at hb2
  rcases List.mem_or_eq_of_mem_set hb2 with hb3 | rfl
  · rcases List.mem_or_eq_of_mem_set hb3 with hb4 | rfl
    · exact hs.2 b hb4
    · exact hs.2 _ g1
  · exact hs.2 _ g2
theorem swV_ok {s : ByteArray} {a : Int} {x : ByteArray} {i : Int} {g : ByteArray} (h : swV s a = .agg #[.string x, .int .i64 i, .string g, .int .i64 0]) :
    ∃ m : Nat, m + 1 < s.size ∧ textB s = true ∧ x = swT s m ∧ i = (m : Int) + 2 := by
  unfold swV at h
  split at h
  · exact (ill_ne (by decide) h).elim
  · rename_i hl
    rw [Bool.not_eq_false] at hl
    obtain ⟨l1, l2, l3⟩ := lineB_all.1 hl
    split at h
    · exact (ill_ne (by decide) h).elim
    · obtain ⟨h1, h2, _, _⟩ := agg4 h
      refine ⟨swAt s a.toNat, ?_, l1, h1.symm, h2.symm⟩
      unfold swAt
      split <;> omega
theorem swV_line {s : ByteArray} {a : Int} {x : ByteArray} {i : Int} {g : ByteArray} (h : swV s a = .agg #[.string x, .int .i64 i, .string g, .int .i64 0]) : lineB x i = true := by
  obtain ⟨m, hm, hs, rfl, rfl⟩ := swV_ok h
  have := sw_size s m
  exact lineB_all.2 ⟨sw_text m hm hs, by omega, by omega⟩
/-- two bytes that change places, and change them again -/
theorem swV_back {s : ByteArray} {a : Int} {x : ByteArray} {i : Int} {g : ByteArray} (h : swV s a = .agg #[.string x, .int .i64 i, .string g, .int .i64 0]) :
    ∃ (j : Int) (e : ByteArray) (c : Int), swV x (i - 1) = .agg #[.string s, .int .i64 j, .string e, .int .i64 c] := by
  obtain ⟨m, hm, hs, rfl, rfl⟩ := swV_ok h
  have hz := sw_size s m
  have hl : lineB (swT s m) ((m : Int) + 2 - 1) = true := lineB_all.2 ⟨sw_text m hm hs, by omega, by omega⟩
  have hat : swAt (swT s m) ((m : Int) + 2 - 1).toNat = m := by
    unfold swAt
    rw [hz]
    split <;> omega
  have hT : swT (swT s m) m = s := bytes_ext (sw_two s.data.toList m hm)
  unfold swV
  rw [if_neg (by rw [hl]; decide), if_neg (by omega), hat, hT]
  exact ⟨_, _, _, rfl⟩
theorem case_size (u : Bool) (s : ByteArray) (a t : Nat) : (caseT u s a t).size = s.size := by
  show ((List.range s.size).map _).toArray.size = _
  rw [List.size_toArray, List.length_map, List.length_range]
theorem cN_print (u : Bool) (n : Nat) (h : printN n = true) : printN (cN u n) = true := by
  unfold printN at *
  simp only [Bool.and_eq_true, decide_eq_true_eq] at *
  unfold cN
  split <;> split <;> omega
theorem case_text {u : Bool} {s : ByteArray} (a t : Nat) (hs : textB s = true) : textB (caseT u s a t) = true := by
  rw [textB_all] at *
  refine ⟨by rw [case_size]; exact hs.1, fun b hb => ?_⟩
  have hb2 : b ∈ (List.range s.size).map fun j => UInt8.ofNat (rv u s a t j) := hb
  obtain ⟨j, hj, rfl⟩ := List.mem_map.1 hb2
  have hj2 := List.mem_range.1 hj
  have hp : printN (byteAt s j) = true := by
    rw [byteAt_eq hj2]
    exact hs.2 _ (List.getElem_mem (l := s.data.toList) hj2)
  have hlt := rv_lt u s a t j
  rw [show (UInt8.ofNat (rv u s a t j)).toNat = rv u s a t j by rw [UInt8.toNat_ofNat']; omega]
  unfold rv
  split
  · exact cN_print u _ hp
  · exact hp
theorem caseV_ok {s : ByteArray} {a : Int} {u : Bool} {x : ByteArray} {i : Int} {g : ByteArray} (h : caseV s a u = .agg #[.string x, .int .i64 i, .string g, .int .i64 0]) :
    x.size = s.size ∧ a < i ∧ lineB x i = true := by
  unfold caseV at h
  split at h
  · exact (ill_ne (by decide) h).elim
  · rename_i hl
    rw [Bool.not_eq_false] at hl
    obtain ⟨l1, l2, l3⟩ := lineB_all.1 hl
    split at h
    · exact (ill_ne (by decide) h).elim
    · unfold caseOk at h
      obtain ⟨rfl, rfl, _, _⟩ := agg4 h
      have ho := onN_le s a.toNat (by omega)
      have hz := case_size u s a.toNat (onN s a.toNat)
      exact ⟨hz, by omega, lineB_all.2 ⟨case_text _ _ l1, by omega, by omega⟩⟩
end Go.Proofs.YtdkdkdbdnfhonaaDoor.line
