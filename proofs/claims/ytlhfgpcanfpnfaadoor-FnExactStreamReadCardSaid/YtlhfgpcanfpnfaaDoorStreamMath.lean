/-
  The frames of which a stream is the text: plain lemmas.
-/
import Derived.Test.YtlhfgpcanfpnfaaDoorStreamSpec
import Derived.Test.YtlhfgpcanfpnfaaDoorCut
namespace Go.Proofs.YtlhfgpcanfpnfaaDoor.frames
open Go.ChangeShapes Go.WideShapes Go.ChangeAt Go.RowKit Go.Deep
open Go.Proofs.YtlhfgpcanfpnfaaDoor.strs Go.Proofs.YtlhfgpcanfpnfaaDoor.frame Go.Proofs.YtlhfgpcanfpnfaaDoor.line
theorem decS_lf : ∀ n < 61, (decS n).all (fun x => x != 10) = true := by decide +kernel
theorem dec_lf {a : Int} (h : plB a = true) : ∀ x ∈ dec a, x ≠ 10 := by
  obtain ⟨h0, h1⟩ := plB_t h
  obtain ⟨n, rfl⟩ := Int.eq_ofNat_of_zero_le h0
  have h2 := decS_lf n (by omega)
  rw [dec_decS (by omega)]
  exact fun x hx => by simpa using List.all_eq_true.1 h2 x hx
theorem words_lf : ∀ w ∈ [putL, dropL, moveL, allL, sayL, bellL, doneL], ∀ x ∈ w, x ≠ 10 := by decide
theorem text_lf {t : ByteArray} (h : Pr t t.size) : ∀ x ∈ t.data.toList, x ≠ 10 := fun x hx e => by
  obtain ⟨i, hi, hx2⟩ := List.getElem_of_mem hx
  have hs : i < t.size := hi
  have := printN_iff.1 (h i hs hs)
  have e2 : t[i] = x := by rw [← hx2]; simp; rfl
  rw [e2, e] at this
  exact absurd this.1 (by decide)
theorem frL_lf {k a : Int} {t : ByteArray} (h : frB k a t = true) : ∀ x ∈ frL k a t, x ≠ 10 := by
  obtain ⟨h1, h7, hp, hz, _, hpr⟩ := frB_facts h
  have ht := text_lf hpr
  have T : ∀ w, w ∈ [putL, dropL, moveL, allL, sayL, bellL, doneL] → ∀ r : List UInt8, (∀ x ∈ r, x ≠ 10) → ∀ x ∈ w ++ 32 :: r, x ≠ 10 := fun w hw r hr x hx => by
    rcases List.mem_append.1 hx with h | h
    · exact words_lf w hw x h
    · rcases List.mem_cons.1 h with rfl | h
      · decide
      · exact hr x h
  have D : plB a = true → ∀ x ∈ dec a ++ 32 :: t.data.toList, x ≠ 10 := fun hpl x hx => by
    rcases List.mem_append.1 hx with h | h
    · exact dec_lf hpl x h
    · rcases List.mem_cons.1 h with rfl | h
      · decide
      · exact ht x h
  unfold frL
  split
  · exact T _ (by simp) _ (D (hp (by omega)))
  split
  · exact T _ (by simp) _ (D (hp (by omega)))
  split
  · exact T _ (by simp) _ (dec_lf (hp (by omega)))
  split
  · exact T _ (by simp) _ (D (hp (by omega)))
  split
  · exact T _ (by simp) _ ht
  split
  · exact words_lf _ (by simp)
  · exact T _ (by simp) _ ht
theorem strL_nil : strL [] = [] := rfl
theorem strL_cons (f : FT) (r : List FT) : strL (f :: r) = frL f.1 f.2.1 f.2.2 ++ 10 :: strL r := by simp [strL, oneL]
theorem strL_app (a b : List FT) : strL (a ++ b) = strL a ++ strL b := by simp [strL]
theorem cut_cons {f : FT} (h : frF f = true) (r : List UInt8) : cutA 10 (frL f.1 f.2.1 f.2.2 ++ 10 :: r) = (frL f.1 f.2.1 f.2.2, r, true) := cutA_hit r (frL_lf h)
theorem read_text {f : FT} (h : frF f = true) : readV (bA (frL f.1 f.2.1 f.2.2)) = some f := readV_of (f := f) h
theorem same_head {f g : FT} (hf : frF f = true) (hg : frF g = true) (h : frL f.1 f.2.1 f.2.2 = frL g.1 g.2.1 g.2.2) : f = g := by
  have h1 := read_text hf
  rw [h, read_text hg] at h1
  exact (Option.some.inj h1).symm
/-- what begins with the text of right frames begins with these frames -/
theorem strL_prefix : ∀ {L l : List FT} {R : List UInt8}, (∀ f ∈ L, frF f = true) → (∀ f ∈ l, frF f = true) → strL l = strL L ++ R → ∃ l', l = L ++ l' ∧ strL l' = R
  | [], l, R, _, _, h => ⟨l, rfl, by simpa [strL_nil] using h⟩
  | f :: L, [], R, _, _, h => by
    rw [strL_cons, strL_nil] at h
    simp at h
  | f :: L, g :: l, R, hL, hl, h => by
    rw [strL_cons, strL_cons, List.append_assoc, List.cons_append] at h
    have hf := hL f List.mem_cons_self
    have hg := hl g List.mem_cons_self
    have e := cut_cons hg (strL l)
    rw [h, cut_cons hf] at e
    obtain rfl := same_head hf hg (Prod.mk.inj e).1
    have e2 := (Prod.mk.inj (Prod.mk.inj e).2).1
    obtain ⟨l', h1, h2⟩ := strL_prefix (fun x hx => hL x (List.mem_cons_of_mem _ hx)) (fun x hx => hl x (List.mem_cons_of_mem _ hx)) e2.symm
    exact ⟨l', by rw [h1]; rfl, h2⟩
theorem strL_inj {l L : List FT} (hl : ∀ f ∈ l, frF f = true) (hL : ∀ f ∈ L, frF f = true) (h : strL l = strL L) : l = L := by
  obtain ⟨l', h1, h2⟩ := strL_prefix (R := []) hL hl (by simpa using h)
  rcases l' with _ | ⟨f, l'⟩
  · simpa using h1
  · rw [strL_cons] at h2
    simp at h2
/-- a right list of frames, of which this is the text -/
def Is (s : ByteArray) (l : List FT) : Prop := l.length ≤ 400 ∧ (∀ f ∈ l, frF f = true) ∧ strL l = s.data.toList
noncomputable def strRd (s : ByteArray) : List FT × Int := open Classical in if 8000 < s.size then ([], 2) else if h : ∃ l, Is s l then (h.choose, 0) else ([], 3)
theorem strRd_big {s : ByteArray} (h : 8000 < s.size) : strRd s = ([], 2) := by unfold strRd; rw [if_pos h]
theorem strRd_is {s : ByteArray} (h8 : ¬ 8000 < s.size) {l : List FT} (h : Is s l) : strRd s = (l, 0) := by
  have hx : ∃ l, Is s l := ⟨l, h⟩
  unfold strRd
  rw [if_neg h8, dif_pos hx]
  have h2 := hx.choose_spec
  rw [strL_inj h2.2.1 h.2.1 (h2.2.2.trans h.2.2.symm)]
theorem strRd_no {s : ByteArray} (h8 : ¬ 8000 < s.size) (h : ∀ l, ¬ Is s l) : strRd s = ([], 3) := by
  unfold strRd
  rw [if_neg h8, dif_neg (fun ⟨l, hl⟩ => h l hl)]
/-- so far: these frames are read, this is left -/
structure So (s : ByteArray) (L : List FT) (R : List UInt8) : Prop where
  len : L.length ≤ 400
  right : ∀ f ∈ L, frF f = true
  text : s.data.toList = strL L ++ R
theorem So.start (s : ByteArray) : So s [] s.data.toList := ⟨by simp, fun f h => absurd h List.not_mem_nil, by simp [strL_nil]⟩
theorem So.step {s : ByteArray} {L : List FT} {R : List UInt8} (h : So s L R) {f : FT} (hc : (cutA 10 R).2.2 = true) (hr : readV (bA (cutA 10 R).1) = some f) (hl : L.length < 400) : So s (L ++ [f]) (cutA 10 R).2.1 := by
  obtain ⟨h1, h2⟩ := readV_some hr
  have e := (cutA_true hc).1
  have ht : frL f.1 f.2.1 f.2.2 = (cutA 10 R).1 := by
    have := congrArg (fun b : ByteArray => b.data.toList) h2
    simpa [textF, frS, bA] using this
  refine ⟨by simp; omega, fun g hg => ?_, ?_⟩
  · rcases List.mem_append.1 hg with hg | hg
    · exact h.right g hg
    · obtain rfl := List.mem_singleton.1 hg
      exact h1
  · rw [h.text, strL_app, strL_cons, strL_nil, ht, List.append_assoc, List.append_assoc]
    congr 1
theorem So.done {s : ByteArray} {L : List FT} (h : So s L []) (h8 : ¬ 8000 < s.size) : strRd s = (L, 0) := strRd_is h8 ⟨h.len, h.right, by rw [h.text]; simp⟩
theorem So.bad {s : ByteArray} {L : List FT} {R : List UInt8} (h : So s L R) (h8 : ¬ 8000 < s.size) (hR : R ≠ []) (hb : (cutA 10 R).2.2 = false ∨ readV (bA (cutA 10 R).1) = none ∨ L.length = 400) : strRd s = ([], 3) := by
  refine strRd_no h8 fun l ⟨h1, h2, h3⟩ => ?_
  obtain ⟨l', e1, e2⟩ := strL_prefix h.right h2 (h3.trans h.text)
  rcases l' with _ | ⟨f, l'⟩
  · exact hR e2.symm
  · have hf : frF f = true := h2 f (by rw [e1]; simp)
    rw [strL_cons] at e2
    rw [← e2, cut_cons hf, read_text hf] at hb
    rcases hb with hb | hb | hb
    · cases hb
    · cases hb
    · rw [e1] at h1
      simp at h1
      omega
theorem So.rest {s : ByteArray} {L : List FT} {R : List UInt8} (h : So s L R) : R.length ≤ s.size := by
  have : s.data.toList.length = s.size := rfl
  rw [h.text, List.length_append] at this
  omega
/-! ### the lines of a text -/
def splitV : Nat → List UInt8 → List (List UInt8)
  | 0, l => [l]
  | n + 1, l => if (cutA 10 l).2.2 then (cutA 10 l).1 :: splitV n (cutA 10 l).2.1 else [l]
theorem split_str : ∀ {l : List FT} {n : Nat}, (∀ f ∈ l, frF f = true) → l.length ≤ n → splitV n (strL l) = (l.map fun f => frL f.1 f.2.1 f.2.2) ++ [[]]
  | [], n, _, _ => by
    cases n with
    | zero => rfl
    | succ n => simp [splitV, strL_nil, cutA]
  | f :: l, 0, _, h => by simp at h
  | f :: l, n + 1, hr, h => by
    have ih := split_str (l := l) (n := n) (fun g hg => hr g (List.mem_cons_of_mem _ hg)) (by simpa using h)
    rw [strL_cons, splitV, cut_cons (hr f List.mem_cons_self)]
    simp only [if_true]
    rw [ih]
    rfl
end Go.Proofs.YtlhfgpcanfpnfaaDoor.frames
