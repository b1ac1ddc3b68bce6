/-
  FrameRead of the model. For every text that the row reads.
-/
import Derived.Test.YtlhfgpcanfpnfaaDoorCut
import Derived.Test.YtlhfgpcanfpnfaaDoorFrameLaws
namespace Go.Proofs.YtlhfgpcanfpnfaaDoor.frame
open Go.ChangeShapes Go.WideShapes Go.ChangeAt Go.RowKit
open Go.Proofs.YtlhfgpcanfpnfaaDoor.line Go.Proofs.YtlhfgpcanfpnfaaDoor.all_
def numFrom (n : Int) : List UInt8 → Int
  | [] => n
  | c :: r => if 48 ≤ c.toNat ∧ c.toNat ≤ 57 then numFrom (10 * n + (c.toNat - 48 : Int)) r else -1
def numV (l : List UInt8) : Int := if l.length < 1 ∨ 9 < l.length ∨ (1 < l.length ∧ l.getD 0 0 = 48) then -1 else numFrom 0 l
def numOk (n : Nat) : Bool := decide (numV (decS n) = (n : Int))
theorem numS_all : ∀ n < 61, numOk n = true := by decide +kernel
theorem num_dec {a : Int} (h : plB a = true) : numV (dec a) = a := by
  obtain ⟨h0, h1⟩ := plB_t h
  obtain ⟨n, rfl⟩ := Int.eq_ofNat_of_zero_le h0
  rw [dec_decS (by omega)]
  exact of_decide_eq_true (numS_all n (by omega))
/-- what the model takes for a frame of this kind -/
def scV (k : Int) (l : List UInt8) : FT3 := if k ≤ 4 then (k, numV (cutA 32 (cutA 32 l).2.1).1, bA (cutA 32 (cutA 32 l).2.1).2.1) else (k, 0, bA (cutA 32 l).2.1)
theorem bA_size' (l : List UInt8) : (bA l).size = l.length := rfl
theorem sc_of {k a : Int} {t : ByteArray} (h : frB k a t = true) : scV k (frL k a t) = (k, a, t) ∧ (cutA 32 (frL k a t)).1 = wordL k := by
  obtain ⟨n1, n2, n3, n4, n5, n6, n7⟩ := noBlank
  obtain ⟨h1, h7, hp, hz, _, _⟩ := frB_facts h
  have hk : k = 1 ∨ k = 2 ∨ k = 3 ∨ k = 4 ∨ k = 5 ∨ k = 6 ∨ k = 7 := by omega
  have T : ∀ w, (∀ x ∈ w, x ≠ 32) → plB a = true → cutA 32 (w ++ 32 :: (dec a ++ 32 :: t.data.toList)) = (w, dec a ++ 32 :: t.data.toList, true) ∧ cutA 32 (dec a ++ 32 :: t.data.toList) = (dec a, t.data.toList, true) ∧ numV (dec a) = a :=
    fun w hw hpl => ⟨cutA_hit _ hw, cutA_hit _ (dec_facts hpl).2, num_dec hpl⟩
  rcases hk with rfl | rfl | rfl | rfl | rfl | rfl | rfl
  · obtain ⟨t1, t2, t3⟩ := T putL n1 (hp (by omega))
    have e : frL 1 a t = putL ++ 32 :: (dec a ++ 32 :: t.data.toList) := by simp [frL]
    rw [e]
    unfold scV
    rw [t1]
    dsimp only
    rw [t2, if_pos (by decide), t3, bA_list, word_1]
    exact ⟨rfl, rfl⟩
  · obtain ⟨t1, t2, t3⟩ := T dropL n2 (hp (by omega))
    have e : frL 2 a t = dropL ++ 32 :: (dec a ++ 32 :: t.data.toList) := by simp [frL]
    rw [e]
    unfold scV
    rw [t1]
    dsimp only
    rw [t2, if_pos (by decide), t3, bA_list, word_2]
    exact ⟨rfl, rfl⟩
  · have hpl := hp (by omega)
    rw [frB_3, hpl] at h
    obtain rfl := size_nil (t := t) (by simpa using h)
    have e : frL 3 a ⟨#[]⟩ = moveL ++ 32 :: dec a := by simp [frL]
    rw [e]
    unfold scV
    rw [cutA_hit _ n3]
    dsimp only
    rw [cutA_miss (dec_facts hpl).2, if_pos (by decide), num_dec hpl, word_3]
    exact ⟨rfl, rfl⟩
  · obtain ⟨t1, t2, t3⟩ := T allL n4 (hp (by omega))
    have e : frL 4 a t = allL ++ 32 :: (dec a ++ 32 :: t.data.toList) := by simp [frL]
    rw [e]
    unfold scV
    rw [t1]
    dsimp only
    rw [t2, if_pos (by decide), t3, bA_list, word_4]
    exact ⟨rfl, rfl⟩
  · obtain rfl := hz (by omega)
    have e : frL 5 0 t = sayL ++ 32 :: t.data.toList := by simp [frL]
    rw [e]
    unfold scV
    rw [cutA_hit _ n5]
    dsimp only
    rw [if_neg (by decide), bA_list, word_5]
    exact ⟨rfl, rfl⟩
  · obtain rfl := hz (by omega)
    rw [frB_6] at h
    obtain rfl := size_nil (t := t) (by simpa using h)
    have e : frL 6 0 ⟨#[]⟩ = bellL := by simp [frL]
    rw [e]
    unfold scV
    rw [cutA_miss n6]
    dsimp only
    rw [if_neg (by decide), word_6]
    exact ⟨rfl, rfl⟩
  · obtain rfl := hz (by omega)
    have e : frL 7 0 t = doneL ++ 32 :: t.data.toList := by simp [frL]
    rw [e]
    unfold scV
    rw [cutA_hit _ n7]
    dsimp only
    rw [if_neg (by decide), bA_list, word_7]
    exact ⟨rfl, rfl⟩
theorem textF_list {k a : Int} {t : ByteArray} : (textF (k, a, t)).data.toList = frL k a t := by simp [textF, frS]
/-- another word: no frame of this kind -/
theorem read_word {s : ByteArray} {k : Int} (hw : (cutA 32 s.data.toList).1 ≠ wordL k) : ∀ f, readV s = some f → f.1 ≠ k := fun f hf e => by
  obtain ⟨k', a, t⟩ := f
  obtain ⟨h1, h2⟩ := readV_some hf
  subst e
  rw [← h2, textF_list] at hw
  exact hw (sc_of h1).2
theorem read_other {s : ByteArray} {k : Int} (hx : frTx (scV k s.data.toList).1 (scV k s.data.toList).2.1 (scV k s.data.toList).2.2 ≠ s) : ∀ f, readV s = some f → f.1 ≠ k := fun f hf e => by
  obtain ⟨k', a, t⟩ := f
  obtain ⟨h1, h2⟩ := readV_some hf
  have e : k' = k := e
  subst e
  have h3 := (sc_of h1).1
  rw [← textF_list, h2] at h3
  rw [h3] at hx
  exact hx (by rw [frTx_t h1]; exact h2)
theorem read_this {s : ByteArray} {k : Int} (hw : (cutA 32 s.data.toList).1 = wordL k) (hx : frTx (scV k s.data.toList).1 (scV k s.data.toList).2.1 (scV k s.data.toList).2.2 = s) : readV s = some (scV k s.data.toList) := by
  generalize scV k s.data.toList = f at hx
  cases hr : frB f.1 f.2.1 f.2.2
  · rw [frTx_f hr] at hx
    rw [← hx] at hw
    have : wordL k ≠ [] := by unfold wordL; repeat' split
                              all_goals decide
    exact absurd (by rw [← hw]; rfl) this
  · rw [frTx_t hr] at hx
    rw [← hx]
    exact readV_of hr
theorem read_kind {s : ByteArray} {f : FT3} (h : readV s = some f) : 1 ≤ f.1 ∧ f.1 ≤ 7 := by
  have := frB_facts (readV_some h).1
  exact ⟨this.1, this.2.1⟩
end Go.Proofs.YtlhfgpcanfpnfaaDoor.frame
