/-
  A text cut at its first byte of one kind; a number's digits read. Plain lemmas.
-/
import Derived.Test.YtlhfgpcanfpnfaaDoorFrameText
import Derived.Lib.IndexMore
import Derived.Lib.IndexBytes
import Derived.Lib.ParseIntB
namespace Go.Proofs.YtlhfgpcanfpnfaaDoor.frame
open Go.ChangeShapes Go.WideShapes Go.ChangeAt Go.RowKit
open Go.Proofs.YtlhfgpcanfpnfaaDoor.line Go.Proofs.YtlhfgpcanfpnfaaDoor.all_
/-- what stands ahead of the first c, what behind it, and whether there is one -/
def cutA (c : UInt8) : List UInt8 → List UInt8 × List UInt8 × Bool
  | [] => ([], [], false)
  | x :: r => if x = c then ([], r, true) else (x :: (cutA c r).1, (cutA c r).2.1, (cutA c r).2.2)
theorem cutA_hit {c : UInt8} : ∀ {w : List UInt8} (r : List UInt8), (∀ x ∈ w, x ≠ c) → cutA c (w ++ c :: r) = (w, r, true)
  | [], r, _ => by simp [cutA]
  | x :: w, r, h => by
    have ih := cutA_hit (w := w) r (fun y hy => h y (List.mem_cons_of_mem _ hy))
    rw [List.cons_append, cutA, if_neg (h x List.mem_cons_self), ih]
theorem cutA_miss {c : UInt8} : ∀ {w : List UInt8}, (∀ x ∈ w, x ≠ c) → cutA c w = (w, [], false)
  | [], _ => rfl
  | x :: w, h => by
    have ih := cutA_miss (w := w) (fun y hy => h y (List.mem_cons_of_mem _ hy))
    rw [cutA, if_neg (h x List.mem_cons_self), ih]
theorem cutA_true {c : UInt8} : ∀ {l : List UInt8}, (cutA c l).2.2 = true → l = (cutA c l).1 ++ c :: (cutA c l).2.1 ∧ ∀ x ∈ (cutA c l).1, x ≠ c
  | [], h => by simp [cutA] at h
  | x :: r, h => by
    by_cases hx : x = c
    · subst hx
      simp [cutA]
    · have e : cutA c (x :: r) = (x :: (cutA c r).1, (cutA c r).2.1, (cutA c r).2.2) := by rw [cutA, if_neg hx]
      rw [e] at h ⊢
      obtain ⟨h1, h2⟩ := cutA_true (l := r) h
      refine ⟨by simpa using h1, fun y hy => ?_⟩
      rcases List.mem_cons.1 hy with rfl | hy
      · exact hx
      · exact h2 y hy
theorem cutA_false {c : UInt8} : ∀ {l : List UInt8}, (cutA c l).2.2 = false → cutA c l = (l, [], false) ∧ ∀ x ∈ l, x ≠ c
  | [], _ => ⟨rfl, fun x hx => by cases hx⟩
  | x :: r, h => by
    by_cases hx : x = c
    · subst hx
      simp [cutA] at h
    · have e : cutA c (x :: r) = (x :: (cutA c r).1, (cutA c r).2.1, (cutA c r).2.2) := by rw [cutA, if_neg hx]
      rw [e] at h ⊢
      obtain ⟨h1, h2⟩ := cutA_false (l := r) h
      refine ⟨by rw [h1], fun y hy => ?_⟩
      rcases List.mem_cons.1 hy with rfl | hy
      · exact hx
      · exact h2 y hy
theorem cutA_len (c : UInt8) : ∀ l : List UInt8, (cutA c l).1.length ≤ l.length ∧ (cutA c l).2.1.length ≤ l.length
  | [] => ⟨Nat.le_refl _, Nat.le_refl _⟩
  | x :: r => by
    obtain ⟨h1, h2⟩ := cutA_len c r
    rw [cutA]
    split
    · simp
    · simp; omega
theorem cut_eq (c : UInt8) : ∀ s : List UInt8, Lib.cut s [c] = cutA c s
  | [] => by simp [Lib.cut, cutA, Lib.index_one, Lib.indexByte]
  | x :: r => by
    have ih := cut_eq c r
    have hg := Lib.indexByte_ge r c
    unfold Lib.cut at ih ⊢
    rw [Lib.index_one] at ih ⊢
    rw [cutA]
    by_cases hx : x = c
    · subst hx
      simp [Lib.indexByte]
    · rw [if_neg hx, ← ih]
      by_cases hm : Lib.indexByte r c = -1
      · have : Lib.indexByte (x :: r) c = -1 := by simp [Lib.indexByte, hx, hm]
        rw [this, hm]
        simp
      · have h1 : Lib.indexByte (x :: r) c = Lib.indexByte r c + 1 := by simp [Lib.indexByte, hx, hm]
        rw [h1, if_pos (by omega), if_pos (by omega)]
        obtain ⟨n, hn⟩ := Int.eq_ofNat_of_zero_le (show 0 ≤ Lib.indexByte r c by omega)
        rw [hn]
        have : ((n : Int) + 1).toNat = n + 1 := by omega
        rw [this]
        simp
/-- the number that is read where digits are awaited -/
def atV (p : List UInt8) : Int := match Lib.parseIntB 64 p with
  | .ok v => v
  | .range => Lib.intSat 64 p
  | _ => 0
def decS (n : Nat) : List UInt8 := if n < 10 then [UInt8.ofNat (48 + n)] else [UInt8.ofNat (48 + n / 10), UInt8.ofNat (48 + n % 10)]
theorem dec_decS {n : Nat} (h : n ≤ 60) : dec n = decS n := by
  unfold dec decS
  rw [Int.toNat_natCast, Lib.decDigits]
  split
  · rfl
  · rw [Lib.decDigits, dif_pos (by omega)]
    rfl
def decOk (n : Nat) : Bool := (match Lib.parseIntB 64 (decS n) with | .ok v => decide (v = (n : Int)) | _ => false) && (decS n).all (fun x => x != 32)
theorem decS_all : ∀ n < 61, decOk n = true := by decide +kernel
theorem dec_facts {a : Int} (h : plB a = true) : Lib.parseIntB 64 (dec a) = .ok a ∧ ∀ x ∈ dec a, x ≠ 32 := by
  obtain ⟨h0, h1⟩ := plB_t h
  obtain ⟨n, rfl⟩ := Int.eq_ofNat_of_zero_le h0
  have h2 := decS_all n (by omega)
  unfold decOk at h2
  rw [Bool.and_eq_true] at h2
  obtain ⟨h2, h3⟩ := h2
  rw [dec_decS (by omega)]
  refine ⟨?_, fun x hx => by simpa using List.all_eq_true.1 h3 x hx⟩
  revert h2
  rcases Lib.parseIntB 64 (decS n) with v | _ | _
  · intro h; rw [of_decide_eq_true h]
  · intro h; cases h
  · intro h; cases h
theorem atV_dec {a : Int} (h : plB a = true) : atV (dec a) = a := by
  unfold atV
  rw [(dec_facts h).1]
/-! ### the frame of which this is the text -/
abbrev FT3 := Int × Int × ByteArray
def bA (l : List UInt8) : ByteArray := ⟨l.toArray⟩
theorem bA_list (s : ByteArray) : bA s.data.toList = s := by
  obtain ⟨⟨l⟩⟩ := s
  rfl
noncomputable def rightF (f : FT3) : Bool := frB f.1 f.2.1 f.2.2
def textF (f : FT3) : ByteArray := frS f.1 f.2.1 f.2.2
noncomputable def candV (l : List UInt8) : Option FT3 :=
  if (cutA 32 l).1 = putL then some (1, atV (cutA 32 (cutA 32 l).2.1).1, bA (cutA 32 (cutA 32 l).2.1).2.1)
  else if (cutA 32 l).1 = dropL then some (2, atV (cutA 32 (cutA 32 l).2.1).1, bA (cutA 32 (cutA 32 l).2.1).2.1)
  else if (cutA 32 l).1 = moveL then some (3, atV (cutA 32 (cutA 32 l).2.1).1, ⟨#[]⟩)
  else if (cutA 32 l).1 = allL then some (4, atV (cutA 32 (cutA 32 l).2.1).1, bA (cutA 32 (cutA 32 l).2.1).2.1)
  else if (cutA 32 l).1 = sayL then some (5, 0, bA (cutA 32 l).2.1)
  else if (cutA 32 l).1 = bellL then some (6, 0, ⟨#[]⟩)
  else if (cutA 32 l).1 = doneL then some (7, 0, bA (cutA 32 l).2.1)
  else none
theorem noBlank : (∀ x ∈ putL, x ≠ 32) ∧ (∀ x ∈ dropL, x ≠ 32) ∧ (∀ x ∈ moveL, x ≠ 32) ∧ (∀ x ∈ allL, x ≠ 32) ∧ (∀ x ∈ sayL, x ≠ 32) ∧ (∀ x ∈ bellL, x ≠ 32) ∧ (∀ x ∈ doneL, x ≠ 32) := by decide
/-- where a right frame's text stands, it is the one that is cut out -/
theorem cand_of {k a : Int} {t : ByteArray} (h : frB k a t = true) : candV (frL k a t) = some (k, a, t) ∧ (∃ w, (cutA 32 (frL k a t)).1 = w ∧ w ∈ [putL, dropL, moveL, allL, sayL, bellL, doneL]) := by
  obtain ⟨n1, n2, n3, n4, n5, n6, n7⟩ := noBlank
  obtain ⟨h1, h7, hp, hz, _, _⟩ := frB_facts h
  have hk : k = 1 ∨ k = 2 ∨ k = 3 ∨ k = 4 ∨ k = 5 ∨ k = 6 ∨ k = 7 := by omega
  have T : ∀ w, (∀ x ∈ w, x ≠ 32) → plB a = true → cutA 32 (w ++ 32 :: (dec a ++ 32 :: t.data.toList)) = (w, dec a ++ 32 :: t.data.toList, true) ∧ cutA 32 (dec a ++ 32 :: t.data.toList) = (dec a, t.data.toList, true) ∧ atV (dec a) = a :=
    fun w hw hpl => ⟨cutA_hit _ hw, cutA_hit _ (dec_facts hpl).2, atV_dec hpl⟩
  rcases hk with rfl | rfl | rfl | rfl | rfl | rfl | rfl
  · obtain ⟨t1, t2, t3⟩ := T putL n1 (hp (by omega))
    have e : frL 1 a t = putL ++ 32 :: (dec a ++ 32 :: t.data.toList) := by simp [frL]
    rw [e]
    unfold candV
    rw [t1]
    dsimp only
    rw [t2, if_pos rfl, t3, bA_list]
    exact ⟨rfl, _, rfl, by simp⟩
  · obtain ⟨t1, t2, t3⟩ := T dropL n2 (hp (by omega))
    have e : frL 2 a t = dropL ++ 32 :: (dec a ++ 32 :: t.data.toList) := by simp [frL]
    rw [e]
    unfold candV
    rw [t1]
    dsimp only
    rw [t2, if_neg (by decide), if_pos rfl, t3, bA_list]
    exact ⟨rfl, _, rfl, by simp⟩
  · have hpl := hp (by omega)
    rw [frB_3, hpl] at h
    obtain rfl := size_nil (t := t) (by simpa using h)
    have e : frL 3 a ⟨#[]⟩ = moveL ++ 32 :: dec a := by simp [frL]
    rw [e]
    unfold candV
    rw [cutA_hit _ n3]
    dsimp only
    rw [cutA_miss (dec_facts hpl).2, if_neg (by decide), if_neg (by decide), if_pos rfl, atV_dec hpl]
    exact ⟨rfl, _, rfl, by simp⟩
  · obtain ⟨t1, t2, t3⟩ := T allL n4 (hp (by omega))
    have e : frL 4 a t = allL ++ 32 :: (dec a ++ 32 :: t.data.toList) := by simp [frL]
    rw [e]
    unfold candV
    rw [t1]
    dsimp only
    rw [t2, if_neg (by decide), if_neg (by decide), if_neg (by decide), if_pos rfl, t3, bA_list]
    exact ⟨rfl, _, rfl, by simp⟩
  · obtain rfl := hz (by omega)
    have e : frL 5 0 t = sayL ++ 32 :: t.data.toList := by simp [frL]
    rw [e]
    unfold candV
    rw [cutA_hit _ n5]
    dsimp only
    rw [if_neg (by decide), if_neg (by decide), if_neg (by decide), if_neg (by decide), if_pos rfl, bA_list]
    exact ⟨rfl, _, rfl, by simp⟩
  · obtain rfl := hz (by omega)
    rw [frB_6] at h
    obtain rfl := size_nil (t := t) (by simpa using h)
    have e : frL 6 0 ⟨#[]⟩ = bellL := by simp [frL]
    rw [e]
    unfold candV
    rw [cutA_miss n6]
    dsimp only
    rw [if_neg (by decide), if_neg (by decide), if_neg (by decide), if_neg (by decide), if_neg (by decide), if_pos rfl]
    exact ⟨rfl, _, rfl, by simp⟩
  · obtain rfl := hz (by omega)
    have e : frL 7 0 t = doneL ++ 32 :: t.data.toList := by simp [frL]
    rw [e]
    unfold candV
    rw [cutA_hit _ n7]
    dsimp only
    rw [if_neg (by decide), if_neg (by decide), if_neg (by decide), if_neg (by decide), if_neg (by decide), if_neg (by decide), if_pos rfl, bA_list]
    exact ⟨rfl, _, rfl, by simp⟩
noncomputable def readV (s : ByteArray) : Option FT3 := match candV s.data.toList with
  | some f => if rightF f = true ∧ textF f = s then some f else none
  | none => none
theorem readV_some {s : ByteArray} {f : FT3} (h : readV s = some f) : rightF f = true ∧ textF f = s := by
  unfold readV at h
  split at h
  · split at h
    · cases h; assumption
    · cases h
  · cases h
theorem readV_of {f : FT3} (h : rightF f = true) : readV (textF f) = some f := by
  obtain ⟨k, a, t⟩ := f
  unfold readV
  have e : (textF (k, a, t)).data.toList = frL k a t := by simp [textF, frS]
  rw [e, (cand_of h).1]
  exact if_pos ⟨h, rfl⟩
theorem readV_none {s : ByteArray} (h : ∀ f, rightF f = true → textF f ≠ s) : readV s = none := by
  cases hr : readV s with
  | none => rfl
  | some f => exact absurd (readV_some hr).2 (h f (readV_some hr).1)
theorem readV_cand {s : ByteArray} {f : FT3} (hc : candV s.data.toList = some f) : readV s = if rightF f = true ∧ textF f = s then some f else none := by
  unfold readV
  rw [hc]
theorem readV_no {s : ByteArray} (hc : candV s.data.toList = none) : readV s = none := by
  unfold readV
  rw [hc]
end Go.Proofs.YtlhfgpcanfpnfaaDoor.frame
