/-
  A seal opened: what was sealed comes back; one byte turned, the sum differs. A CRC goes on over a text put behind. Own work.
-/
import Derived.Test.YtdkdkdbdnfhonaaUnseal
import Derived.Lib.IndexBytes
namespace Go.Proofs.Ytdkdkdbdnfhonaa.seal_
open Go.ChangeShapes Go.WideShapes Go.ChangeAt Go.RowKit
open Go.Proofs.Ytdkdkdbdnfhonaa.crc Go.Proofs.Ytdkdkdbdnfhonaa.unseal_
theorem xor_same {a b c : Nat} (h : a ^^^ c = b ^^^ c) : a = b := by
  have := congrArg (· ^^^ c) h
  simpa [Nat.xor_assoc] using this
theorem step_inj {a b : Nat} (ha : a < 4294967296) (hb : b < 4294967296) (h : crc.step a = crc.step b) : a = b := by
  unfold crc.step at h
  split at h
  · split at h
    · have := xor_same h; omega
    · have e : 3988292384 = (a / 2) ^^^ (b / 2) := by
        have := congrArg (fun x => (a / 2) ^^^ x) h
        simpa [← Nat.xor_assoc] using this
      have := Nat.xor_lt_two_pow (n := 31) (show a / 2 < 2 ^ 31 by omega) (show b / 2 < 2 ^ 31 by omega)
      omega
  · split at h
    · have e : 3988292384 = (b / 2) ^^^ (a / 2) := by
        have := congrArg (fun x => (b / 2) ^^^ x) h
        simpa [← Nat.xor_assoc] using this.symm
      have := Nat.xor_lt_two_pow (n := 31) (show b / 2 < 2 ^ 31 by omega) (show a / 2 < 2 ^ 31 by omega)
      omega
    · omega
theorem steps_inj {a b : Nat} (ha : a < 4294967296) (hb : b < 4294967296) : ∀ k, steps k a = steps k b → a = b
  | 0, h => h
  | k+1, h => steps_inj ha hb k (step_inj (steps_lt ha k) (steps_lt hb k) h)
theorem xor_left {a b c : Nat} (h : c ^^^ a = c ^^^ b) : a = b := by
  rw [Nat.xor_comm c a, Nat.xor_comm c b] at h
  exact xor_same h
theorem regs_same {s s' : ByteArray} {r m : Nat} (h : ∀ i, i < m → byteAt s i = byteAt s' i) : ∀ k, k ≤ m → regs s r k = regs s' r k
  | 0, _ => rfl
  | k+1, hk => by rw [regs, regs, regs_same h k (by omega), h k (by omega)]
/-- one byte differs: so do the registers, from it on -/
theorem regs_ne {s s' : ByteArray} {r m : Nat} (hr : r < 4294967296) (h : ∀ i, i ≠ m → byteAt s i = byteAt s' i) (hm : byteAt s m ≠ byteAt s' m) : ∀ k, m < k → regs s r k ≠ regs s' r k
  | 0, hk => by omega
  | k+1, hk => by
    intro e
    rw [regs, regs] at e
    have b1 := byteAt_lt s k
    have b2 := byteAt_lt s' k
    have e2 := steps_inj (xor32 (regs_lt hr k) (by omega)) (xor32 (regs_lt hr k) (by omega)) 8 e
    by_cases hk2 : k = m
    · subst hk2
      rw [regs_same (fun i hi => h i (by omega)) k (Nat.le_refl _)] at e2
      exact hm (xor_left e2)
    · rw [h k hk2] at e2
      exact regs_ne hr h hm k (by omega) (xor_same e2)
theorem flipped_inj {a b : Nat} (h : flipped a = flipped b) : a = b := xor_same h
theorem flipped_two (a : Nat) : flipped (flipped a) = a := by
  unfold flipped; rw [Nat.xor_assoc, Nat.xor_self, Nat.xor_zero]
theorem fourB_inj {a b : Nat} (ha : a < 4294967296) (hb : b < 4294967296) (h : fourB a = fourB b) : a = b := by
  have h2 := congrArg (fun x : ByteArray => x.data.toList) h
  simp only [fourB, fourL, List.cons.injEq, and_true] at h2
  obtain ⟨h0, h1, h2, h3⟩ := h2
  have g0 := congrArg UInt8.toNat h0
  have g1 := congrArg UInt8.toNat h1
  have g2 := congrArg UInt8.toNat h2
  have g3 := congrArg UInt8.toNat h3
  rw [UInt8.toNat_ofNat', UInt8.toNat_ofNat'] at g0 g1 g2 g3
  omega
theorem byteAt_opt (s : ByteArray) (k : Nat) : byteAt s k = (s.data.toList[k]?.getD 0).toNat := by
  unfold byteAt
  split
  · rename_i h
    rw [Lib.data_getElem? s k h]; rfl
  · rename_i h
    rw [List.getElem?_eq_none (by have : s.data.toList.length = s.size := rfl; omega)]; rfl
theorem byteAt_append (a b : ByteArray) (k : Nat) : byteAt (a ++ b) k = if k < a.size then byteAt a k else byteAt b (k - a.size) := by
  have hl : a.data.toList.length = a.size := rfl
  rw [byteAt_opt, byteAt_opt, byteAt_opt, ByteArray.data_append, Array.toList_append]
  split
  · rw [List.getElem?_append_left (by omega)]
  · rw [List.getElem?_append_right (by omega), hl]
theorem regs_app (a b : ByteArray) (r : Nat) : ∀ k, regs (a ++ b) r (a.size + k) = regs b (regs a r a.size) k
  | 0 => regs_same (m := a.size) (fun i hi => by rw [byteAt_append, if_pos hi]) _ (Nat.le_refl _)
  | k+1 => by
    rw [show a.size + (k + 1) = (a.size + k) + 1 by omega, regs, regs, regs_app a b r k, byteAt_append, if_neg (by omega), Nat.add_sub_cancel_left]
theorem crc_on (t u : ByteArray) (h : t.size + u.size ≤ 8000) : crcFrom (crcFrom 0 t) u = crcFrom 0 (t ++ u) := by
  have h1 : crcFrom 0 t = (crcN t : Nat) := crcN_eq (by omega)
  have hz : (t ++ u).size = t.size + u.size := ByteArray.size_append
  rw [h1, crcN_eq (by omega), crcFrom_in (by omega) (crcN_lt t)]
  unfold crcN
  rw [flipped_two, hz, regs_app]
theorem fits {s : ByteArray} (h : s.size ≤ 7996) : sealB s = s ++ fourB (crcN s) := by unfold sealB; rw [if_neg (by omega)]
theorem fits_size {s : ByteArray} (h : s.size ≤ 7996) : (sealB s).size = s.size + 4 := by
  rw [fits h, ByteArray.size_append, fourB_size]
theorem app_inj {a b c d : ByteArray} (h : a ++ b = c ++ d) (hz : a.size = c.size) : a = c ∧ b = d := by
  have e := congrArg (fun x : ByteArray => x.data.toList) h
  simp only [ByteArray.data_append, Array.toList_append] at e
  have e2 := List.append_inj e hz
  exact ⟨ByteArray.ext (Array.ext' e2.1), ByteArray.ext (Array.ext' e2.2)⟩
theorem head_seal {t : ByteArray} (h : t.size ≤ 7996) : headB (sealB t) = t ∧ tailB (sealB t) = fourB (crcN t) := by
  have e := head_tail (sealB t)
  have hz := headB_size (sealB t)
  rw [fits_size h] at hz
  conv at e => rhs; rw [fits h]
  exact app_inj e (by omega)
theorem unV_seal {t : ByteArray} (h : t.size ≤ 7996) : unV (sealB t) = tout t 0 0 := by
  have hz := fits_size h
  obtain ⟨h1, h2⟩ := head_seal h
  rw [unV_ok (by omega) (by omega) (by rw [h1, h2]), h1]
theorem byteAt_ext {a b : ByteArray} (hz : a.size = b.size) (h : ∀ i, byteAt a i = byteAt b i) : a = b := by
  refine ByteArray.ext (Array.ext' (List.ext_getElem hz fun i h1 h2 => ?_))
  have := h i
  rw [byteAt_opt, byteAt_opt, List.getElem?_eq_getElem h1, List.getElem?_eq_getElem h2] at this
  exact UInt8.toNat_inj.1 this
/-- one byte of a seal turned: it is refused -/
theorem unV_turned {t s' : ByteArray} {m : Nat} (h : t.size ≤ 7996) (hz : s'.size = (sealB t).size) (ho : ∀ i, i ≠ m → byteAt (sealB t) i = byteAt s' i) (hm : byteAt (sealB t) m ≠ byteAt s' m) :
    unV s' = tout ByteArray.empty 0 5 := by
  have h4 := fits_size h
  obtain ⟨h1, h2⟩ := head_seal h
  have hz1 := headB_size s'
  refine unV_bad (by omega) (by omega) (fun e => ?_)
  have es : sealB t = t ++ fourB (crcN t) := fits h
  have es' : s' = headB s' ++ tailB s' := (head_tail s').symm
  have q : ∀ i, byteAt (sealB t) i = if i < t.size then byteAt t i else byteAt (fourB (crcN t)) (i - t.size) := fun i => by rw [es, byteAt_append]
  have q' : ∀ i, byteAt s' i = if i < t.size then byteAt (headB s') i else byteAt (tailB s') (i - t.size) := fun i => by
    conv => lhs; rw [es']
    rw [byteAt_append, show (headB s').size = t.size by omega]
  by_cases hlt : m < t.size
  · have et : fourB (crcN t) = tailB s' := by
      refine byteAt_ext ?_ (fun i => ?_)
      · rw [← e]; rfl
      · have := ho (t.size + i) (by omega)
        rwa [q, q', if_neg (by omega), if_neg (by omega), Nat.add_sub_cancel_left] at this
    have ec := fourB_inj (crcN_lt _) (crcN_lt _) (et.trans e.symm)
    unfold crcN at ec
    have er := flipped_inj ec
    rw [show (headB s').size = t.size by omega] at er
    refine regs_ne (flipped_lt (by omega)) (fun i hi => ?_) ?_ t.size hlt er
    · by_cases hi2 : i < t.size
      · have := ho i hi
        rwa [q, q', if_pos hi2, if_pos hi2] at this
      · rw [byteAt, byteAt, dif_neg hi2, dif_neg (by omega)]
    · rw [q, q', if_pos hlt, if_pos hlt] at hm
      exact hm
  · have eh : headB s' = t := by
      refine byteAt_ext (by omega) (fun i => ?_)
      by_cases hi2 : i < t.size
      · have := ho i (by omega)
        rw [q, q', if_pos hi2, if_pos hi2] at this
        exact this.symm
      · rw [byteAt, byteAt, dif_neg (by omega), dif_neg hi2]
    rw [eh] at e
    rw [q, q', if_neg hlt, if_neg hlt, e] at hm
    exact hm rfl
end Go.Proofs.Ytdkdkdbdnfhonaa.seal_
