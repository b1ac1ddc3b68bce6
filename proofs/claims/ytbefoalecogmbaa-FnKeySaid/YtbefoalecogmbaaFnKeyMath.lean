/-
  Keys, in plain terms: they are right ones, more bytes turn none that was there, and each but those of no use comes back from its bytes. For every text of at most 8000 bytes, every key.
-/
import Derived.Test.YtbefoalecogmbaaKeysLaw
import Derived.Test.YtbefoalecogmbaaKeyBytes
namespace Go.Proofs.Ytbefoalecogmbaa.key
open Go.ChangeShapes Go.WideShapes Go.ChangeAt Go.RowKit
theorem of_right_all : ∀ wt ∈ waits, ∀ n, n < 256 → (ofV wt (UInt8.ofNat n)).2.2.2 = true → keyB (ofV wt (UInt8.ofNat n)).2.1 (ofV wt (UInt8.ofNat n)).2.2.1 = true := by decide +kernel
theorem of_right {wt : List UInt8} (h : wt ∈ waits) (b : UInt8) (hh : (ofV wt b).2.2.2 = true) : keyB (ofV wt b).2.1 (ofV wt b).2.2.1 = true := by
  have := of_right_all wt h b.toNat b.toNat_lt
  rw [UInt8.ofNat_toNat] at this
  exact this hh
theorem keysTo_right (t : List UInt8) : ∀ i, ∀ d ∈ (keysTo t i).2, keyB d.1 d.2 = true
  | 0 => fun d hd => by cases hd
  | i + 1 => fun d hd => by
    simp only [keysTo, stepK] at hd
    split at hd
    · rename_i hh
      rcases List.mem_append.1 hd with hd | hd
      · exact keysTo_right t i d hd
      · rw [List.mem_singleton.1 hd]
        exact of_right (keysTo_wait t i) _ hh
    · exact keysTo_right t i d hd
theorem keysV_right (s : ByteArray) : ∀ d ∈ keysV s, keyB d.1 d.2 = true := by
  unfold keysV
  split
  · intro d hd; cases hd
  · exact keysTo_right _ _
theorem keysTo_take (t : List UInt8) (m : Nat) : ∀ i, i ≤ m → keysTo (t.take m) i = keysTo t i
  | 0, _ => rfl
  | i + 1, h => by
    have e : (t.take m).getD i 0 = t.getD i 0 := by
      rw [List.getD_eq_getElem?_getD, List.getD_eq_getElem?_getD, List.getElem?_take, if_pos (by omega)]
    simp only [keysTo, keysTo_take t m i (by omega), e]
theorem keysTo_pre (t : List UInt8) (i : Nat) : ∀ j, i ≤ j → (keysTo t i).2 <+: (keysTo t j).2 := by
  intro j
  induction j with
  | zero => intro h; obtain rfl : i = 0 := by omega
            exact List.prefix_refl _
  | succ j ih =>
    intro h
    by_cases e : i = j + 1
    · rw [e]; exact List.prefix_refl _
    · refine (ih (by omega)).trans ?_
      simp only [keysTo, stepK]
      split
      · exact List.prefix_append _ _
      · exact List.prefix_refl _
/-- more bytes turn no key that was there -/
theorem keysV_cut {s : ByteArray} (hs : s.size ≤ 8000) {m : Nat} (hm : m ≤ s.size) : keysV (s.extract 0 m) = (keysV s).take (keysV (s.extract 0 m)).length ∧ (keysV (s.extract 0 m)).length ≤ (keysV s).length := by
  have h1 : keysV s = (keysTo s.data.toList s.size).2 := by unfold keysV; rw [if_neg (by omega)]
  have h2 : keysV (s.extract 0 m) = (keysTo s.data.toList m).2 := by
    unfold keysV
    rw [ext_size s m hm, if_neg (by omega), ext_list, keysTo_take _ _ _ (Nat.le_refl _)]
  have h3 := keysTo_pre s.data.toList m s.size hm
  rw [h1, h2]
  exact ⟨List.prefix_iff_eq_take.1 h3, h3.length_le⟩
theorem back_self : ∀ n : Nat, n < 256 → keyB 1 n = true → keysV (bytesV 1 n) = [(1, (n : Int))] := by decide +kernel
theorem back_row : ∀ n : Nat, n < 25 → 2 ≤ n → keysV (bytesV n 0) = [((n : Int), 0)] := by decide +kernel
theorem back_any {k y : Int} (h : keyB k y = true) (hk : ¬ k = 25) : keysV (bytesV k y) = [(k, y)] := by
  by_cases h1 : k = 1
  · subst h1
    obtain ⟨y0, y1⟩ := keyB_byte h (.inl rfl)
    obtain ⟨n, rfl⟩ : ∃ n : Nat, y = n := ⟨y.toNat, by omega⟩
    exact back_self n (by omega) h
  · obtain ⟨k0, k1⟩ := keyB_kind h h1 hk
    have hy : y = 0 := by
      rw [keyB_else y h1 hk] at h
      simp at h
      exact h.2
    subst hy
    obtain ⟨n, rfl⟩ : ∃ n : Nat, k = n := ⟨k.toNat, by omega⟩
    exact back_row n (by omega) (by omega)
end Go.Proofs.Ytbefoalecogmbaa.key
