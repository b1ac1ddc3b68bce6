/-
  Plain lemmas on what is kept and dropped, and what comes of it, part by part.
-/
import Derived.Test.YthdnhopkkgdclaaApply
namespace Go.Proofs.Ythdnhopkkgdclaa.diff
open Go.Proofs.Ythdnhopkkgdclaa.line
theorem ba_ext {a b : ByteArray} (h : a.data.toList = b.data.toList) : a = b := ByteArray.ext (Array.ext' h)
theorem ba_add (a b : ByteArray) : (a ++ b).data.toList = a.data.toList ++ b.data.toList := by simp
theorem wasTo_more (K : Nat → Int) (X : Nat → ByteArray) (k : Nat) : ∀ m, ∃ t : List UInt8, (wasTo K X (k + m)).data.toList = (wasTo K X k).data.toList ++ t
  | 0 => ⟨[], by simp⟩
  | m + 1 => by
    obtain ⟨t, ht⟩ := wasTo_more K X k m
    by_cases h : K (k + m) = 3
    · exact ⟨t, by rw [← Nat.add_assoc]; simp only [wasTo]; rw [if_pos h, ht]⟩
    · exact ⟨t ++ (X (k + m)).data.toList, by rw [← Nat.add_assoc]; simp only [wasTo]; rw [if_neg h, ba_add, ht, List.append_assoc]⟩
theorem isTo_more (K : Nat → Int) (X : Nat → ByteArray) (k : Nat) : ∀ m, ∃ t : List UInt8, (isTo K X (k + m)).data.toList = (isTo K X k).data.toList ++ t
  | 0 => ⟨[], by simp⟩
  | m + 1 => by
    obtain ⟨t, ht⟩ := isTo_more K X k m
    by_cases h : K (k + m) = 2
    · exact ⟨t, by rw [← Nat.add_assoc]; simp only [isTo]; rw [if_pos h, ht]⟩
    · exact ⟨t ++ (X (k + m)).data.toList, by rw [← Nat.add_assoc]; simp only [isTo]; rw [if_neg h, ba_add, ht, List.append_assoc]⟩
theorem textB_front {x y : ByteArray} {t : List UInt8} (h : y.data.toList = x.data.toList ++ t) (hx : textB x = false) : textB y = false := by
  apply Bool.eq_false_iff.2
  intro hy
  have hk := textB_ok hy
  have hsx : x.size = x.data.toList.length := rfl
  have hsy : y.size = y.data.toList.length := rfl
  have hl := congrArg List.length h
  rw [List.length_append] at hl
  have : textB x = true := textB_t ⟨by have := hk.1; omega, fun i hi hix => by
    have hiy : i < y.size := by omega
    have e : y[i] = x[i] := by
      have e1 : y[i] = y.data.toList[i]'(by omega) := by simp [ByteArray.getElem_eq_getElem_data]
      have e2 : x[i] = x.data.toList[i]'(by omega) := by simp [ByteArray.getElem_eq_getElem_data]
      rw [e1, e2]
      have : (y.data.toList)[i]? = (x.data.toList)[i]? := by rw [h, List.getElem?_append_left (by omega)]
      rw [List.getElem?_eq_getElem (by omega), List.getElem?_eq_getElem (by omega)] at this
      simpa using this
    rw [← e]; exact hk.2 i hiy hiy⟩
  rw [this] at hx; cases hx
/-- a text's rest behind what was kept and dropped as far as k -/
theorem rest_hit {a r p : ByteArray} {K : Nat → Int} {X : Nat → ByteArray} {k : Nat} (h : a.data.toList = (wasTo K X k).data.toList ++ r.data.toList) (hk : K k ≠ 3)
    (hp : p = X k) (hh : Lib.hasPrefix r.data.toList p.data.toList = true) :
    a.data.toList = (wasTo K X (k + 1)).data.toList ++ Lib.trimPrefix r.data.toList p.data.toList := by
  subst hp
  unfold Lib.trimPrefix
  rw [if_pos hh]
  simp only [wasTo]
  rw [if_neg hk, ba_add, List.append_assoc, h]
  congr 1
  have hpre : (X k).data.toList <+: r.data.toList := List.isPrefixOf_iff_prefix.1 hh
  obtain ⟨t, ht⟩ := hpre
  rw [← ht, List.drop_left]
theorem rest_miss {a r p : ByteArray} {K : Nat → Int} {X : Nat → ByteArray} {k n : Nat} (h : a.data.toList = (wasTo K X k).data.toList ++ r.data.toList) (hk : K k ≠ 3) (hn : k < n)
    (hp : p = X k) (hh : Lib.hasPrefix r.data.toList p.data.toList = false) : wasTo K X n ≠ a := by
  subst hp
  intro e
  obtain ⟨t, ht⟩ := wasTo_more K X (k + 1) (n - (k + 1))
  rw [show k + 1 + (n - (k + 1)) = n from by omega, e, h] at ht
  simp only [wasTo] at ht
  rw [if_neg hk, ba_add, List.append_assoc] at ht
  have ht' := List.append_cancel_left ht
  have : Lib.hasPrefix r.data.toList (X k).data.toList = true := by
    unfold Lib.hasPrefix
    rw [List.isPrefixOf_iff_prefix, ht']
    exact ⟨t, rfl⟩
  rw [this] at hh; cases hh
end Go.Proofs.Ythdnhopkkgdclaa.diff
