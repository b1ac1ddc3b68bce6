/-
  readNum of the program: a loop of goto from state to state. It tells what the model's loop tells. For every text and place that the row reads.
-/
import Derived.Test.YtgmbpohbjhaghaaDoorRead
import Derived.Test.YtgmbpohbjhaghaaDoorScope
import Derived.WalkMore
namespace Go.Proofs.YtgmbpohbjhaghaaDoor.read
open Go.ChangeShapes Go.WideShapes Go.ChangeAt Go.RowKit
open Go.Proofs.YtgmbpohbjhaghaaDoor.as_ Go.Proofs.YtgmbpohbjhaghaaDoor.scope_

/-! ### what holds at the labels more (1), last (2), wrong (0) -/
def More (s r : ByteArray) (p : Nat) (V : Int × Int × Int) (w0 : World) (k x : Nat) (a : Act) (w : World) : Prop := w = w0 ∧ a.defers = [] ∧ a.tmps.size = 75 ∧ (a.tmps.getD 0 undef = .string s ∧ a.tmps.getD 1 undef = .int .i64 p ∧ a.tmps.getD 8 undef = .int .u64 x ∧ a.tmps.getD 10 undef = .int .i64 0 ∧ a.tmps.getD 11 undef = .string r ∧ a.tmps.getD 12 undef = .int .i64 k) ∧ k ≤ 9 ∧ p + k ≤ s.size ∧ x < 2 ^ (7 * k) ∧ V = rd s p (10 - k) k x
set_option maxRecDepth 100000 in
theorem More.open_ {s r : ByteArray} {p : Nat} {V : Int × Int × Int} {w0 : World} {k x : Nat} (a : Act) (w : World) (h : More s r p V w0 k x a w) : w = w0 ∧ ∃ u2 u3 u4 u5 u6 u7 u9 u13 u14 u15 u16 u17 u18 u19 u20 u21 u22 u23 u24 u25 u26 u27 u28 u29 u30 u31 u32 u33 u34 u35 u36 u37 u38 u39 u40 u41 u42 u43 u44 u45 u46 u47 u48 u49 u50 u51 u52 u53 u54 u55 u56 u57 u58 u59 u60 u61 u62 u63 u64 u65 u66 u67 u68 u69 u70 u71 u72 u73 u74 : Value, a = { tmps := #[.string s, .int .i64 p, u2, u3, u4, u5, u6, u7, .int .u64 x, u9, .int .i64 0, .string r, .int .i64 k, u13, u14, u15, u16, u17, u18, u19, u20, u21, u22, u23, u24, u25, u26, u27, u28, u29, u30, u31, u32, u33, u34, u35, u36, u37, u38, u39, u40, u41, u42, u43, u44, u45, u46, u47, u48, u49, u50, u51, u52, u53, u54, u55, u56, u57, u58, u59, u60, u61, u62, u63, u64, u65, u66, u67, u68, u69, u70, u71, u72, u73, u74], defers := [] } ∧ k ≤ 9 ∧ p + k ≤ s.size ∧ x < 2 ^ (7 * k) ∧ V = rd s p (10 - k) k x := by
  obtain ⟨hw, hd, hn, ⟨h0, h1, h8, h10, h11, h12⟩, hf⟩ := h
  refine ⟨hw, a.tmps.getD 2 undef, a.tmps.getD 3 undef, a.tmps.getD 4 undef, a.tmps.getD 5 undef, a.tmps.getD 6 undef, a.tmps.getD 7 undef, a.tmps.getD 9 undef, a.tmps.getD 13 undef, a.tmps.getD 14 undef, a.tmps.getD 15 undef, a.tmps.getD 16 undef, a.tmps.getD 17 undef, a.tmps.getD 18 undef, a.tmps.getD 19 undef, a.tmps.getD 20 undef, a.tmps.getD 21 undef, a.tmps.getD 22 undef, a.tmps.getD 23 undef, a.tmps.getD 24 undef, a.tmps.getD 25 undef, a.tmps.getD 26 undef, a.tmps.getD 27 undef, a.tmps.getD 28 undef, a.tmps.getD 29 undef, a.tmps.getD 30 undef, a.tmps.getD 31 undef, a.tmps.getD 32 undef, a.tmps.getD 33 undef, a.tmps.getD 34 undef, a.tmps.getD 35 undef, a.tmps.getD 36 undef, a.tmps.getD 37 undef, a.tmps.getD 38 undef, a.tmps.getD 39 undef, a.tmps.getD 40 undef, a.tmps.getD 41 undef, a.tmps.getD 42 undef, a.tmps.getD 43 undef, a.tmps.getD 44 undef, a.tmps.getD 45 undef, a.tmps.getD 46 undef, a.tmps.getD 47 undef, a.tmps.getD 48 undef, a.tmps.getD 49 undef, a.tmps.getD 50 undef, a.tmps.getD 51 undef, a.tmps.getD 52 undef, a.tmps.getD 53 undef, a.tmps.getD 54 undef, a.tmps.getD 55 undef, a.tmps.getD 56 undef, a.tmps.getD 57 undef, a.tmps.getD 58 undef, a.tmps.getD 59 undef, a.tmps.getD 60 undef, a.tmps.getD 61 undef, a.tmps.getD 62 undef, a.tmps.getD 63 undef, a.tmps.getD 64 undef, a.tmps.getD 65 undef, a.tmps.getD 66 undef, a.tmps.getD 67 undef, a.tmps.getD 68 undef, a.tmps.getD 69 undef, a.tmps.getD 70 undef, a.tmps.getD 71 undef, a.tmps.getD 72 undef, a.tmps.getD 73 undef, a.tmps.getD 74 undef, ?_, hf⟩
  obtain ⟨t, d⟩ := a
  simp only at hd hn h0 h1 h8 h10 h11 h12
  subst hd
  rw [← h0, ← h1, ← h8, ← h10, ← h11, ← h12]
  exact congrArg (fun z => ({ tmps := z, defers := [] } : Act)) (arr_eq t 75 hn)
def Last (s r : ByteArray) (p : Nat) (V : Int × Int × Int) (w0 : World) (k x c : Nat) (a : Act) (w : World) : Prop := w = w0 ∧ a.defers = [] ∧ a.tmps.size = 75 ∧ (a.tmps.getD 0 undef = .string s ∧ a.tmps.getD 1 undef = .int .i64 p ∧ a.tmps.getD 8 undef = .int .u64 x ∧ a.tmps.getD 9 undef = .int .u8 c ∧ a.tmps.getD 10 undef = .int .i64 0 ∧ a.tmps.getD 11 undef = .string r ∧ a.tmps.getD 12 undef = .int .i64 k) ∧ k ≤ 9 ∧ x < 2 ^ (7 * k) ∧ V = rd s p (10 - k) k x ∧ p + k < s.size ∧ c = byteAt s (p + k) ∧ (c < 128 ∨ k = 9)
set_option maxRecDepth 100000 in
theorem Last.open_ {s r : ByteArray} {p : Nat} {V : Int × Int × Int} {w0 : World} {k x c : Nat} (a : Act) (w : World) (h : Last s r p V w0 k x c a w) : w = w0 ∧ ∃ u2 u3 u4 u5 u6 u7 u13 u14 u15 u16 u17 u18 u19 u20 u21 u22 u23 u24 u25 u26 u27 u28 u29 u30 u31 u32 u33 u34 u35 u36 u37 u38 u39 u40 u41 u42 u43 u44 u45 u46 u47 u48 u49 u50 u51 u52 u53 u54 u55 u56 u57 u58 u59 u60 u61 u62 u63 u64 u65 u66 u67 u68 u69 u70 u71 u72 u73 u74 : Value, a = { tmps := #[.string s, .int .i64 p, u2, u3, u4, u5, u6, u7, .int .u64 x, .int .u8 c, .int .i64 0, .string r, .int .i64 k, u13, u14, u15, u16, u17, u18, u19, u20, u21, u22, u23, u24, u25, u26, u27, u28, u29, u30, u31, u32, u33, u34, u35, u36, u37, u38, u39, u40, u41, u42, u43, u44, u45, u46, u47, u48, u49, u50, u51, u52, u53, u54, u55, u56, u57, u58, u59, u60, u61, u62, u63, u64, u65, u66, u67, u68, u69, u70, u71, u72, u73, u74], defers := [] } ∧ k ≤ 9 ∧ x < 2 ^ (7 * k) ∧ V = rd s p (10 - k) k x ∧ p + k < s.size ∧ c = byteAt s (p + k) ∧ (c < 128 ∨ k = 9) := by
  obtain ⟨hw, hd, hn, ⟨h0, h1, h8, h9, h10, h11, h12⟩, hf⟩ := h
  refine ⟨hw, a.tmps.getD 2 undef, a.tmps.getD 3 undef, a.tmps.getD 4 undef, a.tmps.getD 5 undef, a.tmps.getD 6 undef, a.tmps.getD 7 undef, a.tmps.getD 13 undef, a.tmps.getD 14 undef, a.tmps.getD 15 undef, a.tmps.getD 16 undef, a.tmps.getD 17 undef, a.tmps.getD 18 undef, a.tmps.getD 19 undef, a.tmps.getD 20 undef, a.tmps.getD 21 undef, a.tmps.getD 22 undef, a.tmps.getD 23 undef, a.tmps.getD 24 undef, a.tmps.getD 25 undef, a.tmps.getD 26 undef, a.tmps.getD 27 undef, a.tmps.getD 28 undef, a.tmps.getD 29 undef, a.tmps.getD 30 undef, a.tmps.getD 31 undef, a.tmps.getD 32 undef, a.tmps.getD 33 undef, a.tmps.getD 34 undef, a.tmps.getD 35 undef, a.tmps.getD 36 undef, a.tmps.getD 37 undef, a.tmps.getD 38 undef, a.tmps.getD 39 undef, a.tmps.getD 40 undef, a.tmps.getD 41 undef, a.tmps.getD 42 undef, a.tmps.getD 43 undef, a.tmps.getD 44 undef, a.tmps.getD 45 undef, a.tmps.getD 46 undef, a.tmps.getD 47 undef, a.tmps.getD 48 undef, a.tmps.getD 49 undef, a.tmps.getD 50 undef, a.tmps.getD 51 undef, a.tmps.getD 52 undef, a.tmps.getD 53 undef, a.tmps.getD 54 undef, a.tmps.getD 55 undef, a.tmps.getD 56 undef, a.tmps.getD 57 undef, a.tmps.getD 58 undef, a.tmps.getD 59 undef, a.tmps.getD 60 undef, a.tmps.getD 61 undef, a.tmps.getD 62 undef, a.tmps.getD 63 undef, a.tmps.getD 64 undef, a.tmps.getD 65 undef, a.tmps.getD 66 undef, a.tmps.getD 67 undef, a.tmps.getD 68 undef, a.tmps.getD 69 undef, a.tmps.getD 70 undef, a.tmps.getD 71 undef, a.tmps.getD 72 undef, a.tmps.getD 73 undef, a.tmps.getD 74 undef, ?_, hf⟩
  obtain ⟨t, d⟩ := a
  simp only at hd hn h0 h1 h8 h9 h10 h11 h12
  subst hd
  rw [← h0, ← h1, ← h8, ← h9, ← h10, ← h11, ← h12]
  exact congrArg (fun z => ({ tmps := z, defers := [] } : Act)) (arr_eq t 75 hn)
def Wrong (V : Int × Int × Int) (w0 : World) (code : Int) (a : Act) (w : World) : Prop := w = w0 ∧ a.defers = [] ∧ a.tmps.size = 75 ∧ (a.tmps.getD 10 undef = .int .i64 code) ∧ V = (0, 0, code) ∧ code ≠ 0
set_option maxRecDepth 100000 in
theorem Wrong.open_ {V : Int × Int × Int} {w0 : World} {code : Int} (a : Act) (w : World) (h : Wrong V w0 code a w) : w = w0 ∧ ∃ u0 u1 u2 u3 u4 u5 u6 u7 u8 u9 u11 u12 u13 u14 u15 u16 u17 u18 u19 u20 u21 u22 u23 u24 u25 u26 u27 u28 u29 u30 u31 u32 u33 u34 u35 u36 u37 u38 u39 u40 u41 u42 u43 u44 u45 u46 u47 u48 u49 u50 u51 u52 u53 u54 u55 u56 u57 u58 u59 u60 u61 u62 u63 u64 u65 u66 u67 u68 u69 u70 u71 u72 u73 u74 : Value, a = { tmps := #[u0, u1, u2, u3, u4, u5, u6, u7, u8, u9, .int .i64 code, u11, u12, u13, u14, u15, u16, u17, u18, u19, u20, u21, u22, u23, u24, u25, u26, u27, u28, u29, u30, u31, u32, u33, u34, u35, u36, u37, u38, u39, u40, u41, u42, u43, u44, u45, u46, u47, u48, u49, u50, u51, u52, u53, u54, u55, u56, u57, u58, u59, u60, u61, u62, u63, u64, u65, u66, u67, u68, u69, u70, u71, u72, u73, u74], defers := [] } ∧ V = (0, 0, code) ∧ code ≠ 0 := by
  obtain ⟨hw, hd, hn, h10, hf⟩ := h
  refine ⟨hw, a.tmps.getD 0 undef, a.tmps.getD 1 undef, a.tmps.getD 2 undef, a.tmps.getD 3 undef, a.tmps.getD 4 undef, a.tmps.getD 5 undef, a.tmps.getD 6 undef, a.tmps.getD 7 undef, a.tmps.getD 8 undef, a.tmps.getD 9 undef, a.tmps.getD 11 undef, a.tmps.getD 12 undef, a.tmps.getD 13 undef, a.tmps.getD 14 undef, a.tmps.getD 15 undef, a.tmps.getD 16 undef, a.tmps.getD 17 undef, a.tmps.getD 18 undef, a.tmps.getD 19 undef, a.tmps.getD 20 undef, a.tmps.getD 21 undef, a.tmps.getD 22 undef, a.tmps.getD 23 undef, a.tmps.getD 24 undef, a.tmps.getD 25 undef, a.tmps.getD 26 undef, a.tmps.getD 27 undef, a.tmps.getD 28 undef, a.tmps.getD 29 undef, a.tmps.getD 30 undef, a.tmps.getD 31 undef, a.tmps.getD 32 undef, a.tmps.getD 33 undef, a.tmps.getD 34 undef, a.tmps.getD 35 undef, a.tmps.getD 36 undef, a.tmps.getD 37 undef, a.tmps.getD 38 undef, a.tmps.getD 39 undef, a.tmps.getD 40 undef, a.tmps.getD 41 undef, a.tmps.getD 42 undef, a.tmps.getD 43 undef, a.tmps.getD 44 undef, a.tmps.getD 45 undef, a.tmps.getD 46 undef, a.tmps.getD 47 undef, a.tmps.getD 48 undef, a.tmps.getD 49 undef, a.tmps.getD 50 undef, a.tmps.getD 51 undef, a.tmps.getD 52 undef, a.tmps.getD 53 undef, a.tmps.getD 54 undef, a.tmps.getD 55 undef, a.tmps.getD 56 undef, a.tmps.getD 57 undef, a.tmps.getD 58 undef, a.tmps.getD 59 undef, a.tmps.getD 60 undef, a.tmps.getD 61 undef, a.tmps.getD 62 undef, a.tmps.getD 63 undef, a.tmps.getD 64 undef, a.tmps.getD 65 undef, a.tmps.getD 66 undef, a.tmps.getD 67 undef, a.tmps.getD 68 undef, a.tmps.getD 69 undef, a.tmps.getD 70 undef, a.tmps.getD 71 undef, a.tmps.getD 72 undef, a.tmps.getD 73 undef, a.tmps.getD 74 undef, ?_, hf⟩
  obtain ⟨t, d⟩ := a
  simp only at hd hn h10
  subst hd
  rw [← h10]
  exact congrArg (fun z => ({ tmps := z, defers := [] } : Act)) (arr_eq t 75 hn)
def Js (s r : ByteArray) (p : Nat) (V : Int × Int × Int) (w0 : World) (l : Nat) (a : Act) (w : World) : Prop :=
  (l = 1 ∧ ∃ k x, More s r p V w0 k x a w) ∨ (l = 2 ∧ ∃ k x c, Last s r p V w0 k x c a w) ∨ (l = 0 ∧ ∃ code, Wrong V w0 code a w)
def μs (l : Nat) (a : Act) (_ : World) : Nat := if l = 1 then 20 - (intOf (a.tmps.getD 12 undef)).toNat else if l = 2 then 2 else 1
theorem rd_end {s : ByteArray} {p k x : Nat} (hk : k ≤ 9) (h : s.size ≤ p + k) : rd s p (10 - k) k x = (0, 0, 4) := by
  rw [show 10 - k = (9 - k) + 1 by omega, rd, if_pos h]
theorem rd_more {s : ByteArray} {p k x c : Nat} (hk : k < 9) (h : p + k < s.size) (hc : c = byteAt s (p + k)) (h128 : 128 ≤ c) :
    rd s p (10 - k) k x = rd s p (10 - (k + 1)) (k + 1) (x + (c - 128) * 2 ^ (7 * k)) := by
  subst hc
  rw [show 10 - k = (9 - k) + 1 by omega, rd, if_neg (by omega), if_neg (by omega), if_neg (by omega), show 10 - (k + 1) = 9 - k by omega]
theorem rd_bad {s : ByteArray} {p k x c : Nat} (hk : k ≤ 9) (h : p + k < s.size) (hc : c = byteAt s (p + k)) (hl : c < 128 ∨ k = 9) (hb : (k = 9 ∧ 1 < c) ∨ (0 < k ∧ c = 0)) :
    rd s p (10 - k) k x = (0, 0, 3) := by
  subst hc
  rw [show 10 - k = (9 - k) + 1 by omega, rd, if_neg (by omega)]
  by_cases h9 : k = 9 ∧ 1 < byteAt s (p + k)
  · rw [if_pos h9]
  · rw [if_neg h9, if_pos (by omega), if_pos (by omega)]
theorem rd_last {s : ByteArray} {p k x c : Nat} (hk : k ≤ 9) (h : p + k < s.size) (hc : c = byteAt s (p + k)) (hl : c < 128 ∨ k = 9) (hb : ¬ ((k = 9 ∧ 1 < c) ∨ (0 < k ∧ c = 0))) :
    rd s p (10 - k) k x = (unf (x + c * 2 ^ (7 * k)), (p : Int) + k + 1, 0) := by
  subst hc
  rw [show 10 - k = (9 - k) + 1 by omega, rd, if_neg (by omega), if_neg (by omega), if_pos (by omega), if_neg (by omega)]
set_option maxHeartbeats 2000000 in
set_option maxRecDepth 100000 in
theorem pass_more (s r : ByteArray) (p : Nat) (V : Int × Int × Int) (w : World) (_ : (s.size : Int) ≤ 8000) (hp : (p : Int) ≤ s.size) (HRS : Hid (r.size = s.size - p)) (HRB : Hid (∀ k (h : k < r.size), r[k].toNat = byteAt s (p + k))) (k x : Nat) (a : Act) (w1 : World) (h : More s r p V w k x a w1) :
    ∃ c', findLabel (scopeOf Tryd.f28.body) 1 = some c' ∧ c'.wp Tryd.prog (jumps (fun l' a' w' => Js s r p V w l' a' w' ∧ μs l' a' w' < μs 1 a w1) (bodyPost Tryd.prog Tryd.f28 fun e w' => e = .returned (.tuple #[.int .i64 V.1, .int .i64 V.2.1, errV V.2.2]) ∧ w = w')) a w1 := by
  obtain ⟨rfl, u2, u3, u4, u5, u6, u7, u9, u13, u14, u15, u16, u17, u18, u19, u20, u21, u22, u23, u24, u25, u26, u27, u28, u29, u30, u31, u32, u33, u34, u35, u36, u37, u38, u39, u40, u41, u42, u43, u44, u45, u46, u47, u48, u49, u50, u51, u52, u53, u54, u55, u56, u57, u58, u59, u60, u61, u62, u63, u64, u65, u66, u67, u68, u69, u70, u71, u72, u73, u74, rfl, hk, hpk, hx, hv⟩ := h.open_
  have hkr : (k : Int) ≤ 9 := by omega
  refine ⟨_, rfl, ?_⟩
  by_cases hz : r.size ≤ k
  · have hq : ((k : Int) == (r.size : Int)) = true := by have := HRS.out; simp; omega
    have hend := rd_end (s := s) (p := p) (k := k) (x := x) (by omega) (by have := HRS.out; omega)
    have HE := Lib.hid (hv.trans hend)
    clear hz hend hv hx
    go_wp2
    go_step3
    show Js s r p V w1 0 _ w1 ∧ μs 0 _ w1 < μs 1 _ w1
    exact ⟨Or.inr (Or.inr ⟨rfl, 4, rfl, rfl, rfl, rfl, HE.out, by decide⟩), by simp [μs, intOf] <;> omega⟩
  · have hlt : k < r.size := by omega
    have hq : ((k : Int) == (r.size : Int)) = false := by simp; omega
    have hps : p + k < s.size := by have := HRS.out; omega
    have hcb := HRB.out k hlt
    have hc256 := byteAt_lt s (p + k)
    rw [← hcb] at hc256
    have hx' := Lib.hid hx
    by_cases hl : r[k].toNat < 128
    · have hl' : (r[k].toNat : Int) < 128 := by omega
      have HC := Lib.hid hcb
      have HV0 := Lib.hid hv
      clear hz hcb hv hx
      go_wp2
      go_step3
      show Js s r p V w1 2 _ w1 ∧ μs 2 _ w1 < μs 1 _ w1
      exact ⟨Or.inr (Or.inl ⟨rfl, k, x, r[k].toNat, rfl, rfl, rfl, ⟨rfl, rfl, rfl, rfl, rfl, rfl, rfl⟩, hk, hx'.out, HV0.out, hps, HC.out, .inl hl⟩), by simp [μs, intOf] <;> omega⟩
    · have hl' : (128 : Int) ≤ r[k].toNat := by omega
      by_cases h9 : k = 9
      · have h9' : ((k : Int) == 9) = true := by simp; omega
        have HC := Lib.hid hcb
        have HV0 := Lib.hid hv
        have H9 := Lib.hid h9
        clear hz hcb hv hx h9
        go_wp2
        go_step3
        show Js s r p V w1 2 _ w1 ∧ μs 2 _ w1 < μs 1 _ w1
        exact ⟨Or.inr (Or.inl ⟨rfl, k, x, r[k].toNat, rfl, rfl, rfl, ⟨rfl, rfl, rfl, rfl, rfl, rfl, rfl⟩, hk, hx'.out, HV0.out, hps, HC.out, .inr H9.out⟩), by simp [μs, intOf] <;> omega⟩
      · have h9' : ((k : Int) == 9) = false := by simp; omega
        have hm := rd_more (s := s) (p := p) (k := k) (x := x) (c := r[k].toNat) (by omega) hps hcb (by omega)
        have hab := acc_bd (c := r[k].toNat - 128) (by omega) hx (by omega) (by omega)
        have hwr := wrap_acc (x := x) (c := r[k].toNat - 128) (k := k) ((r[k].toNat : Int) - 128) (by omega) hab.1
        obtain ⟨y, hy⟩ : ∃ y, y = x + (r[k].toNat - 128) * 2 ^ (7 * k) := ⟨_, rfl⟩
        rw [← hy] at hwr hm hab
        have HB := Lib.hid (hab.2 (by omega))
        have HM := Lib.hid (hv.trans hm)
        have hk8 : k < 9 := by omega
        clear hz hcb hv hx h9 hm hab hy
        go_wp2
        go_step3
        show Js s r p V w1 1 _ w1 ∧ μs 1 _ w1 < μs 1 _ w1
        exact ⟨Or.inl ⟨rfl, k + 1, y, rfl, rfl, rfl, ⟨rfl, rfl, rfl, rfl, rfl, rfl⟩, by omega, by omega, HB.out, HM.out⟩, by simp [μs, intOf] <;> omega⟩
set_option maxHeartbeats 2000000 in
set_option maxRecDepth 100000 in
theorem pass_last (s r : ByteArray) (p : Nat) (V : Int × Int × Int) (w : World) (_ : (s.size : Int) ≤ 8000) (hp : (p : Int) ≤ s.size) (_ : Hid (r.size = s.size - p)) (_ : Hid (∀ k (h : k < r.size), r[k].toNat = byteAt s (p + k))) (k x c : Nat) (a : Act) (w1 : World) (h : Last s r p V w k x c a w1) :
    ∃ c', findLabel (scopeOf Tryd.f28.body) 2 = some c' ∧ c'.wp Tryd.prog (jumps (fun l' a' w' => Js s r p V w l' a' w' ∧ μs l' a' w' < μs 2 a w1) (bodyPost Tryd.prog Tryd.f28 fun e w' => e = .returned (.tuple #[.int .i64 V.1, .int .i64 V.2.1, errV V.2.2]) ∧ w = w')) a w1 := by
  obtain ⟨rfl, u2, u3, u4, u5, u6, u7, u13, u14, u15, u16, u17, u18, u19, u20, u21, u22, u23, u24, u25, u26, u27, u28, u29, u30, u31, u32, u33, u34, u35, u36, u37, u38, u39, u40, u41, u42, u43, u44, u45, u46, u47, u48, u49, u50, u51, u52, u53, u54, u55, u56, u57, u58, u59, u60, u61, u62, u63, u64, u65, u66, u67, u68, u69, u70, u71, u72, u73, u74, rfl, hk, hx, hv, hps, hcb, hl⟩ := h.open_
  have hc256 := byteAt_lt s (p + k)
  rw [← hcb] at hc256
  have hcI : (c : Int) < 256 := by omega
  have hkI : (k : Int) ≤ 9 := by omega
  refine ⟨_, rfl, ?_⟩
  by_cases hb : (k = 9 ∧ 1 < c) ∨ (0 < k ∧ c = 0)
  · have HE := Lib.hid (hv.trans (rd_bad hk hps hcb hl hb))
    have hcs : (((k : Int) == 9) = true ∧ (1 : Int) < c) ∨ (((k : Int) == 9) = true ∧ (c : Int) ≤ 1 ∧ 0 < k ∧ ((c : Int) == 0) = true) ∨ (((k : Int) == 9) = false ∧ 0 < k ∧ ((c : Int) == 0) = true) := by
      by_cases h9 : k = 9
      · by_cases h1 : 1 < c
        · exact .inl ⟨by simp; omega, by omega⟩
        · exact .inr (.inl ⟨by simp; omega, by omega, by omega, by simp; omega⟩)
      · exact .inr (.inr ⟨by simp; omega, by omega, by simp; omega⟩)
    clear hv hx hl hb hcb
    rcases hcs with ⟨q1, q2⟩ | ⟨q1, q2, q3, q4⟩ | ⟨q1, q2, q3⟩
    all_goals
      go_wp2
      all_goals first
        | (exfalso; omega)
        | (go_step3
           show Js s r p V w1 0 _ w1 ∧ μs 0 _ w1 < μs 2 _ w1
           exact ⟨Or.inr (Or.inr ⟨rfl, 3, rfl, rfl, rfl, rfl, HE.out, by decide⟩), by simp [μs]⟩)
  · have HE := Lib.hid (hv.trans (rd_last hk hps hcb hl hb))
    have hcs : (((k : Int) == 9) = true ∧ (c : Int) ≤ 1 ∧ 0 < k ∧ ((c : Int) == 0) = false) ∨ (((k : Int) == 9) = false ∧ 0 < k ∧ ((c : Int) == 0) = false) ∨ (((k : Int) == 9) = false ∧ ¬ 0 < k) := by
      by_cases h9 : k = 9
      · exact .inl ⟨by simp; omega, by omega, by omega, by simp; omega⟩
      · by_cases h0 : 0 < k
        · exact .inr (.inl ⟨by simp; omega, by omega, by simp; omega⟩)
        · exact .inr (.inr ⟨by simp; omega, by omega⟩)
    have hab := acc_bd (c := c) hk hx (by omega) (by omega)
    have hwr := wrap_acc (x := x) (c := c) (k := k) (c : Int) rfl hab.1
    obtain ⟨y, hy⟩ : ∃ y, y = x + c * 2 ^ (7 * k) := ⟨_, rfl⟩
    rw [← hy] at hwr HE hab
    have hyb : (y : Int) ≤ 18446744073709551615 := by omega
    have hV1 : V.1 = unf y := by rw [HE.out]
    have hV2 : V.2.1 = (p : Int) + k + 1 := by rw [HE.out]
    have hV3 : errV V.2.2 = .nilIface := by rw [HE.out]; rfl
    have HV1 := Lib.hid hV1
    have HV2 := Lib.hid hV2
    have HV3 := Lib.hid hV3
    clear hv hx hl hb hcb hab hy hV1 hV2 hV3 HE
    rcases hcs with ⟨q1, q2, q3, q4⟩ | ⟨q1, q2, q3⟩ | ⟨q1, q2⟩
    all_goals
      go_wp2_with (go_at_call 36; refine (unfolded_any y hyb _).mono ?_; rintro e w3 ⟨rfl, rfl⟩)
      all_goals first
        | (exfalso; omega)
        | (rw [jumps_ret]
           go_ret3
           exact ⟨by rw [HV1.out, HV2.out, HV3.out]; rfl, rfl⟩)
set_option maxHeartbeats 2000000 in
set_option maxRecDepth 100000 in
theorem pass_wrong (s r : ByteArray) (p : Nat) (V : Int × Int × Int) (w : World) (code : Int) (a : Act) (w1 : World) (h : Wrong V w code a w1) :
    ∃ c', findLabel (scopeOf Tryd.f28.body) 0 = some c' ∧ c'.wp Tryd.prog (jumps (fun l' a' w' => Js s r p V w l' a' w' ∧ μs l' a' w' < μs 0 a w1) (bodyPost Tryd.prog Tryd.f28 fun e w' => e = .returned (.tuple #[.int .i64 V.1, .int .i64 V.2.1, errV V.2.2]) ∧ w = w')) a w1 := by
  obtain ⟨rfl, u0, u1, u2, u3, u4, u5, u6, u7, u8, u9, u11, u12, u13, u14, u15, u16, u17, u18, u19, u20, u21, u22, u23, u24, u25, u26, u27, u28, u29, u30, u31, u32, u33, u34, u35, u36, u37, u38, u39, u40, u41, u42, u43, u44, u45, u46, u47, u48, u49, u50, u51, u52, u53, u54, u55, u56, u57, u58, u59, u60, u61, u62, u63, u64, u65, u66, u67, u68, u69, u70, u71, u72, u73, u74, rfl, hv, hne⟩ := h.open_
  refine ⟨_, rfl, ?_⟩
  have hV3 : errV V.2.2 = wrong code := by rw [hv]; exact if_neg hne
  have hV1 : V.1 = 0 := by rw [hv]
  have hV2 : V.2.1 = 0 := by rw [hv]
  have HV1 := Lib.hid hV1
  have HV2 := Lib.hid hV2
  have HV3 := Lib.hid hV3
  clear hv hV1 hV2 hV3
  go_wp2
  rw [jumps_ret]
  go_ret3
  exact ⟨by rw [HV1.out, HV2.out, HV3.out]; rfl, rfl⟩
set_option maxHeartbeats 2000000 in
set_option maxRecDepth 100000 in
theorem readNum_in (s : ByteArray) (p : Nat) (hs : (s.size : Int) ≤ 8000) (hp : (p : Int) ≤ s.size) (w : World) :
    Calls Tryd.prog 28 #[.string s, .int .i64 p] w fun e w' => e = .returned (.tuple #[.int .i64 (rd s p 10 0 0).1, .int .i64 (rd s p 10 0 0).2.1, errV (rd s p 10 0 0).2.2]) ∧ w = w' := by
  obtain ⟨r, hr⟩ : ∃ r, s.extract p s.size = r := ⟨_, rfl⟩
  obtain ⟨V, hV⟩ : ∃ V, rd s p 10 0 0 = V := ⟨_, rfl⟩
  have hpl : placeC s p = 0 := by unfold placeC; rw [if_neg (by omega), if_neg (by omega), if_neg (by omega)]
  have hsm : s.size ≤ maxLen := by unfold maxLen; omega
  have hrs : r.size = s.size - p := by rw [← hr, ByteArray.size_extract]; omega
  have hrb : ∀ k (h : k < r.size), r[k].toNat = byteAt s (p + k) := by
    intro k h
    subst hr
    rw [byteAt_eq (by omega), ByteArray.getElem_extract]
  have HRS := Lib.hid hrs
  have HRB := Lib.hid hrb
  clear hrs hrb
  have HSM := Lib.hid hsm
  have HPL := Lib.hid hpl
  have HV := Lib.hid hV
  rw [hV]
  clear hsm hpl hV
  go_enter Tryd.func28, Tryd.ntmps28
  go_wp2
  refine wp_labels (Js s r p V w) μs ?_ (fun l a w1 hJ => ?_)
  · go_wp2_with fail
    refine (place_any s p HSM.out _).mono ?_
    rintro e w1 ⟨rfl, rfl⟩
    rw [HPL.out, show errV 0 = .nilIface from rfl]
    go_wp2
    go_step3
    have hV0 := HV.out
    by_cases hz : r.size = 0
    · have hq : ((0 : Int) == (r.size : Int)) = true := by simp; omega
      have hend := rd_end (s := s) (p := p) (k := 0) (x := 0) (by omega) (by have := HRS.out; omega)
      have HE := Lib.hid (hV0.symm.trans hend)
      clear hz hend hV0
      go_wp2
      go_step3
      show Js s r p V w 0 _ w
      exact Or.inr (Or.inr ⟨rfl, 4, rfl, rfl, rfl, rfl, HE.out, by decide⟩)
    · have hlt : 0 < r.size := by omega
      have hq : ((0 : Int) == (r.size : Int)) = false := by simp; omega
      have hps : p + 0 < s.size := by have := HRS.out; omega
      have hcb := HRB.out 0 hlt
      have hc256 := byteAt_lt s (p + 0)
      rw [← hcb] at hc256
      by_cases h128 : r[0].toNat < 128
      · have h128' : (r[0].toNat : Int) < 128 := by omega
        have HC := Lib.hid hcb
        have HV0 := Lib.hid hV0
        clear hz hcb hV0
        go_wp2
        go_step3
        show Js s r p V w 2 _ w
        exact Or.inr (Or.inl ⟨rfl, 0, 0, r[0].toNat, rfl, rfl, rfl, ⟨rfl, rfl, rfl, rfl, rfl, rfl, rfl⟩, by omega, by simp, HV0.out.symm, hps, HC.out, .inl h128⟩)
      · have h128' : (128 : Int) ≤ r[0].toNat := by omega
        have hm := rd_more (s := s) (p := p) (k := 0) (x := 0) (c := r[0].toNat) (by omega) hps hcb (by omega)
        have hm' : V = rd s p (10 - (0 + 1)) (0 + 1) (r[0].toNat - 128) := by rw [← hV0, hm]; simp
        obtain ⟨y, hy⟩ : ∃ y, y = r[0].toNat - 128 := ⟨_, rfl⟩
        rw [← hy] at hm'
        have hyy : (r[0].toNat : Int) - 128 = (y : Int) := by omega
        have hyb : y < 128 := by omega
        have HM := Lib.hid hm'
        clear hz hcb hV0 hm hm' hy
        go_wp2
        all_goals first
          | (exfalso; omega)
          | (go_step3
             show Js s r p V w 1 _ w
             exact Or.inl ⟨rfl, 1, y, rfl, rfl, rfl, ⟨rfl, rfl, rfl, rfl, rfl, rfl⟩, by omega, by omega, by simpa using hyb, HM.out⟩)
  · rcases hJ with ⟨rfl, k, x, hJ⟩ | ⟨rfl, k, x, c, hJ⟩ | ⟨rfl, code, hJ⟩
    · exact pass_more s r p V w hs hp HRS HRB k x a w1 hJ
    · exact pass_last s r p V w hs hp HRS HRB k x c a w1 hJ
    · exact pass_wrong s r p V w code a w1 hJ
theorem readNum_any (s : ByteArray) (p : Int) (hs : s.size ≤ maxLen) (w : World) :
    Calls Tryd.prog 28 #[.string s, .int .i64 p] w fun e w' => e = .returned (.tuple #[.int .i64 (getV s p).1, .int .i64 (getV s p).2.1, errV (getV s p).2.2]) ∧ w = w' := by
  by_cases hpl : placeC s p = 0
  · unfold placeC at hpl
    by_cases h1 : 8000 < s.size
    · rw [if_pos h1] at hpl; simp at hpl
    rw [if_neg h1] at hpl
    by_cases h2 : p < 0
    · rw [if_pos h2] at hpl; simp at hpl
    rw [if_neg h2] at hpl
    by_cases h3 : (s.size : Int) < p
    · rw [if_pos h3] at hpl; simp at hpl
    unfold getV
    rw [if_neg h1, if_neg h2]
    obtain ⟨q, rfl⟩ := Int.eq_ofNat_of_zero_le (show 0 ≤ p by omega)
    exact readNum_in s q (by omega) (by omega) w
  · have hg : getV s p = (0, 0, placeC s p) := by
      unfold getV placeC at *
      by_cases h1 : 8000 < s.size
      · rw [if_pos h1, if_pos h1]
      rw [if_neg h1] at hpl
      rw [if_neg h1, if_neg h1]
      by_cases h2 : p < 0
      · rw [if_pos h2, if_pos h2]
      rw [if_neg h2] at hpl
      rw [if_neg h2, if_neg h2]
      by_cases h3 : (s.size : Int) < p
      · rw [if_pos h3]
        exact rd_end (k := 0) (by omega) (by omega)
      · rw [if_neg h3] at hpl; exact absurd rfl hpl
    rw [hg]
    have he : errV (placeC s p) = wrong (placeC s p) := if_neg hpl
    have HE := Lib.hid he
    clear hg he hpl
    rw [HE.out]
    unfold wrong
    go_enter Tryd.func28, Tryd.ntmps28
    go_wp2
    go_step3
    go_wp2_with fail
    refine (place_any s p hs _).mono ?_
    rintro e w1 ⟨rfl, rfl⟩
    rw [HE.out]
    unfold wrong
    go_wp2
    rw [Exit.noGoto_ret]
    go_ret3
    exact ⟨rfl, rfl⟩
end Go.Proofs.YtgmbpohbjhaghaaDoor.read
