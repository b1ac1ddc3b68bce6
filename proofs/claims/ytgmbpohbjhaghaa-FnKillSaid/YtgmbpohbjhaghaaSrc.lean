/-
  Where the draws' bytes come from: a source in memory; a number below another one. For every source.
-/
import Derived.Test.YtgmbpohbjhaghaaBase
import Derived.BigQuiet
import Derived.Laws.Bits64
import Derived.Deep.RegionHeld3
namespace Go.Proofs.Ytgmbpohbjhaghaa.src
open Go.ChangeShapes Go.WideShapes Go.ChangeAt Go.RowKit
/-- a source in the block g: its bytes from a on, n of them; k are read -/
structure SrcC (N g : Nat) (a : Option Addr) (n C k : Nat) (m z : Int) (w : World) : Prop where
  b_ : w.cell? ⟨g, 0, none⟩ = some (.slice a n C)
  k_ : w.cell? ⟨g, 1, none⟩ = some (.int .i64 k)
  m_ : w.cell? ⟨g, 2, none⟩ = some (.int .u64 m)
  z_ : w.cell? ⟨g, 3, none⟩ = some (.int .i64 z)
  f_ : ∀ o, w.frozen? ⟨g, o, none⟩ = false
  kn : k ≤ n
  nn : n ≤ 1048576
  mm : 0 ≤ m ∧ m < 18446744073709551616
  zz : 0 ≤ z ∧ z ≤ 12
  bytes : ∀ i, i < n → ∃ (b o v : Nat), a = some ⟨b, o, none⟩ ∧ (b ≠ g ∧ b < N) ∧ v < 256 ∧ w.cell? ⟨b, o + i, none⟩ = some (.int .u8 v)
def Src (N g : Nat) (w : World) : Prop := ∃ a n C k m z, SrcC N g a n C k m z w
section
variable {N g : Nat} {a : Option Addr} {n C k : Nat} {m z : Int} {w : World}
theorem SrcC.of_heap (h : SrcC N g a n C k m z w) {w' : World} (e : w'.heap = w.heap) : SrcC N g a n C k m z w' := by
  have hc : ∀ p, w'.cell? p = w.cell? p := fun p => World.cell?_of_block (by rw [e])
  have hf : ∀ p, w'.frozen? p = w.frozen? p := fun p => World.frozen?_of_block (by rw [e])
  exact ⟨(hc _).trans h.b_, (hc _).trans h.k_, (hc _).trans h.m_, (hc _).trans h.z_, fun o => (hf _).trans (h.f_ o), h.kn, h.nn, h.mm, h.zz, fun i hi => by
    obtain ⟨b, o, v, h1, h2, h3, h4⟩ := h.bytes i hi
    exact ⟨b, o, v, h1, h2, h3, (hc _).trans h4⟩⟩
theorem addr_ne {g o o' : Nat} (h : o ≠ o') : (⟨g, o, none⟩ : Addr) ≠ ⟨g, o', none⟩ := fun e => h (by injection e)
theorem addr_nb {b g o o' : Nat} (h : b ≠ g) : (⟨g, o, none⟩ : Addr) ≠ ⟨b, o', none⟩ := fun e => h (by injection e with e; exact e.symm)
theorem SrcC.setK (h : SrcC N g a n C k m z w) {k' : Nat} (hk : k' ≤ n) : SrcC N g a n C k' m z (w.setCell ⟨g, 1, none⟩ (.int .i64 (k' : Nat))) :=
  ⟨(set_other (addr_ne (by omega))).trans h.b_, set_same h.k_, (set_other (addr_ne (by omega))).trans h.m_, (set_other (addr_ne (by omega))).trans h.z_, fun o => by rw [World.frozen?_setCell]; exact h.f_ o, hk, h.nn, h.mm, h.zz, fun i hi => by
    obtain ⟨b, o, v, h1, h2, h3, h4⟩ := h.bytes i hi
    exact ⟨b, o, v, h1, h2, h3, (set_other (addr_nb h2.1)).trans h4⟩⟩
theorem SrcC.setM (h : SrcC N g a n C k m z w) {m' : Nat} (hm : m' < 18446744073709551616) : SrcC N g a n C k (m' : Nat) z (w.setCell ⟨g, 2, none⟩ (.int .u64 (m' : Nat))) :=
  ⟨(set_other (addr_ne (by omega))).trans h.b_, (set_other (addr_ne (by omega))).trans h.k_, set_same h.m_, (set_other (addr_ne (by omega))).trans h.z_, fun o => by rw [World.frozen?_setCell]; exact h.f_ o, h.kn, h.nn, by omega, h.zz, fun i hi => by
    obtain ⟨b, o, v, h1, h2, h3, h4⟩ := h.bytes i hi
    exact ⟨b, o, v, h1, h2, h3, (set_other (addr_nb h2.1)).trans h4⟩⟩
theorem SrcC.grown (h : SrcC N g a n C k m z w) {w' : World} {r : Option Nat} (hg : w.grownBy w' r) (h1 : some g ≠ r) (h2 : ∀ b o, 0 < n → a = some ⟨b, o, none⟩ → some b ≠ r) : SrcC N g a n C k m z w' := by
  have hb : w'.heap[g]? = w.heap[g]? := hg.block g (blk_lt h.b_) h1
  have hc : ∀ o, w'.cell? ⟨g, o, none⟩ = w.cell? ⟨g, o, none⟩ := fun o => World.cell?_of_block (a := ⟨g, o, none⟩) hb
  have hf : ∀ o, w'.frozen? ⟨g, o, none⟩ = w.frozen? ⟨g, o, none⟩ := fun o => World.frozen?_of_block (a := ⟨g, o, none⟩) hb
  exact ⟨(hc _).trans h.b_, (hc _).trans h.k_, (hc _).trans h.m_, (hc _).trans h.z_, fun o => (hf _).trans (h.f_ o), h.kn, h.nn, h.mm, h.zz, fun i hi => by
    obtain ⟨b, o, v, e1, e2, e3, e4⟩ := h.bytes i hi
    exact ⟨b, o, v, e1, e2, e3, (World.cell?_of_block (a := ⟨b, o + i, none⟩) (hg.block b (blk_lt e4) (h2 b o (by omega) e1))).trans e4⟩⟩
end
theorem grown_trans {A B C : World} {r : Option Nat} (h : A.grownBy B r) (k : B.grownBy C r) : A.grownBy C r :=
  ⟨k.os.trans h.os, k.tape.trans h.tape, k.output.trans h.output, Nat.le_trans h.size k.size, fun i hi hne => (k.block i (Nat.lt_of_lt_of_le hi h.size) hne).trans (h.block i hi hne)⟩
theorem grown_set (W : World) (c o : Nat) (v : Value) : W.grownBy (W.setCell ⟨c, o, none⟩ v) (some c) :=
  ⟨rfl, rfl, rfl, by simp [World.setCell], fun k _ hk => Below.heap_setCell _ _ _ _ (fun e => hk (by rw [e]))⟩
theorem grown_drew {A B : World} {r : Option Nat} (h : A.grownBy B r) : A.grownBy B.drew r := ⟨h.os, h.tape, h.output, h.size, h.block⟩
theorem grown_refl (A : World) (r : Option Nat) : A.grownBy A r := ⟨rfl, rfl, rfl, Nat.le_refl _, fun _ _ _ => rfl⟩
theorem grown_drewN {A B : World} {r : Option Nat} (h : A.grownBy B r) (n : Nat) : A.grownBy (B.drewN n) r := ⟨h.os, h.tape, h.output, h.size, h.block⟩
/-- a world, and what is known of it -/
theorem absW {P : World → Prop} {W : World} (R : World → Prop) (hR : R W) (h : ∀ W', R W' → P W') : P W := h W hR
theorem x13 (m : Nat) (h : m < 18446744073709551616) : ∃ m' : Nat, m' < 18446744073709551616 ∧ bits BinOp.xor IntKind.u64 m (IntKind.u64.wrap ((m : Int) * 8192)) = (m' : Int) := by
  rw [IntKind.wrap_u64, show ((m : Int) * 8192) % 18446744073709551616 = ((m * 8192 % 18446744073709551616 : Nat) : Int) by omega, bits_xor_u64_nat _ _ h (by omega)]
  exact ⟨_, Nat.xor_lt_two_pow (n := 64) (by omega) (by omega), rfl⟩
theorem x17 (m : Nat) (h : m < 18446744073709551616) : ∃ m' : Nat, m' < 18446744073709551616 ∧ bits BinOp.xor IntKind.u64 m (IntKind.u64.wrap ((m : Int) * 131072)) = (m' : Int) := by
  rw [IntKind.wrap_u64, show ((m : Int) * 131072) % 18446744073709551616 = ((m * 131072 % 18446744073709551616 : Nat) : Int) by omega, bits_xor_u64_nat _ _ h (by omega)]
  exact ⟨_, Nat.xor_lt_two_pow (n := 64) (by omega) (by omega), rfl⟩
theorem x7 (m : Nat) (h : m < 18446744073709551616) : ∃ m' : Nat, m' < 18446744073709551616 ∧ bits BinOp.xor IntKind.u64 m ((m : Int) / 128) = (m' : Int) := by
  rw [show (m : Int) / 128 = ((m / 128 : Nat) : Int) by omega, bits_xor_u64_nat _ _ h (by omega)]
  exact ⟨_, Nat.xor_lt_two_pow (n := 64) (by omega) (by omega), rfl⟩
theorem rem_in (x most : Int) (h : 1 < most) (hm : most ≤ 9223372036854775807) : 0 ≤ x % most ∧ x % most < most ∧ wrap64 (x % most) = x % most := by
  have h1 := Int.emod_nonneg x (show most ≠ 0 by omega)
  have h2 := Int.emod_lt_of_pos x (show 0 < most by omega)
  exact ⟨h1, h2, IntWalk.wrap64_in _ (by omega)⟩
set_option maxHeartbeats 4000000 in
theorem n_any (N g : Nat) (most : Int) (hm : -9223372036854775808 ≤ most ∧ most ≤ 9223372036854775807) (w : World) (h : Src N g w) :
    Calls Try.prog 60 #[.pointer (some ⟨g, 0, none⟩), .int .i64 most] w fun e w' => ∃ r : Int, e = .returned (.int .i64 r) ∧ 0 ≤ r ∧ (1 ≤ most → r < most) ∧ Src N g w' ∧ w.grownBy w' (some g) := by
  by_cases h1 : most ≤ 1
  · have HS := Lib.hid h
    go_enter Try.func60, Try.ntmps60
    go_wp2
    go_ret
    exact ⟨0, rfl, Int.le_refl _, fun h => by omega, HS.out, ⟨rfl, rfl, rfl, Nat.le_refl _, fun _ _ _ => rfl⟩⟩
  obtain ⟨a, n, C, k, mi, z, hs⟩ := h
  obtain ⟨m, rfl⟩ : ∃ m : Nat, mi = m := ⟨mi.toNat, by have := hs.mm; omega⟩
  have c0 := hs.b_
  have c1 := hs.k_
  have c2 := hs.m_
  have c3 := hs.z_
  have f1 := hs.f_ 1
  have hkn := hs.kn
  have hnn := hs.nn
  have hmm : m < 18446744073709551616 := by have := hs.mm; omega
  by_cases hk : k < n
  · obtain ⟨b, o, v, rfl, hbg, hv, hb⟩ := hs.bytes k hk
    have HS := Lib.hid hs
    clear hs
    have d1 : (k : Int) < (n : Int) := by omega
    have d2 : (0 : Int) ≤ (k : Int) := by omega
    have w1 : IntKind.i64.wrap ((k : Int) + 1) = (k : Int) + 1 := IntWalk.i64_in _ (by omega)
    go_enter Try.func60, Try.ntmps60
    go_wp2
    go_quiet (fail)
    go_wp2
    go_quiet (fail)
    go_wp2
    clear c0 c1 c2 c3 f1 hb
    refine absW (P := fun W => Code.wp _ _ _ _ W) (fun W' => SrcC N g (some ⟨b, o, none⟩) n C (k + 1) m z W' ∧ w.grownBy W' (some g)) ⟨?h1, ?h2⟩ (fun W1 h1 => ?_)
    case h1 =>
      rw [show ((k : Int) + 1) = ((k + 1 : Nat) : Int) from rfl]
      refine SrcC.setK (k := k) ?_ (by omega)
      exact SrcC.of_heap HS.out rfl
    case h2 => exact grown_trans (grown_drewN (grown_refl _ _) _) (grown_set _ _ _ _)
    have c2 := h1.1.m_
    have f2 := h1.1.f_ 2
    go_region
    obtain ⟨m1, hl1, hm1⟩ := x13 m hmm
    rw [hm1]
    refine absW (P := fun W => Exit.then _ _ _ _ W) (fun W' => SrcC N g (some ⟨b, o, none⟩) n C (k + 1) (m1 : Nat) z W' ∧ w.grownBy W' (some g)) ⟨(h1.1.setM hl1).of_heap rfl, grown_drew (grown_trans h1.2 (grown_set _ _ _ _))⟩ (fun W2 h2 => ?_)
    clear h1 hm1 c2 f2 hmm
    have c2 := h2.1.m_
    have f2 := h2.1.f_ 2
    go_wp2
    go_region
    obtain ⟨m2, hl2, hm2⟩ := x7 m1 hl1
    rw [hm2]
    refine absW (P := fun W => Exit.then _ _ _ _ W) (fun W' => SrcC N g (some ⟨b, o, none⟩) n C (k + 1) (m2 : Nat) z W' ∧ w.grownBy W' (some g)) ⟨(h2.1.setM hl2).of_heap rfl, grown_drew (grown_trans h2.2 (grown_set _ _ _ _))⟩ (fun W3 h3 => ?_)
    clear h2 hm2 hl1 c2 f2
    have c2 := h3.1.m_
    have f2 := h3.1.f_ 2
    go_wp2
    go_region
    obtain ⟨m3, hl3, hm3⟩ := x17 m2 hl2
    rw [hm3]
    refine absW (P := fun W => Exit.then _ _ _ _ W) (fun W' => SrcC N g (some ⟨b, o, none⟩) n C (k + 1) (m3 : Nat) z W' ∧ w.grownBy W' (some g)) ⟨(h3.1.setM hl3).of_heap rfl, grown_drew (grown_trans h3.2 (grown_set _ _ _ _))⟩ (fun W4 h4 => ?_)
    clear h3 hm3 hl2 c2 f2
    have c2 := h4.1.m_
    have H4 := Lib.hid h4
    clear h4
    go_wp2
    go_ret
    obtain ⟨r1, r2, r3⟩ := rem_in (↑v + ↑m3 / 1048576) most (by omega) hm.2
    exact ⟨_, rfl, by rw [r3]; exact r1, fun _ => by rw [r3]; exact r2, ⟨_, _, _, _, _, _, H4.out.1⟩, H4.out.2⟩
  · have HS := Lib.hid hs
    clear hs
    have d1 : ¬ (k : Int) < (n : Int) := by omega
    go_enter Try.func60, Try.ntmps60
    go_wp2
    go_quiet (fail)
    go_wp2
    clear c0 c1 c2 c3 f1
    refine absW (P := fun W => Code.wp _ _ _ _ W) (fun W' => SrcC N g a n C k m z W' ∧ w.grownBy W' (some g)) ⟨HS.out.of_heap rfl, grown_drewN (grown_refl _ _) _⟩ (fun W1 h1 => ?_)
    have c2 := h1.1.m_
    have f2 := h1.1.f_ 2
    go_region
    obtain ⟨m1, hl1, hm1⟩ := x13 m hmm
    rw [hm1]
    refine absW (P := fun W => Exit.then _ _ _ _ W) (fun W' => SrcC N g a n C k (m1 : Nat) z W' ∧ w.grownBy W' (some g)) ⟨(h1.1.setM hl1).of_heap rfl, grown_drew (grown_trans h1.2 (grown_set _ _ _ _))⟩ (fun W2 h2 => ?_)
    clear h1 hm1 c2 f2 hmm
    have c2 := h2.1.m_
    have f2 := h2.1.f_ 2
    go_wp2
    go_region
    obtain ⟨m2, hl2, hm2⟩ := x7 m1 hl1
    rw [hm2]
    refine absW (P := fun W => Exit.then _ _ _ _ W) (fun W' => SrcC N g a n C k (m2 : Nat) z W' ∧ w.grownBy W' (some g)) ⟨(h2.1.setM hl2).of_heap rfl, grown_drew (grown_trans h2.2 (grown_set _ _ _ _))⟩ (fun W3 h3 => ?_)
    clear h2 hm2 hl1 c2 f2
    have c2 := h3.1.m_
    have f2 := h3.1.f_ 2
    go_wp2
    go_region
    obtain ⟨m3, hl3, hm3⟩ := x17 m2 hl2
    rw [hm3]
    refine absW (P := fun W => Exit.then _ _ _ _ W) (fun W' => SrcC N g a n C k (m3 : Nat) z W' ∧ w.grownBy W' (some g)) ⟨(h3.1.setM hl3).of_heap rfl, grown_drew (grown_trans h3.2 (grown_set _ _ _ _))⟩ (fun W4 h4 => ?_)
    clear h3 hm3 hl2 c2 f2
    have c2 := h4.1.m_
    have H4 := Lib.hid h4
    clear h4
    go_wp2
    go_ret
    obtain ⟨r1, r2, r3⟩ := rem_in (↑m3 / 1048576) most (by omega) hm.2
    exact ⟨_, rfl, by rw [r3]; exact r1, fun _ => by rw [r3]; exact r2, ⟨_, _, _, _, _, _, H4.out.1⟩, H4.out.2⟩
end Go.Proofs.Ytgmbpohbjhaghaa.src
