/-
  Where the draws' bytes come from: the source is made. For every row of bytes that can be read.
-/
import Derived.Test.YtgmbpohbjhaghaaDraw
namespace Go.Proofs.Ytgmbpohbjhaghaa.src
open Go.ChangeShapes Go.WideShapes Go.ChangeAt Go.RowKit
/-- n bytes from a on, in blocks below N -/
def BytesA (N : Nat) (a : Option Addr) (n : Nat) (w : World) : Prop := ∀ i, i < n → ∃ (b o v : Nat), a = some ⟨b, o, none⟩ ∧ b < N ∧ v < 256 ∧ w.cell? ⟨b, o + i, none⟩ = some (.int .u8 v)
theorem BytesA.below {N : Nat} {a : Option Addr} {n : Nat} {w w' : World} (h : BytesA N a n w) (hb : Below N w w') : BytesA N a n w' := fun i hi => by
  obtain ⟨b, o, v, h1, h2, h3, h4⟩ := h i hi
  exact ⟨b, o, v, h1, h2, h3, (hb.cell (p := ⟨b, o + i, none⟩) h2).trans h4⟩
theorem drew_all {N : Nat} {w w1 w2 : World} (hb : Below w.heap.size w w1) (h : Drew N w.heap.size w1 w2) : Below w.heap.size w w2 :=
  hb.grown h.2 hb.size (fun k e => by injection e with e; omega)
theorem xmul (m v : Nat) (h : m < 18446744073709551616) (hv : v < 256) :
    ∃ m' : Nat, m' < 18446744073709551616 ∧ IntKind.u64.wrap (bits BinOp.xor IntKind.u64 (m : Int) (v : Int) * 1099511628211) = (m' : Int) := by
  rw [bits_xor_u64_nat _ _ h (by omega), IntKind.wrap_u64]
  exact ⟨(m ^^^ v) * 1099511628211 % 18446744073709551616, by omega, by omega⟩
theorem SrcC.setZ {N g : Nat} {a : Option Addr} {n C k : Nat} {m z : Int} {w : World} (h : SrcC N g a n C k m z w) (z' : Int) (hz : 0 ≤ z' ∧ z' ≤ 12) : SrcC N g a n C k m z' (w.setCell ⟨g, 3, none⟩ (.int .i64 z')) :=
  ⟨(set_other (addr_ne (by omega))).trans h.b_, (set_other (addr_ne (by omega))).trans h.k_, (set_other (addr_ne (by omega))).trans h.m_, set_same h.z_, fun o => by rw [World.frozen?_setCell]; exact h.f_ o, h.kn, h.nn, h.mm, hz, fun i hi => by
    obtain ⟨b, o, v, h1, h2, h3, h4⟩ := h.bytes i hi
    exact ⟨b, o, v, h1, h2, h3, (set_other (addr_nb h2.1)).trans h4⟩⟩
theorem SrcC.setZ2 {N g : Nat} {a : Option Addr} {n C k : Nat} {m z : Int} {w : World} (h : SrcC N g a n C k m z w) (z1 z' : Int) (hz : 0 ≤ z' ∧ z' ≤ 12) : SrcC N g a n C k m z' ((w.setCell ⟨g, 3, none⟩ (.int .i64 z1)).setCell ⟨g, 3, none⟩ (.int .i64 z')) :=
  ⟨(set_other (addr_ne (by omega))).trans ((set_other (addr_ne (by omega))).trans h.b_), (set_other (addr_ne (by omega))).trans ((set_other (addr_ne (by omega))).trans h.k_), (set_other (addr_ne (by omega))).trans ((set_other (addr_ne (by omega))).trans h.m_), set_same (set_same h.z_), fun o => by rw [World.frozen?_setCell, World.frozen?_setCell]; exact h.f_ o, h.kn, h.nn, h.mm, hz, fun i hi => by
    obtain ⟨b, o, v, h1, h2, h3, h4⟩ := h.bytes i hi
    exact ⟨b, o, v, h1, h2, h3, (set_other (addr_nb h2.1)).trans ((set_other (addr_nb h2.1)).trans h4)⟩⟩
set_option maxHeartbeats 4000000 in
set_option maxRecDepth 20000 in
theorem source_any (N : Nat) (a : Option Addr) (n C : Nat) (hn : n ≤ 1048576) (w : World) (hb : BytesA N a n w) :
    Calls Try.prog 57 #[.slice a n C] w fun e w' => e = .returned (.pointer (some ⟨w.heap.size, 0, none⟩)) ∧ Src N w.heap.size w' ∧ Below w.heap.size w w' := by
  have hst : SrcC N w.heap.size a n C 0 (88172645463325252 : Nat) 0 (w.alloc (.cells #[.slice a n C, .int .i64 0, .int .u64 88172645463325252, .int .i64 0] 113)) :=
    ⟨by simp [go_sem], by simp [go_sem], by simp [go_sem], by simp [go_sem], fun o => frozen_of_row _ _ _ _ _ (heap_alloc_new w _), Nat.zero_le _, hn, by omega, by omega, fun i hi => by
      obtain ⟨b, o, v, h1, h2, h3, h4⟩ := hb i hi
      have hl := blk_lt h4
      exact ⟨b, o, v, h1, ⟨by omega, h2⟩, h3, (((Below.refl _ w).alloc (Nat.le_refl _) _).cell (p := ⟨b, o + i, none⟩) hl).trans h4⟩⟩
  have HS := Lib.hid hst
  clear hst hb
  obtain ⟨g, hg⟩ : ∃ g, g = w.heap.size := ⟨_, rfl⟩
  have HG := Lib.hid hg
  go_enter Try.func57, Try.ntmps57
  go_wp2
  rw [← hg]
  clear hg
  go_loopw [4] (fun i wr => ∃ k m : Nat, i = .int .i64 (k : Nat) ∧ k ≤ n ∧ SrcC N g a n C 0 (m : Nat) 0 wr ∧ Below g w wr) (fun i _ => n - (intOf i).toNat)
  case atStart => exact ⟨0, _, rfl, Nat.zero_le _, by rw [HG.out]; exact HS.out, by rw [HG.out]; exact (Below.refl _ w).alloc (Nat.le_refl _) _⟩
  case round =>
    obtain ⟨k, m, rfl, hk, hst, hbel⟩ := hrel
    rename World => wr
    have HB := Lib.hid hbel
    have c2 := hst.m_
    have c3 := hst.z_
    have f2 := hst.f_ 2
    have f3 := hst.f_ 3
    have hmm := hst.mm
    by_cases hlt : k < n
    · by_cases h64 : k < 64
      · obtain ⟨b, o, v, rfl, ⟨hbg, _⟩, hv, hcv⟩ := hst.bytes k hlt
        have HS2 := Lib.hid hst
        clear hst hbel
        go_wp2
        go_region
        obtain ⟨m', hl', hm'⟩ := xmul m v (by omega) hv
        rw [hm']
        refine absW (P := fun W => Exit.inBlock 1 (Exit.then _ _) .normal _ W) (fun W' => SrcC N g (some ⟨b, o, none⟩) n C 0 (m' : Nat) 0 W' ∧ Below g w W') ?hr (fun W1 h1 => ?_)
        case hr => exact ⟨(HS2.out.setM hl').of_heap rfl, by first | exact HB.out.setCell (p := ⟨g, 2, none⟩) (Nat.le_refl _) _ | exact (HB.out.setCell (p := ⟨g, 2, none⟩) (Nat.le_refl _) _).drew⟩
        have H1 := Lib.hid h1
        clear h1 hm' hcv c2 c3 f2 f3
        go_wp2
        go_roundw
        case rel => exact ⟨k + 1, m', by go_num, hlt, H1.out.1, H1.out.2⟩
        case measure => simp [intOf]; omega
      · have d64 : ¬ (k : Int) < 64 := by omega
        have HS2 := Lib.hid hst
        clear hst hbel
        go_wp2
        all_goals
          go_ret
          refine ⟨by rw [HG.out]; rfl, ?_, ?_⟩
          · rw [← HG.out]
            first
              | exact ⟨_, _, _, _, _, _, HS2.out.setZ2 _ _ ⟨by omega, by omega⟩⟩
              | exact ⟨_, _, _, _, _, _, HS2.out.setZ _ ⟨by omega, by omega⟩⟩
          · rw [← HG.out]
            repeat (first | exact HB.out | refine Below.setCell (B := g) (p := ⟨g, 3, none⟩) ?_ (Nat.le_refl _) _)
    · have HS2 := Lib.hid hst
      clear hst hbel
      go_wp2
      all_goals
        go_ret
        refine ⟨by rw [HG.out]; rfl, ?_, ?_⟩
        · rw [← HG.out]
          first
            | exact ⟨_, _, _, _, _, _, HS2.out.setZ2 _ _ ⟨by omega, by omega⟩⟩
            | exact ⟨_, _, _, _, _, _, HS2.out.setZ _ ⟨by omega, by omega⟩⟩
        · rw [← HG.out]
          repeat (first | exact HB.out | refine Below.setCell (B := g) (p := ⟨g, 3, none⟩) ?_ (Nat.le_refl _) _)
end Go.Proofs.Ytgmbpohbjhaghaa.src
