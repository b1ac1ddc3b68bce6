/-
  The map of maps that the program makes of its table (keyMapsOf). No condition.
-/
import Derived.Test.YtbefoalecogmbaaKeyTable
namespace Go.Proofs.Ytbefoalecogmbaa.key
open Go.ChangeShapes Go.WideShapes Go.ChangeAt Go.RowKit
def rowTo (F : KF) (i : Nat) : Nat → KF
  | 0 => F
  | j + 1 => putF (rowTo F i j) (tabT i j).data.toList (tabK i)
def mapTo : Nat → KF
  | 0 => fun _ => none
  | i + 1 => rowTo (mapTo i) i (tabN i)
theorem tab_fit : ∀ i, i < 23 → tabN i ≤ 2 ∧ (1 ≤ tabK i ∧ tabK i ≤ 25) ∧ ∀ j, j < tabN i → 1 ≤ (tabT i j).size ∧ (tabT i j).size ≤ 3 := by decide +kernel
theorem kind_wf {k : Int} (h : 0 ≤ k ∧ k ≤ 1000000) : (Lit.int .i64 k).wf = true := by
  simp only [Lit.wf, IntKind.min, IntKind.max, IntKind.signed, IntKind.bits, Bool.and_eq_true, decide_eq_true_eq]
  simp; omega
set_option maxHeartbeats 1600000 in
theorem keyMapsOf_any (g : Nat) (base0 : Nat) (w : World) (ht : TabAt base0 w g) :
    Calls Try.prog 28 #[.slice (some ⟨g, 0, none⟩) 23 23] w fun e w' => ∃ B, e = .returned (.map (some B)) ∧ Maps2 w.heap.size w' B 300 (mapTo 23) ∧ Below w.heap.size w w' := by
  have hmm := @run_makeMap Try.prog
  have HT := Lib.hid ht
  have HF := Lib.hid tab_fit
  have M0 := Lib.hid (Maps2.made w.heap.size w (Nat.le_refl _))
  have B0 := Lib.hid ((Below.refl _ w).alloc (Nat.le_refl _) (.map #[] 0))
  clear ht
  go_enter Try.func28, Try.ntmps28
  go_wp2
  go_loopw [11] (fun iv wr => ∃ i : Nat, i ≤ 23 ∧ iv = .int .i64 i ∧ Maps2 w.heap.size wr w.heap.size (12 * i) (mapTo i) ∧ Below w.heap.size w wr) (fun iv _ => 23 - (intOf iv).toNat)
  case atStart => exact ⟨0, Nat.zero_le _, rfl, M0.out, B0.out⟩
  case round =>
    obtain ⟨i, hi, rfl, hms, hb⟩ := hrel
    rename World => wr
    have HR := Lib.hid hms
    have HB := Lib.hid hb
    have hz := hb.size
    clear hms
    by_cases hlt : i < 23
    · obtain ⟨_, G, hG⟩ := HT.out
      obtain ⟨c0', c1', c2⟩ := hG i hlt
      have c0 : wr.cell? ⟨g, i * 2, none⟩ = some (.int .i64 (tabK i)) := by rw [hb.cell (p := ⟨g, i * 2, none⟩) (blk_lt c0')]; exact c0'
      have c1 : wr.cell? ⟨g, i * 2 + 1, none⟩ = some (.slice (some ⟨G i, 0, none⟩) (tabN i) (tabN i)) := by rw [hb.cell (p := ⟨g, i * 2 + 1, none⟩) (blk_lt c1')]; exact c1'
      clear hb c0' c1'
      obtain ⟨f1, f2, f3⟩ := HF.out i hlt
      obtain ⟨K, hK⟩ : ∃ K, K = tabK i := ⟨_, rfl⟩
      obtain ⟨N, hN⟩ : ∃ N, N = tabN i := ⟨_, rfl⟩
      obtain ⟨Y, hY⟩ : ∃ Y, Y = G i := ⟨_, rfl⟩
      obtain ⟨F0, hF0⟩ : ∃ F0, F0 = mapTo i := ⟨_, rfl⟩
      rw [← hF0] at HR
      have HNX := Lib.hid (show rowTo F0 i N = mapTo (i + 1) by rw [hF0, hN]; rfl)
      rw [← hK] at c0 f2
      rw [← hN] at c1 c2 f1 f3
      rw [← hY] at c1 c2
      have HS := Lib.hid (show ∀ j, putF (rowTo F0 i j) (tabT i j).data.toList K = rowTo F0 i (j + 1) from fun j => by rw [hK]; rfl)
      have HC2 := Lib.hid c2
      have HF3 := Lib.hid f3
      clear hK hN hY hF0 hG c2 f3
      have hd : decide ((i : Int) < 23) = true := by simp; omega
      go_wp2
      go_loopw [18] (fun jv w2 => ∃ j : Nat, j ≤ N ∧ jv = .int .i64 j ∧ Maps2 w.heap.size w2 w.heap.size (12 * i + 6 * j) (rowTo F0 i j) ∧ Below w.heap.size w w2 ∧ w2.cell? ⟨wr.heap.size, 0, none⟩ = some (.int .i64 K)) (fun jv _ => N - (intOf jv).toNat)
      case atStart => exact ⟨0, Nat.zero_le _, rfl, HR.out.below ((Below.refl _ wr).alloc (Nat.le_refl _) _), HB.out.alloc HB.out.size _, by rw [World.cell?_alloc_at _ _ _ _ rfl]; rfl⟩
      case round =>
        obtain ⟨j, hj, rfl, hms2, hb2, k0⟩ := hrel
        rename World => w2
        have hz2 := hb2.size
        have HR2 := Lib.hid hms2
        have HB2 := Lib.hid hb2
        clear hms2
        by_cases hlt2 : j < N
        · have q0 : w2.cell? ⟨Y, j, none⟩ = some (.string (tabT i j)) := by
            have h0 := HC2.out j hlt2
            rw [hb2.cell (p := ⟨Y, j, none⟩) (blk_lt h0)]; exact h0
          obtain ⟨e1, e2⟩ := HF3.out j hlt2
          have HP := Lib.hid (putKey_any w.heap.size w.heap.size (12 * i + 6 * j) (rowTo F0 i j) (tabT i j) K (by omega) (by omega) (by omega) (kind_wf ⟨by omega, by omega⟩) w2 (by omega) HR2.out)
          rw [HS.out j] at HP
          obtain ⟨s, hs⟩ : ∃ s, s = tabT i j := ⟨_, rfl⟩
          rw [← hs] at q0 HP e1 e2
          clear hs hb2
          go_wp2_with fail
          refine HP.out.mono ?_
          rintro e w3 ⟨rfl, hm3, hb3, hk3⟩
          have k1 := hk3.cell k0
          have HM3 := Lib.hid (hm3.mono (m := 12 * i + 6 * (j + 1)) (by omega))
          have HB4 := Lib.hid (HB2.out.trans hb3)
          clear hm3 hb3 hk3
          go_wp2
          go_roundw
          case rel => exact ⟨j + 1, by omega, by go_num, HM3.out, HB4.out, k1⟩
          case measure => simp [intOf]; omega
        · obtain rfl : j = N := by omega
          rw [HNX.out] at HR2
          clear hb2
          go_wp2
          go_roundw
          case rel => exact ⟨i + 1, by omega, by go_num, HR2.out.mono (by omega), HB2.out⟩
          case measure => simp [intOf]; omega
    · obtain rfl : i = 23 := by omega
      go_wp2
      go_ret
      exact ⟨_, rfl, HR.out.mono (by omega), HB.out⟩
end Go.Proofs.Ytbefoalecogmbaa.key
