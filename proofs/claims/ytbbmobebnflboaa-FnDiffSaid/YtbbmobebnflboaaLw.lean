/-
  What FnDiff's law compares by: lists of changes, answers with a line. For what is alike.
-/
import Derived.Test.YtbbmobebnflboaaSpecO
import Derived.Test.YtbbmobebnflboaaDiffOfWalk
import Derived.Laws.StructEq
namespace Go.Proofs.Ytbbmobebnflboaa.diff
open Go.ChangeShapes Go.WideShapes Go.ChangeAt Go.RowKit
open Go.Proofs.Ytbbmobebnflboaa.line Go.Proofs.Ytbbmobebnflboaa.put
set_option maxHeartbeats 1600000 in
theorem lwDiffs_same (g h n C E : Nat) (K : Nat → Int) (X : Nat → ByteArray) (hn : n ≤ 1000) (w : World) (hg : RowD w g n K X) (hh : RowD w h n K X) :
    Calls Try.prog 14 #[.slice (some ⟨g, 0, none⟩) n C, .slice (some ⟨h, 0, none⟩) n E] w fun e w' => e = .returned (.bool true) ∧ Below w.heap.size w w' := by
  have HG := Lib.hid hg
  have HH := Lib.hid hh
  clear hg hh
  go_enter Try.func14, Try.ntmps14
  go_wp2
  go_loopw [5] (fun i w' => ∃ k : Nat, k ≤ n ∧ i = .int .i64 k ∧ Below w.heap.size w w') (fun i _ => n - (intOf i).toNat)
  case atStart => exact ⟨0, Nat.zero_le _, rfl, Below.refl _ _⟩
  case round =>
    obtain ⟨k, hk, rfl, hbel⟩ := hrel
    rename World => wr
    have HB := Lib.hid hbel
    have G1 := HG.out.below hbel
    have H1 := HH.out.below hbel
    clear hbel
    by_cases hlt : k < n
    · have g1 := G1.kind k hlt
      have g2 := G1.text k hlt
      have h1 := H1.kind k hlt
      have h2 := H1.text k hlt
      clear G1 H1
      go_wp2
      go_quiet (fail)
      go_wp2
      go_roundw
      case rel => exact ⟨k + 1, by omega, by go_num, HB.out.trans (below_draws _ _ _)⟩
      case measure => simp [intOf]; omega
    · go_wp2
      go_ret
      exact ⟨rfl, HB.out⟩
theorem lwDiffs_nil (h E : Nat) (w : World) :
    Calls Try.prog 14 #[.slice none 0 0, .slice (some ⟨h, 0, none⟩) 0 E] w fun e w' => e = .returned (.bool true) ∧ Below w.heap.size w w' := by
  go_enter Try.func14, Try.ntmps14
  go_wp2
  go_loopw [5] (fun i w' => i = .int .i64 0 ∧ Below w.heap.size w w') (fun _ _ => 0)
  case atStart => exact ⟨rfl, Below.refl _ _⟩
  case round =>
    obtain ⟨rfl, hbel⟩ := hrel
    go_wp2
    go_ret
    exact ⟨rfl, hbel⟩
set_option maxHeartbeats 1600000 in
theorem lwLine_same (s : ByteArray) (i : Int) (g : ByteArray) (c : Int) (hs : c = 0 → s.size ≤ maxLen) (hl : c = 0 → lineB s i = true) (w : World) :
    Calls Try.prog 17 #[.agg #[.string s, .int .i64 i, .string g, .int .i64 c], .agg #[.string s, .int .i64 i, .string g, .int .i64 c]] w fun e w' => e = .returned (.bool true) ∧ Below w.heap.size w w' := by
  have hb2 : Below w.heap.size w ((w.alloc (.cells #[.string s, .int .i64 i, .string g, .int .i64 c] 33)).alloc (.cells #[.string s, .int .i64 i, .string g, .int .i64 c] 33)) := ((Below.refl _ w).alloc (Nat.le_refl _) _).alloc (by simp) _
  have HB2 := Lib.hid hb2
  clear hb2
  by_cases hc : c = 0
  · have hlb := hl hc
    have HSZ := Lib.hid (hs hc)
    have HLB := Lib.hid hlb
    subst hc
    clear hl hlb hs
    go_enter Try.func17, Try.ntmps17
    go_wp2_with fail
    refine (specLine_any s i HSZ.out _).mono ?_
    rintro e w1 ⟨rfl, h1⟩
    rw [HLB.out]
    go_wp2
    go_ret
    exact ⟨rfl, bthen HB2.out h1 HB2.out.size⟩
  · have d : (c != 0) = true := by simpa using hc
    clear hl hc hs
    go_enter Try.func17, Try.ntmps17
    go_wp2
    go_ret
    exact ⟨rfl, HB2.out⟩
end Go.Proofs.Ytbbmobebnflboaa.diff
