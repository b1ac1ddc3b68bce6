/-
  What the laws compare answers with a line by. For what is alike.
-/
import Derived.Test.YtdkdkdbdnfhonaaDoorLineRight
import Derived.Laws.StructEq
namespace Go.Proofs.YtdkdkdbdnfhonaaDoor.line
open Go.ChangeShapes Go.WideShapes Go.ChangeAt Go.RowKit
set_option maxHeartbeats 1600000 in
theorem lwLine_same (s : ByteArray) (i : Int) (g : ByteArray) (c : Int) (hs : c = 0 → s.size ≤ maxLen) (hl : c = 0 → lineB s i = true) (w : World) :
    Calls Tryd.prog 21 #[.agg #[.string s, .int .i64 i, .string g, .int .i64 c], .agg #[.string s, .int .i64 i, .string g, .int .i64 c]] w fun e w' => e = .returned (.bool true) ∧ Below w.heap.size w w' := by
  have hb2 : Below w.heap.size w ((w.alloc (.cells #[.string s, .int .i64 i, .string g, .int .i64 c] 39)).alloc (.cells #[.string s, .int .i64 i, .string g, .int .i64 c] 39)) := ((Below.refl _ w).alloc (Nat.le_refl _) _).alloc (by simp) _
  have HB2 := Lib.hid hb2
  clear hb2
  by_cases hc : c = 0
  · have hlb := hl hc
    have HSZ := Lib.hid (hs hc)
    have HLB := Lib.hid hlb
    subst hc
    clear hl hlb hs
    go_enter Tryd.func21, Tryd.ntmps21
    go_wp2_with fail
    refine (specLine_any s i HSZ.out _).mono ?_
    rintro e w1 ⟨rfl, h1⟩
    rw [HLB.out]
    go_wp2
    go_ret
    exact ⟨rfl, bthen HB2.out h1 HB2.out.size⟩
  · have d : (c != 0) = true := by simpa using hc
    clear hl hc hs
    go_enter Tryd.func21, Tryd.ntmps21
    go_wp2
    go_ret
    exact ⟨rfl, HB2.out⟩
end Go.Proofs.YtdkdkdbdnfhonaaDoor.line
