/-
  Draws: a text that may not be right; two texts, often nearly the same. What comes is bounded; nothing else is said of it.
-/
import Derived.Test.YtgmbpohbjhaghaaDrawLine
namespace Go.Proofs.Ytgmbpohbjhaghaa.src
open Go.ChangeShapes Go.WideShapes Go.ChangeAt Go.RowKit
set_option maxRecDepth 20000 in
theorem odd_any (N g : Nat) (w : World) (h : Src N g w) (hN : N ≤ w.heap.size) :
    Calls Try.prog 59 #[.pointer (some ⟨g, 0, none⟩)] w fun e w' => ∃ s : ByteArray, e = .returned (.string s) ∧ s.size ≤ 61 ∧ Drew N g w w' := by
  go_enter Try.func59, Try.ntmps59
  go_wp2_with fail
  refine (line_any N g _ h hN).mono ?_
  rintro e w1 ⟨s, i, rfl, hs, hd⟩
  have hfld : ∀ W : World, (Instr.field 33 (.agg #[.string s, .int .i64 i]) 0).run Try.prog W = .ok (.string s) W := fun _ => by kernel_rfl
  go_wp2
  go_ret
  exact ⟨s, rfl, hs, hd⟩
theorem drew0 {N g : Nat} {w : World} (h : Src N g w) : Drew N g w w := ⟨h, grown_refl _ _⟩
theorem cutL (W : World) (B : ByteArray) (i : Nat) (h : i ≤ B.size) : (Instr.slice 9 (.string B) none (some (.int .i64 (i : Int))) none).run Try.prog W = .ok (.string (B.extract 0 i)) W := by
  rw [run_slice_string_h (P := Try.prog) W 9 (s := B) Try.underlying9 .i64 (i : Int) (by omega) (by omega)]; rfl
theorem cutR (W : World) (B : ByteArray) (i : Nat) (h : i ≤ B.size) : (Instr.slice 9 (.string B) (some (.int .i64 (i : Int))) none none).run Try.prog W = .ok (.string (B.extract i B.size)) W := by
  rw [run_slice_string_l (P := Try.prog) W 9 (s := B) Try.underlying9 .i64 (i : Int) (by omega) (by omega)]; rfl
end Go.Proofs.Ytgmbpohbjhaghaa.src
