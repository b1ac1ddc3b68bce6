/-
  A text of one byte; a text for every number (markText of the laws). Own work.
-/
import Derived.Test.YtlhfgpcanfpnfaaBase
import Derived.LoopTactic
namespace Go.Proofs.Ytlhfgpcanfpnfaa
open Go.ChangeShapes Go.WideShapes Go.ChangeAt Go.RowKit
def oneBy (c : UInt8) : ByteArray := ⟨#[c]⟩
theorem conv_oneBy (c : UInt8) (W : World) :
    (convert 44 9 (.slice (some ⟨W.heap.size, 0, none⟩) 1 1)).run Try.prog (W.alloc (.cells #[.int .u8 (c.toNat : Nat)] 5)) = .ok (.string (oneBy c)) (W.alloc (.cells #[.int .u8 (c.toNat : Nat)] 5)) :=
  conv_row (P := Try.prog) (w := W.alloc (.cells #[.int .u8 (c.toNat : Nat)] 5)) (g := W.heap.size) (cap := 1) 44 5 Try.underlying44 Try.underlying5 [c] (fun i hi => by
    have : i = 0 := by simp at hi; omega
    subst this
    rw [World.cell?_alloc_at _ _ _ _ rfl]; rfl) 9 Try.underlying9
def mkR (k : Nat) (o : ByteArray) : ByteArray := if _h : k = 0 then o else mkR (k / 10) (oneBy (UInt8.ofNat (48 + k % 10)) ++ o)
termination_by k
decreasing_by omega
theorem mkR_zero (o : ByteArray) : mkR 0 o = o := by unfold mkR; rfl
theorem mkR_step (k : Nat) (o : ByteArray) (h : ¬ k = 0) : mkR k o = mkR (k / 10) (oneBy (UInt8.ofNat (48 + k % 10)) ++ o) := by
  conv => lhs; unfold mkR
  rw [dif_neg h]
def mkT (k : Nat) : ByteArray := ⟨#[109]⟩ ++ mkR k ⟨#[]⟩
end Go.Proofs.Ytlhfgpcanfpnfaa
