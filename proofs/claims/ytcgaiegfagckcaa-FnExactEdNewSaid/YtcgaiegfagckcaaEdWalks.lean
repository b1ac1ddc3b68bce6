/-
  The walks of the laws of EdRight and EdNew. For every such value.
-/
import Derived.Test.YtcgaiegfagckcaaEdLaws
import Derived.Test.YtcgaiegfagckcaaEdImpl
namespace Go.Proofs.Ytcgaiegfagckcaa.ed
open Go.ChangeShapes Go.WideShapes Go.ChangeAt Go.RowKit
open Go.Proofs.Ytcgaiegfagckcaa.strs Go.Proofs.Ytcgaiegfagckcaa.lines
open Go.Proofs.Ytcgaiegfagckcaa.kill (IsTS)
open Go.Proofs.Ytcgaiegfagckcaa.hist (hV)
theorem walkER (v : E) (A : EA) (w : World) (s : EIn w A v) :
    Calls Try.prog 3 #[eV v A] w fun e w' => e = .returned (.bool true) ∧ Below w.heap.size w w' :=
  walkER_of v A (edB v) w s (fun hf A' W h => specEdRight_any v A' hf W h) (fun hf A' W h => implEdRight_any v A' hf W h)
theorem walkEN (a : Option Addr) (n C : Nat) (l : List ByteArray) (t : Int) (k : ByteArray) (_ht : (Lit.int .i64 t).wf = true) (hk : k.size ≤ maxLen) (w : World) (s : IsTS w a n C l) :
    Calls Try.prog 4 #[hV a n C t k] w fun e w' => e = .returned (.bool true) ∧ Below w.heap.size w w' :=
  walkEN_of a n C l t k hk (newV l t k) (new_len l t k) w s
    (fun hn hl hk g W h => (specEdNew_any (some ⟨g, 0, none⟩) l.length l t k (fun e => by cases e) hn hl hk W h).mono fun _ _ ⟨A', e1, e2, _, e3⟩ => ⟨A', e1, e2, e3⟩)
    (fun hn hl hk g W h => implEdNew_any (some ⟨g, 0, none⟩) l.length l t k hn hl hk W h)
end Go.Proofs.Ytcgaiegfagckcaa.ed
