/-
  No cell of these rows narrows 'for every input' (looked for: loops, veiled, ifaces, maps, wideKeys, modest, calm, conditions, laid).
  DERIVED. THE GIVEN ROWS OF THIS SEAT. 7 by the template 'for every input the law returns true; each argument reads behind the call as it read before'; 0 by the template 'total and deterministic' (their statements: YtnnmcenmnmmfpaaTotals.lean).
  GIVEN WITH THE SEED: the statements are not yours to turn. If you find one false, say at which input.
  Laid BY PROGRAM, IN A SANDBOX (cutbox-rows.mjs): the forced cells as the released guide's own fill.sh prints them over the translation 2ca1beda58510f92… (all of the seat's roots in one cut). By AI agents, Wed Nov 11 2026. No macro, syntax, notation, axiom, sorry.
-/
import Derived.Test.YtnnmcenmnmmfpaaChecked
import GoSem.Claim
import GoSem.ClaimJoined
import GoSem.ClaimMapViews
import Derived.JoinedTies
import Derived.KernelRfl
namespace Go.Proofs.Ytnnmcenmnmmfpaa
/- THE CELL 'sum', in the pinned program and in every row, IS THE sha256 OF THE DUMP (.gsa) THAT YtnnmcenmnmmfpaaProg.lean LOADS. Nothing in Lean hashes anything: it is a label: what it is worth is what the hold of that sum in a sandbox is worth. -/
noncomputable def Try.pinned : Pinned := { name := "ytnnmcenmnmmfpaa", sum := "2ca1beda58510f92ba1f2e30a1e3debcb67ee1de3c625caab14c1588211e67ae", checked := Try.checked }
namespace Rows
def none {H : Type} : Left H := { results := [], args := [] }

/-- 'laws.FnExactTextRight': WHATEVER THE INPUT: true; the input reads as it did. -/
def fnExactTextRightSpec : ChangeSpec := { name := "fnExactTextRight", fn := fun _ => fun
  | [d] => { results := [.lit (.bool true)], args := [d] }
  | _ => none }
def fnExactTextRightRow : OpenClaim := { program := "ytnnmcenmnmmfpaa", sum := "2ca1beda58510f92ba1f2e30a1e3debcb67ee1de3c625caab14c1588211e67ae", func := "loop.example/g00731/laws.FnExactTextRight", spec := "fnExactTextRight", apart := false }
def FnExactTextRightSaid : Prop := fnExactTextRightRow.holds Try.pinned (OpenSpec.ofChange fnExactTextRightSpec)

/-- ITS FALSE NEIGHBOUR: 'it returns false'. Refute it at one input. -/
def fnExactTextRightWrong : ChangeSpec := { name := "fnExactTextRight", fn := fun _ => fun
  | [d] => { results := [.lit (.bool false)], args := [d] }
  | _ => none }
def FnExactTextRightWrongFalsely : Prop := fnExactTextRightRow.holds Try.pinned (OpenSpec.ofChange fnExactTextRightWrong)

/-- 'laws.FnExactLineRight': WHATEVER THE INPUT: true; the input reads as it did. -/
def fnExactLineRightSpec : ChangeSpec := { name := "fnExactLineRight", fn := fun _ => fun
  | [d] => { results := [.lit (.bool true)], args := [d] }
  | _ => none }
def fnExactLineRightRow : OpenClaim := { program := "ytnnmcenmnmmfpaa", sum := "2ca1beda58510f92ba1f2e30a1e3debcb67ee1de3c625caab14c1588211e67ae", func := "loop.example/g00731/laws.FnExactLineRight", spec := "fnExactLineRight", apart := false }
def FnExactLineRightSaid : Prop := fnExactLineRightRow.holds Try.pinned (OpenSpec.ofChange fnExactLineRightSpec)

/-- ITS FALSE NEIGHBOUR: 'it returns false'. Refute it at one input. -/
def fnExactLineRightWrong : ChangeSpec := { name := "fnExactLineRight", fn := fun _ => fun
  | [d] => { results := [.lit (.bool false)], args := [d] }
  | _ => none }
def FnExactLineRightWrongFalsely : Prop := fnExactLineRightRow.holds Try.pinned (OpenSpec.ofChange fnExactLineRightWrong)

/-- 'laws.FnExactInsert': WHATEVER THE INPUT: true; the input reads as it did. -/
def fnExactInsertSpec : ChangeSpec := { name := "fnExactInsert", fn := fun _ => fun
  | [d1, d2] => { results := [.lit (.bool true)], args := [d1, d2] }
  | _ => none }
def fnExactInsertRow : OpenClaim := { program := "ytnnmcenmnmmfpaa", sum := "2ca1beda58510f92ba1f2e30a1e3debcb67ee1de3c625caab14c1588211e67ae", func := "loop.example/g00731/laws.FnExactInsert", spec := "fnExactInsert", apart := false }
def FnExactInsertSaid : Prop := fnExactInsertRow.holds Try.pinned (OpenSpec.ofChange fnExactInsertSpec)

/-- ITS FALSE NEIGHBOUR: 'it returns false'. Refute it at one input. -/
def fnExactInsertWrong : ChangeSpec := { name := "fnExactInsert", fn := fun _ => fun
  | [d1, d2] => { results := [.lit (.bool false)], args := [d1, d2] }
  | _ => none }
def FnExactInsertWrongFalsely : Prop := fnExactInsertRow.holds Try.pinned (OpenSpec.ofChange fnExactInsertWrong)

/-- 'laws.FnExactErase': WHATEVER THE INPUT: true; the input reads as it did. -/
def fnExactEraseSpec : ChangeSpec := { name := "fnExactErase", fn := fun _ => fun
  | [d1, d2, d3] => { results := [.lit (.bool true)], args := [d1, d2, d3] }
  | _ => none }
def fnExactEraseRow : OpenClaim := { program := "ytnnmcenmnmmfpaa", sum := "2ca1beda58510f92ba1f2e30a1e3debcb67ee1de3c625caab14c1588211e67ae", func := "loop.example/g00731/laws.FnExactErase", spec := "fnExactErase", apart := false }
def FnExactEraseSaid : Prop := fnExactEraseRow.holds Try.pinned (OpenSpec.ofChange fnExactEraseSpec)

/-- ITS FALSE NEIGHBOUR: 'it returns false'. Refute it at one input. -/
def fnExactEraseWrong : ChangeSpec := { name := "fnExactErase", fn := fun _ => fun
  | [d1, d2, d3] => { results := [.lit (.bool false)], args := [d1, d2, d3] }
  | _ => none }
def FnExactEraseWrongFalsely : Prop := fnExactEraseRow.holds Try.pinned (OpenSpec.ofChange fnExactEraseWrong)

/-- 'laws.FnExactWordBack': WHATEVER THE INPUT: true; the input reads as it did. -/
def fnExactWordBackSpec : ChangeSpec := { name := "fnExactWordBack", fn := fun _ => fun
  | [d] => { results := [.lit (.bool true)], args := [d] }
  | _ => none }
def fnExactWordBackRow : OpenClaim := { program := "ytnnmcenmnmmfpaa", sum := "2ca1beda58510f92ba1f2e30a1e3debcb67ee1de3c625caab14c1588211e67ae", func := "loop.example/g00731/laws.FnExactWordBack", spec := "fnExactWordBack", apart := false }
def FnExactWordBackSaid : Prop := fnExactWordBackRow.holds Try.pinned (OpenSpec.ofChange fnExactWordBackSpec)

/-- ITS FALSE NEIGHBOUR: 'it returns false'. Refute it at one input. -/
def fnExactWordBackWrong : ChangeSpec := { name := "fnExactWordBack", fn := fun _ => fun
  | [d] => { results := [.lit (.bool false)], args := [d] }
  | _ => none }
def FnExactWordBackWrongFalsely : Prop := fnExactWordBackRow.holds Try.pinned (OpenSpec.ofChange fnExactWordBackWrong)

/-- 'laws.FnExactWordOn': WHATEVER THE INPUT: true; the input reads as it did. -/
def fnExactWordOnSpec : ChangeSpec := { name := "fnExactWordOn", fn := fun _ => fun
  | [d] => { results := [.lit (.bool true)], args := [d] }
  | _ => none }
def fnExactWordOnRow : OpenClaim := { program := "ytnnmcenmnmmfpaa", sum := "2ca1beda58510f92ba1f2e30a1e3debcb67ee1de3c625caab14c1588211e67ae", func := "loop.example/g00731/laws.FnExactWordOn", spec := "fnExactWordOn", apart := false }
def FnExactWordOnSaid : Prop := fnExactWordOnRow.holds Try.pinned (OpenSpec.ofChange fnExactWordOnSpec)

/-- ITS FALSE NEIGHBOUR: 'it returns false'. Refute it at one input. -/
def fnExactWordOnWrong : ChangeSpec := { name := "fnExactWordOn", fn := fun _ => fun
  | [d] => { results := [.lit (.bool false)], args := [d] }
  | _ => none }
def FnExactWordOnWrongFalsely : Prop := fnExactWordOnRow.holds Try.pinned (OpenSpec.ofChange fnExactWordOnWrong)

/-- 'laws.FnExactSwapTwo': WHATEVER THE INPUT: true; the input reads as it did. -/
def fnExactSwapTwoSpec : ChangeSpec := { name := "fnExactSwapTwo", fn := fun _ => fun
  | [d] => { results := [.lit (.bool true)], args := [d] }
  | _ => none }
def fnExactSwapTwoRow : OpenClaim := { program := "ytnnmcenmnmmfpaa", sum := "2ca1beda58510f92ba1f2e30a1e3debcb67ee1de3c625caab14c1588211e67ae", func := "loop.example/g00731/laws.FnExactSwapTwo", spec := "fnExactSwapTwo", apart := false }
def FnExactSwapTwoSaid : Prop := fnExactSwapTwoRow.holds Try.pinned (OpenSpec.ofChange fnExactSwapTwoSpec)

/-- ITS FALSE NEIGHBOUR: 'it returns false'. Refute it at one input. -/
def fnExactSwapTwoWrong : ChangeSpec := { name := "fnExactSwapTwo", fn := fun _ => fun
  | [d] => { results := [.lit (.bool false)], args := [d] }
  | _ => none }
def FnExactSwapTwoWrongFalsely : Prop := fnExactSwapTwoRow.holds Try.pinned (OpenSpec.ofChange fnExactSwapTwoWrong)

/- THE SECOND FORM. 'bulk': how many values and letters a reading holds, each counted each time it is reached (what is shared counts as often as it is met; a slice's spare places count too). A statement '..UptoSaid' is the law's where the arguments, and the package variables that the reading takes, are together of bulk at most 1048576: NARROWER than '..Said'. Prove '..Said' where nothing that the law and all that it calls make is longer than what came in: it says more and counts as full. Else prove '..UptoSaid'. A law counts once. -/
mutual
def uptoBulk {H : Type} : DataW H → Nat
  | .lit (.string bytes) => bytes.length + 1
  | .lit _ => 1
  | .nil => 1
  | .ptr d => uptoBulk d + 1
  | .slice elems spare => uptoBulkAll elems + uptoBulkAll spare + 1
  | .agg parts => uptoBulkAll parts + 1
  | .iface _ d => uptoBulk d + 1
  | .map entries => uptoBulkEntries entries + 1
  | .held _ => 1
def uptoBulkAll {H : Type} : List (DataW H) → Nat
  | [] => 0
  | d :: r => uptoBulk d + uptoBulkAll r
def uptoBulkEntries {H : Type} : List (Lit × DataW H) → Nat
  | [] => 0
  | x :: r => uptoBulkEntry x + uptoBulkEntries r
def uptoBulkEntry {H : Type} : Lit × DataW H → Nat
  | (.string bytes, d) => bytes.length + uptoBulk d + 1
  | (_, d) => uptoBulk d + 1
 end
def uptoSmall : (H : Type) → List (DataW H) → Bool := fun _ ds => decide (uptoBulkAll ds ≤ 1048576)
def OpenSpec.upto (s : _root_.Go.ChangeSpec) : _root_.Go.OpenSpec := { _root_.Go.OpenSpec.ofChange s with cond := some uptoSmall }

/-- 'laws.FnExactTextRight', WHERE WHAT IT READS IS OF BULK AT MOST 1048576: true; the input reads as it did. -/
def fnExactTextRightUptoRow : OpenClaim := { program := "ytnnmcenmnmmfpaa", sum := "2ca1beda58510f92ba1f2e30a1e3debcb67ee1de3c625caab14c1588211e67ae", func := "loop.example/g00731/laws.FnExactTextRight", spec := "fnExactTextRight", apart := false, narrowed := true }
def FnExactTextRightUptoSaid : Prop := fnExactTextRightUptoRow.holds Try.pinned (OpenSpec.upto fnExactTextRightSpec)

/-- 'laws.FnExactLineRight', WHERE WHAT IT READS IS OF BULK AT MOST 1048576: true; the input reads as it did. -/
def fnExactLineRightUptoRow : OpenClaim := { program := "ytnnmcenmnmmfpaa", sum := "2ca1beda58510f92ba1f2e30a1e3debcb67ee1de3c625caab14c1588211e67ae", func := "loop.example/g00731/laws.FnExactLineRight", spec := "fnExactLineRight", apart := false, narrowed := true }
def FnExactLineRightUptoSaid : Prop := fnExactLineRightUptoRow.holds Try.pinned (OpenSpec.upto fnExactLineRightSpec)

/-- 'laws.FnExactInsert', WHERE WHAT IT READS IS OF BULK AT MOST 1048576: true; the input reads as it did. -/
def fnExactInsertUptoRow : OpenClaim := { program := "ytnnmcenmnmmfpaa", sum := "2ca1beda58510f92ba1f2e30a1e3debcb67ee1de3c625caab14c1588211e67ae", func := "loop.example/g00731/laws.FnExactInsert", spec := "fnExactInsert", apart := false, narrowed := true }
def FnExactInsertUptoSaid : Prop := fnExactInsertUptoRow.holds Try.pinned (OpenSpec.upto fnExactInsertSpec)

/-- 'laws.FnExactErase', WHERE WHAT IT READS IS OF BULK AT MOST 1048576: true; the input reads as it did. -/
def fnExactEraseUptoRow : OpenClaim := { program := "ytnnmcenmnmmfpaa", sum := "2ca1beda58510f92ba1f2e30a1e3debcb67ee1de3c625caab14c1588211e67ae", func := "loop.example/g00731/laws.FnExactErase", spec := "fnExactErase", apart := false, narrowed := true }
def FnExactEraseUptoSaid : Prop := fnExactEraseUptoRow.holds Try.pinned (OpenSpec.upto fnExactEraseSpec)

/-- 'laws.FnExactWordBack', WHERE WHAT IT READS IS OF BULK AT MOST 1048576: true; the input reads as it did. -/
def fnExactWordBackUptoRow : OpenClaim := { program := "ytnnmcenmnmmfpaa", sum := "2ca1beda58510f92ba1f2e30a1e3debcb67ee1de3c625caab14c1588211e67ae", func := "loop.example/g00731/laws.FnExactWordBack", spec := "fnExactWordBack", apart := false, narrowed := true }
def FnExactWordBackUptoSaid : Prop := fnExactWordBackUptoRow.holds Try.pinned (OpenSpec.upto fnExactWordBackSpec)

/-- 'laws.FnExactWordOn', WHERE WHAT IT READS IS OF BULK AT MOST 1048576: true; the input reads as it did. -/
def fnExactWordOnUptoRow : OpenClaim := { program := "ytnnmcenmnmmfpaa", sum := "2ca1beda58510f92ba1f2e30a1e3debcb67ee1de3c625caab14c1588211e67ae", func := "loop.example/g00731/laws.FnExactWordOn", spec := "fnExactWordOn", apart := false, narrowed := true }
def FnExactWordOnUptoSaid : Prop := fnExactWordOnUptoRow.holds Try.pinned (OpenSpec.upto fnExactWordOnSpec)

/-- 'laws.FnExactSwapTwo', WHERE WHAT IT READS IS OF BULK AT MOST 1048576: true; the input reads as it did. -/
def fnExactSwapTwoUptoRow : OpenClaim := { program := "ytnnmcenmnmmfpaa", sum := "2ca1beda58510f92ba1f2e30a1e3debcb67ee1de3c625caab14c1588211e67ae", func := "loop.example/g00731/laws.FnExactSwapTwo", spec := "fnExactSwapTwo", apart := false, narrowed := true }
def FnExactSwapTwoUptoSaid : Prop := fnExactSwapTwoUptoRow.holds Try.pinned (OpenSpec.upto fnExactSwapTwoSpec)

end Rows
end Go.Proofs.Ytnnmcenmnmmfpaa
