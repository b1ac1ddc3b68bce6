/-
  No cell of these rows narrows 'for every input' (looked for: loops, veiled, ifaces, maps, wideKeys, modest, calm, conditions, laid).
  DERIVED. THE GIVEN ROWS OF THIS SEAT. 7 by the template 'for every input the law returns true; each argument reads behind the call as it read before'; 0 by the template 'total and deterministic' (their statements: YtbkhahjlpncaiaaTotals.lean).
  GIVEN WITH THE SEED: the statements are not yours to turn. If you find one false, say at which input.
  Laid BY PROGRAM, IN A SANDBOX (cutbox-rows.mjs): the forced cells as the released guide's own fill.sh prints them over the translation 7fb54f6439ea3a51… (all of the seat's roots in one cut). By AI agents, Wed Nov 11 2026. No macro, syntax, notation, axiom, sorry.
-/
import Derived.Test.YtbkhahjlpncaiaaChecked
import GoSem.Claim
import GoSem.ClaimJoined
import GoSem.ClaimMapViews
import Derived.JoinedTies
import Derived.KernelRfl
namespace Go.Proofs.Ytbkhahjlpncaiaa
/- THE CELL 'sum', in the pinned program and in every row, IS THE sha256 OF THE DUMP (.gsa) THAT YtbkhahjlpncaiaaProg.lean LOADS. Nothing in Lean hashes anything: it is a label: what it is worth is what the hold of that sum in a sandbox is worth. -/
noncomputable def Try.pinned : Pinned := { name := "ytbkhahjlpncaiaa", sum := "7fb54f6439ea3a51ef44feebc8114e19cd812c300efe8a74b5b28d9c1dd56034", checked := Try.checked }
namespace Rows
def none {H : Type} : Left H := { results := [], args := [] }

/-- 'laws.FnKill': WHATEVER THE INPUT: true; the input reads as it did. -/
def fnKillSpec : ChangeSpec := { name := "fnKill", fn := fun _ => fun
  | [d1, d2] => { results := [.lit (.bool true)], args := [d1, d2] }
  | _ => none }
def fnKillRow : OpenClaim := { program := "ytbkhahjlpncaiaa", sum := "7fb54f6439ea3a51ef44feebc8114e19cd812c300efe8a74b5b28d9c1dd56034", func := "loop.example/g00731/laws.FnKill", spec := "fnKill", unfollowed := true, recurses := true, apart := false }
def FnKillSaid : Prop := fnKillRow.holds Try.pinned (OpenSpec.ofChange fnKillSpec)

/-- ITS FALSE NEIGHBOUR: 'it returns false'. Refute it at one input. -/
def fnKillWrong : ChangeSpec := { name := "fnKill", fn := fun _ => fun
  | [d1, d2] => { results := [.lit (.bool false)], args := [d1, d2] }
  | _ => none }
def FnKillWrongFalsely : Prop := fnKillRow.holds Try.pinned (OpenSpec.ofChange fnKillWrong)

/-- 'laws.FnExactKillsRight': WHATEVER THE INPUT: true; the input reads as it did. -/
def fnExactKillsRightSpec : ChangeSpec := { name := "fnExactKillsRight", fn := fun _ => fun
  | [d] => { results := [.lit (.bool true)], args := [d] }
  | _ => none }
def fnExactKillsRightRow : OpenClaim := { program := "ytbkhahjlpncaiaa", sum := "7fb54f6439ea3a51ef44feebc8114e19cd812c300efe8a74b5b28d9c1dd56034", func := "loop.example/g00731/laws.FnExactKillsRight", spec := "fnExactKillsRight", apart := false }
def FnExactKillsRightSaid : Prop := fnExactKillsRightRow.holds Try.pinned (OpenSpec.ofChange fnExactKillsRightSpec)

/-- ITS FALSE NEIGHBOUR: 'it returns false'. Refute it at one input. -/
def fnExactKillsRightWrong : ChangeSpec := { name := "fnExactKillsRight", fn := fun _ => fun
  | [d] => { results := [.lit (.bool false)], args := [d] }
  | _ => none }
def FnExactKillsRightWrongFalsely : Prop := fnExactKillsRightRow.holds Try.pinned (OpenSpec.ofChange fnExactKillsRightWrong)

/-- 'laws.FnExactKillPut': WHATEVER THE INPUT: true; the input reads as it did. -/
def fnExactKillPutSpec : ChangeSpec := { name := "fnExactKillPut", fn := fun _ => fun
  | [d1, d2, d3] => { results := [.lit (.bool true)], args := [d1, d2, d3] }
  | _ => none }
def fnExactKillPutRow : OpenClaim := { program := "ytbkhahjlpncaiaa", sum := "7fb54f6439ea3a51ef44feebc8114e19cd812c300efe8a74b5b28d9c1dd56034", func := "loop.example/g00731/laws.FnExactKillPut", spec := "fnExactKillPut", unfollowed := true, recurses := true, apart := false }
def FnExactKillPutSaid : Prop := fnExactKillPutRow.holds Try.pinned (OpenSpec.ofChange fnExactKillPutSpec)

/-- ITS FALSE NEIGHBOUR: 'it returns false'. Refute it at one input. -/
def fnExactKillPutWrong : ChangeSpec := { name := "fnExactKillPut", fn := fun _ => fun
  | [d1, d2, d3] => { results := [.lit (.bool false)], args := [d1, d2, d3] }
  | _ => none }
def FnExactKillPutWrongFalsely : Prop := fnExactKillPutRow.holds Try.pinned (OpenSpec.ofChange fnExactKillPutWrong)

/-- 'laws.FnExactKillTop': WHATEVER THE INPUT: true; the input reads as it did. -/
def fnExactKillTopSpec : ChangeSpec := { name := "fnExactKillTop", fn := fun _ => fun
  | [d] => { results := [.lit (.bool true)], args := [d] }
  | _ => none }
def fnExactKillTopRow : OpenClaim := { program := "ytbkhahjlpncaiaa", sum := "7fb54f6439ea3a51ef44feebc8114e19cd812c300efe8a74b5b28d9c1dd56034", func := "loop.example/g00731/laws.FnExactKillTop", spec := "fnExactKillTop", apart := false }
def FnExactKillTopSaid : Prop := fnExactKillTopRow.holds Try.pinned (OpenSpec.ofChange fnExactKillTopSpec)

/-- ITS FALSE NEIGHBOUR: 'it returns false'. Refute it at one input. -/
def fnExactKillTopWrong : ChangeSpec := { name := "fnExactKillTop", fn := fun _ => fun
  | [d] => { results := [.lit (.bool false)], args := [d] }
  | _ => none }
def FnExactKillTopWrongFalsely : Prop := fnExactKillTopRow.holds Try.pinned (OpenSpec.ofChange fnExactKillTopWrong)

/-- 'laws.FnExactKillTurn': WHATEVER THE INPUT: true; the input reads as it did. -/
def fnExactKillTurnSpec : ChangeSpec := { name := "fnExactKillTurn", fn := fun _ => fun
  | [d] => { results := [.lit (.bool true)], args := [d] }
  | _ => none }
def fnExactKillTurnRow : OpenClaim := { program := "ytbkhahjlpncaiaa", sum := "7fb54f6439ea3a51ef44feebc8114e19cd812c300efe8a74b5b28d9c1dd56034", func := "loop.example/g00731/laws.FnExactKillTurn", spec := "fnExactKillTurn", unfollowed := true, recurses := true, apart := false }
def FnExactKillTurnSaid : Prop := fnExactKillTurnRow.holds Try.pinned (OpenSpec.ofChange fnExactKillTurnSpec)

/-- ITS FALSE NEIGHBOUR: 'it returns false'. Refute it at one input. -/
def fnExactKillTurnWrong : ChangeSpec := { name := "fnExactKillTurn", fn := fun _ => fun
  | [d] => { results := [.lit (.bool false)], args := [d] }
  | _ => none }
def FnExactKillTurnWrongFalsely : Prop := fnExactKillTurnRow.holds Try.pinned (OpenSpec.ofChange fnExactKillTurnWrong)

/-- 'laws.FnExactUndosRight': WHATEVER THE INPUT: true; the input reads as it did. -/
def fnExactUndosRightSpec : ChangeSpec := { name := "fnExactUndosRight", fn := fun _ => fun
  | [d] => { results := [.lit (.bool true)], args := [d] }
  | _ => none }
def fnExactUndosRightRow : OpenClaim := { program := "ytbkhahjlpncaiaa", sum := "7fb54f6439ea3a51ef44feebc8114e19cd812c300efe8a74b5b28d9c1dd56034", func := "loop.example/g00731/laws.FnExactUndosRight", spec := "fnExactUndosRight", apart := false }
def FnExactUndosRightSaid : Prop := fnExactUndosRightRow.holds Try.pinned (OpenSpec.ofChange fnExactUndosRightSpec)

/-- ITS FALSE NEIGHBOUR: 'it returns false'. Refute it at one input. -/
def fnExactUndosRightWrong : ChangeSpec := { name := "fnExactUndosRight", fn := fun _ => fun
  | [d] => { results := [.lit (.bool false)], args := [d] }
  | _ => none }
def FnExactUndosRightWrongFalsely : Prop := fnExactUndosRightRow.holds Try.pinned (OpenSpec.ofChange fnExactUndosRightWrong)

/-- 'laws.FnExactUndoPut': WHATEVER THE INPUT: true; the input reads as it did. -/
def fnExactUndoPutSpec : ChangeSpec := { name := "fnExactUndoPut", fn := fun _ => fun
  | [d1, d2] => { results := [.lit (.bool true)], args := [d1, d2] }
  | _ => none }
def fnExactUndoPutRow : OpenClaim := { program := "ytbkhahjlpncaiaa", sum := "7fb54f6439ea3a51ef44feebc8114e19cd812c300efe8a74b5b28d9c1dd56034", func := "loop.example/g00731/laws.FnExactUndoPut", spec := "fnExactUndoPut", unfollowed := true, recurses := true, apart := false }
def FnExactUndoPutSaid : Prop := fnExactUndoPutRow.holds Try.pinned (OpenSpec.ofChange fnExactUndoPutSpec)

/-- ITS FALSE NEIGHBOUR: 'it returns false'. Refute it at one input. -/
def fnExactUndoPutWrong : ChangeSpec := { name := "fnExactUndoPut", fn := fun _ => fun
  | [d1, d2] => { results := [.lit (.bool false)], args := [d1, d2] }
  | _ => none }
def FnExactUndoPutWrongFalsely : Prop := fnExactUndoPutRow.holds Try.pinned (OpenSpec.ofChange fnExactUndoPutWrong)

/- THE SECOND FORM. 'bulk': how many values and letters a reading holds, each counted each time it is reached (what is shared counts as often as it is met; a slice's spare places count too). A statement '..UptoSaid' is the law's where the arguments, and the package variables that the reading takes, are together of bulk at most 1048576: NARROWER than '..Said'. Prove '..Said' where nothing that the law and all that it calls make is longer than what came in: it says more and counts as full. Else prove '..UptoSaid'. A law counts once. -/
mutual
def uptoBulk {H : Type} : DataW H → Nat
  | .lit (.string bytes) => bytes.length + 1
  | .lit _ => 1
  | .nil => 1
  | .ptr d => uptoBulk d + 1
  | .slice elems spare => uptoBulkAll elems + uptoBulkAll spare + 1
  | .agg parts => uptoBulkAll parts + 1
  | .iface _ d => uptoBulk d + 1
  | .map entries => uptoBulkEntries entries + 1
  | .held _ => 1
def uptoBulkAll {H : Type} : List (DataW H) → Nat
  | [] => 0
  | d :: r => uptoBulk d + uptoBulkAll r
def uptoBulkEntries {H : Type} : List (Lit × DataW H) → Nat
  | [] => 0
  | x :: r => uptoBulkEntry x + uptoBulkEntries r
def uptoBulkEntry {H : Type} : Lit × DataW H → Nat
  | (.string bytes, d) => bytes.length + uptoBulk d + 1
  | (_, d) => uptoBulk d + 1
 end
def uptoSmall : (H : Type) → List (DataW H) → Bool := fun _ ds => decide (uptoBulkAll ds ≤ 1048576)
def OpenSpec.upto (s : _root_.Go.ChangeSpec) : _root_.Go.OpenSpec := { _root_.Go.OpenSpec.ofChange s with cond := some uptoSmall }

/-- 'laws.FnKill', WHERE WHAT IT READS IS OF BULK AT MOST 1048576: true; the input reads as it did. -/
def fnKillUptoRow : OpenClaim := { program := "ytbkhahjlpncaiaa", sum := "7fb54f6439ea3a51ef44feebc8114e19cd812c300efe8a74b5b28d9c1dd56034", func := "loop.example/g00731/laws.FnKill", spec := "fnKill", unfollowed := true, recurses := true, apart := false, narrowed := true }
def FnKillUptoSaid : Prop := fnKillUptoRow.holds Try.pinned (OpenSpec.upto fnKillSpec)

/-- 'laws.FnExactKillsRight', WHERE WHAT IT READS IS OF BULK AT MOST 1048576: true; the input reads as it did. -/
def fnExactKillsRightUptoRow : OpenClaim := { program := "ytbkhahjlpncaiaa", sum := "7fb54f6439ea3a51ef44feebc8114e19cd812c300efe8a74b5b28d9c1dd56034", func := "loop.example/g00731/laws.FnExactKillsRight", spec := "fnExactKillsRight", apart := false, narrowed := true }
def FnExactKillsRightUptoSaid : Prop := fnExactKillsRightUptoRow.holds Try.pinned (OpenSpec.upto fnExactKillsRightSpec)

/-- 'laws.FnExactKillPut', WHERE WHAT IT READS IS OF BULK AT MOST 1048576: true; the input reads as it did. -/
def fnExactKillPutUptoRow : OpenClaim := { program := "ytbkhahjlpncaiaa", sum := "7fb54f6439ea3a51ef44feebc8114e19cd812c300efe8a74b5b28d9c1dd56034", func := "loop.example/g00731/laws.FnExactKillPut", spec := "fnExactKillPut", unfollowed := true, recurses := true, apart := false, narrowed := true }
def FnExactKillPutUptoSaid : Prop := fnExactKillPutUptoRow.holds Try.pinned (OpenSpec.upto fnExactKillPutSpec)

/-- 'laws.FnExactKillTop', WHERE WHAT IT READS IS OF BULK AT MOST 1048576: true; the input reads as it did. -/
def fnExactKillTopUptoRow : OpenClaim := { program := "ytbkhahjlpncaiaa", sum := "7fb54f6439ea3a51ef44feebc8114e19cd812c300efe8a74b5b28d9c1dd56034", func := "loop.example/g00731/laws.FnExactKillTop", spec := "fnExactKillTop", apart := false, narrowed := true }
def FnExactKillTopUptoSaid : Prop := fnExactKillTopUptoRow.holds Try.pinned (OpenSpec.upto fnExactKillTopSpec)

/-- 'laws.FnExactKillTurn', WHERE WHAT IT READS IS OF BULK AT MOST 1048576: true; the input reads as it did. -/
def fnExactKillTurnUptoRow : OpenClaim := { program := "ytbkhahjlpncaiaa", sum := "7fb54f6439ea3a51ef44feebc8114e19cd812c300efe8a74b5b28d9c1dd56034", func := "loop.example/g00731/laws.FnExactKillTurn", spec := "fnExactKillTurn", unfollowed := true, recurses := true, apart := false, narrowed := true }
def FnExactKillTurnUptoSaid : Prop := fnExactKillTurnUptoRow.holds Try.pinned (OpenSpec.upto fnExactKillTurnSpec)

/-- 'laws.FnExactUndosRight', WHERE WHAT IT READS IS OF BULK AT MOST 1048576: true; the input reads as it did. -/
def fnExactUndosRightUptoRow : OpenClaim := { program := "ytbkhahjlpncaiaa", sum := "7fb54f6439ea3a51ef44feebc8114e19cd812c300efe8a74b5b28d9c1dd56034", func := "loop.example/g00731/laws.FnExactUndosRight", spec := "fnExactUndosRight", apart := false, narrowed := true }
def FnExactUndosRightUptoSaid : Prop := fnExactUndosRightUptoRow.holds Try.pinned (OpenSpec.upto fnExactUndosRightSpec)

/-- 'laws.FnExactUndoPut', WHERE WHAT IT READS IS OF BULK AT MOST 1048576: true; the input reads as it did. -/
def fnExactUndoPutUptoRow : OpenClaim := { program := "ytbkhahjlpncaiaa", sum := "7fb54f6439ea3a51ef44feebc8114e19cd812c300efe8a74b5b28d9c1dd56034", func := "loop.example/g00731/laws.FnExactUndoPut", spec := "fnExactUndoPut", unfollowed := true, recurses := true, apart := false, narrowed := true }
def FnExactUndoPutUptoSaid : Prop := fnExactUndoPutUptoRow.holds Try.pinned (OpenSpec.upto fnExactUndoPutSpec)

end Rows
end Go.Proofs.Ytbkhahjlpncaiaa
