/-
  No cell of these rows narrows 'for every input' (looked for: loops, veiled, ifaces, maps, wideKeys, modest, calm, conditions, laid).
  DERIVED. THE GIVEN ROWS OF THIS SEAT. 4 by the template 'for every input the law returns true; each argument reads behind the call as it read before'; 0 by the template 'total and deterministic' (their statements: YtjjabfcdhknigaaTotals.lean).
  GIVEN WITH THE SEED: the statements are not yours to turn. If you find one false, say at which input.
  Laid BY PROGRAM, IN A SANDBOX (cutbox-rows.mjs): the forced cells as the released guide's own fill.sh prints them over the translation 2d95d2e4ad6dbadf… (all of the seat's roots in one cut). By AI agents, Wed Nov 11 2026. No macro, syntax, notation, axiom, sorry.
-/
import Derived.Test.YtjjabfcdhknigaaChecked
import GoSem.Claim
import GoSem.ClaimJoined
import GoSem.ClaimMapViews
import Derived.JoinedTies
import Derived.KernelRfl
namespace Go.Proofs.Ytjjabfcdhknigaa
/- THE CELL 'sum', in the pinned program and in every row, IS THE sha256 OF THE DUMP (.gsa) THAT YtjjabfcdhknigaaProg.lean LOADS. Nothing in Lean hashes anything: it is a label: what it is worth is what the hold of that sum in a sandbox is worth. -/
noncomputable def Try.pinned : Pinned := { name := "ytjjabfcdhknigaa", sum := "2d95d2e4ad6dbadfbbd91fcc04903b32232ab8173b3f5684c0f03ca28637bb24", checked := Try.checked }
namespace Rows
def none {H : Type} : Left H := { results := [], args := [] }

/-- 'laws.FnExactKillsRight': WHATEVER THE INPUT: true; the input reads as it did. -/
def fnExactKillsRightSpec : ChangeSpec := { name := "fnExactKillsRight", fn := fun _ => fun
  | [d] => { results := [.lit (.bool true)], args := [d] }
  | _ => none }
def fnExactKillsRightRow : OpenClaim := { program := "ytjjabfcdhknigaa", sum := "2d95d2e4ad6dbadfbbd91fcc04903b32232ab8173b3f5684c0f03ca28637bb24", func := "loop.example/g00731/laws.FnExactKillsRight", spec := "fnExactKillsRight", unfollowed := true, recurses := true, apart := false }
def FnExactKillsRightSaid : Prop := fnExactKillsRightRow.holds Try.pinned (OpenSpec.ofChange fnExactKillsRightSpec)

/-- ITS FALSE NEIGHBOUR: 'it returns false'. Refute it at one input. -/
def fnExactKillsRightWrong : ChangeSpec := { name := "fnExactKillsRight", fn := fun _ => fun
  | [d] => { results := [.lit (.bool false)], args := [d] }
  | _ => none }
def FnExactKillsRightWrongFalsely : Prop := fnExactKillsRightRow.holds Try.pinned (OpenSpec.ofChange fnExactKillsRightWrong)

/-- 'laws.FnExactKillTop': WHATEVER THE INPUT: true; the input reads as it did. -/
def fnExactKillTopSpec : ChangeSpec := { name := "fnExactKillTop", fn := fun _ => fun
  | [d] => { results := [.lit (.bool true)], args := [d] }
  | _ => none }
def fnExactKillTopRow : OpenClaim := { program := "ytjjabfcdhknigaa", sum := "2d95d2e4ad6dbadfbbd91fcc04903b32232ab8173b3f5684c0f03ca28637bb24", func := "loop.example/g00731/laws.FnExactKillTop", spec := "fnExactKillTop", unfollowed := true, recurses := true, apart := false }
def FnExactKillTopSaid : Prop := fnExactKillTopRow.holds Try.pinned (OpenSpec.ofChange fnExactKillTopSpec)

/-- ITS FALSE NEIGHBOUR: 'it returns false'. Refute it at one input. -/
def fnExactKillTopWrong : ChangeSpec := { name := "fnExactKillTop", fn := fun _ => fun
  | [d] => { results := [.lit (.bool false)], args := [d] }
  | _ => none }
def FnExactKillTopWrongFalsely : Prop := fnExactKillTopRow.holds Try.pinned (OpenSpec.ofChange fnExactKillTopWrong)

/-- 'laws.FnExactKillTurn': WHATEVER THE INPUT: true; the input reads as it did. -/
def fnExactKillTurnSpec : ChangeSpec := { name := "fnExactKillTurn", fn := fun _ => fun
  | [d] => { results := [.lit (.bool true)], args := [d] }
  | _ => none }
def fnExactKillTurnRow : OpenClaim := { program := "ytjjabfcdhknigaa", sum := "2d95d2e4ad6dbadfbbd91fcc04903b32232ab8173b3f5684c0f03ca28637bb24", func := "loop.example/g00731/laws.FnExactKillTurn", spec := "fnExactKillTurn", unfollowed := true, recurses := true, apart := false }
def FnExactKillTurnSaid : Prop := fnExactKillTurnRow.holds Try.pinned (OpenSpec.ofChange fnExactKillTurnSpec)

/-- ITS FALSE NEIGHBOUR: 'it returns false'. Refute it at one input. -/
def fnExactKillTurnWrong : ChangeSpec := { name := "fnExactKillTurn", fn := fun _ => fun
  | [d] => { results := [.lit (.bool false)], args := [d] }
  | _ => none }
def FnExactKillTurnWrongFalsely : Prop := fnExactKillTurnRow.holds Try.pinned (OpenSpec.ofChange fnExactKillTurnWrong)

/-- 'laws.FnExactUndosRight': WHATEVER THE INPUT: true; the input reads as it did. -/
def fnExactUndosRightSpec : ChangeSpec := { name := "fnExactUndosRight", fn := fun _ => fun
  | [d] => { results := [.lit (.bool true)], args := [d] }
  | _ => none }
def fnExactUndosRightRow : OpenClaim := { program := "ytjjabfcdhknigaa", sum := "2d95d2e4ad6dbadfbbd91fcc04903b32232ab8173b3f5684c0f03ca28637bb24", func := "loop.example/g00731/laws.FnExactUndosRight", spec := "fnExactUndosRight", unfollowed := true, recurses := true, apart := false }
def FnExactUndosRightSaid : Prop := fnExactUndosRightRow.holds Try.pinned (OpenSpec.ofChange fnExactUndosRightSpec)

/-- ITS FALSE NEIGHBOUR: 'it returns false'. Refute it at one input. -/
def fnExactUndosRightWrong : ChangeSpec := { name := "fnExactUndosRight", fn := fun _ => fun
  | [d] => { results := [.lit (.bool false)], args := [d] }
  | _ => none }
def FnExactUndosRightWrongFalsely : Prop := fnExactUndosRightRow.holds Try.pinned (OpenSpec.ofChange fnExactUndosRightWrong)

/- THE SECOND FORM. 'bulk': how many values and letters a reading holds, each counted each time it is reached (what is shared counts as often as it is met; a slice's spare places count too). A statement '..UptoSaid' is the law's where the arguments, and the package variables that the reading takes, are together of bulk at most 1048576: NARROWER than '..Said'. Prove '..Said' where nothing that the law and all that it calls make is longer than what came in: it says more and counts as full. Else prove '..UptoSaid'. A law counts once. -/
mutual
def uptoBulk {H : Type} : DataW H → Nat
  | .lit (.string bytes) => bytes.length + 1
  | .lit _ => 1
  | .nil => 1
  | .ptr d => uptoBulk d + 1
  | .slice elems spare => uptoBulkAll elems + uptoBulkAll spare + 1
  | .agg parts => uptoBulkAll parts + 1
  | .iface _ d => uptoBulk d + 1
  | .map entries => uptoBulkEntries entries + 1
  | .held _ => 1
def uptoBulkAll {H : Type} : List (DataW H) → Nat
  | [] => 0
  | d :: r => uptoBulk d + uptoBulkAll r
def uptoBulkEntries {H : Type} : List (Lit × DataW H) → Nat
  | [] => 0
  | x :: r => uptoBulkEntry x + uptoBulkEntries r
def uptoBulkEntry {H : Type} : Lit × DataW H → Nat
  | (.string bytes, d) => bytes.length + uptoBulk d + 1
  | (_, d) => uptoBulk d + 1
 end
def uptoSmall : (H : Type) → List (DataW H) → Bool := fun _ ds => decide (uptoBulkAll ds ≤ 1048576)
def OpenSpec.upto (s : _root_.Go.ChangeSpec) : _root_.Go.OpenSpec := { _root_.Go.OpenSpec.ofChange s with cond := some uptoSmall }

/-- 'laws.FnExactKillsRight', WHERE WHAT IT READS IS OF BULK AT MOST 1048576: true; the input reads as it did. -/
def fnExactKillsRightUptoRow : OpenClaim := { program := "ytjjabfcdhknigaa", sum := "2d95d2e4ad6dbadfbbd91fcc04903b32232ab8173b3f5684c0f03ca28637bb24", func := "loop.example/g00731/laws.FnExactKillsRight", spec := "fnExactKillsRight", unfollowed := true, recurses := true, apart := false, narrowed := true }
def FnExactKillsRightUptoSaid : Prop := fnExactKillsRightUptoRow.holds Try.pinned (OpenSpec.upto fnExactKillsRightSpec)

/-- 'laws.FnExactKillTop', WHERE WHAT IT READS IS OF BULK AT MOST 1048576: true; the input reads as it did. -/
def fnExactKillTopUptoRow : OpenClaim := { program := "ytjjabfcdhknigaa", sum := "2d95d2e4ad6dbadfbbd91fcc04903b32232ab8173b3f5684c0f03ca28637bb24", func := "loop.example/g00731/laws.FnExactKillTop", spec := "fnExactKillTop", unfollowed := true, recurses := true, apart := false, narrowed := true }
def FnExactKillTopUptoSaid : Prop := fnExactKillTopUptoRow.holds Try.pinned (OpenSpec.upto fnExactKillTopSpec)

/-- 'laws.FnExactKillTurn', WHERE WHAT IT READS IS OF BULK AT MOST 1048576: true; the input reads as it did. -/
def fnExactKillTurnUptoRow : OpenClaim := { program := "ytjjabfcdhknigaa", sum := "2d95d2e4ad6dbadfbbd91fcc04903b32232ab8173b3f5684c0f03ca28637bb24", func := "loop.example/g00731/laws.FnExactKillTurn", spec := "fnExactKillTurn", unfollowed := true, recurses := true, apart := false, narrowed := true }
def FnExactKillTurnUptoSaid : Prop := fnExactKillTurnUptoRow.holds Try.pinned (OpenSpec.upto fnExactKillTurnSpec)

/-- 'laws.FnExactUndosRight', WHERE WHAT IT READS IS OF BULK AT MOST 1048576: true; the input reads as it did. -/
def fnExactUndosRightUptoRow : OpenClaim := { program := "ytjjabfcdhknigaa", sum := "2d95d2e4ad6dbadfbbd91fcc04903b32232ab8173b3f5684c0f03ca28637bb24", func := "loop.example/g00731/laws.FnExactUndosRight", spec := "fnExactUndosRight", unfollowed := true, recurses := true, apart := false, narrowed := true }
def FnExactUndosRightUptoSaid : Prop := fnExactUndosRightUptoRow.holds Try.pinned (OpenSpec.upto fnExactUndosRightSpec)

end Rows
end Go.Proofs.Ytjjabfcdhknigaa
