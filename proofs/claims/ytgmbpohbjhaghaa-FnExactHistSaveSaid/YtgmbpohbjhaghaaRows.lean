/-
  No cell of these rows narrows 'for every input' (looked for: loops, veiled, ifaces, maps, wideKeys, modest, calm, conditions, laid).
  DERIVED. THE GIVEN ROWS OF THIS SEAT. 10 by the template 'for every input the law returns true; each argument reads behind the call as it read before'; 0 by the template 'total and deterministic' (their statements: YtgmbpohbjhaghaaTotals.lean).
  GIVEN WITH THE SEED: the statements are not yours to turn. If you find one false, say at which input.
  Laid BY PROGRAM, IN A SANDBOX (cutbox-rows.mjs): the forced cells as the released guide's own fill.sh prints them over the translation 5eb31433c6965947… (all of the seat's roots in one cut). By AI agents, Wed Nov 11 2026. No macro, syntax, notation, axiom, sorry.
-/
import Derived.Test.YtgmbpohbjhaghaaChecked
import GoSem.Claim
import GoSem.ClaimJoined
import GoSem.ClaimMapViews
import Derived.JoinedTies
import Derived.KernelRfl
namespace Go.Proofs.Ytgmbpohbjhaghaa
/- THE CELL 'sum', in the pinned program and in every row, IS THE sha256 OF THE DUMP (.gsa) THAT YtgmbpohbjhaghaaProg.lean LOADS. Nothing in Lean hashes anything: it is a label: what it is worth is what the hold of that sum in a sandbox is worth. -/
noncomputable def Try.pinned : Pinned := { name := "ytgmbpohbjhaghaa", sum := "5eb31433c6965947fbeb781f062caca56427ea86085707c67662f9c206c3e817", checked := Try.checked }
namespace Rows
def none {H : Type} : Left H := { results := [], args := [] }

/-- 'laws.FnKill': WHATEVER THE INPUT: true; the input reads as it did. -/
def fnKillSpec : ChangeSpec := { name := "fnKill", fn := fun _ => fun
  | [d1, d2] => { results := [.lit (.bool true)], args := [d1, d2] }
  | _ => none }
def fnKillRow : OpenClaim := { program := "ytgmbpohbjhaghaa", sum := "5eb31433c6965947fbeb781f062caca56427ea86085707c67662f9c206c3e817", func := "loop.example/g00731/laws.FnKill", spec := "fnKill", unfollowed := true, recurses := true, apart := false }
def FnKillSaid : Prop := fnKillRow.holds Try.pinned (OpenSpec.ofChange fnKillSpec)

/-- ITS FALSE NEIGHBOUR: 'it returns false'. Refute it at one input. -/
def fnKillWrong : ChangeSpec := { name := "fnKill", fn := fun _ => fun
  | [d1, d2] => { results := [.lit (.bool false)], args := [d1, d2] }
  | _ => none }
def FnKillWrongFalsely : Prop := fnKillRow.holds Try.pinned (OpenSpec.ofChange fnKillWrong)

/-- 'laws.FnExactKillsRight': WHATEVER THE INPUT: true; the input reads as it did. -/
def fnExactKillsRightSpec : ChangeSpec := { name := "fnExactKillsRight", fn := fun _ => fun
  | [d] => { results := [.lit (.bool true)], args := [d] }
  | _ => none }
def fnExactKillsRightRow : OpenClaim := { program := "ytgmbpohbjhaghaa", sum := "5eb31433c6965947fbeb781f062caca56427ea86085707c67662f9c206c3e817", func := "loop.example/g00731/laws.FnExactKillsRight", spec := "fnExactKillsRight", unfollowed := true, recurses := true, apart := false }
def FnExactKillsRightSaid : Prop := fnExactKillsRightRow.holds Try.pinned (OpenSpec.ofChange fnExactKillsRightSpec)

/-- ITS FALSE NEIGHBOUR: 'it returns false'. Refute it at one input. -/
def fnExactKillsRightWrong : ChangeSpec := { name := "fnExactKillsRight", fn := fun _ => fun
  | [d] => { results := [.lit (.bool false)], args := [d] }
  | _ => none }
def FnExactKillsRightWrongFalsely : Prop := fnExactKillsRightRow.holds Try.pinned (OpenSpec.ofChange fnExactKillsRightWrong)

/-- 'laws.FnExactKillTop': WHATEVER THE INPUT: true; the input reads as it did. -/
def fnExactKillTopSpec : ChangeSpec := { name := "fnExactKillTop", fn := fun _ => fun
  | [d] => { results := [.lit (.bool true)], args := [d] }
  | _ => none }
def fnExactKillTopRow : OpenClaim := { program := "ytgmbpohbjhaghaa", sum := "5eb31433c6965947fbeb781f062caca56427ea86085707c67662f9c206c3e817", func := "loop.example/g00731/laws.FnExactKillTop", spec := "fnExactKillTop", unfollowed := true, recurses := true, apart := false }
def FnExactKillTopSaid : Prop := fnExactKillTopRow.holds Try.pinned (OpenSpec.ofChange fnExactKillTopSpec)

/-- ITS FALSE NEIGHBOUR: 'it returns false'. Refute it at one input. -/
def fnExactKillTopWrong : ChangeSpec := { name := "fnExactKillTop", fn := fun _ => fun
  | [d] => { results := [.lit (.bool false)], args := [d] }
  | _ => none }
def FnExactKillTopWrongFalsely : Prop := fnExactKillTopRow.holds Try.pinned (OpenSpec.ofChange fnExactKillTopWrong)

/-- 'laws.FnExactKillTurn': WHATEVER THE INPUT: true; the input reads as it did. -/
def fnExactKillTurnSpec : ChangeSpec := { name := "fnExactKillTurn", fn := fun _ => fun
  | [d] => { results := [.lit (.bool true)], args := [d] }
  | _ => none }
def fnExactKillTurnRow : OpenClaim := { program := "ytgmbpohbjhaghaa", sum := "5eb31433c6965947fbeb781f062caca56427ea86085707c67662f9c206c3e817", func := "loop.example/g00731/laws.FnExactKillTurn", spec := "fnExactKillTurn", unfollowed := true, recurses := true, apart := false }
def FnExactKillTurnSaid : Prop := fnExactKillTurnRow.holds Try.pinned (OpenSpec.ofChange fnExactKillTurnSpec)

/-- ITS FALSE NEIGHBOUR: 'it returns false'. Refute it at one input. -/
def fnExactKillTurnWrong : ChangeSpec := { name := "fnExactKillTurn", fn := fun _ => fun
  | [d] => { results := [.lit (.bool false)], args := [d] }
  | _ => none }
def FnExactKillTurnWrongFalsely : Prop := fnExactKillTurnRow.holds Try.pinned (OpenSpec.ofChange fnExactKillTurnWrong)

/-- 'laws.FnExactUndosRight': WHATEVER THE INPUT: true; the input reads as it did. -/
def fnExactUndosRightSpec : ChangeSpec := { name := "fnExactUndosRight", fn := fun _ => fun
  | [d] => { results := [.lit (.bool true)], args := [d] }
  | _ => none }
def fnExactUndosRightRow : OpenClaim := { program := "ytgmbpohbjhaghaa", sum := "5eb31433c6965947fbeb781f062caca56427ea86085707c67662f9c206c3e817", func := "loop.example/g00731/laws.FnExactUndosRight", spec := "fnExactUndosRight", unfollowed := true, recurses := true, apart := false }
def FnExactUndosRightSaid : Prop := fnExactUndosRightRow.holds Try.pinned (OpenSpec.ofChange fnExactUndosRightSpec)

/-- ITS FALSE NEIGHBOUR: 'it returns false'. Refute it at one input. -/
def fnExactUndosRightWrong : ChangeSpec := { name := "fnExactUndosRight", fn := fun _ => fun
  | [d] => { results := [.lit (.bool false)], args := [d] }
  | _ => none }
def FnExactUndosRightWrongFalsely : Prop := fnExactUndosRightRow.holds Try.pinned (OpenSpec.ofChange fnExactUndosRightWrong)

/-- 'laws.FnExactHistRight': WHATEVER THE INPUT: true; the input reads as it did. -/
def fnExactHistRightSpec : ChangeSpec := { name := "fnExactHistRight", fn := fun _ => fun
  | [d] => { results := [.lit (.bool true)], args := [d] }
  | _ => none }
def fnExactHistRightRow : OpenClaim := { program := "ytgmbpohbjhaghaa", sum := "5eb31433c6965947fbeb781f062caca56427ea86085707c67662f9c206c3e817", func := "loop.example/g00731/laws.FnExactHistRight", spec := "fnExactHistRight", unfollowed := true, recurses := true, apart := false }
def FnExactHistRightSaid : Prop := fnExactHistRightRow.holds Try.pinned (OpenSpec.ofChange fnExactHistRightSpec)

/-- ITS FALSE NEIGHBOUR: 'it returns false'. Refute it at one input. -/
def fnExactHistRightWrong : ChangeSpec := { name := "fnExactHistRight", fn := fun _ => fun
  | [d] => { results := [.lit (.bool false)], args := [d] }
  | _ => none }
def FnExactHistRightWrongFalsely : Prop := fnExactHistRightRow.holds Try.pinned (OpenSpec.ofChange fnExactHistRightWrong)

/-- 'laws.FnExactHistUp': WHATEVER THE INPUT: true; the input reads as it did. -/
def fnExactHistUpSpec : ChangeSpec := { name := "fnExactHistUp", fn := fun _ => fun
  | [d1, d2] => { results := [.lit (.bool true)], args := [d1, d2] }
  | _ => none }
def fnExactHistUpRow : OpenClaim := { program := "ytgmbpohbjhaghaa", sum := "5eb31433c6965947fbeb781f062caca56427ea86085707c67662f9c206c3e817", func := "loop.example/g00731/laws.FnExactHistUp", spec := "fnExactHistUp", unfollowed := true, recurses := true, apart := false }
def FnExactHistUpSaid : Prop := fnExactHistUpRow.holds Try.pinned (OpenSpec.ofChange fnExactHistUpSpec)

/-- ITS FALSE NEIGHBOUR: 'it returns false'. Refute it at one input. -/
def fnExactHistUpWrong : ChangeSpec := { name := "fnExactHistUp", fn := fun _ => fun
  | [d1, d2] => { results := [.lit (.bool false)], args := [d1, d2] }
  | _ => none }
def FnExactHistUpWrongFalsely : Prop := fnExactHistUpRow.holds Try.pinned (OpenSpec.ofChange fnExactHistUpWrong)

/-- 'laws.FnExactHistDown': WHATEVER THE INPUT: true; the input reads as it did. -/
def fnExactHistDownSpec : ChangeSpec := { name := "fnExactHistDown", fn := fun _ => fun
  | [d1, d2] => { results := [.lit (.bool true)], args := [d1, d2] }
  | _ => none }
def fnExactHistDownRow : OpenClaim := { program := "ytgmbpohbjhaghaa", sum := "5eb31433c6965947fbeb781f062caca56427ea86085707c67662f9c206c3e817", func := "loop.example/g00731/laws.FnExactHistDown", spec := "fnExactHistDown", unfollowed := true, recurses := true, apart := false }
def FnExactHistDownSaid : Prop := fnExactHistDownRow.holds Try.pinned (OpenSpec.ofChange fnExactHistDownSpec)

/-- ITS FALSE NEIGHBOUR: 'it returns false'. Refute it at one input. -/
def fnExactHistDownWrong : ChangeSpec := { name := "fnExactHistDown", fn := fun _ => fun
  | [d1, d2] => { results := [.lit (.bool false)], args := [d1, d2] }
  | _ => none }
def FnExactHistDownWrongFalsely : Prop := fnExactHistDownRow.holds Try.pinned (OpenSpec.ofChange fnExactHistDownWrong)

/-- 'laws.FnExactHistFind': WHATEVER THE INPUT: true; the input reads as it did. -/
def fnExactHistFindSpec : ChangeSpec := { name := "fnExactHistFind", fn := fun _ => fun
  | [d1, d2, d3] => { results := [.lit (.bool true)], args := [d1, d2, d3] }
  | _ => none }
def fnExactHistFindRow : OpenClaim := { program := "ytgmbpohbjhaghaa", sum := "5eb31433c6965947fbeb781f062caca56427ea86085707c67662f9c206c3e817", func := "loop.example/g00731/laws.FnExactHistFind", spec := "fnExactHistFind", inPlace := ["internal/bytealg.IndexByteString", "internal/bytealg.IndexString"], unfollowed := true, recurses := true, named := ["internal/bytealg.MaxLen"], apart := false }
def FnExactHistFindSaid : Prop := fnExactHistFindRow.holds Try.pinned (OpenSpec.ofChange fnExactHistFindSpec)

/-- ITS FALSE NEIGHBOUR: 'it returns false'. Refute it at one input. -/
def fnExactHistFindWrong : ChangeSpec := { name := "fnExactHistFind", fn := fun _ => fun
  | [d1, d2, d3] => { results := [.lit (.bool false)], args := [d1, d2, d3] }
  | _ => none }
def FnExactHistFindWrongFalsely : Prop := fnExactHistFindRow.holds Try.pinned (OpenSpec.ofChange fnExactHistFindWrong)

/-- 'laws.FnExactHistSave': WHATEVER THE INPUT: true; the input reads as it did. -/
def fnExactHistSaveSpec : ChangeSpec := { name := "fnExactHistSave", fn := fun _ => fun
  | [d] => { results := [.lit (.bool true)], args := [d] }
  | _ => none }
def fnExactHistSaveRow : OpenClaim := { program := "ytgmbpohbjhaghaa", sum := "5eb31433c6965947fbeb781f062caca56427ea86085707c67662f9c206c3e817", func := "loop.example/g00731/laws.FnExactHistSave", spec := "fnExactHistSave", unfollowed := true, recurses := true, apart := false }
def FnExactHistSaveSaid : Prop := fnExactHistSaveRow.holds Try.pinned (OpenSpec.ofChange fnExactHistSaveSpec)

/-- ITS FALSE NEIGHBOUR: 'it returns false'. Refute it at one input. -/
def fnExactHistSaveWrong : ChangeSpec := { name := "fnExactHistSave", fn := fun _ => fun
  | [d] => { results := [.lit (.bool false)], args := [d] }
  | _ => none }
def FnExactHistSaveWrongFalsely : Prop := fnExactHistSaveRow.holds Try.pinned (OpenSpec.ofChange fnExactHistSaveWrong)

/- THE SECOND FORM. 'bulk': how many values and letters a reading holds, each counted each time it is reached (what is shared counts as often as it is met; a slice's spare places count too). A statement '..UptoSaid' is the law's where the arguments, and the package variables that the reading takes, are together of bulk at most 1048576: NARROWER than '..Said'. Prove '..Said' where nothing that the law and all that it calls make is longer than what came in: it says more and counts as full. Else prove '..UptoSaid'. A law counts once. -/
mutual
def uptoBulk {H : Type} : DataW H → Nat
  | .lit (.string bytes) => bytes.length + 1
  | .lit _ => 1
  | .nil => 1
  | .ptr d => uptoBulk d + 1
  | .slice elems spare => uptoBulkAll elems + uptoBulkAll spare + 1
  | .agg parts => uptoBulkAll parts + 1
  | .iface _ d => uptoBulk d + 1
  | .map entries => uptoBulkEntries entries + 1
  | .held _ => 1
def uptoBulkAll {H : Type} : List (DataW H) → Nat
  | [] => 0
  | d :: r => uptoBulk d + uptoBulkAll r
def uptoBulkEntries {H : Type} : List (Lit × DataW H) → Nat
  | [] => 0
  | x :: r => uptoBulkEntry x + uptoBulkEntries r
def uptoBulkEntry {H : Type} : Lit × DataW H → Nat
  | (.string bytes, d) => bytes.length + uptoBulk d + 1
  | (_, d) => uptoBulk d + 1
 end
def uptoSmall : (H : Type) → List (DataW H) → Bool := fun _ ds => decide (uptoBulkAll ds ≤ 1048576)
def OpenSpec.upto (s : _root_.Go.ChangeSpec) : _root_.Go.OpenSpec := { _root_.Go.OpenSpec.ofChange s with cond := some uptoSmall }

/-- 'laws.FnKill', WHERE WHAT IT READS IS OF BULK AT MOST 1048576: true; the input reads as it did. -/
def fnKillUptoRow : OpenClaim := { program := "ytgmbpohbjhaghaa", sum := "5eb31433c6965947fbeb781f062caca56427ea86085707c67662f9c206c3e817", func := "loop.example/g00731/laws.FnKill", spec := "fnKill", unfollowed := true, recurses := true, apart := false, narrowed := true }
def FnKillUptoSaid : Prop := fnKillUptoRow.holds Try.pinned (OpenSpec.upto fnKillSpec)

/-- 'laws.FnExactKillsRight', WHERE WHAT IT READS IS OF BULK AT MOST 1048576: true; the input reads as it did. -/
def fnExactKillsRightUptoRow : OpenClaim := { program := "ytgmbpohbjhaghaa", sum := "5eb31433c6965947fbeb781f062caca56427ea86085707c67662f9c206c3e817", func := "loop.example/g00731/laws.FnExactKillsRight", spec := "fnExactKillsRight", unfollowed := true, recurses := true, apart := false, narrowed := true }
def FnExactKillsRightUptoSaid : Prop := fnExactKillsRightUptoRow.holds Try.pinned (OpenSpec.upto fnExactKillsRightSpec)

/-- 'laws.FnExactKillTop', WHERE WHAT IT READS IS OF BULK AT MOST 1048576: true; the input reads as it did. -/
def fnExactKillTopUptoRow : OpenClaim := { program := "ytgmbpohbjhaghaa", sum := "5eb31433c6965947fbeb781f062caca56427ea86085707c67662f9c206c3e817", func := "loop.example/g00731/laws.FnExactKillTop", spec := "fnExactKillTop", unfollowed := true, recurses := true, apart := false, narrowed := true }
def FnExactKillTopUptoSaid : Prop := fnExactKillTopUptoRow.holds Try.pinned (OpenSpec.upto fnExactKillTopSpec)

/-- 'laws.FnExactKillTurn', WHERE WHAT IT READS IS OF BULK AT MOST 1048576: true; the input reads as it did. -/
def fnExactKillTurnUptoRow : OpenClaim := { program := "ytgmbpohbjhaghaa", sum := "5eb31433c6965947fbeb781f062caca56427ea86085707c67662f9c206c3e817", func := "loop.example/g00731/laws.FnExactKillTurn", spec := "fnExactKillTurn", unfollowed := true, recurses := true, apart := false, narrowed := true }
def FnExactKillTurnUptoSaid : Prop := fnExactKillTurnUptoRow.holds Try.pinned (OpenSpec.upto fnExactKillTurnSpec)

/-- 'laws.FnExactUndosRight', WHERE WHAT IT READS IS OF BULK AT MOST 1048576: true; the input reads as it did. -/
def fnExactUndosRightUptoRow : OpenClaim := { program := "ytgmbpohbjhaghaa", sum := "5eb31433c6965947fbeb781f062caca56427ea86085707c67662f9c206c3e817", func := "loop.example/g00731/laws.FnExactUndosRight", spec := "fnExactUndosRight", unfollowed := true, recurses := true, apart := false, narrowed := true }
def FnExactUndosRightUptoSaid : Prop := fnExactUndosRightUptoRow.holds Try.pinned (OpenSpec.upto fnExactUndosRightSpec)

/-- 'laws.FnExactHistRight', WHERE WHAT IT READS IS OF BULK AT MOST 1048576: true; the input reads as it did. -/
def fnExactHistRightUptoRow : OpenClaim := { program := "ytgmbpohbjhaghaa", sum := "5eb31433c6965947fbeb781f062caca56427ea86085707c67662f9c206c3e817", func := "loop.example/g00731/laws.FnExactHistRight", spec := "fnExactHistRight", unfollowed := true, recurses := true, apart := false, narrowed := true }
def FnExactHistRightUptoSaid : Prop := fnExactHistRightUptoRow.holds Try.pinned (OpenSpec.upto fnExactHistRightSpec)

/-- 'laws.FnExactHistUp', WHERE WHAT IT READS IS OF BULK AT MOST 1048576: true; the input reads as it did. -/
def fnExactHistUpUptoRow : OpenClaim := { program := "ytgmbpohbjhaghaa", sum := "5eb31433c6965947fbeb781f062caca56427ea86085707c67662f9c206c3e817", func := "loop.example/g00731/laws.FnExactHistUp", spec := "fnExactHistUp", unfollowed := true, recurses := true, apart := false, narrowed := true }
def FnExactHistUpUptoSaid : Prop := fnExactHistUpUptoRow.holds Try.pinned (OpenSpec.upto fnExactHistUpSpec)

/-- 'laws.FnExactHistDown', WHERE WHAT IT READS IS OF BULK AT MOST 1048576: true; the input reads as it did. -/
def fnExactHistDownUptoRow : OpenClaim := { program := "ytgmbpohbjhaghaa", sum := "5eb31433c6965947fbeb781f062caca56427ea86085707c67662f9c206c3e817", func := "loop.example/g00731/laws.FnExactHistDown", spec := "fnExactHistDown", unfollowed := true, recurses := true, apart := false, narrowed := true }
def FnExactHistDownUptoSaid : Prop := fnExactHistDownUptoRow.holds Try.pinned (OpenSpec.upto fnExactHistDownSpec)

/-- 'laws.FnExactHistFind', WHERE WHAT IT READS IS OF BULK AT MOST 1048576: true; the input reads as it did. -/
def fnExactHistFindUptoRow : OpenClaim := { program := "ytgmbpohbjhaghaa", sum := "5eb31433c6965947fbeb781f062caca56427ea86085707c67662f9c206c3e817", func := "loop.example/g00731/laws.FnExactHistFind", spec := "fnExactHistFind", inPlace := ["internal/bytealg.IndexByteString", "internal/bytealg.IndexString"], unfollowed := true, recurses := true, named := ["internal/bytealg.MaxLen"], apart := false, narrowed := true }
def FnExactHistFindUptoSaid : Prop := fnExactHistFindUptoRow.holds Try.pinned (OpenSpec.upto fnExactHistFindSpec)

/-- 'laws.FnExactHistSave', WHERE WHAT IT READS IS OF BULK AT MOST 1048576: true; the input reads as it did. -/
def fnExactHistSaveUptoRow : OpenClaim := { program := "ytgmbpohbjhaghaa", sum := "5eb31433c6965947fbeb781f062caca56427ea86085707c67662f9c206c3e817", func := "loop.example/g00731/laws.FnExactHistSave", spec := "fnExactHistSave", unfollowed := true, recurses := true, apart := false, narrowed := true }
def FnExactHistSaveUptoSaid : Prop := fnExactHistSaveUptoRow.holds Try.pinned (OpenSpec.upto fnExactHistSaveSpec)

end Rows
end Go.Proofs.Ytgmbpohbjhaghaa
