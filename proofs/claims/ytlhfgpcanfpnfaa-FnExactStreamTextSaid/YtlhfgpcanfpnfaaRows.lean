/-
  No cell of these rows narrows 'for every input' (looked for: loops, veiled, ifaces, maps, wideKeys, modest, calm, conditions, laid).
  DERIVED. THE GIVEN ROWS OF THIS SEAT. 3 by the template 'for every input the law returns true; each argument reads behind the call as it read before'; 0 by the template 'total and deterministic' (their statements: YtlhfgpcanfpnfaaTotals.lean).
  GIVEN WITH THE SEED: the statements are not yours to turn. If you find one false, say at which input.
  Laid BY PROGRAM, IN A SANDBOX (cutbox-rows.mjs): the forced cells as the released guide's own fill.sh prints them over the translation fa4b28a8b7dcc58a… (all of the seat's roots in one cut). By AI agents, Wed Nov 11 2026. No macro, syntax, notation, axiom, sorry.
-/
import Derived.Test.YtlhfgpcanfpnfaaChecked
import GoSem.Claim
import GoSem.ClaimJoined
import GoSem.ClaimMapViews
import Derived.JoinedTies
import Derived.KernelRfl
namespace Go.Proofs.Ytlhfgpcanfpnfaa
/- THE CELL 'sum', in the pinned program and in every row, IS THE sha256 OF THE DUMP (.gsa) THAT YtlhfgpcanfpnfaaProg.lean LOADS. Nothing in Lean hashes anything: it is a label: what it is worth is what the hold of that sum in a sandbox is worth. -/
noncomputable def Try.pinned : Pinned := { name := "ytlhfgpcanfpnfaa", sum := "fa4b28a8b7dcc58a525f637aa1797426a33f502e3a94283fc9a6bf57dffa5af6", checked := Try.checked }
namespace Rows
def none {H : Type} : Left H := { results := [], args := [] }

/-- 'laws.FnExactFrameRight': WHATEVER THE INPUT: true; the input reads as it did. -/
def fnExactFrameRightSpec : ChangeSpec := { name := "fnExactFrameRight", fn := fun _ => fun
  | [d] => { results := [.lit (.bool true)], args := [d] }
  | _ => none }
def fnExactFrameRightRow : OpenClaim := { program := "ytlhfgpcanfpnfaa", sum := "fa4b28a8b7dcc58a525f637aa1797426a33f502e3a94283fc9a6bf57dffa5af6", func := "loop.example/g00731/laws.FnExactFrameRight", spec := "fnExactFrameRight", unfollowed := true, recurses := true, apart := false }
def FnExactFrameRightSaid : Prop := fnExactFrameRightRow.holds Try.pinned (OpenSpec.ofChange fnExactFrameRightSpec)

/-- ITS FALSE NEIGHBOUR: 'it returns false'. Refute it at one input. -/
def fnExactFrameRightWrong : ChangeSpec := { name := "fnExactFrameRight", fn := fun _ => fun
  | [d] => { results := [.lit (.bool false)], args := [d] }
  | _ => none }
def FnExactFrameRightWrongFalsely : Prop := fnExactFrameRightRow.holds Try.pinned (OpenSpec.ofChange fnExactFrameRightWrong)

/-- 'laws.FnExactFrameText': WHATEVER THE INPUT: true; the input reads as it did. -/
def fnExactFrameTextSpec : ChangeSpec := { name := "fnExactFrameText", fn := fun _ => fun
  | [d] => { results := [.lit (.bool true)], args := [d] }
  | _ => none }
def fnExactFrameTextRow : OpenClaim := { program := "ytlhfgpcanfpnfaa", sum := "fa4b28a8b7dcc58a525f637aa1797426a33f502e3a94283fc9a6bf57dffa5af6", func := "loop.example/g00731/laws.FnExactFrameText", spec := "fnExactFrameText", unfollowed := true, recurses := true, apart := false }
def FnExactFrameTextSaid : Prop := fnExactFrameTextRow.holds Try.pinned (OpenSpec.ofChange fnExactFrameTextSpec)

/-- ITS FALSE NEIGHBOUR: 'it returns false'. Refute it at one input. -/
def fnExactFrameTextWrong : ChangeSpec := { name := "fnExactFrameText", fn := fun _ => fun
  | [d] => { results := [.lit (.bool false)], args := [d] }
  | _ => none }
def FnExactFrameTextWrongFalsely : Prop := fnExactFrameTextRow.holds Try.pinned (OpenSpec.ofChange fnExactFrameTextWrong)

/-- 'laws.FnExactStreamText': WHATEVER THE INPUT: true; the input reads as it did. -/
def fnExactStreamTextSpec : ChangeSpec := { name := "fnExactStreamText", fn := fun _ => fun
  | [d] => { results := [.lit (.bool true)], args := [d] }
  | _ => none }
def fnExactStreamTextRow : OpenClaim := { program := "ytlhfgpcanfpnfaa", sum := "fa4b28a8b7dcc58a525f637aa1797426a33f502e3a94283fc9a6bf57dffa5af6", func := "loop.example/g00731/laws.FnExactStreamText", spec := "fnExactStreamText", inPlace := ["internal/abi.NoEscape"], unfollowed := true, recurses := true, apart := false }
def FnExactStreamTextSaid : Prop := fnExactStreamTextRow.holds Try.pinned (OpenSpec.ofChange fnExactStreamTextSpec)

/-- ITS FALSE NEIGHBOUR: 'it returns false'. Refute it at one input. -/
def fnExactStreamTextWrong : ChangeSpec := { name := "fnExactStreamText", fn := fun _ => fun
  | [d] => { results := [.lit (.bool false)], args := [d] }
  | _ => none }
def FnExactStreamTextWrongFalsely : Prop := fnExactStreamTextRow.holds Try.pinned (OpenSpec.ofChange fnExactStreamTextWrong)

/- THE SECOND FORM. 'bulk': how many values and letters a reading holds, each counted each time it is reached (what is shared counts as often as it is met; a slice's spare places count too). A statement '..UptoSaid' is the law's where the arguments, and the package variables that the reading takes, are together of bulk at most 1048576: NARROWER than '..Said'. Prove '..Said' where nothing that the law and all that it calls make is longer than what came in: it says more and counts as full. Else prove '..UptoSaid'. A law counts once. -/
mutual
def uptoBulk {H : Type} : DataW H → Nat
  | .lit (.string bytes) => bytes.length + 1
  | .lit _ => 1
  | .nil => 1
  | .ptr d => uptoBulk d + 1
  | .slice elems spare => uptoBulkAll elems + uptoBulkAll spare + 1
  | .agg parts => uptoBulkAll parts + 1
  | .iface _ d => uptoBulk d + 1
  | .map entries => uptoBulkEntries entries + 1
  | .held _ => 1
def uptoBulkAll {H : Type} : List (DataW H) → Nat
  | [] => 0
  | d :: r => uptoBulk d + uptoBulkAll r
def uptoBulkEntries {H : Type} : List (Lit × DataW H) → Nat
  | [] => 0
  | x :: r => uptoBulkEntry x + uptoBulkEntries r
def uptoBulkEntry {H : Type} : Lit × DataW H → Nat
  | (.string bytes, d) => bytes.length + uptoBulk d + 1
  | (_, d) => uptoBulk d + 1
 end
def uptoSmall : (H : Type) → List (DataW H) → Bool := fun _ ds => decide (uptoBulkAll ds ≤ 1048576)
def OpenSpec.upto (s : _root_.Go.ChangeSpec) : _root_.Go.OpenSpec := { _root_.Go.OpenSpec.ofChange s with cond := some uptoSmall }

/-- 'laws.FnExactFrameRight', WHERE WHAT IT READS IS OF BULK AT MOST 1048576: true; the input reads as it did. -/
def fnExactFrameRightUptoRow : OpenClaim := { program := "ytlhfgpcanfpnfaa", sum := "fa4b28a8b7dcc58a525f637aa1797426a33f502e3a94283fc9a6bf57dffa5af6", func := "loop.example/g00731/laws.FnExactFrameRight", spec := "fnExactFrameRight", unfollowed := true, recurses := true, apart := false, narrowed := true }
def FnExactFrameRightUptoSaid : Prop := fnExactFrameRightUptoRow.holds Try.pinned (OpenSpec.upto fnExactFrameRightSpec)

/-- 'laws.FnExactFrameText', WHERE WHAT IT READS IS OF BULK AT MOST 1048576: true; the input reads as it did. -/
def fnExactFrameTextUptoRow : OpenClaim := { program := "ytlhfgpcanfpnfaa", sum := "fa4b28a8b7dcc58a525f637aa1797426a33f502e3a94283fc9a6bf57dffa5af6", func := "loop.example/g00731/laws.FnExactFrameText", spec := "fnExactFrameText", unfollowed := true, recurses := true, apart := false, narrowed := true }
def FnExactFrameTextUptoSaid : Prop := fnExactFrameTextUptoRow.holds Try.pinned (OpenSpec.upto fnExactFrameTextSpec)

/-- 'laws.FnExactStreamText', WHERE WHAT IT READS IS OF BULK AT MOST 1048576: true; the input reads as it did. -/
def fnExactStreamTextUptoRow : OpenClaim := { program := "ytlhfgpcanfpnfaa", sum := "fa4b28a8b7dcc58a525f637aa1797426a33f502e3a94283fc9a6bf57dffa5af6", func := "loop.example/g00731/laws.FnExactStreamText", spec := "fnExactStreamText", inPlace := ["internal/abi.NoEscape"], unfollowed := true, recurses := true, apart := false, narrowed := true }
def FnExactStreamTextUptoSaid : Prop := fnExactStreamTextUptoRow.holds Try.pinned (OpenSpec.upto fnExactStreamTextSpec)

end Rows
end Go.Proofs.Ytlhfgpcanfpnfaa
