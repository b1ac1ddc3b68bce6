/-
  DERIVED. GIVEN WITH THE SEED: THE CARDS: each row of YtlhfgpcanfpnfaaDoorRows.lean that lists a variable, with what it lists TIED to the program's text (the seventh form; the later family's looks); each row that meets fmt, with fmt's text TOLD by the authors' own Lean function (tested against real Go, not proved from fmt's source: count such statements apart). THE CARD IS WHAT COUNTS. Prove the row's statement (the work); the ties are given (YtlhfgpcanfpnfaaDoorTie.lean); close each card by the builder's one call (the guide's Derived/Test/ToyasCard.lean, 'card_holds'). Laid BY PROGRAM, IN A SANDBOX (cutbox-door.mjs). By AI agents, Wed Nov 11 2026. No macro, syntax, notation, axiom, sorry.
-/
import Derived.Test.YtlhfgpcanfpnfaaDoorRows
import GoSem.ClaimSeven
namespace Go.Proofs.YtlhfgpcanfpnfaaDoor
namespace Rows

/-- THE TIED CARD OF 'laws.FnExactFrameRead'. -/
def fnExactFrameReadCard : Claim7 := { stood := { row := fnExactFrameReadRow, standIns := [], harness := (true, "cdae02540f7884cbfa226a5538fc0b20c4d3c6a89c04b013914c963a538eac56"), looks := true }, kinds := [], alts := [], laidByText := true, laidKinds := [.data, .data, .data, .sentinel, .sentinel], laidTests := true, laidLooks := .later }
def FnExactFrameReadCardSaid : Prop := Claim7.holds Tryd.pinned (.plain (OpenSpec.ofChange fnExactFrameReadSpec)) fnExactFrameReadCard

/-- THE TIED CARD OF 'laws.FnExactStreamRead'. -/
def fnExactStreamReadCard : Claim7 := { stood := { row := fnExactStreamReadRow, standIns := [], harness := (true, "cdae02540f7884cbfa226a5538fc0b20c4d3c6a89c04b013914c963a538eac56"), looks := true }, kinds := [], alts := [], laidByText := true, laidKinds := [.data, .data, .data, .sentinel, .sentinel], laidTests := true, laidLooks := .later }
def FnExactStreamReadCardSaid : Prop := Claim7.holds Tryd.pinned (.plain (OpenSpec.ofChange fnExactStreamReadSpec)) fnExactStreamReadCard

/-- THE SECOND FORM's CARD OF 'laws.FnExactFrameRead'. -/
def fnExactFrameReadUptoCard : Claim7 := { stood := { row := fnExactFrameReadUptoRow, standIns := [], harness := (true, "cdae02540f7884cbfa226a5538fc0b20c4d3c6a89c04b013914c963a538eac56"), looks := true }, kinds := [], alts := [], laidByText := true, laidKinds := [.data, .data, .data, .sentinel, .sentinel], laidTests := true, laidLooks := .later }
def FnExactFrameReadUptoCardSaid : Prop := Claim7.holds Tryd.pinned (.plain (OpenSpec.upto fnExactFrameReadSpec)) fnExactFrameReadUptoCard

/-- THE SECOND FORM's CARD OF 'laws.FnExactStreamRead'. -/
def fnExactStreamReadUptoCard : Claim7 := { stood := { row := fnExactStreamReadUptoRow, standIns := [], harness := (true, "cdae02540f7884cbfa226a5538fc0b20c4d3c6a89c04b013914c963a538eac56"), looks := true }, kinds := [], alts := [], laidByText := true, laidKinds := [.data, .data, .data, .sentinel, .sentinel], laidTests := true, laidLooks := .later }
def FnExactStreamReadUptoCardSaid : Prop := Claim7.holds Tryd.pinned (.plain (OpenSpec.upto fnExactStreamReadSpec)) fnExactStreamReadUptoCard
end Rows
end Go.Proofs.YtlhfgpcanfpnfaaDoor
