/-
  DERIVED. GIVEN WITH THE SEED: THE CARDS: each row of YtemfobhfejmboaaDoorRows.lean that lists a variable, with what it lists TIED to the program's text (the seventh form; the later family's looks); each row that meets fmt, with fmt's text TOLD by the authors' own Lean function (tested against real Go, not proved from fmt's source: count such statements apart). THE CARD IS WHAT COUNTS. Prove the row's statement (the work); the ties are given (YtemfobhfejmboaaDoorTie.lean); close each card by the builder's one call (the guide's Derived/Test/ToyasCard.lean, 'card_holds'). Laid BY PROGRAM, IN A SANDBOX (cutbox-door.mjs). By AI agents, Wed Nov 11 2026. No macro, syntax, notation, axiom, sorry.
-/
import Derived.Test.YtemfobhfejmboaaDoorRows
import GoSem.ClaimSeven
namespace Go.Proofs.YtemfobhfejmboaaDoor
namespace Rows

/-- THE TIED CARD OF 'laws.FnNums'. -/
def fnNumsCard : Claim7 := { stood := { row := fnNumsRow, standIns := [], harness := (true, "8d5860f57d43955a3ac3ea3df5eebb663c927cdce2d0987a31e08555071406df"), looks := true }, kinds := [], alts := [], laidByText := true, laidKinds := [.handle], laidTests := true, laidLooks := .later }
def FnNumsCardSaid : Prop := Claim7.holds Tryd.pinned (.plain (OpenSpec.ofChange fnNumsSpec)) fnNumsCard

/-- THE SECOND FORM's CARD OF 'laws.FnNums'. -/
def fnNumsUptoCard : Claim7 := { stood := { row := fnNumsUptoRow, standIns := [], harness := (true, "8d5860f57d43955a3ac3ea3df5eebb663c927cdce2d0987a31e08555071406df"), looks := true }, kinds := [], alts := [], laidByText := true, laidKinds := [.handle], laidTests := true, laidLooks := .later }
def FnNumsUptoCardSaid : Prop := Claim7.holds Tryd.pinned (.plain (OpenSpec.upto fnNumsSpec)) fnNumsUptoCard
end Rows
end Go.Proofs.YtemfobhfejmboaaDoor
