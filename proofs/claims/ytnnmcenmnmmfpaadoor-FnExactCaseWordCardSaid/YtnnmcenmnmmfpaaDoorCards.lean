/-
  DERIVED. GIVEN WITH THE SEED: THE CARDS: each row of YtnnmcenmnmmfpaaDoorRows.lean that lists a variable, with what it lists TIED to the program's text (the seventh form; the later family's looks); each row that meets fmt, with fmt's text TOLD by the authors' own Lean function (tested against real Go, not proved from fmt's source: count such statements apart). THE CARD IS WHAT COUNTS. Prove the row's statement (the work); the ties are given (YtnnmcenmnmmfpaaDoorTie.lean); close each card by the builder's one call (the guide's Derived/Test/ToyasCard.lean, 'card_holds'). Laid BY PROGRAM, IN A SANDBOX (cutbox-door.mjs). By AI agents, Wed Nov 11 2026. No macro, syntax, notation, axiom, sorry.
-/
import Derived.Test.YtnnmcenmnmmfpaaDoorRows
import GoSem.ClaimSeven
namespace Go.Proofs.YtnnmcenmnmmfpaaDoor
namespace Rows

/-- THE TIED CARD OF 'laws.FnExactCaseWord'. -/
def fnExactCaseWordCard : Claim7 := { stood := { row := fnExactCaseWordRow, standIns := [], harness := (true, "a89cf208ea94669505f66e2fa18424766f30b5875368d180d12f07e9f03a5a9f"), looks := false }, kinds := [], alts := [], laidByText := true, laidKinds := [.data, .pinned, .pinned], laidTests := true, laidLooks := .later }
def FnExactCaseWordCardSaid : Prop := Claim7.holds Tryd.pinned (.plain (OpenSpec.ofChange fnExactCaseWordSpec)) fnExactCaseWordCard

/-- THE SECOND FORM's CARD OF 'laws.FnExactCaseWord'. -/
def fnExactCaseWordUptoCard : Claim7 := { stood := { row := fnExactCaseWordUptoRow, standIns := [], harness := (true, "a89cf208ea94669505f66e2fa18424766f30b5875368d180d12f07e9f03a5a9f"), looks := false }, kinds := [], alts := [], laidByText := true, laidKinds := [.data, .pinned, .pinned], laidTests := true, laidLooks := .later }
def FnExactCaseWordUptoCardSaid : Prop := Claim7.holds Tryd.pinned (.plain (OpenSpec.upto fnExactCaseWordSpec)) fnExactCaseWordUptoCard
end Rows
end Go.Proofs.YtnnmcenmnmmfpaaDoor
