/-
  DERIVED. GIVEN WITH THE SEED: THE CARDS: each row of YtgmbpohbjhaghaaDoorRows.lean that lists a variable, with what it lists TIED to the program's text (the seventh form; the later family's looks); each row that meets fmt, with fmt's text TOLD by the authors' own Lean function (tested against real Go, not proved from fmt's source: count such statements apart). THE CARD IS WHAT COUNTS. Prove the row's statement (the work); the ties are given (YtgmbpohbjhaghaaDoorTie.lean); close each card by the builder's one call (the guide's Derived/Test/ToyasCard.lean, 'card_holds'). Laid BY PROGRAM, IN A SANDBOX (cutbox-door.mjs). By AI agents, Wed Nov 11 2026. No macro, syntax, notation, axiom, sorry.
-/
import Derived.Test.YtgmbpohbjhaghaaDoorRows
import GoSem.ClaimSeven
namespace Go.Proofs.YtgmbpohbjhaghaaDoor
namespace Rows

/-- THE TIED CARD OF 'laws.FnExactHistLoad'. -/
def fnExactHistLoadCard : Claim7 := { stood := { row := fnExactHistLoadRow, standIns := [], harness := (true, "3f4031433386d981246d78bb0adb56605fa2df5509ef416fa5d7ebbb19b6654a"), looks := true }, kinds := [], alts := [], laidByText := true, laidKinds := [.handle], laidTests := true, laidLooks := .later }
def FnExactHistLoadCardSaid : Prop := Claim7.holds Tryd.pinned (.plain (OpenSpec.ofChange fnExactHistLoadSpec)) fnExactHistLoadCard

/-- THE SECOND FORM's CARD OF 'laws.FnExactHistLoad'. -/
def fnExactHistLoadUptoCard : Claim7 := { stood := { row := fnExactHistLoadUptoRow, standIns := [], harness := (true, "3f4031433386d981246d78bb0adb56605fa2df5509ef416fa5d7ebbb19b6654a"), looks := true }, kinds := [], alts := [], laidByText := true, laidKinds := [.handle], laidTests := true, laidLooks := .later }
def FnExactHistLoadUptoCardSaid : Prop := Claim7.holds Tryd.pinned (.plain (OpenSpec.upto fnExactHistLoadSpec)) fnExactHistLoadUptoCard
end Rows
end Go.Proofs.YtgmbpohbjhaghaaDoor
