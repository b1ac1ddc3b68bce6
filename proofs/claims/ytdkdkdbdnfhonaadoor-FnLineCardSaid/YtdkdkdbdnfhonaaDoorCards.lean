/-
  DERIVED. GIVEN WITH THE SEED: THE CARDS: each row of YtdkdkdbdnfhonaaDoorRows.lean that lists a variable, with what it lists TIED to the program's text (the seventh form; the later family's looks); each row that meets fmt, with fmt's text TOLD by the authors' own Lean function (tested against real Go, not proved from fmt's source: count such statements apart). THE CARD IS WHAT COUNTS. Prove the row's statement (the work); the ties are given (YtdkdkdbdnfhonaaDoorTie.lean); close each card by the builder's one call (the guide's Derived/Test/ToyasCard.lean, 'card_holds'). Laid BY PROGRAM, IN A SANDBOX (cutbox-door.mjs). By AI agents, Wed Nov 11 2026. No macro, syntax, notation, axiom, sorry.
-/
import Derived.Test.YtdkdkdbdnfhonaaDoorRows
import GoSem.ClaimSeven
namespace Go.Proofs.YtdkdkdbdnfhonaaDoor
namespace Rows

/-- THE TIED CARD OF 'laws.FnNums'. -/
def fnNumsCard : Claim7 := { stood := { row := fnNumsRow, standIns := [], harness := (true, "2b781fc47592b8cbbc12641a0ab63674b7f117f01d272165e52dc063cd3e0954"), looks := true }, kinds := [], alts := [], laidByText := true, laidKinds := [.handle], laidTests := true, laidLooks := .later }
def FnNumsCardSaid : Prop := Claim7.holds Tryd.pinned (.plain (OpenSpec.ofChange fnNumsSpec)) fnNumsCard

/-- THE TIED CARD OF 'laws.FnLine'. -/
def fnLineCard : Claim7 := { stood := { row := fnLineRow, standIns := [], harness := (true, "2b781fc47592b8cbbc12641a0ab63674b7f117f01d272165e52dc063cd3e0954"), looks := true }, kinds := [], alts := [], laidByText := true, laidKinds := [.data, .pinned, .pinned], laidTests := true, laidLooks := .later }
def FnLineCardSaid : Prop := Claim7.holds Tryd.pinned (.plain (OpenSpec.ofChange fnLineSpec)) fnLineCard

/-- THE SECOND FORM's CARD OF 'laws.FnNums'. -/
def fnNumsUptoCard : Claim7 := { stood := { row := fnNumsUptoRow, standIns := [], harness := (true, "2b781fc47592b8cbbc12641a0ab63674b7f117f01d272165e52dc063cd3e0954"), looks := true }, kinds := [], alts := [], laidByText := true, laidKinds := [.handle], laidTests := true, laidLooks := .later }
def FnNumsUptoCardSaid : Prop := Claim7.holds Tryd.pinned (.plain (OpenSpec.upto fnNumsSpec)) fnNumsUptoCard

/-- THE SECOND FORM's CARD OF 'laws.FnLine'. -/
def fnLineUptoCard : Claim7 := { stood := { row := fnLineUptoRow, standIns := [], harness := (true, "2b781fc47592b8cbbc12641a0ab63674b7f117f01d272165e52dc063cd3e0954"), looks := true }, kinds := [], alts := [], laidByText := true, laidKinds := [.data, .pinned, .pinned], laidTests := true, laidLooks := .later }
def FnLineUptoCardSaid : Prop := Claim7.holds Tryd.pinned (.plain (OpenSpec.upto fnLineSpec)) fnLineUptoCard
end Rows
end Go.Proofs.YtdkdkdbdnfhonaaDoor
