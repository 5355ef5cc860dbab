/-
  DERIVED. GIVEN WITH THE SEED: THE CARDS: each row of YtngeljjdjnnebaaDoorRows.lean that lists a variable, with what it lists TIED to the program's text (the seventh form; the later family's looks); each row that meets fmt, with fmt's text TOLD by the authors' own Lean function (tested against real Go, not proved from fmt's source: count such statements apart). THE CARD IS WHAT COUNTS. Prove the row's statement (the work); the ties are given (YtngeljjdjnnebaaDoorTie.lean); close each card by the builder's one call (the guide's Derived/Test/ToyasCard.lean, 'card_holds'). Laid BY PROGRAM, IN A SANDBOX (cutbox-door.mjs). By AI agents, Wed Nov 11 2026. No macro, syntax, notation, axiom, sorry.
-/
import Derived.Test.YtngeljjdjnnebaaDoorRows
import GoSem.ClaimSeven
namespace Go.Proofs.YtngeljjdjnnebaaDoor
namespace Rows

/-- THE TIED CARD OF 'signetlaw.Digests'. -/
def digestsCard : Claim7 := { stood := { row := digestsRow, standIns := [], harness := (true, "041f615551354031c267bc93e822712394f148a42a8f48f1b6bcd96faa611a60"), looks := false }, kinds := [], alts := [], laidByText := true, laidKinds := [.data], laidTests := true, laidLooks := .later }
def DigestsCardSaid : Prop := Claim7.holds Tryd.pinned (.plain (OpenSpec.ofChange digestsSpec)) digestsCard

/-- THE SECOND FORM's CARD OF 'signetlaw.Digests'. -/
def digestsUptoCard : Claim7 := { stood := { row := digestsUptoRow, standIns := [], harness := (true, "041f615551354031c267bc93e822712394f148a42a8f48f1b6bcd96faa611a60"), looks := false }, kinds := [], alts := [], laidByText := true, laidKinds := [.data], laidTests := true, laidLooks := .later }
def DigestsUptoCardSaid : Prop := Claim7.holds Tryd.pinned (.plain (OpenSpec.upto digestsSpec)) digestsUptoCard
end Rows
end Go.Proofs.YtngeljjdjnnebaaDoor
