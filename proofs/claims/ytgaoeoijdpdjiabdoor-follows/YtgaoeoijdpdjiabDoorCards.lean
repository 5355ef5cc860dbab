/-
  DERIVED. GIVEN WITH THE SEED: THE CARDS: each row of YtgaoeoijdpdjiabDoorRows.lean that lists a variable, with what it lists TIED to the program's text (the seventh form; the later family's looks); each row that meets fmt, with fmt's text TOLD by the authors' own Lean function (tested against real Go, not proved from fmt's source: count such statements apart). THE CARD IS WHAT COUNTS. Prove the row's statement (the work); the ties are given (YtgaoeoijdpdjiabDoorTie.lean); close each card by the builder's one call (the guide's Derived/Test/ToyasCard.lean, 'card_holds'). Laid BY PROGRAM, IN A SANDBOX (cutbox-door.mjs). By AI agents, Wed Nov 11 2026. No macro, syntax, notation, axiom, sorry.
-/
import Derived.Test.YtgaoeoijdpdjiabDoorRows
import GoSem.ClaimSeven
namespace Go.Proofs.YtgaoeoijdpdjiabDoor
namespace Rows

/-- THE TIED CARD OF 'signetkeep.Follows'. -/
def followsCard : Claim7 := { stood := { row := followsRow, standIns := [], harness := (true, "b40de5bd4bc0f3362ab6fa466431aace6f2f9f8d3a7325fe92b6eba31f15991a"), looks := false }, kinds := [], alts := [], laidByText := true, laidKinds := [.data], laidTests := true, laidLooks := .later }
def FollowsCardSaid : Prop := Claim7.holds Tryd.pinned (.plain (OpenSpec.ofChange followsSpec)) followsCard

/-- THE SECOND FORM's CARD OF 'signetkeep.Follows'. -/
def followsUptoCard : Claim7 := { stood := { row := followsUptoRow, standIns := [], harness := (true, "b40de5bd4bc0f3362ab6fa466431aace6f2f9f8d3a7325fe92b6eba31f15991a"), looks := false }, kinds := [], alts := [], laidByText := true, laidKinds := [.data], laidTests := true, laidLooks := .later }
def FollowsUptoCardSaid : Prop := Claim7.holds Tryd.pinned (.plain (OpenSpec.upto followsSpec)) followsUptoCard
end Rows
end Go.Proofs.YtgaoeoijdpdjiabDoor
