/-
  DERIVED. GIVEN WITH THE SEED: THE CARDS: each row of YtgaoeoijdpdjiaaGreatDoorRows.lean that lists a variable, with what it lists TIED to the program's text (the seventh form; the later family's looks); each row that meets fmt, with fmt's text TOLD by the authors' own Lean function (tested against real Go, not proved from fmt's source: count such statements apart). THE CARD IS WHAT COUNTS. Prove the row's statement (the work); the ties are given (YtgaoeoijdpdjiaaGreatDoorTie.lean); close each card by the builder's one call (the guide's Derived/Test/ToyasCard.lean, 'card_holds'). Laid BY PROGRAM, IN A SANDBOX (cutbox-door.mjs). By AI agents, Wed Nov 11 2026. No macro, syntax, notation, axiom, sorry.
-/
import Derived.Test.YtgaoeoijdpdjiaaGreatDoorRows
import GoSem.ClaimSeven
namespace Go.Proofs.YtgaoeoijdpdjiaaGreatDoor
namespace Rows

/-- THE TIED CARD OF 'signetlaw.Chains'. -/
def chainsCard : Claim7 := { stood := { row := chainsRow, standIns := [], harness := (true, "0b6c66127d0cf19d23831d4156e1bc6e0c06249884b6da64f42a64266630184e"), looks := false }, kinds := [], alts := [], laidByText := true, laidKinds := [.data], laidTests := true, laidLooks := .later }
def ChainsCardSaid : Prop := Claim7.holds Tryz.pinned (.plain (OpenSpec.ofChange chainsSpec)) chainsCard

/-- THE TIED CARD OF 'signetlaw.Walks'. -/
def walksCard : Claim7 := { stood := { row := walksRow, standIns := [], harness := (true, "0b6c66127d0cf19d23831d4156e1bc6e0c06249884b6da64f42a64266630184e"), looks := false }, kinds := [], alts := [], laidByText := true, laidKinds := [.data], laidTests := true, laidLooks := .later }
def WalksCardSaid : Prop := Claim7.holds Tryz.pinned (.plain (OpenSpec.ofChange walksSpec)) walksCard

/-- THE TIED CARD OF 'signetkeep.Climbs'. -/
def climbsCard : Claim7 := { stood := { row := climbsRow, standIns := [], harness := (true, "0b6c66127d0cf19d23831d4156e1bc6e0c06249884b6da64f42a64266630184e"), looks := false }, kinds := [], alts := [], laidByText := true, laidKinds := [.data], laidTests := true, laidLooks := .later }
def ClimbsCardSaid : Prop := Claim7.holds Tryz.pinned (.plain (OpenSpec.ofChange climbsSpec)) climbsCard

/-- THE TIED CARD OF 'signetlaw.Disks'. -/
def disksCard : Claim7 := { stood := { row := disksRow, standIns := [], harness := (true, "0b6c66127d0cf19d23831d4156e1bc6e0c06249884b6da64f42a64266630184e"), looks := false }, kinds := [], alts := [], laidByText := true, laidKinds := [.data], laidTests := true, laidLooks := .later }
def DisksCardSaid : Prop := Claim7.holds Tryz.pinned (.plain (OpenSpec.ofChange disksSpec)) disksCard

/-- THE SECOND FORM's CARD OF 'signetlaw.Chains'. -/
def chainsUptoCard : Claim7 := { stood := { row := chainsUptoRow, standIns := [], harness := (true, "0b6c66127d0cf19d23831d4156e1bc6e0c06249884b6da64f42a64266630184e"), looks := false }, kinds := [], alts := [], laidByText := true, laidKinds := [.data], laidTests := true, laidLooks := .later }
def ChainsUptoCardSaid : Prop := Claim7.holds Tryz.pinned (.plain (OpenSpec.upto chainsSpec)) chainsUptoCard

/-- THE SECOND FORM's CARD OF 'signetlaw.Walks'. -/
def walksUptoCard : Claim7 := { stood := { row := walksUptoRow, standIns := [], harness := (true, "0b6c66127d0cf19d23831d4156e1bc6e0c06249884b6da64f42a64266630184e"), looks := false }, kinds := [], alts := [], laidByText := true, laidKinds := [.data], laidTests := true, laidLooks := .later }
def WalksUptoCardSaid : Prop := Claim7.holds Tryz.pinned (.plain (OpenSpec.upto walksSpec)) walksUptoCard

/-- THE SECOND FORM's CARD OF 'signetkeep.Climbs'. -/
def climbsUptoCard : Claim7 := { stood := { row := climbsUptoRow, standIns := [], harness := (true, "0b6c66127d0cf19d23831d4156e1bc6e0c06249884b6da64f42a64266630184e"), looks := false }, kinds := [], alts := [], laidByText := true, laidKinds := [.data], laidTests := true, laidLooks := .later }
def ClimbsUptoCardSaid : Prop := Claim7.holds Tryz.pinned (.plain (OpenSpec.upto climbsSpec)) climbsUptoCard

/-- THE SECOND FORM's CARD OF 'signetlaw.Disks'. -/
def disksUptoCard : Claim7 := { stood := { row := disksUptoRow, standIns := [], harness := (true, "0b6c66127d0cf19d23831d4156e1bc6e0c06249884b6da64f42a64266630184e"), looks := false }, kinds := [], alts := [], laidByText := true, laidKinds := [.data], laidTests := true, laidLooks := .later }
def DisksUptoCardSaid : Prop := Claim7.holds Tryz.pinned (.plain (OpenSpec.upto disksSpec)) disksUptoCard
end Rows
end Go.Proofs.YtgaoeoijdpdjiaaGreatDoor
