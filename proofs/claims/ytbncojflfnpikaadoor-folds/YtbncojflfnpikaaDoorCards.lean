/-
  DERIVED. GIVEN WITH THE SEED: THE CARDS: each row of YtbncojflfnpikaaDoorRows.lean that lists a variable, with what it lists TIED to the program's text (the seventh form; the later family's looks); each row that meets fmt, with fmt's text TOLD by the authors' own Lean function (tested against real Go, not proved from fmt's source: count such statements apart). THE CARD IS WHAT COUNTS. Prove the row's statement (the work); the ties are given (YtbncojflfnpikaaDoorTie.lean); close each card by the builder's one call (the guide's Derived/Test/ToyasCard.lean, 'card_holds'). Laid BY PROGRAM, IN A SANDBOX (cutbox-door.mjs). By AI agents, Wed Nov 11 2026. No macro, syntax, notation, axiom, sorry.
-/
import Derived.Test.YtbncojflfnpikaaDoorRows
import GoSem.ClaimSeven
namespace Go.Proofs.YtbncojflfnpikaaDoor
namespace Rows

/-- THE TIED CARD OF 'signetlaw.Digests'. -/
def digestsCard : Claim7 := { stood := { row := digestsRow, standIns := [], harness := (true, "6846efb19ccdea62a4a1547471d3a37dabfceea7717e388006544470410ab8ee"), looks := false }, kinds := [], alts := [], laidByText := true, laidKinds := [.data], laidTests := true, laidLooks := .later }
def DigestsCardSaid : Prop := Claim7.holds Tryd.pinned (.plain (OpenSpec.ofChange digestsSpec)) digestsCard

/-- THE TIED CARD OF 'signetlaw.Chains'. -/
def chainsCard : Claim7 := { stood := { row := chainsRow, standIns := [], harness := (true, "6846efb19ccdea62a4a1547471d3a37dabfceea7717e388006544470410ab8ee"), looks := false }, kinds := [], alts := [], laidByText := true, laidKinds := [.data], laidTests := true, laidLooks := .later }
def ChainsCardSaid : Prop := Claim7.holds Tryd.pinned (.plain (OpenSpec.ofChange chainsSpec)) chainsCard

/-- THE TIED CARD OF 'signetlaw.Folds'. -/
def foldsCard : Claim7 := { stood := { row := foldsRow, standIns := [], harness := (true, "6846efb19ccdea62a4a1547471d3a37dabfceea7717e388006544470410ab8ee"), looks := false }, kinds := [], alts := [], laidByText := true, laidKinds := [.data], laidTests := true, laidLooks := .later }
def FoldsCardSaid : Prop := Claim7.holds Tryd.pinned (.plain (OpenSpec.ofChange foldsSpec)) foldsCard

/-- THE TIED CARD OF 'signetkeep.Grown'. -/
def grownCard : Claim7 := { stood := { row := grownRow, standIns := [], harness := (true, "6846efb19ccdea62a4a1547471d3a37dabfceea7717e388006544470410ab8ee"), looks := false }, kinds := [], alts := [], laidByText := true, laidKinds := [.data], laidTests := true, laidLooks := .later }
def GrownCardSaid : Prop := Claim7.holds Tryd.pinned (.plain (OpenSpec.ofChange grownSpec)) grownCard

/-- THE TIED CARD OF 'signetkeep.Climbs'. -/
def climbsCard : Claim7 := { stood := { row := climbsRow, standIns := [], harness := (true, "6846efb19ccdea62a4a1547471d3a37dabfceea7717e388006544470410ab8ee"), looks := false }, kinds := [], alts := [], laidByText := true, laidKinds := [.data], laidTests := true, laidLooks := .later }
def ClimbsCardSaid : Prop := Claim7.holds Tryd.pinned (.plain (OpenSpec.ofChange climbsSpec)) climbsCard

/-- THE SECOND FORM's CARD OF 'signetlaw.Digests'. -/
def digestsUptoCard : Claim7 := { stood := { row := digestsUptoRow, standIns := [], harness := (true, "6846efb19ccdea62a4a1547471d3a37dabfceea7717e388006544470410ab8ee"), looks := false }, kinds := [], alts := [], laidByText := true, laidKinds := [.data], laidTests := true, laidLooks := .later }
def DigestsUptoCardSaid : Prop := Claim7.holds Tryd.pinned (.plain (OpenSpec.upto digestsSpec)) digestsUptoCard

/-- THE SECOND FORM's CARD OF 'signetlaw.Chains'. -/
def chainsUptoCard : Claim7 := { stood := { row := chainsUptoRow, standIns := [], harness := (true, "6846efb19ccdea62a4a1547471d3a37dabfceea7717e388006544470410ab8ee"), looks := false }, kinds := [], alts := [], laidByText := true, laidKinds := [.data], laidTests := true, laidLooks := .later }
def ChainsUptoCardSaid : Prop := Claim7.holds Tryd.pinned (.plain (OpenSpec.upto chainsSpec)) chainsUptoCard

/-- THE SECOND FORM's CARD OF 'signetlaw.Folds'. -/
def foldsUptoCard : Claim7 := { stood := { row := foldsUptoRow, standIns := [], harness := (true, "6846efb19ccdea62a4a1547471d3a37dabfceea7717e388006544470410ab8ee"), looks := false }, kinds := [], alts := [], laidByText := true, laidKinds := [.data], laidTests := true, laidLooks := .later }
def FoldsUptoCardSaid : Prop := Claim7.holds Tryd.pinned (.plain (OpenSpec.upto foldsSpec)) foldsUptoCard

/-- THE SECOND FORM's CARD OF 'signetkeep.Grown'. -/
def grownUptoCard : Claim7 := { stood := { row := grownUptoRow, standIns := [], harness := (true, "6846efb19ccdea62a4a1547471d3a37dabfceea7717e388006544470410ab8ee"), looks := false }, kinds := [], alts := [], laidByText := true, laidKinds := [.data], laidTests := true, laidLooks := .later }
def GrownUptoCardSaid : Prop := Claim7.holds Tryd.pinned (.plain (OpenSpec.upto grownSpec)) grownUptoCard

/-- THE SECOND FORM's CARD OF 'signetkeep.Climbs'. -/
def climbsUptoCard : Claim7 := { stood := { row := climbsUptoRow, standIns := [], harness := (true, "6846efb19ccdea62a4a1547471d3a37dabfceea7717e388006544470410ab8ee"), looks := false }, kinds := [], alts := [], laidByText := true, laidKinds := [.data], laidTests := true, laidLooks := .later }
def ClimbsUptoCardSaid : Prop := Claim7.holds Tryd.pinned (.plain (OpenSpec.upto climbsSpec)) climbsUptoCard
end Rows
end Go.Proofs.YtbncojflfnpikaaDoor
