/-
  DERIVED. GIVEN WITH THE SEED: THE CARDS: each row of YtgaoeoijdpdjiaaDoorRows.lean that lists a variable, with what it lists TIED to the program's text (the seventh form; the later family's looks); each row that meets fmt, with fmt's text TOLD by the authors' own Lean function (tested against real Go, not proved from fmt's source: count such statements apart). THE CARD IS WHAT COUNTS. Prove the row's statement (the work); the ties are given (YtgaoeoijdpdjiaaDoorTie.lean); close each card by the builder's one call (the guide's Derived/Test/ToyasCard.lean, 'card_holds'). Laid BY PROGRAM, IN A SANDBOX (cutbox-door.mjs). By AI agents, Wed Nov 11 2026. No macro, syntax, notation, axiom, sorry.
-/
import Derived.Test.YtgaoeoijdpdjiaaDoorRows
import GoSem.ClaimSeven
namespace Go.Proofs.YtgaoeoijdpdjiaaDoor
namespace Rows

/-- THE TIED CARD OF 'signetlaw.Digests'. -/
def digestsCard : Claim7 := { stood := { row := digestsRow, standIns := [], harness := (true, "82a6d49165f4a5f8d680089d500e9dcd4fbce05dc0f318e45920561e3ff7fa79"), looks := false }, kinds := [], alts := [], laidByText := true, laidKinds := [.data], laidTests := true, laidLooks := .later }
def DigestsCardSaid : Prop := Claim7.holds Tryd.pinned (.plain (OpenSpec.ofChange digestsSpec)) digestsCard

/-- THE TIED CARD OF 'signetlaw.Folds'. -/
def foldsCard : Claim7 := { stood := { row := foldsRow, standIns := [], harness := (true, "82a6d49165f4a5f8d680089d500e9dcd4fbce05dc0f318e45920561e3ff7fa79"), looks := false }, kinds := [], alts := [], laidByText := true, laidKinds := [.data], laidTests := true, laidLooks := .later }
def FoldsCardSaid : Prop := Claim7.holds Tryd.pinned (.plain (OpenSpec.ofChange foldsSpec)) foldsCard

/-- THE TIED CARD OF 'signetkeep.Grown'. -/
def grownCard : Claim7 := { stood := { row := grownRow, standIns := [], harness := (true, "82a6d49165f4a5f8d680089d500e9dcd4fbce05dc0f318e45920561e3ff7fa79"), looks := false }, kinds := [], alts := [], laidByText := true, laidKinds := [.data], laidTests := true, laidLooks := .later }
def GrownCardSaid : Prop := Claim7.holds Tryd.pinned (.plain (OpenSpec.ofChange grownSpec)) grownCard

/-- THE SECOND FORM's CARD OF 'signetlaw.Digests'. -/
def digestsUptoCard : Claim7 := { stood := { row := digestsUptoRow, standIns := [], harness := (true, "82a6d49165f4a5f8d680089d500e9dcd4fbce05dc0f318e45920561e3ff7fa79"), looks := false }, kinds := [], alts := [], laidByText := true, laidKinds := [.data], laidTests := true, laidLooks := .later }
def DigestsUptoCardSaid : Prop := Claim7.holds Tryd.pinned (.plain (OpenSpec.upto digestsSpec)) digestsUptoCard

/-- THE SECOND FORM's CARD OF 'signetlaw.Folds'. -/
def foldsUptoCard : Claim7 := { stood := { row := foldsUptoRow, standIns := [], harness := (true, "82a6d49165f4a5f8d680089d500e9dcd4fbce05dc0f318e45920561e3ff7fa79"), looks := false }, kinds := [], alts := [], laidByText := true, laidKinds := [.data], laidTests := true, laidLooks := .later }
def FoldsUptoCardSaid : Prop := Claim7.holds Tryd.pinned (.plain (OpenSpec.upto foldsSpec)) foldsUptoCard

/-- THE SECOND FORM's CARD OF 'signetkeep.Grown'. -/
def grownUptoCard : Claim7 := { stood := { row := grownUptoRow, standIns := [], harness := (true, "82a6d49165f4a5f8d680089d500e9dcd4fbce05dc0f318e45920561e3ff7fa79"), looks := false }, kinds := [], alts := [], laidByText := true, laidKinds := [.data], laidTests := true, laidLooks := .later }
def GrownUptoCardSaid : Prop := Claim7.holds Tryd.pinned (.plain (OpenSpec.upto grownSpec)) grownUptoCard
end Rows
end Go.Proofs.YtgaoeoijdpdjiaaDoor
