/-
  DERIVED. GIVEN WITH THE SEED: THE CARDS: each row of YtgaoeoijdpdjiabGreatDoorRows.lean that lists a variable, with what it lists TIED to the program's text (the seventh form; the later family's looks); each row that meets fmt, with fmt's text TOLD by the authors' own Lean function (tested against real Go, not proved from fmt's source: count such statements apart). THE CARD IS WHAT COUNTS. Prove the row's statement (the work); the ties are given (YtgaoeoijdpdjiabGreatDoorTie.lean); close each card by the builder's one call (the guide's Derived/Test/ToyasCard.lean, 'card_holds'). Laid BY PROGRAM, IN A SANDBOX (cutbox-door.mjs). By AI agents, Wed Nov 11 2026. No macro, syntax, notation, axiom, sorry.
-/
import Derived.Test.YtgaoeoijdpdjiabGreatDoorRows
import GoSem.ClaimSeven
namespace Go.Proofs.YtgaoeoijdpdjiabGreatDoor
namespace Rows

/-- THE TIED CARD OF 'signetlaw.Signers'. -/
def signersCard : Claim7 := { stood := { row := signersRow, standIns := [], harness := (true, "b78771542547c6f23ba6bc20b3342e6973659431006f4e164dc73cd3ead814f2"), looks := false }, kinds := [], alts := [], laidByText := true, laidKinds := [.data], laidTests := true, laidLooks := .later }
def SignersCardSaid : Prop := Claim7.holds Tryz.pinned (.plain (OpenSpec.ofChange signersSpec)) signersCard

/-- THE TIED CARD OF 'signetlaw.Verifies'. -/
def verifiesCard : Claim7 := { stood := { row := verifiesRow, standIns := [], harness := (true, "b78771542547c6f23ba6bc20b3342e6973659431006f4e164dc73cd3ead814f2"), looks := false }, kinds := [], alts := [], laidByText := true, laidKinds := [.data], laidTests := true, laidLooks := .later }
def VerifiesCardSaid : Prop := Claim7.holds Tryz.pinned (.plain (OpenSpec.ofChange verifiesSpec)) verifiesCard

/-- THE TIED CARD OF 'signetkeep.Once'. -/
def onceCard : Claim7 := { stood := { row := onceRow, standIns := [], harness := (true, "b78771542547c6f23ba6bc20b3342e6973659431006f4e164dc73cd3ead814f2"), looks := false }, kinds := [], alts := [], laidByText := true, laidKinds := [.data], laidTests := true, laidLooks := .later }
def OnceCardSaid : Prop := Claim7.holds Tryz.pinned (.plain (OpenSpec.ofChange onceSpec)) onceCard

/-- THE TIED CARD OF 'signetkeep.Recovers'. -/
def recoversCard : Claim7 := { stood := { row := recoversRow, standIns := [], harness := (true, "b78771542547c6f23ba6bc20b3342e6973659431006f4e164dc73cd3ead814f2"), looks := false }, kinds := [], alts := [], laidByText := true, laidKinds := [.data], laidTests := true, laidLooks := .later }
def RecoversCardSaid : Prop := Claim7.holds Tryz.pinned (.plain (OpenSpec.ofChange recoversSpec)) recoversCard

/-- THE TIED CARD OF 'signetkeep.InOrder'. -/
def inOrderCard : Claim7 := { stood := { row := inOrderRow, standIns := [], harness := (true, "b78771542547c6f23ba6bc20b3342e6973659431006f4e164dc73cd3ead814f2"), looks := false }, kinds := [], alts := [], laidByText := true, laidKinds := [.data], laidTests := true, laidLooks := .later }
def InOrderCardSaid : Prop := Claim7.holds Tryz.pinned (.plain (OpenSpec.ofChange inOrderSpec)) inOrderCard

/-- THE TIED CARD OF 'signetlaw.All'. -/
def allCard : Claim7 := { stood := { row := allRow, standIns := [], harness := (true, "b78771542547c6f23ba6bc20b3342e6973659431006f4e164dc73cd3ead814f2"), looks := false }, kinds := [], alts := [], laidByText := true, laidKinds := [.data], laidTests := true, laidLooks := .later }
def AllCardSaid : Prop := Claim7.holds Tryz.pinned (.plain (OpenSpec.ofChange allSpec)) allCard

/-- THE SECOND FORM's CARD OF 'signetlaw.Signers'. -/
def signersUptoCard : Claim7 := { stood := { row := signersUptoRow, standIns := [], harness := (true, "b78771542547c6f23ba6bc20b3342e6973659431006f4e164dc73cd3ead814f2"), looks := false }, kinds := [], alts := [], laidByText := true, laidKinds := [.data], laidTests := true, laidLooks := .later }
def SignersUptoCardSaid : Prop := Claim7.holds Tryz.pinned (.plain (OpenSpec.upto signersSpec)) signersUptoCard

/-- THE SECOND FORM's CARD OF 'signetlaw.Verifies'. -/
def verifiesUptoCard : Claim7 := { stood := { row := verifiesUptoRow, standIns := [], harness := (true, "b78771542547c6f23ba6bc20b3342e6973659431006f4e164dc73cd3ead814f2"), looks := false }, kinds := [], alts := [], laidByText := true, laidKinds := [.data], laidTests := true, laidLooks := .later }
def VerifiesUptoCardSaid : Prop := Claim7.holds Tryz.pinned (.plain (OpenSpec.upto verifiesSpec)) verifiesUptoCard

/-- THE SECOND FORM's CARD OF 'signetkeep.Once'. -/
def onceUptoCard : Claim7 := { stood := { row := onceUptoRow, standIns := [], harness := (true, "b78771542547c6f23ba6bc20b3342e6973659431006f4e164dc73cd3ead814f2"), looks := false }, kinds := [], alts := [], laidByText := true, laidKinds := [.data], laidTests := true, laidLooks := .later }
def OnceUptoCardSaid : Prop := Claim7.holds Tryz.pinned (.plain (OpenSpec.upto onceSpec)) onceUptoCard

/-- THE SECOND FORM's CARD OF 'signetkeep.Recovers'. -/
def recoversUptoCard : Claim7 := { stood := { row := recoversUptoRow, standIns := [], harness := (true, "b78771542547c6f23ba6bc20b3342e6973659431006f4e164dc73cd3ead814f2"), looks := false }, kinds := [], alts := [], laidByText := true, laidKinds := [.data], laidTests := true, laidLooks := .later }
def RecoversUptoCardSaid : Prop := Claim7.holds Tryz.pinned (.plain (OpenSpec.upto recoversSpec)) recoversUptoCard

/-- THE SECOND FORM's CARD OF 'signetkeep.InOrder'. -/
def inOrderUptoCard : Claim7 := { stood := { row := inOrderUptoRow, standIns := [], harness := (true, "b78771542547c6f23ba6bc20b3342e6973659431006f4e164dc73cd3ead814f2"), looks := false }, kinds := [], alts := [], laidByText := true, laidKinds := [.data], laidTests := true, laidLooks := .later }
def InOrderUptoCardSaid : Prop := Claim7.holds Tryz.pinned (.plain (OpenSpec.upto inOrderSpec)) inOrderUptoCard

/-- THE SECOND FORM's CARD OF 'signetlaw.All'. -/
def allUptoCard : Claim7 := { stood := { row := allUptoRow, standIns := [], harness := (true, "b78771542547c6f23ba6bc20b3342e6973659431006f4e164dc73cd3ead814f2"), looks := false }, kinds := [], alts := [], laidByText := true, laidKinds := [.data], laidTests := true, laidLooks := .later }
def AllUptoCardSaid : Prop := Claim7.holds Tryz.pinned (.plain (OpenSpec.upto allSpec)) allUptoCard
end Rows
end Go.Proofs.YtgaoeoijdpdjiabGreatDoor
