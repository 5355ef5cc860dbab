/-
  NARROWER THAN 'FOR EVERY INPUT', by the rows' own cells (each row's printed sentence says how): Signers: laid · Verifies: laid · Once: laid · Recovers: laid · InOrder: laid · All: laid.
  DERIVED. THE GIVEN ROWS OF THIS SEAT. 6 by the template 'for every input the law returns true; each argument reads behind the call as it read before'; 0 by the template 'total and deterministic' (their statements: YtgaoeoijdpdjiabGreatDoorTotals.lean).
  GIVEN WITH THE SEED: the statements are not yours to turn. If you find one false, say at which input.
  Laid BY PROGRAM, IN A SANDBOX (cutbox-rows.mjs): the forced cells as the released guide's own fill.sh prints them over the translation a25237026d6afe2a… (all of the seat's roots in one cut). By AI agents, Wed Nov 11 2026. No macro, syntax, notation, axiom, sorry.
-/
import Derived.Test.YtgaoeoijdpdjiabGreatDoorChecked
import GoSem.Claim
import GoSem.ClaimJoined
import GoSem.ClaimMapViews
import Derived.JoinedTies
import Derived.KernelRfl
namespace Go.Proofs.YtgaoeoijdpdjiabGreatDoor
/- THE CELL 'sum', in the pinned program and in every row, IS THE sha256 OF THE DUMP (.gsa) THAT YtgaoeoijdpdjiabGreatDoorProg.lean LOADS. Nothing in Lean hashes anything: it is a label: what it is worth is what the hold of that sum in a sandbox is worth. -/
noncomputable def Tryz.pinned : Pinned := { name := "ytgaoeoijdpdjiabgreatdoor", sum := "a25237026d6afe2abffbd6e90553ba173ad2f843092fbd4b42698614b6b79c4e", checked := Tryz.checked }
namespace Rows
def none {H : Type} : Left H := { results := [], args := [] }

/- WHAT THE LISTED PACKAGE-LEVEL VARIABLES READ AS WHEN THE CALL BEGINS. Each datum BY PROGRAM (the guide's laid-datum.mjs) off the statement by which the dump's own 'gosem.cut.vars' lays the variable. In a bare row this is a premise. The card (YtgaoeoijdpdjiabGreatDoorCards.lean) ties it to the program's text. -/
def laid_signet_digest_turns {H : Type} : DataW H := .agg [.lit (.int .i64 5), .lit (.int .i64 11), .lit (.int .i64 19), .lit (.int .i64 26)]

/-- 'signetlaw.Signers': WHATEVER THE INPUT: true; the input reads as it did. -/
def signersSpec : ChangeSpec := { name := "signers", fn := fun _ => fun
  | [d] => { results := [.lit (.bool true)], args := [d] }
  | _ => none }
def signersRow : OpenClaim := { program := "ytgaoeoijdpdjiabgreatdoor", sum := "a25237026d6afe2abffbd6e90553ba173ad2f843092fbd4b42698614b6b79c4e", func := "signet/signetlaw.Signers", spec := "signers", inPlace := ["internal/abi.NoEscape", "internal/bytealg.MakeNoZero"], unfollowed := true, recurses := true, named := ["signet/digest.turns"], apart := false, laid := [("signet/digest.turns", laid_signet_digest_turns)] }
def SignersSaid : Prop := signersRow.holds Tryz.pinned (OpenSpec.ofChange signersSpec)

/-- ITS FALSE NEIGHBOUR: 'it returns false'. Refute it at one input. -/
def signersWrong : ChangeSpec := { name := "signers", fn := fun _ => fun
  | [d] => { results := [.lit (.bool false)], args := [d] }
  | _ => none }
def SignersWrongFalsely : Prop := signersRow.holds Tryz.pinned (OpenSpec.ofChange signersWrong)

/-- 'signetlaw.Verifies': WHATEVER THE INPUT: true; the input reads as it did. -/
def verifiesSpec : ChangeSpec := { name := "verifies", fn := fun _ => fun
  | [d1, d2, d3, d4, d5] => { results := [.lit (.bool true)], args := [d1, d2, d3, d4, d5] }
  | _ => none }
def verifiesRow : OpenClaim := { program := "ytgaoeoijdpdjiabgreatdoor", sum := "a25237026d6afe2abffbd6e90553ba173ad2f843092fbd4b42698614b6b79c4e", func := "signet/signetlaw.Verifies", spec := "verifies", inPlace := ["internal/abi.NoEscape", "internal/bytealg.MakeNoZero"], unfollowed := true, recurses := true, named := ["signet/digest.turns"], apart := false, laid := [("signet/digest.turns", laid_signet_digest_turns)] }
def VerifiesSaid : Prop := verifiesRow.holds Tryz.pinned (OpenSpec.ofChange verifiesSpec)

/-- ITS FALSE NEIGHBOUR: 'it returns false'. Refute it at one input. -/
def verifiesWrong : ChangeSpec := { name := "verifies", fn := fun _ => fun
  | [d1, d2, d3, d4, d5] => { results := [.lit (.bool false)], args := [d1, d2, d3, d4, d5] }
  | _ => none }
def VerifiesWrongFalsely : Prop := verifiesRow.holds Tryz.pinned (OpenSpec.ofChange verifiesWrong)

/-- 'signetkeep.Once': WHATEVER THE INPUT: true; the input reads as it did. -/
def onceSpec : ChangeSpec := { name := "once", fn := fun _ => fun
  | [d1, d2, d3, d4, d5] => { results := [.lit (.bool true)], args := [d1, d2, d3, d4, d5] }
  | _ => none }
def onceRow : OpenClaim := { program := "ytgaoeoijdpdjiabgreatdoor", sum := "a25237026d6afe2abffbd6e90553ba173ad2f843092fbd4b42698614b6b79c4e", func := "signet/signetkeep.Once", spec := "once", inPlace := ["internal/abi.NoEscape", "internal/bytealg.MakeNoZero"], unfollowed := true, recurses := true, named := ["signet/digest.turns"], apart := false, laid := [("signet/digest.turns", laid_signet_digest_turns)] }
def OnceSaid : Prop := onceRow.holds Tryz.pinned (OpenSpec.ofChange onceSpec)

/-- ITS FALSE NEIGHBOUR: 'it returns false'. Refute it at one input. -/
def onceWrong : ChangeSpec := { name := "once", fn := fun _ => fun
  | [d1, d2, d3, d4, d5] => { results := [.lit (.bool false)], args := [d1, d2, d3, d4, d5] }
  | _ => none }
def OnceWrongFalsely : Prop := onceRow.holds Tryz.pinned (OpenSpec.ofChange onceWrong)

/-- 'signetkeep.Recovers': WHATEVER THE INPUT: true; the input reads as it did. -/
def recoversSpec : ChangeSpec := { name := "recovers", fn := fun _ => fun
  | [d1, d2, d3, d4] => { results := [.lit (.bool true)], args := [d1, d2, d3, d4] }
  | _ => none }
def recoversRow : OpenClaim := { program := "ytgaoeoijdpdjiabgreatdoor", sum := "a25237026d6afe2abffbd6e90553ba173ad2f843092fbd4b42698614b6b79c4e", func := "signet/signetkeep.Recovers", spec := "recovers", inPlace := ["internal/abi.NoEscape", "internal/bytealg.MakeNoZero"], unfollowed := true, recurses := true, named := ["signet/digest.turns"], apart := false, laid := [("signet/digest.turns", laid_signet_digest_turns)] }
def RecoversSaid : Prop := recoversRow.holds Tryz.pinned (OpenSpec.ofChange recoversSpec)

/-- ITS FALSE NEIGHBOUR: 'it returns false'. Refute it at one input. -/
def recoversWrong : ChangeSpec := { name := "recovers", fn := fun _ => fun
  | [d1, d2, d3, d4] => { results := [.lit (.bool false)], args := [d1, d2, d3, d4] }
  | _ => none }
def RecoversWrongFalsely : Prop := recoversRow.holds Tryz.pinned (OpenSpec.ofChange recoversWrong)

/-- 'signetkeep.InOrder': WHATEVER THE INPUT: true; the input reads as it did. -/
def inOrderSpec : ChangeSpec := { name := "inOrder", fn := fun _ => fun
  | [d1, d2, d3, d4] => { results := [.lit (.bool true)], args := [d1, d2, d3, d4] }
  | _ => none }
def inOrderRow : OpenClaim := { program := "ytgaoeoijdpdjiabgreatdoor", sum := "a25237026d6afe2abffbd6e90553ba173ad2f843092fbd4b42698614b6b79c4e", func := "signet/signetkeep.InOrder", spec := "inOrder", inPlace := ["internal/abi.NoEscape", "internal/bytealg.MakeNoZero"], unfollowed := true, recurses := true, named := ["signet/digest.turns"], apart := false, laid := [("signet/digest.turns", laid_signet_digest_turns)] }
def InOrderSaid : Prop := inOrderRow.holds Tryz.pinned (OpenSpec.ofChange inOrderSpec)

/-- ITS FALSE NEIGHBOUR: 'it returns false'. Refute it at one input. -/
def inOrderWrong : ChangeSpec := { name := "inOrder", fn := fun _ => fun
  | [d1, d2, d3, d4] => { results := [.lit (.bool false)], args := [d1, d2, d3, d4] }
  | _ => none }
def InOrderWrongFalsely : Prop := inOrderRow.holds Tryz.pinned (OpenSpec.ofChange inOrderWrong)

/-- 'signetlaw.All': WHATEVER THE INPUT: true; the input reads as it did. -/
def allSpec : ChangeSpec := { name := "all", fn := fun _ => fun
  | [d] => { results := [.lit (.bool true)], args := [d] }
  | _ => none }
def allRow : OpenClaim := { program := "ytgaoeoijdpdjiabgreatdoor", sum := "a25237026d6afe2abffbd6e90553ba173ad2f843092fbd4b42698614b6b79c4e", func := "signet/signetlaw.All", spec := "all", inPlace := ["internal/abi.NoEscape", "internal/bytealg.MakeNoZero"], unfollowed := true, recurses := true, named := ["signet/digest.turns"], apart := false, laid := [("signet/digest.turns", laid_signet_digest_turns)] }
def AllSaid : Prop := allRow.holds Tryz.pinned (OpenSpec.ofChange allSpec)

/-- ITS FALSE NEIGHBOUR: 'it returns false'. Refute it at one input. -/
def allWrong : ChangeSpec := { name := "all", fn := fun _ => fun
  | [d] => { results := [.lit (.bool false)], args := [d] }
  | _ => none }
def AllWrongFalsely : Prop := allRow.holds Tryz.pinned (OpenSpec.ofChange allWrong)

/- THE SECOND FORM. 'bulk': how many values and letters a reading holds, each counted each time it is reached (what is shared counts as often as it is met; a slice's spare places count too). A statement '..UptoSaid' is the law's where the arguments, and the package variables that the reading takes, are together of bulk at most 1048576: NARROWER than '..Said'. Prove '..Said' where nothing that the law and all that it calls make is longer than what came in: it says more and counts as full. Else prove '..UptoSaid'. A law counts once. -/
mutual
def uptoBulk {H : Type} : DataW H → Nat
  | .lit (.string bytes) => bytes.length + 1
  | .lit _ => 1
  | .nil => 1
  | .ptr d => uptoBulk d + 1
  | .slice elems spare => uptoBulkAll elems + uptoBulkAll spare + 1
  | .agg parts => uptoBulkAll parts + 1
  | .iface _ d => uptoBulk d + 1
  | .map entries => uptoBulkEntries entries + 1
  | .held _ => 1
def uptoBulkAll {H : Type} : List (DataW H) → Nat
  | [] => 0
  | d :: r => uptoBulk d + uptoBulkAll r
def uptoBulkEntries {H : Type} : List (Lit × DataW H) → Nat
  | [] => 0
  | x :: r => uptoBulkEntry x + uptoBulkEntries r
def uptoBulkEntry {H : Type} : Lit × DataW H → Nat
  | (.string bytes, d) => bytes.length + uptoBulk d + 1
  | (_, d) => uptoBulk d + 1
 end
def uptoSmall : (H : Type) → List (DataW H) → Bool := fun _ ds => decide (uptoBulkAll ds ≤ 1048576)
def OpenSpec.upto (s : _root_.Go.ChangeSpec) : _root_.Go.OpenSpec := { _root_.Go.OpenSpec.ofChange s with cond := some uptoSmall }

/-- 'signetlaw.Signers', WHERE WHAT IT READS IS OF BULK AT MOST 1048576: true; the input reads as it did. -/
def signersUptoRow : OpenClaim := { program := "ytgaoeoijdpdjiabgreatdoor", sum := "a25237026d6afe2abffbd6e90553ba173ad2f843092fbd4b42698614b6b79c4e", func := "signet/signetlaw.Signers", spec := "signers", inPlace := ["internal/abi.NoEscape", "internal/bytealg.MakeNoZero"], unfollowed := true, recurses := true, named := ["signet/digest.turns"], apart := false, laid := [("signet/digest.turns", laid_signet_digest_turns)], narrowed := true }
def SignersUptoSaid : Prop := signersUptoRow.holds Tryz.pinned (OpenSpec.upto signersSpec)

/-- 'signetlaw.Verifies', WHERE WHAT IT READS IS OF BULK AT MOST 1048576: true; the input reads as it did. -/
def verifiesUptoRow : OpenClaim := { program := "ytgaoeoijdpdjiabgreatdoor", sum := "a25237026d6afe2abffbd6e90553ba173ad2f843092fbd4b42698614b6b79c4e", func := "signet/signetlaw.Verifies", spec := "verifies", inPlace := ["internal/abi.NoEscape", "internal/bytealg.MakeNoZero"], unfollowed := true, recurses := true, named := ["signet/digest.turns"], apart := false, laid := [("signet/digest.turns", laid_signet_digest_turns)], narrowed := true }
def VerifiesUptoSaid : Prop := verifiesUptoRow.holds Tryz.pinned (OpenSpec.upto verifiesSpec)

/-- 'signetkeep.Once', WHERE WHAT IT READS IS OF BULK AT MOST 1048576: true; the input reads as it did. -/
def onceUptoRow : OpenClaim := { program := "ytgaoeoijdpdjiabgreatdoor", sum := "a25237026d6afe2abffbd6e90553ba173ad2f843092fbd4b42698614b6b79c4e", func := "signet/signetkeep.Once", spec := "once", inPlace := ["internal/abi.NoEscape", "internal/bytealg.MakeNoZero"], unfollowed := true, recurses := true, named := ["signet/digest.turns"], apart := false, laid := [("signet/digest.turns", laid_signet_digest_turns)], narrowed := true }
def OnceUptoSaid : Prop := onceUptoRow.holds Tryz.pinned (OpenSpec.upto onceSpec)

/-- 'signetkeep.Recovers', WHERE WHAT IT READS IS OF BULK AT MOST 1048576: true; the input reads as it did. -/
def recoversUptoRow : OpenClaim := { program := "ytgaoeoijdpdjiabgreatdoor", sum := "a25237026d6afe2abffbd6e90553ba173ad2f843092fbd4b42698614b6b79c4e", func := "signet/signetkeep.Recovers", spec := "recovers", inPlace := ["internal/abi.NoEscape", "internal/bytealg.MakeNoZero"], unfollowed := true, recurses := true, named := ["signet/digest.turns"], apart := false, laid := [("signet/digest.turns", laid_signet_digest_turns)], narrowed := true }
def RecoversUptoSaid : Prop := recoversUptoRow.holds Tryz.pinned (OpenSpec.upto recoversSpec)

/-- 'signetkeep.InOrder', WHERE WHAT IT READS IS OF BULK AT MOST 1048576: true; the input reads as it did. -/
def inOrderUptoRow : OpenClaim := { program := "ytgaoeoijdpdjiabgreatdoor", sum := "a25237026d6afe2abffbd6e90553ba173ad2f843092fbd4b42698614b6b79c4e", func := "signet/signetkeep.InOrder", spec := "inOrder", inPlace := ["internal/abi.NoEscape", "internal/bytealg.MakeNoZero"], unfollowed := true, recurses := true, named := ["signet/digest.turns"], apart := false, laid := [("signet/digest.turns", laid_signet_digest_turns)], narrowed := true }
def InOrderUptoSaid : Prop := inOrderUptoRow.holds Tryz.pinned (OpenSpec.upto inOrderSpec)

/-- 'signetlaw.All', WHERE WHAT IT READS IS OF BULK AT MOST 1048576: true; the input reads as it did. -/
def allUptoRow : OpenClaim := { program := "ytgaoeoijdpdjiabgreatdoor", sum := "a25237026d6afe2abffbd6e90553ba173ad2f843092fbd4b42698614b6b79c4e", func := "signet/signetlaw.All", spec := "all", inPlace := ["internal/abi.NoEscape", "internal/bytealg.MakeNoZero"], unfollowed := true, recurses := true, named := ["signet/digest.turns"], apart := false, laid := [("signet/digest.turns", laid_signet_digest_turns)], narrowed := true }
def AllUptoSaid : Prop := allUptoRow.holds Tryz.pinned (OpenSpec.upto allSpec)

end Rows
end Go.Proofs.YtgaoeoijdpdjiabGreatDoor
