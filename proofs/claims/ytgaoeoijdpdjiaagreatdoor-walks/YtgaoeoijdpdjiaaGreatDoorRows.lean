/-
  NARROWER THAN 'FOR EVERY INPUT', by the rows' own cells (each row's printed sentence says how): Chains: laid · Walks: laid · Climbs: laid · Disks: laid.
  DERIVED. THE GIVEN ROWS OF THIS SEAT. 4 by the template 'for every input the law returns true; each argument reads behind the call as it read before'; 0 by the template 'total and deterministic' (their statements: YtgaoeoijdpdjiaaGreatDoorTotals.lean).
  GIVEN WITH THE SEED: the statements are not yours to turn. If you find one false, say at which input.
  Laid BY PROGRAM, IN A SANDBOX (cutbox-rows.mjs): the forced cells as the released guide's own fill.sh prints them over the translation e6a0056055732c1f… (all of the seat's roots in one cut). By AI agents, Wed Nov 11 2026. No macro, syntax, notation, axiom, sorry.
-/
import Derived.Test.YtgaoeoijdpdjiaaGreatDoorChecked
import GoSem.Claim
import GoSem.ClaimJoined
import GoSem.ClaimMapViews
import Derived.JoinedTies
import Derived.KernelRfl
namespace Go.Proofs.YtgaoeoijdpdjiaaGreatDoor
/- THE CELL 'sum', in the pinned program and in every row, IS THE sha256 OF THE DUMP (.gsa) THAT YtgaoeoijdpdjiaaGreatDoorProg.lean LOADS. Nothing in Lean hashes anything: it is a label: what it is worth is what the hold of that sum in a sandbox is worth. -/
noncomputable def Tryz.pinned : Pinned := { name := "ytgaoeoijdpdjiaagreatdoor", sum := "e6a0056055732c1f8a5d27ba0583fab35ce107c0bfa17ba502e653d4f5148900", checked := Tryz.checked }
namespace Rows
def none {H : Type} : Left H := { results := [], args := [] }

/- WHAT THE LISTED PACKAGE-LEVEL VARIABLES READ AS WHEN THE CALL BEGINS. Each datum BY PROGRAM (the guide's laid-datum.mjs) off the statement by which the dump's own 'gosem.cut.vars' lays the variable. In a bare row this is a premise. The card (YtgaoeoijdpdjiaaGreatDoorCards.lean) ties it to the program's text. -/
def laid_signet_digest_turns {H : Type} : DataW H := .agg [.lit (.int .i64 5), .lit (.int .i64 11), .lit (.int .i64 19), .lit (.int .i64 26)]

/-- 'signetlaw.Chains': WHATEVER THE INPUT: true; the input reads as it did. -/
def chainsSpec : ChangeSpec := { name := "chains", fn := fun _ => fun
  | [d1, d2, d3, d4, d5, d6, d7, d8, d9] => { results := [.lit (.bool true)], args := [d1, d2, d3, d4, d5, d6, d7, d8, d9] }
  | _ => none }
def chainsRow : OpenClaim := { program := "ytgaoeoijdpdjiaagreatdoor", sum := "e6a0056055732c1f8a5d27ba0583fab35ce107c0bfa17ba502e653d4f5148900", func := "signet/signetlaw.Chains", spec := "chains", inPlace := ["internal/abi.NoEscape", "internal/bytealg.MakeNoZero"], unfollowed := true, recurses := true, named := ["signet/digest.turns"], apart := false, laid := [("signet/digest.turns", laid_signet_digest_turns)] }
def ChainsSaid : Prop := chainsRow.holds Tryz.pinned (OpenSpec.ofChange chainsSpec)

/-- ITS FALSE NEIGHBOUR: 'it returns false'. Refute it at one input. -/
def chainsWrong : ChangeSpec := { name := "chains", fn := fun _ => fun
  | [d1, d2, d3, d4, d5, d6, d7, d8, d9] => { results := [.lit (.bool false)], args := [d1, d2, d3, d4, d5, d6, d7, d8, d9] }
  | _ => none }
def ChainsWrongFalsely : Prop := chainsRow.holds Tryz.pinned (OpenSpec.ofChange chainsWrong)

/-- 'signetlaw.Walks': WHATEVER THE INPUT: true; the input reads as it did. -/
def walksSpec : ChangeSpec := { name := "walks", fn := fun _ => fun
  | [d] => { results := [.lit (.bool true)], args := [d] }
  | _ => none }
def walksRow : OpenClaim := { program := "ytgaoeoijdpdjiaagreatdoor", sum := "e6a0056055732c1f8a5d27ba0583fab35ce107c0bfa17ba502e653d4f5148900", func := "signet/signetlaw.Walks", spec := "walks", inPlace := ["internal/abi.NoEscape", "internal/bytealg.MakeNoZero"], unfollowed := true, recurses := true, named := ["signet/digest.turns"], apart := false, laid := [("signet/digest.turns", laid_signet_digest_turns)] }
def WalksSaid : Prop := walksRow.holds Tryz.pinned (OpenSpec.ofChange walksSpec)

/-- ITS FALSE NEIGHBOUR: 'it returns false'. Refute it at one input. -/
def walksWrong : ChangeSpec := { name := "walks", fn := fun _ => fun
  | [d] => { results := [.lit (.bool false)], args := [d] }
  | _ => none }
def WalksWrongFalsely : Prop := walksRow.holds Tryz.pinned (OpenSpec.ofChange walksWrong)

/-- 'signetkeep.Climbs': WHATEVER THE INPUT: true; the input reads as it did. -/
def climbsSpec : ChangeSpec := { name := "climbs", fn := fun _ => fun
  | [d1, d2, d3, d4] => { results := [.lit (.bool true)], args := [d1, d2, d3, d4] }
  | _ => none }
def climbsRow : OpenClaim := { program := "ytgaoeoijdpdjiaagreatdoor", sum := "e6a0056055732c1f8a5d27ba0583fab35ce107c0bfa17ba502e653d4f5148900", func := "signet/signetkeep.Climbs", spec := "climbs", inPlace := ["internal/abi.NoEscape", "internal/bytealg.MakeNoZero"], unfollowed := true, recurses := true, named := ["signet/digest.turns"], apart := false, laid := [("signet/digest.turns", laid_signet_digest_turns)] }
def ClimbsSaid : Prop := climbsRow.holds Tryz.pinned (OpenSpec.ofChange climbsSpec)

/-- ITS FALSE NEIGHBOUR: 'it returns false'. Refute it at one input. -/
def climbsWrong : ChangeSpec := { name := "climbs", fn := fun _ => fun
  | [d1, d2, d3, d4] => { results := [.lit (.bool false)], args := [d1, d2, d3, d4] }
  | _ => none }
def ClimbsWrongFalsely : Prop := climbsRow.holds Tryz.pinned (OpenSpec.ofChange climbsWrong)

/-- 'signetlaw.Disks': WHATEVER THE INPUT: true; the input reads as it did. -/
def disksSpec : ChangeSpec := { name := "disks", fn := fun _ => fun
  | [d] => { results := [.lit (.bool true)], args := [d] }
  | _ => none }
def disksRow : OpenClaim := { program := "ytgaoeoijdpdjiaagreatdoor", sum := "e6a0056055732c1f8a5d27ba0583fab35ce107c0bfa17ba502e653d4f5148900", func := "signet/signetlaw.Disks", spec := "disks", inPlace := ["internal/abi.NoEscape", "internal/bytealg.MakeNoZero"], unfollowed := true, recurses := true, named := ["signet/digest.turns"], apart := false, laid := [("signet/digest.turns", laid_signet_digest_turns)] }
def DisksSaid : Prop := disksRow.holds Tryz.pinned (OpenSpec.ofChange disksSpec)

/-- ITS FALSE NEIGHBOUR: 'it returns false'. Refute it at one input. -/
def disksWrong : ChangeSpec := { name := "disks", fn := fun _ => fun
  | [d] => { results := [.lit (.bool false)], args := [d] }
  | _ => none }
def DisksWrongFalsely : Prop := disksRow.holds Tryz.pinned (OpenSpec.ofChange disksWrong)

/- THE SECOND FORM. 'bulk': how many values and letters a reading holds, each counted each time it is reached (what is shared counts as often as it is met; a slice's spare places count too). A statement '..UptoSaid' is the law's where the arguments, and the package variables that the reading takes, are together of bulk at most 1048576: NARROWER than '..Said'. Prove '..Said' where nothing that the law and all that it calls make is longer than what came in: it says more and counts as full. Else prove '..UptoSaid'. A law counts once. -/
mutual
def uptoBulk {H : Type} : DataW H → Nat
  | .lit (.string bytes) => bytes.length + 1
  | .lit _ => 1
  | .nil => 1
  | .ptr d => uptoBulk d + 1
  | .slice elems spare => uptoBulkAll elems + uptoBulkAll spare + 1
  | .agg parts => uptoBulkAll parts + 1
  | .iface _ d => uptoBulk d + 1
  | .map entries => uptoBulkEntries entries + 1
  | .held _ => 1
def uptoBulkAll {H : Type} : List (DataW H) → Nat
  | [] => 0
  | d :: r => uptoBulk d + uptoBulkAll r
def uptoBulkEntries {H : Type} : List (Lit × DataW H) → Nat
  | [] => 0
  | x :: r => uptoBulkEntry x + uptoBulkEntries r
def uptoBulkEntry {H : Type} : Lit × DataW H → Nat
  | (.string bytes, d) => bytes.length + uptoBulk d + 1
  | (_, d) => uptoBulk d + 1
 end
def uptoSmall : (H : Type) → List (DataW H) → Bool := fun _ ds => decide (uptoBulkAll ds ≤ 1048576)
def OpenSpec.upto (s : _root_.Go.ChangeSpec) : _root_.Go.OpenSpec := { _root_.Go.OpenSpec.ofChange s with cond := some uptoSmall }

/-- 'signetlaw.Chains', WHERE WHAT IT READS IS OF BULK AT MOST 1048576: true; the input reads as it did. -/
def chainsUptoRow : OpenClaim := { program := "ytgaoeoijdpdjiaagreatdoor", sum := "e6a0056055732c1f8a5d27ba0583fab35ce107c0bfa17ba502e653d4f5148900", func := "signet/signetlaw.Chains", spec := "chains", inPlace := ["internal/abi.NoEscape", "internal/bytealg.MakeNoZero"], unfollowed := true, recurses := true, named := ["signet/digest.turns"], apart := false, laid := [("signet/digest.turns", laid_signet_digest_turns)], narrowed := true }
def ChainsUptoSaid : Prop := chainsUptoRow.holds Tryz.pinned (OpenSpec.upto chainsSpec)

/-- 'signetlaw.Walks', WHERE WHAT IT READS IS OF BULK AT MOST 1048576: true; the input reads as it did. -/
def walksUptoRow : OpenClaim := { program := "ytgaoeoijdpdjiaagreatdoor", sum := "e6a0056055732c1f8a5d27ba0583fab35ce107c0bfa17ba502e653d4f5148900", func := "signet/signetlaw.Walks", spec := "walks", inPlace := ["internal/abi.NoEscape", "internal/bytealg.MakeNoZero"], unfollowed := true, recurses := true, named := ["signet/digest.turns"], apart := false, laid := [("signet/digest.turns", laid_signet_digest_turns)], narrowed := true }
def WalksUptoSaid : Prop := walksUptoRow.holds Tryz.pinned (OpenSpec.upto walksSpec)

/-- 'signetkeep.Climbs', WHERE WHAT IT READS IS OF BULK AT MOST 1048576: true; the input reads as it did. -/
def climbsUptoRow : OpenClaim := { program := "ytgaoeoijdpdjiaagreatdoor", sum := "e6a0056055732c1f8a5d27ba0583fab35ce107c0bfa17ba502e653d4f5148900", func := "signet/signetkeep.Climbs", spec := "climbs", inPlace := ["internal/abi.NoEscape", "internal/bytealg.MakeNoZero"], unfollowed := true, recurses := true, named := ["signet/digest.turns"], apart := false, laid := [("signet/digest.turns", laid_signet_digest_turns)], narrowed := true }
def ClimbsUptoSaid : Prop := climbsUptoRow.holds Tryz.pinned (OpenSpec.upto climbsSpec)

/-- 'signetlaw.Disks', WHERE WHAT IT READS IS OF BULK AT MOST 1048576: true; the input reads as it did. -/
def disksUptoRow : OpenClaim := { program := "ytgaoeoijdpdjiaagreatdoor", sum := "e6a0056055732c1f8a5d27ba0583fab35ce107c0bfa17ba502e653d4f5148900", func := "signet/signetlaw.Disks", spec := "disks", inPlace := ["internal/abi.NoEscape", "internal/bytealg.MakeNoZero"], unfollowed := true, recurses := true, named := ["signet/digest.turns"], apart := false, laid := [("signet/digest.turns", laid_signet_digest_turns)], narrowed := true }
def DisksUptoSaid : Prop := disksUptoRow.holds Tryz.pinned (OpenSpec.upto disksSpec)

end Rows
end Go.Proofs.YtgaoeoijdpdjiaaGreatDoor
