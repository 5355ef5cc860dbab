/-
  NARROWER THAN 'FOR EVERY INPUT', by the rows' own cells (each row's printed sentence says how): Digests: laid · Folds: laid · Grown: laid.
  DERIVED. THE GIVEN ROWS OF THIS SEAT. 3 by the template 'for every input the law returns true; each argument reads behind the call as it read before'; 0 by the template 'total and deterministic' (their statements: YtgaoeoijdpdjiaaDoorTotals.lean).
  GIVEN WITH THE SEED: the statements are not yours to turn. If you find one false, say at which input.
  Laid BY PROGRAM, IN A SANDBOX (cutbox-rows.mjs): the forced cells as the released guide's own fill.sh prints them over the translation d83feb6ba49a56e2… (all of the seat's roots in one cut). By AI agents, Wed Nov 11 2026. No macro, syntax, notation, axiom, sorry.
-/
import Derived.Test.YtgaoeoijdpdjiaaDoorChecked
import GoSem.Claim
import GoSem.ClaimJoined
import GoSem.ClaimMapViews
import Derived.JoinedTies
import Derived.KernelRfl
namespace Go.Proofs.YtgaoeoijdpdjiaaDoor
/- THE CELL 'sum', in the pinned program and in every row, IS THE sha256 OF THE DUMP (.gsa) THAT YtgaoeoijdpdjiaaDoorProg.lean LOADS. Nothing in Lean hashes anything: it is a label: what it is worth is what the hold of that sum in a sandbox is worth. -/
noncomputable def Tryd.pinned : Pinned := { name := "ytgaoeoijdpdjiaadoor", sum := "d83feb6ba49a56e2d9d92f0920c48f6dd69e60d89c74ac13e2ba32190d13bee8", checked := Tryd.checked }
namespace Rows
def none {H : Type} : Left H := { results := [], args := [] }

/- WHAT THE LISTED PACKAGE-LEVEL VARIABLES READ AS WHEN THE CALL BEGINS. Each datum BY PROGRAM (the guide's laid-datum.mjs) off the statement by which the dump's own 'gosem.cut.vars' lays the variable. In a bare row this is a premise. The card (YtgaoeoijdpdjiaaDoorCards.lean) ties it to the program's text. -/
def laid_signet_digest_turns {H : Type} : DataW H := .agg [.lit (.int .i64 5), .lit (.int .i64 11), .lit (.int .i64 19), .lit (.int .i64 26)]

/-- 'signetlaw.Digests': WHATEVER THE INPUT: true; the input reads as it did. -/
def digestsSpec : ChangeSpec := { name := "digests", fn := fun _ => fun
  | [d1, d2, d3] => { results := [.lit (.bool true)], args := [d1, d2, d3] }
  | _ => none }
def digestsRow : OpenClaim := { program := "ytgaoeoijdpdjiaadoor", sum := "d83feb6ba49a56e2d9d92f0920c48f6dd69e60d89c74ac13e2ba32190d13bee8", func := "signet/signetlaw.Digests", spec := "digests", named := ["signet/digest.turns"], apart := false, laid := [("signet/digest.turns", laid_signet_digest_turns)] }
def DigestsSaid : Prop := digestsRow.holds Tryd.pinned (OpenSpec.ofChange digestsSpec)

/-- ITS FALSE NEIGHBOUR: 'it returns false'. Refute it at one input. -/
def digestsWrong : ChangeSpec := { name := "digests", fn := fun _ => fun
  | [d1, d2, d3] => { results := [.lit (.bool false)], args := [d1, d2, d3] }
  | _ => none }
def DigestsWrongFalsely : Prop := digestsRow.holds Tryd.pinned (OpenSpec.ofChange digestsWrong)

/-- 'signetlaw.Folds': WHATEVER THE INPUT: true; the input reads as it did. -/
def foldsSpec : ChangeSpec := { name := "folds", fn := fun _ => fun
  | [d1, d2, d3, d4, d5, d6] => { results := [.lit (.bool true)], args := [d1, d2, d3, d4, d5, d6] }
  | _ => none }
def foldsRow : OpenClaim := { program := "ytgaoeoijdpdjiaadoor", sum := "d83feb6ba49a56e2d9d92f0920c48f6dd69e60d89c74ac13e2ba32190d13bee8", func := "signet/signetlaw.Folds", spec := "folds", inPlace := ["internal/abi.NoEscape", "internal/bytealg.MakeNoZero"], unfollowed := true, recurses := true, named := ["signet/digest.turns"], apart := false, laid := [("signet/digest.turns", laid_signet_digest_turns)] }
def FoldsSaid : Prop := foldsRow.holds Tryd.pinned (OpenSpec.ofChange foldsSpec)

/-- ITS FALSE NEIGHBOUR: 'it returns false'. Refute it at one input. -/
def foldsWrong : ChangeSpec := { name := "folds", fn := fun _ => fun
  | [d1, d2, d3, d4, d5, d6] => { results := [.lit (.bool false)], args := [d1, d2, d3, d4, d5, d6] }
  | _ => none }
def FoldsWrongFalsely : Prop := foldsRow.holds Tryd.pinned (OpenSpec.ofChange foldsWrong)

/-- 'signetkeep.Grown': WHATEVER THE INPUT: true; the input reads as it did. -/
def grownSpec : ChangeSpec := { name := "grown", fn := fun _ => fun
  | [d1, d2, d3, d4, d5, d6, d7] => { results := [.lit (.bool true)], args := [d1, d2, d3, d4, d5, d6, d7] }
  | _ => none }
def grownRow : OpenClaim := { program := "ytgaoeoijdpdjiaadoor", sum := "d83feb6ba49a56e2d9d92f0920c48f6dd69e60d89c74ac13e2ba32190d13bee8", func := "signet/signetkeep.Grown", spec := "grown", inPlace := ["internal/abi.NoEscape", "internal/bytealg.MakeNoZero"], unfollowed := true, recurses := true, named := ["signet/digest.turns"], apart := false, laid := [("signet/digest.turns", laid_signet_digest_turns)] }
def GrownSaid : Prop := grownRow.holds Tryd.pinned (OpenSpec.ofChange grownSpec)

/-- ITS FALSE NEIGHBOUR: 'it returns false'. Refute it at one input. -/
def grownWrong : ChangeSpec := { name := "grown", fn := fun _ => fun
  | [d1, d2, d3, d4, d5, d6, d7] => { results := [.lit (.bool false)], args := [d1, d2, d3, d4, d5, d6, d7] }
  | _ => none }
def GrownWrongFalsely : Prop := grownRow.holds Tryd.pinned (OpenSpec.ofChange grownWrong)

/- THE SECOND FORM. 'bulk': how many values and letters a reading holds, each counted each time it is reached (what is shared counts as often as it is met; a slice's spare places count too). A statement '..UptoSaid' is the law's where the arguments, and the package variables that the reading takes, are together of bulk at most 1048576: NARROWER than '..Said'. Prove '..Said' where nothing that the law and all that it calls make is longer than what came in: it says more and counts as full. Else prove '..UptoSaid'. A law counts once. -/
mutual
def uptoBulk {H : Type} : DataW H → Nat
  | .lit (.string bytes) => bytes.length + 1
  | .lit _ => 1
  | .nil => 1
  | .ptr d => uptoBulk d + 1
  | .slice elems spare => uptoBulkAll elems + uptoBulkAll spare + 1
  | .agg parts => uptoBulkAll parts + 1
  | .iface _ d => uptoBulk d + 1
  | .map entries => uptoBulkEntries entries + 1
  | .held _ => 1
def uptoBulkAll {H : Type} : List (DataW H) → Nat
  | [] => 0
  | d :: r => uptoBulk d + uptoBulkAll r
def uptoBulkEntries {H : Type} : List (Lit × DataW H) → Nat
  | [] => 0
  | x :: r => uptoBulkEntry x + uptoBulkEntries r
def uptoBulkEntry {H : Type} : Lit × DataW H → Nat
  | (.string bytes, d) => bytes.length + uptoBulk d + 1
  | (_, d) => uptoBulk d + 1
 end
def uptoSmall : (H : Type) → List (DataW H) → Bool := fun _ ds => decide (uptoBulkAll ds ≤ 1048576)
def OpenSpec.upto (s : _root_.Go.ChangeSpec) : _root_.Go.OpenSpec := { _root_.Go.OpenSpec.ofChange s with cond := some uptoSmall }

/-- 'signetlaw.Digests', WHERE WHAT IT READS IS OF BULK AT MOST 1048576: true; the input reads as it did. -/
def digestsUptoRow : OpenClaim := { program := "ytgaoeoijdpdjiaadoor", sum := "d83feb6ba49a56e2d9d92f0920c48f6dd69e60d89c74ac13e2ba32190d13bee8", func := "signet/signetlaw.Digests", spec := "digests", named := ["signet/digest.turns"], apart := false, laid := [("signet/digest.turns", laid_signet_digest_turns)], narrowed := true }
def DigestsUptoSaid : Prop := digestsUptoRow.holds Tryd.pinned (OpenSpec.upto digestsSpec)

/-- 'signetlaw.Folds', WHERE WHAT IT READS IS OF BULK AT MOST 1048576: true; the input reads as it did. -/
def foldsUptoRow : OpenClaim := { program := "ytgaoeoijdpdjiaadoor", sum := "d83feb6ba49a56e2d9d92f0920c48f6dd69e60d89c74ac13e2ba32190d13bee8", func := "signet/signetlaw.Folds", spec := "folds", inPlace := ["internal/abi.NoEscape", "internal/bytealg.MakeNoZero"], unfollowed := true, recurses := true, named := ["signet/digest.turns"], apart := false, laid := [("signet/digest.turns", laid_signet_digest_turns)], narrowed := true }
def FoldsUptoSaid : Prop := foldsUptoRow.holds Tryd.pinned (OpenSpec.upto foldsSpec)

/-- 'signetkeep.Grown', WHERE WHAT IT READS IS OF BULK AT MOST 1048576: true; the input reads as it did. -/
def grownUptoRow : OpenClaim := { program := "ytgaoeoijdpdjiaadoor", sum := "d83feb6ba49a56e2d9d92f0920c48f6dd69e60d89c74ac13e2ba32190d13bee8", func := "signet/signetkeep.Grown", spec := "grown", inPlace := ["internal/abi.NoEscape", "internal/bytealg.MakeNoZero"], unfollowed := true, recurses := true, named := ["signet/digest.turns"], apart := false, laid := [("signet/digest.turns", laid_signet_digest_turns)], narrowed := true }
def GrownUptoSaid : Prop := grownUptoRow.holds Tryd.pinned (OpenSpec.upto grownSpec)

end Rows
end Go.Proofs.YtgaoeoijdpdjiaaDoor
