/-
  No cell of these rows narrows 'for every input' (looked for: loops, veiled, ifaces, maps, wideKeys, modest, calm, conditions, laid).
  DERIVED. THE GIVEN ROWS OF THIS SEAT. 5 by the template 'for every input the law returns true; each argument reads behind the call as it read before'; 0 by the template 'total and deterministic' (their statements: YtgaoeoijdpdjiaaTotals.lean).
  GIVEN WITH THE SEED: the statements are not yours to turn. If you find one false, say at which input.
  Laid BY PROGRAM, IN A SANDBOX (cutbox-rows.mjs): the forced cells as the released guide's own fill.sh prints them over the translation 1524e0ad5efa3273… (all of the seat's roots in one cut). By AI agents, Wed Nov 11 2026. No macro, syntax, notation, axiom, sorry.
-/
import Derived.Test.YtgaoeoijdpdjiaaChecked
import GoSem.Claim
import GoSem.ClaimJoined
import GoSem.ClaimMapViews
import Derived.JoinedTies
import Derived.KernelRfl
namespace Go.Proofs.Ytgaoeoijdpdjiaa
/- THE CELL 'sum', in the pinned program and in every row, IS THE sha256 OF THE DUMP (.gsa) THAT YtgaoeoijdpdjiaaProg.lean LOADS. Nothing in Lean hashes anything: it is a label: what it is worth is what the hold of that sum in a sandbox is worth. -/
noncomputable def Try.pinned : Pinned := { name := "ytgaoeoijdpdjiaa", sum := "1524e0ad5efa3273adacde6d649ab8f17483b01af5bdbbdde1a52dccc02ae355", checked := Try.checked }
namespace Rows
def none {H : Type} : Left H := { results := [], args := [] }

/-- 'signetlaw.Numerals': WHATEVER THE INPUT: true; the input reads as it did. -/
def numeralsSpec : ChangeSpec := { name := "numerals", fn := fun _ => fun
  | [d1, d2, d3] => { results := [.lit (.bool true)], args := [d1, d2, d3] }
  | _ => none }
def numeralsRow : OpenClaim := { program := "ytgaoeoijdpdjiaa", sum := "1524e0ad5efa3273adacde6d649ab8f17483b01af5bdbbdde1a52dccc02ae355", func := "signet/signetlaw.Numerals", spec := "numerals", apart := false }
def NumeralsSaid : Prop := numeralsRow.holds Try.pinned (OpenSpec.ofChange numeralsSpec)

/-- ITS FALSE NEIGHBOUR: 'it returns false'. Refute it at one input. -/
def numeralsWrong : ChangeSpec := { name := "numerals", fn := fun _ => fun
  | [d1, d2, d3] => { results := [.lit (.bool false)], args := [d1, d2, d3] }
  | _ => none }
def NumeralsWrongFalsely : Prop := numeralsRow.holds Try.pinned (OpenSpec.ofChange numeralsWrong)

/-- 'signetkeep.Crossed': WHATEVER THE INPUT: true; the input reads as it did. -/
def crossedSpec : ChangeSpec := { name := "crossed", fn := fun _ => fun
  | [d1, d2, d3] => { results := [.lit (.bool true)], args := [d1, d2, d3] }
  | _ => none }
def crossedRow : OpenClaim := { program := "ytgaoeoijdpdjiaa", sum := "1524e0ad5efa3273adacde6d649ab8f17483b01af5bdbbdde1a52dccc02ae355", func := "signet/signetkeep.Crossed", spec := "crossed", apart := false }
def CrossedSaid : Prop := crossedRow.holds Try.pinned (OpenSpec.ofChange crossedSpec)

/-- ITS FALSE NEIGHBOUR: 'it returns false'. Refute it at one input. -/
def crossedWrong : ChangeSpec := { name := "crossed", fn := fun _ => fun
  | [d1, d2, d3] => { results := [.lit (.bool false)], args := [d1, d2, d3] }
  | _ => none }
def CrossedWrongFalsely : Prop := crossedRow.holds Try.pinned (OpenSpec.ofChange crossedWrong)

/-- 'signetlaw.Seals': WHATEVER THE INPUT: true; the input reads as it did. -/
def sealsSpec : ChangeSpec := { name := "seals", fn := fun _ => fun
  | [d1, d2] => { results := [.lit (.bool true)], args := [d1, d2] }
  | _ => none }
def sealsRow : OpenClaim := { program := "ytgaoeoijdpdjiaa", sum := "1524e0ad5efa3273adacde6d649ab8f17483b01af5bdbbdde1a52dccc02ae355", func := "signet/signetlaw.Seals", spec := "seals", apart := false }
def SealsSaid : Prop := sealsRow.holds Try.pinned (OpenSpec.ofChange sealsSpec)

/-- ITS FALSE NEIGHBOUR: 'it returns false'. Refute it at one input. -/
def sealsWrong : ChangeSpec := { name := "seals", fn := fun _ => fun
  | [d1, d2] => { results := [.lit (.bool false)], args := [d1, d2] }
  | _ => none }
def SealsWrongFalsely : Prop := sealsRow.holds Try.pinned (OpenSpec.ofChange sealsWrong)

/-- 'signetkeep.Durable': WHATEVER THE INPUT: true; the input reads as it did. -/
def durableSpec : ChangeSpec := { name := "durable", fn := fun _ => fun
  | [d1, d2] => { results := [.lit (.bool true)], args := [d1, d2] }
  | _ => none }
def durableRow : OpenClaim := { program := "ytgaoeoijdpdjiaa", sum := "1524e0ad5efa3273adacde6d649ab8f17483b01af5bdbbdde1a52dccc02ae355", func := "signet/signetkeep.Durable", spec := "durable", unfollowed := true, recurses := true, apart := false }
def DurableSaid : Prop := durableRow.holds Try.pinned (OpenSpec.ofChange durableSpec)

/-- ITS FALSE NEIGHBOUR: 'it returns false'. Refute it at one input. -/
def durableWrong : ChangeSpec := { name := "durable", fn := fun _ => fun
  | [d1, d2] => { results := [.lit (.bool false)], args := [d1, d2] }
  | _ => none }
def DurableWrongFalsely : Prop := durableRow.holds Try.pinned (OpenSpec.ofChange durableWrong)

/-- 'signetkeep.Reread': WHATEVER THE INPUT: true; the input reads as it did. -/
def rereadSpec : ChangeSpec := { name := "reread", fn := fun _ => fun
  | [d1, d2, d3, d4] => { results := [.lit (.bool true)], args := [d1, d2, d3, d4] }
  | _ => none }
def rereadRow : OpenClaim := { program := "ytgaoeoijdpdjiaa", sum := "1524e0ad5efa3273adacde6d649ab8f17483b01af5bdbbdde1a52dccc02ae355", func := "signet/signetkeep.Reread", spec := "reread", apart := false }
def RereadSaid : Prop := rereadRow.holds Try.pinned (OpenSpec.ofChange rereadSpec)

/-- ITS FALSE NEIGHBOUR: 'it returns false'. Refute it at one input. -/
def rereadWrong : ChangeSpec := { name := "reread", fn := fun _ => fun
  | [d1, d2, d3, d4] => { results := [.lit (.bool false)], args := [d1, d2, d3, d4] }
  | _ => none }
def RereadWrongFalsely : Prop := rereadRow.holds Try.pinned (OpenSpec.ofChange rereadWrong)

/- THE SECOND FORM. 'bulk': how many values and letters a reading holds, each counted each time it is reached (what is shared counts as often as it is met; a slice's spare places count too). A statement '..UptoSaid' is the law's where the arguments, and the package variables that the reading takes, are together of bulk at most 1048576: NARROWER than '..Said'. Prove '..Said' where nothing that the law and all that it calls make is longer than what came in: it says more and counts as full. Else prove '..UptoSaid'. A law counts once. -/
mutual
def uptoBulk {H : Type} : DataW H → Nat
  | .lit (.string bytes) => bytes.length + 1
  | .lit _ => 1
  | .nil => 1
  | .ptr d => uptoBulk d + 1
  | .slice elems spare => uptoBulkAll elems + uptoBulkAll spare + 1
  | .agg parts => uptoBulkAll parts + 1
  | .iface _ d => uptoBulk d + 1
  | .map entries => uptoBulkEntries entries + 1
  | .held _ => 1
def uptoBulkAll {H : Type} : List (DataW H) → Nat
  | [] => 0
  | d :: r => uptoBulk d + uptoBulkAll r
def uptoBulkEntries {H : Type} : List (Lit × DataW H) → Nat
  | [] => 0
  | x :: r => uptoBulkEntry x + uptoBulkEntries r
def uptoBulkEntry {H : Type} : Lit × DataW H → Nat
  | (.string bytes, d) => bytes.length + uptoBulk d + 1
  | (_, d) => uptoBulk d + 1
 end
def uptoSmall : (H : Type) → List (DataW H) → Bool := fun _ ds => decide (uptoBulkAll ds ≤ 1048576)
def OpenSpec.upto (s : _root_.Go.ChangeSpec) : _root_.Go.OpenSpec := { _root_.Go.OpenSpec.ofChange s with cond := some uptoSmall }

/-- 'signetlaw.Numerals', WHERE WHAT IT READS IS OF BULK AT MOST 1048576: true; the input reads as it did. -/
def numeralsUptoRow : OpenClaim := { program := "ytgaoeoijdpdjiaa", sum := "1524e0ad5efa3273adacde6d649ab8f17483b01af5bdbbdde1a52dccc02ae355", func := "signet/signetlaw.Numerals", spec := "numerals", apart := false, narrowed := true }
def NumeralsUptoSaid : Prop := numeralsUptoRow.holds Try.pinned (OpenSpec.upto numeralsSpec)

/-- 'signetkeep.Crossed', WHERE WHAT IT READS IS OF BULK AT MOST 1048576: true; the input reads as it did. -/
def crossedUptoRow : OpenClaim := { program := "ytgaoeoijdpdjiaa", sum := "1524e0ad5efa3273adacde6d649ab8f17483b01af5bdbbdde1a52dccc02ae355", func := "signet/signetkeep.Crossed", spec := "crossed", apart := false, narrowed := true }
def CrossedUptoSaid : Prop := crossedUptoRow.holds Try.pinned (OpenSpec.upto crossedSpec)

/-- 'signetlaw.Seals', WHERE WHAT IT READS IS OF BULK AT MOST 1048576: true; the input reads as it did. -/
def sealsUptoRow : OpenClaim := { program := "ytgaoeoijdpdjiaa", sum := "1524e0ad5efa3273adacde6d649ab8f17483b01af5bdbbdde1a52dccc02ae355", func := "signet/signetlaw.Seals", spec := "seals", apart := false, narrowed := true }
def SealsUptoSaid : Prop := sealsUptoRow.holds Try.pinned (OpenSpec.upto sealsSpec)

/-- 'signetkeep.Durable', WHERE WHAT IT READS IS OF BULK AT MOST 1048576: true; the input reads as it did. -/
def durableUptoRow : OpenClaim := { program := "ytgaoeoijdpdjiaa", sum := "1524e0ad5efa3273adacde6d649ab8f17483b01af5bdbbdde1a52dccc02ae355", func := "signet/signetkeep.Durable", spec := "durable", unfollowed := true, recurses := true, apart := false, narrowed := true }
def DurableUptoSaid : Prop := durableUptoRow.holds Try.pinned (OpenSpec.upto durableSpec)

/-- 'signetkeep.Reread', WHERE WHAT IT READS IS OF BULK AT MOST 1048576: true; the input reads as it did. -/
def rereadUptoRow : OpenClaim := { program := "ytgaoeoijdpdjiaa", sum := "1524e0ad5efa3273adacde6d649ab8f17483b01af5bdbbdde1a52dccc02ae355", func := "signet/signetkeep.Reread", spec := "reread", apart := false, narrowed := true }
def RereadUptoSaid : Prop := rereadUptoRow.holds Try.pinned (OpenSpec.upto rereadSpec)

end Rows
end Go.Proofs.Ytgaoeoijdpdjiaa
