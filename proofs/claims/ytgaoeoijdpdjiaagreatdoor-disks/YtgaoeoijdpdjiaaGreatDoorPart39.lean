/-
  What the row's closed cells say of the program, one by one.
-/
import Derived.Test.YtgaoeoijdpdjiaaGreatDoorRows
import Derived.ProofKit
namespace Go.Proofs.YtgaoeoijdpdjiaaGreatDoor
open Go.ChangeShapes Go.WideShapes Go.ChangeAt Go.RowKit
theorem jf_laid : laidOutB Tryz.prog = true := by kernel_rfl
theorem jf_maps : mapsRowed Tryz.prog = true := by kernel_rfl
theorem jf_in : (Rows.disksRow.inPlace == Tryz.prog.inPlace 6) = true := by kernel_rfl
theorem jf_un : (Rows.disksRow.unfollowed == Tryz.prog.unfollowed 6) = true := by kernel_rfl
theorem jf_re : (Rows.disksRow.recurses == Tryz.prog.recurses 6) = true := by kernel_rfl
theorem jf_na : (Rows.disksRow.named == Tryz.prog.varsNamed 6) = true := by kernel_rfl
set_option maxRecDepth 100000 in
theorem jf_all : joinedFacts Tryz.prog 6 Tryz.f6 (OpenSpec.ofChange Rows.disksSpec).bare Rows.disksRow = true := by
  simp only [joinedFacts, Bool.and_eq_true]
  repeat' apply And.intro
  all_goals first | with_reducible exact jf_laid | with_reducible exact jf_maps | with_reducible exact jf_in | with_reducible exact jf_un | with_reducible exact jf_re | with_reducible exact jf_na | kernel_rfl
end Go.Proofs.YtgaoeoijdpdjiaaGreatDoor
