/-
  What a reservation leaves behind in any case.
-/
import Derived.Test.YtgaoeoijdpdjiabGreatDoorPart22
import Derived.Defers
namespace Go.Proofs.YtgaoeoijdpdjiabGreatDoor
open Go.RowKit

theorem resv_deferred (S R0 R1 : Nat) (sy : Bool) (v : Value) (u : FrameMode) (w : World) (h0 : w.cell? ⟨R0, 0, none⟩ = some (.pointer (some ⟨S, 0, none⟩))) (h1 : w.cell? ⟨R1, 0, none⟩ = some (.bool sy)) (h18 : w.cell? ⟨S, 18, none⟩ = some v) (hf : w.frozen? ⟨S, 18, none⟩ = false) :
    CallsD Tryz.prog 184 #[.pointer (some ⟨R1, 0, none⟩), .pointer (some ⟨R0, 0, none⟩)] u w fun e u' w' => u' = u ∧ (e = .returned (.tuple #[]) ∧ w' = w.setCell ⟨S, 18, none⟩ (.bool !sy)) := by
  have hnot : ∀ (x : Bool) (w : World), (Op.unary .not (.bool x)).run Tryz.prog w = .ok (.bool (!x)) w := fun _ _ => rfl
  go_enter_d Tryz.func184, Tryz.ntmps184
  go_wp2
  go_end0
  exact ⟨rfl, rfl⟩
end Go.Proofs.YtgaoeoijdpdjiabGreatDoor
