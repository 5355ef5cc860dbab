/-
  How a script of disks begins, and how it is played.
-/
import Derived.Test.YtgaoeoijdpdjiaaGreatDoorPart36
namespace Go.Proofs.YtgaoeoijdpdjiaaGreatDoor
open Go.RowKit
def opK (kd a : Int) (s : ByteArray) : OpD := ⟨kd, 0, a, 0, s, ⟨#[]⟩, ⟨#[]⟩, none, 0, 0, [], none, 0, 0, [], 0, 0, 0, 0, 0, ⟨#[]⟩, ⟨#[]⟩, ⟨#[]⟩, 0, 0, 0, 0⟩
theorem opK_ok (w : World) (kd a : Int) (s : ByteArray) (h1 : I64 kd) (h2 : I64 a) (h3 : s.size ≤ maxLen) : OpOk w (opK kd a s) := by
  have z : I64 0 := ⟨by decide, by decide⟩
  have e : (⟨#[]⟩ : ByteArray).size ≤ maxLen := by decide
  exact ⟨h1, z, h2, z, h3, e, e, .inl ⟨rfl, rfl, rfl, rfl⟩, Nat.zero_le _, fun y hy => by simp [opK] at hy, .inl ⟨rfl, rfl, rfl, rfl⟩, Nat.zero_le _, z, z, z, z, z, e, e, e, z, z, z, z⟩
theorem di_new {Wb : Nat} {Wd w : World} (hb : Below Wd.heap.size Wd w) (hW : Blk w Wb wldC 74) (hl : Wd.heap.size ≤ Wb) : DI Wd.heap.size Wb Wd (.slice none 0 0) (.slice none 0 0) 0 (fun _ => 1) (.slice none 0 0) [] w :=
  ⟨hW, rfl, World.ownsRow_nil _ _ _ _, fun q e => by simp [Value.ownBlock] at e, fun i p e => by simp at e, Nat.le_refl _, fun p e => by simp at e, hb, hb.size, hl⟩
def someText : ByteArray := ⟨#[97, 32, 116, 101, 120, 116, 32, 111, 102, 32, 116, 104, 105, 114, 116, 121, 45, 116, 119, 111, 32, 98, 121, 116, 101, 115, 32, 104, 101, 114, 101, 46]⟩
set_option maxRecDepth 20000 in
set_option maxHeartbeats 4000000 in
theorem begins_disks (w : World) : Calls Tryz.prog 31 #[.int .i64 30, .int .i64 36] w fun e w' => e = .returned (.bool true) ∧ Below w.heap.size w w' := by
  obtain ⟨W0, hW⟩ : ∃ W0, ((w.alloc (.cells #[.slice none 0 0, .slice none 0 0, .slice none 0 0, .slice none 0 0, .slice none 0 0, .slice none 0 0] 74)).alloc (.cells #[.int .i64 2, .int .i64 4, .int .i64 4, .int .i64 1, .int .i64 1] 23)).alloc (.cells #[.string ⟨#[97, 97, 97, 97]⟩, .string ⟨#[98, 98, 98, 98]⟩, .string ⟨#[99, 99, 99, 99]⟩] 25) = W0 := ⟨_, rfl⟩
  have HB := hide (show Below w.heap.size w W0 by subst hW; exact (((Below.refl _ _).alloc (Nat.le_refl _) _).alloc (by simp) _).alloc (by simp <;> omega) _)
  have H0 := hide (di_new HB.out (show Blk W0 w.heap.size wldC 74 by rw [← hW]; exact ((Blk.new w wldC _).alloc _).alloc _) (Nat.le_refl _))
  have hS1 := dstep H0.out (by decide) rfl (opK 30 2 ⟨#[]⟩) (opK_ok w 30 2 ⟨#[]⟩ ⟨by decide, by decide⟩ ⟨by decide, by decide⟩ (by decide)) (by decide) (by decide)
  unfold opV opC opK at hS1
  dsimp only at hS1
  have HS1 := hide hS1
  have HWE := hide hW
  clear hS1 hW
  go_enter Tryz.func31, Tryz.ntmps31
  go_wp2_with fail
  rw [HWE.out]
  refine HS1.out.mono ?_
  rintro e w1 ⟨rfl, c1, dv1, Ps1, h1, l1⟩
  have hS2 := dstep h1 (by decide) rfl (opK 32 1 someText) (opK_ok w 32 1 someText ⟨by decide, by decide⟩ ⟨by decide, by decide⟩ (by decide)) (by decide) (by decide)
  unfold opV opC opK someText at hS2
  dsimp only at hS2
  have HS2 := hide hS2
  have HL1 := hide l1
  clear hS2 h1 l1
  go_wp2_with fail
  refine HS2.out.mono ?_
  rintro e w2 ⟨rfl, c2, dv2, Ps2, h2, l2⟩
  have hS3 := dstep h2 (by decide) rfl (opK 31 1 ⟨#[]⟩) (opK_ok w 31 1 ⟨#[]⟩ ⟨by decide, by decide⟩ ⟨by decide, by decide⟩ (by decide)) (by decide) (by decide)
  unfold opV opC opK at hS3
  dsimp only at hS3
  have HS3 := hide hS3
  have HL2 := hide l2
  clear hS3 h2 l2
  go_wp2_with fail
  refine HS3.out.mono ?_
  rintro e w3 ⟨rfl, c3, dv3, Ps3, h3, l3⟩
  have hlen : Ps3.length = 1 := by
    rw [l3, HL2.out, HL1.out]
    rfl
  obtain ⟨da, dc, hdv⟩ := owns_len h3.row
  have k4 : w3.cell? ⟨w.heap.size, 4, none⟩ = some (.slice da 1 dc) := by
    have := h3.wb.cell 4
    rw [hdv, hlen] at this
    exact this
  have HLW := hide h3.low
  clear h3 l3 hlen hdv
  go_wp2
  go_ret
  exact ⟨rfl, HLW.out⟩
/-- A script of disks: every answer is the document's. -/
theorem plays_disks (v : Value) (L : List OpD) (w : World) (hv : ScriptQ w v L) (hl : L.length ≤ 1099511627776) :
    Calls Tryz.prog 10 #[v, .int .i64 30, .int .i64 36] w fun e w' => e = .returned (.bool true) ∧ Below w.heap.size w w' := by
  refine plays_on v L 30 36 (fun j Wb V => ∃ c dv Ps, DI w.heap.size Wb w (.slice none 0 0) (.slice none 0 0) j c dv Ps V) w hv hl (begins_disks w) ?_ ?_ ?_ ?_ ?_ ?_
  · intro V Wb V' hb e hW hb2
    exact ⟨_, _, _, di_new (hb.trans (hb2.mono hb.size)) hW (by rw [e]; exact hb.size)⟩
  · rintro j d Wb V hj hd ok h1 h2 ⟨c, dv, Ps, h⟩
    refine (dstep h (by omega) rfl d ok h1 (by omega)).mono ?_
    rintro e w' ⟨rfl, c', dv', Ps', z, _⟩
    exact ⟨rfl, c', dv', Ps', z⟩
  · rintro j Wb V ⟨c, dv, Ps, h⟩
    refine (looks_nil Wb _ _ _ V h.wb).mono ?_
    rintro e w' ⟨rfl, rfl⟩
    exact ⟨rfl, Below.refl _ _⟩
  · rintro j Wb V V' ⟨c, dv, Ps, h⟩ hb
    exact ⟨c, dv, Ps, h.below hb⟩
  · rintro j Wb V ⟨c, dv, Ps, h⟩
    exact ⟨c, dv, Ps, h.next⟩
  · rintro j Wb V ⟨c, dv, Ps, h⟩
    exact h.low
end Go.Proofs.YtgaoeoijdpdjiaaGreatDoor
