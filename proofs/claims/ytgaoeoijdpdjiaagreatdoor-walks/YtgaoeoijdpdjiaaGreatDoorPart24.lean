/-
  The document's trees: all nodes of a tree, height by height.
-/
import Derived.Test.YtgaoeoijdpdjiaaGreatDoorPart19
import Derived.Test.YtgaoeoijdpdjiaaGreatDoorPart18
import Derived.Test.YtgaoeoijdpdjiaaGreatDoorPart23
import Derived.Test.YtgaoeoijdpdjiaaGreatDoorPart4
import Derived.Deep.AppendLies
namespace Go.Proofs.YtgaoeoijdpdjiaaGreatDoor
open Go.RowKit
theorem infoSlT : (Tryz.prog.info? 50).map (fun i => (i.zero, i.size, i.bytes)) = some (some (.slice none 0 0), 1, 24) := by kernel_rfl
/-- The row of the height h. -/
def rowZ (tv : Nat → Nat → ByteArray) (T h : Nat) : List Value := (List.range (2 ^ (T - h))).map fun j => .string (tv h j)
/-- The rows of a tree up to the height m. -/
structure GrI (lo : Nat) (w : World) (rv : Value) (vs : List Value) (m T : Nat) (tv : Nat → Nat → ByteArray) : Prop where
  row : w.ownsRow lo 50 1 rv m vs
  each : ∀ h, h < m → ∃ v, vs[h]? = some v ∧ w.ownsRow lo 9 1 v (2 ^ (T - h)) (rowZ tv T h)
variable {lo : Nat} {w w' : World} {rv : Value} {vs : List Value} {m T : Nat} {tv : Nat → Nat → ByteArray}
theorem GrI.kept {F : Nat → Prop} (h : GrI lo w rv vs m T tv) (hk : Kept F w w') (h1 : ∀ q, rv.ownBlock = some q → ¬ F q) (h2 : ∀ v ∈ vs, ∀ q, v.ownBlock = some q → ¬ F q) : GrI lo w' rv vs m T tv :=
  ⟨owns_kept h.row hk h1, fun i hi => by
    obtain ⟨v, hv, hr⟩ := h.each i hi
    exact ⟨v, hv, owns_kept hr hk (h2 v (List.mem_of_getElem? hv))⟩⟩
theorem GrI.on (h : GrI lo w rv vs m T tv) (hb : Below w.heap.size w w') : GrI lo w' rv vs m T tv := h.kept (Kept.of_below (F := fun _ => False) hb) (fun _ _ e => e) (fun _ _ _ _ e => e)
theorem row_blkZ {w : World} {lo : Nat} {e : TypeId} {sz : Nat} {v : Value} {n : Nat} {xs : List Value} {q : Nat} (h : w.ownsRow lo e sz v n xs) (hq : v.ownBlock = some q) : lo ≤ q ∧ q < w.heap.size ∧ ∃ us, Blk w q us e := by
  rcases h.2 with ⟨rfl, -⟩ | ⟨g, cap, cur, rfl, hg, hB, -⟩
  · simp [Value.ownBlock] at hq
  · simp only [Value.ownBlock, Option.some.injEq] at hq
    subst hq
    exact ⟨hg, lt_of_block hB, cur.toList, by unfold Blk; rw [hB, Array.toArray_toList]⟩
theorem blk_neZ {w : World} {b : Nat} {vs us : List Value} {A B : TypeId} (h : Blk w b vs A) (k : Blk w b us B) (hne : A ≠ B) : False := by
  unfold Blk at h k
  rw [h] at k
  simp only [Option.some.injEq, Obj.cells.injEq] at k
  exact hne k.2.1
theorem GrI.lt (h : GrI lo w rv vs m T tv) : (∀ q, rv.ownBlock = some q → lo ≤ q ∧ q < w.heap.size) ∧ ∀ v ∈ vs, ∀ q, v.ownBlock = some q → lo ≤ q ∧ q < w.heap.size := by
  refine ⟨fun q hq => ⟨(row_blkZ h.row hq).1, (row_blkZ h.row hq).2.1⟩, fun v hv q hq => ?_⟩
  obtain ⟨i, hi⟩ := List.getElem?_of_mem hv
  have hl : i < m := by have := (List.getElem?_eq_some_iff.1 hi).1; have := h.row.1; omega
  obtain ⟨u, hu, hr⟩ := h.each i hl
  rw [hi] at hu
  cases hu
  exact ⟨(row_blkZ hr hq).1, (row_blkZ hr hq).2.1⟩
theorem GrI.blk (h : GrI lo w rv vs m T tv) {v : Value} (hv : v ∈ vs) {q : Nat} (hq : v.ownBlock = some q) : ∃ us, Blk w q us 9 := by
  obtain ⟨i, hi⟩ := List.getElem?_of_mem hv
  have hl : i < m := by have := (List.getElem?_eq_some_iff.1 hi).1; have := h.row.1; omega
  obtain ⟨u, hu, hr⟩ := h.each i hl
  rw [hi] at hu
  cases hu
  exact (row_blkZ hr hq).2.2
theorem owns_lower' {w : World} {lo lo' : Nat} {e : TypeId} {sz : Nat} {v : Value} {n : Nat} {xs : List Value} (h : w.ownsRow lo e sz v n xs) (hl : lo' ≤ lo) : w.ownsRow lo' e sz v n xs :=
  ⟨h.1, h.2.elim Or.inl (fun ⟨g, cap, cur, hv, hb, r⟩ => Or.inr ⟨g, cap, cur, hv, Nat.le_trans hl hb, r⟩)⟩
theorem GrI.low' {lo' : Nat} (h : GrI lo w rv vs m T tv) (hl : lo' ≤ lo) : GrI lo' w rv vs m T tv :=
  ⟨owns_lower' h.row hl, fun i hi => by
    obtain ⟨v, hv, hr⟩ := h.each i hi
    exact ⟨v, hv, owns_lower' hr hl⟩⟩
/-- A row more. -/
theorem GrI.more {W : World} {rv' v : Value} (h : GrI lo w rv vs m T tv) (hr : w.ownsRow lo 9 1 v (2 ^ (T - m)) (rowZ tv T m)) (hg : (w.alloc (.cells #[v] 50)).grownBy W rv.ownBlock) (ho : W.ownsRow lo 50 1 rv' (m + 1) (vs ++ [v])) : GrI lo W rv' (vs ++ [v]) (m + 1) T tv := by
  have hal : Below w.heap.size w (w.alloc (.cells #[v] 50)) := (Below.refl _ _).alloc (Nat.le_refl _) _
  have hk := kept_grown hg
  have hne : ∀ {u : Value} {n : Nat} {xs : List Value}, w.ownsRow lo 9 1 u n xs → ∀ q, u.ownBlock = some q → ¬ rv.ownBlock = some q := fun hu q hq e => by
    obtain ⟨-, -, us, b1⟩ := row_blkZ hu hq
    obtain ⟨-, -, us2, b2⟩ := row_blkZ h.row e
    exact blk_neZ b1 b2 (by decide)
  have hkeep : ∀ {u : Value} {n : Nat} {xs : List Value}, w.ownsRow lo 9 1 u n xs → W.ownsRow lo 9 1 u n xs := fun hu =>
    owns_kept (owns_kept hu (Kept.of_below (F := fun _ => False) hal) (fun _ _ e => e)) hk (hne hu)
  have hl := h.row.1
  refine ⟨ho, fun i hi => ?_⟩
  by_cases hm : i < m
  · obtain ⟨u, hu, hr2⟩ := h.each i hm
    exact ⟨u, by rw [List.getElem?_append_left (by omega)]; exact hu, hkeep hr2⟩
  · obtain rfl : i = m := by omega
    exact ⟨v, by rw [List.getElem?_append_right (by omega), show i - vs.length = 0 by omega]; rfl, hkeep hr⟩
/-- The boxes of Grow. -/
structure BxG (w : World) (B : Nat) (S U P R G : List Value) : Prop where
  s : Blk w B S 23
  u : Blk w (B + 1) U 25
  p : Blk w (B + 1 + 1) P 27
  r : Blk w (B + 1 + 1 + 1) R 246
  g : Blk w (B + 1 + 1 + 1 + 1) G 246
theorem BxG.below {w V : World} {B n : Nat} {S U P R G : List Value} (h : BxG w B S U P R G) (hb : Below n w V) (hn : B + 5 ≤ n) : BxG V B S U P R G :=
  ⟨h.s.below hb (by omega), h.u.below hb (by omega), h.p.below hb (by omega), h.r.below hb (by omega), h.g.below hb (by omega)⟩
theorem BxG.size {w : World} {B : Nat} {S U P R G : List Value} (h : BxG w B S U P R G) : B + 5 ≤ w.heap.size := by have := h.g.lt; omega
theorem BxG.setP {w : World} {B : Nat} {S U P R G : List Value} (h : BxG w B S U P R G) (i : Nat) (v : Value) : BxG (w.setCell ⟨B + 1 + 1, i, none⟩ v) B S U (P.set i v) R G :=
  ⟨h.s.other _ (by simp <;> omega), h.u.other _ (by simp <;> omega), h.p.set i v, h.r.other _ (by simp <;> omega), h.g.other _ (by simp <;> omega)⟩
theorem BxG.setG {w : World} {B : Nat} {S U P R G : List Value} (h : BxG w B S U P R G) (i : Nat) (v : Value) : BxG (w.setCell ⟨B + 1 + 1 + 1 + 1, i, none⟩ v) B S U P R (G.set i v) :=
  ⟨h.s.other _ (by simp <;> omega), h.u.other _ (by simp <;> omega), h.p.other _ (by simp <;> omega), h.r.other _ (by simp <;> omega), h.g.set i v⟩
set_option maxRecDepth 20000 in
set_option maxHeartbeats 8000000 in
theorem grow_on (k b x l p0 p1 p2 p3 : Int) (T n : Nat) (sec rnd pub : ByteArray) (tv : Nat → Nat → ByteArray) (w : World) (hT : T ≤ 4) (hn : 2 ^ T = n)
    (hLv : ∀ V : World, Calls Tryz.prog 90 #[.agg #[.int .i64 k, .int .i64 b, .int .i64 x, .int .i64 (T : Int), .int .i64 l]] V fun e w' => e = .returned (.int .i64 (n : Int)) ∧ Below V.heap.size V w')
    (hLf : ∀ (i : Nat) (V : World), i < n → Calls Tryz.prog 96 #[.agg #[.int .i64 k, .int .i64 b, .int .i64 x, .int .i64 (T : Int), .int .i64 l], .agg #[.string sec, .string rnd, .string pub], .agg #[.int .i64 p0, .int .i64 p1, .int .i64 (i : Int), .int .i64 p3]] V fun e w' => e = .returned (.string (tv 0 i)) ∧ Below V.heap.size V w')
    (hJn : ∀ (h j : Nat) (V : World), h < T → j < 2 ^ (T - (h + 1)) → Calls Tryz.prog 97 #[.agg #[.int .i64 k, .int .i64 b, .int .i64 x, .int .i64 (T : Int), .int .i64 l], .string pub, .agg #[.int .i64 p0, .int .i64 p1, .int .i64 p2, .int .i64 p3], .int .i64 ((h + 1 : Nat) : Int), .int .i64 (j : Int), .string (tv h (2 * j)), .string (tv h (2 * j + 1))] V fun e w' => e = .returned (.string (tv (h + 1) j)) ∧ Below V.heap.size V w') :
    Calls Tryz.prog 193 #[.agg #[.int .i64 k, .int .i64 b, .int .i64 x, .int .i64 (T : Int), .int .i64 l], .agg #[.string sec, .string rnd, .string pub], .agg #[.int .i64 p0, .int .i64 p1, .int .i64 p2, .int .i64 p3]] w fun e w' => ∃ ra rc vs, e = .returned (.agg #[.int .i64 p0, .int .i64 p1, .int .i64 p2, .int .i64 p3, .slice ra (T + 1) rc]) ∧ GrI w.heap.size w' (.slice ra (T + 1) rc) vs (T + 1) T tv ∧ Below w.heap.size w w' := by
  obtain ⟨i0, hi, hz0, hz1, hz2⟩ := info_parts infoSt
  obtain ⟨i1, hi', hz0', hz1', hz2'⟩ := info_parts infoSlT
  have hn16 : n ≤ 16 := by rw [← hn]; exact Nat.le_trans (Nat.pow_le_pow_right (by decide) hT) (by decide)
  have h1n : 1 ≤ n := by rw [← hn]; exact Nat.one_le_two_pow
  have HLV := hide hLv
  have HLF := hide hLf
  have HJN := hide hJn
  have HN := hide hn
  clear hLv hLf hJn hn
  obtain ⟨W0, hW⟩ : ∃ W0, ((((w.alloc (.cells #[.int .i64 k, .int .i64 b, .int .i64 x, .int .i64 (T : Int), .int .i64 l] 23)).alloc (.cells #[.string sec, .string rnd, .string pub] 25)).alloc (.cells #[.int .i64 p0, .int .i64 p1, .int .i64 p2, .int .i64 p3] 27)).alloc (.cells #[.int .i64 0, .int .i64 0, .int .i64 0, .int .i64 0, .slice none 0 0] 246)).alloc (.cells #[.int .i64 p0, .int .i64 p1, .int .i64 p2, .int .i64 p3, .slice none 0 0] 246) = W0 := ⟨_, rfl⟩
  have HX0 := hide (show BxG W0 w.heap.size [.int .i64 k, .int .i64 b, .int .i64 x, .int .i64 (T : Int), .int .i64 l] [.string sec, .string rnd, .string pub] [.int .i64 p0, .int .i64 p1, .int .i64 p2, .int .i64 p3] [.int .i64 0, .int .i64 0, .int .i64 0, .int .i64 0, .slice none 0 0] [.int .i64 p0, .int .i64 p1, .int .i64 p2, .int .i64 p3, .slice none 0 0] by
    subst hW
    refine ⟨?_, ?_, ?_, ?_, ?_⟩
    · exact ((((Blk.new w _ _).alloc _).alloc _).alloc _).alloc _
    · have h := ((((Blk.new (w.alloc (.cells #[.int .i64 k, .int .i64 b, .int .i64 x, .int .i64 (T : Int), .int .i64 l] 23)) [.string sec, .string rnd, .string pub] 25).alloc (.cells #[.int .i64 p0, .int .i64 p1, .int .i64 p2, .int .i64 p3] 27)).alloc (.cells #[.int .i64 0, .int .i64 0, .int .i64 0, .int .i64 0, .slice none 0 0] 246)).alloc (.cells #[.int .i64 p0, .int .i64 p1, .int .i64 p2, .int .i64 p3, .slice none 0 0] 246))
      simp only [World.size_alloc] at h
      exact h
    · have h := (((Blk.new ((w.alloc (.cells #[.int .i64 k, .int .i64 b, .int .i64 x, .int .i64 (T : Int), .int .i64 l] 23)).alloc (.cells #[.string sec, .string rnd, .string pub] 25)) [.int .i64 p0, .int .i64 p1, .int .i64 p2, .int .i64 p3] 27).alloc (.cells #[.int .i64 0, .int .i64 0, .int .i64 0, .int .i64 0, .slice none 0 0] 246)).alloc (.cells #[.int .i64 p0, .int .i64 p1, .int .i64 p2, .int .i64 p3, .slice none 0 0] 246))
      simp only [World.size_alloc] at h
      exact h
    · have h := ((Blk.new (((w.alloc (.cells #[.int .i64 k, .int .i64 b, .int .i64 x, .int .i64 (T : Int), .int .i64 l] 23)).alloc (.cells #[.string sec, .string rnd, .string pub] 25)).alloc (.cells #[.int .i64 p0, .int .i64 p1, .int .i64 p2, .int .i64 p3] 27)) [.int .i64 0, .int .i64 0, .int .i64 0, .int .i64 0, .slice none 0 0] 246).alloc (.cells #[.int .i64 p0, .int .i64 p1, .int .i64 p2, .int .i64 p3, .slice none 0 0] 246))
      simp only [World.size_alloc] at h
      exact h
    · have h := (Blk.new ((((w.alloc (.cells #[.int .i64 k, .int .i64 b, .int .i64 x, .int .i64 (T : Int), .int .i64 l] 23)).alloc (.cells #[.string sec, .string rnd, .string pub] 25)).alloc (.cells #[.int .i64 p0, .int .i64 p1, .int .i64 p2, .int .i64 p3] 27)).alloc (.cells #[.int .i64 0, .int .i64 0, .int .i64 0, .int .i64 0, .slice none 0 0] 246)) [.int .i64 p0, .int .i64 p1, .int .i64 p2, .int .i64 p3, .slice none 0 0] 246)
      simp only [World.size_alloc] at h
      exact h)
  have HB0 := hide (show Below w.heap.size w W0 by
    subst hW
    exact (((((Below.refl _ _).alloc (Nat.le_refl _) _).alloc (by simp) _).alloc (by simp; omega) _).alloc (by simp; omega) _).alloc (by simp; omega) _)
  obtain ⟨B, hB⟩ : ∃ B, w.heap.size + 5 = B := ⟨_, rfl⟩
  have HCS := hide (fun (V : World) (z : Int) (rv : Value) (h : BxG V w.heap.size [.int .i64 k, .int .i64 b, .int .i64 x, .int .i64 (T : Int), .int .i64 l] [.string sec, .string rnd, .string pub] [.int .i64 p0, .int .i64 p1, .int .i64 z, .int .i64 p3] [.int .i64 0, .int .i64 0, .int .i64 0, .int .i64 0, .slice none 0 0] [.int .i64 p0, .int .i64 p1, .int .i64 p2, .int .i64 p3, rv]) => (⟨h.s.cell 0, h.s.cell 1, h.s.cell 2, h.s.cell 3, h.s.cell 4, h.u.cell 0, h.u.cell 1, h.u.cell 2, h.p.cell 0, h.p.cell 1, h.p.cell 2, h.p.cell 3, h.g.cell 0, h.g.cell 1, h.g.cell 2, h.g.cell 3, h.g.cell 4⟩ : V.cell? ⟨w.heap.size, 0, none⟩ = some (.int .i64 k) ∧ V.cell? ⟨w.heap.size, 1, none⟩ = some (.int .i64 b) ∧ V.cell? ⟨w.heap.size, 2, none⟩ = some (.int .i64 x) ∧ V.cell? ⟨w.heap.size, 3, none⟩ = some (.int .i64 (T : Int)) ∧ V.cell? ⟨w.heap.size, 4, none⟩ = some (.int .i64 l) ∧ V.cell? ⟨w.heap.size + 1, 0, none⟩ = some (.string sec) ∧ V.cell? ⟨w.heap.size + 1, 1, none⟩ = some (.string rnd) ∧ V.cell? ⟨w.heap.size + 1, 2, none⟩ = some (.string pub) ∧ V.cell? ⟨w.heap.size + 1 + 1, 0, none⟩ = some (.int .i64 p0) ∧ V.cell? ⟨w.heap.size + 1 + 1, 1, none⟩ = some (.int .i64 p1) ∧ V.cell? ⟨w.heap.size + 1 + 1, 2, none⟩ = some (.int .i64 z) ∧ V.cell? ⟨w.heap.size + 1 + 1, 3, none⟩ = some (.int .i64 p3) ∧ V.cell? ⟨w.heap.size + 1 + 1 + 1 + 1, 0, none⟩ = some (.int .i64 p0) ∧ V.cell? ⟨w.heap.size + 1 + 1 + 1 + 1, 1, none⟩ = some (.int .i64 p1) ∧ V.cell? ⟨w.heap.size + 1 + 1 + 1 + 1, 2, none⟩ = some (.int .i64 p2) ∧ V.cell? ⟨w.heap.size + 1 + 1 + 1 + 1, 3, none⟩ = some (.int .i64 p3) ∧ V.cell? ⟨w.heap.size + 1 + 1 + 1 + 1, 4, none⟩ = some rv))
  have HBE := hide hB
  clear hB
  have HWE := hide hW
  clear hW
  go_enter Tryz.func193, Tryz.ntmps193
  go_wp2_with fail
  rw [HWE.out]
  clear HWE
  go_loopw [8, 9, 10] (fun r i x' wr => ∃ j : Nat, j ≤ n ∧ i = .int .i64 (j : Int) ∧ Hid (wr.ownsRow B 9 1 r j ((List.range j).map fun i => .string (tv 0 i))) ∧ Hid (∃ z, BxG wr w.heap.size [.int .i64 k, .int .i64 b, .int .i64 x, .int .i64 (T : Int), .int .i64 l] [.string sec, .string rnd, .string pub] [.int .i64 p0, .int .i64 p1, .int .i64 z, .int .i64 p3] [.int .i64 0, .int .i64 0, .int .i64 0, .int .i64 0, .slice none 0 0] [.int .i64 p0, .int .i64 p1, .int .i64 p2, .int .i64 p3, .slice none 0 0]) ∧ Hid (Below w.heap.size w wr)) (fun _ i _ _ => n - (intOf i).toNat)
  case atStart => exact ⟨0, Nat.zero_le _, rfl, World.ownsRow_nil _ _ _ _, ⟨p2, HX0.out⟩, HB0.out⟩
  case round =>
    clear HX0 HB0
    obtain ⟨j, hj, rfl, ho, hx, hb⟩ := hrel
    obtain ⟨z, hx⟩ := hx.out
    obtain ⟨c0, c1, c2, c3, c4, -⟩ := HCS.out _ _ _ hx
    have HX := hide hx
    have hsz := hx.size
    clear hx
    go_wp2_with fail
    refine (HLV.out _).mono ?_
    rintro e w1 ⟨rfl, hb1⟩
    have HX1 := hide (HX.out.below hb1 hsz)
    have HB1 := hide (heldB hb.out hb1 (Nat.le_refl _))
    have HO1 := hide (owns_kept ho.out (Kept.of_below (F := fun _ => False) hb1) (fun _ _ e => e))
    clear hb1 hb ho HX hsz c0 c1 c2 c3 c4
    by_cases hlt : j < n
    · have hji : (j : Int) < (n : Int) := by omega
      obtain ⟨c0, c1, c2, c3, c4, s0, s1, s2, d0, d1, d2, d3, -⟩ := HCS.out _ _ _ HX1.out
      have f2 := HX1.out.p.free 2
      obtain ⟨V1, HV1⟩ : ∃ V1, Hid (w1.setCell ⟨w.heap.size + 1 + 1, 2, none⟩ (.int .i64 (j : Int)) = V1) := ⟨_, rfl⟩
      have HY1 := hide (show BxG V1 w.heap.size [.int .i64 k, .int .i64 b, .int .i64 x, .int .i64 (T : Int), .int .i64 l] [.string sec, .string rnd, .string pub] [.int .i64 p0, .int .i64 p1, .int .i64 (j : Int), .int .i64 p3] [.int .i64 0, .int .i64 0, .int .i64 0, .int .i64 0, .slice none 0 0] [.int .i64 p0, .int .i64 p1, .int .i64 p2, .int .i64 p3, .slice none 0 0] by
        rw [← HV1.out]
        exact HX1.out.setP 2 _)
      have HZ1 := hide (show Below w.heap.size w V1 by rw [← HV1.out]; exact HB1.out.setCell (by simp <;> omega) _)
      have HP1 := hide (show V1.ownsRow B 9 1 _ j ((List.range j).map fun i => .string (tv 0 i)) by
        rw [← HV1.out]
        refine owns_kept HO1.out (kept_set w1 ⟨w.heap.size + 1 + 1, 2, none⟩ _) (fun q hq e => ?_)
        have h1 := (row_blkZ HO1.out hq).1
        have h2 := HBE.out
        simp only at e
        omega)
      clear HX1 HB1 HO1
      go_wp2_with fail
      rw [HV1.out]
      clear f2
      refine (HLF.out j V1 hlt).mono ?_
      rintro e w2 ⟨rfl, hb2⟩
      have HX2 := hide (HY1.out.below hb2 HY1.out.size)
      have HB2 := hide (heldB HZ1.out hb2 (Nat.le_refl _))
      have HO2 := hide (owns_kept HP1.out (Kept.of_below (F := fun _ => False) hb2) (fun _ _ e => e))
      clear hb2 HY1 HZ1 HP1 HV1 c0 c1 c2 c3 c4 s0 s1 s2 d0 d1 d2 d3
      have HSU := hide (show (List.range (j + 1)).map (fun i => Value.string (tv 0 i)) = (List.range j).map (fun i => Value.string (tv 0 i)) ++ [.string (tv 0 j)] by simp [List.range_succ])
      have hBs : B ≤ w2.heap.size := by have h1 := HX2.out.size; have h2 := HBE.out; omega
      generalize tv 0 j = lv at HSU ⊢
      go_wp2_with (at_builtin; refine wpList_append_own _ rfl _ _ 50 rfl B 9 i0 (.string ⟨#[]⟩) 1 16 Tryz.underlying50 hi hz0 hz1 hz2 rfl (by decide) _ _ _ rfl (HO2.out.alloc _) ⟨w2.heap.size, 0, none⟩ 1 1 [_] rfl rfl (one_new _ _ _) ?c2 ?c3 ?c4 ?c5 ?_)
      case c2 => intro y hy; simp at hy; subst hy; rfl
      case c3 => unfold maxLen; omega
      case c4 => omega
      case c5 => simp; omega
      intro v' w6 ho6 hgrow _
      have HLOW := hide (fun q hq => (row_blkZ HO2.out hq (q := q)).1)
      have HB26 := hide (((Below.refl B w2).alloc hBs _).grown hgrow (by simp; omega) (fun p hp => HLOW.out p hp))
      have HX6 := hide (HX2.out.below HB26.out (by have := HBE.out; omega))
      have HB6 := hide (HB2.out.trans (HB26.out.mono (by have := HBE.out; omega)))
      have HO6 : Hid (w6.ownsRow B 9 1 v' (j + 1) ((List.range (j + 1)).map fun i => .string (tv 0 i))) := by
        show w6.ownsRow B 9 1 v' (j + 1) ((List.range (j + 1)).map fun i => .string (tv 0 i))
        rw [HSU.out]
        exact ho6
      clear ho6 hgrow HLOW HB26 HX2 HB2 HO2 HSU hBs
      go_wp2
      go_roundw
      case rel =>
        have R : ∃ j' : Nat, j' ≤ n ∧ Value.int .i64 ((j : Int) + 1) = .int .i64 (j' : Int) ∧ Hid (w6.ownsRow B 9 1 v' j' ((List.range j').map fun i => .string (tv 0 i))) ∧ Hid (∃ z, BxG w6 w.heap.size [.int .i64 k, .int .i64 b, .int .i64 x, .int .i64 (T : Int), .int .i64 l] [.string sec, .string rnd, .string pub] [.int .i64 p0, .int .i64 p1, .int .i64 z, .int .i64 p3] [.int .i64 0, .int .i64 0, .int .i64 0, .int .i64 0, .slice none 0 0] [.int .i64 p0, .int .i64 p1, .int .i64 p2, .int .i64 p3, .slice none 0 0]) ∧ Hid (Below w.heap.size w w6) := ⟨j + 1, by omega, by go_num, HO6.out, ⟨_, HX6.out⟩, HB6.out⟩
        first | exact R | ((repeat apply Exists.intro); exact ⟨R, rfl⟩)
      case measure => simp [intOf]; omega
    · obtain rfl : j = n := by omega
      have HR1 := hide (show w1.ownsRow B 9 1 _ (2 ^ (T - 0)) (rowZ tv T 0) by
        rw [Nat.sub_zero, HN.out]
        have h := HO1.out
        rw [rowZ, Nat.sub_zero, HN.out]
        exact h)
      obtain ⟨g0, c0', hv0, -, -⟩ := HO1.out.form (by omega)
      rw [hv0] at HR1 ⊢
      clear hv0 HO1
      obtain ⟨-, -, -, -, -, -, -, -, -, -, -, -, -, -, -, -, m4⟩ := HCS.out _ _ _ HX1.out
      have f4 := HX1.out.g.free 4
      have hBs : B ≤ w1.heap.size := by have h1 := HX1.out.size; have h2 := HBE.out; omega
      have HG0 := hide (show GrI B w1 (.slice none 0 0) [] 0 T tv from ⟨World.ownsRow_nil _ _ _ _, fun h hh => by omega⟩)
      go_wp2_with (at_builtin; refine wpList_append_own _ rfl _ _ 66 rfl B 50 i1 (.slice none 0 0) 1 24 Tryz.underlying66 hi' hz0' hz1' hz2' rfl (by decide) _ _ _ rfl (HG0.out.row.alloc _) ⟨w1.heap.size, 0, none⟩ 1 1 [_] rfl rfl (one_new _ _ _) ?c2 ?c3 ?c4 ?c5 ?_)
      case c2 => intro y hy; simp at hy; subst hy; rfl
      case c3 => unfold maxLen; omega
      case c4 => omega
      case c5 => simp; omega
      intro v' w6 ho6 hgrow _
      have HB26 := hide (((Below.refl B w1).alloc hBs _).grown hgrow (by simp; omega) (fun p hp => by simp [Value.ownBlock] at hp))
      have HX6 := hide (HX1.out.below HB26.out (by have := HBE.out; omega))
      have HB6 := hide (HB1.out.trans (HB26.out.mono (by have := HBE.out; omega)))
      have HG6 := hide (HG0.out.more HR1.out hgrow ho6)
      clear ho6 hgrow HB26 HX1 HB1 HG0 HR1 m4 hBs f4
      obtain ⟨-, -, -, -, -, -, -, -, -, -, -, -, -, -, -, -, m4⟩ := HCS.out _ _ _ HX6.out
      have f4 := HX6.out.g.free 4
      obtain ⟨V6, HV6⟩ : ∃ V6, Hid (w6.setCell ⟨w.heap.size + 1 + 1 + 1 + 1, 4, none⟩ v' = V6) := ⟨_, rfl⟩
      have HY6 := hide (show BxG V6 w.heap.size [.int .i64 k, .int .i64 b, .int .i64 x, .int .i64 (T : Int), .int .i64 l] [.string sec, .string rnd, .string pub] [.int .i64 p0, .int .i64 p1, .int .i64 z, .int .i64 p3] [.int .i64 0, .int .i64 0, .int .i64 0, .int .i64 0, .slice none 0 0] [.int .i64 p0, .int .i64 p1, .int .i64 p2, .int .i64 p3, v'] by
        rw [← HV6.out]
        exact HX6.out.setG 4 _)
      have HZ6 := hide (show Below w.heap.size w V6 by rw [← HV6.out]; exact HB6.out.setCell (by simp <;> omega) _)
      have HG7 := hide (show GrI B V6 v' [.slice (some ⟨g0, 0, none⟩) j c0'] 1 T tv by
        rw [← HV6.out]
        have h2 := HBE.out
        refine HG6.out.kept (kept_set w6 ⟨w.heap.size + 1 + 1 + 1 + 1, 4, none⟩ _) (fun q hq e => ?_) (fun v hv q hq e => ?_)
        · have h1 := (HG6.out.lt.1 q hq).1
          simp only at e
          omega
        · have h1 := (HG6.out.lt.2 v hv q hq).1
          simp only at e
          omega)
      clear HG6 HX6 HB6
      obtain ⟨ga, gc, hgv, -, -⟩ := HG7.out.row.form (by omega)
      subst hgv
      go_wp2_with fail
      rw [HV6.out]
      clear HV6 m4 f4
      go_loopw [8, 11, 12, 13, 14] (fun r h u' j' x' wr => ∃ (m : Nat) (rv : Value) (vs : List Value), m ≤ T ∧ h = .int .i64 ((m : Int) + 1) ∧ Hid (vs[m]? = some r) ∧ Hid (GrI B wr rv vs (m + 1) T tv) ∧ Hid (∃ z, BxG wr w.heap.size [.int .i64 k, .int .i64 b, .int .i64 x, .int .i64 (T : Int), .int .i64 l] [.string sec, .string rnd, .string pub] [.int .i64 p0, .int .i64 p1, .int .i64 z, .int .i64 p3] [.int .i64 0, .int .i64 0, .int .i64 0, .int .i64 0, .slice none 0 0] [.int .i64 p0, .int .i64 p1, .int .i64 p2, .int .i64 p3, rv]) ∧ Hid (Below w.heap.size w wr)) (fun _ h _ _ _ _ => T + 1 - (intOf h).toNat)
      case atStart => exact ⟨0, _, [.slice (some ⟨g0, 0, none⟩) j c0'], Nat.zero_le _, by simp, (show [Value.slice (some ⟨g0, 0, none⟩) j c0'][0]? = some (.slice (some ⟨g0, 0, none⟩) j c0') from rfl), HG7.out, ⟨_, HY6.out⟩, HZ6.out⟩
      case round =>
        clear HG7 HY6 HZ6
        obtain ⟨m, rv, vs, hm, rfl, hvs, hg, hx, hb⟩ := hrel
        obtain ⟨z, hx⟩ := hx.out
        have HX := hide hx
        clear hx
        obtain ⟨c0, c1, c2, c3, c4, s0, s1, s2, d0, d1, d2, d3, m0, m1, m2, m3, m4⟩ := HCS.out _ _ _ HX.out
        by_cases hmt : m < T
        · have hmi : (m : Int) + 1 ≤ (T : Int) := by omega
          obtain ⟨r0, hr0, hrow⟩ := hg.out.each m (by omega)
          rw [hvs.out] at hr0
          cases hr0
          have hpw : 2 ^ (T - m) = 2 * 2 ^ (T - (m + 1)) := by rw [← Nat.pow_succ']; congr 1; omega
          obtain ⟨M, hM⟩ : ∃ M, 2 ^ (T - (m + 1)) = M := ⟨_, rfl⟩
          have hM1 : 1 ≤ M := by rw [← hM]; exact Nat.one_le_two_pow
          have hM8 : M ≤ 8 := by rw [← hM]; exact Nat.le_trans (Nat.pow_le_pow_right (by decide) (show T - (m + 1) ≤ 3 by omega)) (by decide)
          have HMM := hide hM
          rw [hM] at hpw
          obtain ⟨gr, gcp, hrv, -, hgr⟩ := hrow.form (by omega)
          have HCL := hide (show ∀ q, q < 2 * M → wr.cell? ⟨gr, q, none⟩ = some (.string (tv m q)) by
            intro q hq
            rw [hrv] at hrow
            rw [hrow.cellAt q (by omega)]
            simp [rowZ, List.getElem?_range (show q < 2 ^ (T - m) by omega)])
          rw [hpw] at hrv
          subst hrv
          have HGR := hide hgr
          obtain ⟨wo, hwo⟩ : ∃ wo : World, wo = wr := ⟨_, rfl⟩
          rw [← hwo] at hg HX hb c3 HCL HGR ⊢
          clear hrow hgr hM hwo c0 c1 c2 c4 s0 s1 s2 d0 d1 d2 d3 m0 m1 m2 m3 m4
          have hBo : B ≤ wo.heap.size := by have h1 := HX.out.size; have h2 := HBE.out; omega
          go_wp2_with fail
          clear c3
          go_loopw [12, 13, 14] (fun u i x' wr => ∃ j : Nat, j ≤ M ∧ i = .int .i64 (j : Int) ∧ Hid (wr.ownsRow wo.heap.size 9 1 u j ((List.range j).map fun i => .string (tv (m + 1) i))) ∧ Hid (Below wo.heap.size wo wr)) (fun _ i _ _ => M - (intOf i).toNat)
          case atStart => exact ⟨0, Nat.zero_le _, rfl, World.ownsRow_nil _ _ _ _, Below.refl _ _⟩
          case round =>
            obtain ⟨j, hj, rfl, hu, hb2⟩ := hrel
            have q1 : IntKind.i64.wrap (2 * (j : Int)) = ((2 * j : Nat) : Int) := by rw [show 2 * (j : Int) = ((2 * j : Nat) : Int) by omega, IntKind.wrap_i64] <;> omega
            by_cases hjM : j < M
            · obtain ⟨R2, hR2⟩ : ∃ R2, 2 * j = R2 := ⟨_, rfl⟩
              have q3 : 2 * (j : Int) + 1 < 2 * (M : Int) := by omega
              have q3' : 2 * (j : Int) < 2 * (M : Int) := by omega
              have HJC := hide (fun V => HJN.out m j V hmt (by rw [HMM.out]; exact hjM))
              have HS := hide (fun (V : World) (hV : Below wr.heap.size wr V) => (by
                have hk := heldB hb2.out hV (Nat.le_refl _)
                obtain ⟨c0, c1, c2, c3, c4, s0, s1, s2, d0, d1, d2, d3, m0, m1, m2, m3, m4⟩ := HCS.out V z rv (HX.out.below hk HX.out.size)
                exact ⟨c0, c1, c2, c3, c4, s2, m0, m1, m2, m3, (hk.cell (p := ⟨gr, 2 * j, none⟩) HGR.out).trans (HCL.out (2 * j) (by omega)), (hk.cell (p := ⟨gr, 2 * j + 1, none⟩) HGR.out).trans (HCL.out (2 * j + 1) (by omega))⟩ : V.cell? ⟨w.heap.size, 0, none⟩ = some (.int .i64 k) ∧ V.cell? ⟨w.heap.size, 1, none⟩ = some (.int .i64 b) ∧ V.cell? ⟨w.heap.size, 2, none⟩ = some (.int .i64 x) ∧ V.cell? ⟨w.heap.size, 3, none⟩ = some (.int .i64 (T : Int)) ∧ V.cell? ⟨w.heap.size, 4, none⟩ = some (.int .i64 l) ∧ V.cell? ⟨w.heap.size + 1, 2, none⟩ = some (.string pub) ∧ V.cell? ⟨w.heap.size + 1 + 1 + 1 + 1, 0, none⟩ = some (.int .i64 p0) ∧ V.cell? ⟨w.heap.size + 1 + 1 + 1 + 1, 1, none⟩ = some (.int .i64 p1) ∧ V.cell? ⟨w.heap.size + 1 + 1 + 1 + 1, 2, none⟩ = some (.int .i64 p2) ∧ V.cell? ⟨w.heap.size + 1 + 1 + 1 + 1, 3, none⟩ = some (.int .i64 p3) ∧ V.cell? ⟨gr, 2 * j, none⟩ = some (.string (tv m (2 * j))) ∧ V.cell? ⟨gr, 2 * j + 1, none⟩ = some (.string (tv m (2 * j + 1)))))
              have HSU := hide (show (List.range (j + 1)).map (fun i => Value.string (tv (m + 1) i)) = (List.range j).map (fun i => Value.string (tv (m + 1) i)) ++ [.string (tv (m + 1) j)] by simp [List.range_succ])
              have q2 : IntKind.i64.wrap (((2 * j : Nat) : Int) + 1) = ((2 * j + 1 : Nat) : Int) := by rw [show ((2 * j : Nat) : Int) + 1 = ((2 * j + 1 : Nat) : Int) by omega, IntKind.wrap_i64] <;> omega
              have q4 : ((m + 1 : Nat) : Int) = (m : Int) + 1 := by omega
              have HQ4 := hide q4
              rw [q4] at HJC
              clear q4
              obtain ⟨R3, hR3⟩ : ∃ R3, 2 * j + 1 = R3 := ⟨_, rfl⟩
              have q5 : (R3 : Int) < 2 * (M : Int) := by omega
              have q6 : (R2 : Int) < 2 * (M : Int) := by omega
              rw [hR3] at q2 HJC HS
              rw [hR2] at q1 q2 HJC HS
              generalize tv m R2 = y0 at HJC HS
              generalize tv m R3 = y1 at HJC HS
              generalize tv (m + 1) j = y2 at HJC HSU
              have HR23 := hide (And.intro hR2 hR3)
              clear hR2 hR3
              go_wp2_with fail
              go_region_held3 (fun V => V.cell? ⟨w.heap.size, 0, none⟩ = some (.int .i64 k) ∧ V.cell? ⟨w.heap.size, 1, none⟩ = some (.int .i64 b) ∧ V.cell? ⟨w.heap.size, 2, none⟩ = some (.int .i64 x) ∧ V.cell? ⟨w.heap.size, 3, none⟩ = some (.int .i64 (T : Int)) ∧ V.cell? ⟨w.heap.size, 4, none⟩ = some (.int .i64 l) ∧ V.cell? ⟨w.heap.size + 1, 2, none⟩ = some (.string pub) ∧ V.cell? ⟨w.heap.size + 1 + 1 + 1 + 1, 0, none⟩ = some (.int .i64 p0) ∧ V.cell? ⟨w.heap.size + 1 + 1 + 1 + 1, 1, none⟩ = some (.int .i64 p1) ∧ V.cell? ⟨w.heap.size + 1 + 1 + 1 + 1, 2, none⟩ = some (.int .i64 p2) ∧ V.cell? ⟨w.heap.size + 1 + 1 + 1 + 1, 3, none⟩ = some (.int .i64 p3) ∧ V.cell? ⟨gr, R2, none⟩ = some (.string y0) ∧ V.cell? ⟨gr, R3, none⟩ = some (.string y1)) (first | exact HS.out _ hS1 | exact HS.out _ (Below.refl wr.heap.size wr).drew) ((go_at_call 97; refine (HJC.out _).mono ?_; rintro e w4 ⟨rfl, hb4⟩; have hS1 := heldB (Below.refl wr.heap.size wr).drew hb4 (Nat.le_refl _)))
              have HB4 := hide (heldB hb2.out hS1 (Nat.le_refl _))
              have HU4 := hide (owns_kept hu.out (Kept.of_below (F := fun _ => False) hS1) (fun _ _ e => e))
              clear hS1 hb4 HS hu hb2
              have hos : wo.heap.size ≤ w4.heap.size := HB4.out.size
              have HOS := hide hos
              clear hos
              go_wp2_with (at_builtin; refine wpList_append_own _ rfl _ _ 50 rfl wo.heap.size 9 i0 (.string ⟨#[]⟩) 1 16 Tryz.underlying50 hi hz0 hz1 hz2 rfl (by decide) _ _ _ rfl (HU4.out.alloc _) ⟨w4.heap.size, 0, none⟩ 1 1 [_] rfl rfl (one_new _ _ _) ?d2 ?d3 ?d4 ?d5 ?_)
              case d2 => intro y hy; simp at hy; subst hy; rfl
              case d3 => unfold maxLen; omega
              case d4 => omega
              case d5 => have := HOS.out; simp; omega
              intro v' w6 ho6 hgrow _
              have HLOW := hide (fun q hq => (row_blkZ HU4.out hq (q := q)).1)
              have HB46 := hide (((Below.refl wo.heap.size w4).alloc HOS.out _).grown hgrow (by have := HOS.out; simp; omega) (fun p hp => HLOW.out p hp))
              have HB6 := hide (HB4.out.trans HB46.out)
              have HO6 : Hid (w6.ownsRow wo.heap.size 9 1 v' (j + 1) ((List.range (j + 1)).map fun i => .string (tv (m + 1) i))) := by
                show w6.ownsRow wo.heap.size 9 1 v' (j + 1) ((List.range (j + 1)).map fun i => .string (tv (m + 1) i))
                rw [HSU.out]
                exact ho6
              clear ho6 hgrow HLOW HB46 HB4 HU4 HSU HOS
              go_wp2
              go_roundw
              case rel =>
                have R : ∃ j' : Nat, j' ≤ M ∧ Value.int .i64 ((j : Int) + 1) = .int .i64 (j' : Int) ∧ Hid (w6.ownsRow wo.heap.size 9 1 v' j' ((List.range j').map fun i => .string (tv (m + 1) i))) ∧ Hid (Below wo.heap.size wo w6) := ⟨j + 1, by omega, by go_num, HO6.out, HB6.out⟩
                first | exact R | ((repeat apply Exists.intro); exact ⟨R, rfl⟩)
              case measure => simp [intOf]; omega
            · obtain rfl : j = M := by omega
              have q3 : ¬ 2 * (j : Int) + 1 < 2 * (j : Int) := by omega
              have HG1 := hide (hg.out.on hb2.out)
              have HX1 := hide (HX.out.below hb2.out HX.out.size)
              have HB1 := hide (heldB hb.out hb2.out (Nat.le_refl _))
              have HR1 := hide (show wr.ownsRow B 9 1 _ (2 ^ (T - (m + 1))) (rowZ tv T (m + 1)) by
                rw [rowZ, HMM.out]
                exact owns_lower' hu.out hBo)
              obtain ⟨g0, c0', hv0, -, -⟩ := hu.out.form (by omega)
              rw [hv0] at HR1 ⊢
              clear hv0 hu hg HX hb
              obtain ⟨-, -, -, -, -, -, -, -, -, -, -, -, -, -, -, -, m4⟩ := HCS.out _ _ _ HX1.out
              have f4 := HX1.out.g.free 4
              have hBs : B ≤ wr.heap.size := by have h1 := HX1.out.size; have h2 := HBE.out; omega
              have q2 : IntKind.i64.wrap (((2 * j : Nat) : Int) + 1) = 2 * (j : Int) + 1 := by rw [show ((2 * j : Nat) : Int) + 1 = 2 * (j : Int) + 1 by omega, IntKind.wrap_i64] <;> omega
              obtain ⟨ra, rc, hrv, -, -⟩ := HG1.out.row.form (by omega)
              subst hrv
              go_wp2_with (at_builtin; refine wpList_append_own _ rfl _ _ 66 rfl B 50 i1 (.slice none 0 0) 1 24 Tryz.underlying66 hi' hz0' hz1' hz2' rfl (by decide) _ _ _ rfl (HG1.out.row.alloc _) ⟨wr.heap.size, 0, none⟩ 1 1 [_] rfl rfl (one_new _ _ _) ?e2 ?e3 ?e4 ?e5 ?_)
              case e2 => first | rfl | (intro y hy; simp at hy; subst hy; rfl)
              case e3 => unfold maxLen; omega
              case e4 => omega
              case e5 => first | omega | (simp; omega)
              intro v' w6 ho6 hgrow _
              have HLOW := hide (fun q hq => (HG1.out.lt.1 q hq).1)
              have HB26 := hide (((Below.refl B wr).alloc hBs _).grown hgrow (by simp; omega) (fun p hp => HLOW.out p hp))
              have HX6 := hide (HX1.out.below HB26.out (by have := HBE.out; omega))
              have HB6 := hide (HB1.out.trans (HB26.out.mono (by have := HBE.out; omega)))
              have HG6 := hide (HG1.out.more HR1.out hgrow ho6)
              have HVL := hide HG1.out.row.1
              have HVM : Hid ((vs ++ [Value.slice (some ⟨g0, 0, none⟩) j c0'])[m + 1]? = some (.slice (some ⟨g0, 0, none⟩) j c0')) := by
                have := HVL.out
                show (vs ++ [Value.slice (some ⟨g0, 0, none⟩) j c0'])[m + 1]? = some (.slice (some ⟨g0, 0, none⟩) j c0')
                rw [List.getElem?_append_right (by omega), show m + 1 - vs.length = 0 by omega]
                rfl
              clear ho6 hgrow HB26 HX1 HB1 HG1 HR1 m4 hBs f4 HLOW q1 q2
              obtain ⟨-, -, -, -, -, -, -, -, -, -, -, -, -, -, -, -, m4⟩ := HCS.out _ _ _ HX6.out
              have f4 := HX6.out.g.free 4
              obtain ⟨V6, HV6⟩ : ∃ V6, Hid (w6.setCell ⟨w.heap.size + 1 + 1 + 1 + 1, 4, none⟩ v' = V6) := ⟨_, rfl⟩
              have HY6 := hide (show BxG V6 w.heap.size [.int .i64 k, .int .i64 b, .int .i64 x, .int .i64 (T : Int), .int .i64 l] [.string sec, .string rnd, .string pub] [.int .i64 p0, .int .i64 p1, .int .i64 z, .int .i64 p3] [.int .i64 0, .int .i64 0, .int .i64 0, .int .i64 0, .slice none 0 0] [.int .i64 p0, .int .i64 p1, .int .i64 p2, .int .i64 p3, v'] by
                rw [← HV6.out]
                exact HX6.out.setG 4 _)
              have HZ6 := hide (show Below w.heap.size w V6 by rw [← HV6.out]; exact HB6.out.setCell (by simp <;> omega) _)
              have HG7 := hide (show GrI B V6 v' (vs ++ [.slice (some ⟨g0, 0, none⟩) j c0']) (m + 1 + 1) T tv by
                rw [← HV6.out]
                have h2 := HBE.out
                refine HG6.out.kept (kept_set w6 ⟨w.heap.size + 1 + 1 + 1 + 1, 4, none⟩ _) (fun q hq e => ?_) (fun v hv q hq e => ?_)
                · have h1 := (HG6.out.lt.1 q hq).1
                  simp only at e
                  omega
                · have h1 := (HG6.out.lt.2 v hv q hq).1
                  simp only at e
                  omega)
              clear HG6 HX6 HB6
              obtain ⟨ga, gc, hgv, -, -⟩ := HG7.out.row.form (by omega)
              subst hgv
              go_wp2_with fail
              rw [HV6.out]
              clear HV6 m4 f4
              go_roundw
              case rel =>
                have R : ∃ (m' : Nat) (rv' : Value) (vs' : List Value), m' ≤ T ∧ Value.int .i64 ((m : Int) + 1 + 1) = .int .i64 ((m' : Int) + 1) ∧ Hid (vs'[m']? = some (.slice (some ⟨g0, 0, none⟩) j c0')) ∧ Hid (GrI B V6 rv' vs' (m' + 1) T tv) ∧ Hid (∃ z, BxG V6 w.heap.size [.int .i64 k, .int .i64 b, .int .i64 x, .int .i64 (T : Int), .int .i64 l] [.string sec, .string rnd, .string pub] [.int .i64 p0, .int .i64 p1, .int .i64 z, .int .i64 p3] [.int .i64 0, .int .i64 0, .int .i64 0, .int .i64 0, .slice none 0 0] [.int .i64 p0, .int .i64 p1, .int .i64 p2, .int .i64 p3, rv']) ∧ Hid (Below w.heap.size w V6) := ⟨m + 1, _, _, by omega, by go_num, HVM, HG7.out, ⟨_, HY6.out⟩, HZ6.out⟩
                first | exact R | ((repeat apply Exists.intro); exact ⟨R, rfl⟩)
              case measure => simp [intOf]; omega
        · obtain rfl : m = T := by omega
          have hmi : ¬ (m : Int) + 1 ≤ (m : Int) := by omega
          obtain ⟨ra, rc, hrv, -, -⟩ := hg.out.row.form (by omega)
          subst hrv
          have r0 := HX.out.r.cell 0
          have r1 := HX.out.r.cell 1
          have r2 := HX.out.r.cell 2
          have r3 := HX.out.r.cell 3
          have r4 := HX.out.r.cell 4
          have f0 := HX.out.r.free 0
          have f1 := HX.out.r.free 1
          have f2 := HX.out.r.free 2
          have f3 := HX.out.r.free 3
          have f4 := HX.out.r.free 4
          simp only [List.getElem?_cons_zero, List.getElem?_cons_succ] at r0 r1 r2 r3 r4
          clear c0 c1 c2 c4 s0 s1 s2 d0 d1 d2 d3
          go_wp2_with fail
          refine bodyPost_ret (v := .agg #[.int .i64 p0, .int .i64 p1, .int .i64 p2, .int .i64 p3, .slice (some ⟨ra, 0, none⟩) (m + 1) rc]) (by simp [results, Tryz.results193, go_sem, r0, r1, r2, r3, r4]) rfl ⟨_, _, rfl, ⟨vs, ?_⟩, ?_⟩
          · have h2 := HBE.out
            have h3 := hg.out
            refine GrI.low' (lo := B) ?_ (by omega)
            iterate 5 refine GrI.kept ?_ (kept_set _ _ _) (fun q hq e => by have h1 := (hg.out.lt.1 q hq).1; simp only at e; omega) (fun v hv q hq e => by have h1 := (hg.out.lt.2 v hv q hq).1; simp only at e; omega)
            exact h3
          · iterate 5 refine Below.setCell ?_ (by simp <;> omega) _
            exact hb.out
end Go.Proofs.YtgaoeoijdpdjiaaGreatDoor
