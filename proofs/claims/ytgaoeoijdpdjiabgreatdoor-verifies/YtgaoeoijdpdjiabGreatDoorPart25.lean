/-
  Chains: start, chain; and join. The document's own digits: the list of P6, in new memory.
-/
import Derived.Test.YtgaoeoijdpdjiabGreatDoorPart24
import Derived.Test.YtgaoeoijdpdjiabGreatDoorPart21
import Derived.Test.YtgaoeoijdpdjiabGreatDoorPart1
import Derived.Test.YtgaoeoijdpdjiabGreatDoorPart5
import Derived.Deep.RegionHeld3
namespace Go.Proofs.YtgaoeoijdpdjiabGreatDoor
open Go.RowKit

/-- What the document says of chains and nodes, as plain functions. -/
def startS (k b : Int) (sec : ByteArray) (p0 p1 p2 p3 : Int) : ByteArray := hv k b (numB 1 1 ++ (sec ++ (numB 1 p0 ++ (numB 4 p1 ++ (numB 1 p2 ++ numB 1 p3)))))
def stepS (k b : Int) (pub : ByteArray) (p0 p1 p2 p3 i : Int) (y : ByteArray) : ByteArray := hv k b (numB 1 2 ++ (pub ++ (numB 1 p0 ++ (numB 4 p1 ++ (numB 1 p2 ++ (numB 1 p3 ++ (numB 1 i ++ y)))))))
def chainS (k b : Int) (pub : ByteArray) (p0 p1 p2 p3 f : Int) : Nat → ByteArray → ByteArray
  | 0, y => y
  | n + 1, y => stepS k b pub p0 p1 p2 p3 (f + n) (chainS k b pub p0 p1 p2 p3 f n y)
def joinS (k b : Int) (pub : ByteArray) (p0 p1 h j : Int) (y z : ByteArray) : ByteArray := hv k b (numB 1 4 ++ (pub ++ (numB 1 p0 ++ (numB 4 p1 ++ (numB 1 h ++ (numB 1 j ++ (y ++ z)))))))
def pairS (k b : Int) (pub : ByteArray) (p0 p1 p2 r i : Int) (y z : ByteArray) : ByteArray := hv k b (numB 1 3 ++ (pub ++ (numB 1 p0 ++ (numB 4 p1 ++ (numB 1 p2 ++ (numB 1 r ++ (numB 1 i ++ (y ++ z))))))))

theorem stepS_size (k b : Int) (pub : ByteArray) (p0 p1 p2 p3 i : Int) (y : ByteArray) (hk : k = 1 ∨ k = 2) (h1 : 1 ≤ b) (h2 : b ≤ 16) (hp : pub.size ≤ 16) (hy : y.size ≤ 16) : ((stepS k b pub p0 p1 p2 p3 i y).size : Int) = b :=
  hv_size k b _ hk h1 h2 (by simp only [ByteArray.size_append, numB_size]; omega)
theorem chainS_size (k b : Int) (pub : ByteArray) (p0 p1 p2 p3 f : Int) (n : Nat) (y : ByteArray) (hk : k = 1 ∨ k = 2) (h1 : 1 ≤ b) (h2 : b ≤ 16) (hp : pub.size ≤ 16) (hy : (y.size : Int) = b) : ((chainS k b pub p0 p1 p2 p3 f n y).size : Int) = b := by
  induction n with
  | zero => exact hy
  | succ n ih => exact stepS_size k b pub p0 p1 p2 p3 _ _ hk h1 h2 hp (by omega)
theorem startS_size (k b : Int) (sec : ByteArray) (p0 p1 p2 p3 : Int) (hk : k = 1 ∨ k = 2) (h1 : 1 ≤ b) (h2 : b ≤ 16) (hp : sec.size ≤ 16) : ((startS k b sec p0 p1 p2 p3).size : Int) = b :=
  hv_size k b _ hk h1 h2 (by simp only [ByteArray.size_append, numB_size]; omega)
theorem joinS_size (k b : Int) (pub : ByteArray) (p0 p1 h j : Int) (y z : ByteArray) (hk : k = 1 ∨ k = 2) (h1 : 1 ≤ b) (h2 : b ≤ 16) (hp : pub.size ≤ 16) (hy : y.size ≤ 16) (hz : z.size ≤ 16) : ((joinS k b pub p0 p1 h j y z).size : Int) = b :=
  hv_size k b _ hk h1 h2 (by simp only [ByteArray.size_append, numB_size]; omega)
theorem pairS_size (k b : Int) (pub : ByteArray) (p0 p1 p2 r i : Int) (y z : ByteArray) (hk : k = 1 ∨ k = 2) (h1 : 1 ≤ b) (h2 : b ≤ 16) (hp : pub.size ≤ 16) (hy : y.size ≤ 16) (hz : z.size ≤ 16) : ((pairS k b pub p0 p1 p2 r i y z).size : Int) = b :=
  hv_size k b _ hk h1 h2 (by simp only [ByteArray.size_append, numB_size]; omega)

set_option maxRecDepth 20000 in
set_option maxHeartbeats 4000000 in
theorem sjoin_any (k b x t l : Int) (seed : ByteArray) (p0 p1 p2 p3 h j : Int) (y z : ByteArray) (w : World) (hk : k = 1 ∨ k = 2) (h1 : 1 ≤ b) (h2 : b ≤ 16) (hs : seed.size ≤ 16) (hy : y.size ≤ 16) (hz' : z.size ≤ 16) (hT : Tn w) :
    Calls Tryz.prog 271 #[.agg #[.int .i64 k, .int .i64 b, .int .i64 x, .int .i64 t, .int .i64 l, .string seed, .int .i64 p0, .int .i64 p1, .int .i64 p2, .int .i64 p3], .int .i64 h, .int .i64 j, .string y, .string z] w fun e w' => e = .returned (.string (joinS k b seed p0 p1 h j y z)) ∧ Below w.heap.size w w' := by
  obtain ⟨W0, hW⟩ : ∃ W0, w.alloc (.cells #[.int .i64 k, .int .i64 b, .int .i64 x, .int .i64 t, .int .i64 l, .string seed, .int .i64 p0, .int .i64 p1, .int .i64 p2, .int .i64 p3] 344) = W0 := ⟨_, rfl⟩
  have HF := hide (show TenC w.heap.size W0 k b x t l seed p0 p1 p2 p3 by subst hW; refine ⟨?_, ?_, ?_, ?_, ?_, ?_, ?_, ?_, ?_, ?_⟩ <;> simp [go_sem])
  have HB := hide (show Below w.heap.size w W0 by subst hW; exact (Below.refl _ _).alloc (Nat.le_refl _) _)
  have hz : W0.heap.size = w.heap.size + 1 := by subst hW; simp
  have HT := hide (hT.on HB.out)
  have HS := hide (fun (V : World) (h : Below W0.heap.size W0 V) => (by
    obtain ⟨c0, c1, c2, c3, c4, c5, c6, c7, c8, c9⟩ := HF.out.below h (by omega)
    exact ⟨c0, c1, c2, c3, c4, c5, c6, c7, c8, c9, h⟩ : V.cell? ⟨w.heap.size, 0, none⟩ = some (.int .i64 k) ∧ V.cell? ⟨w.heap.size, 1, none⟩ = some (.int .i64 b) ∧ V.cell? ⟨w.heap.size, 2, none⟩ = some (.int .i64 x) ∧ V.cell? ⟨w.heap.size, 3, none⟩ = some (.int .i64 t) ∧ V.cell? ⟨w.heap.size, 4, none⟩ = some (.int .i64 l) ∧ V.cell? ⟨w.heap.size, 5, none⟩ = some (.string seed) ∧ V.cell? ⟨w.heap.size, 6, none⟩ = some (.int .i64 p0) ∧ V.cell? ⟨w.heap.size, 7, none⟩ = some (.int .i64 p1) ∧ V.cell? ⟨w.heap.size, 8, none⟩ = some (.int .i64 p2) ∧ V.cell? ⟨w.heap.size, 9, none⟩ = some (.int .i64 p3) ∧ Below W0.heap.size W0 V))
  have HO1 := hide (fun V : World => one_any h V)
  have HO2 := hide (fun V : World => one_any j V)
  have HV := hide (fun (V : World) (h' : Below W0.heap.size W0 V) => ofTree_any k b x t l 4 seed p0 p1 p2 p3 V.heap.size 0 4 [numB 1 h, numB 1 j, y, z] (V.alloc (.cells #[.string (numB 1 h), .string (numB 1 j), .string y, .string z] 9)) (by
    intro j y hj
    match j, hj with
    | 0, hj => simp at hj; subst hj; simp [go_sem]
    | 1, hj => simp at hj; subst hj; simp [go_sem]
    | 2, hj => simp at hj; subst hj; simp [go_sem]
    | 3, hj => simp at hj; subst hj; simp [go_sem]) (by simp) (by simp) (by simp) hk h1 h2 (by rw [cat_size]; simp [numB_size]; omega) ((HT.out.on h').alloc _))
  simp only [cat, append_empty, List.length_cons, List.length_nil, Nat.reduceAdd] at HV
  clear hT
  go_enter Tryz.func271, Tryz.ntmps271
  go_wp2_with fail
  try rw [hW]
  go_region_held3 (fun V => V.cell? ⟨w.heap.size, 0, none⟩ = some (.int .i64 k) ∧ V.cell? ⟨w.heap.size, 1, none⟩ = some (.int .i64 b) ∧ V.cell? ⟨w.heap.size, 2, none⟩ = some (.int .i64 x) ∧ V.cell? ⟨w.heap.size, 3, none⟩ = some (.int .i64 t) ∧ V.cell? ⟨w.heap.size, 4, none⟩ = some (.int .i64 l) ∧ V.cell? ⟨w.heap.size, 5, none⟩ = some (.string seed) ∧ V.cell? ⟨w.heap.size, 6, none⟩ = some (.int .i64 p0) ∧ V.cell? ⟨w.heap.size, 7, none⟩ = some (.int .i64 p1) ∧ V.cell? ⟨w.heap.size, 8, none⟩ = some (.int .i64 p2) ∧ V.cell? ⟨w.heap.size, 9, none⟩ = some (.int .i64 p3) ∧ Below W0.heap.size W0 V) (first | exact HS.out _ hS4 | exact HS.out _ (hS2.alloc hS2.size _) | exact HS.out _ hS2 | exact HS.out _ hS1 | exact HS.out _ (Below.refl _ _).drew) (first | (go_at_call 312; refine (HO2.out _).mono ?_; rintro e w2 ⟨rfl, hb2⟩; have hS2 := heldB hS1 hb2 (Nat.le_refl _)) | (go_at_call 312; refine (HO1.out _).mono ?_; rintro e w1 ⟨rfl, hb1⟩; have hS1 := heldB (Below.refl W0.heap.size W0).drew hb1 (Nat.le_refl _)) | (go_at_call 311; refine (HV.out _ hS2).mono ?_; rintro e w4 ⟨rfl, hb4⟩; have hS4 := heldB (hS2.alloc hS2.size _) hb4 (Nat.le_refl _)))
  go_wp2
  go_ret
  exact ⟨rfl, HB.out.trans (hS4.mono (by omega))⟩

set_option maxRecDepth 20000 in
set_option maxHeartbeats 4000000 in
theorem schain_any (k b x t l : Int) (seed : ByteArray) (p0 p1 p2 p3 : Int) (f n : Nat) (y : ByteArray) (w : World) (hk : k = 1 ∨ k = 2) (h1 : 1 ≤ b) (h2 : b ≤ 16) (hs : seed.size ≤ 16) (hy : (y.size : Int) = b) (hf : f + n ≤ 16) (hT : Tn w) :
    Calls Tryz.prog 285 #[.agg #[.int .i64 k, .int .i64 b, .int .i64 x, .int .i64 t, .int .i64 l, .string seed, .int .i64 p0, .int .i64 p1, .int .i64 p2, .int .i64 p3], .int .i64 f, .int .i64 (f + n : Nat), .string y] w fun e w' => e = .returned (.string (chainS k b seed p0 p1 p2 p3 f n y)) ∧ Below w.heap.size w w' := by
  obtain ⟨W0, hW⟩ : ∃ W0, w.alloc (.cells #[.int .i64 k, .int .i64 b, .int .i64 x, .int .i64 t, .int .i64 l, .string seed, .int .i64 p0, .int .i64 p1, .int .i64 p2, .int .i64 p3] 344) = W0 := ⟨_, rfl⟩
  have HF := hide (show TenC w.heap.size W0 k b x t l seed p0 p1 p2 p3 by subst hW; refine ⟨?_, ?_, ?_, ?_, ?_, ?_, ?_, ?_, ?_, ?_⟩ <;> simp [go_sem])
  have HB := hide (show Below w.heap.size w W0 by subst hW; exact (Below.refl _ _).alloc (Nat.le_refl _) _)
  have hz : W0.heap.size = w.heap.size + 1 := by subst hW; simp
  have HT := hide (hT.on HB.out)
  have HS := hide (fun (V : World) (h : Below W0.heap.size W0 V) => (by
    obtain ⟨c0, c1, c2, c3, c4, c5, c6, c7, c8, c9⟩ := HF.out.below h (by omega)
    exact ⟨c0, c1, c2, c3, c4, c5, c6, c7, c8, c9, h⟩ : V.cell? ⟨w.heap.size, 0, none⟩ = some (.int .i64 k) ∧ V.cell? ⟨w.heap.size, 1, none⟩ = some (.int .i64 b) ∧ V.cell? ⟨w.heap.size, 2, none⟩ = some (.int .i64 x) ∧ V.cell? ⟨w.heap.size, 3, none⟩ = some (.int .i64 t) ∧ V.cell? ⟨w.heap.size, 4, none⟩ = some (.int .i64 l) ∧ V.cell? ⟨w.heap.size, 5, none⟩ = some (.string seed) ∧ V.cell? ⟨w.heap.size, 6, none⟩ = some (.int .i64 p0) ∧ V.cell? ⟨w.heap.size, 7, none⟩ = some (.int .i64 p1) ∧ V.cell? ⟨w.heap.size, 8, none⟩ = some (.int .i64 p2) ∧ V.cell? ⟨w.heap.size, 9, none⟩ = some (.int .i64 p3) ∧ Below W0.heap.size W0 V))
  have HO1 := hide (fun V : World => one_any p3 V)
  have HCS := hide (fun m => chainS_size k b seed p0 p1 p2 p3 f m y hk h1 h2 hs hy)
  have HV := hide (fun (i : Int) (u : ByteArray) (hu : u.size ≤ 16) (V : World) (h' : Below W0.heap.size W0 V) => ofLeaf_any k b x t l 2 seed p0 p1 p2 p3 V.heap.size 0 3 [numB 1 p3, numB 1 i, u] (V.alloc (.cells #[.string (numB 1 p3), .string (numB 1 i), .string u] 9)) (by
    intro j y hj
    match j, hj with
    | 0, hj => simp at hj; subst hj; simp [go_sem]
    | 1, hj => simp at hj; subst hj; simp [go_sem]
    | 2, hj => simp at hj; subst hj; simp [go_sem]) (by simp) (by simp) (by simp) hk h1 h2 (by rw [cat_size]; simp [numB_size]; omega) ((HT.out.on h').alloc _))
  simp only [cat, append_empty, List.length_cons, List.length_nil, Nat.reduceAdd] at HV
  clear hT
  go_enter Tryz.func285, Tryz.ntmps285
  go_wp2_with fail
  try rw [hW]
  clear hW
  go_loopw [3, 9] (fun u i wr => ∃ m : Nat, m ≤ n ∧ i = .int .i64 (f + m : Nat) ∧ u = .string (chainS k b seed p0 p1 p2 p3 f m y) ∧ Hid (Below W0.heap.size W0 wr)) (fun _ i _ => f + n - (intOf i).toNat)
  case atStart => exact ⟨0, Nat.zero_le _, rfl, rfl, Below.refl _ _⟩
  case round =>
    obtain ⟨m, hm, rfl, rfl, hb⟩ := hrel
    by_cases hlt : m < n
    · have HU := hide (HCS.out m)
      have HST : Hid (chainS k b seed p0 p1 p2 p3 f (m + 1) y = stepS k b seed p0 p1 p2 p3 (f + m) (chainS k b seed p0 p1 p2 p3 f m y)) := rfl
      generalize chainS k b seed p0 p1 p2 p3 f m y = u at HU HST ⊢
      have hu : u.size ≤ 16 := by have := HU.out; omega
      have HO2 := hide (fun V : World => one_any (f + m : Nat) V)
      have HV1 := hide (HV.out (f + m : Nat) u hu)
      go_wp2_with fail
      go_region_held3 (fun V => V.cell? ⟨w.heap.size, 0, none⟩ = some (.int .i64 k) ∧ V.cell? ⟨w.heap.size, 1, none⟩ = some (.int .i64 b) ∧ V.cell? ⟨w.heap.size, 2, none⟩ = some (.int .i64 x) ∧ V.cell? ⟨w.heap.size, 3, none⟩ = some (.int .i64 t) ∧ V.cell? ⟨w.heap.size, 4, none⟩ = some (.int .i64 l) ∧ V.cell? ⟨w.heap.size, 5, none⟩ = some (.string seed) ∧ V.cell? ⟨w.heap.size, 6, none⟩ = some (.int .i64 p0) ∧ V.cell? ⟨w.heap.size, 7, none⟩ = some (.int .i64 p1) ∧ V.cell? ⟨w.heap.size, 8, none⟩ = some (.int .i64 p2) ∧ V.cell? ⟨w.heap.size, 9, none⟩ = some (.int .i64 p3) ∧ Below W0.heap.size W0 V) (first | exact HS.out _ hS4 | exact HS.out _ (hS2.alloc hS2.size _) | exact HS.out _ hS2 | exact HS.out _ hS1 | exact HS.out _ hb.out.drew) (first | (go_at_call 312; refine (HO2.out _).mono ?_; rintro e w2 ⟨rfl, hb2⟩; have hS2 := heldB hS1 hb2 (Nat.le_refl _)) | (go_at_call 312; refine (HO1.out _).mono ?_; rintro e w1 ⟨rfl, hb1⟩; have hS1 := heldB hb.out.drew hb1 (Nat.le_refl _)) | (go_at_call 317; refine (HV1.out _ hS2).mono ?_; rintro e w4 ⟨rfl, hb4⟩; have hS4 := heldB (hS2.alloc hS2.size _) hb4 (Nat.le_refl _)))
      go_wp2
      go_roundw
      case rel =>
        have R : ∃ q : Nat, q ≤ n ∧ Value.int .i64 ((f : Int) + (m : Int) + 1) = .int .i64 (f + q : Nat) ∧ Value.string (stepS k b seed p0 p1 p2 p3 (f + m) u) = .string (chainS k b seed p0 p1 p2 p3 f q y) ∧ Hid (Below W0.heap.size W0 w4) := ⟨m + 1, by omega, by go_num, by rw [HST.out], hS4⟩
        first | exact R | ((repeat apply Exists.intro); exact ⟨R, rfl⟩)
      case measure => simp [intOf]; omega
    · obtain rfl : m = n := by omega
      go_wp2
      go_ret
      exact ⟨rfl, HB.out.trans (hb.out.mono (by omega))⟩
end Go.Proofs.YtgaoeoijdpdjiabGreatDoor

namespace Go.Proofs.YtgaoeoijdpdjiabGreatDoor
open Go.RowKit

theorem infoInt : (Tryz.prog.info? 3).map (fun i => (i.zero, i.size, i.bytes)) = some (some (.int .i64 0), 1, 8) := by kernel_rfl

/-- The cells of a list of numbers. -/
def cellsN (D : List Nat) : List Value := D.map (fun d => Value.int .i64 ((d : Nat) : Int))

theorem cellsN_length (D : List Nat) : (cellsN D).length = D.length := by simp [cellsN]
theorem cellsN_snoc (D : List Nat) (d : Nat) : cellsN (D ++ [d]) = cellsN D ++ [.int .i64 ((d : Nat) : Int)] := by simp [cellsN]

theorem take_at (D : List Nat) (i : Nat) (h : i < D.length) : D.take (i + 1) = D.take i ++ [at0M D i] := by
  rw [List.take_succ_eq_append_getElem h]; simp [at0M, h]

theorem owns_ltM {w : World} {base : Nat} {e : TypeId} {s : Nat} {v : Value} {n : Nat} {xs : List Value} (h : w.ownsRow base e s v n xs) : ∀ k, v.ownBlock = some k → base ≤ k ∧ k < w.heap.size := by
  intro k hk
  rcases h.2 with ⟨rfl, _⟩ | ⟨g, cap, cur, rfl, hg, hh, _⟩
  · simp [Value.ownBlock] at hk
  · simp only [Value.ownBlock, Option.some.injEq] at hk
    subst hk
    exact ⟨hg, lt_of_block hh⟩

theorem owns_below {w w' : World} {base : Nat} {e : TypeId} {s : Nat} {v : Value} {n : Nat} {xs : List Value} (h : w.ownsRow base e s v n xs) (hb : Below w.heap.size w w') : w'.ownsRow base e s v n xs := by
  obtain ⟨h1, h2⟩ := h
  refine ⟨h1, ?_⟩
  rcases h2 with h2 | ⟨g, cap, cur, hv, hg, hh, r⟩
  · exact Or.inl h2
  · exact Or.inr ⟨g, cap, cur, hv, hg, by rw [hb.block g (lt_of_block hh)]; exact hh, r⟩

theorem one_newM (w : World) (v : Value) (t : TypeId) : ∀ j u, [v][j]? = some u → (w.alloc (.cells #[v] t)).cell? ((Addr.mk w.heap.size 0 none).add j) = some u := by
  intro j u hj
  match j, hj with
  | 0, hj => simp at hj; subst hj; simp [Addr.add]

set_option maxHeartbeats 1000000 in
theorem refDigits_list (b x e f : Nat) (hp : Pair b x e f) (k : Int) (t l : Nat) (m : ByteArray) (w : World) (h1 : 1 ≤ t) (h2 : t ≤ 4) (h3 : 1 ≤ l) (h4 : l ≤ 3) (hm : m.size = b) :
    Calls Tryz.prog 93 #[.agg #[.int .i64 k, .int .i64 b, .int .i64 x, .int .i64 t, .int .i64 l], .string m] w fun r w' =>
      ∃ v, r = .returned v ∧ w'.ownsRow w.heap.size 3 1 v (b * e + f) (cellsN (digitsN x e f (bytesN m))) ∧ Below w.heap.size w w' := by
  have HSZ := hideM (fun w' : World => refSizes_yes b x e f t l hp k w' h1 h2 h3 h4)
  have HDG := hideM (fun (i : Nat) (w' : World) (hi : i < b * e) => refDigit_any b x e f hp k t l i m w' h1 h2 h3 h4 hm hi)
  have hF : (firsts x e (bytesN m)).length = b * e := by rw [firsts_length, bytesN_length, hm]
  have hlt := firsts_lt x e (bytesN m) (show 0 < x by rcases hp with ⟨rfl, rfl, rfl, rfl⟩ | ⟨rfl, rfl, rfl, rfl⟩ | ⟨rfl, rfl, rfl, rfl⟩ | ⟨rfl, rfl, rfl, rfl⟩ <;> decide)
  have hbe : b * e ≤ 32 := by rcases hp with ⟨rfl, rfl, rfl, rfl⟩ | ⟨rfl, rfl, rfl, rfl⟩ | ⟨rfl, rfl, rfl, rfl⟩ | ⟨rfl, rfl, rfl, rfl⟩ <;> decide
  have hf4 : f ≤ 4 := by rcases hp with ⟨rfl, rfl, rfl, rfl⟩ | ⟨rfl, rfl, rfl, rfl⟩ | ⟨rfl, rfl, rfl, rfl⟩ | ⟨rfl, rfl, rfl, rfl⟩ <;> decide
  have hx2 : 2 ≤ x := by rcases hp with ⟨rfl, rfl, rfl, rfl⟩ | ⟨rfl, rfl, rfl, rfl⟩ | ⟨rfl, rfl, rfl, rfl⟩ | ⟨rfl, rfl, rfl, rfl⟩ <;> decide
  have hx16 : x ≤ 16 := by rcases hp with ⟨rfl, rfl, rfl, rfl⟩ | ⟨rfl, rfl, rfl, rfl⟩ | ⟨rfl, rfl, rfl, rfl⟩ | ⟨rfl, rfl, rfl, rfl⟩ <;> decide
  have HXF := hideM (show x ^ f ≤ 65536 by rcases hp with ⟨rfl, rfl, rfl, rfl⟩ | ⟨rfl, rfl, rfl, rfl⟩ | ⟨rfl, rfl, rfl, rfl⟩ | ⟨rfl, rfl, rfl, rfl⟩ <;> decide)
  unfold digitsN
  generalize firsts x e (bytesN m) = D at HDG hF hlt ⊢
  generalize b * e = n at HSZ HDG hF hbe ⊢
  have HF := hideM hF
  have HLT := hideM hlt
  obtain ⟨i0, hi, hz0, hz1, hz2⟩ := info_parts infoInt
  clear hp hm hF hlt
  go_enter Tryz.func93, Tryz.ntmps93
  go_wp2_with fail
  refine (HSZ.out _).mono ?_
  rintro r w1 ⟨rfl, hb⟩
  have Z1 := hideM (show w.heap.size < w1.heap.size by have := hb.size; simp at this; omega)
  have B1 := hideM (((Below.refl _ _).alloc (Nat.le_refl _) _).trans (hb.mono (by simp)) : Below w.heap.size w w1)
  have F1 := hideM (five_below (show Five (w.alloc (.cells #[.int .i64 k, .int .i64 b, .int .i64 x, .int .i64 t, .int .i64 l] 26)) w.heap.size k b x t l by refine ⟨?_, ?_, ?_, ?_, ?_⟩ <;> simp [go_sem]) hb (by simp))
  clear hb HSZ
  go_wp2
  generalize hW : w1.alloc (.cells #[.int .i64 (n : Int), .int .i64 (f : Int), .int .i64 ((n : Int) + (f : Int)), .int .i64 (totalZ t l), .int .i64 (sigZ b x t l), .int .i64 (5 + 2 * (b : Int))] 158) = W
  have HW := hideM hW
  have S0 := hideM (show W.cell? ⟨w1.heap.size, 0, none⟩ = some (.int .i64 n) by subst hW; simp [go_sem])
  have S1 := hideM (show W.cell? ⟨w1.heap.size, 1, none⟩ = some (.int .i64 f) by subst hW; simp [go_sem])
  have F5 := hideM (show Five W w.heap.size k b x t l by subst hW; exact five_below F1.out ((Below.refl _ _).alloc (Nat.le_refl _) _) Z1.out)
  have BW := hideM (show Below w.heap.size w W by subst hW; exact B1.out.alloc (Nat.le_of_lt Z1.out) _)
  have ZW := hideM (show w1.heap.size + 1 = W.heap.size by subst hW; simp)
  clear hW HW B1 F1
  go_loopw [6, 7, 8] (fun v s i wr => ∃ j : Nat, j ≤ n ∧ i = .int .i64 j ∧ s = .int .i64 ((lackN x (D.take j) : Nat) : Int) ∧ Hid (wr.ownsRow W.heap.size 3 1 v j (cellsN (D.take j))) ∧ Hid (Below W.heap.size W wr)) (fun _ _ i _ => n - (intOf i).toNat)
  case atStart => exact ⟨0, by omega, rfl, rfl, World.ownsRow_nil _ _ _ _, Below.refl _ _⟩
  case round =>
    obtain ⟨j, hj, rfl, rfl, ho, hb⟩ := hrel
    have s0 : wr.cell? ⟨w1.heap.size, 0, none⟩ = some (.int .i64 n) := (hb.out.cell (by have := ZW.out; simp; omega)).trans S0.out
    have s1 : wr.cell? ⟨w1.heap.size, 1, none⟩ = some (.int .i64 f) := (hb.out.cell (by have := ZW.out; simp; omega)).trans S1.out
    have F := five_below F5.out hb.out (by have := ZW.out; have := Z1.out; omega)
    by_cases hlt : j < n
    · have hjD : j < D.length := by have := HF.out; omega
      have HTK := hideM (take_at D j hjD)
      have hd := at0_lt D x j (by omega) HLT.out
      have hs : lackN x (D.take j) ≤ 32 * 15 := Nat.le_trans (lackN_le x (D.take j)) (Nat.mul_le_mul (by simp; omega) (by omega))
      have HLS : Hid (lackN x (D.take (j + 1)) = lackN x (D.take j) + (x - 1 - at0M D j)) := by
        show lackN x (D.take (j + 1)) = _
        rw [HTK.out, lackN_snoc]
      have HCS : Hid (cellsN (D.take (j + 1)) = cellsN (D.take j) ++ [.int .i64 ((at0M D j : Nat) : Int)]) := by
        show cellsN (D.take (j + 1)) = _
        rw [HTK.out, cellsN_snoc]
      have HDJ := hideM (fun w' : World => HDG.out j w' hlt)
      generalize at0M D j = d at hd HLS HCS HDJ HTK
      generalize lackN x (D.take j) = s at hs HLS ⊢
      obtain ⟨c0, c1, c2, c3, c4⟩ := F
      go_wp2_with fail
      refine (HDJ.out _).mono ?_
      rintro r w2 ⟨rfl, hb2⟩
      have HO2 := hideM (owns_below ho.out hb2)
      have HB2 := hideM (hb.out.trans (hb2.mono hb.out.size))
      clear hb2 c0 c1 c2 c3 c4 s0 s1
      go_wp2_with (at_builtin; refine wpList_append_own _ rfl _ _ 56 rfl W.heap.size 3 i0 (.int .i64 0) 1 8 Tryz.underlying56 hi hz0 hz1 hz2 rfl (by decide) _ _ _ rfl (HO2.out.alloc _) ⟨w2.heap.size, 0, none⟩ 1 1 [.int .i64 (d : Int)] rfl rfl (one_newM _ _ _) ?c2 ?c3 ?c4 ?c5 ?_)
      case c2 => intro u hu; simp at hu; subst hu; rfl
      case c3 => unfold maxLen; omega
      case c4 => omega
      case c5 => have := HB2.out.size; simp; omega
      intro v' w3 ho3 hgrow _
      have HB3 := hideM ((HB2.out.alloc HB2.out.size (.cells #[.int .i64 (d : Int)] 3)).grown hgrow (by have := HB2.out.size; simp; omega) (fun q hq => (owns_ltM HO2.out q hq).1))
      have HO3 := hideM ho3
      have e2 : w3.cell? ⟨w.heap.size, 2, none⟩ = some (.int .i64 x) := (HB3.out.cell (by have := ZW.out; have := Z1.out; simp; omega)).trans F5.out.2.2.1
      clear ho3 hgrow
      go_wp2
      go_roundw
      case rel =>
        have R : ∃ i : Nat, i ≤ n ∧ Value.int .i64 ((j : Int) + 1) = .int .i64 i ∧ Value.int .i64 ((s : Int) + (x : Int) - 1 - (d : Int)) = .int .i64 ((lackN x (D.take i) : Nat) : Int) ∧ Hid (w3.ownsRow W.heap.size 3 1 v' i (cellsN (D.take i))) ∧ Hid (Below W.heap.size W w3) :=
          ⟨j + 1, by omega, by go_num, by rw [HLS.out]; go_num, by rw [HCS.out]; exact HO3.out, HB3.out⟩
        first | exact R | ((repeat apply Exists.intro); exact ⟨R, rfl⟩)
      case measure => simp [intOf]; omega
    · obtain rfl : j = n := by omega
      have hDj : D.take j = D := List.take_of_length_le (by have := HF.out; omega)
      rw [hDj] at ho ⊢
      clear hDj hlt
      have hR : lackN x D ≤ 32 * 15 := Nat.le_trans (lackN_le x D) (Nat.mul_le_mul (by have := HF.out; omega) (by omega))
      have HLEN := hideM (digs_length x f (lackN x D))
      have HAT := hideM (fun (q : Nat) (hq : q < f) => digs_at x f (lackN x D) q hq)
      generalize hE : digs x f (lackN x D) = E at HLEN HAT
      generalize hRR : lackN x D = R at hR HAT hE ⊢
      have HE := hideM hE
      have HRR := hideM hRR
      clear hE hRR
      obtain ⟨wo, rfl⟩ : ∃ wo : World, wo = wr := ⟨_, rfl⟩
      go_wp2
      go_loopw [6, 10] (fun v i wr => ∃ q : Nat, q ≤ f ∧ i = .int .i64 q ∧ Hid (wr.ownsRow W.heap.size 3 1 v (j + q) (cellsN (D ++ E.take q))) ∧ Hid (Below W.heap.size W wr)) (fun _ i _ => f - (intOf i).toNat)
      case atStart => exact ⟨0, by omega, rfl, by unfold Hid; simpa using ho.out, hb⟩
      case round =>
        obtain ⟨q, hq, rfl, ho, hb⟩ := hrel
        have s1 : wr.cell? ⟨w1.heap.size, 1, none⟩ = some (.int .i64 f) := (hb.out.cell (by have := ZW.out; simp; omega)).trans S1.out
        have c2 : wr.cell? ⟨w.heap.size, 2, none⟩ = some (.int .i64 x) := (hb.out.cell (by have := ZW.out; have := Z1.out; simp; omega)).trans F5.out.2.2.1
        by_cases hlt : q < f
        · have hp1 : x ^ (f - 1 - q) ≤ 65536 := Nat.le_trans (Nat.pow_le_pow_right (by omega) (by omega)) HXF.out
          have hp0 : 1 ≤ x ^ (f - 1 - q) := Nat.one_le_pow _ _ (by omega)
          have HPW := hideM (fun w' : World => power_any x (f - 1 - q) w' hx16 (by omega) hp1 (by omega))
          have HEQ : Hid (at0M E q = R / x ^ (f - 1 - q) % x) := by
            show at0M E q = _
            have h := HAT.out q hlt
            rw [show f - (q + 1) = f - 1 - q by omega] at h
            exact h
          have HTK := hideM (take_at E q (by have := HLEN.out; omega))
          generalize x ^ (f - 1 - q) = P at hp1 hp0 HPW HEQ
          have hq0 : (0 : Int) ≤ (R : Int) / (P : Int) := Int.ediv_nonneg (by omega) (by omega)
          have hq1 : (R : Int) / (P : Int) ≤ 480 := by have h1 := Nat.div_le_self R P; have h2 : ((R / P : Nat) : Int) = (R : Int) / (P : Int) := Int.natCast_ediv R P; omega
          go_wp2_with fail
          rw [show ((f : Int) - 1 - (q : Int)) = ((f - 1 - q : Nat) : Int) by omega]
          refine (HPW.out _).mono ?_
          rintro r w2 ⟨rfl, rfl⟩
          go_wp2_with (at_builtin; refine wpList_append_own _ rfl _ _ 56 rfl W.heap.size 3 i0 (.int .i64 0) 1 8 Tryz.underlying56 hi hz0 hz1 hz2 rfl (by decide) _ _ _ rfl (ho.out.alloc _) ⟨w2.heap.size, 0, none⟩ 1 1 [.int .i64 ((R : Int) / (P : Int) % (x : Int))] rfl rfl (one_newM _ _ _) ?d2 ?d3 ?d4 ?d5 ?_)
          case d2 => intro u hu; simp at hu; subst hu; rfl
          case d3 => unfold maxLen; omega
          case d4 => omega
          case d5 => have := hb.out.size; simp; omega
          intro v' w3 ho3 hgrow _
          have HB3 := hideM ((hb.out.alloc hb.out.size (.cells #[.int .i64 ((R : Int) / (P : Int) % (x : Int))] 3)).grown hgrow (by have := hb.out.size; simp; omega) (fun q hq => (owns_ltM ho.out q hq).1))
          have HO3 := hideM ho3
          clear ho3 hgrow
          go_wp2
          go_roundw
          case rel =>
            have hcs : cellsN (D ++ E.take (q + 1)) = cellsN (D ++ E.take q) ++ [.int .i64 ((R : Int) / (P : Int) % (x : Int))] := by
              rw [HTK.out, ← List.append_assoc, cellsN_snoc, HEQ.out, Int.natCast_emod, Int.natCast_ediv]
            have R : ∃ i : Nat, i ≤ f ∧ Value.int .i64 ((q : Int) + 1) = .int .i64 i ∧ Hid (w3.ownsRow W.heap.size 3 1 v' (j + i) (cellsN (D ++ E.take i))) ∧ Hid (Below W.heap.size W w3) :=
              ⟨q + 1, by omega, by go_num, by rw [hcs]; exact HO3.out, HB3.out⟩
            first | exact R | ((repeat apply Exists.intro); exact ⟨R, rfl⟩)
          case measure => simp [intOf]; omega
        · obtain rfl : q = f := by omega
          go_wp2
          go_ret
          refine ⟨_, rfl, ?_, BW.out.trans (hb.out.mono (by have := ZW.out; have := Z1.out; omega))⟩
          have h := ho.out
          rw [List.take_of_length_le (by have := HLEN.out; omega), ← HE.out, ← HRR.out] at h
          exact ⟨h.1, h.2.elim Or.inl (fun ⟨g, cap, cur, hv, hg, r⟩ => Or.inr ⟨g, cap, cur, hv, by have := ZW.out; have := Z1.out; omega, r⟩)⟩
end Go.Proofs.YtgaoeoijdpdjiabGreatDoor
