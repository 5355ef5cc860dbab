/-
  The document's own sizes at the sets with Bytes 8 and Wide 4. The bytes of words, the highest first, as a plain function.
-/
import Derived.Test.YtgaoeoijdpdjiaaDoorPart5
import Derived.Handy
import Derived.Deep.RegionHeld3
import Derived.Deep.DrawnRows
namespace Go.Proofs.YtgaoeoijdpdjiaaDoor
open Go.RowKit

theorem wrap_ref_8_4 (t l : Nat) (h1 : 1 ≤ t) (h2 : t ≤ 4) (h3 : 1 ≤ l) (h4 : l ≤ 3) : wrap64 (12 + wrap64 (wrap64 ((l : Int) * (36 + (t : Int))) * 8)) = sigZ 8 4 t l := by
  rcases (show t = 1 ∨ t = 2 ∨ t = 3 ∨ t = 4 by omega) with rfl | rfl | rfl | rfl <;> rcases (show l = 1 ∨ l = 2 ∨ l = 3 by omega) with rfl | rfl | rfl <;> simp [wrap64, sigZ, chainsZ, firstZ, lastZ, each]

set_option maxHeartbeats 1000000 in
theorem refSizes_8_4 (k : Int) (t l : Nat) (w : World) (h1 : 1 ≤ t) (h2 : t ≤ 4) (h3 : 1 ≤ l) (h4 : l ≤ 3) :
    Calls Tryd.prog 43 #[.agg #[.int .i64 k, .int .i64 8, .int .i64 4, .int .i64 t, .int .i64 l]] w fun r w' =>
      r = .returned (.agg #[.int .i64 32, .int .i64 4, .int .i64 36, .int .i64 (totalZ t l), .int .i64 (sigZ 8 4 t l), .int .i64 21]) ∧ Below w.heap.size w w' := by
  go_enter Tryd.func43, Tryd.ntmps43
  go_wp2
  go_rounds 5
  go_rounds 5
  generalize hW : (((w.alloc (.cells #[.int .i64 k, .int .i64 8, .int .i64 4, .int .i64 t, .int .i64 l] 25)).alloc (.cells #[.int .i64 0, .int .i64 0, .int .i64 0, .int .i64 0, .int .i64 0, .int .i64 0] 68)).alloc (.cells #[.int .i64 32, .int .i64 4, .int .i64 36, .int .i64 0, .int .i64 0, .int .i64 0] 68)) = W
  have F5 : Five W w.heap.size k 8 4 t l := by subst hW; refine ⟨?_, ?_, ?_, ?_, ?_⟩ <;> simp [go_sem, World.cell?_alloc_past]
  have Z6 : Six W (w.heap.size + 1) 0 0 0 0 0 0 := by subst hW; refine ⟨?_, ?_, ?_, ?_, ?_, ?_⟩ <;> simp [go_sem, World.cell?_alloc_past]
  have S6 : Six W (w.heap.size + 1 + 1) 32 4 36 0 0 0 := by subst hW; refine ⟨?_, ?_, ?_, ?_, ?_, ?_⟩ <;> simp [go_sem, World.cell?_alloc_at]
  have fz : ∀ o, W.frozen? ⟨w.heap.size + 1, o, none⟩ = false := by subst hW; intro o; simp [go_sem]
  have fz2 : ∀ o, W.frozen? ⟨w.heap.size + 1 + 1, o, none⟩ = false := by subst hW; intro o; simp [go_sem]
  have hsz : w.heap.size + 3 = W.heap.size := by subst hW; simp
  have HB := hideM (by subst hW; exact (((Below.refl _ _).alloc (Nat.le_refl _) _).alloc (by simp) _).alloc (by simp; omega) _ : Below w.heap.size w W)
  clear hW
  have hl2 : 2 ^ t ≤ 16 := Nat.le_trans (Nat.pow_le_pow_right (by decide) h2) (by decide)
  have hpw : (2 ^ t) ^ l = 2 ^ (t * l) := (Nat.pow_mul 2 t l).symm
  have hpl : (2 ^ t) ^ l ≤ 65536 := Nat.le_trans (Nat.pow_le_pow_left hl2 l) (Nat.le_trans (Nat.pow_le_pow_right (by decide) h4) (by decide))
  have HT : Hid ((((2 ^ t) ^ l : Nat) : Int) = totalZ t l) := by show (((2 ^ t) ^ l : Nat) : Int) = totalZ t l; rw [hpw]; unfold totalZ; rw [show ((t : Int) * (l : Int)).toNat = t * l by rw [← Int.natCast_mul]; rfl]; simp
  have HC1 := hideM (fun w' : World => leaves_any t k 8 4 l w' h2)
  have HC2 := hideM (fun w' : World => power_any (2 ^ t) l w' hl2 (by omega) hpl (Nat.one_le_two_pow))
  clear hl2 hpw hpl
  generalize 2 ^ t = q at HT HC1 HC2
  generalize q ^ l = T at HT HC2
  obtain ⟨c0, c1, c2, c3, c4⟩ := F5
  obtain ⟨z0, z1, z2, z3, z4, z5⟩ := Z6
  obtain ⟨s0, s1, s2, s3, s4, s5⟩ := S6
  go_region_held3 (fun w' => w'.cell? ⟨w.heap.size, 0, none⟩ = some (.int .i64 k) ∧ w'.cell? ⟨w.heap.size, 1, none⟩ = some (.int .i64 8) ∧ w'.cell? ⟨w.heap.size, 2, none⟩ = some (.int .i64 4) ∧ w'.cell? ⟨w.heap.size, 3, none⟩ = some (.int .i64 t) ∧ w'.cell? ⟨w.heap.size, 4, none⟩ = some (.int .i64 l)) (first | exact hk1 | exact five_other hk1 _ (by omega) | (simp [go_sem, c0, c1, c2, c3, c4]; done)) (first | (go_at_call 62; refine (HC1.out _).mono ?_; rintro r w1 ⟨rfl, hb1⟩; have hk1 := five_below (show Five W.drew w.heap.size k 8 4 t l from ⟨c0, c1, c2, c3, c4⟩) hb1 (by simp; omega); have hz1 := six_below (show Six W.drew (w.heap.size + 1) 0 0 0 0 0 0 from ⟨z0, z1, z2, z3, z4, z5⟩) hb1 (by simp; omega); have hs1 := six_below (show Six W.drew (w.heap.size + 1 + 1) 32 4 36 0 0 0 from ⟨s0, s1, s2, s3, s4, s5⟩) hb1 (by simp; omega); have fy : ∀ o, w1.frozen? ⟨w.heap.size + 1, o, none⟩ = false := (fun o => (hb1.frozen (by simp; omega)).trans (fz o)); have fy2 : ∀ o, w1.frozen? ⟨w.heap.size + 1 + 1, o, none⟩ = false := (fun o => (hb1.frozen (by simp; omega)).trans (fz2 o)); obtain ⟨y0, y1, y2, y3, y4, y5⟩ := hz1; obtain ⟨x0, x1, x2, x3, x4, x5⟩ := hs1) | (go_at_call 61; refine (HC2.out _).mono ?_; rintro r w2 ⟨rfl, rfl⟩))
  obtain ⟨m0, m1, m2, m3, m4⟩ := hk1
  have HSG := hideM (wrap_ref_8_4 t l h1 h2 h3 h4)
  go_wp2
  rw [HSG.out, HT.out]
  refine bodyPost_ret (v := .agg #[.int .i64 32, .int .i64 4, .int .i64 36, .int .i64 (totalZ t l), .int .i64 (sigZ 8 4 t l), .int .i64 21]) (by simp [results, Tryd.results43, go_sem, y0, y1, y2, y3, y4, y5]) rfl ⟨rfl, ?_⟩
  iterate 9 refine Below.setCell ?_ (show w.heap.size ≤ _ by simp <;> omega) _
  exact HB.out.drew.trans (hb1.mono (by simp; omega))
end Go.Proofs.YtgaoeoijdpdjiaaDoor

namespace Go.Proofs.YtgaoeoijdpdjiaaDoor
open Go.RowKit

/-- The i-th byte of words of n bytes each. -/
def outB (n : Nat) (L : List Nat) (i : Nat) : Nat := at0 L (i / n) / 2 ^ (8 * (n - 1 - i % n)) % 256
def outs (n : Nat) (L : List Nat) (m : Nat) : List Nat := (List.range m).map (outB n L)
theorem outs_length (n : Nat) (L : List Nat) (m : Nat) : (outs n L m).length = m := by simp [outs]
theorem outs_succ (n : Nat) (L : List Nat) (m : Nat) : outs n L (m + 1) = outs n L m ++ [outB n L m] := by simp [outs, List.range_succ]
theorem outB_lt (n : Nat) (L : List Nat) (i : Nat) : outB n L i < 256 := Nat.mod_lt _ (by decide)

/-- The cells of a list of bytes. -/
def cells8 (D : List Nat) : List Value := D.map (fun d => Value.int .u8 ((d : Nat) : Int))
theorem cells8_snoc (D : List Nat) (d : Nat) : cells8 (D ++ [d]) = cells8 D ++ [.int .u8 ((d : Nat) : Int)] := by simp [cells8]

theorem infoByte : (Tryd.prog.info? 5).map (fun i => (i.zero, i.size, i.bytes)) = some (some (.int .u8 0), 1, 1) := by kernel_rfl

theorem owns_lt {w : World} {base : Nat} {e : TypeId} {s : Nat} {v : Value} {n : Nat} {xs : List Value} (h : w.ownsRow base e s v n xs) : ∀ k, v.ownBlock = some k → base ≤ k ∧ k < w.heap.size := by
  intro k hk
  rcases h.2 with ⟨rfl, _⟩ | ⟨g, cap, cur, rfl, hg, hh, _⟩
  · simp [Value.ownBlock] at hk
  · simp only [Value.ownBlock, Option.some.injEq] at hk
    subst hk
    exact ⟨hg, lt_of_block hh⟩
theorem one_new (w : World) (v : Value) (t : TypeId) : ∀ j u, [v][j]? = some u → (w.alloc (.cells #[v] t)).cell? ((Addr.mk w.heap.size 0 none).add j) = some u := by
  intro j u hj
  match j, hj with
  | 0, hj => simp at hj; subst hj; simp [Addr.add]
theorem owns_some {w : World} {base : Nat} {e : TypeId} {s : Nat} {v : Value} {n : Nat} {xs : List Value} (h : w.ownsRow base e s v n xs) (hn : 0 < n) : ∃ g cap, v = .slice (some ⟨g, 0, none⟩) n cap := by
  rcases h.2 with ⟨rfl, rfl⟩ | ⟨g, cap, cur, rfl, _⟩
  · omega
  · exact ⟨g, cap, rfl⟩
/-- The text of a list of bytes. -/
def textOf (D : List Nat) : ByteArray := ⟨(D.map UInt8.ofNat).toArray⟩
theorem textOf_size (D : List Nat) : (textOf D).size = D.length := by simp [textOf, ByteArray.size]

theorem run_text (w : World) (base : Nat) (v : Value) (D : List Nat) (hD : ∀ d ∈ D, d < 256) (h : w.ownsRow base 5 1 v D.length (cells8 D)) (h0 : 0 < D.length) :
    (convert 60 9 v).run Tryd.prog w = .ok (.string (textOf D)) w := by
  obtain ⟨g, cap, rfl⟩ := owns_some h h0
  have hl : (D.map UInt8.ofNat).length = D.length := by simp
  have hc := run_convert_bytes_back (P := Tryd.prog) w 60 9 5 ⟨g, 0, none⟩ cap (D.map UInt8.ofNat) Tryd.underlying60 Tryd.underlying5 Tryd.underlying9 (by
    intro j hj
    have hj' : j < D.length := by simpa using hj
    have hadd : (Addr.mk g 0 none).add j = ⟨g, j, none⟩ := by unfold Addr.add; split <;> simp_all
    rw [hadd]
    rcases h.2 with ⟨h, _⟩ | ⟨g', cap', cur, h, _, hh, _, _, _, ht⟩
    · cases h
    · simp only [Value.slice.injEq, Option.some.injEq, Addr.mk.injEq, and_true, true_and] at h
      obtain ⟨rfl, rfl⟩ := h
      have h1 : (cur.toList.take (D.length * 1))[j]? = (cells8 D)[j]? := by rw [ht]
      rw [List.getElem?_take_of_lt (by omega)] at h1
      simp only [World.cell?, hh]
      have hd := hD D[j] (List.getElem_mem hj')
      simpa [cells8, hj', Nat.mod_eq_of_lt hd] using h1)
  rw [hl] at hc
  exact hc
end Go.Proofs.YtgaoeoijdpdjiaaDoor
