/-
  The program's Node. The program's rootBy: the root that comes of a signature's parts, layer by layer. The statement's own value and lesser. A set that is right.
-/
import Derived.Test.YtgaoeoijdpdjiabGreatDoorPart15
import Derived.Test.YtgaoeoijdpdjiabGreatDoorPart17
import Derived.Test.YtgaoeoijdpdjiabGreatDoorPart16
import Derived.Test.YtgaoeoijdpdjiabGreatDoorPart11
import Derived.Test.YtgaoeoijdpdjiabGreatDoorPart6
import Derived.Test.YtgaoeoijdpdjiabGreatDoorPart4
import Derived.Test.YtgaoeoijdpdjiabGreatDoorPart2
namespace Go.Proofs.YtgaoeoijdpdjiabGreatDoor
open Go.RowKit

set_option maxRecDepth 20000 in
set_option maxHeartbeats 4000000 in
theorem node_any (k b x t l : Int) (sec rnd pub : ByteArray) (p0 p1 p2 p3 : Int) (ch wd : Nat) (hk : k = 1 ∨ k = 2) (h1 : 1 ≤ b) (h2 : b ≤ 16) (hs : sec.size ≤ 16) (hp : pub.size ≤ 16) (hc1 : 1 ≤ ch) (hc2 : ch ≤ 64) (hch : Ch4 ch) (hwd : wd ≤ 15) (hx : x = (wd : Int) + 1) : ∀ (h : Nat) (_ : h ≤ 4) (j : Nat) (_ : (j + 1) * 2 ^ h ≤ 16) (w : World) (_ : Tn w),
    Calls Tryz.prog 300 #[.agg #[.int .i64 k, .int .i64 b, .int .i64 x, .int .i64 t, .int .i64 l, .string sec, .string rnd, .string pub, .int .i64 p0, .int .i64 p1, .int .i64 p2, .int .i64 p3, .int .i64 ch], .int .i64 h, .int .i64 j] w fun e w' => e = .returned (.string (nodeS k b wd ch sec pub p0 p1 h j)) ∧ Below w.heap.size w w' := by
  intro h
  induction h with
  | zero =>
    intro _ j _ w hT
    have HL := hide (leaf_any k b x t l sec rnd pub p0 p1 p2 p3 j ch wd (w.alloc (.cells #[.int .i64 k, .int .i64 b, .int .i64 x, .int .i64 t, .int .i64 l, .string sec, .string rnd, .string pub, .int .i64 p0, .int .i64 p1, .int .i64 p2, .int .i64 p3, .int .i64 ch] 274)) hk h1 h2 hs hp hc1 hc2 hch hwd hx (hT.alloc _))
    clear hT hx
    rw [show nodeS k b wd ch sec pub p0 p1 0 j = leafS k b wd ch sec pub p0 p1 j by rw [nodeS]]
    generalize leafS k b wd ch sec pub p0 p1 j = lf at HL ⊢
    go_enter Tryz.func300, Tryz.ntmps300
    go_wp2_with fail
    refine HL.out.mono ?_
    rintro e w1 ⟨rfl, hb1⟩
    have HB1 := hide (((Below.refl w.heap.size w).alloc (Nat.le_refl _) _).trans (hb1.mono (by simp)))
    clear hb1
    go_wp2
    go_ret
    exact ⟨rfl, HB1.out⟩
  | succ h ih =>
    intro hh j hj w hT
    obtain ⟨WT, hWT⟩ : ∃ WT, w.alloc (.cells #[.int .i64 k, .int .i64 b, .int .i64 x, .int .i64 t, .int .i64 l, .string sec, .string rnd, .string pub, .int .i64 p0, .int .i64 p1, .int .i64 p2, .int .i64 p3, .int .i64 ch] 274) = WT := ⟨_, rfl⟩
    have HWT := hide (show Blk WT w.heap.size [.int .i64 k, .int .i64 b, .int .i64 x, .int .i64 t, .int .i64 l, .string sec, .string rnd, .string pub, .int .i64 p0, .int .i64 p1, .int .i64 p2, .int .i64 p3, .int .i64 ch] 274 by rw [← hWT]; exact Blk.new _ _ _)
    have hzT : WT.heap.size = w.heap.size + 1 := by rw [← hWT]; simp
    have HB := hide (show Below w.heap.size w WT by rw [← hWT]; exact (Below.refl _ _).alloc (Nat.le_refl _) _)
    have HTT := hide (hT.on HB.out)
    have hp2 : 1 ≤ 2 ^ h := Nat.one_le_two_pow
    have hj' : (j + 1) * 2 * 2 ^ h ≤ 16 := by rw [Nat.pow_succ] at hj; rw [Nat.mul_assoc, Nat.mul_comm 2]; exact hj
    have hjb : j ≤ 7 := by
      have : (j + 1) * 2 * 1 ≤ 16 := Nat.le_trans (Nat.mul_le_mul_left _ hp2) hj'
      omega
    have H1 := hide (fun (V : World) (hV : Tn V) => ih (by omega) (2 * j) (Nat.le_trans (Nat.mul_le_mul_right _ (by omega)) hj') V hV)
    have H2 := hide (fun (V : World) (hV : Tn V) => ih (by omega) (2 * j + 1) (Nat.le_trans (Nat.mul_le_mul_right _ (by omega)) hj') V hV)
    have s1 := nodeS_size k b wd ch sec pub p0 p1 hk h1 h2 hs hp hc1 h (2 * j)
    have s2 := nodeS_size k b wd ch sec pub p0 p1 hk h1 h2 hs hp hc1 h (2 * j + 1)
    have HJ := hide (fun (V : World) (hV : Tn V) => tjoin_any k b x t l sec rnd pub p0 p1 p2 p3 (h + 1 : Nat) j ch (nodeS k b wd ch sec pub p0 p1 h (2 * j)) (nodeS k b wd ch sec pub p0 p1 h (2 * j + 1)) V hk h1 h2 hp (by omega) (by omega) hV)
    have HN : Hid (nodeS k b wd ch sec pub p0 p1 (h + 1) j = joinS k b pub p0 p1 (h + 1 : Nat) j (nodeS k b wd ch sec pub p0 p1 h (2 * j)) (nodeS k b wd ch sec pub p0 p1 h (2 * j + 1))) := rfl
    rw [HN.out]
    clear s1 s2 ih hT hp2 hj' hj hx
    generalize nodeS k b wd ch sec pub p0 p1 h (2 * j) = na at H1 HJ HN ⊢
    generalize nodeS k b wd ch sec pub p0 p1 h (2 * j + 1) = nb at H2 HJ HN ⊢
    obtain ⟨Hh, hHh⟩ : ∃ Hh : Int, ((h + 1 : Nat) : Int) = Hh := ⟨_, rfl⟩
    have e1 : ((h : Nat) : Int) = Hh - 1 := by omega
    have e2 : ((2 * j : Nat) : Int) = 2 * (j : Int) := by omega
    have e3 : ((2 * j + 1 : Nat) : Int) = 2 * (j : Int) + 1 := by omega
    rw [e1, e2] at H1
    rw [e1, e3] at H2
    rw [hHh] at HJ HN ⊢
    have g1 : 1 ≤ Hh := by omega
    have g2 : Hh ≤ 4 := by omega
    have w1 : IntKind.i64.wrap (Hh - 1) = Hh - 1 := by rw [IntKind.wrap_i64]; omega
    have w2 : IntKind.i64.wrap (2 * (j : Int)) = 2 * (j : Int) := by rw [IntKind.wrap_i64]; omega
    have w3 : IntKind.i64.wrap (2 * (j : Int) + 1) = 2 * (j : Int) + 1 := by rw [IntKind.wrap_i64]; omega
    have z1 : (Hh == 0) = false := by rw [beq_eq_false_iff_ne]; omega
    clear e1 e2 e3 hHh
    have HS := hide (fun (V : World) (h' : Below WT.heap.size WT V) => (by
      have tb := HWT.out.below h' (by omega)
      exact ⟨tb.cell 0, tb.cell 1, tb.cell 2, tb.cell 3, tb.cell 4, tb.cell 5, tb.cell 6, tb.cell 7, tb.cell 8, tb.cell 9, tb.cell 10, tb.cell 11, tb.cell 12, h'⟩ : V.cell? ⟨w.heap.size, 0, none⟩ = some (.int .i64 k) ∧ V.cell? ⟨w.heap.size, 1, none⟩ = some (.int .i64 b) ∧ V.cell? ⟨w.heap.size, 2, none⟩ = some (.int .i64 x) ∧ V.cell? ⟨w.heap.size, 3, none⟩ = some (.int .i64 t) ∧ V.cell? ⟨w.heap.size, 4, none⟩ = some (.int .i64 l) ∧ V.cell? ⟨w.heap.size, 5, none⟩ = some (.string sec) ∧ V.cell? ⟨w.heap.size, 6, none⟩ = some (.string rnd) ∧ V.cell? ⟨w.heap.size, 7, none⟩ = some (.string pub) ∧ V.cell? ⟨w.heap.size, 8, none⟩ = some (.int .i64 p0) ∧ V.cell? ⟨w.heap.size, 9, none⟩ = some (.int .i64 p1) ∧ V.cell? ⟨w.heap.size, 10, none⟩ = some (.int .i64 p2) ∧ V.cell? ⟨w.heap.size, 11, none⟩ = some (.int .i64 p3) ∧ V.cell? ⟨w.heap.size, 12, none⟩ = some (.int .i64 ch) ∧ Below WT.heap.size WT V))
    have HWE := hide hWT
    clear hWT
    go_enter Tryz.func300, Tryz.ntmps300
    go_wp2_with fail
    rw [HWE.out]
    go_region_held3 (fun V => V.cell? ⟨w.heap.size, 0, none⟩ = some (.int .i64 k) ∧ V.cell? ⟨w.heap.size, 1, none⟩ = some (.int .i64 b) ∧ V.cell? ⟨w.heap.size, 2, none⟩ = some (.int .i64 x) ∧ V.cell? ⟨w.heap.size, 3, none⟩ = some (.int .i64 t) ∧ V.cell? ⟨w.heap.size, 4, none⟩ = some (.int .i64 l) ∧ V.cell? ⟨w.heap.size, 5, none⟩ = some (.string sec) ∧ V.cell? ⟨w.heap.size, 6, none⟩ = some (.string rnd) ∧ V.cell? ⟨w.heap.size, 7, none⟩ = some (.string pub) ∧ V.cell? ⟨w.heap.size, 8, none⟩ = some (.int .i64 p0) ∧ V.cell? ⟨w.heap.size, 9, none⟩ = some (.int .i64 p1) ∧ V.cell? ⟨w.heap.size, 10, none⟩ = some (.int .i64 p2) ∧ V.cell? ⟨w.heap.size, 11, none⟩ = some (.int .i64 p3) ∧ V.cell? ⟨w.heap.size, 12, none⟩ = some (.int .i64 ch) ∧ Below WT.heap.size WT V) (first | exact HS.out _ hS3 | exact HS.out _ hS2 | exact HS.out _ hS1 | exact HS.out _ (Below.refl _ _).drew) (first | (go_at_call 300; have hx := hS1; clear hx; refine (H2.out _ (HTT.out.on hS1)).mono ?_; rintro e w2 ⟨rfl, hb2⟩; have hS2 := heldB hS1 hb2 (Nat.le_refl _)) | (go_at_call 300; refine (H1.out _ (HTT.out.on (Below.refl WT.heap.size WT).drew)).mono ?_; rintro e w1 ⟨rfl, hb1⟩; have hS1 := heldB (Below.refl WT.heap.size WT).drew hb1 (Nat.le_refl _)) | (go_at_call 211; refine (HJ.out _ (HTT.out.on hS2)).mono ?_; rintro e w3 ⟨rfl, hb3⟩; have hS3 := heldB hS2 hb3 (Nat.le_refl _)))
    go_wp2
    go_ret
    exact ⟨rfl, HB.out.trans (hS3.mono (by omega))⟩
end Go.Proofs.YtgaoeoijdpdjiabGreatDoor

namespace Go.Proofs.YtgaoeoijdpdjiabGreatDoor
open Go.RowKit

theorem cutR (g o n c lo hi : Nat) (h1 : lo ≤ hi) (h2 : hi ≤ c) (h3 : lo < c) (wx : World) : (Instr.slice 27 (.slice (some ⟨g, o, none⟩) n c) (some (.int .i64 lo)) (some (.int .i64 hi)) none).run Tryz.prog wx = .ok (.slice (some ⟨g, o + lo, none⟩) (hi - lo) (c - lo)) wx := by
  have e2 : (lo : Int) ≤ hi := by omega
  have e3 : (0 : Int) ≤ lo := by omega
  have e4 : (hi : Int) ≤ c := by omega
  simp [go_sem, e2, e3, e4]
  omega
theorem cutR_to (g o n c hi : Nat) (h2 : hi ≤ c) (wx : World) : (Instr.slice 27 (.slice (some ⟨g, o, none⟩) n c) none (some (.int .i64 hi)) none).run Tryz.prog wx = .ok (.slice (some ⟨g, o, none⟩) hi c) wx := by
  have e3 : (0 : Int) ≤ hi := by omega
  have e4 : (hi : Int) ≤ c := by omega
  simp [go_sem, e3, e4]
theorem cutR_from (g o n c lo : Nat) (h1 : lo < n) (h2 : n ≤ c) (wx : World) : (Instr.slice 27 (.slice (some ⟨g, o, none⟩) n c) (some (.int .i64 lo)) none none).run Tryz.prog wx = .ok (.slice (some ⟨g, o + lo, none⟩) (n - lo) (c - lo)) wx := by
  have e2 : (lo : Int) ≤ n := by omega
  have e3 : (0 : Int) ≤ lo := by omega
  simp [go_sem, e2, e3]
  omega

/-- What comes out behind so many layers. -/
def layS (k b : Int) (x e f t ch : Nat) (pub : ByteArray) (idx : Nat) (ps : List ByteArray) (m0 : ByteArray) : Nat → ByteArray
  | 0 => m0
  | i + 1 => rootS k b x pub i ((idx / 2 ^ (t * i) / 2 ^ t : Nat) : Int) (idx / 2 ^ (t * i) % 2 ^ t) (digitsN x e f (bytesN (layS k b x e f t ch pub idx ps m0 i))) ((ps.drop (i * (ch + t))).take ch) ((ps.drop (i * (ch + t) + ch)).take t)

theorem layS_size (k b : Int) (x e f t ch : Nat) (pub : ByteArray) (idx : Nat) (ps : List ByteArray) (m0 : ByteArray) (hk : k = 1 ∨ k = 2) (h1 : 1 ≤ b) (h2 : b ≤ 16) (hp : pub.size ≤ 16) (hc : 1 ≤ ch) (l : Nat) (hn : ps.length = l * (ch + t)) (hps : ∀ y ∈ ps, (y.size : Int) = b) (hm : (m0.size : Int) = b) : ∀ i, i ≤ l → ((layS k b x e f t ch pub idx ps m0 i).size : Int) = b := by
  intro i
  induction i with
  | zero => intro _; exact hm
  | succ i _ =>
    intro hi
    have h3 : (i + 1) * (ch + t) ≤ l * (ch + t) := Nat.mul_le_mul_right _ hi
    rw [Nat.add_mul, Nat.one_mul] at h3
    refine rootS_size k b x pub i _ _ _ _ _ hk h1 h2 hp ?_ (fun y hy => hps y (List.mem_of_mem_drop (List.mem_of_mem_take hy))) (fun y hy => hps y (List.mem_of_mem_drop (List.mem_of_mem_take hy)))
    rw [List.length_take, List.length_drop, hn]
    omega

set_option maxRecDepth 20000 in
set_option maxHeartbeats 8000000 in
theorem sigRootBy_any (k : Int) (b x e f t l ch idx : Nat) (hpr : Pair b x e f) (hch : ch = b * e + f) (pub root rnd msg : ByteArray) (g o n c : Nat) (ps : List ByteArray) (w : World) (hk : k = 1 ∨ k = 2) (t1 : 1 ≤ t) (t2 : t ≤ 4) (l1 : 1 ≤ l) (l2 : l ≤ 3) (hi : idx ≤ 100000)
    (s1 : (pub.size : Int) = b) (s2 : (root.size : Int) = b) (s3 : (rnd.size : Int) = b) (s4 : msg.size ≤ 200) (hn : ps.length = n) (hnl : n = l * (ch + t)) (hc : n ≤ c) (hps : ∀ y ∈ ps, (y.size : Int) = b) (hg : g < w.heap.size) (hcells : ∀ (j : Nat) y, ps[j]? = some y → w.cell? ⟨g, o + j, none⟩ = some (.string y)) (hT : Tn w) :
    Calls Tryz.prog 163 #[.agg #[.int .i64 k, .int .i64 b, .int .i64 x, .int .i64 t, .int .i64 l, .string root, .string pub], .agg #[.int .i64 idx, .string rnd, .slice (some ⟨g, o, none⟩) n c], .string msg] w fun r w' => r = .returned (.string (layS k b x e f t ch pub idx ps (mixS k b rnd root pub idx msg) l)) ∧ Below w.heap.size w w' := by
  obtain ⟨g1, g2, g3, g4, g5, g6⟩ := pair_small hpr
  rw [← hch] at g3 g4
  have hne : l * (ch + t) ≤ 300 := Nat.le_trans (Nat.mul_le_mul l2 (show ch + t ≤ 68 by omega)) (by decide)
  have hx2 : 2 ≤ x := by rcases hpr with ⟨rfl, rfl, rfl, rfl⟩ | ⟨rfl, rfl, rfl, rfl⟩ | ⟨rfl, rfl, rfl, rfl⟩ | ⟨rfl, rfl, rfl, rfl⟩ <;> decide
  have HMX := hide (fun (V : World) (hV : Tn V) => mixed_any k b x t l idx root pub rnd msg (.slice (some ⟨g, o, none⟩) n c) V hk (by omega) (by omega) (by omega) (by omega) (by omega) s4 hV)
  have HM0 := hide (mixS_size k b rnd root pub idx msg hk (by omega) (by omega) (by omega) (by omega) (by omega) s4)
  generalize mixS k b rnd root pub idx msg = m0 at HMX HM0 ⊢
  have HSG := hide (fun (q : Nat) (hq : q < l) (V : World) => signing_any k b x l t q idx V t1 t2 (by omega) hi)
  have HDG := hide (fun (m : ByteArray) (hm : (m.size : Int) = b) (V : World) => setsDigits_any b x e f hpr k t l m V hk (by omega) (by omega) (by omega) (by omega) (by omega))
  rw [← hch] at HDG
  have HLS := hide (layS_size k b x e f t ch pub idx ps m0 hk (by omega) (by omega) (by omega) g3 l (by omega) hps HM0.out)
  have HDL := hide (fun (m : ByteArray) (hm : (m.size : Int) = b) => (show (digitsN x e f (bytesN m)).length = ch by rw [digitsN_length, bytesN_length, hch]; congr 2; omega))
  have HDX := hide (fun (m : ByteArray) => (show ∀ d ∈ digitsN x e f (bytesN m), d < x from digitsN_lt x e f (bytesN m) (by omega)))
  obtain ⟨E, hE⟩ : ∃ E, ch + t = E := ⟨_, rfl⟩
  have hEl : n = l * E := by rw [← hE]; exact hnl
  have htd : Int.tdiv (n : Int) (l : Int) = (E : Int) := by rw [hEl, Int.natCast_mul, Int.mul_tdiv_cancel_left _ (by omega)]
  have vE : IntKind.i64.wrap (E : Int) = (E : Int) := by rw [IntKind.wrap_i64] <;> omega
  have hl0 : l ≠ 0 := by omega
  have HRB := hide (fun (q : Nat) (hq : q < l) (m : ByteArray) (hm : (m.size : Int) = b) (gD : Nat) (V : World) (hV : Tn V) (hb : Below w.heap.size w V) (hD : RowZ V gD ((digitsN x e f (bytesN m)).map Int.ofNat)) => (by
    have hqE : (q + 1) * E ≤ l * E := Nat.mul_le_mul_right _ hq
    rw [Nat.add_mul, Nat.one_mul] at hqE
    have lv : ((ps.drop (q * E)).take ch).length = ch := by rw [List.length_take, List.length_drop, hn]; omega
    have lp : ((ps.drop (q * E + ch)).take t).length = t := by rw [List.length_take, List.length_drop, hn]; omega
    have ld : (digitsN x e f (bytesN m)).length = ch := HDL.out m hm
    have gDl : gD < V.heap.size := lt_of_block hD
    have h := rootBy_any k b t l x pub q ((idx / 2 ^ (t * q) / 2 ^ t : Nat) : Int) 0 (idx / 2 ^ (t * q) % 2 ^ t) gD 0 ch g (o + q * E) (c - q * E) g (o + q * E + ch) (c - q * E - ch) (digitsN x e f (bytesN m)) ((ps.drop (q * E)).take ch) ((ps.drop (q * E + ch)).take t) V hk (by omega) (by omega) (by omega) (by omega) (by
        have : idx / 2 ^ (t * q) % 2 ^ t < 2 ^ t := Nat.mod_lt _ (Nat.two_pow_pos t)
        have : 2 ^ t ≤ 16 := Nat.le_trans (Nat.pow_le_pow_right (by decide) t2) (by decide)
        omega) (by omega) (by omega) (by omega) (HDX.out m) (fun y hy => hps y (List.mem_of_mem_drop (List.mem_of_mem_take hy))) (by omega) (fun y hy => hps y (List.mem_of_mem_drop (List.mem_of_mem_take hy))) gDl (by
        intro j d hj
        have hjl : j < ch := by
          have := (List.getElem?_eq_some_iff.1 hj).1
          omega
        rw [Nat.zero_add, hD.cell (by rw [List.length_map]; omega), List.getElem?_map, hj]
        rfl) (Nat.lt_of_lt_of_le hg hb.size) (by
        intro j y hj
        rw [List.getElem?_take] at hj
        split at hj
        · rw [List.getElem?_drop] at hj
          rw [Nat.add_assoc]
          exact (hb.cell (p := ⟨g, o + (q * E + j), none⟩) hg).trans (hcells _ y hj)
        · cases hj) (Nat.lt_of_lt_of_le hg hb.size) (by
        intro j y hj
        rw [List.getElem?_take] at hj
        split at hj
        · rw [List.getElem?_drop] at hj
          rw [show o + q * E + ch + j = o + (q * E + ch + j) by omega]
          exact (hb.cell (p := ⟨g, o + (q * E + ch + j), none⟩) hg).trans (hcells _ y hj)
        · cases hj) hV
    rw [lv, lp] at h
    exact h : Calls Tryz.prog 242 #[.agg #[.int .i64 k, .int .i64 b, .int .i64 x, .int .i64 t, .int .i64 l], .string pub, .agg #[.int .i64 q, .int .i64 ((idx / 2 ^ (t * q) / 2 ^ t : Nat) : Int), .int .i64 ((idx / 2 ^ (t * q) % 2 ^ t : Nat) : Int), .int .i64 0], .slice (some ⟨gD, 0, none⟩) ch ch, .slice (some ⟨g, o + q * E, none⟩) ch (c - q * E), .slice (some ⟨g, o + q * E + ch, none⟩) t (c - q * E - ch)] V fun r w' => r = .returned (.string (rootS k b x pub q ((idx / 2 ^ (t * q) / 2 ^ t : Nat) : Int) (idx / 2 ^ (t * q) % 2 ^ t) (digitsN x e f (bytesN m)) ((ps.drop (q * E)).take ch) ((ps.drop (q * E + ch)).take t))) ∧ Below V.heap.size V w'))
  have HSU := hide (fun q : Nat => (show layS k b x e f t ch pub idx ps m0 (q + 1) = rootS k b x pub q ((idx / 2 ^ (t * q) / 2 ^ t : Nat) : Int) (idx / 2 ^ (t * q) % 2 ^ t) (digitsN x e f (bytesN (layS k b x e f t ch pub idx ps m0 q))) ((ps.drop (q * E)).take ch) ((ps.drop (q * E + ch)).take t) by rw [layS, hE]))
  have HCU := hide (fun (q : Nat) (hq : q < l) => (by
    have hqE : (q + 1) * E ≤ l * E := Nat.mul_le_mul_right _ hq
    have hq1 : (q + 1) * E = q * E + E := by rw [Nat.add_mul, Nat.one_mul]
    have e1 : ∀ wx, (Instr.slice 27 (.slice (some ⟨g, o, none⟩) n c) (some (.int .i64 ((q * E : Nat) : Int))) (some (.int .i64 (((q + 1) * E : Nat) : Int))) none).run Tryz.prog wx = .ok (.slice (some ⟨g, o + q * E, none⟩) E (c - q * E)) wx := fun wx => by
      have h := cutR g o n c (q * E) ((q + 1) * E) (by omega) (by omega) (by omega) wx
      rw [show (q + 1) * E - q * E = E by omega] at h
      exact h
    have e2 : ∀ wx, (Instr.slice 27 (.slice (some ⟨g, o + q * E, none⟩) E (c - q * E)) none (some (.int .i64 ch)) none).run Tryz.prog wx = .ok (.slice (some ⟨g, o + q * E, none⟩) ch (c - q * E)) wx := cutR_to g (o + q * E) E (c - q * E) ch (by omega)
    have e3 : ∀ wx, (Instr.slice 27 (.slice (some ⟨g, o + q * E, none⟩) E (c - q * E)) (some (.int .i64 ch)) none none).run Tryz.prog wx = .ok (.slice (some ⟨g, o + q * E + ch, none⟩) t (c - q * E - ch)) wx := fun wx => by
      have h := cutR_from g (o + q * E) E (c - q * E) ch (by omega) (by omega) wx
      rw [show E - ch = t by omega] at h
      exact h
    have v1 : IntKind.i64.wrap ((q : Int) * (E : Int)) = ((q * E : Nat) : Int) := by
      have e : (q : Int) * (E : Int) = ((q * E : Nat) : Int) := by rw [Int.natCast_mul]
      rw [e, IntKind.wrap_i64] <;> omega
    have v2 : IntKind.i64.wrap (((q : Int) + 1) * (E : Int)) = (((q + 1) * E : Nat) : Int) := by
      have e : ((q : Int) + 1) * (E : Int) = (((q + 1) * E : Nat) : Int) := by rw [Int.natCast_mul]; rfl
      rw [e, IntKind.wrap_i64] <;> omega
    exact ⟨e1, e2, e3, v1, v2⟩ : (∀ wx, (Instr.slice 27 (.slice (some ⟨g, o, none⟩) n c) (some (.int .i64 ((q * E : Nat) : Int))) (some (.int .i64 (((q + 1) * E : Nat) : Int))) none).run Tryz.prog wx = .ok (.slice (some ⟨g, o + q * E, none⟩) E (c - q * E)) wx) ∧ (∀ wx, (Instr.slice 27 (.slice (some ⟨g, o + q * E, none⟩) E (c - q * E)) none (some (.int .i64 ch)) none).run Tryz.prog wx = .ok (.slice (some ⟨g, o + q * E, none⟩) ch (c - q * E)) wx) ∧ (∀ wx, (Instr.slice 27 (.slice (some ⟨g, o + q * E, none⟩) E (c - q * E)) (some (.int .i64 ch)) none none).run Tryz.prog wx = .ok (.slice (some ⟨g, o + q * E + ch, none⟩) t (c - q * E - ch)) wx) ∧ IntKind.i64.wrap ((q : Int) * (E : Int)) = ((q * E : Nat) : Int) ∧ IntKind.i64.wrap (((q : Int) + 1) * (E : Int)) = (((q + 1) * E : Nat) : Int)))
  have HE := hide hE
  have hn300 : n ≤ 300 := by rw [hnl]; exact hne
  clear hcells hps hn hnl hEl hch hpr hne hE s1 s2 s3 s4 HM0
  obtain ⟨W0, hW⟩ : ∃ W0, (w.alloc (.cells #[.int .i64 k, .int .i64 b, .int .i64 x, .int .i64 t, .int .i64 l, .string root, .string pub] 184)).alloc (.cells #[.int .i64 idx, .string rnd, .slice (some ⟨g, o, none⟩) n c] 29) = W0 := ⟨_, rfl⟩
  have HK := hide (show Blk W0 w.heap.size [.int .i64 k, .int .i64 b, .int .i64 x, .int .i64 t, .int .i64 l, .string root, .string pub] 184 by rw [← hW]; exact (Blk.new w _ _).alloc _)
  have HPA := hide (show Blk W0 (w.heap.size + 1) [.int .i64 idx, .string rnd, .slice (some ⟨g, o, none⟩) n c] 29 by
    rw [← hW]
    have h := Blk.new (w.alloc (.cells #[.int .i64 k, .int .i64 b, .int .i64 x, .int .i64 t, .int .i64 l, .string root, .string pub] 184)) [.int .i64 idx, .string rnd, .slice (some ⟨g, o, none⟩) n c] 29
    simp only [World.size_alloc] at h
    exact h)
  have HB := hide (show Below w.heap.size w W0 by subst hW; exact ((Below.refl _ _).alloc (Nat.le_refl _) _).alloc (by simp) _)
  have HTW := hide (hT.on HB.out)
  have HS := hide (fun (V : World) (h : Below W0.heap.size W0 V) => (by
    have q1 := HK.out.on h
    have q2 := HPA.out.on h
    exact ⟨q1.cell 0, q1.cell 1, q1.cell 2, q1.cell 3, q1.cell 4, q1.cell 5, q1.cell 6, q2.cell 0, q2.cell 1, q2.cell 2⟩ : V.cell? ⟨w.heap.size, 0, none⟩ = some (.int .i64 k) ∧ V.cell? ⟨w.heap.size, 1, none⟩ = some (.int .i64 b) ∧ V.cell? ⟨w.heap.size, 2, none⟩ = some (.int .i64 x) ∧ V.cell? ⟨w.heap.size, 3, none⟩ = some (.int .i64 t) ∧ V.cell? ⟨w.heap.size, 4, none⟩ = some (.int .i64 l) ∧ V.cell? ⟨w.heap.size, 5, none⟩ = some (.string root) ∧ V.cell? ⟨w.heap.size, 6, none⟩ = some (.string pub) ∧ V.cell? ⟨w.heap.size + 1, 0, none⟩ = some (.int .i64 idx) ∧ V.cell? ⟨w.heap.size + 1, 1, none⟩ = some (.string rnd) ∧ V.cell? ⟨w.heap.size + 1, 2, none⟩ = some (.slice (some ⟨g, o, none⟩) n c)))
  obtain ⟨c0, c1, c2, c3, c4, c5, c6, d0, d1, d2⟩ := HS.out W0 (Below.refl _ _)
  clear hT
  have HWE := hide hW
  clear hW
  go_enter Tryz.func163, Tryz.ntmps163
  go_wp2_with fail
  rw [HWE.out]
  refine (HMX.out _ HTW.out).mono ?_
  rintro r w1 ⟨rfl, hb1⟩
  have HB1 := hide (heldB (Below.refl W0.heap.size W0) hb1 (Nat.le_refl _))
  clear hb1 c0 c1 c2 c3 c4 c5 c6 d0 d1 d2 HWE
  obtain ⟨c0, c1, c2, c3, c4, c5, c6, d0, d1, d2⟩ := HS.out w1 HB1.out
  go_wp2_with fail
  go_loopw [8, 28] (fun u i wr => ∃ q : Nat, q ≤ l ∧ i = .int .i64 q ∧ u = .string (layS k b x e f t ch pub idx ps m0 q) ∧ Hid (Below W0.heap.size W0 wr)) (fun _ i _ => l - (intOf i).toNat)
  case atStart => exact ⟨0, Nat.zero_le _, rfl, rfl, HB1.out⟩
  case round =>
    clear c0 c1 c2 c3 c4 c5 c6 d0 d1 d2
    obtain ⟨q, hq, rfl, rfl, hb⟩ := hrel
    by_cases hlt : q < l
    · have hms := HLS.out q hq
      have HSU1 := hide (HSU.out q)
      have HDG1 := hide (HDG.out _ hms)
      have HRB1 := hide (HRB.out q hlt _ hms)
      obtain ⟨e1, e2, e3, v1, v2⟩ := HCU.out q hlt
      have HSG1 := hide (HSG.out q hlt)
      clear hms
      generalize layS k b x e f t ch pub idx ps m0 q = mq at HSU1 HDG1 HRB1 ⊢
      rw [← HSU1.out] at HRB1
      obtain ⟨mq', HLQ⟩ : ∃ mq', Hid (layS k b x e f t ch pub idx ps m0 (q + 1) = mq') := ⟨_, rfl⟩
      rw [HLQ.out] at HRB1
      generalize ((idx / 2 ^ (t * q) / 2 ^ t : Nat) : Int) = Q1 at HSG1 HRB1
      generalize ((idx / 2 ^ (t * q) % 2 ^ t : Nat) : Int) = Q2 at HSG1 HRB1
      generalize (q + 1) * E = C2 at e1 v2
      generalize q * E = C1 at e1 e2 e3 v1 HRB1
      clear HSU1
      obtain ⟨c0, c1, c2, c3, c4, c5, c6, d0, d1, d2⟩ := HS.out wr hb.out
      have hql : (q : Int) < (l : Int) := by omega
      go_wp2_with fail
      refine (HSG1.out _).mono ?_
      rintro r w2 ⟨rfl, hb2⟩
      have HB2 := hide (heldB hb.out hb2 (Nat.le_refl _))
      clear hb2 c0 c1 c2 c3 c4 c5 c6 d0 d1 d2
      have HB3 := hide (HB2.out.alloc HB2.out.size (.cells #[.int .i64 q, .int .i64 Q1, .int .i64 Q2, .int .i64 0] 91))
      have HPB := hide (Blk.new w2 [.int .i64 q, .int .i64 Q1, .int .i64 Q2, .int .i64 0] 91)
      obtain ⟨c0, c1, c2, c3, c4, c5, c6, d0, d1, d2⟩ := HS.out _ HB3.out
      have HD3 := hide (HDG1.out (w2.alloc (.cells #[.int .i64 q, .int .i64 Q1, .int .i64 Q2, .int .i64 0] 91)))
      go_wp2_with fail
      refine HD3.out.mono ?_
      rintro r w3 ⟨gD, rfl, hgD, hrow, hb3⟩
      have HB4 := hide (heldB HB3.out hb3 (Nat.le_refl _))
      have HPC := hide (HPB.out.on hb3)
      have HRW := hide hrow
      clear hb3 hrow hgD c0 c1 c2 c3 c4 c5 c6 d0 d1 d2 HB3 HPB HD3
      obtain ⟨c0, c1, c2, c3, c4, c5, c6, d0, d1, d2⟩ := HS.out _ HB4.out
      have HS9 := hide (fun (V : World) (h : Below w3.heap.size w3 V) => (by
        obtain ⟨c0, c1, c2, c3, c4, c5, c6, _, _, _⟩ := HS.out V (heldB HB4.out h (Nat.le_refl _))
        have q2 := HPC.out.on h
        exact ⟨c0, c1, c2, c3, c4, c5, c6, q2.cell 0, q2.cell 1, q2.cell 2, q2.cell 3⟩ : V.cell? ⟨w.heap.size, 0, none⟩ = some (.int .i64 k) ∧ V.cell? ⟨w.heap.size, 1, none⟩ = some (.int .i64 b) ∧ V.cell? ⟨w.heap.size, 2, none⟩ = some (.int .i64 x) ∧ V.cell? ⟨w.heap.size, 3, none⟩ = some (.int .i64 t) ∧ V.cell? ⟨w.heap.size, 4, none⟩ = some (.int .i64 l) ∧ V.cell? ⟨w.heap.size, 5, none⟩ = some (.string root) ∧ V.cell? ⟨w.heap.size, 6, none⟩ = some (.string pub) ∧ V.cell? ⟨w2.heap.size, 0, none⟩ = some (.int .i64 q) ∧ V.cell? ⟨w2.heap.size, 1, none⟩ = some (.int .i64 Q1) ∧ V.cell? ⟨w2.heap.size, 2, none⟩ = some (.int .i64 Q2) ∧ V.cell? ⟨w2.heap.size, 3, none⟩ = some (.int .i64 0)))
      go_wp2_with fail
      clear c0 c1 c2 c3 c4 c5 c6 d0 d1 d2
      go_region_held3 (fun V => V.cell? ⟨w.heap.size, 0, none⟩ = some (.int .i64 k) ∧ V.cell? ⟨w.heap.size, 1, none⟩ = some (.int .i64 b) ∧ V.cell? ⟨w.heap.size, 2, none⟩ = some (.int .i64 x) ∧ V.cell? ⟨w.heap.size, 3, none⟩ = some (.int .i64 t) ∧ V.cell? ⟨w.heap.size, 4, none⟩ = some (.int .i64 l) ∧ V.cell? ⟨w.heap.size, 5, none⟩ = some (.string root) ∧ V.cell? ⟨w.heap.size, 6, none⟩ = some (.string pub) ∧ V.cell? ⟨w2.heap.size, 0, none⟩ = some (.int .i64 q) ∧ V.cell? ⟨w2.heap.size, 1, none⟩ = some (.int .i64 Q1) ∧ V.cell? ⟨w2.heap.size, 2, none⟩ = some (.int .i64 Q2) ∧ V.cell? ⟨w2.heap.size, 3, none⟩ = some (.int .i64 0)) (first | exact HS9.out _ hS1 | exact HS9.out _ (Below.refl w3.heap.size w3).drew) ((go_at_call 242; refine (HRB1.out gD _ (HTW.out.on HB4.out.drew) ((HB.out.trans (HB4.out.mono HB.out.size)).drew) HRW.out).mono ?_; rintro r w5 ⟨rfl, hb5⟩; have hS1 := heldB (Below.refl w3.heap.size w3).drew hb5 (Nat.le_refl _)))
      have HB5 := hide (heldB HB4.out hS1 (Nat.le_refl _))
      clear hS1 hb5
      go_wp2
      go_roundw
      case rel =>
        have R : ∃ q' : Nat, q' ≤ l ∧ Value.int .i64 ((q : Int) + 1) = .int .i64 q' ∧ Value.string mq' = .string (layS k b x e f t ch pub idx ps m0 q') ∧ Hid (Below W0.heap.size W0 w5) := ⟨q + 1, by omega, by go_num, by rw [HLQ.out], HB5.out⟩
        first | exact R | ((repeat apply Exists.intro); exact ⟨R, rfl⟩)
      case measure => simp [intOf]; omega
    · obtain rfl : q = l := by omega
      go_wp2
      go_ret
      exact ⟨rfl, HB.out.trans (hb.out.mono HB.out.size)⟩
end Go.Proofs.YtgaoeoijdpdjiabGreatDoor

namespace Go.Proofs.YtgaoeoijdpdjiabGreatDoor
open Go.RowKit

theorem valN_most (s : ByteArray) (i : Nat) : ∀ m, m ≤ 4 → valN s i m < 256 ^ m := by
  intro m hm
  induction m with
  | zero => simp [valN]
  | succ m ih =>
    have h := ih (by omega)
    have hb := byt_lt s (i + m)
    rw [valN, Nat.pow_succ]
    omega

set_option maxRecDepth 20000 in
set_option maxHeartbeats 2000000 in
theorem kvalue_on (s : ByteArray) (w : World) (h : 4 ≤ s.size) :
    Calls Tryz.prog 53 #[.string s, .int .i64 4] w fun e w' => e = .returned (.int .i64 ((valN s 0 4 : Nat) : Int)) ∧ Below w.heap.size w w' := by
  go_enter Tryz.func53, Tryz.ntmps53
  go_wp2_with fail
  go_loopw [5, 6] (fun v i wr => ∃ m : Nat, m ≤ 4 ∧ i = .int .i64 m ∧ v = .int .i64 ((valN s 0 m : Nat) : Int) ∧ Hid (Below w.heap.size w wr)) (fun _ i _ => 4 - (intOf i).toNat)
  case atStart => exact ⟨0, Nat.zero_le _, rfl, rfl, Below.refl _ _⟩
  case round =>
    obtain ⟨m, hm, rfl, rfl, hb⟩ := hrel
    by_cases hlt : m < 4
    · have hms : (m : Int) < 4 := by omega
      have hml : (m : Int) < (s.size : Int) := by omega
      have hix := idxV s m (by omega)
      have hbt := byt_lt s m
      have hv := valN_most s 0 m (by omega)
      have hp : 256 ^ m ≤ 16777216 := Nat.le_trans (Nat.pow_le_pow_right (by decide) (show m ≤ 3 by omega)) (by decide)
      have HN : Hid (((valN s 0 (m + 1) : Nat) : Int) = ((valN s 0 m : Nat) : Int) * 256 + ((byt s m : Nat) : Int)) := by
        show ((valN s 0 (m + 1) : Nat) : Int) = _
        rw [valN, Nat.zero_add]
        omega
      generalize valN s 0 m = vv at hv HN ⊢
      generalize byt s m = bb at hix hbt HN ⊢
      have w1 : IntKind.i64.wrap ((vv : Int) * 256) = (vv : Int) * 256 := by rw [IntKind.wrap_i64] <;> omega
      have w2 : IntKind.i64.wrap (bb : Int) = (bb : Int) := by rw [IntKind.wrap_i64] <;> omega
      have w3 : IntKind.i64.wrap ((vv : Int) * 256 + (bb : Int)) = (vv : Int) * 256 + (bb : Int) := by rw [IntKind.wrap_i64] <;> omega
      clear hv hp hbt h
      go_wp2
      go_roundw
      case rel =>
        have R : ∃ m' : Nat, m' ≤ 4 ∧ Value.int .i64 ((m : Int) + 1) = .int .i64 m' ∧ Value.int .i64 ((vv : Int) * 256 + (bb : Int)) = .int .i64 ((valN s 0 m' : Nat) : Int) ∧ Hid (Below w.heap.size w wr) := ⟨m + 1, by omega, by go_num, by rw [HN.out], hb.out⟩
        first | exact R | ((repeat apply Exists.intro); exact ⟨R, rfl⟩)
      case measure => simp [intOf]; omega
    · obtain rfl : m = 4 := by omega
      go_wp2
      go_ret
      exact ⟨rfl, hb.out⟩

set_option maxRecDepth 20000 in
theorem lesser_any (a b : Int) (w : World) : Calls Tryz.prog 32 #[.int .i64 a, .int .i64 b] w fun e w' => e = .returned (.int .i64 (if a < b then a else b)) ∧ Below w.heap.size w w' := by
  by_cases h : a < b
  · rw [if_pos h]
    go_enter Tryz.func32, Tryz.ntmps32
    go_wp2
    go_ret
    exact ⟨rfl, Below.refl _ _⟩
  · rw [if_neg h]
    go_enter Tryz.func32, Tryz.ntmps32
    go_wp2
    go_ret
    exact ⟨rfl, Below.refl _ _⟩
end Go.Proofs.YtgaoeoijdpdjiabGreatDoor

namespace Go.Proofs.YtgaoeoijdpdjiabGreatDoor
open Go.RowKit

/-- A set that is right, as its pair of numbers. -/
structure RSet (k : Int) (b x e f t l : Nat) : Prop where
  pr : Pair b x e f
  kk : k = 1 ∨ k = 2
  t1 : 1 ≤ t
  t2 : t ≤ 4
  l1 : 1 ≤ l
  l2 : l ≤ 3
  r : rightB k b x t l = true

theorem pairB {b x e f : Nat} (h : Pair b x e f) : (b = 4 ∨ b = 8) ∧ (x = 4 ∨ x = 16) := by
  unfold Pair at h
  omega
end Go.Proofs.YtgaoeoijdpdjiabGreatDoor
