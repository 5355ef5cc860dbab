/-
  The document's own sizes at the sets with Bytes 4 and Wide 4. Records as texts: plain functions and what holds of them: the check sum tells one byte from another.
-/
import Derived.Test.YtgaoeoijdpdjiaaDoorPart7
import Derived.Handy
import Derived.Deep.RegionHeld3
import Derived.Deep.DrawnRows
import Derived.Test.YtgaoeoijdpdjiaaDoorPartDSum
namespace Go.Proofs.YtgaoeoijdpdjiaaDoor
open Go.RowKit

theorem wrap_ref_4_4 (t l : Nat) (h1 : 1 ≤ t) (h2 : t ≤ 4) (h3 : 1 ≤ l) (h4 : l ≤ 3) : wrap64 (8 + wrap64 (wrap64 ((l : Int) * (19 + (t : Int))) * 4)) = sigZ 4 4 t l := by
  rcases (show t = 1 ∨ t = 2 ∨ t = 3 ∨ t = 4 by omega) with rfl | rfl | rfl | rfl <;> rcases (show l = 1 ∨ l = 2 ∨ l = 3 by omega) with rfl | rfl | rfl <;> simp [wrap64, sigZ, chainsZ, firstZ, lastZ, each]

set_option maxHeartbeats 1000000 in
theorem refSizes_4_4 (k : Int) (t l : Nat) (w : World) (h1 : 1 ≤ t) (h2 : t ≤ 4) (h3 : 1 ≤ l) (h4 : l ≤ 3) :
    Calls Tryd.prog 43 #[.agg #[.int .i64 k, .int .i64 4, .int .i64 4, .int .i64 t, .int .i64 l]] w fun r w' =>
      r = .returned (.agg #[.int .i64 16, .int .i64 3, .int .i64 19, .int .i64 (totalZ t l), .int .i64 (sigZ 4 4 t l), .int .i64 13]) ∧ Below w.heap.size w w' := by
  go_enter Tryd.func43, Tryd.ntmps43
  go_wp2
  go_rounds 5
  go_rounds 4
  generalize hW : (((w.alloc (.cells #[.int .i64 k, .int .i64 4, .int .i64 4, .int .i64 t, .int .i64 l] 25)).alloc (.cells #[.int .i64 0, .int .i64 0, .int .i64 0, .int .i64 0, .int .i64 0, .int .i64 0] 68)).alloc (.cells #[.int .i64 16, .int .i64 3, .int .i64 19, .int .i64 0, .int .i64 0, .int .i64 0] 68)) = W
  have F5 : Five W w.heap.size k 4 4 t l := by subst hW; refine ⟨?_, ?_, ?_, ?_, ?_⟩ <;> simp [go_sem, World.cell?_alloc_past]
  have Z6 : Six W (w.heap.size + 1) 0 0 0 0 0 0 := by subst hW; refine ⟨?_, ?_, ?_, ?_, ?_, ?_⟩ <;> simp [go_sem, World.cell?_alloc_past]
  have S6 : Six W (w.heap.size + 1 + 1) 16 3 19 0 0 0 := by subst hW; refine ⟨?_, ?_, ?_, ?_, ?_, ?_⟩ <;> simp [go_sem, World.cell?_alloc_at]
  have fz : ∀ o, W.frozen? ⟨w.heap.size + 1, o, none⟩ = false := by subst hW; intro o; simp [go_sem]
  have fz2 : ∀ o, W.frozen? ⟨w.heap.size + 1 + 1, o, none⟩ = false := by subst hW; intro o; simp [go_sem]
  have hsz : w.heap.size + 3 = W.heap.size := by subst hW; simp
  have HB := hideM (by subst hW; exact (((Below.refl _ _).alloc (Nat.le_refl _) _).alloc (by simp) _).alloc (by simp; omega) _ : Below w.heap.size w W)
  clear hW
  have hl2 : 2 ^ t ≤ 16 := Nat.le_trans (Nat.pow_le_pow_right (by decide) h2) (by decide)
  have hpw : (2 ^ t) ^ l = 2 ^ (t * l) := (Nat.pow_mul 2 t l).symm
  have hpl : (2 ^ t) ^ l ≤ 65536 := Nat.le_trans (Nat.pow_le_pow_left hl2 l) (Nat.le_trans (Nat.pow_le_pow_right (by decide) h4) (by decide))
  have HT : Hid ((((2 ^ t) ^ l : Nat) : Int) = totalZ t l) := by show (((2 ^ t) ^ l : Nat) : Int) = totalZ t l; rw [hpw]; unfold totalZ; rw [show ((t : Int) * (l : Int)).toNat = t * l by rw [← Int.natCast_mul]; rfl]; simp
  have HC1 := hideM (fun w' : World => leaves_any t k 4 4 l w' h2)
  have HC2 := hideM (fun w' : World => power_any (2 ^ t) l w' hl2 (by omega) hpl (Nat.one_le_two_pow))
  clear hl2 hpw hpl
  generalize 2 ^ t = q at HT HC1 HC2
  generalize q ^ l = T at HT HC2
  obtain ⟨c0, c1, c2, c3, c4⟩ := F5
  obtain ⟨z0, z1, z2, z3, z4, z5⟩ := Z6
  obtain ⟨s0, s1, s2, s3, s4, s5⟩ := S6
  go_region_held3 (fun w' => w'.cell? ⟨w.heap.size, 0, none⟩ = some (.int .i64 k) ∧ w'.cell? ⟨w.heap.size, 1, none⟩ = some (.int .i64 4) ∧ w'.cell? ⟨w.heap.size, 2, none⟩ = some (.int .i64 4) ∧ w'.cell? ⟨w.heap.size, 3, none⟩ = some (.int .i64 t) ∧ w'.cell? ⟨w.heap.size, 4, none⟩ = some (.int .i64 l)) (first | exact hk1 | exact five_other hk1 _ (by omega) | (simp [go_sem, c0, c1, c2, c3, c4]; done)) (first | (go_at_call 62; refine (HC1.out _).mono ?_; rintro r w1 ⟨rfl, hb1⟩; have hk1 := five_below (show Five W.drew w.heap.size k 4 4 t l from ⟨c0, c1, c2, c3, c4⟩) hb1 (by simp; omega); have hz1 := six_below (show Six W.drew (w.heap.size + 1) 0 0 0 0 0 0 from ⟨z0, z1, z2, z3, z4, z5⟩) hb1 (by simp; omega); have hs1 := six_below (show Six W.drew (w.heap.size + 1 + 1) 16 3 19 0 0 0 from ⟨s0, s1, s2, s3, s4, s5⟩) hb1 (by simp; omega); have fy : ∀ o, w1.frozen? ⟨w.heap.size + 1, o, none⟩ = false := (fun o => (hb1.frozen (by simp; omega)).trans (fz o)); have fy2 : ∀ o, w1.frozen? ⟨w.heap.size + 1 + 1, o, none⟩ = false := (fun o => (hb1.frozen (by simp; omega)).trans (fz2 o)); obtain ⟨y0, y1, y2, y3, y4, y5⟩ := hz1; obtain ⟨x0, x1, x2, x3, x4, x5⟩ := hs1) | (go_at_call 61; refine (HC2.out _).mono ?_; rintro r w2 ⟨rfl, rfl⟩))
  obtain ⟨m0, m1, m2, m3, m4⟩ := hk1
  have HSG := hideM (wrap_ref_4_4 t l h1 h2 h3 h4)
  go_wp2
  rw [HSG.out, HT.out]
  refine bodyPost_ret (v := .agg #[.int .i64 16, .int .i64 3, .int .i64 19, .int .i64 (totalZ t l), .int .i64 (sigZ 4 4 t l), .int .i64 13]) (by simp [results, Tryd.results43, go_sem, y0, y1, y2, y3, y4, y5]) rfl ⟨rfl, ?_⟩
  iterate 9 refine Below.setCell ?_ (show w.heap.size ≤ _ by simp <;> omega) _
  exact HB.out.drew.trans (hb1.mono (by simp; omega))
end Go.Proofs.YtgaoeoijdpdjiaaDoor

namespace Go.Proofs.YtgaoeoijdpdjiaaDoor

/-- The byte at a place (0 behind the end). -/
def byt (s : ByteArray) (k : Nat) : Nat := (s.data.toList.map UInt8.toNat).getD k 0
theorem byt_lt (s : ByteArray) (k : Nat) : byt s k < 256 := byte_lt s k

theorem top_bit (x : Nat) (h : x < 2147483648) : 2147483648 ≤ x ^^^ 3988292384 := by
  have h1 : (x ^^^ 3988292384).testBit 31 = true := by
    rw [Nat.testBit_xor, Nat.testBit_lt_two_pow (show x < 2 ^ 31 by omega)]
    decide
  have := Nat.ge_two_pow_of_testBit h1
  omega
theorem xor_right {a b c : Nat} (h : a ^^^ c = b ^^^ c) : a = b := by
  have e := congrArg (· ^^^ c) h
  simpa [Nat.xor_assoc, Nat.xor_self] using e
theorem xor_left {a b c : Nat} (h : c ^^^ a = c ^^^ b) : a = b := by
  rw [Nat.xor_comm c a, Nat.xor_comm c b] at h
  exact xor_right h
theorem crcStep_inj (u v : Nat) (hu : u < 4294967296) (hv : v < 4294967296) (h : crcStep u = crcStep v) : u = v := by
  unfold crcStep at h
  have tu := top_bit (u / 2) (by omega)
  have tv := top_bit (v / 2) (by omega)
  split at h <;> split at h
  · have := xor_right h
    omega
  · omega
  · omega
  · omega
theorem crcN_inj (n u v : Nat) (hu : u < 4294967296) (hv : v < 4294967296) (h : crcN n u = crcN n v) : u = v := by
  induction n with
  | zero => exact h
  | succ n ih => exact ih (crcStep_inj _ _ (crcN_lt n u hu) (crcN_lt n v hv) h)
theorem xor_lt32 (a b : Nat) (ha : a < 4294967296) (hb : b < 256) : a ^^^ b < 4294967296 := Nat.xor_lt_two_pow (n := 32) ha (Nat.lt_trans hb (by decide))
/-- One byte makes another sum. -/
theorem crcTo_same (s t : ByteArray) (k : Nat) (h : ∀ j, j < k → byt s j = byt t j) : crcTo s k = crcTo t k := by
  induction k with
  | zero => rfl
  | succ k ih =>
    have e : byt s k = byt t k := h k (by omega)
    show crcN 8 (crcTo s k ^^^ byt s k) = crcN 8 (crcTo t k ^^^ byt t k)
    rw [ih (fun j hj => h j (by omega)), e]
theorem crcTo_parts (s t : ByteArray) (a : Nat) (hs : ∀ j, j ≠ a → byt s j = byt t j) (ha : byt s a ≠ byt t a) : ∀ k, a < k → crcTo s k ≠ crcTo t k := by
  intro k
  induction k with
  | zero => intro h; omega
  | succ k ih =>
    intro hk e
    have e2 := crcN_inj 8 _ _ (xor_lt32 _ _ (crcTo_lt s k) (byte_lt s k)) (xor_lt32 _ _ (crcTo_lt t k) (byte_lt t k)) e
    change crcTo s k ^^^ byt s k = crcTo t k ^^^ byt t k at e2
    by_cases h : a = k
    · subst h
      rw [crcTo_same s t a (fun j hj => hs j (by omega))] at e2
      exact ha (xor_left e2)
    · rw [hs k (fun e => h e.symm)] at e2
      exact ih (by omega) (xor_right e2)

theorem byt_of (s : ByteArray) (k : Nat) (h : k < s.size) : byt s k = (s[k]'h).toNat := byte_eq s k h
theorem byt_ext (s t : ByteArray) (hz : s.size = t.size) (h : ∀ k, k < s.size → byt s k = byt t k) : s = t := by
  apply ByteArray.ext
  apply Array.ext
  · exact hz
  · intro i h1 h2
    have e := h i h1
    rw [byt_of s i h1, byt_of t i h2] at e
    exact UInt8.toNat_inj.1 e
theorem byt_left (x y : ByteArray) (k : Nat) (h : k < x.size) : byt (x ++ y) k = byt x k := by
  have h1 : k < x.data.toList.length := h
  simp only [byt, ByteArray.data_append, Array.toList_append, List.map_append, List.getD_eq_getElem?_getD]
  rw [List.getElem?_append_left (by rw [List.length_map]; exact h1)]
theorem byt_right (x y : ByteArray) (k : Nat) (h : x.size ≤ k) : byt (x ++ y) k = byt y (k - x.size) := by
  have h1 : x.data.toList.length ≤ k := h
  simp only [byt, ByteArray.data_append, Array.toList_append, List.map_append, List.getD_eq_getElem?_getD]
  rw [List.getElem?_append_right (by rw [List.length_map]; exact h1), List.length_map]
  rfl
theorem byt_part (s : ByteArray) (a b k : Nat) (hb : b ≤ s.size) (h : a + k < b) : byt (s.extract a b) k = byt s (a + k) := by
  rw [byt_of (s.extract a b) k (by rw [ByteArray.size_extract]; omega), byt_of s (a + k) (by omega), ByteArray.getElem_extract]
theorem byt_num (k : Nat) (v : Int) (j : Nat) (h : j < k) : (byt (numB k v) j : Int) = v / 256 ^ (k - 1 - j) % 256 := by
  have e : ∀ (k j : Nat), j < k → (numL k v).getD j 0 = (v / 256 ^ (k - 1 - j) % 256).toNat := by
    intro k
    induction k with
    | zero => intro j h; omega
    | succ k ih =>
      intro j h
      cases j with
      | zero => simp [numL]
      | succ j =>
        rw [numL, List.getD_cons_succ, ih j (by omega)]
        rw [show k + 1 - 1 - (j + 1) = k - 1 - j by omega]
  have e1 : byt (numB k v) j = (numL k v).getD j 0 := by
    unfold byt numB
    have hm : List.map UInt8.toNat (List.map UInt8.ofNat (numL k v)) = numL k v := by
      rw [List.map_map]
      refine (List.map_congr_left (g := id) ?_).trans (List.map_id _)
      intro d hd
      exact (UInt8.toNat_ofNat_of_lt' (numL_lt k v d hd))
    simp only [hm]
  rw [e1, e k j h, Int.toNat_of_nonneg (Int.emod_nonneg _ (by decide))]
/-- The value of k bytes from a place on, the highest first. -/
def valN (s : ByteArray) (i : Nat) : Nat → Nat
  | 0 => 0
  | k + 1 => valN s i k * 256 + byt s (i + k)
theorem valN_lt (s : ByteArray) (i : Nat) : valN s i 4 < 4294967296 := by
  have h0 := byt_lt s (i + 0)
  have h1 := byt_lt s (i + 1)
  have h2 := byt_lt s (i + 2)
  have h3 := byt_lt s (i + 3)
  simp only [valN]
  omega
theorem valN_part (s : ByteArray) (a b k : Nat) (hb : b ≤ s.size) (h : a + k ≤ b) : valN (s.extract a b) 0 k = valN s a k := by
  induction k with
  | zero => rfl
  | succ k ih => rw [valN, valN, ih (by omega), byt_part s a b _ hb (by omega), Nat.zero_add]
/-- Four bytes are the number that they tell. -/
theorem num_val (s : ByteArray) (i : Nat) (h : i + 4 ≤ s.size) : numB 4 (valN s i 4 : Nat) = s.extract i (i + 4) := by
  have h0 := byt_lt s (i + 0)
  have h1 := byt_lt s (i + 1)
  have h2 := byt_lt s (i + 2)
  have h3 := byt_lt s (i + 3)
  apply byt_ext
  · rw [numB_size, ByteArray.size_extract]; omega
  · intro k hk
    rw [numB_size] at hk
    have e1 := byt_num 4 (valN s i 4 : Nat) k hk
    have e2 := byt_part s i (i + 4) k h (by omega)
    rw [e2]
    generalize byt (numB 4 (valN s i 4 : Nat)) k = z at e1 ⊢
    clear e2
    have hc : k = 0 ∨ k = 1 ∨ k = 2 ∨ k = 3 := by omega
    simp only [valN] at e1
    rcases hc with rfl | rfl | rfl | rfl <;> simp only [Nat.reduceSub, Int.reducePow] at e1 <;> omega
theorem val_num (v : Int) (h0 : 0 ≤ v) (h1 : v < 4294967296) : (valN (numB 4 v) 0 4 : Int) = v := by
  have a0 := byt_num 4 v 0 (by decide)
  have a1 := byt_num 4 v 1 (by decide)
  have a2 := byt_num 4 v 2 (by decide)
  have a3 := byt_num 4 v 3 (by decide)
  simp only [valN, Nat.zero_add]
  simp only [Nat.reduceSub, Int.reducePow] at a0 a1 a2 a3
  omega
theorem num_inj (u v : Int) (hu : 0 ≤ u) (hu1 : u < 4294967296) (hv : 0 ≤ v) (hv1 : v < 4294967296) (h : numB 4 u = numB 4 v) : u = v := by
  rw [← val_num u hu hu1, ← val_num v hv hv1, h]

/-- The mark, and the eight zero bytes. -/
def markB : ByteArray := ⟨#[115, 103, 110, 116]⟩
def blankB : ByteArray := ⟨#[0, 0, 0, 0, 0, 0, 0, 0]⟩
theorem blank_num : numB 8 0 = blankB := by decide
/-- The sum of a text. -/
def sumV (s : ByteArray) : Int := 4294967295 - ((crcTo s s.size : Nat) : Int)
theorem sumV_lo (s : ByteArray) : 0 ≤ sumV s := by have := crcTo_lt s s.size; unfold sumV; omega
theorem sumV_hi (s : ByteArray) : sumV s < 4294967296 := by unfold sumV; omega
/-- A record's text, but for its sum; the whole text. -/
def sealT (q b : Int) (d : ByteArray) : ByteArray := markB ++ numB 4 q ++ d ++ numB 4 b ++ blankB
def sealS (q b : Int) (d : ByteArray) : ByteArray := sealT q b d ++ numB 4 (sumV (sealT q b d))
/-- A record that may be. -/
abbrev RecR (q b : Int) (d : ByteArray) : Prop := 1 ≤ q ∧ q ≤ 2147483647 ∧ 0 ≤ b ∧ b ≤ 4096 ∧ d.size = 8
theorem sealT_size (q b : Int) (d : ByteArray) (h : d.size = 8) : (sealT q b d).size = 28 := by
  simp only [sealT, ByteArray.size_append, numB_size, h]; rfl
theorem sealS_size (q b : Int) (d : ByteArray) (h : d.size = 8) : (sealS q b d).size = 32 := by
  rw [sealS, ByteArray.size_append, sealT_size q b d h, numB_size]

theorem extract_cat (s : ByteArray) (a b c : Nat) (h1 : a ≤ b) (h2 : b ≤ c) (h3 : c ≤ s.size) : s.extract a b ++ s.extract b c = s.extract a c := by
  apply byt_ext
  · simp only [ByteArray.size_append, ByteArray.size_extract]; omega
  · intro k hk
    simp only [ByteArray.size_append, ByteArray.size_extract] at hk
    by_cases h : k < b - a
    · rw [byt_left _ _ _ (by rw [ByteArray.size_extract]; omega), byt_part _ _ _ _ (by omega) (by omega), byt_part _ _ _ _ (by omega) (by omega)]
    · rw [byt_right _ _ _ (by rw [ByteArray.size_extract]; omega), ByteArray.size_extract, byt_part _ _ _ _ (by omega) (by omega), byt_part _ _ _ _ (by omega) (by omega)]
      congr 1; omega
theorem extract_all (s : ByteArray) (n : Nat) (h : s.size = n) : s.extract 0 n = s := by
  apply byt_ext
  · rw [ByteArray.size_extract]; omega
  · intro k hk
    rw [ByteArray.size_extract] at hk
    rw [byt_part _ _ _ _ (by omega) (by omega), Nat.zero_add]

/-- What stands in a text where a record has its parts. -/
def seqOf (s : ByteArray) : Int := (valN s 4 4 : Nat)
def boundOf (s : ByteArray) : Int := (valN s 16 4 : Nat)
def idOf (s : ByteArray) : ByteArray := s.extract 8 16

theorem app_inj {a b c d : ByteArray} (h : a ++ b = c ++ d) (hz : a.size = c.size) : a = c ∧ b = d := by
  have hs := congrArg ByteArray.size h
  simp only [ByteArray.size_append] at hs
  refine ⟨byt_ext _ _ hz ?_, byt_ext _ _ (by omega) ?_⟩
  · intro k hk
    have e : byt (a ++ b) k = byt (c ++ d) k := by rw [h]
    rwa [byt_left _ _ _ hk, byt_left _ _ _ (by omega)] at e
  · intro k hk
    have e : byt (a ++ b) (a.size + k) = byt (c ++ d) (a.size + k) := by rw [h]
    rw [byt_right _ _ _ (by omega), byt_right _ _ _ (by omega)] at e
    rwa [show a.size + k - a.size = k by omega, show a.size + k - c.size = k by omega] at e

/-- The text that is laid anew is the text, just if its mark, its blank and its sum are. -/
theorem again_iff (s : ByteArray) (hs : s.size = 32) :
    sealS (seqOf s) (boundOf s) (idOf s) = s ↔ s.extract 0 4 = markB ∧ s.extract 20 28 = blankB ∧ sumV (s.extract 0 28) = (valN s 28 4 : Nat) := by
  have e4 := num_val s 4 (by omega)
  have e16 := num_val s 16 (by omega)
  have e28 := num_val s 28 (by omega)
  have hl := valN_lt s 28
  have HT : sealT (seqOf s) (boundOf s) (idOf s) = markB ++ s.extract 4 8 ++ s.extract 8 16 ++ s.extract 16 20 ++ blankB := by
    rw [sealT, seqOf, boundOf, e4, e16, idOf]
  have H0 : s.extract 0 4 ++ s.extract 4 8 ++ s.extract 8 16 ++ s.extract 16 20 ++ s.extract 20 28 = s.extract 0 28 := by
    rw [extract_cat s 0 4 8 (by omega) (by omega) (by omega), extract_cat s 0 8 16 (by omega) (by omega) (by omega), extract_cat s 0 16 20 (by omega) (by omega) (by omega), extract_cat s 0 20 28 (by omega) (by omega) (by omega)]
  have H1 : s.extract 0 28 ++ s.extract 28 32 = s := by
    rw [extract_cat s 0 28 32 (by omega) (by omega) (by omega), extract_all s 32 hs]
  constructor
  · intro h
    have hd : (idOf s).size = 8 := by rw [idOf, ByteArray.size_extract]; omega
    have hp := app_inj (a := sealT (seqOf s) (boundOf s) (idOf s)) (c := s.extract 0 28) (h.trans H1.symm) (by rw [sealT_size _ _ _ hd, ByteArray.size_extract]; omega)
    obtain ⟨hp, hv⟩ := hp
    have hq := hp
    rw [HT, ← H0] at hp
    have hz : markB.size = (s.extract 0 4).size := by rw [ByteArray.size_extract, show markB.size = 4 from rfl]; omega
    obtain ⟨hp, h5⟩ := app_inj hp (by simp only [ByteArray.size_append]; omega)
    obtain ⟨hp, -⟩ := app_inj hp (by simp only [ByteArray.size_append]; omega)
    obtain ⟨hp, -⟩ := app_inj hp (by simp only [ByteArray.size_append]; omega)
    obtain ⟨hp, -⟩ := app_inj hp hz
    refine ⟨hp.symm, h5.symm, ?_⟩
    rw [hq, ← e28] at hv
    exact num_inj _ _ (sumV_lo _) (sumV_hi _) (by omega) (by omega) hv
  · rintro ⟨h1, h2, h3⟩
    have HQ : sealT (seqOf s) (boundOf s) (idOf s) = s.extract 0 28 := by rw [HT, ← H0, h1, h2]
    rw [sealS, HQ, h3, e28, H1]
theorem seq_seal (q b : Int) (d : ByteArray) (h : RecR q b d) : seqOf (sealS q b d) = q ∧ boundOf (sealS q b d) = b ∧ idOf (sealS q b d) = d := by
  obtain ⟨h1, h2, h3, h4, h5⟩ := h
  have hs := sealS_size q b d h5
  have hT := sealT_size q b d h5
  have hm : markB.size = 4 := rfl
  have hz : ∀ u : ByteArray, u.size = 32 → (u.extract 0 4).size = 4 ∧ (u.extract 4 8).size = 4 ∧ (u.extract 8 16).size = 8 ∧ (u.extract 16 20).size = 4 := by
    intro u hu
    simp only [ByteArray.size_extract]; omega
  have H0 := fun (u : ByteArray) (hu : u.size = 32) => show u.extract 0 4 ++ u.extract 4 8 ++ u.extract 8 16 ++ u.extract 16 20 ++ u.extract 20 28 ++ u.extract 28 32 = u by
    rw [extract_cat u 0 4 8 (by omega) (by omega) (by omega), extract_cat u 0 8 16 (by omega) (by omega) (by omega), extract_cat u 0 16 20 (by omega) (by omega) (by omega), extract_cat u 0 20 28 (by omega) (by omega) (by omega), extract_cat u 0 28 32 (by omega) (by omega) (by omega), extract_all u 32 hu]
  have E := H0 _ hs
  obtain ⟨z0, z4, z8, z16⟩ := hz _ hs
  have z20 : ((sealS q b d).extract 20 28).size = 8 := by rw [ByteArray.size_extract]; omega
  rw [show ∀ x : ByteArray, (x = sealS q b d) = (x = markB ++ numB 4 q ++ d ++ numB 4 b ++ blankB ++ numB 4 (sumV (sealT q b d))) from fun x => by rw [sealS]; rfl] at E
  obtain ⟨E, -⟩ := app_inj E (by simp only [ByteArray.size_append, numB_size, z0, z4, z8, z16, z20, h5]; rfl)
  obtain ⟨E, -⟩ := app_inj E (by simp only [ByteArray.size_append, numB_size, z0, z4, z8, z16, h5]; rfl)
  obtain ⟨E, E3⟩ := app_inj E (by simp only [ByteArray.size_append, numB_size, z0, z4, z8, h5]; rfl)
  obtain ⟨E, E2⟩ := app_inj E (by simp only [ByteArray.size_append, numB_size, z0, z4]; rfl)
  obtain ⟨E, E1⟩ := app_inj E (by simp only [z0]; rfl)
  refine ⟨?_, ?_, E2⟩
  · rw [← num_val _ _ (by omega)] at E1
    have := valN_lt (sealS q b d) 4
    exact num_inj _ _ (by unfold seqOf; omega) (by unfold seqOf; omega) (by omega) (by omega) E1
  · rw [← num_val _ _ (by omega)] at E3
    have := valN_lt (sealS q b d) 16
    exact num_inj _ _ (by unfold boundOf; omega) (by unfold boundOf; omega) (by omega) (by omega) E3
/-- A text with one other byte is no record's. -/
theorem spoiled (q b : Int) (d : ByteArray) (h : RecR q b d) (t : ByteArray) (ht : t.size = 32) (a : Nat) (ha : a < 32) (ho : ∀ j, j ≠ a → byt t j = byt (sealS q b d) j) (hn : byt t a ≠ byt (sealS q b d) a) : sealS (seqOf t) (boundOf t) (idOf t) ≠ t := by
  intro e
  have hs := sealS_size q b d h.2.2.2.2
  have e2 : sealS (seqOf (sealS q b d)) (boundOf (sealS q b d)) (idOf (sealS q b d)) = sealS q b d := by
    obtain ⟨h1, h2, h3⟩ := seq_seal q b d h
    rw [h1, h2, h3]
  generalize sealS q b d = s at *
  obtain ⟨a1, a2, a3⟩ := (again_iff t ht).1 e
  obtain ⟨b1, b2, b3⟩ := (again_iff s hs).1 e2
  have hpart : ∀ u : ByteArray, u.size = 32 → ∀ j, j < 28 → byt (u.extract 0 28) j = byt u j := by
    intro u hu j hj
    rw [byt_part u 0 28 j (by omega) (by omega), Nat.zero_add]
  have hout : ∀ u : ByteArray, u.size = 32 → ∀ j, 28 ≤ j → byt (u.extract 0 28) j = 0 := by
    intro u hu j hj
    have hz : (u.extract 0 28).size = 28 := by rw [ByteArray.size_extract]; omega
    unfold byt
    rw [List.getD_eq_getElem?_getD, List.getElem?_eq_none (by rw [List.length_map]; exact Nat.le_trans (Nat.le_of_eq hz) hj)]
    rfl
  have hzt : (t.extract 0 28).size = 28 := by rw [ByteArray.size_extract]; omega
  have hzs : (s.extract 0 28).size = 28 := by rw [ByteArray.size_extract]; omega
  by_cases h28 : a < 28
  · have hv : valN t 28 4 = valN s 28 4 := by
      simp only [valN]
      rw [ho (28 + 0) (by omega), ho (28 + 1) (by omega), ho (28 + 2) (by omega), ho (28 + 3) (by omega)]
    have hc := crcTo_parts (t.extract 0 28) (s.extract 0 28) a (by
      intro j hj
      by_cases h : j < 28
      · rw [hpart t ht j h, hpart s hs j h, ho j hj]
      · rw [hout t ht j (by omega), hout s hs j (by omega)]) (by rw [hpart t ht a h28, hpart s hs a h28]; exact hn) 28 h28
    rw [← hv, ← a3] at b3
    unfold sumV at b3
    rw [hzt, hzs] at b3
    omega
  · have hx : t.extract 0 28 = s.extract 0 28 := by
      apply byt_ext
      · rw [hzt, hzs]
      · intro k hk
        rw [hzt] at hk
        rw [hpart t ht k hk, hpart s hs k hk, ho k (by omega)]
    rw [hx, b3] at a3
    have a3 : valN s 28 4 = valN t 28 4 := by omega
    have hy : s.extract 28 32 = t.extract 28 32 := by
      have y1 := num_val s 28 (by omega)
      have y2 := num_val t 28 (by omega)
      rw [← y1, ← y2, a3]
    have y : byt (s.extract 28 32) (a - 28) = byt (t.extract 28 32) (a - 28) := by rw [hy]
    rw [byt_part _ _ _ _ (by omega) (by omega), byt_part _ _ _ _ (by omega) (by omega), show 28 + (a - 28) = a by omega] at y
    exact hn y.symm
end Go.Proofs.YtgaoeoijdpdjiaaDoor
