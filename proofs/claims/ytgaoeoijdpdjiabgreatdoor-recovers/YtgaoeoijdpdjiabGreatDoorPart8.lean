/-
  Records as texts: plain functions and what holds of them: the check sum tells one byte from another. What the walks of sets.Digits share: the row of digits as it grows. sets.Measure at the sets that are right, by the two numbers that its digits hang on. Seeds and a place that come in by value, opened.
-/
import Derived.Test.YtgaoeoijdpdjiabGreatDoorPart1
import Derived.Test.YtgaoeoijdpdjiabGreatDoorPart4
import Derived.Test.YtgaoeoijdpdjiabGreatDoorPart6
import Derived.Deep.RegionHeld3
import Derived.Deep.DrawnRows
import Derived.ShutString
namespace Go.Proofs.YtgaoeoijdpdjiabGreatDoor
/-- The byte at a place (0 behind the end). -/
def byt (s : ByteArray) (k : Nat) : Nat := (s.data.toList.map UInt8.toNat).getD k 0
theorem byt_lt (s : ByteArray) (k : Nat) : byt s k < 256 := byte_lt s k
theorem byt_of (s : ByteArray) (k : Nat) (h : k < s.size) : byt s k = (s[k]'h).toNat := byte_eq s k h
theorem byt_ext (s t : ByteArray) (hz : s.size = t.size) (h : ∀ k, k < s.size → byt s k = byt t k) : s = t := by
  apply ByteArray.ext
  apply Array.ext
  · exact hz
  · intro i h1 h2
    have e := h i h1
    rw [byt_of s i h1, byt_of t i h2] at e
    exact UInt8.toNat_inj.1 e
theorem byt_left (x y : ByteArray) (k : Nat) (h : k < x.size) : byt (x ++ y) k = byt x k := by
  have h1 : k < x.data.toList.length := h
  simp only [byt, ByteArray.data_append, Array.toList_append, List.map_append, List.getD_eq_getElem?_getD]
  rw [List.getElem?_append_left (by rw [List.length_map]; exact h1)]
theorem byt_right (x y : ByteArray) (k : Nat) (h : x.size ≤ k) : byt (x ++ y) k = byt y (k - x.size) := by
  have h1 : x.data.toList.length ≤ k := h
  simp only [byt, ByteArray.data_append, Array.toList_append, List.map_append, List.getD_eq_getElem?_getD]
  rw [List.getElem?_append_right (by rw [List.length_map]; exact h1), List.length_map]
  rfl
theorem byt_part (s : ByteArray) (a b k : Nat) (hb : b ≤ s.size) (h : a + k < b) : byt (s.extract a b) k = byt s (a + k) := by
  rw [byt_of (s.extract a b) k (by rw [ByteArray.size_extract]; omega), byt_of s (a + k) (by omega), ByteArray.getElem_extract]
theorem byt_num (k : Nat) (v : Int) (j : Nat) (h : j < k) : (byt (numB k v) j : Int) = v / 256 ^ (k - 1 - j) % 256 := by
  have e : ∀ (k j : Nat), j < k → (numL k v).getD j 0 = (v / 256 ^ (k - 1 - j) % 256).toNat := by
    intro k
    induction k with
    | zero => intro j h; omega
    | succ k ih =>
      intro j h
      cases j with
      | zero => simp [numL]
      | succ j =>
        rw [numL, List.getD_cons_succ, ih j (by omega)]
        rw [show k + 1 - 1 - (j + 1) = k - 1 - j by omega]
  have e1 : byt (numB k v) j = (numL k v).getD j 0 := by
    unfold byt numB
    have hm : List.map UInt8.toNat (List.map UInt8.ofNat (numL k v)) = numL k v := by
      rw [List.map_map]
      refine (List.map_congr_left (g := id) ?_).trans (List.map_id _)
      intro d hd
      exact (UInt8.toNat_ofNat_of_lt' (numL_lt k v d hd))
    simp only [hm]
  rw [e1, e k j h, Int.toNat_of_nonneg (Int.emod_nonneg _ (by decide))]
/-- The value of k bytes from a place on, the highest first. -/
def valN (s : ByteArray) (i : Nat) : Nat → Nat
  | 0 => 0
  | k + 1 => valN s i k * 256 + byt s (i + k)
theorem valN_lt (s : ByteArray) (i : Nat) : valN s i 4 < 4294967296 := by
  have h0 := byt_lt s (i + 0)
  have h1 := byt_lt s (i + 1)
  have h2 := byt_lt s (i + 2)
  have h3 := byt_lt s (i + 3)
  simp only [valN]
  omega
theorem valN_part (s : ByteArray) (a b k : Nat) (hb : b ≤ s.size) (h : a + k ≤ b) : valN (s.extract a b) 0 k = valN s a k := by
  induction k with
  | zero => rfl
  | succ k ih => rw [valN, valN, ih (by omega), byt_part s a b _ hb (by omega), Nat.zero_add]
/-- Four bytes are the number that they tell. -/
theorem num_val (s : ByteArray) (i : Nat) (h : i + 4 ≤ s.size) : numB 4 (valN s i 4 : Nat) = s.extract i (i + 4) := by
  have h0 := byt_lt s (i + 0)
  have h1 := byt_lt s (i + 1)
  have h2 := byt_lt s (i + 2)
  have h3 := byt_lt s (i + 3)
  apply byt_ext
  · rw [numB_size, ByteArray.size_extract]; omega
  · intro k hk
    rw [numB_size] at hk
    have e1 := byt_num 4 (valN s i 4 : Nat) k hk
    have e2 := byt_part s i (i + 4) k h (by omega)
    rw [e2]
    generalize byt (numB 4 (valN s i 4 : Nat)) k = z at e1 ⊢
    clear e2
    have hc : k = 0 ∨ k = 1 ∨ k = 2 ∨ k = 3 := by omega
    simp only [valN] at e1
    rcases hc with rfl | rfl | rfl | rfl <;> simp only [Nat.reduceSub, Int.reducePow] at e1 <;> omega
theorem val_num (v : Int) (h0 : 0 ≤ v) (h1 : v < 4294967296) : (valN (numB 4 v) 0 4 : Int) = v := by
  have a0 := byt_num 4 v 0 (by decide)
  have a1 := byt_num 4 v 1 (by decide)
  have a2 := byt_num 4 v 2 (by decide)
  have a3 := byt_num 4 v 3 (by decide)
  simp only [valN, Nat.zero_add]
  simp only [Nat.reduceSub, Int.reducePow] at a0 a1 a2 a3
  omega
theorem num_inj (u v : Int) (hu : 0 ≤ u) (hu1 : u < 4294967296) (hv : 0 ≤ v) (hv1 : v < 4294967296) (h : numB 4 u = numB 4 v) : u = v := by
  rw [← val_num u hu hu1, ← val_num v hv hv1, h]
/-- The mark, and the eight zero bytes. -/
def markB : ByteArray := ⟨#[115, 103, 110, 116]⟩
def blankB : ByteArray := ⟨#[0, 0, 0, 0, 0, 0, 0, 0]⟩
/-- The sum of a text. -/
def sumV (s : ByteArray) : Int := 4294967295 - ((crcTo s s.size : Nat) : Int)
/-- A record's text, but for its sum; the whole text. -/
def sealT (q b : Int) (d : ByteArray) : ByteArray := markB ++ numB 4 q ++ d ++ numB 4 b ++ blankB
def sealS (q b : Int) (d : ByteArray) : ByteArray := sealT q b d ++ numB 4 (sumV (sealT q b d))
/-- A record that may be. -/
abbrev RecR (q b : Int) (d : ByteArray) : Prop := 1 ≤ q ∧ q ≤ 2147483647 ∧ 0 ≤ b ∧ b ≤ 4096 ∧ d.size = 8
theorem sealT_size (q b : Int) (d : ByteArray) (h : d.size = 8) : (sealT q b d).size = 28 := by
  simp only [sealT, ByteArray.size_append, numB_size, h]; rfl
theorem sealS_size (q b : Int) (d : ByteArray) (h : d.size = 8) : (sealS q b d).size = 32 := by
  rw [sealS, ByteArray.size_append, sealT_size q b d h, numB_size]
theorem extract_cat (s : ByteArray) (a b c : Nat) (h1 : a ≤ b) (h2 : b ≤ c) (h3 : c ≤ s.size) : s.extract a b ++ s.extract b c = s.extract a c := by
  apply byt_ext
  · simp only [ByteArray.size_append, ByteArray.size_extract]; omega
  · intro k hk
    simp only [ByteArray.size_append, ByteArray.size_extract] at hk
    by_cases h : k < b - a
    · rw [byt_left _ _ _ (by rw [ByteArray.size_extract]; omega), byt_part _ _ _ _ (by omega) (by omega), byt_part _ _ _ _ (by omega) (by omega)]
    · rw [byt_right _ _ _ (by rw [ByteArray.size_extract]; omega), ByteArray.size_extract, byt_part _ _ _ _ (by omega) (by omega), byt_part _ _ _ _ (by omega) (by omega)]
      congr 1; omega
theorem extract_all (s : ByteArray) (n : Nat) (h : s.size = n) : s.extract 0 n = s := by
  apply byt_ext
  · rw [ByteArray.size_extract]; omega
  · intro k hk
    rw [ByteArray.size_extract] at hk
    rw [byt_part _ _ _ _ (by omega) (by omega), Nat.zero_add]
/-- What stands in a text where a record has its parts. -/
def seqOf (s : ByteArray) : Int := (valN s 4 4 : Nat)
def boundOf (s : ByteArray) : Int := (valN s 16 4 : Nat)
def idOf (s : ByteArray) : ByteArray := s.extract 8 16
theorem app_inj {a b c d : ByteArray} (h : a ++ b = c ++ d) (hz : a.size = c.size) : a = c ∧ b = d := by
  have hs := congrArg ByteArray.size h
  simp only [ByteArray.size_append] at hs
  refine ⟨byt_ext _ _ hz ?_, byt_ext _ _ (by omega) ?_⟩
  · intro k hk
    have e : byt (a ++ b) k = byt (c ++ d) k := by rw [h]
    rwa [byt_left _ _ _ hk, byt_left _ _ _ (by omega)] at e
  · intro k hk
    have e : byt (a ++ b) (a.size + k) = byt (c ++ d) (a.size + k) := by rw [h]
    rw [byt_right _ _ _ (by omega), byt_right _ _ _ (by omega)] at e
    rwa [show a.size + k - a.size = k by omega, show a.size + k - c.size = k by omega] at e
theorem seq_seal (q b : Int) (d : ByteArray) (h : RecR q b d) : seqOf (sealS q b d) = q ∧ boundOf (sealS q b d) = b ∧ idOf (sealS q b d) = d := by
  obtain ⟨h1, h2, h3, h4, h5⟩ := h
  have hs := sealS_size q b d h5
  have hT := sealT_size q b d h5
  have hm : markB.size = 4 := rfl
  have hz : ∀ u : ByteArray, u.size = 32 → (u.extract 0 4).size = 4 ∧ (u.extract 4 8).size = 4 ∧ (u.extract 8 16).size = 8 ∧ (u.extract 16 20).size = 4 := by
    intro u hu
    simp only [ByteArray.size_extract]; omega
  have H0 := fun (u : ByteArray) (hu : u.size = 32) => show u.extract 0 4 ++ u.extract 4 8 ++ u.extract 8 16 ++ u.extract 16 20 ++ u.extract 20 28 ++ u.extract 28 32 = u by
    rw [extract_cat u 0 4 8 (by omega) (by omega) (by omega), extract_cat u 0 8 16 (by omega) (by omega) (by omega), extract_cat u 0 16 20 (by omega) (by omega) (by omega), extract_cat u 0 20 28 (by omega) (by omega) (by omega), extract_cat u 0 28 32 (by omega) (by omega) (by omega), extract_all u 32 hu]
  have E := H0 _ hs
  obtain ⟨z0, z4, z8, z16⟩ := hz _ hs
  have z20 : ((sealS q b d).extract 20 28).size = 8 := by rw [ByteArray.size_extract]; omega
  rw [show ∀ x : ByteArray, (x = sealS q b d) = (x = markB ++ numB 4 q ++ d ++ numB 4 b ++ blankB ++ numB 4 (sumV (sealT q b d))) from fun x => by rw [sealS]; rfl] at E
  obtain ⟨E, -⟩ := app_inj E (by simp only [ByteArray.size_append, numB_size, z0, z4, z8, z16, z20, h5]; rfl)
  obtain ⟨E, -⟩ := app_inj E (by simp only [ByteArray.size_append, numB_size, z0, z4, z8, z16, h5]; rfl)
  obtain ⟨E, E3⟩ := app_inj E (by simp only [ByteArray.size_append, numB_size, z0, z4, z8, h5]; rfl)
  obtain ⟨E, E2⟩ := app_inj E (by simp only [ByteArray.size_append, numB_size, z0, z4]; rfl)
  obtain ⟨E, E1⟩ := app_inj E (by simp only [z0]; rfl)
  refine ⟨?_, ?_, E2⟩
  · rw [← num_val _ _ (by omega)] at E1
    have := valN_lt (sealS q b d) 4
    exact num_inj _ _ (by unfold seqOf; omega) (by unfold seqOf; omega) (by omega) (by omega) E1
  · rw [← num_val _ _ (by omega)] at E3
    have := valN_lt (sealS q b d) 16
    exact num_inj _ _ (by unfold boundOf; omega) (by unfold boundOf; omega) (by omega) (by omega) E3
end Go.Proofs.YtgaoeoijdpdjiabGreatDoor

namespace Go.Proofs.YtgaoeoijdpdjiabGreatDoor
open Go.RowKit
/-- A text's bytes as numbers. -/
def bytesN (m : ByteArray) : List Nat := m.data.toList.map UInt8.toNat
theorem bytesN_length (m : ByteArray) : (bytesN m).length = m.size := by simp [bytesN]
/-- The row of n places behind k bytes. -/
def rowAt (x e n : Nat) (A : List Nat) (k : Nat) : List Int := (firsts x e (A.take k)).map Int.ofNat ++ List.replicate (n - k * e) 0
theorem rowAt_length (x e n : Nat) (A : List Nat) (k : Nat) (hk : k ≤ A.length) (hn : k * e ≤ n) : (rowAt x e n A k).length = n := by
  simp [rowAt, firsts_length, Nat.min_eq_left hk]; omega
theorem firsts_append (x e : Nat) (a b : List Nat) : firsts x e (a ++ b) = firsts x e a ++ firsts x e b := by
  induction a with
  | nil => rfl
  | cons c r ih => simp [firsts, ih]
theorem rowAt_step (x e n : Nat) (A : List Nat) (k : Nat) (hk : k < A.length) (hn : (k + 1) * e ≤ n) :
    laidTo (rowAt x e n A k) (k * e) e (digs x e (A[k]?.getD 0)) 0 = rowAt x e n A (k + 1) := by
  have e1 : A.take (k + 1) = A.take k ++ [A[k]] := List.take_succ_eq_append_getElem hk
  have h1 : ((firsts x e (A.take k)).map Int.ofNat).length = k * e := by simp [firsts_length, Nat.min_eq_left (Nat.le_of_lt hk)]
  have hke : (k + 1) * e = k * e + e := Nat.succ_mul k e
  unfold laidTo rowAt
  rw [e1, firsts_append, List.map_append]
  simp only [List.getElem?_eq_getElem hk, Option.getD_some, Nat.add_zero, List.drop_zero, firsts, List.append_nil]
  rw [List.take_left' h1, List.drop_append, List.drop_of_length_le (by rw [h1]; omega), List.nil_append, h1, List.drop_replicate]
  congr 2
  omega
theorem rowAt_last (x e f n : Nat) (A : List Nat) (hn : n = A.length * e + f) :
    laidTo (rowAt x e n A A.length) (A.length * e) f (digs x f (lackN x (firsts x e A))) 0 = (digitsN x e f A).map Int.ofNat := by
  have h1 : ((firsts x e A).map Int.ofNat).length = A.length * e := by simp [firsts_length]
  unfold laidTo rowAt digitsN
  rw [List.take_of_length_le (Nat.le_refl A.length)]
  simp only [Nat.add_zero, List.drop_zero]
  rw [List.take_left' h1, List.drop_of_length_le (by simp [firsts_length]; omega), List.append_nil, List.map_append]
theorem rowAt_take (x e n : Nat) (A : List Nat) : (rowAt x e n A A.length).take (A.length * e) = (firsts x e A).map Int.ofNat := by
  have h1 : ((firsts x e A).map Int.ofNat).length = A.length * e := by simp [firsts_length]
  unfold rowAt
  rw [List.take_of_length_le (Nat.le_refl A.length), List.take_left' h1]
theorem row_new (w : World) (c : Array Value) (x e n : Nat) (A : List Nat) (h : c = (List.replicate n (Value.int .i64 0)).toArray) : RowZ (w.alloc (.cells c 3)) w.heap.size (rowAt x e n A 0) := by
  subst h
  unfold RowZ rowAt
  rw [heap_alloc_new]
  simp [firsts]
theorem byte_at (m : ByteArray) (k : Nat) (h : k < m.size) : (bytesN m)[k]?.getD 0 = (m[k]'h).toNat := by
  simp only [bytesN, List.getElem?_map]
  rw [List.getElem?_eq_getElem (by simpa using h)]
  rfl
end Go.Proofs.YtgaoeoijdpdjiabGreatDoor

namespace Go.Proofs.YtgaoeoijdpdjiabGreatDoor
open Go.RowKit
theorem wrap_sig_4_4 (t l : Int) (h1 : 1 ≤ t) (h2 : t ≤ 4) (h3 : 1 ≤ l) (h4 : l ≤ 3) : IntKind.i64.wrap (IntKind.i64.wrap 8 + IntKind.i64.wrap (IntKind.i64.wrap (l * IntKind.i64.wrap (19 + t)) * 4)) = sigZ 4 4 t l := by
  rcases (show t = 1 ∨ t = 2 ∨ t = 3 ∨ t = 4 by omega) with rfl | rfl | rfl | rfl <;> rcases (show l = 1 ∨ l = 2 ∨ l = 3 by omega) with rfl | rfl | rfl <;> rfl
set_option maxHeartbeats 1000000 in
theorem measure_4_4 (k t l : Int) (w : World) (hk : k = 1 ∨ k = 2) (h1 : 1 ≤ t) (h2 : t ≤ 4) (h3 : 1 ≤ l) (h4 : l ≤ 3) :
    Calls Tryz.prog 155 #[.agg #[.int .i64 k, .int .i64 4, .int .i64 4, .int .i64 t, .int .i64 l]] w fun e w' =>
      e = .returned (.tuple #[.agg #[.int .i64 16, .int .i64 3, .int .i64 19, .int .i64 (totalZ t l), .int .i64 (sigZ 4 4 t l), .int .i64 13], .int .i64 0]) ∧ Below w.heap.size w w' := by
  have HR : Hid (rightB k 4 4 t l = true) := by show rightB k 4 4 t l = true; simp [rightB, hk, h1, h2, h3, h4]
  have hsh := shift_total t l h1 h2 h3 h4
  go_enter Tryz.func155, Tryz.ntmps155
  go_wp2_with (go_at_call 231; refine (check_any _ _ _ _ _ _).mono ?_; rintro e w' ⟨rfl, hb⟩; rw [HR.out]; obtain ⟨hc, hf⟩ := bcell hb; have hz := hb.size; simp at hz; have c1 : w'.cell? ⟨w.heap.size, 1, none⟩ = some (.int .i64 4) := (hb.cell (by simp <;> omega)).trans (by simp [go_sem, World.cell?_alloc_past]); have c2 : w'.cell? ⟨w.heap.size, 2, none⟩ = some (.int .i64 4) := (hb.cell (by simp <;> omega)).trans (by simp [go_sem, World.cell?_alloc_past]); have c3 : w'.cell? ⟨w.heap.size, 3, none⟩ = some (.int .i64 t) := (hb.cell (by simp <;> omega)).trans (by simp [go_sem, World.cell?_alloc_past]); have c4 : w'.cell? ⟨w.heap.size, 4, none⟩ = some (.int .i64 l) := (hb.cell (by simp <;> omega)).trans (by simp [go_sem, World.cell?_alloc_past]))
  obtain ⟨z0, z1, z2, z3, z4, z5⟩ := six_zero hb
  have HB : Hid (Below w.heap.size w w') := ((((Below.refl _ _).alloc (Nat.le_refl _) _).alloc (by simp) _).trans (hb.mono (by simp; omega)))
  have f0 : ∀ o, w'.frozen? ⟨w.heap.size + 1, o, none⟩ = false := fun o => (hf _ o (by simp)).trans (by simp [go_sem])
  clear hb hc hf
  go_quiet ((go_at_call 232; exact Calls.quiet_of_same (perByte_4 _)))
  go_wp2_with fail
  refine (count_48 _).mono ?_
  rintro e w'' ⟨rfl, rfl⟩
  go_wp2
  go_region_held3 (fun w' => w'.cell? ⟨w.heap.size, 1, none⟩ = some (.int .i64 4) ∧ w'.cell? ⟨w.heap.size, 3, none⟩ = some (.int .i64 t) ∧ w'.cell? ⟨w.heap.size, 4, none⟩ = some (.int .i64 l)) (simp [go_sem, c1, c3, c4]) (fail)
  go_wp2
  rw [wrap_sig_4_4 t l h1 h2 h3 h4]
  refine bodyPost_ret (v := .tuple #[.agg #[.int .i64 16, .int .i64 3, .int .i64 19, .int .i64 (totalZ t l), .int .i64 (sigZ 4 4 t l), .int .i64 13], .int .i64 0]) (by simp [results, Tryz.results155, go_sem, z0, z1, z2, z3, z4, z5]; rfl) rfl ⟨rfl, ?_⟩
  repeat refine Below.setCell ?_ (by simp) _
  exact below_drewN HB.out _
end Go.Proofs.YtgaoeoijdpdjiabGreatDoor

namespace Go.Proofs.YtgaoeoijdpdjiabGreatDoor
open Go.ChangeShapes Go.WideShapes Go.ChangeAt Go.RowKit
open Go.ChangeMaps (open_string shut_string)
theorem array3 {a : Array Value} (h : a.size = 3) : ∃ c0 c1 c2, a = #[c0, c1, c2] := by
  obtain ⟨l⟩ := a
  match l, h with
  | [c0, c1, c2], _ => exact ⟨c0, c1, c2, rfl⟩
theorem cellsSeeds : Tryz.prog.cellsOf 42 = 3 := by kernel_rfl
theorem cellsStr : Tryz.prog.cellsOf 9 = 1 := by kernel_rfl
end Go.Proofs.YtgaoeoijdpdjiabGreatDoor
