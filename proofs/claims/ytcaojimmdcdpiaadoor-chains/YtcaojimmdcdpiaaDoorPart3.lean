/-
  A whole number in so many bytes, the highest first: the program's Number and one. The contract of strings.Join over this program, laid by the shelf of the library. Texts one behind the other; strings.Join without a separator. What stays of a world's cells over a call. The program's words of two kinds: how many bytes; a word rotated.
-/
import Derived.Test.YtcaojimmdcdpiaaDoorPart2
import Derived.WalkSpells
import Derived.WalkLawsBesides
import Derived.Handy
import Derived.Laws.MakeOwn
import Derived.Shelf.Strings.OnBuilder
import Derived.Test.YtcaojimmdcdpiaaDoorProg
import Derived.Test.YtcaojimmdcdpiaaDoorPart1
namespace Go.Proofs.YtcaojimmdcdpiaaDoor
open Go.RowKit

/-- The k lowest bytes of a number, the highest first. -/
def numL : Nat → Int → List Nat
  | 0, _ => []
  | k + 1, v => (v / 256 ^ k % 256).toNat :: numL k v
theorem numL_length (k : Nat) (v : Int) : (numL k v).length = k := by induction k with | zero => rfl | succ k ih => simp [numL, ih]
theorem numL_lt (k : Nat) (v : Int) : ∀ d ∈ numL k v, d < 256 := by
  induction k with
  | zero => intro d h; cases h
  | succ k ih =>
    intro d h
    rcases List.mem_cons.1 h with rfl | h
    · omega
    · exact ih d h
/-- A number in k bytes. -/
def numB (k : Nat) (v : Int) : ByteArray := ⟨((numL k v).map UInt8.ofNat).toArray⟩
theorem numB_size (k : Nat) (v : Int) : (numB k v).size = k := by simp [numB, ByteArray.size, numL_length]

theorem infoU8 : (Tryd.prog.info? 5).map (fun i => (i.zero, i.size, i.bytes)) = some (some (.int .u8 0), 1, 1) := by kernel_rfl
theorem madeU8 (n : Nat) : madeCells (Value.int .u8 0).cells n = ((List.replicate n 0).map (fun n => Value.int .u8 ((n : Nat) : Int))).toArray := by
  apply Array.ext
  · simp [size_madeCells]
  · intro i h1 h2
    simp [madeCells, Value.cells, Nat.mod_one]
theorem makeU8 (k : Nat) (hk : k ≤ 8) (w : World) : (Instr.makeSlice 79 (.int .i64 k) (.int .i64 k)).run Tryd.prog w = .ok (.slice (some ⟨w.heap.size, 0, none⟩) k k) (w.alloc (.cells ((List.replicate k 0).map (fun n => Value.int .u8 ((n : Nat) : Int))).toArray 5)) := by
  obtain ⟨i0, hi, hz0, hz1, hz2⟩ := info_parts infoU8
  have h := run_make (P := Tryd.prog) w 79 5 i0 (.int .u8 0) Tryd.underlying79 hi hz0 .i64 .i64 k k (by omega) (by omega) (by rw [hz2]; omega) (by omega)
  rw [hz1, Nat.mul_one, Int.toNat_natCast, madeU8] at h
  exact h

/-- The text of a row of bytes. -/
theorem textRow (w : World) (g k : Nat) (D : List Nat) (hD : ∀ d ∈ D, d < 256) (h : RowK w g .u8 5 D) (hk : D.length = k) :
    (convert 79 9 (.slice (some ⟨g, 0, none⟩) k k)).run Tryd.prog w = .ok (.string ⟨(D.map UInt8.ofNat).toArray⟩) w := by
  have hl : (D.map UInt8.ofNat).length = k := by simp [hk]
  have hc := run_convert_bytes_back (P := Tryd.prog) w 79 9 5 ⟨g, 0, none⟩ k (D.map UInt8.ofNat) Tryd.underlying79 Tryd.underlying5 Tryd.underlying9 (by
    intro j hj
    have hj' : j < D.length := by simpa using hj
    have hadd : (Addr.mk g 0 none).add j = ⟨g, j, none⟩ := by unfold Addr.add; split <;> simp_all
    rw [hadd, h.cell hj']
    have hd := hD D[j] (List.getElem_mem hj')
    simp [at0, hj', Nat.mod_eq_of_lt hd])
  rw [hl] at hc
  exact hc

theorem numRow_step (k j : Nat) (v : Int) (h : j < k) : (List.replicate (j + 1) 0 ++ numL (k - (j + 1)) v).set j (v / 256 ^ (k - (j + 1)) % 256).toNat = List.replicate j 0 ++ numL (k - j) v := by
  rw [show k - j = (k - (j + 1)) + 1 by omega, numL, List.replicate_succ', List.append_assoc, List.set_append_right _ _ (by simp)]
  simp
theorem num_div (k j : Nat) (v : Int) (h : j < k) : v / 256 ^ (k - (j + 1)) / 256 = v / 256 ^ (k - j) := by
  rw [Int.ediv_ediv_of_nonneg (Int.le_of_lt (Int.pow_pos (by decide))), show k - j = (k - (j + 1)) + 1 by omega, Int.pow_succ]

set_option maxHeartbeats 1000000 in
theorem number_any (k : Nat) (v : Int) (w : World) (hk : k ≤ 8) :
    Calls Tryd.prog 140 #[.int .i64 v, .int .i64 k] w fun e w' => e = .returned (.string (numB k v)) ∧ Below w.heap.size w w' := by
  have hmk := makeU8 k hk
  go_enter Tryd.func140, Tryd.ntmps140
  go_wp2
  clear hmk
  go_loopw [0, 6] (fun t i wr => ∃ j : Nat, j ≤ k ∧ i = .int .i64 ((j : Int) - 1) ∧ t = .int .i64 (v / 256 ^ (k - j)) ∧ Hid (RowK wr w.heap.size .u8 5 (List.replicate j 0 ++ numL (k - j) v)) ∧ Hid (Below w.heap.size w wr)) (fun _ i _ => (intOf i + 1).toNat)
  case atStart =>
    refine ⟨k, Nat.le_refl _, rfl, by simp, ?_, (Below.refl _ _).alloc (Nat.le_refl _) _⟩
    show RowK _ _ _ _ _
    unfold RowK
    rw [heap_alloc_new]
    simp [numL]
  case round =>
    obtain ⟨j, hj, rfl, rfl, hr, hb⟩ := hrel
    by_cases h0 : 0 < j
    · obtain ⟨j, rfl⟩ : ∃ i, j = i + 1 := ⟨j - 1, by omega⟩
      have HD := hide (num_div k j v (by omega))
      have HS := hide (numRow_step k j v (by omega))
      have hl : (List.replicate (j + 1) 0 ++ numL (k - (j + 1)) v).length = k := by simp [numL_length]; omega
      have hc := hr.out.cell (i := j) (by omega)
      have hf := hr.out.free j
      generalize v / 256 ^ (k - (j + 1)) = q at HD HS ⊢
      clear hl
      go_wp2
      go_roundw
      case rel =>
        refine ⟨j, by omega, by go_num, ?_, ?_, ?_⟩
        · rw [← HD.out]
        · have := hr.out.set j (q % 256).toNat
          rw [HS.out, Int.toNat_of_nonneg (Int.emod_nonneg _ (by decide))] at this
          exact this
        · exact hb.out.setCell (Nat.le_refl _) _
      case measure => simp [intOf]
    · obtain rfl : j = 0 := by omega
      have HT := textRow wr w.heap.size k (numL k v) (numL_lt k v) hr.out (numL_length k v)
      go_wp2
      go_ret
      exact ⟨rfl, hb.out⟩

theorem one_any (v : Int) (w : World) :
    Calls Tryd.prog 116 #[.int .i64 v] w fun e w' => e = .returned (.string (numB 1 v)) ∧ Below w.heap.size w w' := by
  have HN := hide (number_any 1 v w (by decide))
  go_enter Tryd.func116, Tryd.ntmps116
  go_wp2_with fail
  refine HN.out.mono ?_
  rintro e w1 ⟨rfl, hb⟩
  go_wp2
  go_ret
  exact ⟨rfl, hb⟩
end Go.Proofs.YtcaojimmdcdpiaaDoor

namespace Go.Proofs.YtcaojimmdcdpiaaDoor
open Go.Shelf Go.Proofs
def lays156_ren : Go.Shelf.Ren := ⟨fun | 156 => 139 | 165 => 149 | 166 => 150 | 169 => 151 | 240 => 155 | 241 => 156 | 276 => 157 | 277 => 158 | n => n, fun | 31 => 34 | 9 => 9 | 3 => 3 | 4 => 4 | 0 => 0 | 20 => 20 | 72 => 169 | 76 => 173 | 70 => 167 | 37 => 79 | 75 => 172 | 127 => 178 | 164 => 179 | 5 => 5 | 80 => 122 | n => n, fun | n => n⟩
theorem lays156 : Go.Proofs.Lays.n156 Tryd.prog lays156_ren := {
  mixed := by kernel_rfl
  f156 := Tryd.func139.trans (congrArg some (by kernel_rfl))
  f165 := Tryd.func149.trans (congrArg some (by kernel_rfl))
  f166 := Tryd.func150.trans (congrArg some (by kernel_rfl))
  f169 := Tryd.func151.trans (congrArg some (by kernel_rfl))
  f240 := Tryd.func155.trans (congrArg some (by kernel_rfl))
  f241 := Tryd.func156.trans (congrArg some (by kernel_rfl))
  f276 := Tryd.func157.trans (congrArg some (by kernel_rfl))
  f277 := Tryd.func158.trans (congrArg some (by kernel_rfl))
  t0 := Tryd.underlying0
  a0 := Tryd.isAgg0
  z0 := Tryd.sizeOf0
  v0 := Tryd.zeroValue0
  t3 := Tryd.underlying3
  a3 := Tryd.isAgg3
  z3 := Tryd.sizeOf3
  v3 := Tryd.zeroValue3
  t4 := Tryd.underlying4
  a4 := Tryd.isAgg4
  z4 := Tryd.sizeOf4
  v4 := Tryd.zeroValue4
  t9 := Tryd.underlying9
  a9 := Tryd.isAgg9
  z9 := Tryd.sizeOf9
  v9 := Tryd.zeroValue9
  t20 := Tryd.underlying20
  a20 := Tryd.isAgg20
  z20 := Tryd.sizeOf20
  v20 := Tryd.zeroValue20
  t31 := Tryd.underlying34
  a31 := Tryd.isAgg34
  z31 := Tryd.sizeOf34
  v31 := Tryd.zeroValue34
  t37 := Tryd.underlying79
  a37 := Tryd.isAgg79
  z37 := Tryd.sizeOf79
  v37 := Tryd.zeroValue79
  t70 := Tryd.underlying167
  a70 := Tryd.isAgg167
  z70 := Tryd.sizeOf167
  v70 := Tryd.zeroValue167
  t72 := Tryd.underlying169
  a72 := Tryd.isAgg169
  z72 := Tryd.sizeOf169
  v72 := Tryd.zeroValue169
  t75 := Tryd.underlying172
  a75 := Tryd.isAgg172
  z75 := Tryd.sizeOf172
  v75 := Tryd.zeroValue172
  t76 := Tryd.underlying173
  a76 := Tryd.isAgg173
  z76 := Tryd.sizeOf173
  v76 := Tryd.zeroValue173
  t127 := Tryd.underlying178
  a127 := Tryd.isAgg178
  z127 := Tryd.sizeOf178
  v127 := Tryd.zeroValue178
  t164 := Tryd.underlying179
  a164 := Tryd.isAgg179
  z164 := Tryd.sizeOf179
  v164 := Tryd.zeroValue179 }
theorem Builder_Extra_156 : Builder.Extra Tryd.prog lays156_ren := {
  sizeBuilder := by kernel_rfl
  liesBuilder := by kernel_rfl
  t5 := Tryd.underlying5
  a5 := Tryd.isAgg5
  z5 := Tryd.sizeOf5
  v5 := Tryd.zeroValue5
  infoByte := by kernel_rfl
  cellsByte := by kernel_rfl
  sizeByte := by kernel_rfl
  neB5 := by decide }
open Go.RowKit in
theorem strings_Join_none (a : Option Addr) (c : Nat) (sep : ByteArray) (w : World) :
    Calls Tryd.prog 139 #[.slice a 0 c, .string sep] w fun e w' => e = .returned (.string ⟨#[]⟩) ∧ w' = w := Any.strings_Join_none lays156 Builder_Extra_156 a c sep w
open Go.RowKit in
theorem strings_Join (bk o c : Nat) (xs : List ByteArray) (sep : ByteArray) (w : World) (hcells : ∀ (j : Nat) x, xs[j]? = some x → w.cell? ⟨bk, o + j, none⟩ = some (.string x)) (hbk : bk < w.heap.size) (hN : xs.length ≤ 140737488355328) (hcap : xs.length ≤ c) (hlen : (Lib.join (xs.map (·.data.toList)) sep.data.toList).length ≤ 140737488355328) :
    Calls Tryd.prog 139 #[.slice (some ⟨bk, o, none⟩) xs.length c, .string sep] w fun e w' => e = .returned (.string ⟨(Lib.join (xs.map (·.data.toList)) sep.data.toList).toArray⟩) ∧ Below w.heap.size w w' := Any.strings_Join lays156 Builder_Extra_156 bk o c xs sep w hcells hbk hN hcap hlen
end Go.Proofs.YtcaojimmdcdpiaaDoor

namespace Go.Proofs.YtcaojimmdcdpiaaDoor
open Go.RowKit

/-- Texts, one behind the other. -/
def cat : List ByteArray → ByteArray
  | [] => ⟨#[]⟩
  | x :: r => x ++ cat r
theorem append_empty (x : ByteArray) : x ++ (⟨#[]⟩ : ByteArray) = x := by apply ByteArray.ext; simp
theorem empty_append (x : ByteArray) : (⟨#[]⟩ : ByteArray) ++ x = x := by apply ByteArray.ext; simp
theorem append_three (x y z : ByteArray) : x ++ y ++ z = x ++ (y ++ z) := by apply ByteArray.ext; simp
theorem cat_bytes (xs : List ByteArray) : (cat xs).data.toList = (xs.map (·.data.toList)).flatten := by
  induction xs with
  | nil => rfl
  | cons x r ih => simp [cat, ih]
theorem cat_join (xs : List ByteArray) : (⟨(Lib.join (xs.map (·.data.toList)) (⟨#[]⟩ : ByteArray).data.toList).toArray⟩ : ByteArray) = cat xs := by
  apply ByteArray.ext
  apply Array.ext'
  rw [cat_bytes]
  simp only [Lib.join]
  generalize xs.map (·.data.toList) = l
  induction l with
  | nil => rfl
  | cons a r ih =>
    cases r with
    | nil => simp [List.intercalate]
    | cons b r => simpa [List.intercalate] using ih
theorem cat_size (xs : List ByteArray) : (cat xs).size = (xs.map (·.size)).sum := by
  induction xs with
  | nil => rfl
  | cons x r ih => simp [cat, ByteArray.size_append, ih]

theorem join_any (bk o c : Nat) (xs : List ByteArray) (w : World) (hcells : ∀ (j : Nat) x, xs[j]? = some x → w.cell? ⟨bk, o + j, none⟩ = some (.string x)) (hbk : bk < w.heap.size) (hN : xs.length ≤ 1000) (hcap : xs.length ≤ c) (hlen : (cat xs).size ≤ 100000) :
    Calls Tryd.prog 139 #[.slice (some ⟨bk, o, none⟩) xs.length c, .string ⟨#[]⟩] w fun e w' => e = .returned (.string (cat xs)) ∧ Below w.heap.size w w' := by
  have h := strings_Join bk o c xs ⟨#[]⟩ w hcells hbk (by omega) hcap (by have h := congrArg ByteArray.size (cat_join xs); simp only [ByteArray.size, List.size_toArray] at h hlen; rw [h]; omega)
  rw [cat_join] at h
  exact h
end Go.Proofs.YtcaojimmdcdpiaaDoor

namespace Go.Proofs.YtcaojimmdcdpiaaDoor
open Go.RowKit

theorem heldB {n : Nat} {w W V : World} (h : Below n w W) (hb : Below W.heap.size W V) (hn : n ≤ w.heap.size) : Below n w V := h.trans (hb.mono (by have := h.size; omega))
theorem heldC {n : Nat} {w W V : World} {a : Addr} {v : Value} (h : Below n w W) (hb : Below W.heap.size W V) (hn : n ≤ w.heap.size) (ha : a.block < n) (hc : W.cell? a = some v) : V.cell? a = some v :=
  (hb.cell (p := a) (by have := h.size; omega)).trans hc
theorem held1 {n : Nat} {w W V : World} {a0 : Addr} {v0 : Value} (h : W.cell? a0 = some v0 ∧ Below n w W) (hb : Below W.heap.size W V) (hn : n ≤ w.heap.size) (h0 : a0.block < n) : V.cell? a0 = some v0 ∧ Below n w V :=
  ⟨heldC h.2 hb hn h0 h.1, heldB h.2 hb hn⟩
theorem held2 {n : Nat} {w W V : World} {a0 a1 : Addr} {v0 v1 : Value} (h : W.cell? a0 = some v0 ∧ W.cell? a1 = some v1 ∧ Below n w W) (hb : Below W.heap.size W V) (hn : n ≤ w.heap.size) (h0 : a0.block < n) (h1 : a1.block < n) : V.cell? a0 = some v0 ∧ V.cell? a1 = some v1 ∧ Below n w V :=
  ⟨heldC h.2.2 hb hn h0 h.1, held1 h.2 hb hn h1⟩
theorem held3 {n : Nat} {w W V : World} {a0 a1 a2 : Addr} {v0 v1 v2 : Value} (h : W.cell? a0 = some v0 ∧ W.cell? a1 = some v1 ∧ W.cell? a2 = some v2 ∧ Below n w W) (hb : Below W.heap.size W V) (hn : n ≤ w.heap.size) (h0 : a0.block < n) (h1 : a1.block < n) (h2 : a2.block < n) : V.cell? a0 = some v0 ∧ V.cell? a1 = some v1 ∧ V.cell? a2 = some v2 ∧ Below n w V :=
  ⟨heldC h.2.2.2 hb hn h0 h.1, held2 h.2 hb hn h1 h2⟩
theorem held0 {n : Nat} {w W V : World} (h : Below n w W) (hb : Below W.heap.size W V) (hn : n ≤ w.heap.size) : Below n w V := heldB h hb hn

/-- Ten cells one behind the other: a struct that holds a set, a text and a place. -/
def TenC (B : Nat) (w : World) (k b x t l : Int) (s : ByteArray) (p0 p1 p2 p3 : Int) : Prop :=
  w.cell? ⟨B, 0, none⟩ = some (.int .i64 k) ∧ w.cell? ⟨B, 1, none⟩ = some (.int .i64 b) ∧ w.cell? ⟨B, 2, none⟩ = some (.int .i64 x) ∧ w.cell? ⟨B, 3, none⟩ = some (.int .i64 t) ∧ w.cell? ⟨B, 4, none⟩ = some (.int .i64 l) ∧ w.cell? ⟨B, 5, none⟩ = some (.string s) ∧ w.cell? ⟨B, 6, none⟩ = some (.int .i64 p0) ∧ w.cell? ⟨B, 7, none⟩ = some (.int .i64 p1) ∧ w.cell? ⟨B, 8, none⟩ = some (.int .i64 p2) ∧ w.cell? ⟨B, 9, none⟩ = some (.int .i64 p3)
theorem TenC.below {B n : Nat} {w w' : World} {k b x t l p0 p1 p2 p3 : Int} {s : ByteArray} (h : TenC B w k b x t l s p0 p1 p2 p3) (hb : Below n w w') (hB : B < n) : TenC B w' k b x t l s p0 p1 p2 p3 := by
  obtain ⟨c0, c1, c2, c3, c4, c5, c6, c7, c8, c9⟩ := h
  exact ⟨(hb.cell (p := ⟨B, 0, none⟩) hB).trans c0, (hb.cell (p := ⟨B, 1, none⟩) hB).trans c1, (hb.cell (p := ⟨B, 2, none⟩) hB).trans c2, (hb.cell (p := ⟨B, 3, none⟩) hB).trans c3, (hb.cell (p := ⟨B, 4, none⟩) hB).trans c4, (hb.cell (p := ⟨B, 5, none⟩) hB).trans c5, (hb.cell (p := ⟨B, 6, none⟩) hB).trans c6, (hb.cell (p := ⟨B, 7, none⟩) hB).trans c7, (hb.cell (p := ⟨B, 8, none⟩) hB).trans c8, (hb.cell (p := ⟨B, 9, none⟩) hB).trans c9⟩
end Go.Proofs.YtcaojimmdcdpiaaDoor

namespace Go.Proofs.YtcaojimmdcdpiaaDoor
open Go.RowKit

set_option maxHeartbeats 1000000 in
set_option maxRecDepth 100000 in
theorem len64_32 (w : World) : Calls Tryd.prog 143 #[.int .u64 4294967295] w fun e w' => e = .returned (.int .i64 32) ∧ w' = w := by
  go_enter Tryd.func143, Tryd.ntmps143
  go_wp2
  go_ret
  exact ⟨by kernel_rfl, rfl⟩

set_option maxHeartbeats 1000000 in
set_option maxRecDepth 100000 in
theorem len64_64 (w : World) : Calls Tryd.prog 143 #[.int .u64 18446744073709551615] w fun e w' => e = .returned (.int .i64 64) ∧ w' = w := by
  go_enter Tryd.func143, Tryd.ntmps143
  go_wp2
  go_ret
  exact ⟨by kernel_rfl, rfl⟩

set_option maxHeartbeats 400000 in
theorem size_32 (w : World) : Calls Tryd.prog 124 #[] w fun e w' => e = .returned (.int .i64 4) ∧ w' = w := by
  go_enter Tryd.func124, Tryd.ntmps124
  go_wp2_with fail
  refine (len64_32 _).mono ?_
  rintro e w1 ⟨rfl, rfl⟩
  go_wp2
  go_ret
  exact ⟨rfl, rfl⟩

theorem rot_32_5 (x : Nat) (hx : x < 4294967296) : bits BinOp.or IntKind.u32 ((x : Int) * 32 % 4294967296) ((x : Int) / 134217728) = ((rotW 32 x 5 : Nat) : Int) := by
  have h := u32_or_nat (x * 32 % 4294967296) (x / 134217728) (Nat.mod_lt _ (by decide)) (by omega)
  rw [Int.natCast_emod, Int.natCast_mul, Int.natCast_ediv] at h
  exact h
theorem rot_32_11 (x : Nat) (hx : x < 4294967296) : bits BinOp.or IntKind.u32 ((x : Int) * 2048 % 4294967296) ((x : Int) / 2097152) = ((rotW 32 x 11 : Nat) : Int) := by
  have h := u32_or_nat (x * 2048 % 4294967296) (x / 2097152) (Nat.mod_lt _ (by decide)) (by omega)
  rw [Int.natCast_emod, Int.natCast_mul, Int.natCast_ediv] at h
  exact h
theorem rot_32_19 (x : Nat) (hx : x < 4294967296) : bits BinOp.or IntKind.u32 ((x : Int) * 524288 % 4294967296) ((x : Int) / 8192) = ((rotW 32 x 19 : Nat) : Int) := by
  have h := u32_or_nat (x * 524288 % 4294967296) (x / 8192) (Nat.mod_lt _ (by decide)) (by omega)
  rw [Int.natCast_emod, Int.natCast_mul, Int.natCast_ediv] at h
  exact h
theorem rot_32_26 (x : Nat) (hx : x < 4294967296) : bits BinOp.or IntKind.u32 ((x : Int) * 67108864 % 4294967296) ((x : Int) / 64) = ((rotW 32 x 26 : Nat) : Int) := by
  have h := u32_or_nat (x * 67108864 % 4294967296) (x / 64) (Nat.mod_lt _ (by decide)) (by omega)
  rw [Int.natCast_emod, Int.natCast_mul, Int.natCast_ediv] at h
  exact h

set_option maxHeartbeats 400000 in
theorem turned_32 (x k : Nat) (w : World) (hx : x < 4294967296) (hk : k = 5 ∨ k = 11 ∨ k = 19 ∨ k = 26) :
    Calls Tryd.prog 153 #[.int .u32 x, .int .i64 k] w fun e w' => e = .returned (.int .u32 ((rotW 32 x k : Nat) : Int)) ∧ ∃ n, w' = w.drewN n := by
  rcases hk with rfl | rfl | rfl | rfl
  · go_enter Tryd.func153, Tryd.ntmps153
    go_wp2
    go_quiet ((go_at_call 124; exact Calls.quiet_of_same (size_32 _)))
    go_wp2
    go_ret
    exact ⟨congrArg (fun z : Int => Ending.returned (.int .u32 z)) (rot_32_5 x hx), _, rfl⟩
  · go_enter Tryd.func153, Tryd.ntmps153
    go_wp2
    go_quiet ((go_at_call 124; exact Calls.quiet_of_same (size_32 _)))
    go_wp2
    go_ret
    exact ⟨congrArg (fun z : Int => Ending.returned (.int .u32 z)) (rot_32_11 x hx), _, rfl⟩
  · go_enter Tryd.func153, Tryd.ntmps153
    go_wp2
    go_quiet ((go_at_call 124; exact Calls.quiet_of_same (size_32 _)))
    go_wp2
    go_ret
    exact ⟨congrArg (fun z : Int => Ending.returned (.int .u32 z)) (rot_32_19 x hx), _, rfl⟩
  · go_enter Tryd.func153, Tryd.ntmps153
    go_wp2
    go_quiet ((go_at_call 124; exact Calls.quiet_of_same (size_32 _)))
    go_wp2
    go_ret
    exact ⟨congrArg (fun z : Int => Ending.returned (.int .u32 z)) (rot_32_26 x hx), _, rfl⟩

set_option maxHeartbeats 400000 in
theorem size_64 (w : World) : Calls Tryd.prog 129 #[] w fun e w' => e = .returned (.int .i64 8) ∧ w' = w := by
  go_enter Tryd.func129, Tryd.ntmps129
  go_wp2_with fail
  refine (len64_64 _).mono ?_
  rintro e w1 ⟨rfl, rfl⟩
  go_wp2
  go_ret
  exact ⟨rfl, rfl⟩

theorem rot_64_5 (x : Nat) (hx : x < 18446744073709551616) : bits BinOp.or IntKind.u64 ((x : Int) * 32 % 18446744073709551616) ((x : Int) / 576460752303423488) = ((rotW 64 x 5 : Nat) : Int) := by
  have h := u64_or_nat (x * 32 % 18446744073709551616) (x / 576460752303423488) (Nat.mod_lt _ (by decide)) (by omega)
  rw [Int.natCast_emod, Int.natCast_mul, Int.natCast_ediv] at h
  exact h
theorem rot_64_11 (x : Nat) (hx : x < 18446744073709551616) : bits BinOp.or IntKind.u64 ((x : Int) * 2048 % 18446744073709551616) ((x : Int) / 9007199254740992) = ((rotW 64 x 11 : Nat) : Int) := by
  have h := u64_or_nat (x * 2048 % 18446744073709551616) (x / 9007199254740992) (Nat.mod_lt _ (by decide)) (by omega)
  rw [Int.natCast_emod, Int.natCast_mul, Int.natCast_ediv] at h
  exact h
theorem rot_64_19 (x : Nat) (hx : x < 18446744073709551616) : bits BinOp.or IntKind.u64 ((x : Int) * 524288 % 18446744073709551616) ((x : Int) / 35184372088832) = ((rotW 64 x 19 : Nat) : Int) := by
  have h := u64_or_nat (x * 524288 % 18446744073709551616) (x / 35184372088832) (Nat.mod_lt _ (by decide)) (by omega)
  rw [Int.natCast_emod, Int.natCast_mul, Int.natCast_ediv] at h
  exact h
theorem rot_64_26 (x : Nat) (hx : x < 18446744073709551616) : bits BinOp.or IntKind.u64 ((x : Int) * 67108864 % 18446744073709551616) ((x : Int) / 274877906944) = ((rotW 64 x 26 : Nat) : Int) := by
  have h := u64_or_nat (x * 67108864 % 18446744073709551616) (x / 274877906944) (Nat.mod_lt _ (by decide)) (by omega)
  rw [Int.natCast_emod, Int.natCast_mul, Int.natCast_ediv] at h
  exact h

set_option maxHeartbeats 400000 in
theorem turned_64 (x k : Nat) (w : World) (hx : x < 18446744073709551616) (hk : k = 5 ∨ k = 11 ∨ k = 19 ∨ k = 26) :
    Calls Tryd.prog 154 #[.int .u64 x, .int .i64 k] w fun e w' => e = .returned (.int .u64 ((rotW 64 x k : Nat) : Int)) ∧ ∃ n, w' = w.drewN n := by
  rcases hk with rfl | rfl | rfl | rfl
  · go_enter Tryd.func154, Tryd.ntmps154
    go_wp2
    go_quiet ((go_at_call 129; exact Calls.quiet_of_same (size_64 _)))
    go_wp2
    go_ret
    exact ⟨congrArg (fun z : Int => Ending.returned (.int .u64 z)) (rot_64_5 x hx), _, rfl⟩
  · go_enter Tryd.func154, Tryd.ntmps154
    go_wp2
    go_quiet ((go_at_call 129; exact Calls.quiet_of_same (size_64 _)))
    go_wp2
    go_ret
    exact ⟨congrArg (fun z : Int => Ending.returned (.int .u64 z)) (rot_64_11 x hx), _, rfl⟩
  · go_enter Tryd.func154, Tryd.ntmps154
    go_wp2
    go_quiet ((go_at_call 129; exact Calls.quiet_of_same (size_64 _)))
    go_wp2
    go_ret
    exact ⟨congrArg (fun z : Int => Ending.returned (.int .u64 z)) (rot_64_19 x hx), _, rfl⟩
  · go_enter Tryd.func154, Tryd.ntmps154
    go_wp2
    go_quiet ((go_at_call 129; exact Calls.quiet_of_same (size_64 _)))
    go_wp2
    go_ret
    exact ⟨congrArg (fun z : Int => Ending.returned (.int .u64 z)) (rot_64_26 x hx), _, rfl⟩

end Go.Proofs.YtcaojimmdcdpiaaDoor
