/-
  What a text is read as: a record, or none.
-/
import Derived.Test.YtgaoeoijdpdjiaaRSealM
namespace Go.Proofs.Ytgaoeoijdpdjiaa

theorem blank_two : blankB = numB 4 0 ++ numB 4 0 := by decide
theorem blank_iff (s : ByteArray) (hs : s.size = 32) : s.extract 20 28 = blankB ↔ valN s 20 4 = 0 ∧ valN s 24 4 = 0 := by
  have e20 := num_val s 20 (by omega)
  have e24 := num_val s 24 (by omega)
  have l20 := valN_lt s 20
  have l24 := valN_lt s 24
  rw [← extract_cat s 20 24 28 (by omega) (by omega) (by omega), blank_two]
  change numB 4 _ = s.extract 20 24 at e20
  change numB 4 _ = s.extract 24 28 at e24
  rw [← e20, ← e24]
  constructor
  · intro h
    obtain ⟨h1, h2⟩ := app_inj h (by rw [numB_size, numB_size])
    have a := num_inj _ _ (by omega) (by omega) (by omega) (by omega) h1
    have b := num_inj _ _ (by omega) (by omega) (by omega) (by omega) h2
    exact ⟨by omega, by omega⟩
  · rintro ⟨h1, h2⟩
    rw [h1, h2]
    rfl
/-- Is the text a record's? -/
def isRec (s : ByteArray) : Bool := decide (s.size = 32 ∧ RecR (seqOf s) (boundOf s) (idOf s) ∧ sealS (seqOf s) (boundOf s) (idOf s) = s)
theorem isRec_iff (s : ByteArray) : isRec s = true ↔ s.size = 32 ∧ RecR (seqOf s) (boundOf s) (idOf s) ∧ sealS (seqOf s) (boundOf s) (idOf s) = s := by simp [isRec]
theorem isRec_seal (q b : Int) (d : ByteArray) (h : RecR q b d) : isRec (sealS q b d) = true := by
  obtain ⟨h1, h2, h3⟩ := seq_seal q b d h
  rw [isRec_iff, h1, h2, h3]
  exact ⟨sealS_size q b d h.2.2.2.2, h, rfl⟩
/-- What the text is read as. -/
def unsV (s : ByteArray) : Value := if isRec s then .tuple #[.agg #[.int .i64 (seqOf s), .int .i64 (boundOf s), .string (idOf s)], .int .i64 0] else .tuple #[.agg #[.int .i64 0, .int .i64 0, .string ⟨#[]⟩], .int .i64 6]
theorem unsV_yes {s : ByteArray} (h : isRec s = true) : unsV s = .tuple #[.agg #[.int .i64 (seqOf s), .int .i64 (boundOf s), .string (idOf s)], .int .i64 0] := by rw [unsV, if_pos h]
theorem unsV_no {s : ByteArray} (h : isRec s = false) : unsV s = .tuple #[.agg #[.int .i64 0, .int .i64 0, .string ⟨#[]⟩], .int .i64 6] := by rw [unsV, if_neg (by rw [h]; decide)]
theorem isRec_size {s : ByteArray} (h : s.size ≠ 32) : isRec s = false := by simp [isRec, h]
/-- The document's way: part by part. -/
theorem isRec_parts (s : ByteArray) (hs : s.size = 32) : isRec s = true ↔ s.extract 0 4 = markB ∧ 1 ≤ seqOf s ∧ seqOf s ≤ 2147483647 ∧ boundOf s ≤ 4096 ∧ (valN s 20 4 = 0 ∧ valN s 24 4 = 0) ∧ sumV (s.extract 0 28) = (valN s 28 4 : Nat) := by
  have h0 : 0 ≤ boundOf s := by unfold boundOf; omega
  have hd : (idOf s).size = 8 := by rw [idOf, ByteArray.size_extract]; omega
  rw [isRec_iff, again_iff s hs, blank_iff s hs]
  unfold RecR
  constructor
  · rintro ⟨_, ⟨a, b, _, c, _⟩, d, e, f⟩
    exact ⟨d, a, b, c, e, f⟩
  · rintro ⟨d, a, b, c, e, f⟩
    exact ⟨hs, ⟨a, b, h0, c, hd⟩, d, e, f⟩
theorem seq_lo (s : ByteArray) : 0 ≤ seqOf s := by unfold seqOf; omega
theorem seq_hi (s : ByteArray) : seqOf s < 4294967296 := by have := valN_lt s 4; unfold seqOf; omega
theorem bound_lo (s : ByteArray) : 0 ≤ boundOf s := by unfold boundOf; omega
theorem bound_hi (s : ByteArray) : boundOf s < 4294967296 := by have := valN_lt s 16; unfold boundOf; omega
end Go.Proofs.Ytgaoeoijdpdjiaa
