/-
  The statement's own 'pick', over greater numbers; what one other byte makes of a text.
-/
import Derived.Test.YtgaoeoijdpdjiaaPlain
import Derived.Test.YtgaoeoijdpdjiaaRUnsealM
import Derived.Test.YtgaoeoijdpdjiaaRNum
import Derived.Lib.ConvBytes
namespace Go.Proofs.Ytgaoeoijdpdjiaa
open Go.RowKit

set_option maxHeartbeats 400000 in
theorem pickR_any (c n : Int) (w : World) (h1 : 1 ≤ n) (h2 : n ≤ 2147483647) (hc : -9223372036854775808 ≤ c) (hc2 : c ≤ 9223372036854775807) :
    Calls Try.prog 16 #[.int .i64 c, .int .i64 n] w fun e w' => e = .returned (.int .i64 (pickZ c n)) ∧ w' = w := by
  by_cases h : c < 0
  · go_enter Try.func16, Try.ntmps16
    go_wp2
    go_ret
    refine ⟨ret_int ?_, rfl⟩
    unfold pickZ
    rw [if_pos h, ← Int.neg_tmod, Int.tmod_eq_emod_of_nonneg (by omega)]
  · go_enter Try.func16, Try.ntmps16
    go_wp2
    go_ret
    refine ⟨ret_int ?_, rfl⟩
    unfold pickZ
    rw [if_neg (by omega)]

theorem xor_ne (a v : Nat) (h : v ≠ 0) : a ^^^ v ≠ a := by
  intro e
  have e2 : a ^^^ v = a ^^^ 0 := by rw [e, Nat.xor_zero]
  exact h (xor_left e2)
/-- A text's bytes as numbers. -/
def nats (s : ByteArray) : List Nat := s.data.toList.map UInt8.toNat
theorem nats_length (s : ByteArray) : (nats s).length = s.size := by simp [nats]
theorem nats_lt (s : ByteArray) : ∀ d ∈ nats s, d < 256 := by
  intro d hd
  obtain ⟨u, _, rfl⟩ := List.mem_map.1 hd
  exact u.toNat_lt
/-- A text with another byte at a place. -/
def spoilt (s : ByteArray) (a v : Nat) : ByteArray := ⟨(((nats s).set a v).map UInt8.ofNat).toArray⟩
theorem spoilt_size (s : ByteArray) (a v : Nat) : (spoilt s a v).size = s.size := by
  rw [← nats_length s]
  simp [spoilt, ByteArray.size]
theorem byt_nats (s : ByteArray) (k : Nat) : byt s k = (nats s).getD k 0 := rfl
theorem nats_spoilt (s : ByteArray) (a v : Nat) (hv : v < 256) : nats (spoilt s a v) = (nats s).set a v := by
  unfold nats spoilt
  have hm : List.map UInt8.toNat (List.map UInt8.ofNat ((nats s).set a v)) = (nats s).set a v := by
    rw [List.map_map]
    refine (List.map_congr_left (g := id) ?_).trans (List.map_id _)
    intro d hd
    refine UInt8.toNat_ofNat_of_lt' ?_
    rcases List.mem_or_eq_of_mem_set hd with h | h
    · exact nats_lt s d h
    · rw [h]; exact hv
  exact hm
theorem spoilt_at (s : ByteArray) (a v : Nat) (hv : v < 256) (ha : a < s.size) : byt (spoilt s a v) a = v := by
  rw [byt_nats, nats_spoilt s a v hv]
  have : a < (nats s).length := by rw [nats_length]; exact ha
  simp [this]
theorem spoilt_other (s : ByteArray) (a v j : Nat) (hv : v < 256) (h : j ≠ a) : byt (spoilt s a v) j = byt s j := by
  rw [byt_nats, nats_spoilt s a v hv, byt_nats]
  simp [List.getElem?_set_ne (Ne.symm h)]
theorem isRec_spoilt (q b : Int) (d : ByteArray) (h : RecR q b d) (a v : Nat) (ha : a < 32) (hv : v < 256) (hn : v ≠ byt (sealS q b d) a) : isRec (spoilt (sealS q b d) a v) = false := by
  have hs := sealS_size q b d h.2.2.2.2
  have := spoiled q b d h (spoilt (sealS q b d) a v) (by rw [spoilt_size, hs]) a ha (fun j hj => spoilt_other _ _ _ _ hv hj) (by rw [spoilt_at _ _ _ hv (by omega)]; exact hn)
  rw [isRec, decide_eq_false (fun h => this h.2.2)]
theorem u8_xor_nat (a b : Nat) (ha : a < 256) (hb : b < 256) : bits .xor .u8 (a : Int) (b : Int) = ((a ^^^ b : Nat) : Int) := by
  have hx : a ^^^ b < 2 ^ 8 := Nat.xor_lt_two_pow (by omega) (by omega)
  have e1 : (BitVec.ofInt 8 (a : Int)).toNat = a := by rw [BitVec.toNat_ofInt]; omega
  have e2 : (BitVec.ofInt 8 (b : Int)).toNat = b := by rw [BitVec.toNat_ofInt]; omega
  show IntKind.u8.wrap ((BitVec.ofInt 8 (a : Int) ^^^ BitVec.ofInt 8 (b : Int)).toNat : Int) = _
  rw [BitVec.toNat_xor, e1, e2]
  show ((a ^^^ b : Nat) : Int) % 256 = _
  omega

/-- Three cells that are written. -/
theorem three_set {V : World} {B : Nat} {x0 x1 x2 : Value} (a0 a1 a2 : Value) (h0 : V.cell? ⟨B, 0, none⟩ = some x0) (h1 : V.cell? ⟨B, 1, none⟩ = some x1) (h2 : V.cell? ⟨B, 2, none⟩ = some x2) :
    (((V.setCell ⟨B, 0, none⟩ a0).setCell ⟨B, 1, none⟩ a1).setCell ⟨B, 2, none⟩ a2).cell? ⟨B, 0, none⟩ = some a0 ∧ (((V.setCell ⟨B, 0, none⟩ a0).setCell ⟨B, 1, none⟩ a1).setCell ⟨B, 2, none⟩ a2).cell? ⟨B, 1, none⟩ = some a1 ∧ (((V.setCell ⟨B, 0, none⟩ a0).setCell ⟨B, 1, none⟩ a1).setCell ⟨B, 2, none⟩ a2).cell? ⟨B, 2, none⟩ = some a2 := by
  have e1 : (V.setCell ⟨B, 0, none⟩ a0).cell? ⟨B, 1, none⟩ = some x1 := (World.cell?_setCell_other _ _ _ _ (by simp)).trans h1
  have e2 : ((V.setCell ⟨B, 0, none⟩ a0).setCell ⟨B, 1, none⟩ a1).cell? ⟨B, 2, none⟩ = some x2 := (World.cell?_setCell_other _ _ _ _ (by simp)).trans ((World.cell?_setCell_other _ _ _ _ (by simp)).trans h2)
  refine ⟨?_, ?_, World.cell?_setCell_same _ _ _ e2⟩
  · exact (World.cell?_setCell_other _ _ _ _ (by simp)).trans ((World.cell?_setCell_other _ _ _ _ (by simp)).trans (World.cell?_setCell_same _ _ _ h0))
  · exact (World.cell?_setCell_other _ _ _ _ (by simp)).trans (World.cell?_setCell_same _ _ _ e1)

/-- The text of bytes that lie one behind the other. -/
theorem textCells (w : World) (g cap : Nat) (D : List Nat) (hD : ∀ d ∈ D, d < 256) (h : ∀ j (hj : j < D.length), w.cell? ⟨g, j, none⟩ = some (.int .u8 ((D[j] : Nat) : Int))) :
    (convert 67 9 (.slice (some ⟨g, 0, none⟩) D.length cap)).run Try.prog w = .ok (.string ⟨(D.map UInt8.ofNat).toArray⟩) w := by
  have hl : (D.map UInt8.ofNat).length = D.length := by simp
  have hc := run_convert_bytes_back (P := Try.prog) w 67 9 5 ⟨g, 0, none⟩ cap (D.map UInt8.ofNat) Try.underlying67 Try.underlying5 Try.underlying9 (by
    intro j hj
    have hj' : j < D.length := by simpa using hj
    have hadd : (Addr.mk g 0 none).add j = ⟨g, j, none⟩ := by unfold Addr.add; split <;> simp_all
    rw [hadd, h j hj']
    have hd := hD D[j] (List.getElem_mem hj')
    simp [Nat.mod_eq_of_lt hd])
  rw [hl] at hc
  exact hc

/-- A text's bytes in a new row. -/
theorem bytes_of (t : ByteArray) (w : World) : ∃ cap V, (convert 9 67 (.string t)).run Try.prog w = .ok (.slice (some ⟨w.heap.size, 0, none⟩) t.size cap) V ∧ Below w.heap.size w V ∧ V.heap.size = w.heap.size + 1 ∧ (∀ j, j < t.size → V.cell? ⟨w.heap.size, j, none⟩ = some (.int .u8 ((byt t j : Nat) : Int))) ∧ (∀ j, j < t.size → V.frozen? ⟨w.heap.size, j, none⟩ = false) := by
  refine ⟨grownCap w t.size 0 5, Lib.bytesWorld w 5 t, Lib.run_convert_string_bytes w 9 67 5 t Try.underlying9 Try.underlying67 Try.underlying5, ?_, Lib.bytesWorld_size _ _ _, ?_, ?_⟩
  · exact ⟨rfl, rfl, rfl, by rw [Lib.bytesWorld_size]; omega, fun k hk => Lib.bytesWorld_at_old w _ t k hk⟩
  · intro j hj
    have e : (t.data.toList.getD j 0).toNat = byt t j := by
      have h : j < t.data.toList.length := hj
      unfold byt
      rw [List.getD_eq_getElem?_getD, List.getD_eq_getElem?_getD, List.getElem?_map, List.getElem?_eq_getElem h]
      rfl
    rw [Lib.bytesWorld_cell w _ t j hj, e]
  · intro j hj
    have := Lib.bytesWorld_at_new w 5 t
    simp [World.frozen?, this]
    simp [Lib.bytesCells]
    omega
end Go.Proofs.Ytgaoeoijdpdjiaa
