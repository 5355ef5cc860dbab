/-
  The program's Unseal.
-/
import Derived.Test.YtgaoeoijdpdjiabGreatDoorPart12
import Derived.Test.YtgaoeoijdpdjiabGreatDoorPart17
import Derived.Laws.StructEq
import Derived.MapKept
namespace Go.Proofs.YtgaoeoijdpdjiabGreatDoor
open Go.RowKit
theorem sliceS (s : ByteArray) (a b : Nat) (h1 : a ≤ b) (h2 : b ≤ s.size) (w : World) : (Instr.slice 9 (.string s) (some (.int .i64 (a : Int))) (some (.int .i64 (b : Int))) none).run Tryz.prog w = .ok (.string (s.extract a b)) w := by
  have a1 : (0 : Int) ≤ (a : Int) := by omega
  have a2 : (a : Int) ≤ (b : Int) := by omega
  have a3 : (b : Int) ≤ (s.size : Int) := by omega
  simp [go_sem, Tryz.underlying9, a1, a2, a3] <;> omega
/-- The number that four bytes tell. -/
def nv (t : ByteArray) : Int := ((valN t 0 4 : Nat) : Int)
theorem bcellR {W w1 : World} (hb : Below W.heap.size W w1) : (∀ b o, b < W.heap.size → w1.cell? ⟨b, o, none⟩ = W.cell? ⟨b, o, none⟩) ∧ (∀ b o, b < W.heap.size → w1.frozen? ⟨b, o, none⟩ = W.frozen? ⟨b, o, none⟩) :=
  ⟨fun b o h => hb.cell (p := ⟨b, o, none⟩) h, fun b o h => hb.frozen (p := ⟨b, o, none⟩) h⟩
theorem toList_ne {a b : ByteArray} (h : a ≠ b) : (a.toList == b.toList) = false := by
  rw [← beq_toListBytes, Bool.eq_false_iff]
  exact fun e => h ((Go.MapKept.bytes_beq a b).1 e)
theorem unseal_short (s : ByteArray) (w : World) (h : s.size ≠ 32) :
    Calls Tryz.prog 255 #[.string s] w fun e w' => e = .returned (unsV s) ∧ Below w.heap.size w w' := by
  have HE := hide (unsV_no (isRec_size h))
  have hd : (((s.size : Nat) : Int) == 32) = false := by simp; omega
  have hd2 : (((s.size : Nat) : Int) != 32) = true := by simp; omega
  clear h
  generalize unsV s = z at HE ⊢
  go_enter Tryz.func255, Tryz.ntmps255
  go_wp2
  refine bodyPost_ret (v := .tuple #[.agg #[.int .i64 0, .int .i64 0, .string ⟨#[]⟩], .int .i64 6]) (by simp [results, Tryz.results255, go_sem]) rfl ⟨by rw [HE.out], ?_⟩
  exact (Below.refl _ _).alloc (Nat.le_refl _) _
set_option maxRecDepth 20000 in
set_option maxHeartbeats 2000000 in
theorem unseal_32 (s : ByteArray) (w : World) (h : s.size = 32) :
    Calls Tryz.prog 255 #[.string s] w fun e w' => e = .returned (unsV s) ∧ Below w.heap.size w w' := by
  have hd : (((s.size : Nat) : Int) == 32) = true := by rw [h]; rfl
  have hd2 : (((s.size : Nat) : Int) != 32) = false := by rw [h]; rfl
  have e1 := sliceS s 4 8 (by omega) (by omega)
  have e2 := sliceS s 16 20 (by omega) (by omega)
  have e3 := sliceS s 8 16 (by omega) (by omega)
  simp only [Int.cast_ofNat_Int] at e1 e2 e3
  have HN := hide (fun (V : World) (t : ByteArray) (ht : Hid (t.size = 4)) => numberIn_any t V (by rw [ht.out]; omega) (by rw [ht.out]; omega))
  have Z1 : Hid ((s.extract 4 8).size = 4) := by show _ = _; rw [ByteArray.size_extract]; omega
  have Z2 : Hid ((s.extract 16 20).size = 4) := by show _ = _; rw [ByteArray.size_extract]; omega
  have hq : seqOf s = nv (s.extract 4 8) := by rw [nv, valN_part s 4 8 4 (by omega) (by omega)]; rfl
  have hb : boundOf s = nv (s.extract 16 20) := by rw [nv, valN_part s 16 20 4 (by omega) (by omega)]; rfl
  change Hid (∀ (V : World) (t : ByteArray) (ht : Hid (t.size = 4)), Calls _ _ _ _ (fun e w' => e = .returned (.int .i64 (nv t)) ∧ w' = V)) at HN
  change ∀ w : World, _ = Result.ok (Value.string (idOf s)) w at e3
  have HZ := hide h
  clear h
  by_cases hR : RecR (seqOf s) (boundOf s) (idOf s)
  · by_cases hS : sealS (seqOf s) (boundOf s) (idOf s) = s
    · have HE := hide (unsV_yes ((isRec_iff s).2 ⟨HZ.out, hR, hS⟩))
      have HL := hide (fun V : World => seal_yes _ _ _ V hR)
      rw [hS, hq, hb] at HL
      rw [hq, hb] at HE
      clear hq hb hR hS
      generalize idOf s = d at *
      generalize unsV s = z at HE ⊢
      generalize s.extract 4 8 = s1 at *
      generalize s.extract 16 20 = s2 at *
      go_enter Tryz.func255, Tryz.ntmps255
      go_wp2_with fail
      go_region_held3 (fun V => True) (trivial) ((go_at_call 156; refine (HN.out _ _ (by first | exact Z1 | exact Z2)).mono ?_; rintro e w1 ⟨rfl, rfl⟩))
      all_goals
        go_wp2_with fail
        refine (HL.out _).mono ?_
        rintro e w2 ⟨rfl, hb2⟩
        have B2 := hide ((((Below.refl w.heap.size w).alloc (Nat.le_refl _) _).alloc (by simp) _).drew.trans (hb2.mono (by simp; omega)))
        have c0 : w2.cell? ⟨w.heap.size, 0, none⟩ = some (.int .i64 0) := (hb2.cell (p := ⟨w.heap.size, 0, none⟩) (by simp; omega)).trans (by simp [go_sem])
        have c1 : w2.cell? ⟨w.heap.size, 1, none⟩ = some (.int .i64 0) := (hb2.cell (p := ⟨w.heap.size, 1, none⟩) (by simp; omega)).trans (by simp [go_sem])
        have c2 : w2.cell? ⟨w.heap.size, 2, none⟩ = some (.string ⟨#[]⟩) := (hb2.cell (p := ⟨w.heap.size, 2, none⟩) (by simp; omega)).trans (by simp [go_sem])
        obtain ⟨hc, hf⟩ := bcellR hb2
        have hz : w.heap.size + 2 ≤ w2.heap.size := by have := hb2.size; simp at this; omega
        clear hb2
        go_wp2
        refine bodyPost_ret (v := .tuple #[.agg #[.int .i64 (nv s1), .int .i64 (nv s2), .string d], .int .i64 0]) (by simp [results, Tryz.results255, go_sem, c0, c1, c2]) rfl ⟨by rw [HE.out], ?_⟩
        iterate 3 refine Below.setCell ?_ (by simp) _
        exact B2.out
    · have HE := hide (unsV_no (s := s) (by rw [isRec, decide_eq_false (fun h => hS h.2.2)]))
      have HL := hide (fun V : World => seal_yes _ _ _ V hR)
      have hn1 := toList_ne hS
      generalize sealS (seqOf s) (boundOf s) (idOf s) = y at *
      rw [hq, hb] at HL
      clear hq hb hR hS
      generalize idOf s = d at *
      generalize unsV s = z at HE ⊢
      generalize s.extract 4 8 = s1 at *
      generalize s.extract 16 20 = s2 at *
      go_enter Tryz.func255, Tryz.ntmps255
      go_wp2_with fail
      go_region_held3 (fun V => True) (trivial) ((go_at_call 156; refine (HN.out _ _ (by first | exact Z1 | exact Z2)).mono ?_; rintro e w1 ⟨rfl, rfl⟩))
      all_goals
        go_wp2_with fail
        refine (HL.out _).mono ?_
        rintro e w2 ⟨rfl, hb2⟩
        have B2 := hide ((((Below.refl w.heap.size w).alloc (Nat.le_refl _) _).alloc (by simp) _).drew.trans (hb2.mono (by simp; omega)))
        have c0 : w2.cell? ⟨w.heap.size, 0, none⟩ = some (.int .i64 0) := (hb2.cell (p := ⟨w.heap.size, 0, none⟩) (by simp; omega)).trans (by simp [go_sem])
        have c1 : w2.cell? ⟨w.heap.size, 1, none⟩ = some (.int .i64 0) := (hb2.cell (p := ⟨w.heap.size, 1, none⟩) (by simp; omega)).trans (by simp [go_sem])
        have c2 : w2.cell? ⟨w.heap.size, 2, none⟩ = some (.string ⟨#[]⟩) := (hb2.cell (p := ⟨w.heap.size, 2, none⟩) (by simp; omega)).trans (by simp [go_sem])
        obtain ⟨hc, hf⟩ := bcellR hb2
        have hz : w.heap.size + 2 ≤ w2.heap.size := by have := hb2.size; simp at this; omega
        clear hb2
        go_wp2
        refine bodyPost_ret (v := .tuple #[.agg #[.int .i64 0, .int .i64 0, .string ⟨#[]⟩], .int .i64 6]) (by simp [results, Tryz.results255, go_sem, c0, c1, c2]) rfl ⟨by rw [HE.out], ?_⟩
        iterate 3 refine Below.setCell ?_ (by simp) _
        exact B2.out
  · have HE := hide (unsV_no (s := s) (by rw [isRec, decide_eq_false (fun h => hR h.2.1)]))
    have HL := hide (fun V : World => seal_no _ _ _ V hR)
    clear hR
    rw [hq, hb] at HL
    clear hq hb
    generalize idOf s = d at *
    generalize unsV s = z at HE ⊢
    generalize s.extract 4 8 = s1 at *
    generalize s.extract 16 20 = s2 at *
    go_enter Tryz.func255, Tryz.ntmps255
    go_wp2_with fail
    go_region_held3 (fun V => True) (trivial) ((go_at_call 156; refine (HN.out _ _ (by first | exact Z1 | exact Z2)).mono ?_; rintro e w1 ⟨rfl, rfl⟩))
    all_goals
      go_wp2_with fail
      refine (HL.out _).mono ?_
      rintro e w2 ⟨rfl, hb2⟩
      have B2 := hide ((((Below.refl w.heap.size w).alloc (Nat.le_refl _) _).alloc (by simp) _).drew.trans (hb2.mono (by simp; omega)))
      have c0 : w2.cell? ⟨w.heap.size, 0, none⟩ = some (.int .i64 0) := (hb2.cell (p := ⟨w.heap.size, 0, none⟩) (by simp; omega)).trans (by simp [go_sem])
      have c1 : w2.cell? ⟨w.heap.size, 1, none⟩ = some (.int .i64 0) := (hb2.cell (p := ⟨w.heap.size, 1, none⟩) (by simp; omega)).trans (by simp [go_sem])
      have c2 : w2.cell? ⟨w.heap.size, 2, none⟩ = some (.string ⟨#[]⟩) := (hb2.cell (p := ⟨w.heap.size, 2, none⟩) (by simp; omega)).trans (by simp [go_sem])
      obtain ⟨hc, hf⟩ := bcellR hb2
      have hz : w.heap.size + 2 ≤ w2.heap.size := by have := hb2.size; simp at this; omega
      clear hb2
      go_wp2
      refine bodyPost_ret (v := .tuple #[.agg #[.int .i64 0, .int .i64 0, .string ⟨#[]⟩], .int .i64 6]) (by simp [results, Tryz.results255, go_sem, c0, c1, c2]) rfl ⟨by rw [HE.out], ?_⟩
      iterate 3 refine Below.setCell ?_ (by simp) _
      exact B2.out
theorem unseal_any (s : ByteArray) (w : World) :
    Calls Tryz.prog 255 #[.string s] w fun e w' => e = .returned (unsV s) ∧ Below w.heap.size w w' := by
  by_cases h : s.size = 32
  · exact unseal_32 s w h
  · exact unseal_short s w h
end Go.Proofs.YtgaoeoijdpdjiabGreatDoor
