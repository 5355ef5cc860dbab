/-
  A signer that is not over; how far it is. The steps, one behind the other. The statement's own sown: seeds that are right, out of any texts. slices.Repeat of a list of one number. The steps by which a signer begins: sync, read, refuse. slices.Grow of nil. The journal: a record is laid on the disk. A new row of texts. From a leaf up to the root: what a climb makes.
-/
import Derived.Test.YtgaoeoijdpdjiabGreatDoorPart22
import Derived.Test.YtgaoeoijdpdjiabGreatDoorPart23
import Derived.Test.YtgaoeoijdpdjiabGreatDoorPart4
import Derived.Test.YtgaoeoijdpdjiabGreatDoorPart21
import Derived.Test.YtgaoeoijdpdjiabGreatDoorPart12
import Derived.Test.YtgaoeoijdpdjiabGreatDoorPart5
import Derived.Laws.CopyOwn
import Derived.Test.YtgaoeoijdpdjiabGreatDoorPart17
import Derived.Lib.AppendZeros
namespace Go.Proofs.YtgaoeoijdpdjiabGreatDoor
open Go.RowKit

set_option maxRecDepth 20000 in
theorem term_on (D : Nat) (tm : Int) (w : World) (h5 : w.cell? ⟨D, 5, none⟩ = some (.int .i64 tm)) :
    Calls Tryz.prog 181 #[.pointer (some ⟨D, 0, none⟩)] w fun e w' => e = .returned (.int .i64 tm) ∧ Below w.heap.size w w' := by
  go_enter Tryz.func181, Tryz.ntmps181
  go_wp2
  go_ret
  exact ⟨rfl, Below.refl _ _⟩
set_option maxRecDepth 20000 in
theorem sectors_on (D : Nat) (a : Option Addr) (n c : Nat) (w : World) (h5 : w.cell? ⟨D, 0, none⟩ = some (.slice a n c)) :
    Calls Tryz.prog 177 #[.pointer (some ⟨D, 0, none⟩)] w fun e w' => e = .returned (.int .i64 n) ∧ Below w.heap.size w w' := by
  go_enter Tryz.func177, Tryz.ntmps177
  go_wp2
  go_ret
  exact ⟨rfl, Below.refl _ _⟩
set_option maxRecDepth 20000 in
theorem batch_yes (m : Int) (w : World) (h1 : 1 ≤ m) (h2 : m ≤ 64) :
    Calls Tryz.prog 115 #[.int .i64 m] w fun e w' => e = .returned (.bool true) ∧ Below w.heap.size w w' := by
  have e1 : decide (1 ≤ m) = true := decide_eq_true h1
  have e2 : decide (m ≤ 64) = true := decide_eq_true h2
  go_enter Tryz.func115, Tryz.ntmps115
  go_wp2
  go_ret
  exact ⟨rfl, Below.refl _ _⟩

set_option maxRecDepth 20000 in
set_option maxHeartbeats 2000000 in
theorem isOver_no (S D : Nat) (tm : Int) (w : World) (hS : S < w.heap.size) (hD : D < w.heap.size) (h0 : w.cell? ⟨S, 0, none⟩ = some (.pointer (some ⟨D, 0, none⟩))) (h1 : w.cell? ⟨S, 1, none⟩ = some (.int .i64 tm)) (h18 : w.cell? ⟨S, 18, none⟩ = some (.bool false)) (h5 : w.cell? ⟨D, 5, none⟩ = some (.int .i64 tm)) :
    Calls Tryz.prog 114 #[.pointer (some ⟨S, 0, none⟩)] w fun e w' => e = .returned (.bool false) ∧ Below w.heap.size w w' := by
  have HT := hide (fun (V : World) (hb : Below w.heap.size w V) => term_on D tm V ((hb.cell (p := ⟨D, 5, none⟩) hD).trans h5))
  have HS := hide (fun (V : World) (hb : Below w.heap.size w V) => (⟨(hb.cell (p := ⟨S, 0, none⟩) hS).trans h0, (hb.cell (p := ⟨S, 1, none⟩) hS).trans h1, (hb.cell (p := ⟨S, 18, none⟩) hS).trans h18⟩ : V.cell? ⟨S, 0, none⟩ = some (.pointer (some ⟨D, 0, none⟩)) ∧ V.cell? ⟨S, 1, none⟩ = some (.int .i64 tm) ∧ V.cell? ⟨S, 18, none⟩ = some (.bool false)))
  have HB := hide (Below.refl w.heap.size w).drew
  have hS := (Below.refl w.heap.size w).drew
  clear h0 h1 h18 h5 hD
  go_enter Tryz.func114, Tryz.ntmps114
  go_wp2_with fail
  go_region_held3 (fun V => V.cell? ⟨S, 0, none⟩ = some (.pointer (some ⟨D, 0, none⟩)) ∧ V.cell? ⟨S, 1, none⟩ = some (.int .i64 tm) ∧ V.cell? ⟨S, 18, none⟩ = some (.bool false)) (exact HS.out _ hS) (first | (go_at_call 181; refine (HT.out _ hS).mono ?_; rintro e wN ⟨rfl, hbN⟩; have hS := heldB hS hbN (Nat.le_refl _)))
  have HB9 := hide hS
  clear hS
  go_wp2
  go_ret
  exact ⟨rfl, HB9.out⟩
end Go.Proofs.YtgaoeoijdpdjiabGreatDoor

namespace Go.Proofs.YtgaoeoijdpdjiabGreatDoor
open Go.RowKit

set_option maxRecDepth 20000 in
set_option maxHeartbeats 2000000 in
theorem done_on (fs : List Nat) (n O SB : Nat) (I : Nat → World → Prop) (J : Int → World → Prop) (w : World) (hl : fs.length = n) (hn : n ≤ 100) (h0 : I 0 w)
    (hen : ∀ (j f : Nat), fs[j]? = some f → ∀ (args : Array Value) (V : World), Sem.run Tryz.prog (callFunc f args) V = .ok (.enter f args) V)
    (hst : ∀ j f V, I j V → fs[j]? = some f → V.cell? ⟨SB, j, none⟩ = some (.func (.func f) #[] #[]))
    (hcall : ∀ j f V, I j V → fs[j]? = some f → Calls Tryz.prog f #[.pointer (some ⟨O, 0, none⟩)] V fun e V' => ∃ c, e = .returned (.int .i64 c) ∧ (c = 0 → I (j + 1) V') ∧ (c ≠ 0 → J c V')) :
    Calls Tryz.prog 180 #[.pointer (some ⟨O, 0, none⟩), .slice (some ⟨SB, 0, none⟩) n n] w fun e w' => ∃ c, e = .returned (.int .i64 c) ∧ (c = 0 → I n w') ∧ (c ≠ 0 → J c w') := by
  have HC := hide hcall
  have HST := hide hst
  have HEN := hide hen
  have H0 := hide h0
  have HL := hide hl
  clear hcall hst h0 hl hen
  go_enter Tryz.func180, Tryz.ntmps180
  go_wp2_with fail
  go_loopw [10] (fun i wr => ∃ m : Nat, m ≤ n ∧ i = .int .i64 m ∧ Hid (I m wr)) (fun i _ => n - (intOf i).toNat)
  case atStart => exact ⟨0, Nat.zero_le _, rfl, H0.out⟩
  case round =>
    obtain ⟨m, hm, rfl, hI⟩ := hrel
    by_cases hlt : m < n
    · obtain ⟨f, hf⟩ : ∃ f, fs[m]? = some f := ⟨_, List.getElem?_eq_getElem (by rw [HL.out]; exact hlt)⟩
      have hcell := HST.out m f wr hI.out hf
      have HCC := hide (HC.out m f wr hI.out hf)
      have hent := HEN.out m f hf
      clear hf
      have hms : (m : Int) < (n : Int) := by omega
      go_wp2_with fail
      refine HCC.out.mono ?_
      rintro e w1 ⟨c, rfl, hc1, hc2⟩
      by_cases hc : c = 0
      · have HI := hide (hc1 hc)
        clear hc1 hc2
        subst hc
        go_wp2
        go_roundw
        case rel =>
          have R : ∃ m' : Nat, m' ≤ n ∧ Value.int .i64 ((m : Int) + 1) = .int .i64 m' ∧ Hid (I m' w1) := ⟨m + 1, by omega, by go_num, HI.out⟩
          first | exact R | ((repeat apply Exists.intro); exact ⟨R, rfl⟩)
        case measure => simp [intOf]; omega
      · have HJ := hide (hc2 hc)
        have e1 : (c == 0) = false := by simpa using hc
        have e2 : (c != 0) = true := by simpa using hc
        have HC0 := hide hc
        clear hc1 hc2 hc
        go_wp2
        go_ret
        exact ⟨c, rfl, fun h => absurd h HC0.out, fun _ => HJ.out⟩
    · obtain rfl : m = n := by omega
      go_wp2
      go_ret
      exact ⟨0, rfl, fun _ => hI.out, fun h => absurd rfl h⟩
end Go.Proofs.YtgaoeoijdpdjiabGreatDoor

namespace Go.Proofs.YtgaoeoijdpdjiabGreatDoor
open Go.RowKit

set_option maxRecDepth 20000 in
set_option maxHeartbeats 4000000 in
theorem sown_any (k x t l : Int) (b : Nat) (sec rnd pub : ByteArray) (w : World) (hb : b ≤ 16) (m1 : sec.size ≤ maxLen) (m2 : rnd.size ≤ maxLen) (m3 : pub.size ≤ maxLen) :
    Calls Tryz.prog 15 #[.agg #[.int .i64 k, .int .i64 b, .int .i64 x, .int .i64 t, .int .i64 l], .agg #[.string sec, .string rnd, .string pub]] w fun e w' => e = .returned (.agg #[.string (someB sec b), .string (someB rnd b), .string (someB pub b)]) ∧ Below w.heap.size w w' := by
  obtain ⟨W0, hW⟩ : ∃ W0, ((w.alloc (.cells #[.int .i64 k, .int .i64 b, .int .i64 x, .int .i64 t, .int .i64 l] 26)).alloc (.cells #[.string sec, .string rnd, .string pub] 42)).alloc (.cells #[.string ⟨#[]⟩, .string ⟨#[]⟩, .string ⟨#[]⟩] 42) = W0 := ⟨_, rfl⟩
  have HF := hide (show FiveC w.heap.size W0 k b x t l by subst hW; refine ⟨?_, ?_, ?_, ?_, ?_⟩ <;> simp [go_sem])
  have HSE := hide (show W0.cell? ⟨w.heap.size + 1, 0, none⟩ = some (.string sec) ∧ W0.cell? ⟨w.heap.size + 1, 1, none⟩ = some (.string rnd) ∧ W0.cell? ⟨w.heap.size + 1, 2, none⟩ = some (.string pub) by subst hW; refine ⟨?_, ?_, ?_⟩ <;> simp [go_sem])
  have HB := hide (show Below w.heap.size w W0 by subst hW; exact (((Below.refl _ _).alloc (Nat.le_refl _) _).alloc (by simp) _).alloc (by simp; omega) _)
  have hz : W0.heap.size ≤ w.heap.size + 3 := by subst hW; simp
  have hz' : w.heap.size + 3 ≤ W0.heap.size := by subst hW; simp
  have HBK := hide (show Blk W0 (w.heap.size + 1 + 1) [.string ⟨#[]⟩, .string ⟨#[]⟩, .string ⟨#[]⟩] 42 by
    subst hW
    have h := Blk.new ((w.alloc (.cells #[.int .i64 k, .int .i64 b, .int .i64 x, .int .i64 t, .int .i64 l] 26)).alloc (.cells #[.string sec, .string rnd, .string pub] 42)) [.string ⟨#[]⟩, .string ⟨#[]⟩, .string ⟨#[]⟩] 42
    simp only [World.size_alloc] at h
    exact h)
  have HS := hide (fun (V : World) (h : Below (w.heap.size + 1 + 1) W0 V) => (by
    obtain ⟨_, c1, _, _, _⟩ := HF.out.below h (by omega)
    exact ⟨c1, (h.cell (p := ⟨w.heap.size + 1, 0, none⟩) (by show w.heap.size + 1 < _; omega)).trans HSE.out.1, (h.cell (p := ⟨w.heap.size + 1, 1, none⟩) (by show w.heap.size + 1 < _; omega)).trans HSE.out.2.1, (h.cell (p := ⟨w.heap.size + 1, 2, none⟩) (by show w.heap.size + 1 < _; omega)).trans HSE.out.2.2⟩ : V.cell? ⟨w.heap.size, 1, none⟩ = some (.int .i64 b) ∧ V.cell? ⟨w.heap.size + 1, 0, none⟩ = some (.string sec) ∧ V.cell? ⟨w.heap.size + 1, 1, none⟩ = some (.string rnd) ∧ V.cell? ⟨w.heap.size + 1, 2, none⟩ = some (.string pub)))
  have H1 := hide (fun V : World => someN_any sec b V m1 (by omega))
  have H2 := hide (fun V : World => someN_any rnd b V m2 (by omega))
  have H3 := hide (fun V : World => someN_any pub b V m3 (by omega))
  clear m1 m2 m3
  have HWE := hide hW
  clear hW
  go_enter Tryz.func15, Tryz.ntmps15
  go_wp2_with fail
  rw [HWE.out]
  refine wp_region_held_drew (S := fun V => V.cell? ⟨w.heap.size, 1, none⟩ = some (.int .i64 b) ∧ V.cell? ⟨w.heap.size + 1, 0, none⟩ = some (.string sec) ∧ V.cell? ⟨w.heap.size + 1, 1, none⟩ = some (.string rnd) ∧ V.cell? ⟨w.heap.size + 1, 2, none⟩ = some (.string pub)) (by kernel_rfl) (HS.out _ ((Below.refl W0.heap.size W0).drew.mono (by omega))) (fun hHeld => ?_)
  refine wpAnyH_take (i := 0) (oi := ?oia0) (v := ?va0) ?hia0 (by kernel_rfl) (by kernel_rfl) (by kernel_rfl) ?hQa0 (Or.inl ⟨?h1a0, ?hya0⟩) hHeld ?resta0
  case hia0 => (simp only [List.getElem?_toArray, List.getElem?_cons_zero]; rfl)
  case hQa0 => exact fun _ _ _ h => h
  case h1a0 => rfl
  case hya0 => intro V hSV; (try dsimp only at hSV); go_simp; (try with_reducible rfl)
  try simp only [Act.put, List.setIfInBounds_toArray, List.set_cons_zero, List.set_cons_succ]
  refine wpAnyH_take (i := 1) (oi := ?oia1) (v := ?va1) ?hia1 (by kernel_rfl) (by kernel_rfl) (by kernel_rfl) ?hQa1 (Or.inl ⟨?h1a1, ?hya1⟩) hHeld ?resta1
  case hia1 => (simp only [List.getElem?_toArray, List.getElem?_cons_succ, List.getElem?_cons_zero]; rfl)
  case hQa1 => exact fun _ _ _ h => h
  case h1a1 => rfl
  case hya1 => intro V hSV; (try dsimp only at hSV); go_simp; (try with_reducible rfl)
  try simp only [Act.put, List.setIfInBounds_toArray, List.set_cons_zero, List.set_cons_succ]
  refine wpAnyH_take (i := 2) (oi := ?oia2) (v := ?va2) ?hia2 (by kernel_rfl) (by kernel_rfl) (by kernel_rfl) ?hQa2 (Or.inl ⟨?h1a2, ?hya2⟩) hHeld ?resta2
  case hia2 => (simp only [List.getElem?_toArray, List.getElem?_cons_succ, List.getElem?_cons_zero]; rfl)
  case hQa2 => exact fun _ _ _ h => h
  case h1a2 => rfl
  case hya2 => intro V hSV; (try dsimp only at hSV); go_simp; (try with_reducible rfl)
  try simp only [Act.put, List.setIfInBounds_toArray, List.set_cons_zero, List.set_cons_succ]
  refine wpAnyH_take (i := 3) (oi := ?oia3) (v := ?va3) ?hia3 (by kernel_rfl) (by kernel_rfl) (by kernel_rfl) ?hQa3 (Or.inl ⟨?h1a3, ?hya3⟩) hHeld ?resta3
  case hia3 => (simp only [List.getElem?_toArray, List.getElem?_cons_succ, List.getElem?_cons_zero]; rfl)
  case hQa3 => exact fun _ _ _ h => h
  case h1a3 => rfl
  case hya3 => intro V hSV; (try dsimp only at hSV); go_simp; (try with_reducible rfl)
  try simp only [Act.put, List.setIfInBounds_toArray, List.set_cons_zero, List.set_cons_succ]
  refine wpAnyH_take (i := 5) (oi := ?oia5) (v := ?va5) ?hia5 (by kernel_rfl) (by kernel_rfl) (by kernel_rfl) ?hQa5 (Or.inl ⟨?h1a5, ?hya5⟩) hHeld ?resta5
  case hia5 => (simp only [List.getElem?_toArray, List.getElem?_cons_succ, List.getElem?_cons_zero]; rfl)
  case hQa5 => exact fun _ _ _ h => h
  case h1a5 => rfl
  case hya5 => intro V hSV; (try dsimp only at hSV); go_simp; (try with_reducible rfl)
  try simp only [Act.put, List.setIfInBounds_toArray, List.set_cons_zero, List.set_cons_succ]
  refine wpAnyH_take (i := 6) (oi := ?oia6) (v := ?va6) ?hia6 (by kernel_rfl) (by kernel_rfl) (by kernel_rfl) ?hQa6 (Or.inl ⟨?h1a6, ?hya6⟩) hHeld ?resta6
  case hia6 => (simp only [List.getElem?_toArray, List.getElem?_cons_succ, List.getElem?_cons_zero]; rfl)
  case hQa6 => exact fun _ _ _ h => h
  case h1a6 => rfl
  case hya6 => intro V hSV; (try dsimp only at hSV); go_simp; (try with_reducible rfl)
  try simp only [Act.put, List.setIfInBounds_toArray, List.set_cons_zero, List.set_cons_succ]
  refine wpAnyH_take (i := 7) (oi := ?oia7) (v := ?va7) ?hia7 (by kernel_rfl) (by kernel_rfl) (by kernel_rfl) ?hQa7 (Or.inl ⟨?h1a7, ?hya7⟩) hHeld ?resta7
  case hia7 => (simp only [List.getElem?_toArray, List.getElem?_cons_succ, List.getElem?_cons_zero]; rfl)
  case hQa7 => exact fun _ _ _ h => h
  case h1a7 => rfl
  case hya7 => intro V hSV; (try dsimp only at hSV); go_simp; (try with_reducible rfl)
  try simp only [Act.put, List.setIfInBounds_toArray, List.set_cons_zero, List.set_cons_succ]
  refine wpAnyH_take (i := 8) (oi := ?oia8) (v := ?va8) ?hia8 (by kernel_rfl) (by kernel_rfl) (by kernel_rfl) ?hQa8 (Or.inl ⟨?h1a8, ?hya8⟩) hHeld ?resta8
  case hia8 => (simp only [List.getElem?_toArray, List.getElem?_cons_succ, List.getElem?_cons_zero]; rfl)
  case hQa8 => exact fun _ _ _ h => h
  case h1a8 => rfl
  case hya8 => intro V hSV; (try dsimp only at hSV); go_simp; (try with_reducible rfl)
  try simp only [Act.put, List.setIfInBounds_toArray, List.set_cons_zero, List.set_cons_succ]
  refine wpAnyH_take (i := 10) (oi := ?oia10) (v := ?va10) ?hia10 (by kernel_rfl) (by kernel_rfl) (by kernel_rfl) ?hQa10 (Or.inl ⟨?h1a10, ?hya10⟩) hHeld ?resta10
  case hia10 => (simp only [List.getElem?_toArray, List.getElem?_cons_succ, List.getElem?_cons_zero]; rfl)
  case hQa10 => exact fun _ _ _ h => h
  case h1a10 => rfl
  case hya10 => intro V hSV; (try dsimp only at hSV); go_simp; (try with_reducible rfl)
  try simp only [Act.put, List.setIfInBounds_toArray, List.set_cons_zero, List.set_cons_succ]
  refine wpAnyH_take (i := 11) (oi := ?oia11) (v := ?va11) ?hia11 (by kernel_rfl) (by kernel_rfl) (by kernel_rfl) ?hQa11 (Or.inl ⟨?h1a11, ?hya11⟩) hHeld ?resta11
  case hia11 => (simp only [List.getElem?_toArray, List.getElem?_cons_succ, List.getElem?_cons_zero]; rfl)
  case hQa11 => exact fun _ _ _ h => h
  case h1a11 => rfl
  case hya11 => intro V hSV; (try dsimp only at hSV); go_simp; (try with_reducible rfl)
  try simp only [Act.put, List.setIfInBounds_toArray, List.set_cons_zero, List.set_cons_succ]
  refine wpAnyH_take (i := 12) (oi := ?oia12) (v := ?va12) ?hia12 (by kernel_rfl) (by kernel_rfl) (by kernel_rfl) ?hQa12 (Or.inl ⟨?h1a12, ?hya12⟩) hHeld ?resta12
  case hia12 => (simp only [List.getElem?_toArray, List.getElem?_cons_succ, List.getElem?_cons_zero]; rfl)
  case hQa12 => exact fun _ _ _ h => h
  case h1a12 => rfl
  case hya12 => intro V hSV; (try dsimp only at hSV); go_simp; (try with_reducible rfl)
  try simp only [Act.put, List.setIfInBounds_toArray, List.set_cons_zero, List.set_cons_succ]
  refine wpAnyH_take (i := 13) (oi := ?oia13) (v := ?va13) ?hia13 (by kernel_rfl) (by kernel_rfl) (by kernel_rfl) ?hQa13 (Or.inl ⟨?h1a13, ?hya13⟩) hHeld ?resta13
  case hia13 => (simp only [List.getElem?_toArray, List.getElem?_cons_succ, List.getElem?_cons_zero]; rfl)
  case hQa13 => exact fun _ _ _ h => h
  case h1a13 => rfl
  case hya13 => intro V hSV; (try dsimp only at hSV); go_simp; (try with_reducible rfl)
  try simp only [Act.put, List.setIfInBounds_toArray, List.set_cons_zero, List.set_cons_succ]
  refine wpAnyH_ready (rs := [4]) (by kernel_rfl) (by simp) ?_
  refine AllReadyH.cons (o := ?oa4) ?hoa4 (fun K hK => ?hsa4) AllReadyH.nil
  case hoa4 => (simp only [List.getElem?_toArray, List.getElem?_cons_succ, List.getElem?_cons_zero]; rfl)
  go_simp
  go_at_call 49
  refine (H1.out _).mono ?_
  rintro e w1 ⟨rfl, hb1⟩
  have hS1 := heldB (Below.refl W0.heap.size W0).drew hb1 (Nat.le_refl _)
  have HB1 := hide hS1
  clear hb1 hS1
  try go_wp2_with fail
  refine hK.out _ _ (HS.out _ (HB1.out.mono (by omega))) (fun hHeld => ?_)
  clear hK K
  try simp only [Act.put, List.setIfInBounds_toArray, List.set_cons_zero, List.set_cons_succ]
  refine wpAnyH_ready (rs := [9]) (by kernel_rfl) (by simp) ?_
  refine AllReadyH.cons (o := ?oa9) ?hoa9 (fun K hK => ?hsa9) AllReadyH.nil
  case hoa9 => (simp only [List.getElem?_toArray, List.getElem?_cons_succ, List.getElem?_cons_zero]; rfl)
  go_simp
  go_at_call 49
  refine (H2.out _).mono ?_
  rintro e w2 ⟨rfl, hb2⟩
  have hS2 := heldB HB1.out hb2 (Nat.le_refl _)
  have HB2 := hide hS2
  clear hb2 hS2
  try go_wp2_with fail
  refine hK.out _ _ (HS.out _ (HB2.out.mono (by omega))) (fun hHeld => ?_)
  clear hK K
  try simp only [Act.put, List.setIfInBounds_toArray, List.set_cons_zero, List.set_cons_succ]
  refine wpAnyH_ready (rs := [14]) (by kernel_rfl) (by simp) ?_
  refine AllReadyH.cons (o := ?oa14) ?hoa14 (fun K hK => ?hsa14) AllReadyH.nil
  case hoa14 => (simp only [List.getElem?_toArray, List.getElem?_cons_succ, List.getElem?_cons_zero]; rfl)
  go_simp
  go_at_call 49
  refine (H3.out _).mono ?_
  rintro e w3 ⟨rfl, hb3⟩
  have hS3 := heldB HB2.out hb3 (Nat.le_refl _)
  have HB3 := hide hS3
  have HK3 := hide (HBK.out.below hS3 (by omega))
  clear hb3 hS3
  try go_wp2_with fail
  refine hK.out _ _ (HS.out _ (HB3.out.mono (by omega))) (fun hHeld => ?_)
  clear hK K
  try simp only [Act.put, List.setIfInBounds_toArray, List.set_cons_zero, List.set_cons_succ]
  refine wpAnyH_take (i := 15) (oi := ?oia15) (v := ?va15) ?hia15 (by kernel_rfl) (by kernel_rfl) (by kernel_rfl) ?hQa15 (Or.inl ⟨?h1a15, ?hya15⟩) hHeld ?resta15
  case hia15 => (simp only [List.getElem?_toArray, List.getElem?_cons_succ, List.getElem?_cons_zero]; rfl)
  case hQa15 => exact fun _ _ _ h => h
  case h1a15 => rfl
  case hya15 => intro V hSV; (try dsimp only at hSV); go_simp; (try with_reducible rfl)
  try simp only [Act.put, List.setIfInBounds_toArray, List.set_cons_zero, List.set_cons_succ]
  have r0 := HK3.out.cell 0
  have r1 := HK3.out.cell 1
  have r2 := HK3.out.cell 2
  have f0 := HK3.out.free 0
  have f1 := HK3.out.free 1
  have f2 := HK3.out.free 2
  simp only [List.getElem?_cons_zero, List.getElem?_cons_succ] at r0 r1 r2
  refine wpAnyH_ready (rs := [16]) (by kernel_rfl) (by simp) ?_
  refine AllReadyH.cons (o := ?oa16) ?hoa16 (fun K hK => ?hsa16) AllReadyH.nil
  case hoa16 => (simp only [List.getElem?_toArray, List.getElem?_cons_succ, List.getElem?_cons_zero]; rfl)
  go_simp
  refine hK.out _ _ (HS.out _ ((((HB3.out.mono (by omega)).setCell (by simp <;> omega) _).setCell (by simp <;> omega) _).setCell (by simp <;> omega) _)) (fun hHeld => ?_)
  clear hK K
  try simp only [Act.put, List.setIfInBounds_toArray, List.set_cons_zero, List.set_cons_succ]
  refine wpAnyH_done (by kernel_rfl) ?_ _
  go_wp2
  refine bodyPost_ret (v := .agg #[.string (someB sec b), .string (someB rnd b), .string (someB pub b)]) (by simp [results, Tryz.results15, go_sem, r0, r1, r2]) rfl ⟨rfl, ?_⟩
  have HBB := HB.out.trans (HB3.out.mono (by omega))
  iterate 3 refine Below.setCell ?_ (by simp <;> omega) _
  exact HBB
end Go.Proofs.YtgaoeoijdpdjiabGreatDoor

namespace Go.Proofs.YtgaoeoijdpdjiabGreatDoor
open Go.RowKit

theorem infoInt : (Tryz.prog.info? 3).map (fun i => (i.zero, i.size, i.bytes)) = some (some (.int .i64 0), 1, 8) := by kernel_rfl

theorem cut_from (g N m : Nat) (hm : m < N) (wx : World) : (Instr.slice 56 (.slice (some ⟨g, 0, none⟩) N N) (some (.int .i64 m)) none none).run Tryz.prog wx = .ok (.slice (some ⟨g, m, none⟩) (N - m) (N - m)) wx := by
  have h2 : (m : Int) ≤ N := by omega
  have h3 : (0 : Int) ≤ m := by omega
  simp [go_sem, h2, h3]
  all_goals omega

theorem cut_to (g N m : Nat) (hm : m < N) (wx : World) : (Instr.slice 56 (.slice (some ⟨g, 0, none⟩) N N) none (some (.int .i64 m)) none).run Tryz.prog wx = .ok (.slice (some ⟨g, 0, none⟩) m N) wx := by
  have h2 : (m : Int) ≤ N := by omega
  have h3 : (0 : Int) ≤ m := by omega
  simp [go_sem, h2, h3]
  all_goals omega

theorem madeInt (n : Nat) : madeCells (Value.int .i64 0).cells n = (List.replicate n (Value.int .i64 0)).toArray := by
  apply Array.ext
  · simp [size_madeCells]
  · intro i h1 h2
    simp [madeCells, Value.cells, Nat.mod_one]
theorem makeInt (k : Nat) (hk : k ≤ 1000) (w : World) : (Instr.makeSlice 56 (.int .i64 k) (.int .i64 k)).run Tryz.prog w = .ok (.slice (some ⟨w.heap.size, 0, none⟩) k k) (w.alloc (.cells (List.replicate k (Value.int .i64 0)).toArray 3)) := by
  obtain ⟨i0, hi, hz0, hz1, hz2⟩ := info_parts infoInt
  have h := run_make (P := Tryz.prog) w 56 3 i0 (.int .i64 0) Tryz.underlying56 hi hz0 .i64 .i64 k k (by omega) (by omega) (by rw [hz2]; omega) (by omega)
  rw [hz1, Nat.mul_one, Int.toNat_natCast, madeInt] at h
  exact h

/-- The first m of n are v, the others 0. -/
def repL (v : Int) (n m : Nat) : List Value := List.replicate m (.int .i64 v) ++ List.replicate (n - m) (.int .i64 0)
theorem repL_len (v : Int) (n m : Nat) (h : m ≤ n) : (repL v n m).length = n := by simp [repL]; omega
theorem repL_splice (v : Int) (n m k : Nat) (h : m + k ≤ n) : splice (repL v n m) m (List.replicate k (.int .i64 v)) = repL v n (m + k) := by
  unfold splice repL
  rw [List.take_append_of_le_length (by simp), List.take_of_length_le (by simp), List.length_replicate, List.drop_append, List.drop_of_length_le (by simp), List.nil_append, List.length_replicate, List.drop_replicate, ← List.append_assoc, List.replicate_append_replicate]
  congr 2
  omega

set_option maxRecDepth 20000 in
set_option maxHeartbeats 2000000 in
theorem repeat_one (v : Int) (g ch : Nat) (w : World) (h1 : 1 ≤ ch) (h2 : ch ≤ 1000) (hg : g < w.heap.size) (hc : w.cell? ⟨g, 0, none⟩ = some (.int .i64 v))
    (hM : ∀ V : World, Calls Tryz.prog 309 #[.int .u64 1, .int .u64 ch] V fun e w' => e = .returned (.tuple #[.int .u64 0, .int .u64 ch]) ∧ w' = V) :
    Calls Tryz.prog 268 #[.slice (some ⟨g, 0, none⟩) 1 1, .int .i64 ch] w fun e w' => ∃ q, e = .returned (.slice (some ⟨q, 0, none⟩) ch ch) ∧ w.heap.size ≤ q ∧ Blk w' q (List.replicate ch (.int .i64 v)) 3 ∧ Below w.heap.size w w' := by
  obtain ⟨i0, hi, hz0, hz1, hz2⟩ := info_parts infoInt
  have hsz : (Tryz.prog.info? 3).map (·.size) = some 1 := by rw [hi]; simp [hz1]
  have hmk := makeInt ch h2
  have HM := hide hM
  obtain ⟨W1, hcp, HB, HR⟩ : ∃ W1, (Builtin.copy_ #[56, 56] 3 #[.slice (some ⟨w.heap.size, 0, none⟩) ch ch, .slice (some ⟨g, 0, none⟩) 1 1]).run Tryz.prog (w.alloc (.cells (Array.replicate ch (Value.int .i64 0)) 3)) = .ok (.int .i64 1) W1 ∧ Hid (Below w.heap.size w W1) ∧ Hid (Blk W1 w.heap.size (repL v ch 1) 3) := by
    have h0 : (w.alloc (.cells (Array.replicate ch (Value.int .i64 0)) 3)).heap[w.heap.size]? = some (.cells (Array.replicate ch (Value.int .i64 0)) 3 (0, 0)) := World.alloc_heap_new w _
    have h := run_copy_row (P := Tryz.prog) (w.alloc (.cells (Array.replicate ch (Value.int .i64 0)) 3)) 56 56 3 3 w.heap.size 0 ch ch ⟨g, 0, none⟩ 1 1 (Array.replicate ch (Value.int .i64 0)) 3 [.int .i64 v] Tryz.underlying56 hsz h0 (by rw [List.length_singleton]; exact (Nat.min_eq_left h1).symm) (by
      intro j u hj
      cases j with
      | zero => simp at hj; subst hj; exact (World.cell?_alloc_past _ _ _ hg).trans hc
      | succ j => simp at hj) (by simpa using h1) (by intro u hu; simp at hu; subst hu; rfl)
    refine ⟨_, h, below_setRow ((Below.refl _ _).alloc (Nat.le_refl _) _) (Nat.le_refl _) _, ?_⟩
    show Blk _ _ _ _
    unfold Blk
    rw [setRow_heap _ _ _ _ _ _ h0]
    congr 3
    simp [repL]
  clear hM hc
  have hc64 : IntKind.u64.wrap (ch : Int) = (ch : Int) := by rw [IntKind.wrap_u64] <;> omega
  have hci64 : IntKind.i64.wrap (ch : Int) = (ch : Int) := by rw [IntKind.wrap_i64] <;> omega
  have hbig : ¬ (9223372036854775807 : Int) < (ch : Int) := by omega
  have h0c : ¬ (ch : Int) < 0 := by omega
  go_enter Tryz.func268, Tryz.ntmps268
  go_wp2_with fail
  refine (HM.out _).mono ?_
  rintro e w1 ⟨rfl, hw1⟩
  obtain rfl := hw1.symm
  go_wp2_with fail
  clear hcp hmk hc64 hci64 hbig h0c HM hg
  go_loopw [8] (fun i wr => ∃ m : Nat, 1 ≤ m ∧ m ≤ ch ∧ i = .int .i64 m ∧ Hid (Blk wr w.heap.size (repL v ch m) 3) ∧ Hid (Below w.heap.size w wr)) (fun i _ => ch - (intOf i).toNat)
  case atStart => exact ⟨1, Nat.le_refl _, h1, rfl, HR.out, HB.out⟩
  case round =>
    obtain ⟨m, hm1, hm, rfl, hbk, hb⟩ := hrel
    by_cases hlt : m < ch
    · obtain ⟨c, hc⟩ : ∃ c, Nat.min m (ch - m) = c := ⟨_, rfl⟩
      have hc1 : 1 ≤ c := by rw [← hc]; exact Nat.le_min.2 ⟨hm1, by omega⟩
      have hc2 : c ≤ m := by rw [← hc]; exact Nat.min_le_left _ _
      have hc3 : m + c ≤ ch := by have : c ≤ ch - m := by rw [← hc]; exact Nat.min_le_right _ _
                                  omega
      have hf := cut_from w.heap.size ch m hlt
      have ht := cut_to w.heap.size ch m hlt
      have HCL := hide (show (List.replicate c (Value.int .i64 v)).length = Nat.min m (ch - m) by rw [List.length_replicate, hc])
      have HCE := hide (show ∀ (j : Nat) u, (List.replicate c (Value.int .i64 v))[j]? = some u → wr.drew.cell? ⟨w.heap.size, j, none⟩ = some u by
        intro j u hj
        rw [List.getElem?_replicate] at hj
        split at hj
        · rename_i hjc
          cases hj
          refine (hbk.out.cell j).trans ?_
          rw [repL, List.getElem?_append_left (by simp; omega), List.getElem?_replicate, if_pos (by omega)]
        · cases hj)
      have HFT := hide (show m + (List.replicate c (Value.int .i64 v)).length ≤ (repL v ch m).length by rw [List.length_replicate, repL_len v ch m hm]; exact hc3)
      have HON := hide (show ∀ u ∈ List.replicate c (Value.int .i64 v), u.oneCell' = true by intro u hu; rw [List.mem_replicate] at hu; rw [hu.2]; rfl)
      have HSP := hide (repL_splice v ch m c hc3)
      obtain ⟨W4, hcp, HB4, HR4⟩ : ∃ W4, (Builtin.copy_ #[56, 56] 3 #[.slice (some ⟨w.heap.size, m, none⟩) (ch - m) (ch - m), .slice (some ⟨w.heap.size, 0, none⟩) m ch]).run Tryz.prog wr.drew = .ok (.int .i64 c) W4 ∧ Hid (Below w.heap.size w W4) ∧ Hid (Blk W4 w.heap.size (repL v ch (m + c)) 3) := by
        have h := run_copy_row (P := Tryz.prog) wr.drew 56 56 3 3 w.heap.size m (ch - m) (ch - m) ⟨w.heap.size, 0, none⟩ m ch (repL v ch m).toArray 3 (List.replicate c (.int .i64 v)) Tryz.underlying56 hsz hbk.out HCL.out (by
          intro j u hj
          rw [show Addr.add ⟨w.heap.size, 0, none⟩ j = ⟨w.heap.size, j, none⟩ by unfold Addr.add; split <;> simp_all]
          exact HCE.out j u hj) (by simpa using HFT.out) HON.out
        refine ⟨_, h.trans (by rw [List.length_replicate]; rfl), below_setRow hb.out.drew (Nat.le_refl _) _, ?_⟩
        show Blk _ _ _ _
        unfold Blk
        rw [← HSP.out, splice, ← List.append_assoc, List.length_replicate]
        exact setRow_heap wr.drew _ _ _ _ _ hbk.out
      clear hc HCL HCE HFT HON HSP hsz hi hz0 hz1 hz2 i0
      go_wp2_with fail
      go_region
      go_wp2
      go_roundw
      case rel =>
        have R : ∃ m' : Nat, 1 ≤ m' ∧ m' ≤ ch ∧ Value.int .i64 ((m : Int) + (c : Int)) = .int .i64 m' ∧ Hid (Blk W4 w.heap.size (repL v ch m') 3) ∧ Hid (Below w.heap.size w W4) := ⟨m + c, by omega, by omega, by go_num, HR4.out, HB4.out⟩
        first | exact R | ((repeat apply Exists.intro); exact ⟨R, rfl⟩)
      case measure => simp [intOf]; omega
    · obtain rfl : m = ch := by omega
      go_wp2
      go_ret
      refine ⟨_, rfl, Nat.le_refl _, ?_, hb.out⟩
      have h := hbk.out
      rw [repL, Nat.sub_self, List.replicate_zero, List.append_nil] at h
      exact h
end Go.Proofs.YtgaoeoijdpdjiabGreatDoor

namespace Go.Proofs.YtgaoeoijdpdjiabGreatDoor
open Go.RowKit

set_option maxRecDepth 20000 in
theorem osync_on (Q : Int → World → Prop) (O D : Nat) (w : World) (h0 : w.cell? ⟨O, 0, none⟩ = some (.pointer (some ⟨D, 0, none⟩)))
    (hS : Calls Tryz.prog 105 #[.pointer (some ⟨D, 0, none⟩)] w fun e w' => ∃ c, e = .returned (.int .i64 c) ∧ Q c w') :
    Calls Tryz.prog 107 #[.pointer (some ⟨O, 0, none⟩)] w fun e w' => ∃ c, e = .returned (.int .i64 c) ∧ Q c w' := by
  have HS := hide hS
  clear hS
  go_enter Tryz.func107, Tryz.ntmps107
  go_wp2_with fail
  refine HS.out.mono ?_
  rintro e w2 ⟨c, rfl, hQ⟩
  have HQ := hide hQ
  clear hQ
  go_wp2
  go_ret
  exact ⟨c, rfl, HQ.out⟩

set_option maxRecDepth 20000 in
theorem oread_no (Q : World → Prop) (O D : Nat) (i : Int) (s : ByteArray) (w : World) (h0 : w.cell? ⟨O, 0, none⟩ = some (.pointer (some ⟨D, 0, none⟩))) (hs : isRec s = false) (hQ : ∀ V V', Q V → Below V.heap.size V V' → Q V')
    (hR : Calls Tryz.prog 103 #[.pointer (some ⟨D, 0, none⟩), .int .i64 i] w fun e w' => e = .returned (.tuple #[.string s, .int .i64 0]) ∧ Q w') :
    Calls Tryz.prog 182 #[.pointer (some ⟨O, 0, none⟩), .int .i64 i] w fun e w' => e = .returned (.int .i64 0) ∧ Q w' := by
  have HR := hide hR
  have HU := hide (fun V : World => unseal_any s V)
  rw [unsV_no hs] at HU
  have HQ := hide hQ
  clear hR hs hQ
  go_enter Tryz.func182, Tryz.ntmps182
  go_wp2_with fail
  refine HR.out.mono ?_
  rintro e w1 ⟨rfl, hq1⟩
  have HQ1 := hide hq1
  clear hq1
  go_wp2_with fail
  refine (HU.out _).mono ?_
  rintro e w2 ⟨rfl, hb2⟩
  have HQ2 := hide (HQ.out _ _ HQ1.out hb2)
  clear hb2
  go_wp2
  go_ret
  exact ⟨rfl, HQ.out _ _ HQ2.out ((Below.refl _ _).alloc (Nat.le_refl _) _)⟩

set_option maxRecDepth 20000 in
theorem oreadEven_on (Q : Int → World → Prop) (O : Nat) (w : World)
    (hR : Calls Tryz.prog 182 #[.pointer (some ⟨O, 0, none⟩), .int .i64 0] w fun e w' => ∃ c, e = .returned (.int .i64 c) ∧ Q c w') :
    Calls Tryz.prog 108 #[.pointer (some ⟨O, 0, none⟩)] w fun e w' => ∃ c, e = .returned (.int .i64 c) ∧ Q c w' := by
  have HR := hide hR
  clear hR
  go_enter Tryz.func108, Tryz.ntmps108
  go_wp2_with fail
  refine HR.out.mono ?_
  rintro e w1 ⟨c, rfl, hq1⟩
  have HQ1 := hide hq1
  clear hq1
  go_wp2
  go_ret
  exact ⟨c, rfl, HQ1.out⟩
set_option maxRecDepth 20000 in
theorem oreadOdd_on (Q : Int → World → Prop) (O : Nat) (w : World)
    (hR : Calls Tryz.prog 182 #[.pointer (some ⟨O, 0, none⟩), .int .i64 1] w fun e w' => ∃ c, e = .returned (.int .i64 c) ∧ Q c w') :
    Calls Tryz.prog 109 #[.pointer (some ⟨O, 0, none⟩)] w fun e w' => ∃ c, e = .returned (.int .i64 c) ∧ Q c w' := by
  have HR := hide hR
  clear hR
  go_enter Tryz.func109, Tryz.ntmps109
  go_wp2_with fail
  refine HR.out.mono ?_
  rintro e w1 ⟨c, rfl, hq1⟩
  have HQ1 := hide hq1
  clear hq1
  go_wp2
  go_ret
  exact ⟨c, rfl, HQ1.out⟩
set_option maxRecDepth 20000 in
theorem orefuse_no (O : Nat) (a : Option Addr) (c : Nat) (w : World) (h3 : w.cell? ⟨O, 3, none⟩ = some (.slice a 0 c)) :
    Calls Tryz.prog 110 #[.pointer (some ⟨O, 0, none⟩)] w fun e w' => e = .returned (.int .i64 0) ∧ w' = w := by
  go_enter Tryz.func110, Tryz.ntmps110
  go_wp2
  go_ret
  exact ⟨rfl, rfl⟩
end Go.Proofs.YtgaoeoijdpdjiabGreatDoor

namespace Go.Proofs.YtgaoeoijdpdjiabGreatDoor
open Go.RowKit

theorem undInt : Tryz.prog.underlying 3 = some (.int .i64) := Tryz.underlying3

set_option maxRecDepth 20000 in
set_option maxHeartbeats 4000000 in
theorem grow_nil (N : Nat) (w : World) (h1 : 1 ≤ N) (h2 : N ≤ 1000) :
    Calls Tryz.prog 301 #[.slice none 0 0, .int .i64 N] w fun e w' => ∃ g cap, e = .returned (.slice (some ⟨g, 0, none⟩) 0 cap) ∧ w'.ownsRow w.heap.size 9 1 (.slice (some ⟨g, 0, none⟩) 0 cap) 0 [] ∧ Below w.heap.size w w' := by
  obtain ⟨i0, hi, hz0, hz1, hz2⟩ := info_parts infoStr
  have hr := Lib.run_append_nil_zeros (P := Tryz.prog) w 27 3 27 9 i0 (.string ⟨#[]⟩) .i64 .i64 Tryz.underlying27 undInt hi hz0 N (by omega) (by rw [hz1]; decide) (by omega) (by rw [hz2]; omega)
  have hge := grownCap_ge w N 0 9
  have hle := grownCap_le_maxLen w N 0 9 (by unfold maxLen; omega)
  generalize grownCap w N 0 9 = cap at hr hge hle
  have HO := hide (show (w.drew.alloc (.cells (Builtin.zeroCells (Value.string ⟨#[]⟩).cells N ++ Builtin.zeroCells (Value.string ⟨#[]⟩).cells (cap - N)) 9)).ownsRow w.heap.size 9 1 (.slice (some ⟨w.heap.size, 0, none⟩) 0 cap) 0 [] by
    refine ⟨rfl, Or.inr ⟨w.heap.size, cap, _, rfl, Nat.le_refl _, World.alloc_heap_new w.drew _, Nat.zero_le _, hle, ?_, by simp⟩⟩
    simp [Builtin.zeroCells, Value.cells]
    omega)
  have HB := hide (show Below w.heap.size w (w.drew.alloc (.cells (Builtin.zeroCells (Value.string ⟨#[]⟩).cells N ++ Builtin.zeroCells (Value.string ⟨#[]⟩).cells (cap - N)) 9)) from (Below.refl w.heap.size w).drew.alloc (Nat.le_refl _) _)
  generalize w.drew.alloc (.cells (Builtin.zeroCells (Value.string ⟨#[]⟩).cells N ++ Builtin.zeroCells (Value.string ⟨#[]⟩).cells (cap - N)) 9) = W1 at hr HO HB
  have HR := hide hr
  clear hr
  have hN0 : (0 : Int) < (N : Int) := by omega
  go_enter Tryz.func301, Tryz.ntmps301
  go_wp2_with (at_builtin; refine Lib.wpList_append_run _ rfl (.tmp 20) (.tmp 21) 27 3 rfl (.slice none 0 0) (.int .i64 N) rfl rfl _ _ HR.out ?_)
  go_ret
  exact ⟨_, _, rfl, HO.out, HB.out⟩
end Go.Proofs.YtgaoeoijdpdjiabGreatDoor

namespace Go.Proofs.YtgaoeoijdpdjiabGreatDoor
open Go.RowKit

set_option maxRecDepth 20000 in
theorem lay_on (Q : Int → World → Prop) (D : Nat) (q b q2 : Int) (d : ByteArray) (w : World) (h : RecR q b d) (hq : Int.tmod q 2 = q2) (_hv : IntKind.i64.wrap q2 = q2)
    (hW : ∀ V : World, Below w.heap.size w V → Calls Tryz.prog 104 #[.pointer (some ⟨D, 0, none⟩), .int .i64 q2, .string (sealS q b d)] V fun e w' => ∃ c, e = .returned (.int .i64 c) ∧ Q c w') :
    Calls Tryz.prog 183 #[.pointer (some ⟨D, 0, none⟩), .agg #[.int .i64 q, .int .i64 b, .string d]] w fun e w' => ∃ c, e = .returned (.int .i64 c) ∧ Q c w' := by
  have HS := hide (fun V : World => seal_yes q b d V h)
  have HW := hide hW
  have HK := hide (Blk.new w [.int .i64 q, .int .i64 b, .string d] 186)
  clear hW h
  generalize sealS q b d = z at HS HW
  go_enter Tryz.func183, Tryz.ntmps183
  go_wp2_with fail
  refine (HS.out _).mono ?_
  rintro e w1 ⟨rfl, hb1⟩
  have c0 : w1.cell? ⟨w.heap.size, 0, none⟩ = some (.int .i64 q) := (HK.out.on hb1).cell 0
  have HB := hide (((Below.refl w.heap.size w).alloc (Nat.le_refl _) _).trans (hb1.mono (by simp)))
  clear hb1
  go_wp2_with fail
  refine (HW.out _ HB.out).mono ?_
  rintro e w2 ⟨c, rfl, hQ⟩
  have HQ := hide hQ
  clear hQ
  go_wp2
  go_ret
  exact ⟨c, rfl, HQ.out⟩
end Go.Proofs.YtgaoeoijdpdjiabGreatDoor

namespace Go.Proofs.YtgaoeoijdpdjiabGreatDoor
open Go.RowKit

theorem madeStr (n : Nat) : madeCells (Value.string ⟨#[]⟩).cells n = ((List.replicate n (⟨#[]⟩ : ByteArray)).map Value.string).toArray := by
  apply Array.ext
  · simp [size_madeCells]
  · intro i h1 h2
    simp [madeCells, Value.cells, Nat.mod_one]
theorem makeStr (k : Nat) (hk : k ≤ 1000) (w : World) : (Instr.makeSlice 27 (.int .i64 k) (.int .i64 k)).run Tryz.prog w = .ok (.slice (some ⟨w.heap.size, 0, none⟩) k k) (w.alloc (.cells ((List.replicate k (⟨#[]⟩ : ByteArray)).map Value.string).toArray 9)) := by
  obtain ⟨i0, hi, hz0, hz1, hz2⟩ := info_parts infoStr
  have h := run_make (P := Tryz.prog) w 27 9 i0 (.string ⟨#[]⟩) Tryz.underlying27 hi hz0 .i64 .i64 k k (by omega) (by omega) (by rw [hz2]; omega) (by omega)
  rw [hz1, Nat.mul_one, Int.toNat_natCast, madeStr] at h
  exact h

theorem heldN {n : Nat} {w W V : World} (h : Below n w W) (hb : Below W.heap.size W V) (hn : n ≤ w.heap.size) : Below n w V := h.trans (hb.mono (Nat.le_trans hn h.size))
end Go.Proofs.YtgaoeoijdpdjiabGreatDoor

namespace Go.Proofs.YtgaoeoijdpdjiabGreatDoor
open Go.RowKit

/-- The value of height h over the leaf number F. -/
def climbS (k b : Int) (pub : ByteArray) (p0 p1 : Int) (F : Nat) (path : List ByteArray) (y : ByteArray) : Nat → ByteArray
  | 0 => y
  | h + 1 => if F / 2 ^ h % 2 = 0 then joinS k b pub p0 p1 (h + 1 : Nat) (F / 2 ^ (h + 1) : Nat) (climbS k b pub p0 p1 F path y h) (path.getD h ⟨#[]⟩) else joinS k b pub p0 p1 (h + 1 : Nat) (F / 2 ^ (h + 1) : Nat) (path.getD h ⟨#[]⟩) (climbS k b pub p0 p1 F path y h)

theorem climbS_size (k b : Int) (pub : ByteArray) (p0 p1 : Int) (F : Nat) (path : List ByteArray) (y : ByteArray) (hk : k = 1 ∨ k = 2) (h1 : 1 ≤ b) (h2 : b ≤ 16) (hp : pub.size ≤ 16) (hy : (y.size : Int) = b) (hx : ∀ z ∈ path, (z.size : Int) = b) : ∀ h, h ≤ path.length → ((climbS k b pub p0 p1 F path y h).size : Int) = b := by
  intro h
  induction h with
  | zero => intro _; exact hy
  | succ h ih =>
    intro hl
    have e0 := ih (by omega)
    have e1 : ((path.getD h ⟨#[]⟩).size : Int) = b := by
      rw [List.getD_eq_getElem?_getD, List.getElem?_eq_getElem (by omega)]
      exact hx _ (List.getElem_mem (by omega))
    rw [climbS]
    split
    · exact joinS_size k b pub p0 p1 _ _ _ _ hk h1 h2 hp (by omega) (by omega)
    · exact joinS_size k b pub p0 p1 _ _ _ _ hk h1 h2 hp (by omega) (by omega)

theorem tdiv_two (a : Nat) : Int.tdiv (a : Int) 2 = ((a / 2 : Nat) : Int) := by rw [Int.tdiv_eq_ediv_of_nonneg (by omega)]; omega
theorem tmod_two (a : Nat) : Int.tmod (a : Int) 2 = ((a % 2 : Nat) : Int) := by rw [Int.tmod_eq_emod_of_nonneg (by omega)]; omega
end Go.Proofs.YtgaoeoijdpdjiabGreatDoor
