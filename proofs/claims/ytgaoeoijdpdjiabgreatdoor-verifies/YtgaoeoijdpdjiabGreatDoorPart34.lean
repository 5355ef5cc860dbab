/-
  The document's values of a list of texts. From a leaf up to the root: the program's climb. The document's Verify where it refuses key, message or form. The program's cut: a text in pieces of one length. The program's IsIndex. The parts of a signature that come in: a number, a text, a list of texts. Blocks over an append.
-/
import Derived.Test.YtgaoeoijdpdjiabGreatDoorPart31
import Derived.Test.YtgaoeoijdpdjiabGreatDoorPart10
import Derived.Test.YtgaoeoijdpdjiabGreatDoorPart26
import Derived.Test.YtgaoeoijdpdjiabGreatDoorPart30
import Derived.Test.YtgaoeoijdpdjiabGreatDoorPart15
import Derived.Deep.Strs
import Derived.SizedLaws
namespace Go.Proofs.YtgaoeoijdpdjiabGreatDoor
open Go.RowKit

theorem rvals_any (k b x t l m : Int) (sp : Option Addr) (n c : Nat) (xs : List ByteArray) (w : World) (h : StrsAt w sp n c xs) (hN : xs.length ≤ 8796093022208) :
    Calls Tryz.prog 86 #[.agg #[.int .i64 k, .int .i64 b, .int .i64 x, .int .i64 t, .int .i64 l], .slice sp n c, .int .i64 m] w fun e w' => e = .returned (.bool (allLen b xs && decide ((xs.length : Int) = m))) ∧ Below w.heap.size w w' := by
  rcases h with ⟨rfl, rfl, rfl, rfl⟩ | ⟨a, rfl, rfl, rfl⟩ | ⟨bk, o, rfl, rfl, _, h4, h5⟩
  · exact rvalues_nil k b x t l m w
  · exact rvalues_emp k b x t l m a c w
  · exact rvalues_some k b x t l m bk o c xs w h5 h4 (by omega)
end Go.Proofs.YtgaoeoijdpdjiabGreatDoor

namespace Go.Proofs.YtgaoeoijdpdjiabGreatDoor
open Go.RowKit

set_option maxRecDepth 20000 in
set_option maxHeartbeats 4000000 in
theorem sclimb_any (k b x t l : Int) (seed : ByteArray) (p0 p1 p3 : Int) (F : Nat) (g o c : Nat) (path : List ByteArray) (y : ByteArray) (w : World) (hcells : ∀ (j : Nat) z, path[j]? = some z → w.cell? ⟨g, o + j, none⟩ = some (.string z)) (hg : g < w.heap.size) (hN : path.length ≤ 64) (hF : F ≤ 1000)
    (hk : k = 1 ∨ k = 2) (h1 : 1 ≤ b) (h2 : b ≤ 16) (hs : seed.size ≤ 16) (hy : (y.size : Int) = b) (hxs : ∀ z ∈ path, (z.size : Int) = b) (hT : Tn w) :
    Calls Tryz.prog 286 #[.agg #[.int .i64 k, .int .i64 b, .int .i64 x, .int .i64 t, .int .i64 l, .string seed, .int .i64 p0, .int .i64 p1, .int .i64 F, .int .i64 p3], .string y, .slice (some ⟨g, o, none⟩) path.length c] w fun e w' => e = .returned (.string (climbS k b seed p0 p1 F path y path.length)) ∧ Below w.heap.size w w' := by
  obtain ⟨p2, hp2⟩ : ∃ p2 : Int, p2 = (F : Int) := ⟨_, rfl⟩
  rw [← hp2]
  obtain ⟨W0, hW⟩ : ∃ W0, w.alloc (.cells #[.int .i64 k, .int .i64 b, .int .i64 x, .int .i64 t, .int .i64 l, .string seed, .int .i64 p0, .int .i64 p1, .int .i64 p2, .int .i64 p3] 344) = W0 := ⟨_, rfl⟩
  have HF := hide (show TenC w.heap.size W0 k b x t l seed p0 p1 p2 p3 by subst hW; refine ⟨?_, ?_, ?_, ?_, ?_, ?_, ?_, ?_, ?_, ?_⟩ <;> simp [go_sem])
  have HB := hide (show Below w.heap.size w W0 by subst hW; exact (Below.refl _ _).alloc (Nat.le_refl _) _)
  have hz : W0.heap.size = w.heap.size + 1 := by subst hW; simp
  have HT := hide (hT.on HB.out)
  have HS := hide (fun (V : World) (h : Below W0.heap.size W0 V) => (by
    obtain ⟨c0, c1, c2, c3, c4, c5, c6, c7, c8, c9⟩ := HF.out.below h (by omega)
    exact ⟨c0, c1, c2, c3, c4, c5, c6, c7, c8, c9, h⟩ : V.cell? ⟨w.heap.size, 0, none⟩ = some (.int .i64 k) ∧ V.cell? ⟨w.heap.size, 1, none⟩ = some (.int .i64 b) ∧ V.cell? ⟨w.heap.size, 2, none⟩ = some (.int .i64 x) ∧ V.cell? ⟨w.heap.size, 3, none⟩ = some (.int .i64 t) ∧ V.cell? ⟨w.heap.size, 4, none⟩ = some (.int .i64 l) ∧ V.cell? ⟨w.heap.size, 5, none⟩ = some (.string seed) ∧ V.cell? ⟨w.heap.size, 6, none⟩ = some (.int .i64 p0) ∧ V.cell? ⟨w.heap.size, 7, none⟩ = some (.int .i64 p1) ∧ V.cell? ⟨w.heap.size, 8, none⟩ = some (.int .i64 p2) ∧ V.cell? ⟨w.heap.size, 9, none⟩ = some (.int .i64 p3) ∧ Below W0.heap.size W0 V))
  have HC0 := hide (fun (V : World) (hb : Below W0.heap.size W0 V) (j : Nat) (z : ByteArray) (hj : path[j]? = some z) => (hb.cell (p := ⟨g, o + j, none⟩) (by show g < _; omega)).trans ((HB.out.cell (p := ⟨g, o + j, none⟩) hg).trans (hcells j z hj)))
  have HCS := hide (climbS_size k b seed p0 p1 F path y hk h1 h2 hs hy hxs)
  have HJ := hide (fun (h j : Int) (u z : ByteArray) (hu : u.size ≤ 16) (hz : z.size ≤ 16) (V : World) (hb : Below W0.heap.size W0 V) => sjoin_any k b x t l seed p0 p1 p2 p3 h j u z V hk h1 h2 hs hu hz (HT.out.on hb))
  have HXS := hide hxs
  have HP2 := hide hp2
  clear hT hcells hxs hp2
  obtain ⟨c0, c1, c2, c3, c4, c5, c6, c7, c8, c9, _⟩ := HS.out W0 (Below.refl _ _)
  go_enter Tryz.func286, Tryz.ntmps286
  go_wp2_with fail
  try rw [hW]
  clear hW c0 c1 c2 c3 c4 c5 c6 c7 c8 c9
  go_loopw [1, 7, 17] (fun u n i wr => ∃ m : Nat, m ≤ path.length ∧ i = .int .i64 m ∧ n = .int .i64 ((F / 2 ^ m : Nat) : Int) ∧ u = .string (climbS k b seed p0 p1 F path y m) ∧ Hid (Below W0.heap.size W0 wr)) (fun _ _ i _ => path.length - (intOf i).toNat)
  case atStart => exact ⟨0, Nat.zero_le _, rfl, by rw [HP2.out]; simp, rfl, Below.refl _ _⟩
  case round =>
    obtain ⟨m, hm, rfl, rfl, rfl, hb⟩ := hrel
    by_cases hlt : m < path.length
    · obtain ⟨z, hz0⟩ : ∃ z, path[m]? = some z := ⟨_, List.getElem?_eq_getElem hlt⟩
      have cz := HC0.out wr hb.out m z hz0
      have hz : z.size ≤ 16 := by have := HXS.out z (List.mem_of_getElem? hz0); omega
      have HGD := hide (show path.getD m ⟨#[]⟩ = z by rw [List.getD_eq_getElem?_getD, hz0]; rfl)
      have HCM := hide (HCS.out m hm)
      have HST : Hid (climbS k b seed p0 p1 F path y (m + 1) = if F / 2 ^ m % 2 = 0 then joinS k b seed p0 p1 (m + 1 : Nat) (F / 2 ^ (m + 1) : Nat) (climbS k b seed p0 p1 F path y m) (path.getD m ⟨#[]⟩) else joinS k b seed p0 p1 (m + 1 : Nat) (F / 2 ^ (m + 1) : Nat) (path.getD m ⟨#[]⟩) (climbS k b seed p0 p1 F path y m)) := rfl
      rw [HGD.out] at HST
      have hu : (climbS k b seed p0 p1 F path y m).size ≤ 16 := by have := HCM.out; omega
      have hq1 : F / 2 ^ m ≤ 1000 := Nat.le_trans (Nat.div_le_self _ _) hF
      have HQ : Hid (F / 2 ^ m / 2 = F / 2 ^ (m + 1)) := by show F / 2 ^ m / 2 = F / 2 ^ (m + 1); rw [Nat.div_div_eq_div_mul, ← Nat.pow_succ]
      obtain ⟨q2, HQ2⟩ : ∃ q2, Hid (F / 2 ^ m / 2 = q2) := ⟨_, rfl⟩
      have hq2 : q2 ≤ 1000 := by have := HQ2.out; omega
      have hdv : Int.tdiv ((F / 2 ^ m : Nat) : Int) 2 = (q2 : Int) := by rw [tdiv_two, HQ2.out]
      have hwq : IntKind.i64.wrap (q2 : Int) = (q2 : Int) := by rw [IntKind.wrap_i64]; omega
      have HR2 : Hid (F / 2 ^ (m + 1) = q2) := HQ.out.symm.trans HQ2.out
      rw [HR2.out] at HST
      obtain ⟨d0, d1, d2, d3, d4, d5, d6, d7, d8, d9, _⟩ := HS.out wr hb.out
      have HRH := hide (HJ.out ((m : Int) + 1) (q2 : Int))
      clear hz0 HQ HGD
      by_cases hev : F / 2 ^ m % 2 = 0
      · have hmo : Int.tmod ((F / 2 ^ m : Nat) : Int) 2 = 0 := by rw [tmod_two, hev]; rfl
        have HJ1 := hide (HRH.out (climbS k b seed p0 p1 F path y m) z hu hz wr hb.out)
        have HE : Hid (climbS k b seed p0 p1 F path y (m + 1) = joinS k b seed p0 p1 ((m : Int) + 1) (q2 : Int) (climbS k b seed p0 p1 F path y m) z) := by
          show climbS k b seed p0 p1 F path y (m + 1) = _
          rw [HST.out, if_pos hev]; rfl
        clear hev HST HRH HQ2 HCM
        generalize climbS k b seed p0 p1 F path y m = u at HJ1 HE hu ⊢
        generalize F / 2 ^ m = q at hdv hmo hq1 ⊢
        go_wp2_with fail
        refine HJ1.out.mono ?_
        rintro e w1 ⟨rfl, hb1⟩
        have HB1 := hide (heldB hb.out hb1 (Nat.le_refl _))
        clear hb1 d0 d1 d2 d3 d4 d5 d6 d7 d8 d9 cz hdv hmo hwq
        go_wp2
        go_roundw
        case rel =>
          have R : ∃ m' : Nat, m' ≤ path.length ∧ Value.int .i64 ((m : Int) + 1) = .int .i64 m' ∧ Value.int .i64 (q2 : Int) = .int .i64 ((F / 2 ^ m' : Nat) : Int) ∧ Value.string (joinS k b seed p0 p1 ((m : Int) + 1) (q2 : Int) u z) = .string (climbS k b seed p0 p1 F path y m') ∧ Hid (Below W0.heap.size W0 w1) := ⟨m + 1, by omega, by go_num, by rw [HR2.out], by rw [HE.out], HB1.out⟩
          first | exact R | ((repeat apply Exists.intro); exact ⟨R, rfl⟩)
        case measure => simp [intOf]; omega
      · have hmo : Int.tmod ((F / 2 ^ m : Nat) : Int) 2 = 1 := by rw [tmod_two, show F / 2 ^ m % 2 = 1 by omega]; rfl
        have HJ1 := hide (HRH.out z (climbS k b seed p0 p1 F path y m) hz hu wr hb.out)
        have HE : Hid (climbS k b seed p0 p1 F path y (m + 1) = joinS k b seed p0 p1 ((m : Int) + 1) (q2 : Int) z (climbS k b seed p0 p1 F path y m)) := by
          show climbS k b seed p0 p1 F path y (m + 1) = _
          rw [HST.out, if_neg hev]; rfl
        clear hev HST HRH HQ2 HCM
        generalize climbS k b seed p0 p1 F path y m = u at HJ1 HE hu ⊢
        generalize F / 2 ^ m = q at hdv hmo hq1 ⊢
        go_wp2_with fail
        refine HJ1.out.mono ?_
        rintro e w1 ⟨rfl, hb1⟩
        have HB1 := hide (heldB hb.out hb1 (Nat.le_refl _))
        clear hb1 d0 d1 d2 d3 d4 d5 d6 d7 d8 d9 cz hdv hmo hwq
        go_wp2
        go_roundw
        case rel =>
          have R : ∃ m' : Nat, m' ≤ path.length ∧ Value.int .i64 ((m : Int) + 1) = .int .i64 m' ∧ Value.int .i64 (q2 : Int) = .int .i64 ((F / 2 ^ m' : Nat) : Int) ∧ Value.string (joinS k b seed p0 p1 ((m : Int) + 1) (q2 : Int) z u) = .string (climbS k b seed p0 p1 F path y m') ∧ Hid (Below W0.heap.size W0 w1) := ⟨m + 1, by omega, by go_num, by rw [HR2.out], by rw [HE.out], HB1.out⟩
          first | exact R | ((repeat apply Exists.intro); exact ⟨R, rfl⟩)
        case measure => simp [intOf]; omega
    · obtain rfl : m = path.length := by omega
      go_wp2
      go_ret
      exact ⟨rfl, HB.out.trans (hb.out.mono (by omega))⟩
end Go.Proofs.YtgaoeoijdpdjiabGreatDoor

namespace Go.Proofs.YtgaoeoijdpdjiabGreatDoor
open Go.RowKit

set_option maxRecDepth 20000 in
set_option maxHeartbeats 4000000 in
theorem refVerify_key (key msg sig : ByteArray) (w : World)
    (hK : ∀ V : World, Calls Tryz.prog 89 #[.string key] V fun e w' => e = .returned (.tuple #[.agg #[.int .i64 0, .int .i64 0, .int .i64 0, .int .i64 0, .int .i64 0], .bool false]) ∧ Below V.heap.size V w') :
    Calls Tryz.prog 45 #[.string key, .string msg, .string sig] w fun e w' => e = .returned (.int .i64 11) ∧ Below w.heap.size w w' := by
  have HK := hide hK
  clear hK
  go_enter Tryz.func45, Tryz.ntmps45
  go_wp2_with fail
  refine (HK.out _).mono ?_
  rintro e w1 ⟨rfl, hb1⟩
  have HB1 := hide hb1
  clear hb1
  have HB2 := hide (HB1.out.alloc HB1.out.size (.cells #[.int .i64 0, .int .i64 0, .int .i64 0, .int .i64 0, .int .i64 0] 26))
  go_wp2
  go_ret
  exact ⟨rfl, HB2.out⟩

set_option maxRecDepth 20000 in
set_option maxHeartbeats 4000000 in
theorem refVerify_long (k b x t l : Int) (key msg sig : ByteArray) (w : World) (hm : 200 < msg.size)
    (hK : ∀ V : World, Calls Tryz.prog 89 #[.string key] V fun e w' => e = .returned (.tuple #[.agg #[.int .i64 k, .int .i64 b, .int .i64 x, .int .i64 t, .int .i64 l], .bool true]) ∧ Below V.heap.size V w') :
    Calls Tryz.prog 45 #[.string key, .string msg, .string sig] w fun e w' => e = .returned (.int .i64 3) ∧ Below w.heap.size w w' := by
  have hm2 : (200 : Int) < (msg.size : Int) := by omega
  have HK := hide hK
  clear hK
  go_enter Tryz.func45, Tryz.ntmps45
  go_wp2_with fail
  refine (HK.out _).mono ?_
  rintro e w1 ⟨rfl, hb1⟩
  have HB1 := hide hb1
  clear hb1
  have HB2 := hide (HB1.out.alloc HB1.out.size (.cells #[.int .i64 k, .int .i64 b, .int .i64 x, .int .i64 t, .int .i64 l] 26))
  go_wp2
  go_ret
  exact ⟨rfl, HB2.out⟩

set_option maxRecDepth 20000 in
set_option maxHeartbeats 4000000 in
theorem refVerify_form (k b x t l er : Int) (key msg sig : ByteArray) (w : World) (hm : msg.size ≤ 200) (her : er ≠ 0)
    (hK : ∀ V : World, Calls Tryz.prog 89 #[.string key] V fun e w' => e = .returned (.tuple #[.agg #[.int .i64 k, .int .i64 b, .int .i64 x, .int .i64 t, .int .i64 l], .bool true]) ∧ Below V.heap.size V w')
    (hS : ∀ V : World, Calls Tryz.prog 36 #[.agg #[.int .i64 k, .int .i64 b, .int .i64 x, .int .i64 t, .int .i64 l], .string sig] V fun r w' => r = .returned (.tuple #[.agg #[.int .i64 0, .string ⟨#[]⟩, .slice none 0 0], .int .i64 er]) ∧ Below V.heap.size V w') :
    Calls Tryz.prog 45 #[.string key, .string msg, .string sig] w fun e w' => e = .returned (.int .i64 er) ∧ Below w.heap.size w w' := by
  have hm2 : ¬ (200 : Int) < (msg.size : Int) := by omega
  have n0 : ((er : Int) != 0) = true := by simpa using her
  have n1 : ((er : Int) == 0) = false := by simpa using her
  have HS := hide hS
  clear hS
  have HK := hide hK
  clear hK
  go_enter Tryz.func45, Tryz.ntmps45
  go_wp2_with fail
  refine (HK.out _).mono ?_
  rintro e w1 ⟨rfl, hb1⟩
  have HB1 := hide hb1
  clear hb1
  have HB2 := hide (HB1.out.alloc HB1.out.size (.cells #[.int .i64 k, .int .i64 b, .int .i64 x, .int .i64 t, .int .i64 l] 26))
  have HK2 := hide (Blk.new w1 [.int .i64 k, .int .i64 b, .int .i64 x, .int .i64 t, .int .i64 l] 26)
  obtain ⟨W2, hW2⟩ : ∃ W2, w1.alloc (.cells #[.int .i64 k, .int .i64 b, .int .i64 x, .int .i64 t, .int .i64 l] 26) = W2 := ⟨_, rfl⟩
  rw [hW2] at HB2 HK2
  have HWE := hide hW2
  clear hW2
  go_wp2_with fail
  rw [HWE.out]
  refine (HS.out _).mono ?_
  rintro e w3 ⟨rfl, hb3⟩
  have HB3 := hide (heldB HB2.out hb3 (Nat.le_refl _))
  clear hb3
  have HB4 := hide (HB3.out.alloc HB3.out.size (.cells #[.int .i64 0, .string ⟨#[]⟩, .slice none 0 0] 29))
  go_wp2
  go_ret
  exact ⟨rfl, HB4.out⟩

end Go.Proofs.YtgaoeoijdpdjiabGreatDoor

namespace Go.Proofs.YtgaoeoijdpdjiabGreatDoor
open Go.RowKit

theorem sliceV (s : ByteArray) (a b : Nat) (h1 : a ≤ b) (h2 : b ≤ s.size) (w : World) : (Instr.slice 9 (.string s) (some (.int .i64 (a : Int))) (some (.int .i64 (b : Int))) none).run Tryz.prog w = .ok (.string (s.extract a b)) w := by
  have e3 : (a : Int) ≤ (b : Int) := by omega
  have e4 : (b : Int) ≤ (s.size : Int) := by omega
  simp [go_sem, e3, e4]

/-- The first n pieces of length b. -/
def cutS (s : ByteArray) (b n : Nat) : List ByteArray := (List.range n).map fun i => s.extract (i * b) ((i + 1) * b)
theorem cutS_length (s : ByteArray) (b n : Nat) : (cutS s b n).length = n := by simp [cutS]
theorem cutS_succ (s : ByteArray) (b n : Nat) : cutS s b (n + 1) = cutS s b n ++ [s.extract (n * b) ((n + 1) * b)] := by simp [cutS, List.range_succ]
theorem cutS_size (s : ByteArray) (b n : Nat) (h : n * b ≤ s.size) : ∀ y ∈ cutS s b n, (y.size : Int) = b := by
  intro y hy
  simp only [cutS, List.mem_map, List.mem_range] at hy
  obtain ⟨i, hi, rfl⟩ := hy
  have h2 : (i + 1) * b ≤ s.size := Nat.le_trans (Nat.mul_le_mul_right _ hi) h
  rw [ByteArray.size_extract, Nat.min_eq_left h2, Nat.add_mul, Nat.one_mul, Nat.add_sub_cancel_left]

set_option maxRecDepth 20000 in
set_option maxHeartbeats 4000000 in
theorem cut_on (s : ByteArray) (b n : Nat) (w : World) (hb1 : 1 ≤ b) (hb2 : b ≤ 8) (hs1 : s.size ≤ n * b) (hs2 : n * b ≤ s.size) (hn : n ≤ 200) :
    Calls Tryz.prog 158 #[.string s, .int .i64 b] w fun e w' => e = .returned (.slice (some ⟨w.heap.size, 0, none⟩) n n) ∧ Blk w' w.heap.size ((cutS s b n).map Value.string) 9 ∧ Below w.heap.size w w' := by
  have hmk := makeStr n (by omega)
  have hnb : n * b ≤ 1600 := Nat.le_trans (Nat.mul_le_mul hn hb2) (by decide)
  have htd : Int.tdiv (s.size : Int) (b : Int) = (n : Int) := by
    rw [show s.size = n * b by omega, Int.natCast_mul, Int.mul_tdiv_cancel _ (by omega)]
  have hb0 : b ≠ 0 := by omega
  have HSL := hide (fun (m : Nat) (hm : m < n) => sliceV s (m * b) ((m + 1) * b) (Nat.mul_le_mul_right _ (by omega)) (Nat.le_trans (Nat.mul_le_mul_right _ hm) hs2))
  have HV := hide (fun (m : Nat) (hm : m < n) => (show IntKind.i64.wrap ((m : Int) * (b : Int)) = ((m * b : Nat) : Int) ∧ IntKind.i64.wrap (((m : Int) + 1) * (b : Int)) = (((m + 1) * b : Nat) : Int) by
    have h1 : m * b ≤ n * b := Nat.mul_le_mul_right _ (by omega)
    have h2 : (m + 1) * b ≤ n * b := Nat.mul_le_mul_right _ hm
    have e1 : (m : Int) * (b : Int) = ((m * b : Nat) : Int) := by rw [Int.natCast_mul]
    have e2 : ((m : Int) + 1) * (b : Int) = (((m + 1) * b : Nat) : Int) := by rw [Int.natCast_mul]; rfl
    rw [e1, e2]
    constructor <;> rw [IntKind.wrap_i64] <;> omega))
  have HSU := hide (fun m => cutS_succ s b m)
  have HLE := hide (fun m => cutS_length s b m)
  have hsz : s.size ≤ 1600 := by omega
  have HW3 := hide (show Blk (w.alloc (.cells (Array.replicate n (Value.string ⟨#[]⟩)) 9)) w.heap.size (List.replicate n (Value.string ⟨#[]⟩)) 9 ∧ Below w.heap.size w (w.alloc (.cells (Array.replicate n (Value.string ⟨#[]⟩)) 9)) by
    refine ⟨?_, (Below.refl _ _).alloc (Nat.le_refl _) _⟩
    have h := Blk.new w (List.replicate n (Value.string ⟨#[]⟩)) 9
    rw [List.toArray_replicate] at h; exact h)
  clear hs1 hs2 hnb
  go_enter Tryz.func158, Tryz.ntmps158
  go_wp2_with fail
  obtain ⟨W3, hW3⟩ : ∃ W3, w.alloc (.cells (Array.replicate n (Value.string ⟨#[]⟩)) 9) = W3 := ⟨_, rfl⟩
  rw [hW3] at HW3 ⊢
  clear hW3 hmk htd hb0
  go_loopw [14] (fun i wr => ∃ m : Nat, m ≤ n ∧ i = .int .i64 m ∧ Hid (Blk wr w.heap.size ((cutS s b m).map Value.string ++ List.replicate (n - m) (Value.string ⟨#[]⟩)) 9) ∧ Hid (Below w.heap.size w wr)) (fun i _ => n - (intOf i).toNat)
  case atStart => exact ⟨0, Nat.zero_le _, rfl, show Blk _ _ _ _ by simpa [cutS] using HW3.out.1, HW3.out.2⟩
  case round =>
    obtain ⟨m, hm, rfl, hen, hb⟩ := hrel
    by_cases hlt : m < n
    · have hsl := HSL.out m hlt
      obtain ⟨v1, v2⟩ := HV.out m hlt
      have hl := HLE.out m
      obtain ⟨A, hA⟩ : ∃ A, m * b = A := ⟨_, rfl⟩
      obtain ⟨C, hC⟩ : ∃ C, (m + 1) * b = C := ⟨_, rfl⟩
      have HES1 := hide (HSU.out m)
      rw [hA, hC] at hsl HES1
      rw [hA] at v1
      rw [hC] at v2
      generalize s.extract A C = pS at hsl HES1
      have e0 : wr.cell? ⟨w.heap.size, m, none⟩ = some (.string ⟨#[]⟩) := by
        rw [hen.out.cell, List.getElem?_append_right (by simp [hl]), List.length_map, hl, Nat.sub_self, List.getElem?_replicate, if_pos (by omega)]
      have e1 := hen.out.free m
      have HEE := hide (show Blk (wr.setCell ⟨w.heap.size, m, none⟩ (.string pS)) w.heap.size ((cutS s b (m + 1)).map Value.string ++ List.replicate (n - (m + 1)) (Value.string ⟨#[]⟩)) 9 by
        have h := hen.out.set m (.string pS)
        rw [List.set_append_right _ _ (by simp [hl]), List.length_map, hl, Nat.sub_self, show n - m = (n - (m + 1)) + 1 by omega, List.replicate_succ, List.set_cons_zero] at h
        rw [HES1.out, List.map_append, List.append_assoc]
        exact h)
      have HBE := hide (hb.out.setCell (p := ⟨w.heap.size, m, none⟩) (Nat.le_refl _) (.string pS))
      clear hl HES1 hA hC
      have hms : (m : Int) < (n : Int) := by omega
      go_wp2
      go_roundw
      case rel =>
        have R : ∃ m' : Nat, m' ≤ n ∧ Value.int .i64 ((m : Int) + 1) = .int .i64 m' ∧ Hid (Blk (wr.setCell ⟨w.heap.size, m, none⟩ (.string pS)) w.heap.size ((cutS s b m').map Value.string ++ List.replicate (n - m') (Value.string ⟨#[]⟩)) 9) ∧ Hid (Below w.heap.size w (wr.setCell ⟨w.heap.size, m, none⟩ (.string pS))) := ⟨m + 1, by omega, by go_num, HEE.out, HBE.out⟩
        first | exact R | ((repeat apply Exists.intro); exact ⟨R, rfl⟩)
      case measure => simp [intOf]; omega
    · obtain rfl : m = n := by omega
      go_wp2
      go_ret
      have h := hen.out
      rw [Nat.sub_self, List.replicate_zero, List.append_nil] at h
      exact ⟨rfl, h, hb.out⟩
end Go.Proofs.YtgaoeoijdpdjiabGreatDoor

namespace Go.Proofs.YtgaoeoijdpdjiabGreatDoor
open Go.RowKit

set_option maxRecDepth 20000 in
set_option maxHeartbeats 4000000 in
theorem isIndex_on (k b x t l i a0 a1 a2 tot a4 a5 : Int) (w : World)
    (hM : ∀ V : World, Calls Tryz.prog 155 #[.agg #[.int .i64 k, .int .i64 b, .int .i64 x, .int .i64 t, .int .i64 l]] V fun e w' => e = .returned (.tuple #[.agg #[.int .i64 a0, .int .i64 a1, .int .i64 a2, .int .i64 tot, .int .i64 a4, .int .i64 a5], .int .i64 0]) ∧ Below V.heap.size V w') :
    Calls Tryz.prog 157 #[.agg #[.int .i64 k, .int .i64 b, .int .i64 x, .int .i64 t, .int .i64 l], .int .i64 i] w fun e w' => e = .returned (.bool (decide (0 ≤ i ∧ i < tot))) ∧ Below w.heap.size w w' := by
  have HM := hide (hM (w.alloc (.cells #[.int .i64 k, .int .i64 b, .int .i64 x, .int .i64 t, .int .i64 l] 26)))
  have HW := hide (fun V : World => within_any i tot V)
  clear hM
  generalize decide (0 ≤ i ∧ i < tot) = r at HW ⊢
  go_enter Tryz.func157, Tryz.ntmps157
  go_wp2_with fail
  refine HM.out.mono ?_
  rintro e w1 ⟨rfl, hb1⟩
  have HB1 := hide (((Below.refl w.heap.size w).alloc (Nat.le_refl _) _).trans (hb1.mono (by simp)))
  clear hb1 HM
  go_wp2_with fail
  refine (HW.out _).mono ?_
  rintro e w2 ⟨rfl, hw⟩
  obtain rfl := hw.symm
  clear hw
  go_wp2
  go_ret
  exact ⟨rfl, HB1.out.alloc HB1.out.size _⟩
end Go.Proofs.YtgaoeoijdpdjiabGreatDoor

namespace Go.Proofs.YtgaoeoijdpdjiabGreatDoor
open Go.ChangeShapes Go.WideShapes Go.ChangeAt Go.RowKit Go.Deep

theorem cellsParsed : Tryz.prog.cellsOf 29 = 3 := by kernel_rfl
theorem cellsStrs : Tryz.prog.cellsOf 27 = 1 := by kernel_rfl

set_option maxRecDepth 100000 in
theorem open_parsed {H : Type} {enc : TypeId × Value → H} {W : World} {base b0 : Nat} {held : Bool} {r : Reach} {v : Value} {d : DataW H} {p : List MemPlace}
    (hv : Value.okWide Tryz.prog W r b0 29 v) (h : DataW.Trod enc Tryz.prog W base (fun _ => true) held 29 v d p) :
    ∃ (i : Int) (rnd : ByteArray) (sp : Option Addr) (n c : Nat) (xs : List ByteArray), v = .agg #[.int .i64 i, .string rnd, .slice sp n c] ∧ StrsAt W sp n c xs ∧ (xs = [] ∨ ∃ d0 d1 elems spare, d = .agg [d0, d1, .slice elems spare] ∧ elems.length = xs.length) := by
  obtain ⟨cs, rfl, hsz⟩ := okWide_struct Tryz.underlying29 hv
  obtain ⟨c0, c1, c2, rfl⟩ := array3 (hsz.trans cellsParsed)
  obtain ⟨fuel, hf⟩ := h
  obtain ⟨ys, m0, _, hd, _, hlen, hfs⟩ := DataW.trod_struct Tryz.underlying29 hf
  simp at hlen
  have g0 : DataW.trod enc Tryz.prog W base (fun _ => true) held m0 3 [c0] = ys[0]? := by simpa [Value.cells, cellsInt] using hfs 0 _ rfl
  have g1 : DataW.trod enc Tryz.prog W base (fun _ => true) held m0 9 [c1] = ys[1]? := by simpa [Value.cells, cellsStr] using hfs 1 _ rfl
  have g2 : DataW.trod enc Tryz.prog W base (fun _ => true) held m0 27 [c2] = ys[2]? := by simpa [Value.cells, cellsStrs] using hfs 2 _ rfl
  rw [List.getElem?_eq_getElem (by omega)] at g0 g1 g2
  obtain ⟨i, e0, _, _⟩ := DataW.trod_int Tryz.underlying3 g0
  obtain ⟨rnd, e1, _⟩ := DataW.trod_string Tryz.underlying9 g1
  simp at e0 e1
  subst e0 e1
  obtain ⟨y0, y1, y2, rfl⟩ : ∃ y0 y1 y2, ys = [y0, y1, y2] := by
    match ys, hlen with
    | [y0, y1, y2], _ => exact ⟨y0, y1, y2, rfl⟩
  simp only [List.getElem_cons_succ, List.getElem_cons_zero] at g2
  have hdd : d = .agg [y0.1, y1.1, y2.1] := by
    have := congrArg Prod.fst hd
    simpa using this
  rcases open_strs Tryz.underlying27 Tryz.underlying9 cellsStr g2 with ⟨h0, _⟩ | ⟨a, len, cap, m, Sx, hc, _, hl, _, hmm, hx, hcell⟩
  · simp at h0
    subst h0
    exact ⟨i, rnd, none, 0, 0, [], rfl, .inl ⟨rfl, rfl, rfl, rfl⟩, .inl rfl⟩
  · simp at hc
    subst hc
    simp only [if_true] at hmm
    subst hmm
    by_cases h0 : len = 0
    · subst h0
      exact ⟨i, rnd, some a, 0, m, [], rfl, .inr (.inl ⟨a, rfl, rfl, rfl⟩), .inl rfl⟩
    · have hs : a.spot = none := by
        have := World.cell?_spot (hcell 0 (by omega)).1
        simpa [Addr.add] using this
      obtain ⟨ab, ao, asp⟩ := a
      simp only at hs
      subst hs
      have hcell' : ∀ i, i < m → W.cell? ⟨ab, ao + i, none⟩ = some (.string (Sx i)) := fun i hi => by
        have := (hcell i hi).1
        rwa [Addr.add_mid] at this
      refine ⟨i, rnd, some ⟨ab, ao, none⟩, len, m, (List.range len).map Sx, rfl, .inr (.inr ⟨ab, ao, rfl, by simp, by simpa using hl, World.block_lt_of_cell? W _ (hcell' 0 (by omega)), fun j y hy => ?_⟩), .inr ⟨y0.1, y1.1, _, _, by rw [hdd, hx], by simp⟩⟩
      obtain ⟨hj, e⟩ := List.getElem?_eq_some_iff.1 hy
      simp at hj e
      subst e
      exact hcell' j (by omega)

theorem sized_parsed {H : Type} {ts : List TypeId} {ds : List (DataW H)} (h : (DataW.weightsEach Tryz.prog ts ds).all (· ≤ reachBytes) = true) {j : Nat} {d0 d1 : DataW H} {elems spare : List (DataW H)} (ht : ts[j]? = some 29) (hd : ds[j]? = some (.agg [d0, d1, .slice elems spare])) :
    (elems.length + spare.length) * Tryz.prog.bytesOf 9 ≤ reachBytes := by
  have := List.all_eq_true.1 h _ (DataW.weights_mem_each ht hd ((elems.length + spare.length) * Tryz.prog.bytesOf 9) (by simp [DataW.weights, DataW.weightsEach, Tryz.underlying29, Tryz.underlying27]))
  simpa using this
end Go.Proofs.YtgaoeoijdpdjiabGreatDoor

namespace Go.Proofs.YtgaoeoijdpdjiabGreatDoor
open Go.RowKit

theorem grownBy_cell (W : World) (g i : Nat) (v : Value) : W.grownBy (W.setCell ⟨g, i, none⟩ v) (some g) :=
  ⟨rfl, rfl, rfl, by simp [World.setCell], fun k _ hk => Below.heap_setCell _ _ _ _ (fun e => hk (by rw [e]))⟩

theorem own_ne {w : World} {base : Nat} {e : TypeId} {s : Nat} {v : Value} {n : Nat} {xs : List Value} (h : w.ownsRow base e s v n xs) {g : Nat} (hg : g < base) : v.ownBlock = none ∨ v.ownBlock ≠ some g := by
  cases hv : v.ownBlock with
  | none => exact .inl rfl
  | some p =>
    refine .inr (fun e => ?_)
    have := (owns_lt h p hv).1
    simp at e
    omega

theorem blk_grown {w w' : World} {g : Nat} {vs : List Value} {T : TypeId} {row : Option Nat} (h : Blk w g vs T) (hg : w.grownBy w' row) (hne : ∀ p, row = some p → g < p) : Blk w' g vs T := by
  have hlt := h.lt
  unfold Blk at h ⊢
  rw [hg.block g hlt (fun e => by have := hne g e.symm; omega)]
  exact h
end Go.Proofs.YtgaoeoijdpdjiabGreatDoor
