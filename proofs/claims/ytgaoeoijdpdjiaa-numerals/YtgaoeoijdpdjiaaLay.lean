/-
  sets.lay and sets.lack, by their contracts.
-/
import Derived.Test.YtgaoeoijdpdjiaaCells
import Derived.Test.YtgaoeoijdpdjiaaMaths
namespace Go.Proofs.Ytgaoeoijdpdjiaa
open Go.RowKit

theorem digs_at (x n v k : Nat) (h : k < n) : (digs x n v)[k]?.getD 0 = v / x ^ (n - (k + 1)) % x := by
  induction n generalizing v with
  | zero => omega
  | succ n ih =>
    simp only [digs]
    by_cases e : k < n
    · rw [List.getElem?_append_left (by rw [digs_length]; exact e), ih _ e, Nat.div_div_eq_div_mul, ← Nat.pow_succ', show n + 1 - (k + 1) = (n - (k + 1)).succ by omega]
    · obtain rfl : k = n := by omega
      rw [List.getElem?_append_right (by rw [digs_length]; exact Nat.le_refl _)]
      simp [digs_length]

theorem div_step (x n v k : Nat) (h : k + 1 ≤ n) : v / x ^ (n - (k + 1)) / x = v / x ^ (n - k) := by
  rw [Nat.div_div_eq_div_mul, ← Nat.pow_succ, show (n - (k + 1)).succ = n - k by omega]

set_option maxHeartbeats 400000 in
theorem lay_any (g off n cap v x : Nat) (L : List Int) (w : World) (hrow : RowZ w g L) (hlen : off + n ≤ L.length) (hL : L.length ≤ 1000) (hx : 2 ≤ x) (hx2 : x ≤ 16) (hv : v ≤ 4096) :
    Calls Try.prog 71 #[.slice (some ⟨g, off, none⟩) n cap, .int .i64 v, .int .i64 x] w fun e w' => e = .returned (.tuple #[]) ∧ RowZ w' g (laidTo L off n (digs x n v) 0) ∧ OnlyM g w w' := by
  have HR : Hid (RowZ w g L) := hrow
  clear hrow
  go_enter Try.func71, Try.ntmps71
  go_wp2
  go_loopw [1, 6] (fun t i wr => ∃ k : Nat, k ≤ n ∧ i = .int .i64 ((k : Int) - 1) ∧ t = .int .i64 ((v / x ^ (n - k) : Nat) : Int) ∧ Hid (RowZ wr g (laidTo L off n (digs x n v) k)) ∧ Hid (OnlyM g w wr)) (fun _ i _ => (intOf i + 1).toNat)
  case atStart => exact ⟨n, Nat.le_refl _, rfl, by simp, by rw [laidTo_start _ _ _ _ (digs_length _ _ _)]; exact HR, OnlyM.refl _ _⟩
  case round =>
    obtain ⟨k, hk, rfl, rfl, hr, ho⟩ := hrel
    by_cases h0 : 0 < k
    · obtain ⟨k, rfl⟩ : ∃ j, k = j + 1 := ⟨k - 1, by omega⟩
      have HD : Hid ((digs x n v)[k]?.getD 0 = v / x ^ (n - (k + 1)) % x) := digs_at x n v k (by omega)
      have HS : Hid (v / x ^ (n - (k + 1)) / x = v / x ^ (n - k)) := div_step x n v k hk
      have hu : v / x ^ (n - (k + 1)) ≤ 4096 := Nat.le_trans (Nat.div_le_self _ _) hv
      generalize hq : v / x ^ (n - (k + 1)) = q at HD HS hu ⊢
      have HQ : Hid (v / x ^ (n - (k + 1)) = q) := hq
      clear hq
      have hlen' := laidTo_length L off n (digs x n v) (k + 1) (digs_length _ _ _) hlen hk
      have hc := hr.out.cell (i := off + k) (by omega)
      have hf := hr.out.free (off + k)
      have d0 : (0 : Int) ≤ (q : Int) / (x : Int) := Int.ediv_nonneg (by omega) (by omega)
      have d1 : (q : Int) / (x : Int) ≤ 4096 := by have := Nat.div_le_self q x; have e : ((q / x : Nat) : Int) = (q : Int) / (x : Int) := Int.natCast_ediv q x; omega
      go_wp2
      go_roundw
      case rel =>
        refine ⟨k, by omega, by go_num, ?_, ?_, ?_⟩
        · rw [← HS.out, Int.natCast_ediv]
        · have := hr.out.set (off + k) (((digs x n v)[k]?.getD 0 : Nat) : Int)
          rw [laidTo_step L off n _ k (digs_length _ _ _) hlen (by omega), HD.out, Int.natCast_emod] at this
          exact this
        · exact ho.out.setCell _ _
      case measure => simp [intOf]
    · obtain rfl : k = 0 := by omega
      go_wp2
      go_end0
      exact ⟨rfl, hr.out, ho.out⟩

/-- The sum, as the loop makes it. -/
theorem lackN_snoc (x : Nat) (l : List Nat) (d : Nat) : lackN x (l ++ [d]) = lackN x l + (x - 1 - d) := by
  rw [lackN_append]; simp [lackN]

set_option maxHeartbeats 400000 in
theorem lack_any (g n cap x : Nat) (L : List Int) (D : List Nat) (w : World) (hrow : RowZ w g L) (hD : L.take n = D.map Int.ofNat) (hn : D.length = n) (hL : n ≤ 1000) (hx : 2 ≤ x) (hx2 : x ≤ 16) (hd : ∀ d ∈ D, d < x) :
    Calls Try.prog 72 #[.slice (some ⟨g, 0, none⟩) n cap, .int .i64 x] w fun e w' => e = .returned (.int .i64 (lackN x D)) ∧ w' = w := by
  have hnL : n ≤ L.length := by
    have := congrArg List.length hD
    simp at this; omega
  have hcell : ∀ i, i < n → w.cell? ⟨g, i, none⟩ = some (.int .i64 ((at0M D i : Nat) : Int)) := by
    intro i hi
    rw [hrow.cell (by omega)]
    have e : L[i]? = (L.take n)[i]? := by rw [List.getElem?_take_of_lt hi]
    rw [e, hD]
    simp [at0M, List.getElem?_map, List.getElem?_eq_getElem (show i < D.length by omega)]
  have HC : Hid (∀ i, i < n → w.cell? ⟨g, i, none⟩ = some (.int .i64 ((at0M D i : Nat) : Int))) := hcell
  have HD : Hid (∀ d ∈ D, d < x) := hd
  clear hrow hD hd hcell
  go_enter Try.func72, Try.ntmps72
  go_wp2
  go_loop [5, 10] (fun s i => ∃ k : Nat, k ≤ n ∧ i = .int .i64 k ∧ s = .int .i64 ((lackN x (D.take k) : Nat) : Int)) (fun _ i => n - (intOf i).toNat)
  case atStart => exact ⟨0, Nat.zero_le _, rfl, rfl⟩
  case round =>
    obtain ⟨k, hk, rfl, rfl⟩ := hrel
    by_cases hlt : k < n
    · have c := HC.out k hlt
      have hb := at0_lt D x k (by omega) HD.out
      have hs : lackN x (D.take k) ≤ k * (x - 1) := by have := lackN_le x (D.take k); rwa [List.length_take_of_le (by omega)] at this
      have hs2 : lackN x (D.take k) ≤ 1000 * 15 := Nat.le_trans hs (Nat.mul_le_mul (by omega) (by omega))
      have HS : Hid (lackN x (D.take (k + 1)) = lackN x (D.take k) + (x - 1 - at0M D k)) := by
        show lackN x (D.take (k + 1)) = _
        rw [List.take_succ_eq_append_getElem (show k < D.length by omega), lackN_snoc]
        simp [at0M, show k < D.length by omega]
      clear hs
      generalize lackN x (D.take k) = s at HS hs2 ⊢
      generalize at0M D k = d at c hb HS ⊢
      go_wp2
      go_round
      case rel => exact ⟨k + 1, by omega, by go_num, by rw [HS.out]; go_num⟩
      case measure => simp [intOf]; omega
    · obtain rfl : k = n := by omega
      go_wp2
      go_ret
      exact ⟨congrArg (fun z : Nat => Ending.returned (.int .i64 (z : Int))) (by rw [List.take_of_length_le (by omega)]), rfl⟩
end Go.Proofs.Ytgaoeoijdpdjiaa
