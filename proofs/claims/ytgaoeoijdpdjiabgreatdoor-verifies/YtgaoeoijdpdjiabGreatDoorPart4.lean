/-
  sets.lay and sets.lack, by their contracts. Package sets by contracts: perByte, right, Check; and the statements' own chains. The right pairs of Bytes and Wide. A region that draws its order, inside a round of a loop over an iterator: by the law of what is held.
-/
import Derived.Test.YtgaoeoijdpdjiabGreatDoorPart1
import Derived.BigQuiet
import Derived.Deep.QuietTactic
import Derived.WalkKit
import Derived.RangeFuncNested
import Derived.OwnWalkIn
import Derived.Deep.RegionHeld3
import Derived.Test.YtgaoeoijdpdjiabGreatDoorPartHide
namespace Go.Proofs.YtgaoeoijdpdjiabGreatDoor
open Go.RowKit

theorem digs_at (x n v k : Nat) (h : k < n) : (digs x n v)[k]?.getD 0 = v / x ^ (n - (k + 1)) % x := by
  induction n generalizing v with
  | zero => omega
  | succ n ih =>
    simp only [digs]
    by_cases e : k < n
    · rw [List.getElem?_append_left (by rw [digs_length]; exact e), ih _ e, Nat.div_div_eq_div_mul, ← Nat.pow_succ', show n + 1 - (k + 1) = (n - (k + 1)).succ by omega]
    · obtain rfl : k = n := by omega
      rw [List.getElem?_append_right (by rw [digs_length]; exact Nat.le_refl _)]
      simp [digs_length]

theorem div_step (x n v k : Nat) (h : k + 1 ≤ n) : v / x ^ (n - (k + 1)) / x = v / x ^ (n - k) := by
  rw [Nat.div_div_eq_div_mul, ← Nat.pow_succ, show (n - (k + 1)).succ = n - k by omega]

set_option maxHeartbeats 400000 in
theorem lay_any (g off n cap v x : Nat) (L : List Int) (w : World) (hrow : RowZ w g L) (hlen : off + n ≤ L.length) (hL : L.length ≤ 1000) (hx : 2 ≤ x) (hx2 : x ≤ 16) (hv : v ≤ 4096) :
    Calls Tryz.prog 283 #[.slice (some ⟨g, off, none⟩) n cap, .int .i64 v, .int .i64 x] w fun e w' => e = .returned (.tuple #[]) ∧ RowZ w' g (laidTo L off n (digs x n v) 0) ∧ OnlyM g w w' := by
  have HR : Hid (RowZ w g L) := hrow
  clear hrow
  go_enter Tryz.func283, Tryz.ntmps283
  go_wp2
  go_loopw [1, 6] (fun t i wr => ∃ k : Nat, k ≤ n ∧ i = .int .i64 ((k : Int) - 1) ∧ t = .int .i64 ((v / x ^ (n - k) : Nat) : Int) ∧ Hid (RowZ wr g (laidTo L off n (digs x n v) k)) ∧ Hid (OnlyM g w wr)) (fun _ i _ => (intOf i + 1).toNat)
  case atStart => exact ⟨n, Nat.le_refl _, rfl, by simp, by rw [laidTo_start _ _ _ _ (digs_length _ _ _)]; exact HR, OnlyM.refl _ _⟩
  case round =>
    obtain ⟨k, hk, rfl, rfl, hr, ho⟩ := hrel
    by_cases h0 : 0 < k
    · obtain ⟨k, rfl⟩ : ∃ j, k = j + 1 := ⟨k - 1, by omega⟩
      have HD : Hid ((digs x n v)[k]?.getD 0 = v / x ^ (n - (k + 1)) % x) := digs_at x n v k (by omega)
      have HS : Hid (v / x ^ (n - (k + 1)) / x = v / x ^ (n - k)) := div_step x n v k hk
      have hu : v / x ^ (n - (k + 1)) ≤ 4096 := Nat.le_trans (Nat.div_le_self _ _) hv
      generalize hq : v / x ^ (n - (k + 1)) = q at HD HS hu ⊢
      have HQ : Hid (v / x ^ (n - (k + 1)) = q) := hq
      clear hq
      have hlen' := laidTo_length L off n (digs x n v) (k + 1) (digs_length _ _ _) hlen hk
      have hc := hr.out.cell (i := off + k) (by omega)
      have hf := hr.out.free (off + k)
      have d0 : (0 : Int) ≤ (q : Int) / (x : Int) := Int.ediv_nonneg (by omega) (by omega)
      have d1 : (q : Int) / (x : Int) ≤ 4096 := by have := Nat.div_le_self q x; have e : ((q / x : Nat) : Int) = (q : Int) / (x : Int) := Int.natCast_ediv q x; omega
      go_wp2
      go_roundw
      case rel =>
        refine ⟨k, by omega, by go_num, ?_, ?_, ?_⟩
        · rw [← HS.out, Int.natCast_ediv]
        · have := hr.out.set (off + k) (((digs x n v)[k]?.getD 0 : Nat) : Int)
          rw [laidTo_step L off n _ k (digs_length _ _ _) hlen (by omega), HD.out, Int.natCast_emod] at this
          exact this
        · exact ho.out.setCell _ _
      case measure => simp [intOf]
    · obtain rfl : k = 0 := by omega
      go_wp2
      go_end0
      exact ⟨rfl, hr.out, ho.out⟩

/-- The sum, as the loop makes it. -/
theorem lackN_snoc (x : Nat) (l : List Nat) (d : Nat) : lackN x (l ++ [d]) = lackN x l + (x - 1 - d) := by
  rw [lackN_append]; simp [lackN]

set_option maxHeartbeats 400000 in
theorem lack_any (g n cap x : Nat) (L : List Int) (D : List Nat) (w : World) (hrow : RowZ w g L) (hD : L.take n = D.map Int.ofNat) (hn : D.length = n) (hL : n ≤ 1000) (hx : 2 ≤ x) (hx2 : x ≤ 16) (hd : ∀ d ∈ D, d < x) :
    Calls Tryz.prog 284 #[.slice (some ⟨g, 0, none⟩) n cap, .int .i64 x] w fun e w' => e = .returned (.int .i64 (lackN x D)) ∧ w' = w := by
  have hnL : n ≤ L.length := by
    have := congrArg List.length hD
    simp at this; omega
  have hcell : ∀ i, i < n → w.cell? ⟨g, i, none⟩ = some (.int .i64 ((at0M D i : Nat) : Int)) := by
    intro i hi
    rw [hrow.cell (by omega)]
    have e : L[i]? = (L.take n)[i]? := by rw [List.getElem?_take_of_lt hi]
    rw [e, hD]
    simp [at0M, List.getElem?_map, List.getElem?_eq_getElem (show i < D.length by omega)]
  have HC : Hid (∀ i, i < n → w.cell? ⟨g, i, none⟩ = some (.int .i64 ((at0M D i : Nat) : Int))) := hcell
  have HD : Hid (∀ d ∈ D, d < x) := hd
  clear hrow hD hd hcell
  go_enter Tryz.func284, Tryz.ntmps284
  go_wp2
  go_loop [5, 10] (fun s i => ∃ k : Nat, k ≤ n ∧ i = .int .i64 k ∧ s = .int .i64 ((lackN x (D.take k) : Nat) : Int)) (fun _ i => n - (intOf i).toNat)
  case atStart => exact ⟨0, Nat.zero_le _, rfl, rfl⟩
  case round =>
    obtain ⟨k, hk, rfl, rfl⟩ := hrel
    by_cases hlt : k < n
    · have c := HC.out k hlt
      have hb := at0_lt D x k (by omega) HD.out
      have hs : lackN x (D.take k) ≤ k * (x - 1) := by have := lackN_le x (D.take k); rwa [List.length_take_of_le (by omega)] at this
      have hs2 : lackN x (D.take k) ≤ 1000 * 15 := Nat.le_trans hs (Nat.mul_le_mul (by omega) (by omega))
      have HS : Hid (lackN x (D.take (k + 1)) = lackN x (D.take k) + (x - 1 - at0M D k)) := by
        show lackN x (D.take (k + 1)) = _
        rw [List.take_succ_eq_append_getElem (show k < D.length by omega), lackN_snoc]
        simp [at0M, show k < D.length by omega]
      clear hs
      generalize lackN x (D.take k) = s at HS hs2 ⊢
      generalize at0M D k = d at c hb HS ⊢
      go_wp2
      go_round
      case rel => exact ⟨k + 1, by omega, by go_num, by rw [HS.out]; go_num⟩
      case measure => simp [intOf]; omega
    · obtain rfl : k = n := by omega
      go_wp2
      go_ret
      exact ⟨congrArg (fun z : Nat => Ending.returned (.int .i64 (z : Int))) (by rw [List.take_of_length_le (by omega)]), rfl⟩
end Go.Proofs.YtgaoeoijdpdjiabGreatDoor

namespace Go.Proofs.YtgaoeoijdpdjiabGreatDoor
open Go.RowKit

/-- How many digits of base x a byte has. -/
def each (x : Int) : Int := if x = 4 then 4 else 2

set_option maxHeartbeats 400000 in
theorem perByte_any (x : Int) (w : World) (hx : x = 4 ∨ x = 16) :
    Calls Tryz.prog 232 #[.int .i64 x] w fun e w' => e = .returned (.int .i64 (each x)) ∧ w' = w := by
  rcases hx with rfl | rfl
  · go_enter Tryz.func232, Tryz.ntmps232
    go_wp2_with (go_at_call 233; refine (count_any 255 4 8 _ (by decide) (by decide) (by decide) (by decide)).mono ?_; rintro e w' ⟨rfl, rfl⟩)
    go_ret
    exact ⟨rfl, rfl⟩
  · go_enter Tryz.func232, Tryz.ntmps232
    go_wp2_with (go_at_call 233; refine (count_any 255 16 8 _ (by decide) (by decide) (by decide) (by decide)).mono ?_; rintro e w' ⟨rfl, rfl⟩)
    go_ret
    exact ⟨rfl, rfl⟩

theorem perByte_4 (w : World) : Calls Tryz.prog 232 #[.int .i64 4] w fun e w' => e = .returned (.int .i64 4) ∧ w' = w := perByte_any 4 w (Or.inl rfl)
theorem perByte_16 (w : World) : Calls Tryz.prog 232 #[.int .i64 16] w fun e w' => e = .returned (.int .i64 2) ∧ w' = w := perByte_any 16 w (Or.inr rfl)
theorem count_48 (w : World) : Calls Tryz.prog 233 #[.int .i64 48, .int .i64 4] w fun e w' => e = .returned (.int .i64 3) ∧ w' = w := count_any 48 4 6 w (by decide) (by decide) (by decide) (by decide)
theorem count_96 (w : World) : Calls Tryz.prog 233 #[.int .i64 96, .int .i64 4] w fun e w' => e = .returned (.int .i64 4) ∧ w' = w := count_any 96 4 7 w (by decide) (by decide) (by decide) (by decide)
theorem count_120 (w : World) : Calls Tryz.prog 233 #[.int .i64 120, .int .i64 16] w fun e w' => e = .returned (.int .i64 2) ∧ w' = w := count_any 120 16 7 w (by decide) (by decide) (by decide) (by decide)
theorem count_240 (w : World) : Calls Tryz.prog 233 #[.int .i64 240, .int .i64 16] w fun e w' => e = .returned (.int .i64 2) ∧ w' = w := count_any 240 16 8 w (by decide) (by decide) (by decide) (by decide)
end Go.Proofs.YtgaoeoijdpdjiabGreatDoor

namespace Go.Proofs.YtgaoeoijdpdjiabGreatDoor

/-- The pairs of Bytes and Wide, with the digits of a byte and of what they lack. -/
def Pair (b x e f : Nat) : Prop := (b = 4 ∧ x = 4 ∧ e = 4 ∧ f = 3) ∨ (b = 8 ∧ x = 4 ∧ e = 4 ∧ f = 4) ∨ (b = 4 ∧ x = 16 ∧ e = 2 ∧ f = 2) ∨ (b = 8 ∧ x = 16 ∧ e = 2 ∧ f = 2)

theorem pair_of_right {k b x t l : Int} (h : rightB k b x t l = true) : ∃ b' x' e f t' l' : Nat, Pair b' x' e f ∧ (k = 1 ∨ k = 2) ∧ b = (b' : Int) ∧ x = (x' : Int) ∧ t = (t' : Int) ∧ l = (l' : Int) ∧ 1 ≤ t' ∧ t' ≤ 4 ∧ 1 ≤ l' ∧ l' ≤ 3 := by
  simp only [rightB, decide_eq_true_eq] at h
  obtain ⟨hk, hb, hx, ⟨h1, h2⟩, h3, h4⟩ := h
  have et : t = ((t.toNat : Nat) : Int) := by omega
  have el : l = ((l.toNat : Nat) : Int) := by omega
  rcases hb with rfl | rfl <;> rcases hx with rfl | rfl
  · exact ⟨4, 4, 4, 3, t.toNat, l.toNat, by unfold Pair; omega, hk, rfl, rfl, et, el, by omega, by omega, by omega, by omega⟩
  · exact ⟨4, 16, 2, 2, t.toNat, l.toNat, by unfold Pair; omega, hk, rfl, rfl, et, el, by omega, by omega, by omega, by omega⟩
  · exact ⟨8, 4, 4, 4, t.toNat, l.toNat, by unfold Pair; omega, hk, rfl, rfl, et, el, by omega, by omega, by omega, by omega⟩
  · exact ⟨8, 16, 2, 2, t.toNat, l.toNat, by unfold Pair; omega, hk, rfl, rfl, et, el, by omega, by omega, by omega, by omega⟩
end Go.Proofs.YtgaoeoijdpdjiabGreatDoor

namespace Go.Proofs.YtgaoeoijdpdjiabGreatDoor
open Go.RowKit

theorem opIn_of_op {l n : Nat} {P : Program} {ops : Array Oper} {Q : Exit → Act → World → Prop} {i : Nat} {K K' : Act → World → Prop} {a : Act} {w : World}
    (hd : ∀ o, ops[i]? = some o → ∀ c, o.op ≠ .defer c) (hQ : ¬ LetsOut Q) (hK : ∀ a w, K a w → K' a w) (h : wpOp P ops Q i K a w) : wpOpIn (Fence.wide.inRound l) n P ops Q i K' a w := by
  unfold wpOp at h
  unfold wpOpIn
  cases ho : ops[i]? with
  | none => rw [ho] at h; exact hK _ _ h
  | some o =>
    rw [ho] at h
    dsimp only at h ⊢
    by_cases hw : Region.wanted o (yielded ops a.tmps) = true
    · rw [if_pos hw] at h ⊢
      rcases h with h | ⟨_, h⟩
      · refine ⟨fun _ _ => trivial, ?_⟩
        rw [Oper.semAt_plain _ _ _ (hd o ho)]
        unfold Oper.wp at h
        generalize (execOp a.eval o).run P w = r at h ⊢
        cases r with
        | ok nx w' =>
          cases nx with
          | value v => exact hK _ _ h
          | skip => exact hK _ _ h
          | defer d => exact hK _ _ h
          | enter f args =>
            refine ⟨fun hh => by simp [Fence.wide] at hh, ?_⟩
            refine CallsIn.inRound l (callsIn_wide.2 ?_)
            refine Calls.mono h ?_
            intro e w'' he
            cases e with
            | returned v => exact hK _ _ he
            | panicked c => exact he
            | outgrown => exact he
          | row rw' args =>
            refine ⟨fun hh => by simp [Fence.wide] at hh, ?_⟩
            intro c cs _
            obtain ⟨v, w'', r, s⟩ := h c cs
            exact ⟨v, w'', hK _ _ r, stepsIn_wide.2 s⟩
          | round _ _ _ _ _ => exact h.elim
          | _ => exact h.elim
        | halt st w' =>
          cases st with
          | panic v => exact h
          | _ => exact h.elim
      · exact absurd h hQ
    · rw [if_neg hw] at h ⊢
      exact ⟨fun _ _ => trivial, hK _ _ h⟩

theorem anyIn_of_any {l n : Nat} {P : Program} {md : Region.Mode} {ops : Array Oper} {Q : Exit → Act → World → Prop} (hd : ∀ (i : Nat) o, ops[i]? = some o → ∀ c, o.op ≠ .defer c) (hQ : ¬ LetsOut Q) :
    ∀ (fuel : Nat) (listed : Array Bool) (a : Act) (w : World), wpAny P md ops Q fuel listed a w → wpAnyIn (Fence.wide.inRound l) n P md ops Q fuel listed a w
  | 0, _, _, _, h => h
  | fuel + 1, _, _, _, h => ⟨h.1, fun i hi => opIn_of_op (hd i) hQ (fun a w hk => anyIn_of_any hd hQ fuel _ a w hk) (h.2 i hi)⟩

theorem regionIn_held {l n id : Nat} {P : Program} {ops : Array Oper} {Q : Exit → Act → World → Prop} {S : World → Prop} {a : Act} {w : World} (hm : P.follows .mixedOrders = true) (hd : ∀ o ∈ ops.toList, ∀ c, o.op ≠ .defer c) (hQ : ¬ LetsOut Q) (hS : S w.drew)
    (h : S w.drew → wpAnyH P .any ops Q S ops.size (Array.replicate ops.size false) a w.drew) : (Code.region id ops true).wpIn (Fence.wide.inRound l) n P Q a w :=
  wpIn_region_any hm (anyIn_of_any (fun i o ho => hd o (by rw [Array.mem_toList_iff]; exact Array.mem_of_getElem? ho)) hQ _ _ _ _ (wpAny_of_held _ _ _ _ (h hS)))
end Go.Proofs.YtgaoeoijdpdjiabGreatDoor
