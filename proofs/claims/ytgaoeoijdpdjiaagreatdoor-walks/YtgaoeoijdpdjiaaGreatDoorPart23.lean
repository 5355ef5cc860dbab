/-
  A row is copied. A walk at its last leaf; where a walk is. A walk's path and its stacks are handed out. The document's stacks: the numbers.
-/
import Derived.Test.YtgaoeoijdpdjiaaGreatDoorPart22
namespace Go.Proofs.YtgaoeoijdpdjiaaGreatDoor
open Go.RowKit
theorem owns_empty (w : World) (e : TypeId) (sz : Nat) : (w.alloc (.cells #[] e)).ownsRow w.heap.size e sz (.slice (some ⟨w.heap.size, 0, none⟩) 0 0) 0 [] := by
  refine ⟨by simp, .inr ⟨w.heap.size, 0, #[], rfl, Nat.le_refl _, ?_, Nat.le_refl _, Nat.zero_le _, by simp, by simp⟩⟩
  exact Blk.new w [] e
set_option maxRecDepth 20000 in
theorem cloneN_nil (w : World) :
    Calls Tryz.prog 159 #[.slice none 0 0] w fun e w' => e = .returned (.slice none 0 0) ∧ w' = w := by
  have hn : ∀ w, Sem.run Tryz.prog (binOp BinOp.eql 96 (.slice none 0 0) (.slice none 0 0)) w = .ok (.bool true) w := fun _ => rfl
  go_enter Tryz.func159, Tryz.ntmps159
  go_wp2_with fail
  go_ret
  exact ⟨rfl, rfl⟩
set_option maxRecDepth 20000 in
theorem cloneN_on (lo g n c : Nat) (xs : List Value) (w : World) (hx : w.ownsRow lo 100 3 (.slice (some ⟨g, 0, none⟩) n c) n xs) (h1 : ∀ u ∈ xs, u.oneCell' = true) (hn : n ≤ 100) :
    Calls Tryz.prog 159 #[.slice (some ⟨g, 0, none⟩) n c] w fun e w' => ∃ v', e = .returned v' ∧ w'.ownsRow w.heap.size 100 3 v' n xs ∧ Below w.heap.size w w' := by
  obtain ⟨i0, hi, hz0, hz1, hz2⟩ := info_parts infoNd
  have hq : ∀ w, Sem.run Tryz.prog (binOp BinOp.eql 96 (.slice (some ⟨g, 0, none⟩) n c) (.slice none 0 0)) w = .ok (.bool false) w := fun _ => rfl
  have HE := hide (owns_empty w 100 3)
  have HL := hide (show xs.length = n * 3 from hx.1)
  have HNW := hide (show ∀ j u, xs[j]? = some u → (w.alloc (.cells #[] 100)).cell? ((⟨g, 0, none⟩ : Addr).add j) = some u from fun j u h => by
    have hj : j < xs.length := (List.getElem?_eq_some_iff.1 h).1
    rw [Addr.add_mid, Nat.zero_add, World.cell?_alloc_lt _ _ _ ((owns_loY hx g rfl).2), hx.cellAt j (by rw [hx.1] at hj; exact hj)]
    exact h)
  have HBW := hide (show Below w.heap.size w (w.alloc (.cells #[] 100)) from (Below.refl _ _).alloc (Nat.le_refl _) _)
  clear hx
  go_enter Tryz.func159, Tryz.ntmps159
  go_wp2_with (at_builtin; refine wpList_append_own _ rfl _ _ 96 rfl w.heap.size 100 i0 (.agg #[.int .i64 0, .int .i64 0, .string ⟨#[]⟩]) 3 32 Tryz.underlying96 hi hz0 hz1 hz2 rfl (by decide) _ _ _ rfl HE.out ⟨g, 0, none⟩ n c xs rfl HL.out HNW.out h1 (by unfold maxLen; omega) (by omega) (by rw [World.size_alloc]; omega) ?_)
  intro v' w' hO hG _
  have HO := hide hO
  have HB := hide (show Below w.heap.size w w' from HBW.out.trans ((kept_grown hG).below (fun q e => by
    have e2 : w.heap.size = q := by simpa [Value.ownBlock] using e
    omega) (by rw [World.size_alloc]; omega)))
  clear hO hG
  go_wp2_with fail
  go_ret
  exact ⟨_, rfl, HO.out, HB.out⟩
theorem infoSt : (Tryz.prog.info? 9).map (fun i => (i.zero, i.size, i.bytes)) = some (some (.string ⟨#[]⟩), 1, 16) := by kernel_rfl
set_option maxRecDepth 20000 in
theorem cloneS_on (lo g n c : Nat) (xs : List Value) (w : World) (hx : w.ownsRow lo 9 1 (.slice (some ⟨g, 0, none⟩) n c) n xs) (h1 : ∀ u ∈ xs, u.oneCell' = true) (hn : n ≤ 100) :
    Calls Tryz.prog 157 #[.slice (some ⟨g, 0, none⟩) n c] w fun e w' => ∃ v', e = .returned v' ∧ w'.ownsRow w.heap.size 9 1 v' n xs ∧ Below w.heap.size w w' := by
  obtain ⟨i0, hi, hz0, hz1, hz2⟩ := info_parts infoSt
  have hq : ∀ w, Sem.run Tryz.prog (binOp BinOp.eql 50 (.slice (some ⟨g, 0, none⟩) n c) (.slice none 0 0)) w = .ok (.bool false) w := fun _ => rfl
  have HE := hide (owns_empty w 9 1)
  have HL := hide (show xs.length = n * 1 from hx.1)
  have HNW := hide (show ∀ j u, xs[j]? = some u → (w.alloc (.cells #[] 9)).cell? ((⟨g, 0, none⟩ : Addr).add j) = some u from fun j u h => by
    have hj : j < xs.length := (List.getElem?_eq_some_iff.1 h).1
    rw [Addr.add_mid, Nat.zero_add, World.cell?_alloc_lt _ _ _ ((owns_loY hx g rfl).2), hx.cellAt j (by rw [hx.1] at hj; exact hj)]
    exact h)
  have HBW := hide (show Below w.heap.size w (w.alloc (.cells #[] 9)) from (Below.refl _ _).alloc (Nat.le_refl _) _)
  clear hx
  go_enter Tryz.func157, Tryz.ntmps157
  go_wp2_with (at_builtin; refine wpList_append_own _ rfl _ _ 50 rfl w.heap.size 9 i0 (.string ⟨#[]⟩) 1 16 Tryz.underlying50 hi hz0 hz1 hz2 rfl (by decide) _ _ _ rfl HE.out ⟨g, 0, none⟩ n c xs rfl HL.out HNW.out h1 (by unfold maxLen; omega) (by omega) (by rw [World.size_alloc]; omega) ?_)
  intro v' w' hO hG _
  have HO := hide hO
  have HB := hide (show Below w.heap.size w w' from HBW.out.trans ((kept_grown hG).below (fun q e => by
    have e2 : w.heap.size = q := by simpa [Value.ownBlock] using e
    omega) (by rw [World.size_alloc]; omega)))
  clear hO hG
  go_wp2_with fail
  go_ret
  exact ⟨_, rfl, HO.out, HB.out⟩
end Go.Proofs.YtgaoeoijdpdjiaaGreatDoor

namespace Go.Proofs.YtgaoeoijdpdjiaaGreatDoor
open Go.RowKit
theorem next_spent (W : Nat) (ws : List Value) (n : Nat) (w : World) (hW : Blk w W ws 134) (h2 : ws[2]? = some (.int .i64 ((n + 1 : Nat) : Int))) (h3 : ws[3]? = some (.int .i64 (n : Int))) (hn : n ≤ 100) :
    Calls Tryz.prog 47 #[.pointer (some ⟨W, 0, none⟩)] w fun e w' => e = .returned (.int .i64 10) ∧ Below w.heap.size w w' := by
  have c2 : w.cell? ⟨W, 2, none⟩ = some (.int .i64 ((n : Int) + 1)) := (hW.cell 2).trans (by rw [h2]; simp)
  have c3 : w.cell? ⟨W, 3, none⟩ = some (.int .i64 (n : Int)) := (hW.cell 3).trans h3
  have p1 : wrap64 ((n : Int) + 1 - 1) = (n : Int) := by rw [w64Y] <;> omega
  have p2 : wrap64 (n : Int) = (n : Int) := w64Y _ (by omega)
  clear hW h2 h3
  go_enter Tryz.func47, Tryz.ntmps47
  go_wp2_with fail
  go_quiet (fail)
  go_wp2_with fail
  go_ret
  exact ⟨rfl, below_drewN (Below.refl _ _) _⟩
theorem at_on (W : Nat) (ws : List Value) (n : Int) (w : World) (hW : Blk w W ws 134) (h3 : ws[3]? = some (.int .i64 n)) :
    Calls Tryz.prog 81 #[.pointer (some ⟨W, 0, none⟩)] w fun e w' => e = .returned (.int .i64 n) ∧ w' = w := by
  have c3 : w.cell? ⟨W, 3, none⟩ = some (.int .i64 n) := (hW.cell 3).trans h3
  clear hW h3
  go_enter Tryz.func81, Tryz.ntmps81
  go_wp2_with fail
  go_ret
  exact ⟨rfl, rfl⟩
end Go.Proofs.YtgaoeoijdpdjiaaGreatDoor

namespace Go.Proofs.YtgaoeoijdpdjiaaGreatDoor
open Go.RowKit
set_option maxRecDepth 20000 in
theorem path_on (lo : Nat) (k : Wk) (w : World) (hk : k.In lo w) (h1 : 1 ≤ k.ps.length) (h4 : k.ps.length ≤ 4) :
    Calls Tryz.prog 80 #[.pointer (some ⟨k.W, 0, none⟩)] w fun e w' => ∃ v', e = .returned v' ∧ w'.ownsRow w.heap.size 9 1 v' k.ps.length (k.ps.map .string) ∧ Below w.heap.size w w' := by
  obtain ⟨s, hs⟩ : ∃ s, k.ps[0]? = some s := ⟨_, List.getElem?_eq_getElem h1⟩
  obtain ⟨P, c, hP, -⟩ := hk.pathAt hs
  have hr := hk.path
  have c4 : w.cell? ⟨k.W, 4, none⟩ = some k.pv := hk.obj.cell 4
  rw [hP] at c4 hr
  have HC := hide (cloneS_on lo P _ c _ w hr (fun u hu => by obtain ⟨x, _, rfl⟩ := List.mem_map.1 hu; rfl) (by omega))
  generalize k.ps.map Value.string = xs at HC ⊢
  generalize k.ps.length = n at *
  generalize k.W = W at *
  clear hk hr hP hs
  go_enter Tryz.func80, Tryz.ntmps80
  go_wp2_with fail
  go_at_call 157
  refine HC.out.mono ?_
  rintro e w2 ⟨v', rfl, q1, q2⟩
  have HQ := hide (And.intro q1 q2)
  clear q1 q2
  go_wp2_with fail
  go_ret
  exact ⟨_, rfl, HQ.out⟩
theorem stack_bad (W : Nat) (ws : List Value) (sa : Option Addr) (n c : Nat) (h : Int) (w : World) (hW : Blk w W ws 134) (h5 : ws[5]? = some (.slice sa n c)) (hh : h < 0 ∨ (n : Int) ≤ h) :
    Calls Tryz.prog 83 #[.pointer (some ⟨W, 0, none⟩), .int .i64 h] w fun e w' => e = .returned (.tuple #[.slice none 0 0, .int .i64 2]) ∧ w' = w := by
  have c5 : w.cell? ⟨W, 5, none⟩ = some (.slice sa n c) := (hW.cell 5).trans h5
  clear hW h5
  by_cases h0 : h < 0
  · go_enter Tryz.func83, Tryz.ntmps83
    go_wp2_with fail
    go_ret2
    exact ⟨rfl, rfl⟩
  · have h1 : (n : Int) ≤ h := by omega
    go_enter Tryz.func83, Tryz.ntmps83
    go_wp2_with fail
    go_ret2
    exact ⟨rfl, rfl⟩
theorem nodC_one (ns : List Nd) : ∀ u ∈ nodC ns, u.oneCell' = true := by
  intro u hu
  obtain ⟨p, _, hp⟩ := List.mem_flatMap.1 hu
  simp only [nodV, List.mem_cons, List.not_mem_nil, or_false] at hp
  rcases hp with rfl | rfl | rfl <;> rfl
/-- A row of nodes is copied, or a slice that is nil. -/
theorem cloneN_any (lo : Nat) (v : Value) (n : Nat) (xs : List Value) (w : World) (hx : w.ownsRow lo 100 3 v n xs) (h1 : ∀ u ∈ xs, u.oneCell' = true) (hn : n ≤ 100) :
    Calls Tryz.prog 159 #[v] w fun e w' => ∃ v', e = .returned v' ∧ w'.ownsRow w.heap.size 100 3 v' n xs ∧ Below w.heap.size w w' := by
  rcases hx.2 with ⟨rfl, rfl⟩ | ⟨g, cap, cur, rfl, -⟩
  · refine (cloneN_nil w).mono ?_
    rintro e w' ⟨rfl, rfl⟩
    exact ⟨_, rfl, ⟨hx.1, .inl ⟨rfl, rfl⟩⟩, Below.refl _ _⟩
  · exact cloneN_on lo g n cap xs w hx h1 hn
set_option maxRecDepth 20000 in
theorem stack_on (lo : Nat) (k : Wk) (h : Nat) (K : StkR) (w : World) (hk : k.In lo w) (hK : k.Ks[h]? = some K) (hn : K.ns.length ≤ 100) :
    Calls Tryz.prog 83 #[.pointer (some ⟨k.W, 0, none⟩), .int .i64 (h : Int)] w fun e w' => ∃ v', e = .returned (.tuple #[v', .int .i64 0]) ∧ w'.ownsRow w.heap.size 100 3 v' K.ns.length (nodC K.ns) ∧ Below w.heap.size w w' := by
  have hl := (List.getElem?_eq_some_iff.1 hK).1
  obtain ⟨S, c, cur, hv, -, hB, -, -, -, -, d0, -, -⟩ := hk.block hK
  have c5 : w.cell? ⟨k.W, 5, none⟩ = some k.sv := hk.obj.cell 5
  rw [hv] at c5
  have y0 : w.cell? ⟨S, h * 3, none⟩ = some K.v := (hB.cell _).trans d0
  have HC := hide (fun (V : World) (hb : Below w.heap.size w V) => cloneN_any lo K.v _ _ V (owns_kept (hk.rows K (List.mem_of_getElem? hK)) (Kept.of_below (F := fun _ => False) hb) (fun _ _ e => e)) (nodC_one _) hn)
  unfold StkR.v at y0 HC
  generalize nodC K.ns = xs at HC ⊢
  generalize K.ns.length = m at *
  generalize K.na = na at *
  generalize K.nc = nc at *
  generalize k.Ks.length = n at *
  generalize k.W = W at *
  have h0 : ¬ (h : Int) < 0 := by omega
  have h1 : ¬ (n : Int) ≤ (h : Int) := by omega
  have h2 : (h : Int) < (n : Int) := by omega
  clear hk hv hB d0 hK
  go_enter Tryz.func83, Tryz.ntmps83
  go_wp2_with fail
  refine (HC.out w (Below.refl _ _)).mono ?_
  rintro e w2 ⟨v', rfl, q1, q2⟩
  have HQ := hide (And.intro q1 q2)
  clear q1 q2
  go_wp2_with fail
  go_ret2
  exact ⟨_, rfl, HQ.out⟩
end Go.Proofs.YtgaoeoijdpdjiaaGreatDoor

namespace Go.Proofs.YtgaoeoijdpdjiaaGreatDoor
open Go.RowKit
def rfF (a h : Nat) : Nat := if a / 2 ^ h = 0 then 0 else if a / 2 ^ h % 2 = 1 then a / 2 ^ h * 2 ^ h + 2 * 2 ^ h else a / 2 ^ h * 2 ^ h
def rfT (a h : Nat) : Nat := if a / 2 ^ h = 0 then 2 ^ h else a - a / 2 ^ h * 2 ^ h + 1
def rfOk (T a h : Nat) : Bool := ((skAt (2 ^ T) a h).1 == if 2 ^ T ≤ rfF a h then [] else binH (rfF a h) (rfT a h) h) && (decide (2 ^ T ≤ rfF a h) || decide (rfF a h + rfT a h ≤ 2 ^ T))
set_option maxRecDepth 20000 in
theorem rfOk_all : ((List.range 5).all fun T => (List.range 16).all fun a => (List.range 4).all fun i => !(decide (a < 2 ^ T) && decide (i < T)) || rfOk T a i) = true := by kernel_rfl
theorem rfOk_on {T a i : Nat} (hT : T ≤ 4) (ha : a < 2 ^ T) (hi : i < T) : rfOk T a i = true := by
  have h := rfOk_all
  have ha16 : a < 16 := Nat.lt_of_lt_of_le ha (Nat.le_trans (Nat.pow_le_pow_right (by decide) hT) (by decide))
  rw [List.all_eq_true] at h
  have h1 := h T (List.mem_range.2 (by omega))
  rw [List.all_eq_true] at h1
  have h2 := h1 a (List.mem_range.2 ha16)
  rw [List.all_eq_true] at h2
  have h3 := h2 i (List.mem_range.2 (by omega))
  rw [decide_eq_true ha, decide_eq_true hi] at h3
  simpa using h3
theorem rf_sk {T a i : Nat} (hT : T ≤ 4) (ha : a < 2 ^ T) (hi : i < T) : (skAt (2 ^ T) a i).1 = if 2 ^ T ≤ rfF a i then [] else binH (rfF a i) (rfT a i) i := by
  have h := rfOk_on hT ha hi
  unfold rfOk at h
  simp only [Bool.and_eq_true, beq_iff_eq] at h
  exact h.1
theorem rf_le {T a i : Nat} (hT : T ≤ 4) (ha : a < 2 ^ T) (hi : i < T) (h2 : ¬ 2 ^ T ≤ rfF a i) : rfF a i + rfT a i ≤ 2 ^ T := by
  have h := rfOk_on hT ha hi
  unfold rfOk at h
  simp only [Bool.and_eq_true, Bool.or_eq_true, decide_eq_true_eq] at h
  rcases h.2 with h | h
  · exact absurd h h2
  · exact h
/-- What is left to be laid down. -/
def restH (f t : Nat) : Nat → List Hk
  | 0 => []
  | c + 1 => binH f t c
theorem restH_step (f t c : Nat) : restH f t (c + 1) = if 2 ^ c ≤ t then (c, f / 2 ^ c) :: restH (f + 2 ^ c) (t - 2 ^ c) c else restH f t c := by
  cases c with
  | zero =>
    simp only [restH, binH, Nat.pow_zero, Nat.div_one]
  | succ c =>
    simp only [restH, binH]
end Go.Proofs.YtgaoeoijdpdjiaaGreatDoor
