/-
  A walk as it is handed out, and what its calls answer. A walk's path leads from its leaf to the root.
-/
import Derived.Test.YtgaoeoijdpdjiaaGreatDoorPart36
import Derived.Test.YtgaoeoijdpdjiaaGreatDoorPart47
import Derived.Test.YtgaoeoijdpdjiaaGreatDoorPart30
namespace Go.Proofs.YtgaoeoijdpdjiaaGreatDoor
open Go.RowKit
/-- The bounds of the stacks: how many nodes, and which. -/
def skFine (T a i : Nat) : Bool :=
  decide ((skAt (2 ^ T) a i).1.length ≤ i + 1) && (decide (a ≠ 0) || decide ((skAt (2 ^ T) a i).1.length = 1)) &&
  (skAt (2 ^ T) a i).1.all (fun p => decide (p.1 ≤ i) && decide (p.2 < 2 ^ (T - p.1))) &&
  (List.range 4).all (fun j => match (skAt (2 ^ T) a i).1[j]?, (skAt (2 ^ T) a i).1[j + 1]? with
    | some p, some q => decide (q.1 < p.1) && decide (q.2 * 2 ^ q.1 = (p.2 + 1) * 2 ^ p.1)
    | _, _ => true)
set_option maxRecDepth 20000 in
theorem skFine_all : ((List.range 5).all fun T => (List.range 16).all fun a => (List.range 4).all fun i => !(decide (a < 2 ^ T) && decide (i < T)) || skFine T a i) = true := by kernel_rfl
theorem skFine_on {T a i : Nat} (hT : T ≤ 4) (ha : a < 2 ^ T) (hi : i < T) : skFine T a i = true := by
  have h := skFine_all
  have ha16 : a < 16 := Nat.lt_of_lt_of_le ha (Nat.le_trans (Nat.pow_le_pow_right (by decide) hT) (by decide))
  rw [List.all_eq_true] at h
  have h1 := h T (List.mem_range.2 (by omega))
  rw [List.all_eq_true] at h1
  have h2 := h1 a (List.mem_range.2 ha16)
  rw [List.all_eq_true] at h2
  have h3 := h2 i (List.mem_range.2 (by omega))
  rw [decide_eq_true ha, decide_eq_true hi] at h3
  simpa using h3
theorem sk_len {T a i : Nat} (hT : T ≤ 4) (ha : a < 2 ^ T) (hi : i < T) : (skAt (2 ^ T) a i).1.length ≤ i + 1 := by
  have h := skFine_on hT ha hi
  unfold skFine at h
  simp only [Bool.and_eq_true, decide_eq_true_eq] at h
  exact h.1.1.1
theorem sk_first {T i : Nat} (hT : T ≤ 4) (hi : i < T) : (skAt (2 ^ T) 0 i).1.length = 1 := by
  have h := skFine_on (a := 0) hT (Nat.two_pow_pos _) hi
  unfold skFine at h
  simp only [Bool.and_eq_true, Bool.or_eq_true, decide_eq_true_eq] at h
  rcases h.1.1.2 with h | h
  · exact absurd rfl h
  · exact h
theorem sk_node {T a i : Nat} (hT : T ≤ 4) (ha : a < 2 ^ T) (hi : i < T) : ∀ p ∈ (skAt (2 ^ T) a i).1, p.1 ≤ i ∧ p.2 < 2 ^ (T - p.1) := by
  have h := skFine_on hT ha hi
  unfold skFine at h
  simp only [Bool.and_eq_true] at h
  have h2 := h.1.2
  rw [List.all_eq_true] at h2
  intro p hp
  have h3 := h2 p hp
  simp only [Bool.and_eq_true, decide_eq_true_eq] at h3
  exact h3
theorem sk_beside {T a i : Nat} (hT : T ≤ 4) (ha : a < 2 ^ T) (hi : i < T) {j : Nat} {p q : Hk} (hj : j < 4) (hp : (skAt (2 ^ T) a i).1[j]? = some p) (hq : (skAt (2 ^ T) a i).1[j + 1]? = some q) : q.1 < p.1 ∧ q.2 * 2 ^ q.1 = (p.2 + 1) * 2 ^ p.1 := by
  have h := skFine_on hT ha hi
  unfold skFine at h
  simp only [Bool.and_eq_true] at h
  have h2 := h.2
  rw [List.all_eq_true] at h2
  have h3 := h2 j (List.mem_range.2 hj)
  rw [hp, hq] at h3
  simp only [Bool.and_eq_true, decide_eq_true_eq] at h3
  exact h3
/-- What a walk has of its tree. -/
structure TrOk (tr : Value) (tv : Nat → Nat → ByteArray) (jn : Nat → Nat → ByteArray → ByteArray → ByteArray) : Prop where
  j : ∀ h k, jn (h + 1) k (tv h (2 * k)) (tv h (2 * k + 1)) = tv (h + 1) k
  s : ∀ h k, (tv h k).size ≤ 16
  L : ∀ (k : Nat) (V : World), k < 16 → Tn V → Calls Tryz.prog 39 #[tr, .int .i64 (k : Int)] V fun e w' => e = .returned (.string (tv 0 k)) ∧ Below V.heap.size V w'
  J : ∀ (h k : Nat) (a b : ByteArray) (V : World), a.size ≤ 16 → b.size ≤ 16 → Tn V → Calls Tryz.prog 40 #[tr, .int .i64 (h : Int), .int .i64 (k : Int), .string a, .string b] V fun e w' => e = .returned (.string (jn h k a b)) ∧ Below V.heap.size V w'
/-- The walk at X, at the leaf a of a tree of the height T. -/
structure Wl (lo X : Nat) (k : Wk) (tr : Value) (tv : Nat → Nat → ByteArray) (T a : Nat) (w : World) : Prop where
  x : Blk w X [.pointer (some ⟨k.W, 0, none⟩)] 91
  i : k.In lo w
  lf : k.lf = .func (.func 39) #[tr] #[]
  jf : k.jf = .func (.func 40) #[tr] #[]
  lv : k.lv = ((2 ^ T : Nat) : Int)
  here : k.at' = (a : Int)
  ks : Lks tv T k.Ks (skAt (2 ^ T) a)
  ps : Lps tv T k.ps (pnum a)
  lX : lo ≤ X
  T1 : 1 ≤ T
  T4 : T ≤ 4
  ha : a < 2 ^ T
variable {lo X : Nat} {k : Wk} {tr : Value} {tv : Nat → Nat → ByteArray} {T a : Nat} {w w' : World}
theorem row_blkX {w : World} {lo : Nat} {e : TypeId} {sz : Nat} {v : Value} {n : Nat} {xs : List Value} {q : Nat} (h : w.ownsRow lo e sz v n xs) (hq : v.ownBlock = some q) : ∃ vs, Blk w q vs e := by
  rcases h.2 with ⟨rfl, -⟩ | ⟨g, cap, cur, rfl, -, hg, -⟩
  · simp [Value.ownBlock] at hq
  · simp only [Value.ownBlock, Option.some.injEq] at hq
    subst hq
    exact ⟨cur.toList, by unfold Blk; rw [hg, Array.toArray_toList]⟩
theorem Wk.In.foot_ne (h : k.In lo w) {b : Nat} {vs : List Value} {U : TypeId} (hb : Blk w b vs U) (h0 : U ≠ 134) (h1 : U ≠ 9) (h2 : U ≠ 137) (h3 : U ≠ 100) : ¬ k.foot b := by
  rintro (e | e | e | ⟨K, hK, e⟩)
  · subst e
    exact blk_ne hb h.obj h0
  · obtain ⟨us, hu⟩ := row_blkX h.path e
    exact blk_ne hb hu h1
  · obtain ⟨us, hu⟩ := row_blkX h.stks e
    exact blk_ne hb hu h2
  · obtain ⟨us, hu⟩ := row_blkX (h.rows K hK) e
    exact blk_ne hb hu h3
theorem Wl.nX (h : Wl lo X k tr tv T a w) : ¬ k.foot X := h.i.foot_ne h.x (by decide) (by decide) (by decide) (by decide)
theorem Wl.on (h : Wl lo X k tr tv T a w) (hb : Below w.heap.size w w') : Wl lo X k tr tv T a w' :=
  { h with x := h.x.on hb, i := h.i.on hb }
theorem Wl.kept {F : Nat → Prop} (h : Wl lo X k tr tv T a w) (hk : Kept F w w') (hX : ¬ F X) (hn : ∀ q, k.foot q → ¬ F q) : Wl lo X k tr tv T a w' :=
  { h with x := blkY h.x hk hX, i := h.i.kept hk hn }
theorem owns_lower {w : World} {lo lo' : Nat} {e : TypeId} {sz : Nat} {v : Value} {n : Nat} {xs : List Value} (h : w.ownsRow lo e sz v n xs) (hl : lo' ≤ lo) : w.ownsRow lo' e sz v n xs :=
  ⟨h.1, h.2.elim Or.inl (fun ⟨g, cap, cur, hv, hb, r⟩ => Or.inr ⟨g, cap, cur, hv, Nat.le_trans hl hb, r⟩)⟩
theorem Wk.In.lower {lo' : Nat} (h : k.In lo w) (hl : lo' ≤ lo) : k.In lo' w :=
  ⟨h.obj, owns_lower h.path hl, owns_lower h.stks hl, fun K hK => owns_lower (h.rows K hK) hl, h.apart, Nat.le_trans hl h.low⟩
theorem wl_at (h : Wl lo X k tr tv T a w) :
    Calls Tryz.prog 43 #[.pointer (some ⟨X, 0, none⟩)] w fun e w' => e = .returned (.int .i64 (a : Int)) ∧ w' = w := by
  refine (wat_on X k.W w (fun v w' => v = .int .i64 (a : Int) ∧ w' = w) (h.x.cell 0) ((at_on k.W k.obj (a : Int) w h.i.obj (by rw [← h.here]; rfl)).mono ?_)).mono ?_
  · rintro e w2 ⟨rfl, rfl⟩
    exact ⟨_, rfl, rfl, rfl⟩
  · rintro e w2 ⟨v, rfl, rfl, rfl⟩
    exact ⟨rfl, rfl⟩
/-- The path's texts. -/
def wlP (tv : Nat → Nat → ByteArray) (T a : Nat) : List ByteArray := (List.range T).map fun i => tv i (pnum a i)
theorem wlP_length (tv : Nat → Nat → ByteArray) (T a : Nat) : (wlP tv T a).length = T := by simp [wlP]
theorem wlP_get (tv : Nat → Nat → ByteArray) {T a i : Nat} (hi : i < T) : (wlP tv T a)[i]? = some (tv i (pnum a i)) := by simp [wlP, List.getElem?_range hi]
theorem lps_eq {ps : List ByteArray} (h : Lps tv T ps (pnum a)) : ps = wlP tv T a := by
  apply List.ext_getElem?
  intro i
  by_cases hi : i < T
  · rw [h.2 i hi, wlP_get tv hi]
  · rw [List.getElem?_eq_none (by rw [h.1]; omega), List.getElem?_eq_none (by rw [wlP_length]; omega)]
theorem wl_path (h : Wl lo X k tr tv T a w) :
    Calls Tryz.prog 42 #[.pointer (some ⟨X, 0, none⟩)] w fun e w' => ∃ v', e = .returned v' ∧ w'.ownsRow w.heap.size 9 1 v' T ((wlP tv T a).map .string) ∧ Below w.heap.size w w' := by
  have hl := h.ps.1
  have h1 := h.T1
  have h4 := h.T4
  have hp := path_on lo k w h.i (by omega) (by omega)
  rw [lps_eq h.ps, wlP_length] at hp
  exact wpath_on X k.W w (fun v w' => w'.ownsRow w.heap.size 9 1 v T ((wlP tv T a).map .string) ∧ Below w.heap.size w w') (h.x.cell 0) hp
theorem wl_stack (h : Wl lo X k tr tv T a w) {i : Nat} (hi : i < T) :
    Calls Tryz.prog 46 #[.pointer (some ⟨X, 0, none⟩), .int .i64 (i : Int)] w fun e w' => ∃ v', e = .returned (.tuple #[v', .int .i64 0]) ∧ w'.ownsRow w.heap.size 100 3 v' (skAt (2 ^ T) a i).1.length (nodC ((skAt (2 ^ T) a i).1.map (ndT tv))) ∧ Below w.heap.size w w' := by
  obtain ⟨K, hK, hn, -, -⟩ := h.ks.2 i hi
  have h4 := h.T4
  have hl := sk_len h.T4 h.ha hi
  have hs := stack_on lo k i K w h.i hK (by rw [hn, List.length_map]; omega)
  rw [hn, List.length_map] at hs
  refine (wstack_on X k.W i w (fun u v w' => v = .int .i64 0 ∧ w'.ownsRow w.heap.size 100 3 u (skAt (2 ^ T) a i).1.length (nodC ((skAt (2 ^ T) a i).1.map (ndT tv))) ∧ Below w.heap.size w w') (h.x.cell 0) (hs.mono ?_)).mono ?_
  · rintro e w2 ⟨v, rfl, h2, h3⟩
    exact ⟨_, _, rfl, rfl, h2, h3⟩
  · rintro e w2 ⟨u, v, rfl, rfl, h2, h3⟩
    exact ⟨_, rfl, h2, h3⟩
theorem wl_next {jn : Nat → Nat → ByteArray → ByteArray → ByteArray} (h : Wl lo X k tr tv T a w) (hO : TrOk tr tv jn) (ha : a + 1 < 2 ^ T) (hTn : Tn w) (hTB : 0 < lo) (hlo : lo ≤ w.heap.size) :
    Calls Tryz.prog 23 #[.pointer (some ⟨X, 0, none⟩)] w fun e w' => e = .returned (.int .i64 0) ∧ ∃ k', Wl lo X k' tr tv T (a + 1) w' ∧ Kept k.foot w w' ∧ ∀ q, k'.foot q → k.foot q ∨ w.heap.size ≤ q := by
  refine (wnext_on X k.W w (fun v w' => v = .int .i64 0 ∧ WkI lo k w tv T ((a : Int) + 1) (pnum (a + 1)) (skAt (2 ^ T) (a + 1)) w') (h.x.cell 0) ((next_on lo k T a tr tv jn w h.i h.lf h.jf h.lv h.here h.T1 h.T4 ha h.ks h.ps hTn hTB hlo hO.j hO.s hO.L hO.J).mono ?_)).mono ?_
  · rintro e w2 ⟨rfl, h2⟩
    exact ⟨_, rfl, rfl, h2⟩
  · rintro e w2 ⟨v, rfl, rfl, ps, Ks, h1, h2, h3, h4, h5⟩
    refine ⟨rfl, { k with at' := (a : Int) + 1, ps := ps, Ks := Ks }, ⟨blkY h.x h4 h.nX, h1, h.lf, h.jf, h.lv, by simp, h3, h2, h.lX, h.T1, h.T4, ha⟩, h4, footN h5⟩
theorem wl_spent (h : Wl lo X k tr tv T a w) (ha : a + 1 = 2 ^ T) :
    Calls Tryz.prog 23 #[.pointer (some ⟨X, 0, none⟩)] w fun e w' => e = .returned (.int .i64 10) ∧ Below w.heap.size w w' := by
  have h16 : 2 ^ T ≤ 16 := Nat.le_trans (Nat.pow_le_pow_right (by decide) h.T4) (by decide)
  refine (wnext_on X k.W w (fun v w' => v = .int .i64 10 ∧ Below w.heap.size w w') (h.x.cell 0) ((next_spent k.W k.obj a w h.i.obj (by rw [ha, ← h.lv]; rfl) (by rw [← h.here]; rfl) (by omega)).mono ?_)).mono ?_
  · rintro e w2 ⟨rfl, h2⟩
    exact ⟨_, rfl, rfl, h2⟩
  · rintro e w2 ⟨v, rfl, rfl, h2⟩
    exact ⟨rfl, h2⟩
/-- A tree as the program has it. -/
def trV (k : Int) (b x t l : Nat) (ch : Nat) (sec rnd pub : ByteArray) (p0 p1 : Int) : Value := .agg #[.int .i64 k, .int .i64 b, .int .i64 x, .int .i64 t, .int .i64 l, .string sec, .string rnd, .string pub, .int .i64 p0, .int .i64 p1, .int .i64 0, .int .i64 0, .int .i64 (ch : Int)]
theorem trOk (k : Int) (b x e f t l : Nat) (R : RSet k b x e f t l) (sec rnd pub : ByteArray) (p0 p1 : Int) (s1 : sec.size = b) (s3 : pub.size = b) : TrOk (trV k b x t l (b * e + f) sec rnd pub p0 p1) (nodeS k b (x - 1) (b * e + f) sec pub p0 p1) (fun h j y z => joinS k b pub p0 p1 (h : Int) (j : Int) y z) := by
  obtain ⟨g1, g2, g3, g4, g5, g6⟩ := pair_small R.pr
  have hwd : (x : Int) = ((x - 1 : Nat) : Int) + 1 := by omega
  exact ⟨fun h j => rfl, fun h j => (by have := nodeS_size k b (x - 1) (b * e + f) sec pub p0 p1 R.kk (by omega) (by omega) (by omega) (by omega) g3 h j; omega), fun F V _ hV => leaf_any k b x t l sec rnd pub p0 p1 0 0 F (b * e + f) (x - 1) V R.kk (by omega) (by omega) (by omega) (by omega) g3 g4 (ch4_of R.pr) (by omega) hwd hV, fun h j y z V hy hz hV => tjoin_any k b x t l sec rnd pub p0 p1 0 0 h j (b * e + f) y z V R.kk (by omega) (by omega) (by omega) hy hz hV⟩
theorem newX (k : Int) (b x e f t l : Nat) (R : RSet k b x e f t l) (sec rnd pub : ByteArray) (s1 : sec.size = b) (s2 : rnd.size = b) (s3 : pub.size = b) (p0 p1 : Int) (hl : leafB t l p0 p1 0 = true) (V : World) :
    Calls Tryz.prog 37 #[.agg #[.int .i64 k, .int .i64 b, .int .i64 x, .int .i64 t, .int .i64 l], .agg #[.string sec, .string rnd, .string pub], .agg #[.int .i64 p0, .int .i64 p1, .int .i64 0, .int .i64 0]] V fun e' w' => e' = .returned (.tuple #[trV k b x t l (b * e + f) sec rnd pub p0 p1, .int .i64 0]) ∧ Below V.heap.size V w' := by
  have hs := seedsB_of (b := b) (sec := sec) (rnd := rnd) (pub := pub) (by omega) (by omega) (by omega)
  exact new_yes k b x t l _ _ _ _ _ _ sec rnd pub p0 p1 0 0 V (fun V => setsMeasure_yes b x e f t l R.pr k V R.kk R.t1 R.t2 R.l1 R.l2) (fun V => by have h := seedsRight_any k b x t l sec rnd pub V; rw [hs] at h; exact h) (fun V => by have h := isTree_any k b x t l p0 p1 0 0 V R.t1 R.t2 R.l2; rw [hl] at h; exact h)
/-- A walk is asked for, and there is one. -/
theorem wl_new (k : Int) (b x e f t l : Nat) (R : RSet k b x e f t l) (sec rnd pub : ByteArray) (s1 : sec.size = b) (s2 : rnd.size = b) (s3 : pub.size = b) (p0 p1 : Int) (hl : leafB t l p0 p1 0 = true) (lo : Nat) (w : World) (hT : Tn w) (hlo : lo ≤ w.heap.size) :
    Calls Tryz.prog 18 #[.agg #[.int .i64 k, .int .i64 b, .int .i64 x, .int .i64 t, .int .i64 l], .agg #[.string sec, .string rnd, .string pub], .agg #[.int .i64 p0, .int .i64 p1, .int .i64 0, .int .i64 0]] w fun e' w' => ∃ X q, e' = .returned (.tuple #[.pointer (some ⟨X, 0, none⟩), .int .i64 0]) ∧ Wl lo X q (trV k b x t l (b * e + f) sec rnd pub p0 p1) (nodeS k b (x - 1) (b * e + f) sec pub p0 p1) t 0 w' ∧ w.heap.size ≤ X ∧ (∀ z, q.foot z → w.heap.size ≤ z) ∧ Below w.heap.size w w' := by
  have hO := trOk k b x e f t l R sec rnd pub p0 p1 s1 s3
  have hN := nwalk_yes k b x t l ((b * e + f : Nat) : Int) sec rnd pub p0 p1 0 0 w (fun V W w' => ∃ F, NewI V W F (.func (.func 39) #[trV k b x t l (b * e + f) sec rnd pub p0 p1] #[]) (.func (.func 40) #[trV k b x t l (b * e + f) sec rnd pub p0 p1] #[]) (2 ^ t) (nodeS k b (x - 1) (b * e + f) sec pub p0 p1) t w') hT (fun V _ => newX k b x e f t l R sec rnd pub s1 s2 s3 p0 p1 hl V) (fun V hV => (new_on t (trV k b x t l (b * e + f) sec rnd pub p0 p1) _ _ V R.t1 R.t2 hV hO.j hO.s hO.L hO.J).mono (by
    rintro e w2 ⟨W, F, rfl, h⟩
    have hb : Below V.heap.size V w2 := by obtain ⟨pv, sv, ps, Ks, -, -, -, hb⟩ := h.start; exact hb
    exact ⟨W, rfl, ⟨F, h⟩, hb⟩))
  refine hN.mono ?_
  rintro e' w' ⟨V, W, w2, hb, ⟨F, hI⟩, rfl, rfl⟩
  obtain ⟨pv, sv, ps, Ks, h1, h2, h3, h4⟩ := hI.start
  have hz := hb.size
  have hz2 := h4.size
  have hA := (Below.refl w2.heap.size w2).alloc (Nat.le_refl _) (.cells #[.pointer (some ⟨W, 0, none⟩)] 91)
  have hbw : Below w.heap.size w w2 := hb.trans (h4.mono hz)
  refine ⟨_, _, rfl, ⟨Blk.new w2 [.pointer (some ⟨W, 0, none⟩)] 91, (h1.lower (Nat.le_trans hlo hz)).on hA, rfl, rfl, rfl, rfl, h3, h2, by omega, R.t1, R.t2, Nat.two_pow_pos _⟩, by omega, fun z e => Nat.le_trans hz (h1.foot_lt z e).1, hbw.trans (hA.mono (by omega))⟩
end Go.Proofs.YtgaoeoijdpdjiaaGreatDoor

namespace Go.Proofs.YtgaoeoijdpdjiaaGreatDoor
open Go.RowKit
theorem climb_wlP (k b : Int) (wd ch : Nat) (sec pub : ByteArray) (p0 p1 : Int) (F t : Nat) : ∀ h, h ≤ t → climbS k b pub p0 p1 F (wlP (nodeS k b wd ch sec pub p0 p1) t F) (nodeS k b wd ch sec pub p0 p1 0 F) h = nodeS k b wd ch sec pub p0 p1 h (F / 2 ^ h) := by
  intro h
  induction h with
  | zero =>
    intro _
    rw [climbS, Nat.pow_zero, Nat.div_one]
  | succ h ih =>
    intro hh
    have hp : (wlP (nodeS k b wd ch sec pub p0 p1) t F).getD h ⟨#[]⟩ = nodeS k b wd ch sec pub p0 p1 h (pnum F h) := by
      rw [List.getD_eq_getElem?_getD, wlP_get _ (show h < t by omega)]
      rfl
    have hq : F / 2 ^ (h + 1) = F / 2 ^ h / 2 := by rw [Nat.pow_succ, Nat.div_div_eq_div_mul]
    rw [climbS, ih (by omega), hp, nodeS, hq, pnum]
    generalize F / 2 ^ h = a
    by_cases h0 : a % 2 = 0
    · rw [if_pos h0, if_neg (by omega), show 2 * (a / 2) = a by omega]
    · rw [if_neg h0, if_pos (by omega), show 2 * (a / 2) = a - 1 by omega, show a - 1 + 1 = a by omega]
theorem climb_root (k b : Int) (wd ch : Nat) (sec pub : ByteArray) (p0 p1 : Int) (F t : Nat) (hF : F < 2 ^ t) : climbS k b pub p0 p1 F (wlP (nodeS k b wd ch sec pub p0 p1) t F) (nodeS k b wd ch sec pub p0 p1 0 F) t = nodeS k b wd ch sec pub p0 p1 t 0 := by
  have h := climb_wlP k b wd ch sec pub p0 p1 F t t (Nat.le_refl _)
  rw [Nat.div_eq_of_lt hF] at h
  exact h
variable {lo X : Nat} {k : Wk} {tr : Value} {tv : Nat → Nat → ByteArray} {T a : Nat} {w : World}
/-- The path as a list of texts. -/
theorem wl_pathS (h : Wl lo X k tr tv T a w) :
    Calls Tryz.prog 42 #[.pointer (some ⟨X, 0, none⟩)] w fun e w' => ∃ g c, e = .returned (.slice (some ⟨g, 0, none⟩) T c) ∧ w.heap.size ≤ g ∧ g < w'.heap.size ∧ (∀ (j : Nat) z, (wlP tv T a)[j]? = some z → w'.cell? ⟨g, j, none⟩ = some (.string z)) ∧ Below w.heap.size w w' := by
  refine (wl_path h).mono ?_
  rintro e w' ⟨v, rfl, hr, hb⟩
  have h1 := h.T1
  rcases hr.2 with ⟨-, h0⟩ | ⟨g, cap, cur, rfl, hg, hB, -, -, -, ht⟩
  · omega
  · refine ⟨g, cap, rfl, hg, lt_of_block hB, fun j z hz => ?_, hb⟩
    have hj : j < T := by
      have := (List.getElem?_eq_some_iff.1 hz).1
      rwa [wlP_length] at this
    have hB' : Blk w' g cur.toList 9 := by unfold Blk; rw [hB, Array.toArray_toList]
    rw [hB'.cell j]
    have : (cur.toList.take (T * 1))[j]? = some (.string z) := by rw [ht, List.getElem?_map, hz]; rfl
    rw [List.getElem?_take] at this
    split at this
    · exact this
    · cases this
end Go.Proofs.YtgaoeoijdpdjiaaGreatDoor
