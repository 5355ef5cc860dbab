/-
  A walk as it is handed out, and what its calls answer. The document's path of a leaf.
-/
import Derived.Test.YtgaoeoijdpdjiaaGreatDoorPart45
import Derived.Test.YtgaoeoijdpdjiaaGreatDoorPart44
import Derived.Test.YtgaoeoijdpdjiaaGreatDoorPart24
import Derived.Test.YtgaoeoijdpdjiaaGreatDoorPart27
namespace Go.Proofs.YtgaoeoijdpdjiaaGreatDoor
open Go.RowKit
/-- The bounds of the stacks: how many nodes, and which. -/
def skFine (T a i : Nat) : Bool :=
  decide ((skAt (2 ^ T) a i).1.length ≤ i + 1) && (decide (a ≠ 0) || decide ((skAt (2 ^ T) a i).1.length = 1)) &&
  (skAt (2 ^ T) a i).1.all (fun p => decide (p.1 ≤ i) && decide (p.2 < 2 ^ (T - p.1))) &&
  (List.range 4).all (fun j => match (skAt (2 ^ T) a i).1[j]?, (skAt (2 ^ T) a i).1[j + 1]? with
    | some p, some q => decide (q.1 < p.1) && decide (q.2 * 2 ^ q.1 = (p.2 + 1) * 2 ^ p.1)
    | _, _ => true)
set_option maxRecDepth 20000 in
theorem skFine_all : ((List.range 5).all fun T => (List.range 16).all fun a => (List.range 4).all fun i => !(decide (a < 2 ^ T) && decide (i < T)) || skFine T a i) = true := by kernel_rfl
theorem skFine_on {T a i : Nat} (hT : T ≤ 4) (ha : a < 2 ^ T) (hi : i < T) : skFine T a i = true := by
  have h := skFine_all
  have ha16 : a < 16 := Nat.lt_of_lt_of_le ha (Nat.le_trans (Nat.pow_le_pow_right (by decide) hT) (by decide))
  rw [List.all_eq_true] at h
  have h1 := h T (List.mem_range.2 (by omega))
  rw [List.all_eq_true] at h1
  have h2 := h1 a (List.mem_range.2 ha16)
  rw [List.all_eq_true] at h2
  have h3 := h2 i (List.mem_range.2 (by omega))
  rw [decide_eq_true ha, decide_eq_true hi] at h3
  simpa using h3
theorem sk_len {T a i : Nat} (hT : T ≤ 4) (ha : a < 2 ^ T) (hi : i < T) : (skAt (2 ^ T) a i).1.length ≤ i + 1 := by
  have h := skFine_on hT ha hi
  unfold skFine at h
  simp only [Bool.and_eq_true, decide_eq_true_eq] at h
  exact h.1.1.1
/-- What a walk has of its tree. -/
structure TrOk (tr : Value) (tv : Nat → Nat → ByteArray) (jn : Nat → Nat → ByteArray → ByteArray → ByteArray) : Prop where
  j : ∀ h k, jn (h + 1) k (tv h (2 * k)) (tv h (2 * k + 1)) = tv (h + 1) k
  s : ∀ h k, (tv h k).size ≤ 16
  L : ∀ (k : Nat) (V : World), k < 16 → Tn V → Calls Tryz.prog 39 #[tr, .int .i64 (k : Int)] V fun e w' => e = .returned (.string (tv 0 k)) ∧ Below V.heap.size V w'
  J : ∀ (h k : Nat) (a b : ByteArray) (V : World), a.size ≤ 16 → b.size ≤ 16 → Tn V → Calls Tryz.prog 40 #[tr, .int .i64 (h : Int), .int .i64 (k : Int), .string a, .string b] V fun e w' => e = .returned (.string (jn h k a b)) ∧ Below V.heap.size V w'
/-- The walk at X, at the leaf a of a tree of the height T. -/
structure Wl (lo X : Nat) (k : Wk) (tr : Value) (tv : Nat → Nat → ByteArray) (T a : Nat) (w : World) : Prop where
  x : Blk w X [.pointer (some ⟨k.W, 0, none⟩)] 91
  i : k.In lo w
  lf : k.lf = .func (.func 39) #[tr] #[]
  jf : k.jf = .func (.func 40) #[tr] #[]
  lv : k.lv = ((2 ^ T : Nat) : Int)
  here : k.at' = (a : Int)
  ks : Lks tv T k.Ks (skAt (2 ^ T) a)
  ps : Lps tv T k.ps (pnum a)
  lX : lo ≤ X
  T1 : 1 ≤ T
  T4 : T ≤ 4
  ha : a < 2 ^ T
variable {lo X : Nat} {k : Wk} {tr : Value} {tv : Nat → Nat → ByteArray} {T a : Nat} {w w' : World}
theorem row_blkX {w : World} {lo : Nat} {e : TypeId} {sz : Nat} {v : Value} {n : Nat} {xs : List Value} {q : Nat} (h : w.ownsRow lo e sz v n xs) (hq : v.ownBlock = some q) : ∃ vs, Blk w q vs e := by
  rcases h.2 with ⟨rfl, -⟩ | ⟨g, cap, cur, rfl, -, hg, -⟩
  · simp [Value.ownBlock] at hq
  · simp only [Value.ownBlock, Option.some.injEq] at hq
    subst hq
    exact ⟨cur.toList, by unfold Blk; rw [hg, Array.toArray_toList]⟩
theorem Wk.In.foot_ne (h : k.In lo w) {b : Nat} {vs : List Value} {U : TypeId} (hb : Blk w b vs U) (h0 : U ≠ 134) (h1 : U ≠ 9) (h2 : U ≠ 137) (h3 : U ≠ 100) : ¬ k.foot b := by
  rintro (e | e | e | ⟨K, hK, e⟩)
  · subst e
    exact blk_ne hb h.obj h0
  · obtain ⟨us, hu⟩ := row_blkX h.path e
    exact blk_ne hb hu h1
  · obtain ⟨us, hu⟩ := row_blkX h.stks e
    exact blk_ne hb hu h2
  · obtain ⟨us, hu⟩ := row_blkX (h.rows K hK) e
    exact blk_ne hb hu h3
theorem Wl.nX (h : Wl lo X k tr tv T a w) : ¬ k.foot X := h.i.foot_ne h.x (by decide) (by decide) (by decide) (by decide)
theorem Wl.on (h : Wl lo X k tr tv T a w) (hb : Below w.heap.size w w') : Wl lo X k tr tv T a w' :=
  { h with x := h.x.on hb, i := h.i.on hb }
theorem Wl.kept {F : Nat → Prop} (h : Wl lo X k tr tv T a w) (hk : Kept F w w') (hX : ¬ F X) (hn : ∀ q, k.foot q → ¬ F q) : Wl lo X k tr tv T a w' :=
  { h with x := blkY h.x hk hX, i := h.i.kept hk hn }
theorem owns_lower {w : World} {lo lo' : Nat} {e : TypeId} {sz : Nat} {v : Value} {n : Nat} {xs : List Value} (h : w.ownsRow lo e sz v n xs) (hl : lo' ≤ lo) : w.ownsRow lo' e sz v n xs :=
  ⟨h.1, h.2.elim Or.inl (fun ⟨g, cap, cur, hv, hb, r⟩ => Or.inr ⟨g, cap, cur, hv, Nat.le_trans hl hb, r⟩)⟩
theorem Wk.In.lower {lo' : Nat} (h : k.In lo w) (hl : lo' ≤ lo) : k.In lo' w :=
  ⟨h.obj, owns_lower h.path hl, owns_lower h.stks hl, fun K hK => owns_lower (h.rows K hK) hl, h.apart, Nat.le_trans hl h.low⟩
theorem wl_at (h : Wl lo X k tr tv T a w) :
    Calls Tryz.prog 43 #[.pointer (some ⟨X, 0, none⟩)] w fun e w' => e = .returned (.int .i64 (a : Int)) ∧ w' = w := by
  refine (wat_on X k.W w (fun v w' => v = .int .i64 (a : Int) ∧ w' = w) (h.x.cell 0) ((at_on k.W k.obj (a : Int) w h.i.obj (by rw [← h.here]; rfl)).mono ?_)).mono ?_
  · rintro e w2 ⟨rfl, rfl⟩
    exact ⟨_, rfl, rfl, rfl⟩
  · rintro e w2 ⟨v, rfl, rfl, rfl⟩
    exact ⟨rfl, rfl⟩
/-- The path's texts. -/
def wlP (tv : Nat → Nat → ByteArray) (T a : Nat) : List ByteArray := (List.range T).map fun i => tv i (pnum a i)
theorem wlP_length (tv : Nat → Nat → ByteArray) (T a : Nat) : (wlP tv T a).length = T := by simp [wlP]
theorem wlP_get (tv : Nat → Nat → ByteArray) {T a i : Nat} (hi : i < T) : (wlP tv T a)[i]? = some (tv i (pnum a i)) := by simp [wlP, List.getElem?_range hi]
theorem lps_eq {ps : List ByteArray} (h : Lps tv T ps (pnum a)) : ps = wlP tv T a := by
  apply List.ext_getElem?
  intro i
  by_cases hi : i < T
  · rw [h.2 i hi, wlP_get tv hi]
  · rw [List.getElem?_eq_none (by rw [h.1]; omega), List.getElem?_eq_none (by rw [wlP_length]; omega)]
theorem wl_path (h : Wl lo X k tr tv T a w) :
    Calls Tryz.prog 42 #[.pointer (some ⟨X, 0, none⟩)] w fun e w' => ∃ v', e = .returned v' ∧ w'.ownsRow w.heap.size 9 1 v' T ((wlP tv T a).map .string) ∧ Below w.heap.size w w' := by
  have hl := h.ps.1
  have h1 := h.T1
  have h4 := h.T4
  have hp := path_on lo k w h.i (by omega) (by omega)
  rw [lps_eq h.ps, wlP_length] at hp
  exact wpath_on X k.W w (fun v w' => w'.ownsRow w.heap.size 9 1 v T ((wlP tv T a).map .string) ∧ Below w.heap.size w w') (h.x.cell 0) hp
theorem wl_stack (h : Wl lo X k tr tv T a w) {i : Nat} (hi : i < T) :
    Calls Tryz.prog 46 #[.pointer (some ⟨X, 0, none⟩), .int .i64 (i : Int)] w fun e w' => ∃ v', e = .returned (.tuple #[v', .int .i64 0]) ∧ w'.ownsRow w.heap.size 100 3 v' (skAt (2 ^ T) a i).1.length (nodC ((skAt (2 ^ T) a i).1.map (ndT tv))) ∧ Below w.heap.size w w' := by
  obtain ⟨K, hK, hn, -, -⟩ := h.ks.2 i hi
  have h4 := h.T4
  have hl := sk_len h.T4 h.ha hi
  have hs := stack_on lo k i K w h.i hK (by rw [hn, List.length_map]; omega)
  rw [hn, List.length_map] at hs
  refine (wstack_on X k.W i w (fun u v w' => v = .int .i64 0 ∧ w'.ownsRow w.heap.size 100 3 u (skAt (2 ^ T) a i).1.length (nodC ((skAt (2 ^ T) a i).1.map (ndT tv))) ∧ Below w.heap.size w w') (h.x.cell 0) (hs.mono ?_)).mono ?_
  · rintro e w2 ⟨v, rfl, h2, h3⟩
    exact ⟨_, _, rfl, rfl, h2, h3⟩
  · rintro e w2 ⟨u, v, rfl, rfl, h2, h3⟩
    exact ⟨_, rfl, h2, h3⟩
theorem wl_stack_bad (h : Wl lo X k tr tv T a w) {i : Int} (hi : i < 0 ∨ (T : Int) ≤ i) :
    Calls Tryz.prog 46 #[.pointer (some ⟨X, 0, none⟩), .int .i64 i] w fun e w' => e = .returned (.tuple #[.slice none 0 0, .int .i64 2]) ∧ w' = w := by
  have h1 := h.T1
  obtain ⟨K, hK, -⟩ := h.ks.2 0 (by omega)
  obtain ⟨S, c, cur, hv, -⟩ := h.i.block hK
  refine (wstack_on X k.W i w (fun u v w' => u = .slice none 0 0 ∧ v = .int .i64 2 ∧ w' = w) (h.x.cell 0) ((stack_bad k.W k.obj (some ⟨S, 0, none⟩) k.Ks.length c i w h.i.obj (by rw [← hv]; rfl) (by rw [h.ks.1]; exact hi)).mono ?_)).mono ?_
  · rintro e w2 ⟨rfl, rfl⟩
    exact ⟨_, _, rfl, rfl, rfl, rfl⟩
  · rintro e w2 ⟨u, v, rfl, rfl, rfl, rfl⟩
    exact ⟨rfl, rfl⟩
theorem wl_next {jn : Nat → Nat → ByteArray → ByteArray → ByteArray} (h : Wl lo X k tr tv T a w) (hO : TrOk tr tv jn) (ha : a + 1 < 2 ^ T) (hTn : Tn w) (hTB : 0 < lo) (hlo : lo ≤ w.heap.size) :
    Calls Tryz.prog 23 #[.pointer (some ⟨X, 0, none⟩)] w fun e w' => e = .returned (.int .i64 0) ∧ ∃ k', Wl lo X k' tr tv T (a + 1) w' ∧ Kept k.foot w w' ∧ ∀ q, k'.foot q → k.foot q ∨ w.heap.size ≤ q := by
  refine (wnext_on X k.W w (fun v w' => v = .int .i64 0 ∧ WkI lo k w tv T ((a : Int) + 1) (pnum (a + 1)) (skAt (2 ^ T) (a + 1)) w') (h.x.cell 0) ((next_on lo k T a tr tv jn w h.i h.lf h.jf h.lv h.here h.T1 h.T4 ha h.ks h.ps hTn hTB hlo hO.j hO.s hO.L hO.J).mono ?_)).mono ?_
  · rintro e w2 ⟨rfl, h2⟩
    exact ⟨_, rfl, rfl, h2⟩
  · rintro e w2 ⟨v, rfl, rfl, ps, Ks, h1, h2, h3, h4, h5⟩
    refine ⟨rfl, { k with at' := (a : Int) + 1, ps := ps, Ks := Ks }, ⟨blkY h.x h4 h.nX, h1, h.lf, h.jf, h.lv, by simp, h3, h2, h.lX, h.T1, h.T4, ha⟩, h4, footN h5⟩
theorem wl_spent (h : Wl lo X k tr tv T a w) (ha : a + 1 = 2 ^ T) :
    Calls Tryz.prog 23 #[.pointer (some ⟨X, 0, none⟩)] w fun e w' => e = .returned (.int .i64 10) ∧ Below w.heap.size w w' := by
  have h16 : 2 ^ T ≤ 16 := Nat.le_trans (Nat.pow_le_pow_right (by decide) h.T4) (by decide)
  refine (wnext_on X k.W w (fun v w' => v = .int .i64 10 ∧ Below w.heap.size w w') (h.x.cell 0) ((next_spent k.W k.obj a w h.i.obj (by rw [ha, ← h.lv]; rfl) (by rw [← h.here]; rfl) (by omega)).mono ?_)).mono ?_
  · rintro e w2 ⟨rfl, h2⟩
    exact ⟨_, rfl, rfl, h2⟩
  · rintro e w2 ⟨v, rfl, rfl, h2⟩
    exact ⟨rfl, h2⟩
/-- A tree as the program has it. -/
def trV (k : Int) (b x t l : Nat) (ch : Nat) (sec rnd pub : ByteArray) (p0 p1 : Int) : Value := .agg #[.int .i64 k, .int .i64 b, .int .i64 x, .int .i64 t, .int .i64 l, .string sec, .string rnd, .string pub, .int .i64 p0, .int .i64 p1, .int .i64 0, .int .i64 0, .int .i64 (ch : Int)]
theorem trOk (k : Int) (b x e f t l : Nat) (R : RSet k b x e f t l) (sec rnd pub : ByteArray) (p0 p1 : Int) (s1 : sec.size = b) (s3 : pub.size = b) : TrOk (trV k b x t l (b * e + f) sec rnd pub p0 p1) (nodeS k b (x - 1) (b * e + f) sec pub p0 p1) (fun h j y z => joinS k b pub p0 p1 (h : Int) (j : Int) y z) := by
  obtain ⟨g1, g2, g3, g4, g5, g6⟩ := pair_small R.pr
  have hwd : (x : Int) = ((x - 1 : Nat) : Int) + 1 := by omega
  exact ⟨fun h j => rfl, fun h j => (by have := nodeS_size k b (x - 1) (b * e + f) sec pub p0 p1 R.kk (by omega) (by omega) (by omega) (by omega) g3 h j; omega), fun F V _ hV => leaf_any k b x t l sec rnd pub p0 p1 0 0 F (b * e + f) (x - 1) V R.kk (by omega) (by omega) (by omega) (by omega) g3 g4 (ch4_of R.pr) (by omega) hwd hV, fun h j y z V hy hz hV => tjoin_any k b x t l sec rnd pub p0 p1 0 0 h j (b * e + f) y z V R.kk (by omega) (by omega) (by omega) hy hz hV⟩
theorem newX (k : Int) (b x e f t l : Nat) (R : RSet k b x e f t l) (sec rnd pub : ByteArray) (s1 : sec.size = b) (s2 : rnd.size = b) (s3 : pub.size = b) (p0 p1 : Int) (hl : leafB t l p0 p1 0 = true) (V : World) :
    Calls Tryz.prog 37 #[.agg #[.int .i64 k, .int .i64 b, .int .i64 x, .int .i64 t, .int .i64 l], .agg #[.string sec, .string rnd, .string pub], .agg #[.int .i64 p0, .int .i64 p1, .int .i64 0, .int .i64 0]] V fun e' w' => e' = .returned (.tuple #[trV k b x t l (b * e + f) sec rnd pub p0 p1, .int .i64 0]) ∧ Below V.heap.size V w' := by
  have hs := seedsB_of (b := b) (sec := sec) (rnd := rnd) (pub := pub) (by omega) (by omega) (by omega)
  exact new_yes k b x t l _ _ _ _ _ _ sec rnd pub p0 p1 0 0 V (fun V => setsMeasure_yes b x e f t l R.pr k V R.kk R.t1 R.t2 R.l1 R.l2) (fun V => by have h := seedsRight_any k b x t l sec rnd pub V; rw [hs] at h; exact h) (fun V => by have h := isTree_any k b x t l p0 p1 0 0 V R.t1 R.t2 R.l2; rw [hl] at h; exact h)
/-- A walk is asked for, and there is one. -/
theorem wl_new (k : Int) (b x e f t l : Nat) (R : RSet k b x e f t l) (sec rnd pub : ByteArray) (s1 : sec.size = b) (s2 : rnd.size = b) (s3 : pub.size = b) (p0 p1 : Int) (hl : leafB t l p0 p1 0 = true) (lo : Nat) (w : World) (hT : Tn w) (hlo : lo ≤ w.heap.size) :
    Calls Tryz.prog 18 #[.agg #[.int .i64 k, .int .i64 b, .int .i64 x, .int .i64 t, .int .i64 l], .agg #[.string sec, .string rnd, .string pub], .agg #[.int .i64 p0, .int .i64 p1, .int .i64 0, .int .i64 0]] w fun e' w' => ∃ X q, e' = .returned (.tuple #[.pointer (some ⟨X, 0, none⟩), .int .i64 0]) ∧ Wl lo X q (trV k b x t l (b * e + f) sec rnd pub p0 p1) (nodeS k b (x - 1) (b * e + f) sec pub p0 p1) t 0 w' ∧ w.heap.size ≤ X ∧ (∀ z, q.foot z → w.heap.size ≤ z) ∧ Below w.heap.size w w' := by
  have hO := trOk k b x e f t l R sec rnd pub p0 p1 s1 s3
  have hN := nwalk_yes k b x t l ((b * e + f : Nat) : Int) sec rnd pub p0 p1 0 0 w (fun V W w' => ∃ F, NewI V W F (.func (.func 39) #[trV k b x t l (b * e + f) sec rnd pub p0 p1] #[]) (.func (.func 40) #[trV k b x t l (b * e + f) sec rnd pub p0 p1] #[]) (2 ^ t) (nodeS k b (x - 1) (b * e + f) sec pub p0 p1) t w') hT (fun V _ => newX k b x e f t l R sec rnd pub s1 s2 s3 p0 p1 hl V) (fun V hV => (new_on t (trV k b x t l (b * e + f) sec rnd pub p0 p1) _ _ V R.t1 R.t2 hV hO.j hO.s hO.L hO.J).mono (by
    rintro e w2 ⟨W, F, rfl, h⟩
    have hb : Below V.heap.size V w2 := by obtain ⟨pv, sv, ps, Ks, -, -, -, hb⟩ := h.start; exact hb
    exact ⟨W, rfl, ⟨F, h⟩, hb⟩))
  refine hN.mono ?_
  rintro e' w' ⟨V, W, w2, hb, ⟨F, hI⟩, rfl, rfl⟩
  obtain ⟨pv, sv, ps, Ks, h1, h2, h3, h4⟩ := hI.start
  have hz := hb.size
  have hz2 := h4.size
  have hA := (Below.refl w2.heap.size w2).alloc (Nat.le_refl _) (.cells #[.pointer (some ⟨W, 0, none⟩)] 91)
  have hbw : Below w.heap.size w w2 := hb.trans (h4.mono hz)
  refine ⟨_, _, rfl, ⟨Blk.new w2 [.pointer (some ⟨W, 0, none⟩)] 91, (h1.lower (Nat.le_trans hlo hz)).on hA, rfl, rfl, rfl, rfl, h3, h2, by omega, R.t1, R.t2, Nat.two_pow_pos _⟩, by omega, fun z e => Nat.le_trans hz (h1.foot_lt z e).1, hbw.trans (hA.mono (by omega))⟩
end Go.Proofs.YtgaoeoijdpdjiaaGreatDoor

namespace Go.Proofs.YtgaoeoijdpdjiaaGreatDoor
open Go.RowKit
/-- A node of a tree in memory. -/
theorem GrI.node {lo : Nat} {w : World} {ra : Option Addr} {rc : Nat} {vs : List Value} {m T : Nat} {tv : Nat → Nat → ByteArray} (h : GrI lo w (.slice ra m rc) vs m T tv) (hm : 0 < m) :
    ∃ gr, ra = some ⟨gr, 0, none⟩ ∧ gr < w.heap.size ∧ ∀ i, i < m → ∃ gi ci, w.cell? ⟨gr, i, none⟩ = some (.slice (some ⟨gi, 0, none⟩) (2 ^ (T - i)) ci) ∧ gi < w.heap.size ∧ ∀ j, j < 2 ^ (T - i) → w.cell? ⟨gi, j, none⟩ = some (.string (tv i j)) := by
  obtain ⟨gr, c, hv, -, hg⟩ := h.row.form hm
  simp only [Value.slice.injEq] at hv
  obtain ⟨rfl, -, rfl⟩ := hv
  refine ⟨gr, rfl, hg, fun i hi => ?_⟩
  obtain ⟨v, hv, hr⟩ := h.each i hi
  obtain ⟨gi, ci, rfl, -, hgi⟩ := hr.form Nat.one_le_two_pow
  refine ⟨gi, ci, ?_, hgi, fun j hj => ?_⟩
  · rw [h.row.cellAt i (by omega)]
    exact hv
  · rw [hr.cellAt j (by omega)]
    simp [rowZ, List.getElem?_range hj]
theorem pnum_lt {T a i : Nat} (ha : a < 2 ^ T) (hi : i < T) : pnum a i < 2 ^ (T - i) := by
  have hq : a / 2 ^ i < 2 ^ (T - i) := by
    refine Nat.div_lt_of_lt_mul ?_
    rw [← Nat.pow_add, show i + (T - i) = T by omega]
    exact ha
  have hp : 2 ^ (T - i) = 2 * 2 ^ (T - (i + 1)) := by rw [← Nat.pow_succ']; congr 1; omega
  unfold pnum
  generalize a / 2 ^ i = q at *
  generalize 2 ^ (T - (i + 1)) = M at *
  split <;> omega
set_option maxRecDepth 20000 in
set_option maxHeartbeats 4000000 in
theorem rpath_on (lo : Nat) (p0 p1 p2 p3 : Int) (ra : Option Addr) (rc T a : Nat) (vs : List Value) (tv : Nat → Nat → ByteArray) (w : World) (hT : T ≤ 4) (ha : a < 2 ^ T) (hg : GrI lo w (.slice ra (T + 1) rc) vs (T + 1) T tv) :
    Calls Tryz.prog 194 #[.agg #[.int .i64 p0, .int .i64 p1, .int .i64 p2, .int .i64 p3, .slice ra (T + 1) rc], .int .i64 (a : Int)] w fun e w' => ∃ v, e = .returned v ∧ w'.ownsRow w.heap.size 9 1 v T ((wlP tv T a).map .string) ∧ Below w.heap.size w w' := by
  obtain ⟨i0, hi, hz0, hz1, hz2⟩ := info_parts infoSt
  obtain ⟨gr, rfl, hgr, hnode⟩ := hg.node (by omega)
  have ha16 : a < 16 := Nat.lt_of_lt_of_le ha (Nat.le_trans (Nat.pow_le_pow_right (by decide) hT) (by decide))
  have HNODE := hide hnode
  have HGR := hide hgr
  have HPN := hide (fun i (hi : i < T) => pnum_lt ha hi)
  clear hg hnode hgr ha
  obtain ⟨W0, hW⟩ : ∃ W0, w.alloc (.cells #[.int .i64 p0, .int .i64 p1, .int .i64 p2, .int .i64 p3, .slice (some ⟨gr, 0, none⟩) (T + 1) rc] 246) = W0 := ⟨_, rfl⟩
  have HB0 := hide (show Below w.heap.size w W0 by subst hW; exact (Below.refl _ _).alloc (Nat.le_refl _) _)
  have HX := hide (show Blk W0 w.heap.size [.int .i64 p0, .int .i64 p1, .int .i64 p2, .int .i64 p3, .slice (some ⟨gr, 0, none⟩) (T + 1) rc] 246 by subst hW; exact Blk.new w _ _)
  have hz' : w.heap.size + 1 ≤ W0.heap.size := by subst hW; simp
  have HWE := hide hW
  clear hW
  go_enter Tryz.func194, Tryz.ntmps194
  go_wp2_with fail
  rw [HWE.out]
  clear HWE
  go_loopw [5, 6, 7, 8] (fun l q h k wr => ∃ m : Nat, m ≤ T ∧ h = .int .i64 (m : Int) ∧ q = .int .i64 ((a / 2 ^ m : Nat) : Int) ∧ Hid (wr.ownsRow (w.heap.size + 1) 9 1 l m ((List.range m).map fun i => .string (tv i (pnum a i)))) ∧ Hid (Below (w.heap.size + 1) W0 wr) ∧ w.heap.size + 1 ≤ wr.heap.size) (fun _ _ h _ _ => T - (intOf h).toNat)
  case atStart => exact ⟨0, Nat.zero_le _, rfl, by simp, World.ownsRow_nil _ _ _ _, Below.refl _ _, hz'⟩
  case round =>
    obtain ⟨m, hm, rfl, rfl, ho, hb, hzr⟩ := hrel
    have x4 := ((HX.out.below hb.out (by omega)).cell 4)
    simp only [List.getElem?_cons_zero, List.getElem?_cons_succ] at x4
    by_cases hlt : m < T
    · have hli : (m : Int) + 1 < (T : Int) + 1 := by omega
      obtain ⟨gi, ci, y0, hgi, hy1⟩ := HNODE.out m (by omega)
      have HBW := hide (HB0.out.trans (hb.out.mono (by omega)))
      have z0 := (HBW.out.cell (p := ⟨gr, m, none⟩) HGR.out).trans y0
      have hpn := HPN.out m hlt
      have HQ1 := hide (show a / 2 ^ (m + 1) = a / 2 ^ m / 2 by rw [Nat.pow_succ, Nat.div_div_eq_div_mul])
      have HPE := hide (show pnum a m = if a / 2 ^ m % 2 = 1 then a / 2 ^ m - 1 else a / 2 ^ m + 1 from rfl)
      have z1 := (HBW.out.cell (p := ⟨gi, pnum a m, none⟩) hgi).trans (hy1 _ hpn)
      have HSU := hide (show (List.range (m + 1)).map (fun i => Value.string (tv i (pnum a i))) = (List.range m).map (fun i => Value.string (tv i (pnum a i))) ++ [.string (tv m (pnum a m))] by simp [List.range_succ])
      have hq16 : a / 2 ^ m < 16 := Nat.lt_of_le_of_lt (Nat.div_le_self _ _) ha16
      have t1 := tmod_two (a / 2 ^ m)
      have t2 := tdiv_two (a / 2 ^ m)
      generalize 2 ^ (T - m) = N at *
      generalize tv m (pnum a m) = lv at HSU z1
      generalize pnum a m = pn at *
      generalize a / 2 ^ m = q at *
      have hpi : (pn : Int) < (N : Int) := by omega
      have hmi : (m : Int) < (T : Int) + 1 := by omega
      clear y0 hy1 hgi HBW
      by_cases hod : q % 2 = 1
      case' pos =>
        have e1 : (((q % 2 : Nat) : Int) == 1) = true := by rw [hod]; rfl
        have e2 : (q : Int) - 1 = (pn : Int) := by have := HPE.out; rw [if_pos hod] at this; omega
        have e3 : IntKind.i64.wrap ((q : Int) - 1) = (pn : Int) := by rw [e2, IntKind.wrap_i64] <;> omega
        have e4 : wrap64 ((q : Int) - 1) = (pn : Int) := by rw [e2]; exact w64Y _ (by omega)
        have E2 := hide e2
        clear e2
      case' neg =>
        have e1 : (((q % 2 : Nat) : Int) == 1) = false := beq_eq_false_iff_ne.2 (by omega)
        have e2 : (q : Int) + 1 = (pn : Int) := by have := HPE.out; rw [if_neg hod] at this; omega
        have e3 : IntKind.i64.wrap ((q : Int) + 1) = (pn : Int) := by rw [e2, IntKind.wrap_i64] <;> omega
        have e4 : wrap64 ((q : Int) + 1) = (pn : Int) := by rw [e2]; exact w64Y _ (by omega)
        have E2 := hide e2
        clear e2
      all_goals
        have HPN2 := hide hpn
        generalize hr2 : q % 2 = r2 at *
        generalize hq2 : q / 2 = q2 at *
        have HQ2 := hide hq2
        have wq : wrap64 (q2 : Int) = (q2 : Int) := w64Y _ (by omega)
        clear hr2 hq2 hod hpn
        go_wp2_with (at_builtin; refine wpList_append_own _ rfl _ _ 50 rfl (w.heap.size + 1) 9 i0 (.string ⟨#[]⟩) 1 16 Tryz.underlying50 hi hz0 hz1 hz2 rfl (by decide) _ _ _ rfl (ho.out.alloc _) ⟨wr.heap.size, 0, none⟩ 1 1 [_] rfl rfl (one_new _ _ _) ?c2 ?c3 ?c4 ?c5 ?_)
        case c2 => first | rfl | (intro y hy; simp at hy; subst hy; rfl)
        case c3 => unfold maxLen; omega
        case c4 => omega
        case c5 => first | omega | (simp; omega)
        intro v' w6 ho6 hgrow _
        have HLOW := hide (fun q hq => (row_blkZ ho.out hq (q := q)).1)
        have HB6 := hide ((hb.out.alloc (by omega) _).grown hgrow (by simp; omega) (fun p hp => HLOW.out p hp))
        have HO6 : Hid (w6.ownsRow (w.heap.size + 1) 9 1 v' (m + 1) ((List.range (m + 1)).map fun i => .string (tv i (pnum a i)))) := by
          show w6.ownsRow (w.heap.size + 1) 9 1 v' (m + 1) ((List.range (m + 1)).map fun i => .string (tv i (pnum a i)))
          rw [HSU.out]
          exact ho6
        have hz6 : w.heap.size + 1 ≤ w6.heap.size := by have := hgrow.size; simp at this; omega
        clear ho6 hgrow HLOW ho hb HSU z0 z1 x4
        go_wp2
        go_roundw
        case rel =>
          have R : ∃ m' : Nat, m' ≤ T ∧ Value.int .i64 ((m : Int) + 1) = .int .i64 (m' : Int) ∧ Value.int .i64 (wrap64 (q2 : Int)) = .int .i64 ((a / 2 ^ m' : Nat) : Int) ∧ Hid (w6.ownsRow (w.heap.size + 1) 9 1 v' m' ((List.range m').map fun i => .string (tv i (pnum a i)))) ∧ Hid (Below (w.heap.size + 1) W0 w6) ∧ w.heap.size + 1 ≤ w6.heap.size := ⟨m + 1, by omega, by go_num, by rw [HQ1.out, wq], HO6.out, HB6.out, hz6⟩
          first | exact R | ((repeat apply Exists.intro); exact ⟨R, rfl⟩)
        case measure => simp [intOf]; omega
    · obtain rfl : m = T := by omega
      have hli : ¬ (m : Int) + 1 < (m : Int) + 1 := by omega
      have H9 := hide (show wr.ownsRow w.heap.size 9 1 _ m ((wlP tv m a).map .string) by
        have h := owns_lower' (lo' := w.heap.size) ho.out (Nat.le_succ _)
        rw [wlP, List.map_map]
        exact h)
      have HBE := hide (HB0.out.trans (hb.out.mono (by omega)))
      clear ho hb
      go_wp2_with fail
      go_ret
      exact ⟨_, rfl, H9.out, HBE.out⟩
end Go.Proofs.YtgaoeoijdpdjiaaGreatDoor
