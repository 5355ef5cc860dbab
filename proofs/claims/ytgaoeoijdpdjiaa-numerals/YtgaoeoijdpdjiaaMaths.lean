/-
  Plain mathematics of digits: no program is named here. For two different values of one length each has a digit that is greater than the other's.
-/
import Derived.WalkKit
namespace Go.Proofs.Ytgaoeoijdpdjiaa

/-- The n lowest digits of v to the base x, the highest first. -/
def digs (x : Nat) : Nat → Nat → List Nat
  | 0, _ => []
  | n + 1, v => digs x n (v / x) ++ [v % x]

theorem digs_length (x n v : Nat) : (digs x n v).length = n := by
  induction n generalizing v with
  | zero => rfl
  | succ n ih => simp [digs, ih]

theorem digs_lt (x n v : Nat) (hx : 0 < x) : ∀ d ∈ digs x n v, d < x := by
  induction n generalizing v with
  | zero => simp [digs]
  | succ n ih =>
    intro d hd
    simp only [digs, List.mem_append, List.mem_singleton] at hd
    rcases hd with hd | rfl
    · exact ih _ d hd
    · exact Nat.mod_lt _ hx

/-- The i-th entry, 0 where there is none. -/
def at0M (l : List Nat) (i : Nat) : Nat := l.getD i 0

theorem at0_append_left (a b : List Nat) (i : Nat) (h : i < a.length) : at0M (a ++ b) i = at0M a i := by
  simp [at0M, List.getElem?_append_left h]
theorem at0_append_right (a b : List Nat) (i : Nat) : at0M (a ++ b) (a.length + i) = at0M b i := by
  simp [at0M, List.getElem?_append_right]
theorem at0_past (a : List Nat) (i : Nat) (h : a.length ≤ i) : at0M a i = 0 := by
  simp [at0M, List.getElem?_eq_none h]
theorem at0_lt (l : List Nat) (x i : Nat) (hx : 0 < x) (h : ∀ d ∈ l, d < x) : at0M l i < x := by
  by_cases hi : i < l.length
  · simp only [at0M, List.getD_eq_getElem?_getD, List.getElem?_eq_getElem hi, Option.getD_some]
    exact h _ (List.getElem_mem hi)
  · rw [at0_past _ _ (by omega)]; exact hx

/-- Digit by digit at most: so is the number. -/
theorem digs_mono (x n u v : Nat) (_hx : 0 < x) (h : ∀ i, i < n → at0M (digs x n u) i ≤ at0M (digs x n v) i) : u % x ^ n ≤ v % x ^ n := by
  induction n generalizing u v with
  | zero => simp [Nat.mod_one]
  | succ n ih =>
    have h1 := ih (u / x) (v / x) (fun i hi => by
      have := h i (by omega)
      simp only [digs] at this
      rwa [at0_append_left _ _ _ (by rw [digs_length]; exact hi), at0_append_left _ _ _ (by rw [digs_length]; exact hi)] at this)
    have h2 : u % x ≤ v % x := by
      have := h n (by omega)
      simp only [digs] at this
      have e1 := at0_append_right (digs x n (u / x)) [u % x] 0
      have e2 := at0_append_right (digs x n (v / x)) [v % x] 0
      rw [digs_length, Nat.add_zero] at e1 e2
      rw [e1, e2] at this
      simpa [at0M] using this
    rw [Nat.pow_succ, Nat.mul_comm, Nat.mod_mul, Nat.mod_mul]
    have := Nat.mul_le_mul_left x h1
    omega

theorem digs_inj (x n u v : Nat) (hx : 0 < x) (hu : u < x ^ n) (hv : v < x ^ n) (h : digs x n u = digs x n v) : u = v := by
  have a := digs_mono x n u v hx (fun i _ => by rw [h]; exact Nat.le_refl _)
  have b := digs_mono x n v u hx (fun i _ => by rw [h]; exact Nat.le_refl _)
  rw [Nat.mod_eq_of_lt hu, Nat.mod_eq_of_lt hv] at a b
  omega

/-- What the digits lack. -/
def lackN (x : Nat) : List Nat → Nat
  | [] => 0
  | d :: r => (x - 1 - d) + lackN x r

theorem lackN_append (x : Nat) (a b : List Nat) : lackN x (a ++ b) = lackN x a + lackN x b := by
  induction a with
  | nil => simp [lackN]
  | cons d r ih => simp only [List.cons_append, lackN, ih]; omega

theorem lackN_le (x : Nat) (l : List Nat) : lackN x l ≤ l.length * (x - 1) := by
  induction l with
  | nil => simp [lackN]
  | cons d r ih =>
    simp only [lackN, List.length_cons, Nat.succ_mul]
    omega

theorem lackN_lt (x : Nat) (l k : List Nat) (hlen : l.length = k.length) (hk : ∀ d ∈ k, d < x) (hle : ∀ i, i < l.length → at0M l i ≤ at0M k i) :
    lackN x k ≤ lackN x l ∧ (l ≠ k → lackN x k < lackN x l) := by
  induction l generalizing k with
  | nil =>
    cases k with
    | nil => exact ⟨Nat.le_refl _, fun h => absurd rfl h⟩
    | cons d r => simp at hlen
  | cons d r ih =>
    cases k with
    | nil => simp at hlen
    | cons d' r' =>
      have h0 : d ≤ d' := by simpa [at0M] using hle 0 (by simp)
      have hr := ih r' (by simpa using hlen) (fun y hy => hk y (List.mem_cons_of_mem _ hy)) (fun i hi => by simpa [at0M] using hle (i + 1) (by simp; omega))
      have hd' := hk d' (List.mem_cons_self ..)
      refine ⟨?_, fun hne => ?_⟩
      · simp only [lackN]; omega
      · by_cases e : d = d'
        · subst e
          have := hr.2 (fun e' => hne (by rw [e']))
          simp only [lackN]; omega
        · simp only [lackN]; omega

/-- The digits of all bytes, e of each. -/
def firsts (x e : Nat) : List Nat → List Nat
  | [] => []
  | c :: r => digs x e c ++ firsts x e r

theorem firsts_length (x e : Nat) (l : List Nat) : (firsts x e l).length = l.length * e := by
  induction l with
  | nil => simp [firsts]
  | cons c r ih => simp only [firsts, List.length_append, digs_length, ih, List.length_cons, Nat.succ_mul]; omega

theorem firsts_lt (x e : Nat) (l : List Nat) (hx : 0 < x) : ∀ d ∈ firsts x e l, d < x := by
  induction l with
  | nil => simp [firsts]
  | cons c r ih =>
    intro d hd
    simp only [firsts, List.mem_append] at hd
    rcases hd with hd | hd
    · exact digs_lt _ _ _ hx _ hd
    · exact ih _ hd

theorem firsts_inj (x e : Nat) (a b : List Nat) (hx : 0 < x) (hlen : a.length = b.length) (ha : ∀ c ∈ a, c < x ^ e) (hb : ∀ c ∈ b, c < x ^ e) (h : firsts x e a = firsts x e b) : a = b := by
  induction a generalizing b with
  | nil => cases b with
    | nil => rfl
    | cons c r => simp at hlen
  | cons c r ih => cases b with
    | nil => simp at hlen
    | cons c' r' =>
      simp only [firsts] at h
      have h' := List.append_inj h (by rw [digs_length, digs_length])
      have e1 := digs_inj x e c c' hx (ha c (List.mem_cons_self ..)) (hb c' (List.mem_cons_self ..)) h'.1
      have e2 := ih r' (by simpa using hlen) (fun y hy => ha y (List.mem_cons_of_mem _ hy)) (fun y hy => hb y (List.mem_cons_of_mem _ hy)) h'.2
      rw [e1, e2]

/-- All digits of a value: those of its bytes, then f digits of what they lack. -/
def digitsN (x e f : Nat) (a : List Nat) : List Nat := firsts x e a ++ digs x f (lackN x (firsts x e a))

theorem digitsN_length (x e f : Nat) (a : List Nat) : (digitsN x e f a).length = a.length * e + f := by
  simp [digitsN, firsts_length, digs_length]

theorem digitsN_lt (x e f : Nat) (a : List Nat) (hx : 0 < x) : ∀ d ∈ digitsN x e f a, d < x := by
  intro d hd
  simp only [digitsN, List.mem_append] at hd
  rcases hd with hd | hd
  · exact firsts_lt _ _ _ hx _ hd
  · exact digs_lt _ _ _ hx _ hd

/-- Is a digit among the first n greater in l than in k? -/
def gtTo (l k : List Nat) : Nat → Bool
  | 0 => false
  | n + 1 => gtTo l k n || decide (at0M k n < at0M l n)

theorem gtTo_false (l k : List Nat) (n : Nat) (h : gtTo l k n = false) : ∀ i, i < n → at0M l i ≤ at0M k i := by
  induction n with
  | zero => intro i hi; omega
  | succ n ih =>
    simp only [gtTo, Bool.or_eq_false_iff, decide_eq_false_iff_not] at h
    intro i hi
    by_cases e : i = n
    · subst e; omega
    · exact ih h.1 i (by omega)

theorem gtTo_same (l : List Nat) (n : Nat) : gtTo l l n = false := by
  induction n with
  | zero => rfl
  | succ n ih => simp [gtTo, ih]

/-- P28. -/
theorem crossed (x e f : Nat) (a b : List Nat) (hx : 0 < x) (hlen : a.length = b.length) (ha : ∀ c ∈ a, c < x ^ e) (hb : ∀ c ∈ b, c < x ^ e) (hbd : a.length * e * (x - 1) < x ^ f) :
    gtTo (digitsN x e f a) (digitsN x e f b) (a.length * e + f) = decide (a ≠ b) := by
  by_cases hab : a = b
  · subst hab; rw [gtTo_same]; simp
  · simp only [ne_eq, hab, not_false_eq_true, decide_true]
    cases hg : gtTo (digitsN x e f a) (digitsN x e f b) (a.length * e + f) with
    | true => rfl
    | false =>
      exfalso
      have hle := gtTo_false _ _ _ hg
      have h1 := lackN_lt x (firsts x e a) (firsts x e b) (by rw [firsts_length, firsts_length, hlen]) (firsts_lt _ _ _ hx) (fun i hi => by
        have := hle i (by rw [firsts_length] at hi; omega)
        simp only [digitsN] at this
        rwa [at0_append_left _ _ _ hi, at0_append_left _ _ _ (by rw [firsts_length] at hi ⊢; rw [← hlen]; exact hi)] at this)
      have h2 := h1.2 (fun e' => hab (firsts_inj x e a b hx hlen ha hb e'))
      have h3 := digs_mono x f (lackN x (firsts x e a)) (lackN x (firsts x e b)) hx (fun i hi => by
        have := hle (a.length * e + i) (by omega)
        simp only [digitsN] at this
        have e1 := at0_append_right (firsts x e a) (digs x f (lackN x (firsts x e a))) i
        have e2 := at0_append_right (firsts x e b) (digs x f (lackN x (firsts x e b))) i
        rw [firsts_length] at e1 e2
        rw [← hlen] at e2
        rwa [e1, e2] at this)
      have b1 := lackN_le x (firsts x e a)
      have b2 := lackN_le x (firsts x e b)
      rw [firsts_length] at b1 b2
      rw [← hlen] at b2
      rw [Nat.mod_eq_of_lt (by omega), Nat.mod_eq_of_lt (by omega)] at h3
      omega
end Go.Proofs.Ytgaoeoijdpdjiaa
