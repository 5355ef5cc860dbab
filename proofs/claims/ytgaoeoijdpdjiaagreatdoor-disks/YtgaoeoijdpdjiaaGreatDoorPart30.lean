/-
  The program's disk and the document's hold the same.
-/
import Derived.Test.YtgaoeoijdpdjiaaGreatDoorPart28
import Derived.Test.YtgaoeoijdpdjiaaGreatDoorPart29
namespace Go.Proofs.YtgaoeoijdpdjiaaGreatDoor
open Go.RowKit
theorem lastR_left (i : Nat) : ∀ (X Y : List LogW) (k : Nat), k ≤ X.length → lastR (X ++ Y) i k = lastR X i k
  | _, _, 0, _ => rfl
  | X, Y, k + 1, h => by
    rw [lastR, lastR, List.getElem?_append_left (by omega), lastR_left i X Y k (by omega)]
theorem lastR_snoc (i : Nat) (X : List LogW) (q : LogW) : lastR (X ++ [q]) i (X ++ [q]).length = if q.1 = i ∧ q.2.2 ≠ 2 then q.2.1 else lastR X i X.length := by
  have h : (X ++ [q])[X.length]? = some q := by simp
  rw [List.length_append, List.length_singleton]
  by_cases hq : q.1 = i ∧ q.2.2 ≠ 2
  · rw [lastR_yes h hq.1 hq.2, if_pos hq]
  · rw [lastR_no h hq, if_neg hq, lastR_left i X [q] _ (Nat.le_refl _)]
theorem pendN_append (A B : List LogW) : pendN (A ++ B) = pendN A + pendN B := by
  unfold pendN
  rw [List.filter_append, List.length_append]
theorem pendN_none {A : List LogW} (h : ∀ p ∈ A, p.2.2 ≠ 0) : pendN A = 0 := by
  unfold pendN
  rw [List.filter_eq_nil_iff.2 (fun p hp => by simpa using h p hp)]
  rfl
theorem pendN_all {A : List LogW} (h : ∀ p ∈ A, p.2.2 = 0) : pendN A = A.length := by
  unfold pendN
  rw [List.filter_eq_self.2 (fun p hp => by simpa using h p hp)]
theorem crL_none (κ : Nat → Bool) : ∀ (c : Nat) (A B : List LogW), (∀ p ∈ A, p.2.2 ≠ 0) → crL κ c (A ++ B) = A ++ crL κ c B
  | _, [], _, _ => rfl
  | c, p :: A, B, h => by
    have hp := h p (by simp)
    rw [List.cons_append, crL, if_neg hp, crL_none κ c A B (fun q hq => h q (by simp [hq]))]
    unfold stC
    rw [if_neg hp]
    rfl
theorem crL_done (κ : Nat → Bool) : ∀ (c : Nat) (B : List LogW), (∀ p ∈ B, p.2.2 = 0) → ∀ p ∈ crL κ c B, p.2.2 ≠ 0
  | _, [], _, p, hp => by simp [crL] at hp
  | c, q :: B, h, p, hp => by
    have hq := h q (by simp)
    rw [crL, List.mem_cons] at hp
    rcases hp with rfl | hp
    · unfold stC
      rw [if_pos hq]
      dsimp only
      split <;> decide
    · exact crL_done κ _ B (fun r hr => h r (by simp [hr])) p hp
/-- The same writes, durable, lost or pending. -/
structure Rl (st : DSt) (L : List LogW) : Prop where
  wr : st.writes = L.length
  ex : ∃ A Pn : List LogW, L = A ++ Pn ∧ (∀ p ∈ A, p.2.2 ≠ 0) ∧ (∀ p ∈ Pn, p.2.2 = 0) ∧ st.pend = Pn.map (fun p => (p.1, p.2.1)) ∧ ∀ i, i < st.n → st.dur[i]? = some (lastR A i A.length)
theorem zero32 : numB 32 0 = zeroS := by decide +kernel
theorem Rl.new (n : Nat) : Rl (newD n) [] := ⟨rfl, [], [], rfl, by simp, by simp, rfl, fun i hi => by
  have hi' : i < n := hi
  show (List.replicate n zeroS)[i]? = some (numB 32 0)
  rw [List.getElem?_replicate, if_pos hi', zero32]⟩
section
variable {st : DSt} {L : List LogW}
theorem Rl.count (h : Rl st L) : pendN L = st.pend.length := by
  obtain ⟨A, Pn, rfl, h1, h2, h3, _⟩ := h.ex
  rw [pendN_append, pendN_none h1, pendN_all h2, h3, List.length_map, Nat.zero_add]
theorem Rl.same {s2 : DSt} (h : Rl st L) (h1 : s2.writes = st.writes) (h2 : s2.pend = st.pend) (h3 : s2.dur = st.dur) (h4 : s2.n = st.n) : Rl s2 L := ⟨h1.trans h.wr, by rw [h2, h3, h4]; exact h.ex⟩
theorem Rl.read (h : Rl st L) {i : Nat} (hi : i < st.n) : latestB st i = lastR L i L.length := by
  obtain ⟨A, Pn, rfl, h1, h2, h3, h4⟩ := h.ex
  have hd : st.dur.getD i ⟨#[]⟩ = lastR A i A.length := by rw [List.getD_eq_getElem?_getD, h4 i hi]; rfl
  unfold latestB
  rw [hd, h3, List.length_map]
  have key : ∀ k, k ≤ Pn.length → lastR (A ++ Pn) i (A.length + k) = (back (Pn.map fun p => (p.1, p.2.1)) i k).getD (lastR A i A.length) := by
    intro k
    induction k with
    | zero => intro _; rw [Nat.add_zero, lastR_left i A Pn _ (Nat.le_refl _)]; rfl
    | succ k ih =>
      intro hk
      obtain ⟨p, hp⟩ : ∃ p, Pn[k]? = some p := ⟨_, List.getElem?_eq_getElem (by omega)⟩
      have hg : (A ++ Pn)[A.length + k]? = some p := by rw [List.getElem?_append_right (by omega), Nat.add_sub_cancel_left]; exact hp
      have hz := h2 p (List.mem_of_getElem? hp)
      have hm : (Pn.map fun p => (p.1, p.2.1)).getD k (0, ⟨#[]⟩) = (p.1, p.2.1) := by rw [List.getD_eq_getElem?_getD, List.getElem?_map, hp]; rfl
      rw [← Nat.add_assoc, back, hm]
      dsimp only
      by_cases hpi : p.1 = i
      · rw [if_pos hpi, lastR_yes hg hpi (by rw [hz]; decide)]
        rfl
      · rw [if_neg hpi, lastR_no hg (fun e => hpi e.1), ih (by omega)]
  rw [List.length_append, key Pn.length (Nat.le_refl _)]
theorem Rl.write (h : Rl st L) (i : Nat) (t : ByteArray) (tr : Int) : Rl { st with trouble := tr, pend := st.pend ++ [(i, t)], writes := st.writes + 1 } (L ++ [(i, t, 0)]) := by
  obtain ⟨A, Pn, rfl, h1, h2, h3, h4⟩ := h.ex
  refine ⟨?_, A, Pn ++ [(i, t, 0)], (List.append_assoc ..), h1, ?_, ?_, h4⟩
  · show st.writes + 1 = _
    rw [h.wr, List.length_append (bs := [_])]
    simp
  · intro p hp
    rcases List.mem_append.1 hp with hp | hp
    · exact h2 p hp
    · rw [List.mem_singleton.1 hp]
  · show st.pend ++ [(i, t)] = _
    rw [h3, List.map_append]
    rfl
/-- The pending writes are kept or lost. -/
theorem Rl.lay (h : Rl st L) (ok : DOk st) (κ : Nat → Bool) (D : Nat → List ByteArray) (h0 : D 0 = st.dur) (hs : ∀ (k : Nat) (p : Nat × ByteArray), st.pend[k]? = some p → D (k + 1) = if κ k then (D k).set p.1 p.2 else D k) {s2 : DSt} (w2 : s2.writes = st.writes) (p2 : s2.pend = []) (d2 : s2.dur = D st.pend.length) (n2 : s2.n = st.n) : Rl s2 (crL κ 0 L) := by
  obtain ⟨A, Pn, rfl, h1, h2, h3, h4⟩ := h.ex
  have hlen : st.pend.length = Pn.length := by rw [h3, List.length_map]
  have key : ∀ k, k ≤ Pn.length → (D k).length = st.n ∧ ∀ i, i < st.n → (D k)[i]? = some (lastR (A ++ crL κ 0 (Pn.take k)) i (A ++ crL κ 0 (Pn.take k)).length) := by
    intro k
    induction k with
    | zero =>
      intro _
      rw [h0]
      refine ⟨ok.len, fun i hi => ?_⟩
      rw [h4 i hi]
      simp [crL]
    | succ k ih =>
      intro hk
      obtain ⟨ih1, ih2⟩ := ih (by omega)
      obtain ⟨p, hp⟩ : ∃ p, Pn[k]? = some p := ⟨_, List.getElem?_eq_getElem (by omega)⟩
      have hz := h2 p (List.mem_of_getElem? hp)
      have hpp : st.pend[k]? = some (p.1, p.2.1) := by rw [h3, List.getElem?_map, hp]; rfl
      have hpn := (ok.pen _ (List.mem_of_getElem? hpp)).1
      have hps : pendN (Pn.take k) = k := by
        rw [pendN_all (fun q hq => h2 q (List.mem_of_mem_take hq)), List.length_take]
        omega
      obtain ⟨hj, rfl⟩ := List.getElem?_eq_some_iff.1 hp
      rw [hs k _ hpp, List.take_succ_eq_append_getElem hj, crL_snoc, hps, Nat.zero_add, ← List.append_assoc]
      refine ⟨by split <;> simp [ih1], fun i hi => ?_⟩
      rw [lastR_snoc]
      unfold stC
      rw [if_pos hz]
      dsimp only
      cases hκ : κ k
      · rw [if_neg (by decide), if_neg (by simp)]
        exact ih2 i hi
      · rw [if_pos rfl, List.getElem?_set]
        dsimp only at hpn
        by_cases hpi : Pn[k].1 = i
        · rw [if_pos hpi, if_pos (by omega), if_pos ⟨hpi, by simp⟩]
        · rw [if_neg hpi, if_neg (fun e => hpi e.1)]
          exact ih2 i hi
  have hc : crL κ 0 (A ++ Pn) = A ++ crL κ 0 Pn := crL_none κ 0 A Pn h1
  refine ⟨?_, A ++ crL κ 0 Pn, [], by rw [hc, List.append_nil], ?_, by simp, p2, fun i hi => ?_⟩
  · rw [w2, h.wr, crL_length]
  · intro p hp
    rcases List.mem_append.1 hp with hp | hp
    · exact h1 p hp
    · exact crL_done κ 0 Pn h2 p hp
  · have := (key Pn.length (Nat.le_refl _)).2 i (by rw [← n2]; exact hi)
    rw [List.take_length] at this
    rw [d2, hlen]
    exact this
theorem Rl.sync (h : Rl st L) (ok : DOk st) {s2 : DSt} (w2 : s2.writes = st.writes) (p2 : s2.pend = []) (d2 : s2.dur = laidJ st st.pend.length) (n2 : s2.n = st.n) : Rl s2 (crL (fun _ => true) 0 L) :=
  h.lay ok (fun _ => true) (laidJ st) (laidJ_zero st) (fun k p hp => by rw [laidJ_succ st k p hp]; rfl) w2 p2 d2 n2
theorem Rl.crash (h : Rl st L) (ok : DOk st) (K : List Bool) {s2 : DSt} (w2 : s2.writes = st.writes) (p2 : s2.pend = []) (d2 : s2.dur = keptJ st K st.pend.length) (n2 : s2.n = st.n) : Rl s2 (crL (fun c => K.getD c false) 0 L) :=
  h.lay ok (fun c => K.getD c false) (keptJ st K) (by simp [keptJ]) (fun k p hp => keptJ_succ st K k p hp) w2 p2 d2 n2
end
end Go.Proofs.YtgaoeoijdpdjiaaGreatDoor
