/-
  The statement's layer and top where all is right.
-/
import Derived.Test.YtgaoeoijdpdjiabDoorPart47
namespace Go.Proofs.YtgaoeoijdpdjiabDoor
open Go.RowKit

theorem layerY (k : Int) (b x e f t l : Nat) (R : RSet k b x e f t l) (pub mm : ByteArray) (p0 p1 : Int) (F g o c N : Nat) (vs path : List ByteArray) (hl : leafB t l p0 p1 F = true) (s1 : (pub.size : Int) = b) (s2 : (mm.size : Int) = b) (hv : vs.length = b * e + f) (hp : path.length = t) (hvs : ∀ y ∈ vs, (y.size : Int) = b) (hps : ∀ y ∈ path, (y.size : Int) = b) (hN : N = b * e + f + t) (hNc : N ≤ c) (hF : F ≤ 1000) (w : World) (hg : g < w.heap.size) (hcv : ∀ (j : Nat) y, vs[j]? = some y → w.cell? ⟨g, o + j, none⟩ = some (.string y)) (hcp : ∀ (j : Nat) y, path[j]? = some y → w.cell? ⟨g, o + (b * e + f) + j, none⟩ = some (.string y)) (hT : Tn w) :
    Calls Tryd.prog 23 #[.agg #[.int .i64 k, .int .i64 b, .int .i64 x, .int .i64 t, .int .i64 l], .string pub, .agg #[.int .i64 p0, .int .i64 p1, .int .i64 F, .int .i64 0], .string mm, .slice (some ⟨g, o, none⟩) N c] w fun r w' => r = .returned (.string (rootS k b x pub p0 p1 F (digitsN x e f (bytesN mm)) vs path)) ∧ Below w.heap.size w w' := by
  obtain ⟨g1, g2, g3, g4, g5, g6⟩ := pair_small R.pr
  obtain ⟨hb, hx⟩ := pairB R.pr
  have r1 := R.t1
  have r2 := R.t2
  have r3 := R.l1
  have r4 := R.l2
  have hmm : mm.size = b := by omega
  have hdl : (digitsN x e f (bytesN mm)).length = b * e + f := by rw [digitsN_length, bytesN_length, hmm]
  have hdx := digitsN_lt x e f (bytesN mm) (by omega)
  generalize hds : digitsN x e f (bytesN mm) = ds at hdl hdx
  have hpa : ∀ j, j < b * e + f → ((vs[j]?.getD ⟨#[]⟩).size : Int) = b := fun j hj => by
    rw [List.getElem?_eq_getElem (by omega)]
    exact hvs _ (List.getElem_mem _)
  have hec : ∀ i, i < b * e + f → ((chainS k b pub p0 p1 F i ((ds[i]?.getD 0 : Nat) : Int) (x - 1 - ds[i]?.getD 0) (vs[i]?.getD ⟨#[]⟩)).size : Int) = b := fun i hi => chainS_size _ _ _ _ _ _ _ _ _ _ R.kk (by omega) (by omega) (by omega) (hpa i hi)
  have hfs : ((foldS k b pub p0 p1 F 6 0 (endsV k b x pub p0 p1 F ds vs vs.length)).size : Int) = b := foldS_size k b pub p0 p1 F R.kk (by omega) (by omega) (by omega) 6 0 _ (by rw [endsV_length]; omega) (endsV_size k b x pub p0 p1 F ds vs R.kk (by omega) (by omega) (by omega) hvs)
  have hlen : (vs ++ path).length = N := by rw [List.length_append]; omega
  refine layer_on k b x t l p0 p1 0 F (b * e + f) N g o c t pub mm (foldS k b pub p0 p1 F 6 0 (endsV k b x pub p0 p1 F ds vs vs.length)) _ ds (fun j => vs[j]?.getD ⟨#[]⟩) (fun i => chainS k b pub p0 p1 F i ((ds[i]?.getD 0 : Nat) : Int) (x - 1 - ds[i]?.getD 0) (vs[i]?.getD ⟨#[]⟩)) w g3 g4 (by omega) (by omega) rfl r2 r1 hN hNc hT hdl (rootS_size k b x pub p0 p1 F ds vs path R.kk (by omega) (by omega) (by omega) (by omega) hvs hps) hg ?_ ?_ ?_ ?_ ?_ ?_ ?_
  · intro j hj
    rw [List.getElem?_eq_getElem (by omega)]
    exact hcv j _ (List.getElem?_eq_getElem (by omega))
  · intro V
    have h := keepDigits_any b x e f R.pr k t l mm V R.kk (by omega) (by omega) (by omega) (by omega) hmm
    rw [hds] at h
    exact h
  · intro V
    have h := keepChains_any b x k t l V hb hx
    rw [chains_pair R.pr] at h
    exact h
  · intro V hbV
    refine sized_any k b x t l g o N c (vs ++ path) V hlen (by omega) ?_ (Nat.lt_of_lt_of_le hg hbV.size) ?_
    · intro y hy
      rcases List.mem_append.1 hy with h | h
      · exact hvs y h
      · exact hps y h
    · intro j y hj
      refine (hbV.cell (p := ⟨g, o + j, none⟩) hg).trans ?_
      rw [List.getElem?_append] at hj
      split at hj
      · exact hcv j y hj
      · rename_i hnl
        have h := hcp _ y hj
        rw [show o + (b * e + f) + (j - vs.length) = o + j by omega] at h
        exact h
  · intro i d hd V hV
    have hid : i < b * e + f := by have := (List.getElem?_eq_some_iff.1 hd).1; omega
    have hdd : d < x := hdx d (List.mem_of_getElem? hd)
    have hcB : chainB t l (b * e + f) p0 p1 F i = true := by
      unfold chainB
      rw [hl, Bool.true_and, decide_eq_true_eq]
      omega
    have h := sigChain_yes k b x e f t l R.pr R.kk r1 r2 r3 r4 pub (vs[i]?.getD ⟨#[]⟩) p0 p1 F i d (x - 1 - d) R.r hcB s1 (hpa i hid) (by omega) V hV
    rw [show ((d + (x - 1 - d) : Nat) : Int) = (x : Int) - 1 by omega] at h
    rw [hd]
    exact h
  · intro V sp n c' hst hV
    have h := sigFold_yes k b x e f t l R pub p0 p1 F sp n c' _ hl s1 (by simp) (by
      intro y hy
      simp only [List.mem_map, List.mem_range] at hy
      obtain ⟨i, hi, rfl⟩ := hy
      exact hec i hi) V hst hV
    rw [show endsV k b x pub p0 p1 F ds vs vs.length = (List.range (b * e + f)).map (fun i : Nat => chainS k b pub p0 p1 F i ((ds[i]?.getD 0 : Nat) : Int) (x - 1 - ds[i]?.getD 0) (vs[i]?.getD ⟨#[]⟩)) by rw [endsV, hv]]
    exact h
  · intro V hbV hV
    exact sigClimb_yes k b x e f t l R pub _ p0 p1 F g (o + (b * e + f)) (c - (b * e + f)) path hl s1 hfs hp hps hF V (Nat.lt_of_lt_of_le hg hbV.size) (fun j y hj => (hbV.cell (p := ⟨g, o + (b * e + f) + j, none⟩) hg).trans (hcp j y hj)) hV
end Go.Proofs.YtgaoeoijdpdjiabDoor
