/-
  The program's RootBy: from a signature's values of one layer up to the root. The program's Split. The statement's keepTexts at a list that is nil.
-/
import Derived.Test.YtgaoeoijdpdjiabGreatDoorPart34
import Derived.Test.YtgaoeoijdpdjiabGreatDoorPart26
import Derived.Test.YtgaoeoijdpdjiabGreatDoorPart20
import Derived.Test.YtgaoeoijdpdjiabGreatDoorPart33
namespace Go.Proofs.YtgaoeoijdpdjiabGreatDoor
open Go.RowKit

/-- The ends of the chains, from the values on. -/
def endsV (k b : Int) (x : Nat) (pub : ByteArray) (p0 p1 F : Int) (ds : List Nat) (vs : List ByteArray) (n : Nat) : List ByteArray := (List.range n).map fun (i : Nat) => chainS k b pub p0 p1 F i ((ds[i]?.getD 0 : Nat) : Int) (x - 1 - ds[i]?.getD 0) (vs[i]?.getD ⟨#[]⟩)
theorem endsV_succ (k b : Int) (x : Nat) (pub : ByteArray) (p0 p1 F : Int) (ds : List Nat) (vs : List ByteArray) (n : Nat) : endsV k b x pub p0 p1 F ds vs (n + 1) = endsV k b x pub p0 p1 F ds vs n ++ [chainS k b pub p0 p1 F n ((ds[n]?.getD 0 : Nat) : Int) (x - 1 - ds[n]?.getD 0) (vs[n]?.getD ⟨#[]⟩)] := by simp [endsV, List.range_succ]
theorem endsV_length (k b : Int) (x : Nat) (pub : ByteArray) (p0 p1 F : Int) (ds : List Nat) (vs : List ByteArray) (n : Nat) : (endsV k b x pub p0 p1 F ds vs n).length = n := by simp [endsV]
theorem endsV_size (k b : Int) (x : Nat) (pub : ByteArray) (p0 p1 F : Int) (ds : List Nat) (vs : List ByteArray) (hk : k = 1 ∨ k = 2) (h1 : 1 ≤ b) (h2 : b ≤ 16) (hp : pub.size ≤ 16) (hv : ∀ y ∈ vs, (y.size : Int) = b) : ∀ y ∈ endsV k b x pub p0 p1 F ds vs vs.length, (y.size : Int) = b := by
  intro y hy
  simp only [endsV, List.mem_map, List.mem_range] at hy
  obtain ⟨i, hi, rfl⟩ := hy
  refine chainS_size k b pub p0 p1 F i _ _ _ hk h1 h2 hp ?_
  rw [List.getElem?_eq_getElem hi]
  exact hv _ (List.getElem_mem hi)
/-- The root to which one layer's parts lead. -/
def rootS (k b : Int) (x : Nat) (pub : ByteArray) (p0 p1 : Int) (F : Nat) (ds : List Nat) (vs path : List ByteArray) : ByteArray := climbS k b pub p0 p1 F path (foldS k b pub p0 p1 F 6 0 (endsV k b x pub p0 p1 F ds vs vs.length)) path.length
theorem rootS_size (k b : Int) (x : Nat) (pub : ByteArray) (p0 p1 : Int) (F : Nat) (ds : List Nat) (vs path : List ByteArray) (hk : k = 1 ∨ k = 2) (h1 : 1 ≤ b) (h2 : b ≤ 16) (hp : pub.size ≤ 16) (hn : 1 ≤ vs.length) (hv : ∀ y ∈ vs, (y.size : Int) = b) (hq : ∀ y ∈ path, (y.size : Int) = b) : ((rootS k b x pub p0 p1 F ds vs path).size : Int) = b :=
  climbS_size k b pub p0 p1 F path _ hk h1 h2 hp (foldS_size k b pub p0 p1 F hk h1 h2 hp 6 0 _ (by rw [endsV_length]; exact hn) (endsV_size k b x pub p0 p1 F ds vs hk h1 h2 hp hv)) hq path.length (Nat.le_refl _)

set_option maxRecDepth 20000 in
set_option maxHeartbeats 8000000 in
theorem rootBy_any (k b t l : Int) (x : Nat) (pub : ByteArray) (p0 p1 p3 : Int) (F : Nat) (gd od cd gv ov cv gp op cp : Nat) (ds : List Nat) (vs path : List ByteArray) (w : World) (hk : k = 1 ∨ k = 2) (h1 : 1 ≤ b) (h2 : b ≤ 16) (hp : pub.size ≤ 16) (hx : x ≤ 16) (hF : F ≤ 1000)
    (hn1 : 1 ≤ vs.length) (hn : vs.length ≤ 64) (hdn : ds.length = vs.length) (hdx : ∀ d ∈ ds, d < x) (hvs : ∀ y ∈ vs, (y.size : Int) = b) (hpn : path.length ≤ 64) (hps : ∀ y ∈ path, (y.size : Int) = b)
    (gd1 : gd < w.heap.size) (gd2 : ∀ (j : Nat) d, ds[j]? = some d → w.cell? ⟨gd, od + j, none⟩ = some (.int .i64 (d : Nat)))
    (gv1 : gv < w.heap.size) (gv2 : ∀ (j : Nat) y, vs[j]? = some y → w.cell? ⟨gv, ov + j, none⟩ = some (.string y))
    (gp1 : gp < w.heap.size) (gp2 : ∀ (j : Nat) y, path[j]? = some y → w.cell? ⟨gp, op + j, none⟩ = some (.string y)) (hT : Tn w) :
    Calls Tryz.prog 242 #[.agg #[.int .i64 k, .int .i64 b, .int .i64 x, .int .i64 t, .int .i64 l], .string pub, .agg #[.int .i64 p0, .int .i64 p1, .int .i64 F, .int .i64 p3], .slice (some ⟨gd, od, none⟩) vs.length cd, .slice (some ⟨gv, ov, none⟩) vs.length cv, .slice (some ⟨gp, op, none⟩) path.length cp] w fun e w' => e = .returned (.string (rootS k b x pub p0 p1 F ds vs path)) ∧ Below w.heap.size w w' := by
  have HCH := hide (fun (m d : Nat) (y : ByteArray) (hd : d < x) (hy : (y.size : Int) = b) (V : World) (hV : Tn V) => (by
    have h := schain_any k b x t l pub p0 p1 F m d (x - 1 - d) y V hk h1 h2 hp hy (by omega) hV
    rw [show ((d + (x - 1 - d) : Nat) : Int) = (x : Int) - 1 by omega] at h
    exact h : Calls Tryz.prog 285 #[.agg #[.int .i64 k, .int .i64 b, .int .i64 x, .int .i64 t, .int .i64 l, .string pub, .int .i64 p0, .int .i64 p1, .int .i64 F, .int .i64 m], .int .i64 d, .int .i64 ((x : Int) - 1), .string y] V fun e w' => e = .returned (.string (chainS k b pub p0 p1 F m d (x - 1 - d) y)) ∧ Below V.heap.size V w'))
  have HFO := hide (fun (V : World) (g : Nat) (hV : Tn V) (hg : Blk V g ((endsV k b x pub p0 p1 F ds vs vs.length).map Value.string) 9) => (by
    have h := sfold_any k b x t l pub p0 p1 F p3 g 0 vs.length (endsV k b x pub p0 p1 F ds vs vs.length) V (by
      intro j y hj
      rw [Nat.zero_add, hg.cell, List.getElem?_map, hj]
      rfl) hg.lt (by rw [endsV_length]; exact Nat.le_refl _) (by rw [endsV_length]; exact hn) (by rw [endsV_length]; exact hn1) hk h1 h2 hp (endsV_size k b x pub p0 p1 F ds vs hk h1 h2 hp hvs) hV
    rw [endsV_length] at h
    exact h : Calls Tryz.prog 270 #[.agg #[.int .i64 k, .int .i64 b, .int .i64 x, .int .i64 t, .int .i64 l, .string pub, .int .i64 p0, .int .i64 p1, .int .i64 F, .int .i64 p3], .slice (some ⟨g, 0, none⟩) vs.length vs.length] V fun e w' => e = .returned (.string (foldS k b pub p0 p1 F 6 0 (endsV k b x pub p0 p1 F ds vs vs.length))) ∧ Below V.heap.size V w'))
  have HCL := hide (fun (V : World) (hV : Tn V) (hb : Below w.heap.size w V) => sclimb_any k b x t l pub p0 p1 p3 F gp op cp path (foldS k b pub p0 p1 F 6 0 (endsV k b x pub p0 p1 F ds vs vs.length)) V (fun j z hj => (hb.cell (p := ⟨gp, op + j, none⟩) gp1).trans (gp2 j z hj)) (Nat.lt_of_lt_of_le gp1 hb.size) hpn hF hk h1 h2 hp (foldS_size k b pub p0 p1 F hk h1 h2 hp 6 0 _ (by rw [endsV_length]; exact hn1) (endsV_size k b x pub p0 p1 F ds vs hk h1 h2 hp hvs)) hps hV)
  have HES := hide (fun m => endsV_succ k b x pub p0 p1 F ds vs m)
  have HEL := hide (fun m => endsV_length k b x pub p0 p1 F ds vs m)
  have HDX := hide hdx
  have HVS := hide hvs
  have HGD := hide gd2
  have HGV := hide gv2
  unfold rootS
  generalize climbS k b pub p0 p1 F path (foldS k b pub p0 p1 F 6 0 (endsV k b x pub p0 p1 F ds vs vs.length)) path.length = rr at HCL ⊢
  generalize foldS k b pub p0 p1 F 6 0 (endsV k b x pub p0 p1 F ds vs vs.length) = ff at HFO HCL
  obtain ⟨N, hN⟩ : ∃ N, vs.length = N := ⟨_, rfl⟩
  obtain ⟨M, hM⟩ : ∃ M, path.length = M := ⟨_, rfl⟩
  have hmk := makeStr vs.length (by omega)
  rw [hN] at hmk hn hn1 hdn HFO ⊢
  rw [hM] at HCL ⊢
  have HN := hide hN
  clear hN hM gd2 gv2 gp2 hdx hvs hps hpn
  obtain ⟨WT, hWT⟩ : ∃ WT, ((w.alloc (.cells #[.int .i64 k, .int .i64 b, .int .i64 x, .int .i64 t, .int .i64 l] 26)).alloc (.cells #[.int .i64 p0, .int .i64 p1, .int .i64 F, .int .i64 p3] 91)).alloc (.cells #[.int .i64 k, .int .i64 b, .int .i64 x, .int .i64 t, .int .i64 l, .string pub, .int .i64 p0, .int .i64 p1, .int .i64 F, .int .i64 p3] 344) = WT := ⟨_, rfl⟩
  have HWS := hide (show Blk WT w.heap.size [.int .i64 k, .int .i64 b, .int .i64 x, .int .i64 t, .int .i64 l] 26 by rw [← hWT]; exact ((Blk.new w _ _).alloc _).alloc _)
  have HWP := hide (show Blk WT (w.heap.size + 1) [.int .i64 p0, .int .i64 p1, .int .i64 F, .int .i64 p3] 91 by
    rw [← hWT]
    have h := (Blk.new (w.alloc (.cells #[.int .i64 k, .int .i64 b, .int .i64 x, .int .i64 t, .int .i64 l] 26)) [.int .i64 p0, .int .i64 p1, .int .i64 F, .int .i64 p3] 91).alloc (.cells #[.int .i64 k, .int .i64 b, .int .i64 x, .int .i64 t, .int .i64 l, .string pub, .int .i64 p0, .int .i64 p1, .int .i64 F, .int .i64 p3] 344)
    simp only [World.size_alloc] at h
    exact h)
  have HWQ := hide (show Blk WT (w.heap.size + 1 + 1) [.int .i64 k, .int .i64 b, .int .i64 x, .int .i64 t, .int .i64 l, .string pub, .int .i64 p0, .int .i64 p1, .int .i64 F, .int .i64 p3] 344 by
    rw [← hWT]
    have h := Blk.new ((w.alloc (.cells #[.int .i64 k, .int .i64 b, .int .i64 x, .int .i64 t, .int .i64 l] 26)).alloc (.cells #[.int .i64 p0, .int .i64 p1, .int .i64 F, .int .i64 p3] 91)) [.int .i64 k, .int .i64 b, .int .i64 x, .int .i64 t, .int .i64 l, .string pub, .int .i64 p0, .int .i64 p1, .int .i64 F, .int .i64 p3] 344
    simp only [World.size_alloc] at h
    exact h)
  have hzT : WT.heap.size = w.heap.size + 1 + 1 + 1 := by rw [← hWT]; simp
  have HB := hide (show Below w.heap.size w WT by rw [← hWT]; exact (((Below.refl _ _).alloc (Nat.le_refl _) _).alloc (by simp) _).alloc (by simp; omega) _)
  have hpos := hT.pos
  have HTT := hide (hT.on HB.out)
  have HTB := hide (fun (V : World) (h : Below (w.heap.size + 1) WT V) => HTT.out.below h (by omega))
  have HW3 := hide (show Blk (WT.alloc (.cells (Array.replicate N (Value.string ⟨#[]⟩)) 9)) (w.heap.size + 1 + 1 + 1) (List.replicate N (Value.string ⟨#[]⟩)) 9 ∧ Below (w.heap.size + 1) WT (WT.alloc (.cells (Array.replicate N (Value.string ⟨#[]⟩)) 9)) ∧ Blk (WT.alloc (.cells (Array.replicate N (Value.string ⟨#[]⟩)) 9)) (w.heap.size + 1) [.int .i64 p0, .int .i64 p1, .int .i64 F, .int .i64 p3] 91 ∧ Blk (WT.alloc (.cells (Array.replicate N (Value.string ⟨#[]⟩)) 9)) (w.heap.size + 1 + 1) [.int .i64 k, .int .i64 b, .int .i64 x, .int .i64 t, .int .i64 l, .string pub, .int .i64 p0, .int .i64 p1, .int .i64 F, .int .i64 p3] 344 by
    refine ⟨?_, (Below.refl _ _).alloc (by omega) _, HWP.out.alloc _, HWQ.out.alloc _⟩
    have h := Blk.new WT (List.replicate N (Value.string ⟨#[]⟩)) 9
    rw [hzT, List.toArray_replicate] at h; exact h)
  clear hT
  have HWE := hide hWT
  clear hWT
  go_enter Tryz.func242, Tryz.ntmps242
  go_wp2_with fail
  rw [HWE.out]
  obtain ⟨W3, hW3⟩ : ∃ W3, WT.alloc (.cells (Array.replicate N (Value.string ⟨#[]⟩)) 9) = W3 := ⟨_, rfl⟩
  rw [hW3] at HW3 ⊢
  clear hW3 hmk HWE
  go_loopw [26] (fun i wr => ∃ (m : Nat) (z : Int), m ≤ N ∧ i = .int .i64 m ∧ Hid (Blk wr (w.heap.size + 1) [.int .i64 p0, .int .i64 p1, .int .i64 F, .int .i64 z] 91) ∧ Hid (Blk wr (w.heap.size + 1 + 1) [.int .i64 k, .int .i64 b, .int .i64 x, .int .i64 t, .int .i64 l, .string pub, .int .i64 p0, .int .i64 p1, .int .i64 F, .int .i64 p3] 344) ∧ Hid (Blk wr (w.heap.size + 1 + 1 + 1) ((endsV k b x pub p0 p1 F ds vs m).map Value.string ++ List.replicate (N - m) (Value.string ⟨#[]⟩)) 9) ∧ Hid (Below (w.heap.size + 1) WT wr)) (fun i _ => N - (intOf i).toNat)
  case atStart => exact ⟨0, p3, Nat.zero_le _, rfl, HW3.out.2.2.1, HW3.out.2.2.2, show Blk _ _ _ _ by simpa [endsV] using HW3.out.1, HW3.out.2.1⟩
  case round =>
    obtain ⟨m, z, hm, rfl, hat, hsp, hen, hb⟩ := hrel
    by_cases hlt : m < N
    · obtain ⟨dd, hdd⟩ : ∃ dd, ds[m]? = some dd := ⟨_, List.getElem?_eq_getElem (by omega)⟩
      obtain ⟨yy, hyy⟩ : ∃ yy, vs[m]? = some yy := ⟨_, List.getElem?_eq_getElem (by rw [HN.out]; exact hlt)⟩
      have hdb : dd < x := HDX.out dd (List.mem_of_getElem? hdd)
      have hyb := HVS.out yy (List.mem_of_getElem? hyy)
      have HBW := hide (HB.out.trans (hb.out.mono (by omega)))
      have cv : wr.cell? ⟨gv, ov + m, none⟩ = some (.string yy) := (HBW.out.cell (p := ⟨gv, ov + m, none⟩) gv1).trans (HGV.out m yy hyy)
      have HCD := hide (show wr.cell? ⟨gd, od + m, none⟩ = some (.int .i64 dd) from (HBW.out.cell (p := ⟨gd, od + m, none⟩) gd1).trans (HGD.out m dd hdd))
      have H4 := hide (HCH.out m dd yy hdb hyb)
      have HES1 := hide (show endsV k b x pub p0 p1 F ds vs (m + 1) = endsV k b x pub p0 p1 F ds vs m ++ [chainS k b pub p0 p1 F m (dd : Nat) (x - 1 - dd) yy] by rw [HES.out m, hdd, hyy]; rfl)
      generalize chainS k b pub p0 p1 F m (dd : Nat) (x - 1 - dd) yy = cS at H4 HES1
      clear hdd hyy hyb HBW
      obtain ⟨V0, hV0⟩ : ∃ V0, wr.setCell ⟨w.heap.size + 1, 3, none⟩ (.int .i64 m) = V0 := ⟨_, rfl⟩
      have HBV := hide (show Below (w.heap.size + 1) WT V0 by rw [← hV0]; exact hb.out.setCell (p := ⟨w.heap.size + 1, 3, none⟩) (Nat.le_refl _) _)
      have HAV := hide (show Blk V0 (w.heap.size + 1) [.int .i64 p0, .int .i64 p1, .int .i64 F, .int .i64 m] 91 by rw [← hV0]; exact hat.out.set 3 _)
      have HPV := hide (show Blk V0 (w.heap.size + 1 + 1) [.int .i64 k, .int .i64 b, .int .i64 x, .int .i64 t, .int .i64 l, .string pub, .int .i64 p0, .int .i64 p1, .int .i64 F, .int .i64 p3] 344 by rw [← hV0]; exact hsp.out.other _ (by simp))
      have HEV := hide (show Blk V0 (w.heap.size + 1 + 1 + 1) ((endsV k b x pub p0 p1 F ds vs m).map Value.string ++ List.replicate (N - m) (Value.string ⟨#[]⟩)) 9 by rw [← hV0]; exact hen.out.other _ (by simp <;> omega))
      have HCV := hide (show V0.cell? ⟨gd, od + m, none⟩ = some (.int .i64 dd) by rw [← hV0]; exact (World.cell?_setCell_other _ _ _ _ (by simp <;> omega)).trans HCD.out)
      have a3' := hat.out.cell 3
      have fz := hat.out.free 3
      simp only [List.getElem?_cons_zero, List.getElem?_cons_succ] at a3'
      have HSV := hide (HWS.out.below HBV.out (by omega))
      have hgV : gd < V0.heap.size := by have := HBV.out.size; omega
      have HS := hide (fun (V : World) (h : Below V0.heap.size V0 V) => (by
        have q1 := HSV.out.on h
        have q2 := HAV.out.on h
        exact ⟨q1.cell 0, q1.cell 1, q1.cell 2, q1.cell 3, q1.cell 4, q2.cell 0, q2.cell 1, q2.cell 2, q2.cell 3, (h.cell (p := ⟨gd, od + m, none⟩) hgV).trans HCV.out⟩ : V.cell? ⟨w.heap.size, 0, none⟩ = some (.int .i64 k) ∧ V.cell? ⟨w.heap.size, 1, none⟩ = some (.int .i64 b) ∧ V.cell? ⟨w.heap.size, 2, none⟩ = some (.int .i64 x) ∧ V.cell? ⟨w.heap.size, 3, none⟩ = some (.int .i64 t) ∧ V.cell? ⟨w.heap.size, 4, none⟩ = some (.int .i64 l) ∧ V.cell? ⟨w.heap.size + 1, 0, none⟩ = some (.int .i64 p0) ∧ V.cell? ⟨w.heap.size + 1, 1, none⟩ = some (.int .i64 p1) ∧ V.cell? ⟨w.heap.size + 1, 2, none⟩ = some (.int .i64 F) ∧ V.cell? ⟨w.heap.size + 1, 3, none⟩ = some (.int .i64 m) ∧ V.cell? ⟨gd, od + m, none⟩ = some (.int .i64 dd)))
      have HS5 := hide (fun (V : World) (h : Below V0.heap.size V0 V) => (by
        have q1 := (HSV.out.on h).other (a := ⟨w.heap.size + 1 + 1 + 1, m, none⟩) (.string cS) (by simp <;> omega)
        have q2 := (HAV.out.on h).other (a := ⟨w.heap.size + 1 + 1 + 1, m, none⟩) (.string cS) (by simp <;> omega)
        exact ⟨q1.cell 0, q1.cell 1, q1.cell 2, q1.cell 3, q1.cell 4, q2.cell 0, q2.cell 1, q2.cell 2, q2.cell 3, (World.cell?_setCell_other _ _ _ _ (by simp <;> omega)).trans ((h.cell (p := ⟨gd, od + m, none⟩) hgV).trans HCV.out)⟩ : (V.setCell ⟨w.heap.size + 1 + 1 + 1, m, none⟩ (.string cS)).cell? ⟨w.heap.size, 0, none⟩ = some (.int .i64 k) ∧ (V.setCell ⟨w.heap.size + 1 + 1 + 1, m, none⟩ (.string cS)).cell? ⟨w.heap.size, 1, none⟩ = some (.int .i64 b) ∧ (V.setCell ⟨w.heap.size + 1 + 1 + 1, m, none⟩ (.string cS)).cell? ⟨w.heap.size, 2, none⟩ = some (.int .i64 x) ∧ (V.setCell ⟨w.heap.size + 1 + 1 + 1, m, none⟩ (.string cS)).cell? ⟨w.heap.size, 3, none⟩ = some (.int .i64 t) ∧ (V.setCell ⟨w.heap.size + 1 + 1 + 1, m, none⟩ (.string cS)).cell? ⟨w.heap.size, 4, none⟩ = some (.int .i64 l) ∧ (V.setCell ⟨w.heap.size + 1 + 1 + 1, m, none⟩ (.string cS)).cell? ⟨w.heap.size + 1, 0, none⟩ = some (.int .i64 p0) ∧ (V.setCell ⟨w.heap.size + 1 + 1 + 1, m, none⟩ (.string cS)).cell? ⟨w.heap.size + 1, 1, none⟩ = some (.int .i64 p1) ∧ (V.setCell ⟨w.heap.size + 1 + 1 + 1, m, none⟩ (.string cS)).cell? ⟨w.heap.size + 1, 2, none⟩ = some (.int .i64 F) ∧ (V.setCell ⟨w.heap.size + 1 + 1 + 1, m, none⟩ (.string cS)).cell? ⟨w.heap.size + 1, 3, none⟩ = some (.int .i64 m) ∧ (V.setCell ⟨w.heap.size + 1 + 1 + 1, m, none⟩ (.string cS)).cell? ⟨gd, od + m, none⟩ = some (.int .i64 dd)))
      have HVE := hide hV0
      clear hV0 HCD
      have hms : (m : Int) < (N : Int) := by omega
      have vx : IntKind.i64.wrap ((x : Int) - 1) = (x : Int) - 1 := by rw [IntKind.wrap_i64] <;> omega
      go_wp2_with fail
      rw [HVE.out]
      clear HVE a3' fz cv
      refine wp_region_held_drew (S := fun V => V.cell? ⟨w.heap.size, 0, none⟩ = some (.int .i64 k) ∧ V.cell? ⟨w.heap.size, 1, none⟩ = some (.int .i64 b) ∧ V.cell? ⟨w.heap.size, 2, none⟩ = some (.int .i64 x) ∧ V.cell? ⟨w.heap.size, 3, none⟩ = some (.int .i64 t) ∧ V.cell? ⟨w.heap.size, 4, none⟩ = some (.int .i64 l) ∧ V.cell? ⟨w.heap.size + 1, 0, none⟩ = some (.int .i64 p0) ∧ V.cell? ⟨w.heap.size + 1, 1, none⟩ = some (.int .i64 p1) ∧ V.cell? ⟨w.heap.size + 1, 2, none⟩ = some (.int .i64 F) ∧ V.cell? ⟨w.heap.size + 1, 3, none⟩ = some (.int .i64 m) ∧ V.cell? ⟨gd, od + m, none⟩ = some (.int .i64 dd)) (by kernel_rfl) (HS.out _ ((Below.refl V0.heap.size V0).drew)) (fun hHeld => ?_)
      refine wpAnyH_take (i := 0) (oi := ?oia0) (v := ?va0) ?hia0 (by kernel_rfl) (by kernel_rfl) (by kernel_rfl) ?hQa0 (Or.inl ⟨?h1a0, ?hya0⟩) hHeld ?resta0
      case hia0 => (simp only [List.getElem?_toArray, List.getElem?_cons_zero]; rfl)
      case hQa0 => exact fun _ _ _ h => h
      case h1a0 => rfl
      case hya0 => intro V hSV; (try dsimp only at hSV); go_simp; (try with_reducible rfl)
      try simp only [Act.put, List.setIfInBounds_toArray, List.set_cons_zero, List.set_cons_succ]
      refine wpAnyH_take (i := 1) (oi := ?oia1) (v := ?va1) ?hia1 (by kernel_rfl) (by kernel_rfl) (by kernel_rfl) ?hQa1 (Or.inl ⟨?h1a1, ?hya1⟩) hHeld ?resta1
      case hia1 => (simp only [List.getElem?_toArray, List.getElem?_cons_succ, List.getElem?_cons_zero]; rfl)
      case hQa1 => exact fun _ _ _ h => h
      case h1a1 => rfl
      case hya1 => intro V hSV; (try dsimp only at hSV); go_simp; (try with_reducible rfl)
      try simp only [Act.put, List.setIfInBounds_toArray, List.set_cons_zero, List.set_cons_succ]
      refine wpAnyH_take (i := 2) (oi := ?oia2) (v := ?va2) ?hia2 (by kernel_rfl) (by kernel_rfl) (by kernel_rfl) ?hQa2 (Or.inl ⟨?h1a2, ?hya2⟩) hHeld ?resta2
      case hia2 => (simp only [List.getElem?_toArray, List.getElem?_cons_succ, List.getElem?_cons_zero]; rfl)
      case hQa2 => exact fun _ _ _ h => h
      case h1a2 => rfl
      case hya2 => intro V hSV; (try dsimp only at hSV); go_simp; (try with_reducible rfl)
      try simp only [Act.put, List.setIfInBounds_toArray, List.set_cons_zero, List.set_cons_succ]
      refine wpAnyH_take (i := 3) (oi := ?oia3) (v := ?va3) ?hia3 (by kernel_rfl) (by kernel_rfl) (by kernel_rfl) ?hQa3 (Or.inl ⟨?h1a3, ?hya3⟩) hHeld ?resta3
      case hia3 => (simp only [List.getElem?_toArray, List.getElem?_cons_succ, List.getElem?_cons_zero]; rfl)
      case hQa3 => exact fun _ _ _ h => h
      case h1a3 => rfl
      case hya3 => intro V hSV; (try dsimp only at hSV); go_simp; (try with_reducible rfl)
      try simp only [Act.put, List.setIfInBounds_toArray, List.set_cons_zero, List.set_cons_succ]
      refine wpAnyH_take (i := 4) (oi := ?oia4) (v := ?va4) ?hia4 (by kernel_rfl) (by kernel_rfl) (by kernel_rfl) ?hQa4 (Or.inl ⟨?h1a4, ?hya4⟩) hHeld ?resta4
      case hia4 => (simp only [List.getElem?_toArray, List.getElem?_cons_succ, List.getElem?_cons_zero]; rfl)
      case hQa4 => exact fun _ _ _ h => h
      case h1a4 => rfl
      case hya4 => intro V hSV; (try dsimp only at hSV); go_simp; (try with_reducible rfl)
      try simp only [Act.put, List.setIfInBounds_toArray, List.set_cons_zero, List.set_cons_succ]
      refine wpAnyH_take (i := 5) (oi := ?oia5) (v := ?va5) ?hia5 (by kernel_rfl) (by kernel_rfl) (by kernel_rfl) ?hQa5 (Or.inl ⟨?h1a5, ?hya5⟩) hHeld ?resta5
      case hia5 => (simp only [List.getElem?_toArray, List.getElem?_cons_succ, List.getElem?_cons_zero]; rfl)
      case hQa5 => exact fun _ _ _ h => h
      case h1a5 => rfl
      case hya5 => intro V hSV; (try dsimp only at hSV); go_simp; (try with_reducible rfl)
      try simp only [Act.put, List.setIfInBounds_toArray, List.set_cons_zero, List.set_cons_succ]
      refine wpAnyH_take (i := 6) (oi := ?oia6) (v := ?va6) ?hia6 (by kernel_rfl) (by kernel_rfl) (by kernel_rfl) ?hQa6 (Or.inl ⟨?h1a6, ?hya6⟩) hHeld ?resta6
      case hia6 => (simp only [List.getElem?_toArray, List.getElem?_cons_succ, List.getElem?_cons_zero]; rfl)
      case hQa6 => exact fun _ _ _ h => h
      case h1a6 => rfl
      case hya6 => intro V hSV; (try dsimp only at hSV); go_simp; (try with_reducible rfl)
      try simp only [Act.put, List.setIfInBounds_toArray, List.set_cons_zero, List.set_cons_succ]
      refine wpAnyH_take (i := 7) (oi := ?oia7) (v := ?va7) ?hia7 (by kernel_rfl) (by kernel_rfl) (by kernel_rfl) ?hQa7 (Or.inl ⟨?h1a7, ?hya7⟩) hHeld ?resta7
      case hia7 => (simp only [List.getElem?_toArray, List.getElem?_cons_succ, List.getElem?_cons_zero]; rfl)
      case hQa7 => exact fun _ _ _ h => h
      case h1a7 => rfl
      case hya7 => intro V hSV; (try dsimp only at hSV); go_simp; (try with_reducible rfl)
      try simp only [Act.put, List.setIfInBounds_toArray, List.set_cons_zero, List.set_cons_succ]
      refine wpAnyH_take (i := 8) (oi := ?oia8) (v := ?va8) ?hia8 (by kernel_rfl) (by kernel_rfl) (by kernel_rfl) ?hQa8 (Or.inl ⟨?h1a8, ?hya8⟩) hHeld ?resta8
      case hia8 => (simp only [List.getElem?_toArray, List.getElem?_cons_succ, List.getElem?_cons_zero]; rfl)
      case hQa8 => exact fun _ _ _ h => h
      case h1a8 => rfl
      case hya8 => intro V hSV; (try dsimp only at hSV); go_simp; (try with_reducible rfl)
      try simp only [Act.put, List.setIfInBounds_toArray, List.set_cons_zero, List.set_cons_succ]
      refine wpAnyH_take (i := 9) (oi := ?oia9) (v := ?va9) ?hia9 (by kernel_rfl) (by kernel_rfl) (by kernel_rfl) ?hQa9 (Or.inl ⟨?h1a9, ?hya9⟩) hHeld ?resta9
      case hia9 => (simp only [List.getElem?_toArray, List.getElem?_cons_succ, List.getElem?_cons_zero]; rfl)
      case hQa9 => exact fun _ _ _ h => h
      case h1a9 => rfl
      case hya9 => intro V hSV; (try dsimp only at hSV); go_simp; (try with_reducible rfl)
      try simp only [Act.put, List.setIfInBounds_toArray, List.set_cons_zero, List.set_cons_succ]
      refine wpAnyH_take (i := 10) (oi := ?oia10) (v := ?va10) ?hia10 (by kernel_rfl) (by kernel_rfl) (by kernel_rfl) ?hQa10 (Or.inl ⟨?h1a10, ?hya10⟩) hHeld ?resta10
      case hia10 => (simp only [List.getElem?_toArray, List.getElem?_cons_succ, List.getElem?_cons_zero]; rfl)
      case hQa10 => exact fun _ _ _ h => h
      case h1a10 => rfl
      case hya10 => intro V hSV; (try dsimp only at hSV); go_simp; (try with_reducible rfl)
      try simp only [Act.put, List.setIfInBounds_toArray, List.set_cons_zero, List.set_cons_succ]
      refine wpAnyH_take (i := 11) (oi := ?oia11) (v := ?va11) ?hia11 (by kernel_rfl) (by kernel_rfl) (by kernel_rfl) ?hQa11 (Or.inl ⟨?h1a11, ?hya11⟩) hHeld ?resta11
      case hia11 => (simp only [List.getElem?_toArray, List.getElem?_cons_succ, List.getElem?_cons_zero]; rfl)
      case hQa11 => exact fun _ _ _ h => h
      case h1a11 => rfl
      case hya11 => intro V hSV; (try dsimp only at hSV); go_simp; (try with_reducible rfl)
      try simp only [Act.put, List.setIfInBounds_toArray, List.set_cons_zero, List.set_cons_succ]
      refine wpAnyH_take (i := 12) (oi := ?oia12) (v := ?va12) ?hia12 (by kernel_rfl) (by kernel_rfl) (by kernel_rfl) ?hQa12 (Or.inl ⟨?h1a12, ?hya12⟩) hHeld ?resta12
      case hia12 => (simp only [List.getElem?_toArray, List.getElem?_cons_succ, List.getElem?_cons_zero]; rfl)
      case hQa12 => exact fun _ _ _ h => h
      case h1a12 => rfl
      case hya12 => intro V hSV; (try dsimp only at hSV); go_simp; (try with_reducible rfl)
      try simp only [Act.put, List.setIfInBounds_toArray, List.set_cons_zero, List.set_cons_succ]
      refine wpAnyH_take (i := 13) (oi := ?oia13) (v := ?va13) ?hia13 (by kernel_rfl) (by kernel_rfl) (by kernel_rfl) ?hQa13 (Or.inl ⟨?h1a13, ?hya13⟩) hHeld ?resta13
      case hia13 => (simp only [List.getElem?_toArray, List.getElem?_cons_succ, List.getElem?_cons_zero]; rfl)
      case hQa13 => exact fun _ _ _ h => h
      case h1a13 => rfl
      case hya13 => intro V hSV; (try dsimp only at hSV); go_simp; (try with_reducible rfl)
      try simp only [Act.put, List.setIfInBounds_toArray, List.set_cons_zero, List.set_cons_succ]
      refine wpAnyH_ready (rs := [14]) (by kernel_rfl) (by simp) ?_
      refine AllReadyH.cons (o := ?oa14) ?hoa14 (fun K hK => ?hsa14) AllReadyH.nil
      case hoa14 => (simp only [List.getElem?_toArray, List.getElem?_cons_succ, List.getElem?_cons_zero]; rfl)
      go_simp
      go_at_call 285
      refine (H4.out _ (HTB.out _ HBV.out.drew)).mono ?_
      rintro e w4 ⟨rfl, hb4⟩
      have HB4 := hide (heldN HBV.out.drew hb4 (by omega))
      have HE4 := hide ((HEV.out.below (Below.refl V0.heap.size V0).drew HEV.out.lt).on hb4)
      have HA4 := hide ((HAV.out.below (Below.refl V0.heap.size V0).drew HAV.out.lt).on hb4)
      have hS4 := heldB (Below.refl V0.heap.size V0).drew hb4 (Nat.le_refl _)
      have HS4 := hide hS4
      clear hb4 hS4
      try go_wp2_with fail
      refine hK.out _ _ (HS.out _ (HS4.out)) (fun hHeld => ?_)
      clear hK K
      try simp only [Act.put, List.setIfInBounds_toArray, List.set_cons_zero, List.set_cons_succ]
      refine wpAnyH_take (i := 15) (oi := ?oia15) (v := ?va15) ?hia15 (by kernel_rfl) (by kernel_rfl) (by kernel_rfl) ?hQa15 (Or.inl ⟨?h1a15, ?hya15⟩) hHeld ?resta15
      case hia15 => (simp only [List.getElem?_toArray, List.getElem?_cons_succ, List.getElem?_cons_zero]; rfl)
      case hQa15 => exact fun _ _ _ h => h
      case h1a15 => rfl
      case hya15 => intro V hSV; (try dsimp only at hSV); go_simp; (try with_reducible rfl)
      try simp only [Act.put, List.setIfInBounds_toArray, List.set_cons_zero, List.set_cons_succ]
      have hl := HEL.out m
      have e0 : w4.cell? ⟨w.heap.size + 1 + 1 + 1, m, none⟩ = some (.string ⟨#[]⟩) := by rw [HE4.out.cell, List.getElem?_append_right (by simp [hl]), List.length_map, hl, Nat.sub_self, List.getElem?_replicate, if_pos (by omega)]
      have e1 := HE4.out.free m
      refine wpAnyH_ready (rs := [16]) (by kernel_rfl) (by simp) ?_
      refine AllReadyH.cons (o := ?oa16) ?hoa16 (fun K hK => ?hsa16) AllReadyH.nil
      case hoa16 => (simp only [List.getElem?_toArray, List.getElem?_cons_succ, List.getElem?_cons_zero]; rfl)
      go_simp
      refine hK.out _ _ (HS5.out _ HS4.out) (fun hHeld => ?_)
      clear hK K
      try simp only [Act.put, List.setIfInBounds_toArray, List.set_cons_zero, List.set_cons_succ]
      refine wpAnyH_done (by kernel_rfl) ?_ _
      have HEE := hide (show Blk (w4.setCell ⟨w.heap.size + 1 + 1 + 1, m, none⟩ (.string cS)) (w.heap.size + 1 + 1 + 1) ((endsV k b x pub p0 p1 F ds vs (m + 1)).map Value.string ++ List.replicate (N - (m + 1)) (Value.string ⟨#[]⟩)) 9 by
        have h := HE4.out.set m (.string cS)
        rw [List.set_append_right _ _ (by simp [hl]), List.length_map, hl, Nat.sub_self, show N - m = (N - (m + 1)) + 1 by omega, List.replicate_succ, List.set_cons_zero] at h
        rw [HES1.out, List.map_append, List.append_assoc]
        exact h)
      have HBE := hide (HB4.out.setCell (p := ⟨w.heap.size + 1 + 1 + 1, m, none⟩) (by simp <;> omega) (.string cS))
      have HAE := hide (HA4.out.other (a := ⟨w.heap.size + 1 + 1 + 1, m, none⟩) (.string cS) (by simp <;> omega))
      have HPE := hide ((HPV.out.on HS4.out).other (a := ⟨w.heap.size + 1 + 1 + 1, m, none⟩) (.string cS) (by simp))
      clear hl HES1 e0 e1
      go_wp2
      go_roundw
      case rel =>
        have R : ∃ (m' : Nat) (z : Int), m' ≤ N ∧ Value.int .i64 ((m : Int) + 1) = .int .i64 m' ∧ Hid (Blk (w4.setCell ⟨w.heap.size + 1 + 1 + 1, m, none⟩ (.string cS)) (w.heap.size + 1) [.int .i64 p0, .int .i64 p1, .int .i64 F, .int .i64 z] 91) ∧ Hid (Blk (w4.setCell ⟨w.heap.size + 1 + 1 + 1, m, none⟩ (.string cS)) (w.heap.size + 1 + 1) [.int .i64 k, .int .i64 b, .int .i64 x, .int .i64 t, .int .i64 l, .string pub, .int .i64 p0, .int .i64 p1, .int .i64 F, .int .i64 p3] 344) ∧ Hid (Blk (w4.setCell ⟨w.heap.size + 1 + 1 + 1, m, none⟩ (.string cS)) (w.heap.size + 1 + 1 + 1) ((endsV k b x pub p0 p1 F ds vs m').map Value.string ++ List.replicate (N - m') (Value.string ⟨#[]⟩)) 9) ∧ Hid (Below (w.heap.size + 1) WT (w4.setCell ⟨w.heap.size + 1 + 1 + 1, m, none⟩ (.string cS))) := ⟨m + 1, m, by omega, by go_num, HAE.out, HPE.out, HEE.out, HBE.out⟩
        first | exact R | ((repeat apply Exists.intro); exact ⟨R, rfl⟩)
      case measure => simp [intOf]; omega
    · obtain rfl : m = N := by omega
      have HEN := hide (show Blk wr (w.heap.size + 1 + 1 + 1) ((endsV k b x pub p0 p1 F ds vs m).map Value.string) 9 by
        have h := hen.out
        rw [Nat.sub_self, List.replicate_zero, List.append_nil] at h
        exact h)
      have HBW := hide (HB.out.trans (hb.out.mono (by omega)))
      have HS := hide (fun (V : World) (h : Below wr.heap.size wr V) => (by
        have q1 := hsp.out.on h
        exact ⟨q1.cell 0, q1.cell 1, q1.cell 2, q1.cell 3, q1.cell 4, q1.cell 5, q1.cell 6, q1.cell 7, q1.cell 8, q1.cell 9⟩ : V.cell? ⟨w.heap.size + 1 + 1, 0, none⟩ = some (.int .i64 k) ∧ V.cell? ⟨w.heap.size + 1 + 1, 1, none⟩ = some (.int .i64 b) ∧ V.cell? ⟨w.heap.size + 1 + 1, 2, none⟩ = some (.int .i64 x) ∧ V.cell? ⟨w.heap.size + 1 + 1, 3, none⟩ = some (.int .i64 t) ∧ V.cell? ⟨w.heap.size + 1 + 1, 4, none⟩ = some (.int .i64 l) ∧ V.cell? ⟨w.heap.size + 1 + 1, 5, none⟩ = some (.string pub) ∧ V.cell? ⟨w.heap.size + 1 + 1, 6, none⟩ = some (.int .i64 p0) ∧ V.cell? ⟨w.heap.size + 1 + 1, 7, none⟩ = some (.int .i64 p1) ∧ V.cell? ⟨w.heap.size + 1 + 1, 8, none⟩ = some (.int .i64 F) ∧ V.cell? ⟨w.heap.size + 1 + 1, 9, none⟩ = some (.int .i64 p3)))
      have HTW := hide (HTB.out _ hb.out)
      go_wp2_with fail
      go_region_held3 (fun V => V.cell? ⟨w.heap.size + 1 + 1, 0, none⟩ = some (.int .i64 k) ∧ V.cell? ⟨w.heap.size + 1 + 1, 1, none⟩ = some (.int .i64 b) ∧ V.cell? ⟨w.heap.size + 1 + 1, 2, none⟩ = some (.int .i64 x) ∧ V.cell? ⟨w.heap.size + 1 + 1, 3, none⟩ = some (.int .i64 t) ∧ V.cell? ⟨w.heap.size + 1 + 1, 4, none⟩ = some (.int .i64 l) ∧ V.cell? ⟨w.heap.size + 1 + 1, 5, none⟩ = some (.string pub) ∧ V.cell? ⟨w.heap.size + 1 + 1, 6, none⟩ = some (.int .i64 p0) ∧ V.cell? ⟨w.heap.size + 1 + 1, 7, none⟩ = some (.int .i64 p1) ∧ V.cell? ⟨w.heap.size + 1 + 1, 8, none⟩ = some (.int .i64 F) ∧ V.cell? ⟨w.heap.size + 1 + 1, 9, none⟩ = some (.int .i64 p3)) (first | exact HS.out _ hS2 | exact HS.out _ hS1 | exact HS.out _ (Below.refl wr.heap.size wr).drew) (first | (go_at_call 270; refine (HFO.out _ (w.heap.size + 1 + 1 + 1) (HTW.out.on (Below.refl wr.heap.size wr).drew) (HEN.out.on (Below.refl wr.heap.size wr).drew)).mono ?_; rintro e w5 ⟨rfl, hb5⟩; have hS1 := heldB (Below.refl wr.heap.size wr).drew hb5 (Nat.le_refl _)) | (go_at_call 286; refine (HCL.out _ (HTW.out.on hS1) (HBW.out.trans (hS1.mono HBW.out.size))).mono ?_; rintro e w6 ⟨rfl, hb6⟩; have hS2 := heldB hS1 hb6 (Nat.le_refl _)))
      have HB6 := hide (HBW.out.trans (hS2.mono HBW.out.size))
      clear hS1 hS2 hb5 hb6
      go_wp2
      go_ret
      exact ⟨rfl, HB6.out⟩
end Go.Proofs.YtgaoeoijdpdjiabGreatDoor

namespace Go.Proofs.YtgaoeoijdpdjiabGreatDoor
open Go.RowKit

theorem sliceV0 (s : ByteArray) (h2 : 4 ≤ s.size) (w : World) : (Instr.slice 9 (.string s) none (some (.int .i64 4)) none).run Tryz.prog w = .ok (.string (s.extract 0 4)) w := by
  have e4 : (4 : Int) ≤ (s.size : Int) := by omega
  simp [go_sem, e4]
theorem sliceVE (s : ByteArray) (a : Nat) (h2 : a ≤ s.size) (w : World) : (Instr.slice 9 (.string s) (some (.int .i64 (a : Int))) none none).run Tryz.prog w = .ok (.string (s.extract a s.size)) w := by
  have e3 : (0 : Int) ≤ (a : Int) := by omega
  have e4 : (a : Int) ≤ (s.size : Int) := by omega
  simp [go_sem, e3, e4]

set_option maxRecDepth 20000 in
set_option maxHeartbeats 4000000 in
theorem split_set (k x t l a0 a1 a2 a3 a4 a5 : Int) (b er : Int) (sig : ByteArray) (w : World)
    (her : er ≠ 0)
    (hM : ∀ V : World, Calls Tryz.prog 155 #[.agg #[.int .i64 k, .int .i64 b, .int .i64 x, .int .i64 t, .int .i64 l]] V fun e w' => e = .returned (.tuple #[.agg #[.int .i64 a0, .int .i64 a1, .int .i64 a2, .int .i64 a3, .int .i64 a4, .int .i64 a5], .int .i64 er]) ∧ Below V.heap.size V w') :
    Calls Tryz.prog 81 #[.agg #[.int .i64 k, .int .i64 b, .int .i64 x, .int .i64 t, .int .i64 l], .string sig] w fun r w' => r = .returned (.tuple #[.agg #[.int .i64 0, .string ⟨#[]⟩, .slice none 0 0], .int .i64 er]) ∧ Below w.heap.size w w' := by
  obtain ⟨W0, hW⟩ : ∃ W0, (w.alloc (.cells #[.int .i64 k, .int .i64 b, .int .i64 x, .int .i64 t, .int .i64 l] 26)).alloc (.cells #[.int .i64 0, .string ⟨#[]⟩, .slice none 0 0] 29) = W0 := ⟨_, rfl⟩
  have HF := hide (show FiveC w.heap.size W0 k b x t l by subst hW; refine ⟨?_, ?_, ?_, ?_, ?_⟩ <;> simp [go_sem])
  have HB := hide (show Below w.heap.size w W0 by subst hW; exact ((Below.refl _ _).alloc (Nat.le_refl _) _).alloc (by simp) _)
  have HR := hide (show Blk W0 (w.heap.size + 1) [.int .i64 0, .string ⟨#[]⟩, .slice none 0 0] 29 by
    subst hW
    have h := Blk.new (w.alloc (.cells #[.int .i64 k, .int .i64 b, .int .i64 x, .int .i64 t, .int .i64 l] 26)) [.int .i64 0, .string ⟨#[]⟩, .slice none 0 0] 29
    simp only [World.size_alloc] at h
    exact h)
  have hz' : w.heap.size + 2 ≤ W0.heap.size := by subst hW; simp
  obtain ⟨c0, c1, c2, c3, c4⟩ := HF.out
  have HM := hide hM
  clear hM
  have HWE := hide hW
  clear hW
  go_enter Tryz.func81, Tryz.ntmps81
  go_wp2_with fail
  rw [HWE.out]
  refine (HM.out _).mono ?_
  rintro e w1 ⟨rfl, hb1⟩
  have HB1 := hide (heldB (Below.refl W0.heap.size W0) hb1 (Nat.le_refl _))
  have HR1 := hide (HR.out.on hb1)
  clear hb1 c0 c1 c2 c3 c4
  have HB2 := hide (HB1.out.alloc HB1.out.size (.cells #[.int .i64 a0, .int .i64 a1, .int .i64 a2, .int .i64 a3, .int .i64 a4, .int .i64 a5] 158))
  have HR2 := hide (HR1.out.alloc (.cells #[.int .i64 a0, .int .i64 a1, .int .i64 a2, .int .i64 a3, .int .i64 a4, .int .i64 a5] 158))
  have HZ2 := hide (Blk.new w1 [.int .i64 a0, .int .i64 a1, .int .i64 a2, .int .i64 a3, .int .i64 a4, .int .i64 a5] 158)
  have hw1 : w.heap.size + 2 ≤ w1.heap.size := Nat.le_trans hz' HB1.out.size
  obtain ⟨W2, hW2⟩ : ∃ W2, w1.alloc (.cells #[.int .i64 a0, .int .i64 a1, .int .i64 a2, .int .i64 a3, .int .i64 a4, .int .i64 a5] 158) = W2 := ⟨_, rfl⟩
  have HX := HR2
  rw [hW2] at HX
  have HBX := HB2
  rw [hW2] at HBX
  have HW2 := hide hW2
  clear hW2 HR2 HB2 HZ2
  have r0 := HX.out.cell 0
  have r1 := HX.out.cell 1
  have r2 := HX.out.cell 2
  have f0 := HX.out.free 0
  have f1 := HX.out.free 1
  have f2 := HX.out.free 2
  simp only [List.getElem?_cons_zero, List.getElem?_cons_succ] at r0 r1 r2
  have n0 : ((er : Int) != 0) = true := by simpa using her
  have n1 : ((er : Int) == 0) = false := by simpa using her
  have HWX := HW2.out
  go_wp2
  refine bodyPost_ret (v := .tuple #[.agg #[.int .i64 0, .string ⟨#[]⟩, .slice none 0 0], .int .i64 er]) (by simp [results, Tryz.results81, go_sem, r0, r1, r2]) rfl ⟨rfl, ?_⟩
  have HBB := HB.out.trans (HBX.out.mono HB.out.size)
  iterate 3 refine Below.setCell ?_ (by simp <;> omega) _
  exact HBB

set_option maxRecDepth 20000 in
set_option maxHeartbeats 4000000 in
theorem split_len (k x t l a0 a1 a2 a3 a4 a5 : Int) (b : Int) (sig : ByteArray) (w : World)
    (hne : (sig.size : Int) ≠ a4)
    (hM : ∀ V : World, Calls Tryz.prog 155 #[.agg #[.int .i64 k, .int .i64 b, .int .i64 x, .int .i64 t, .int .i64 l]] V fun e w' => e = .returned (.tuple #[.agg #[.int .i64 a0, .int .i64 a1, .int .i64 a2, .int .i64 a3, .int .i64 a4, .int .i64 a5], .int .i64 0]) ∧ Below V.heap.size V w') :
    Calls Tryz.prog 81 #[.agg #[.int .i64 k, .int .i64 b, .int .i64 x, .int .i64 t, .int .i64 l], .string sig] w fun r w' => r = .returned (.tuple #[.agg #[.int .i64 0, .string ⟨#[]⟩, .slice none 0 0], .int .i64 12]) ∧ Below w.heap.size w w' := by
  obtain ⟨W0, hW⟩ : ∃ W0, (w.alloc (.cells #[.int .i64 k, .int .i64 b, .int .i64 x, .int .i64 t, .int .i64 l] 26)).alloc (.cells #[.int .i64 0, .string ⟨#[]⟩, .slice none 0 0] 29) = W0 := ⟨_, rfl⟩
  have HF := hide (show FiveC w.heap.size W0 k b x t l by subst hW; refine ⟨?_, ?_, ?_, ?_, ?_⟩ <;> simp [go_sem])
  have HB := hide (show Below w.heap.size w W0 by subst hW; exact ((Below.refl _ _).alloc (Nat.le_refl _) _).alloc (by simp) _)
  have HR := hide (show Blk W0 (w.heap.size + 1) [.int .i64 0, .string ⟨#[]⟩, .slice none 0 0] 29 by
    subst hW
    have h := Blk.new (w.alloc (.cells #[.int .i64 k, .int .i64 b, .int .i64 x, .int .i64 t, .int .i64 l] 26)) [.int .i64 0, .string ⟨#[]⟩, .slice none 0 0] 29
    simp only [World.size_alloc] at h
    exact h)
  have hz' : w.heap.size + 2 ≤ W0.heap.size := by subst hW; simp
  obtain ⟨c0, c1, c2, c3, c4⟩ := HF.out
  have HM := hide hM
  clear hM
  have HWE := hide hW
  clear hW
  go_enter Tryz.func81, Tryz.ntmps81
  go_wp2_with fail
  rw [HWE.out]
  refine (HM.out _).mono ?_
  rintro e w1 ⟨rfl, hb1⟩
  have HB1 := hide (heldB (Below.refl W0.heap.size W0) hb1 (Nat.le_refl _))
  have HR1 := hide (HR.out.on hb1)
  clear hb1 c0 c1 c2 c3 c4
  have HB2 := hide (HB1.out.alloc HB1.out.size (.cells #[.int .i64 a0, .int .i64 a1, .int .i64 a2, .int .i64 a3, .int .i64 a4, .int .i64 a5] 158))
  have HR2 := hide (HR1.out.alloc (.cells #[.int .i64 a0, .int .i64 a1, .int .i64 a2, .int .i64 a3, .int .i64 a4, .int .i64 a5] 158))
  have HZ2 := hide (Blk.new w1 [.int .i64 a0, .int .i64 a1, .int .i64 a2, .int .i64 a3, .int .i64 a4, .int .i64 a5] 158)
  have hw1 : w.heap.size + 2 ≤ w1.heap.size := Nat.le_trans hz' HB1.out.size
  obtain ⟨W2, hW2⟩ : ∃ W2, w1.alloc (.cells #[.int .i64 a0, .int .i64 a1, .int .i64 a2, .int .i64 a3, .int .i64 a4, .int .i64 a5] 158) = W2 := ⟨_, rfl⟩
  have HX := HR2
  rw [hW2] at HX
  have HBX := HB2
  rw [hW2] at HBX
  have HZX := HZ2
  rw [hW2] at HZX
  have z4 := HZX.out.cell 4
  simp only [List.getElem?_cons_zero, List.getElem?_cons_succ] at z4
  have HW2 := hide hW2
  clear hW2 HR2 HB2 HZ2 HZX
  have r0 := HX.out.cell 0
  have r1 := HX.out.cell 1
  have r2 := HX.out.cell 2
  have f0 := HX.out.free 0
  have f1 := HX.out.free 1
  have f2 := HX.out.free 2
  simp only [List.getElem?_cons_zero, List.getElem?_cons_succ] at r0 r1 r2
  have n0 : ((sig.size : Int) != a4) = true := by simpa using hne
  have n1 : ((sig.size : Int) == a4) = false := by simpa using hne
  have HWX := HW2.out
  go_wp2
  refine bodyPost_ret (v := .tuple #[.agg #[.int .i64 0, .string ⟨#[]⟩, .slice none 0 0], .int .i64 12]) (by simp [results, Tryz.results81, go_sem, r0, r1, r2]) rfl ⟨rfl, ?_⟩
  have HBB := HB.out.trans (HBX.out.mono HB.out.size)
  iterate 3 refine Below.setCell ?_ (by simp <;> omega) _
  exact HBB

set_option maxRecDepth 20000 in
set_option maxHeartbeats 4000000 in
theorem split_idx (k x t l a0 a1 a2 a3 a4 a5 : Int) (b : Int) (sig : ByteArray) (w : World)
    (hsz : (sig.size : Int) = a4) (h4 : 4 ≤ sig.size)
    (hM : ∀ V : World, Calls Tryz.prog 155 #[.agg #[.int .i64 k, .int .i64 b, .int .i64 x, .int .i64 t, .int .i64 l]] V fun e w' => e = .returned (.tuple #[.agg #[.int .i64 a0, .int .i64 a1, .int .i64 a2, .int .i64 a3, .int .i64 a4, .int .i64 a5], .int .i64 0]) ∧ Below V.heap.size V w')
    (hI : ∀ V : World, Calls Tryz.prog 157 #[.agg #[.int .i64 k, .int .i64 b, .int .i64 x, .int .i64 t, .int .i64 l], .int .i64 ((valN sig 0 4 : Nat) : Int)] V fun e w' => e = .returned (.bool false) ∧ Below V.heap.size V w') :
    Calls Tryz.prog 81 #[.agg #[.int .i64 k, .int .i64 b, .int .i64 x, .int .i64 t, .int .i64 l], .string sig] w fun r w' => r = .returned (.tuple #[.agg #[.int .i64 0, .string ⟨#[]⟩, .slice none 0 0], .int .i64 12]) ∧ Below w.heap.size w w' := by
  obtain ⟨W0, hW⟩ : ∃ W0, (w.alloc (.cells #[.int .i64 k, .int .i64 b, .int .i64 x, .int .i64 t, .int .i64 l] 26)).alloc (.cells #[.int .i64 0, .string ⟨#[]⟩, .slice none 0 0] 29) = W0 := ⟨_, rfl⟩
  have HF := hide (show FiveC w.heap.size W0 k b x t l by subst hW; refine ⟨?_, ?_, ?_, ?_, ?_⟩ <;> simp [go_sem])
  have HB := hide (show Below w.heap.size w W0 by subst hW; exact ((Below.refl _ _).alloc (Nat.le_refl _) _).alloc (by simp) _)
  have HR := hide (show Blk W0 (w.heap.size + 1) [.int .i64 0, .string ⟨#[]⟩, .slice none 0 0] 29 by
    subst hW
    have h := Blk.new (w.alloc (.cells #[.int .i64 k, .int .i64 b, .int .i64 x, .int .i64 t, .int .i64 l] 26)) [.int .i64 0, .string ⟨#[]⟩, .slice none 0 0] 29
    simp only [World.size_alloc] at h
    exact h)
  have hz' : w.heap.size + 2 ≤ W0.heap.size := by subst hW; simp
  obtain ⟨c0, c1, c2, c3, c4⟩ := HF.out
  have HM := hide hM
  clear hM
  have HWE := hide hW
  clear hW
  go_enter Tryz.func81, Tryz.ntmps81
  go_wp2_with fail
  rw [HWE.out]
  refine (HM.out _).mono ?_
  rintro e w1 ⟨rfl, hb1⟩
  have HB1 := hide (heldB (Below.refl W0.heap.size W0) hb1 (Nat.le_refl _))
  have HR1 := hide (HR.out.on hb1)
  clear hb1 c0 c1 c2 c3 c4
  have HB2 := hide (HB1.out.alloc HB1.out.size (.cells #[.int .i64 a0, .int .i64 a1, .int .i64 a2, .int .i64 a3, .int .i64 a4, .int .i64 a5] 158))
  have HR2 := hide (HR1.out.alloc (.cells #[.int .i64 a0, .int .i64 a1, .int .i64 a2, .int .i64 a3, .int .i64 a4, .int .i64 a5] 158))
  have HZ2 := hide (Blk.new w1 [.int .i64 a0, .int .i64 a1, .int .i64 a2, .int .i64 a3, .int .i64 a4, .int .i64 a5] 158)
  have hw1 : w.heap.size + 2 ≤ w1.heap.size := Nat.le_trans hz' HB1.out.size
  obtain ⟨W2, hW2⟩ : ∃ W2, w1.alloc (.cells #[.int .i64 a0, .int .i64 a1, .int .i64 a2, .int .i64 a3, .int .i64 a4, .int .i64 a5] 158) = W2 := ⟨_, rfl⟩
  have HX := HR2
  rw [hW2] at HX
  have HBX := HB2
  rw [hW2] at HBX
  have HZX := HZ2
  rw [hW2] at HZX
  have z4 := HZX.out.cell 4
  simp only [List.getElem?_cons_zero, List.getElem?_cons_succ] at z4
  have HW2 := hide hW2
  clear hW2 HR2 HB2 HZ2 HZX
  have n0 : ((sig.size : Int) != a4) = false := by simpa using hsz
  have n1 : ((sig.size : Int) == a4) = true := by simpa using hsz
  have hs0 := sliceV0 sig h4
  have HNU := hide (fun V : World => (by
    have h := numberIn_any (sig.extract 0 4) V (by rw [ByteArray.size_extract]; omega) (by rw [ByteArray.size_extract]; omega)
    rw [valN_part sig 0 4 4 h4 (by omega)] at h
    exact h : Calls Tryz.prog 156 #[.string (sig.extract 0 4)] V fun e w' => e = .returned (.int .i64 ((valN sig 0 4 : Nat) : Int)) ∧ w' = V))
  have HIX := hide hI
  clear hI
  generalize ((valN sig 0 4 : Nat) : Int) = idx at HNU HIX ⊢
  have HWX := HW2.out
  go_wp2_with fail
  refine (HNU.out _).mono ?_
  rintro e w9 ⟨rfl, hw⟩
  obtain rfl := hw.symm
  clear hw hs0
  obtain ⟨c0, c1, c2, c3, c4⟩ := HF.out.below HBX.out (by omega)
  go_wp2_with fail
  refine (HIX.out _).mono ?_
  rintro e w3 ⟨rfl, hb3⟩
  have HB3 := hide (heldB HBX.out hb3 (Nat.le_refl _))
  have HR3 := hide (HX.out.on hb3)
  clear hb3 c0 c1 c2 c3 c4 z4
  have r0 := HR3.out.cell 0
  have r1 := HR3.out.cell 1
  have r2 := HR3.out.cell 2
  have f0 := HR3.out.free 0
  have f1 := HR3.out.free 1
  have f2 := HR3.out.free 2
  simp only [List.getElem?_cons_zero, List.getElem?_cons_succ] at r0 r1 r2
  go_wp2
  refine bodyPost_ret (v := .tuple #[.agg #[.int .i64 0, .string ⟨#[]⟩, .slice none 0 0], .int .i64 12]) (by simp [results, Tryz.results81, go_sem, r0, r1, r2]) rfl ⟨rfl, ?_⟩
  have HBB := HB.out.trans (HB3.out.mono HB.out.size)
  iterate 3 refine Below.setCell ?_ (by simp <;> omega) _
  exact HBB

set_option maxRecDepth 20000 in
set_option maxHeartbeats 4000000 in
theorem split_yes (k x t l a0 a1 a2 a3 a4 a5 : Int) (b n : Nat) (sig : ByteArray) (w : World)
    (hb1 : 1 ≤ b) (hb2 : b ≤ 8) (hn : n ≤ 200) (hs : sig.size = 4 + b + n * b) (hsz : (sig.size : Int) = a4)
    (hM : ∀ V : World, Calls Tryz.prog 155 #[.agg #[.int .i64 k, .int .i64 b, .int .i64 x, .int .i64 t, .int .i64 l]] V fun e w' => e = .returned (.tuple #[.agg #[.int .i64 a0, .int .i64 a1, .int .i64 a2, .int .i64 a3, .int .i64 a4, .int .i64 a5], .int .i64 0]) ∧ Below V.heap.size V w')
    (hI : ∀ V : World, Calls Tryz.prog 157 #[.agg #[.int .i64 k, .int .i64 b, .int .i64 x, .int .i64 t, .int .i64 l], .int .i64 ((valN sig 0 4 : Nat) : Int)] V fun e w' => e = .returned (.bool true) ∧ Below V.heap.size V w') :
    Calls Tryz.prog 81 #[.agg #[.int .i64 k, .int .i64 b, .int .i64 x, .int .i64 t, .int .i64 l], .string sig] w fun r w' => ∃ g, r = .returned (.tuple #[.agg #[.int .i64 ((valN sig 0 4 : Nat) : Int), .string (sig.extract 4 (4 + b)), .slice (some ⟨g, 0, none⟩) n n], .int .i64 0]) ∧ w.heap.size ≤ g ∧ Blk w' g ((cutS (sig.extract (4 + b) sig.size) b n).map Value.string) 9 ∧ Below w.heap.size w w' := by
  have h4 : 4 ≤ sig.size := by omega
  have hsA : ∀ wx, (Instr.slice 9 (.string sig) (some (.int .i64 4)) (some (.int .i64 (4 + (b : Int)))) none).run Tryz.prog wx = .ok (.string (sig.extract 4 (4 + b))) wx := fun wx => by
    have h := sliceV sig 4 (4 + b) (by omega) (by omega) wx
    rw [Int.natCast_add] at h
    exact h
  have hsB : ∀ wx, (Instr.slice 9 (.string sig) (some (.int .i64 (4 + (b : Int)))) none none).run Tryz.prog wx = .ok (.string (sig.extract (4 + b) sig.size)) wx := fun wx => by
    have h := sliceVE sig (4 + b) (by omega) wx
    rw [Int.natCast_add] at h
    exact h
  have HCT := hide (fun V : World => cut_on (sig.extract (4 + b) sig.size) b n V hb1 hb2 (by rw [ByteArray.size_extract, Nat.min_self, hs]; omega) (by rw [ByteArray.size_extract, Nat.min_self, hs]; omega) hn)
  generalize cutS (sig.extract (4 + b) sig.size) b n = cs at HCT ⊢
  generalize sig.extract (4 + b) sig.size = sB at hsB HCT
  generalize sig.extract 4 (4 + b) = sA at hsA ⊢
  have HSZ := hide hs
  clear hs
  obtain ⟨idx, hidx⟩ : ∃ idx : Int, ((valN sig 0 4 : Nat) : Int) = idx := ⟨_, rfl⟩
  rw [hidx] at hI ⊢
  have HID := hide hidx
  clear hidx
  obtain ⟨W0, hW⟩ : ∃ W0, (w.alloc (.cells #[.int .i64 k, .int .i64 b, .int .i64 x, .int .i64 t, .int .i64 l] 26)).alloc (.cells #[.int .i64 0, .string ⟨#[]⟩, .slice none 0 0] 29) = W0 := ⟨_, rfl⟩
  have HF := hide (show FiveC w.heap.size W0 k b x t l by subst hW; refine ⟨?_, ?_, ?_, ?_, ?_⟩ <;> simp [go_sem])
  have HB := hide (show Below w.heap.size w W0 by subst hW; exact ((Below.refl _ _).alloc (Nat.le_refl _) _).alloc (by simp) _)
  have HR := hide (show Blk W0 (w.heap.size + 1) [.int .i64 0, .string ⟨#[]⟩, .slice none 0 0] 29 by
    subst hW
    have h := Blk.new (w.alloc (.cells #[.int .i64 k, .int .i64 b, .int .i64 x, .int .i64 t, .int .i64 l] 26)) [.int .i64 0, .string ⟨#[]⟩, .slice none 0 0] 29
    simp only [World.size_alloc] at h
    exact h)
  have hz' : w.heap.size + 2 ≤ W0.heap.size := by subst hW; simp
  obtain ⟨c0, c1, c2, c3, c4⟩ := HF.out
  have HM := hide hM
  clear hM
  have HWE := hide hW
  clear hW
  go_enter Tryz.func81, Tryz.ntmps81
  go_wp2_with fail
  rw [HWE.out]
  refine (HM.out _).mono ?_
  rintro e w1 ⟨rfl, hb1⟩
  have HB1 := hide (heldB (Below.refl W0.heap.size W0) hb1 (Nat.le_refl _))
  have HR1 := hide (HR.out.on hb1)
  clear hb1 c0 c1 c2 c3 c4
  have HB2 := hide (HB1.out.alloc HB1.out.size (.cells #[.int .i64 a0, .int .i64 a1, .int .i64 a2, .int .i64 a3, .int .i64 a4, .int .i64 a5] 158))
  have HR2 := hide (HR1.out.alloc (.cells #[.int .i64 a0, .int .i64 a1, .int .i64 a2, .int .i64 a3, .int .i64 a4, .int .i64 a5] 158))
  have HZ2 := hide (Blk.new w1 [.int .i64 a0, .int .i64 a1, .int .i64 a2, .int .i64 a3, .int .i64 a4, .int .i64 a5] 158)
  have hw1 : w.heap.size + 2 ≤ w1.heap.size := Nat.le_trans hz' HB1.out.size
  obtain ⟨W2, hW2⟩ : ∃ W2, w1.alloc (.cells #[.int .i64 a0, .int .i64 a1, .int .i64 a2, .int .i64 a3, .int .i64 a4, .int .i64 a5] 158) = W2 := ⟨_, rfl⟩
  have HX := HR2
  rw [hW2] at HX
  have HBX := HB2
  rw [hW2] at HBX
  have HZX := HZ2
  rw [hW2] at HZX
  have z4 := HZX.out.cell 4
  simp only [List.getElem?_cons_zero, List.getElem?_cons_succ] at z4
  have HW2 := hide hW2
  clear hW2 HR2 HB2 HZ2 HZX
  have n0 : ((sig.size : Int) != a4) = false := by simpa using hsz
  have n1 : ((sig.size : Int) == a4) = true := by simpa using hsz
  have hs0 := sliceV0 sig h4
  have HNU := hide (fun V : World => (by
    have h := numberIn_any (sig.extract 0 4) V (by rw [ByteArray.size_extract]; omega) (by rw [ByteArray.size_extract]; omega)
    rw [valN_part sig 0 4 4 h4 (by omega)] at h
    exact h : Calls Tryz.prog 156 #[.string (sig.extract 0 4)] V fun e w' => e = .returned (.int .i64 ((valN sig 0 4 : Nat) : Int)) ∧ w' = V))
  have HIX := hide hI
  clear hI
  rw [HID.out] at HNU
  have HWX := HW2.out
  go_wp2_with fail
  refine (HNU.out _).mono ?_
  rintro e w9 ⟨rfl, hw⟩
  obtain rfl := hw.symm
  clear hw hs0
  obtain ⟨c0, c1, c2, c3, c4⟩ := HF.out.below HBX.out (by omega)
  go_wp2_with fail
  refine (HIX.out _).mono ?_
  rintro e w3 ⟨rfl, hb3⟩
  have HB3 := hide (heldB HBX.out hb3 (Nat.le_refl _))
  have HR3 := hide (HX.out.on hb3)
  clear hb3 c0 c1 c2 c3 c4 z4
  have HS := hide (fun (V : World) (h : Below w3.heap.size w3 V) => (HF.out.below (heldB HB3.out h (Nat.le_refl _)) (by omega)).2.1)
  obtain ⟨c0, c1, c2, c3, c4⟩ := HF.out.below HB3.out (by omega)
  go_wp2_with fail
  clear c0 c1 c2 c3 c4
  refine wp_region_held_drew (S := fun V => V.cell? ⟨w.heap.size, 1, none⟩ = some (.int .i64 b)) (by kernel_rfl) (HS.out _ ((Below.refl w3.heap.size w3).drew)) (fun hHeld => ?_)
  refine wpAnyH_take (i := 0) (oi := ?oia0) (v := ?va0) ?hia0 (by kernel_rfl) (by kernel_rfl) (by kernel_rfl) ?hQa0 (Or.inl ⟨?h1a0, ?hya0⟩) hHeld ?resta0
  case hia0 => (simp only [List.getElem?_toArray, List.getElem?_cons_zero]; rfl)
  case hQa0 => exact fun _ _ _ h => h
  case h1a0 => rfl
  case hya0 => intro V hSV; (try dsimp only at hSV); go_simp; (try with_reducible rfl)
  try simp only [Act.put, List.setIfInBounds_toArray, List.set_cons_zero, List.set_cons_succ]
  refine wpAnyH_take (i := 1) (oi := ?oia1) (v := ?va1) ?hia1 (by kernel_rfl) (by kernel_rfl) (by kernel_rfl) ?hQa1 (Or.inl ⟨?h1a1, ?hya1⟩) hHeld ?resta1
  case hia1 => (simp only [List.getElem?_toArray, List.getElem?_cons_succ, List.getElem?_cons_zero]; rfl)
  case hQa1 => exact fun _ _ _ h => h
  case h1a1 => rfl
  case hya1 => intro V hSV; (try dsimp only at hSV); go_simp; (try with_reducible rfl)
  try simp only [Act.put, List.setIfInBounds_toArray, List.set_cons_zero, List.set_cons_succ]
  refine wpAnyH_take (i := 2) (oi := ?oia2) (v := ?va2) ?hia2 (by kernel_rfl) (by kernel_rfl) (by kernel_rfl) ?hQa2 (Or.inl ⟨?h1a2, ?hya2⟩) hHeld ?resta2
  case hia2 => (simp only [List.getElem?_toArray, List.getElem?_cons_succ, List.getElem?_cons_zero]; rfl)
  case hQa2 => exact fun _ _ _ h => h
  case h1a2 => rfl
  case hya2 => intro V hSV; (try dsimp only at hSV); go_simp; (try with_reducible rfl)
  try simp only [Act.put, List.setIfInBounds_toArray, List.set_cons_zero, List.set_cons_succ]
  refine wpAnyH_take (i := 3) (oi := ?oia3) (v := ?va3) ?hia3 (by kernel_rfl) (by kernel_rfl) (by kernel_rfl) ?hQa3 (Or.inl ⟨?h1a3, ?hya3⟩) hHeld ?resta3
  case hia3 => (simp only [List.getElem?_toArray, List.getElem?_cons_succ, List.getElem?_cons_zero]; rfl)
  case hQa3 => exact fun _ _ _ h => h
  case h1a3 => rfl
  case hya3 => intro V hSV; (try dsimp only at hSV); go_simp; (try with_reducible rfl)
  try simp only [Act.put, List.setIfInBounds_toArray, List.set_cons_zero, List.set_cons_succ]
  refine wpAnyH_take (i := 4) (oi := ?oia4) (v := ?va4) ?hia4 (by kernel_rfl) (by kernel_rfl) (by kernel_rfl) ?hQa4 (Or.inl ⟨?h1a4, ?hya4⟩) hHeld ?resta4
  case hia4 => (simp only [List.getElem?_toArray, List.getElem?_cons_succ, List.getElem?_cons_zero]; rfl)
  case hQa4 => exact fun _ _ _ h => h
  case h1a4 => rfl
  case hya4 => intro V hSV; (try dsimp only at hSV); go_simp; (try with_reducible rfl)
  try simp only [Act.put, List.setIfInBounds_toArray, List.set_cons_zero, List.set_cons_succ]
  refine wpAnyH_take (i := 5) (oi := ?oia5) (v := ?va5) ?hia5 (by kernel_rfl) (by kernel_rfl) (by kernel_rfl) ?hQa5 (Or.inl ⟨?h1a5, ?hya5⟩) hHeld ?resta5
  case hia5 => (simp only [List.getElem?_toArray, List.getElem?_cons_succ, List.getElem?_cons_zero]; rfl)
  case hQa5 => exact fun _ _ _ h => h
  case h1a5 => rfl
  case hya5 => intro V hSV; (try dsimp only at hSV); go_simp; (try with_reducible rfl)
  try simp only [Act.put, List.setIfInBounds_toArray, List.set_cons_zero, List.set_cons_succ]
  refine wpAnyH_take (i := 6) (oi := ?oia6) (v := ?va6) ?hia6 (by kernel_rfl) (by kernel_rfl) (by kernel_rfl) ?hQa6 (Or.inl ⟨?h1a6, ?hya6⟩) hHeld ?resta6
  case hia6 => (simp only [List.getElem?_toArray, List.getElem?_cons_succ, List.getElem?_cons_zero]; rfl)
  case hQa6 => exact fun _ _ _ h => h
  case h1a6 => rfl
  case hya6 => intro V hSV; (try dsimp only at hSV); go_simp; (try with_reducible rfl)
  try simp only [Act.put, List.setIfInBounds_toArray, List.set_cons_zero, List.set_cons_succ]
  refine wpAnyH_take (i := 7) (oi := ?oia7) (v := ?va7) ?hia7 (by kernel_rfl) (by kernel_rfl) (by kernel_rfl) ?hQa7 (Or.inl ⟨?h1a7, ?hya7⟩) hHeld ?resta7
  case hia7 => (simp only [List.getElem?_toArray, List.getElem?_cons_succ, List.getElem?_cons_zero]; rfl)
  case hQa7 => exact fun _ _ _ h => h
  case h1a7 => rfl
  case hya7 => intro V hSV; (try dsimp only at hSV); go_simp; (try with_reducible rfl)
  try simp only [Act.put, List.setIfInBounds_toArray, List.set_cons_zero, List.set_cons_succ]
  refine wpAnyH_take (i := 8) (oi := ?oia8) (v := ?va8) ?hia8 (by kernel_rfl) (by kernel_rfl) (by kernel_rfl) ?hQa8 (Or.inl ⟨?h1a8, ?hya8⟩) hHeld ?resta8
  case hia8 => (simp only [List.getElem?_toArray, List.getElem?_cons_succ, List.getElem?_cons_zero]; rfl)
  case hQa8 => exact fun _ _ _ h => h
  case h1a8 => rfl
  case hya8 => intro V hSV; (try dsimp only at hSV); go_simp; (try with_reducible rfl)
  try simp only [Act.put, List.setIfInBounds_toArray, List.set_cons_zero, List.set_cons_succ]
  refine wpAnyH_ready (rs := [9]) (by kernel_rfl) (by simp) ?_
  refine AllReadyH.cons (o := ?oa9) ?hoa9 (fun K hK => ?hsa9) AllReadyH.nil
  case hoa9 => (simp only [List.getElem?_toArray, List.getElem?_cons_succ, List.getElem?_cons_zero]; rfl)
  go_simp
  go_at_call 158
  refine (HCT.out _).mono ?_
  rintro e w4 ⟨rfl, hk4, hb4⟩
  have hS4 := heldB (Below.refl w3.heap.size w3).drew hb4 (Nat.le_refl _)
  have HB4 := hide hS4
  have HK4 := hide hk4
  have HR4 := hide (HR3.out.on hS4)
  clear hb4 hS4 hk4
  try go_wp2_with fail
  refine hK.out _ _ (HS.out _ (HB4.out)) (fun hHeld => ?_)
  clear hK K
  try simp only [Act.put, List.setIfInBounds_toArray, List.set_cons_zero, List.set_cons_succ]
  refine wpAnyH_take (i := 10) (oi := ?oia10) (v := ?va10) ?hia10 (by kernel_rfl) (by kernel_rfl) (by kernel_rfl) ?hQa10 (Or.inl ⟨?h1a10, ?hya10⟩) hHeld ?resta10
  case hia10 => (simp only [List.getElem?_toArray, List.getElem?_cons_succ, List.getElem?_cons_zero]; rfl)
  case hQa10 => exact fun _ _ _ h => h
  case h1a10 => rfl
  case hya10 => intro V hSV; (try dsimp only at hSV); go_simp; (try with_reducible rfl)
  try simp only [Act.put, List.setIfInBounds_toArray, List.set_cons_zero, List.set_cons_succ]
  have r0 := HR4.out.cell 0
  have r1 := HR4.out.cell 1
  have r2 := HR4.out.cell 2
  have f0 := HR4.out.free 0
  have f1 := HR4.out.free 1
  have f2 := HR4.out.free 2
  simp only [List.getElem?_cons_zero, List.getElem?_cons_succ] at r0 r1 r2
  refine wpAnyH_ready (rs := [11]) (by kernel_rfl) (by simp) ?_
  refine AllReadyH.cons (o := ?oa11) ?hoa11 (fun K hK => ?hsa11) AllReadyH.nil
  case hoa11 => (simp only [List.getElem?_toArray, List.getElem?_cons_succ, List.getElem?_cons_zero]; rfl)
  go_simp
  refine hK.out _ _ ((((World.cell?_setCell_other _ _ _ _ (by simp)).trans (World.cell?_setCell_other _ _ _ _ (by simp))).trans (World.cell?_setCell_other _ _ _ _ (by simp))).trans (HS.out _ HB4.out)) (fun hHeld => ?_)
  clear hK K
  try simp only [Act.put, List.setIfInBounds_toArray, List.set_cons_zero, List.set_cons_succ]
  refine wpAnyH_take (i := 12) (oi := ?oia12) (v := ?va12) ?hia12 (by kernel_rfl) (by kernel_rfl) (by kernel_rfl) ?hQa12 (Or.inl ⟨?h1a12, ?hya12⟩) hHeld ?resta12
  case hia12 => (simp only [List.getElem?_toArray, List.getElem?_cons_succ, List.getElem?_cons_zero]; rfl)
  case hQa12 => exact fun _ _ _ h => h
  case h1a12 => rfl
  case hya12 => intro V hSV; (try dsimp only at hSV); go_simp; (try with_reducible rfl)
  try simp only [Act.put, List.setIfInBounds_toArray, List.set_cons_zero, List.set_cons_succ]
  refine wpAnyH_done (by kernel_rfl) ?_ _
  go_wp2
  have hg3 : w3.heap.size ≤ w3.drew.heap.size := Nat.le_refl _
  refine bodyPost_ret (v := .tuple #[.agg #[.int .i64 idx, .string sA, .slice (some ⟨w3.drew.heap.size, 0, none⟩) n n], .int .i64 0]) (by simp [results, Tryz.results81, go_sem, r0, r1, r2]) rfl ⟨_, rfl, ?_, ?_, ?_⟩
  · have h1 := HB.out.size
    have h2 := HB3.out.size
    exact Nat.le_trans h1 (Nat.le_trans h2 hg3)
  · have hne : w3.drew.heap.size ≠ w.heap.size + 1 := by
      have h2 := HB3.out.size
      omega
    exact ((HK4.out.other (a := ⟨w.heap.size + 1, 0, none⟩) _ hne).other (a := ⟨w.heap.size + 1, 1, none⟩) _ hne).other (a := ⟨w.heap.size + 1, 2, none⟩) _ hne
  · have HBB := HB.out.trans ((HB3.out.trans (HB4.out.mono HB3.out.size)).mono HB.out.size)
    iterate 3 refine Below.setCell ?_ (by simp <;> omega) _
    exact HBB
end Go.Proofs.YtgaoeoijdpdjiabGreatDoor

namespace Go.Proofs.YtgaoeoijdpdjiabGreatDoor
open Go.RowKit

set_option maxRecDepth 20000 in
set_option maxHeartbeats 4000000 in
theorem keepT_nil_at (B0 B bk j : Nat) (v : Value) (S : List Value) (w0 wr : World) (hj : j = 0) (hB : BookT w0 B bk v S) (h4 : S.length % 4 = 0) (hS : S.length ≤ 90) (hb : Below w0.heap.size w0 wr) (b1 : B0 ≤ B) (b2 : B0 ≤ bk) (b3 : B0 ≤ w0.heap.size) (b4 : B ≤ w0.heap.size) :
    Calls Tryz.prog 39 #[.pointer (some ⟨bk, 0, none⟩), .slice none j j] wr fun r w' =>
      r = .returned (.tuple #[]) ∧ ∃ v' S', BookT w' B bk v' S' ∧ S'.length = S.length + 4 ∧ Below B0 wr w' ∧ (∀ q, q < w0.heap.size → q ≠ bk → v.ownBlock ≠ some q → w'.heap[q]? = w0.heap[q]?) ∧ wr.heap.size ≤ w'.heap.size := by
  obtain ⟨ao, cap, hv, hao⟩ := owns_form hB.row
  subst hv
  have HB := hideM hB
  have HBW := hideM hb
  have cb : wr.cell? ⟨bk, 1, none⟩ = some (.slice ao S.length cap) := by
    have := (hB.below hb).blk
    simp [World.cell?, this]
  have ZW : w0.heap.size ≤ wr.heap.size := hb.size
  have HJ := hideM hj
  have j0 : j < 1 := by omega
  have HMK := hideM (show ∀ (V : World) z, MarkT V (.slice none j j) z by subst hj; exact fun V z => markT_nil V z)
  clear hB hb hao hj
  obtain ⟨i0, hi, hz0, hz1, hz2⟩ := info_parts infoStr
  obtain ⟨i1, hi', hz0', hz1', hz2'⟩ := info_parts infoSliceT
  go_enter Tryz.func39, Tryz.ntmps39
  go_wp2_with fail
  refine (markText_any S.length _ (by omega)).mono ?_
  rintro r w9 ⟨rfl, hbm⟩
  have HBW := hideM (HBW.out.trans (hbm.mono HBW.out.size))
  have HO0 := hideM (hbm.mono (show B0 ≤ wr.heap.size by omega))
  have ZW9 : w0.heap.size ≤ w9.heap.size := HBW.out.size
  clear hbm
  generalize hz : markS S.length = z
  have HZ := hideM hz
  have HMK := hideM (HMK.out w9 z)
  clear hz cb
  go_wp2
  refine wp_loop_rounds 1 ?_
  rw [rounds_succ]
  go_wp2_with (at_builtin; refine wpList_append_grows _ rfl (.tmp 25) (.tmp 27) 27 rfl 9 i0 (.string ⟨#[]⟩) 1 16 Tryz.underlying27 hi hz0 hz1 hz2 rfl (by decide) none j j (List.replicate j (.string z)) rfl ?n1 (by simp) ?o1 ⟨w9.heap.size, 0, none⟩ 1 1 [.string z] rfl rfl ?p1 ?q1 (by omega) ?r1 ?s1 ?_)
  case n1 => exact HJ.out
  case o1 => intro b hb; cases hb
  case p1 => exact list_new _ #[.string z] _
  case q1 => intro u hu; simp at hu; subst hu; rfl
  case r1 => unfold maxLen; omega
  case s1 => omega
  intro v1 w2 ho1 hg1
  have Z1 := hg1.size
  simp at Z1
  have K1 := hideM (Below.grown (B := w9.heap.size) ((Below.refl _ w9).alloc (Nat.le_refl _) _) hg1 (by simp) (fun _ h => by cases h) : Below w9.heap.size w9 w2)
  have O1 := hideM (show w2.ownsRow 0 9 1 v1 (j + 1) (List.replicate (j + 1) (.string z)) from ⟨by simp, ho1.2.elim Or.inl (fun ⟨g', c', cur, a1, a2, a3, a4, a5, a6, a7⟩ => Or.inr ⟨g', c', cur, a1, Nat.zero_le _, a3, a4, a5, a6, by rw [a7]; exact List.replicate_succ'.symm⟩)⟩)
  obtain ⟨g1, k1, hv1⟩ := owns_someM O1.out (by omega)
  rw [hv1] at O1 ⊢
  clear hv1 ho1 hg1
  go_wp2_with (at_builtin; refine wpList_append_grows _ rfl (.tmp 29) (.tmp 32) 27 rfl 9 i0 (.string ⟨#[]⟩) 1 16 Tryz.underlying27 hi hz0 hz1 hz2 rfl (by decide) none j j (List.replicate j (.string z)) rfl ?n2 (by simp) ?o2 ⟨w2.heap.size, 0, none⟩ 2 2 [.string z, .string z] rfl rfl ?p2 ?q2 (by omega) ?r2 ?s2 ?_)
  case n2 => exact HJ.out
  case o2 => intro b hb; cases hb
  case p2 => exact list_new _ #[.string z, .string z] _
  case q2 => intro u hu; simp at hu; subst hu; rfl
  case r2 => unfold maxLen; omega
  case s2 => omega
  intro v2 w3 ho2 hg2
  have Z2 := hg2.size
  simp at Z2
  have K2 := hideM (Below.grown (B := w2.heap.size) ((Below.refl _ w2).alloc (Nat.le_refl _) _) hg2 (by simp) (fun _ h => by cases h) : Below w2.heap.size w2 w3)
  have O2 := hideM (show w3.ownsRow 0 9 1 v2 (j + 2) (List.replicate (j + 2) (.string z)) from ⟨by simp, ho2.2.elim Or.inl (fun ⟨g', c', cur, a1, a2, a3, a4, a5, a6, a7⟩ => Or.inr ⟨g', c', cur, a1, Nat.zero_le _, a3, a4, a5, a6, by rw [a7]; simp [List.replicate_succ']⟩)⟩)
  obtain ⟨g2, k2, hv2⟩ := owns_someM O2.out (by omega)
  rw [hv2] at O2 ⊢
  clear hv2 ho2 hg2
  go_wp2_with (at_builtin; refine wpList_append_grows _ rfl (.tmp 34) (.tmp 38) 27 rfl 9 i0 (.string ⟨#[]⟩) 1 16 Tryz.underlying27 hi hz0 hz1 hz2 rfl (by decide) none j j (List.replicate j (.string z)) rfl ?n3 (by simp) ?o3 ⟨w3.heap.size, 0, none⟩ 3 3 [.string z, .string z, .string z] rfl rfl ?p3 ?q3 (by omega) ?r3 ?s3 ?_)
  case n3 => exact HJ.out
  case o3 => intro b hb; cases hb
  case p3 => exact list_new _ #[.string z, .string z, .string z] _
  case q3 => intro u hu; simp at hu; subst hu; rfl
  case r3 => unfold maxLen; omega
  case s3 => omega
  intro v3 w4 ho3 hg3
  have Z3 := hg3.size
  simp at Z3
  have K3 := hideM (Below.grown (B := w3.heap.size) ((Below.refl _ w3).alloc (Nat.le_refl _) _) hg3 (by simp) (fun _ h => by cases h) : Below w3.heap.size w3 w4)
  have O3 := hideM (show w4.ownsRow 0 9 1 v3 (j + 3) (List.replicate (j + 3) (.string z)) from ⟨by simp, ho3.2.elim Or.inl (fun ⟨g', c', cur, a1, a2, a3, a4, a5, a6, a7⟩ => Or.inr ⟨g', c', cur, a1, Nat.zero_le _, a3, a4, a5, a6, by rw [a7]; simp [List.replicate_succ']⟩)⟩)
  obtain ⟨g3, k3, hv3⟩ := owns_someM O3.out (by omega)
  rw [hv3] at O3 ⊢
  clear hv3 ho3 hg3
  have KK := hideM ((K1.out.trans (K2.out.mono (by omega))).trans (K3.out.mono (by omega)) : Below w9.heap.size w9 w4)
  have KW := hideM (HBW.out.trans (KK.out.mono (by omega)) : Below w0.heap.size w0 w4)
  have HB4 := hideM (HB.out.below KW.out)
  have M0 := hideM (markT_keep HMK.out (fun q _ hq => KK.out.block q (lt_of_block hq)))
  have M1 := hideM (markT_keep (markT_owns O1.out (by omega)) (fun q _ hq => (K2.out.trans (K3.out.mono (by omega))).block q (lt_of_block hq)))
  have M2 := hideM (markT_keep (markT_owns O2.out (by omega)) (fun q _ hq => K3.out.block q (lt_of_block hq)))
  have M3 := hideM (markT_owns O3.out (by omega))
  have cb : w4.cell? ⟨bk, 1, none⟩ = some (.slice ao S.length cap) := by have := HB4.out.blk; simp [World.cell?, this]
  have hbk4 := lt_of_block HB4.out.blk
  have HBK := hideM hbk4
  clear hbk4
  go_wp2_with (at_builtin; refine wpList_append_lies _ rfl (.tmp 44) (.tmp 49) 32 rfl B 27 i1 (.slice none 0 0) 1 24 Tryz.underlying32 hi' hz0' hz1' hz2' rfl (by decide) _ _ _ rfl (HB4.out.row.alloc _) ⟨w4.heap.size, 0, none⟩ 4 4 [.slice none j j, .slice (some ⟨g1, 0, none⟩) (j + 1) k1, .slice (some ⟨g2, 0, none⟩) (j + 2) k2, .slice (some ⟨g3, 0, none⟩) (j + 3) k3] rfl rfl ?l1 ?l2 (by omega) ?l3 ?l4 ?l5 (w4.heap.size + 1) (by simp) ?_)
  case l1 => exact list_new _ #[.slice none j j, .slice (some ⟨g1, 0, none⟩) (j + 1) k1, .slice (some ⟨g2, 0, none⟩) (j + 2) k2, .slice (some ⟨g3, 0, none⟩) (j + 3) k3] _
  case l2 => intro u hu; simp at hu; rcases hu with rfl | rfl | rfl | rfl <;> rfl
  case l3 => unfold maxLen; omega
  case l4 => omega
  case l5 => have := KW.out.size; simp; omega
  intro g5 cap5 w5 ho5 hg5 hat hlt5
  have HO5 := hideM ho5
  have HG5 := hideM hg5
  have MORE := hideM (BookT.more HB4.out h4 (by rw [HZ.out]; exact M0.out) (by rw [HZ.out]; exact M1.out) (by rw [HZ.out]; exact M2.out) (by rw [HZ.out]; exact M3.out) _ HO5.out HG5.out (by omega))
  clear ho5 hg5
  have KEEP := hideM (show ∀ q, q < w4.heap.size → (Value.slice ao S.length cap).ownBlock ≠ some q → w5.heap[q]? = w4.heap[q]? from fun q hq hne => by
    rw [HG5.out.block q (by simp; omega) (fun e => hne e.symm)]
    exact Below.heap_alloc _ _ _ hq)
  have OWN := hideM (show ∀ q, (Value.slice ao S.length cap).ownBlock = some q → B ≤ q from fun q hq => (owns_ltM HB4.out.row q hq).1)
  have NBK := hideM (show (Value.slice ao S.length cap).ownBlock ≠ some bk from fun e => by
    rcases HB4.out.row.2 with ⟨h, _⟩ | ⟨gg, cc, cur, h, _, hh, _⟩
    · rw [h] at e; simp [Value.ownBlock] at e
    · rw [h] at e; simp only [Value.ownBlock, Option.some.injEq] at e; subst e; rw [HB4.out.blk] at hh; simp at hh)
  have c5 : w5.cell? ⟨bk, 1, none⟩ = some (.slice ao S.length cap) := by
    have h1 := KEEP.out bk HBK.out NBK.out
    have h2 := HB4.out.blk
    rw [← h1] at h2
    simp [World.cell?, h2]
  have f5 : w5.frozen? ⟨bk, 1, none⟩ = false := by
    have h1 := KEEP.out bk HBK.out NBK.out
    have h2 := HB4.out.blk
    rw [← h1] at h2
    simp [World.frozen?, h2]
  have Z5 := HG5.out.size
  simp at Z5
  clear cb hat
  go_wp2
  go_end0
  refine ⟨rfl, _, _, MORE.out, by simp, ?_, ?_, ?_⟩
  · refine Below.setCell (HO0.out.trans ((KK.out.mono (by omega)).trans ?_)) (by simpa using b2) _
    exact ((Below.refl B0 w4).alloc (by omega) _).grown HG5.out (by simp; omega) (fun q hq => Nat.le_trans b1 (OWN.out q hq))
  · intro q hq hqb hqo
    rw [Below.heap_setCell _ _ _ _ hqb, KEEP.out q (by omega) hqo]
    exact KW.out.block q hq
  · have h0 := HO0.out.size
    have h1 := KK.out.size
    simp only [World.size_setCell]
    omega

set_option maxRecDepth 20000 in
theorem keepT_nil (B0 B bk : Nat) (v : Value) (S : List Value) (w0 wr : World) (hB : BookT w0 B bk v S) (h4 : S.length % 4 = 0) (hS : S.length ≤ 90) (hb : Below w0.heap.size w0 wr) (b1 : B0 ≤ B) (b2 : B0 ≤ bk) (b3 : B0 ≤ w0.heap.size) (b4 : B ≤ w0.heap.size) :
    Calls Tryz.prog 39 #[.pointer (some ⟨bk, 0, none⟩), .slice none 0 0] wr fun r w' =>
      r = .returned (.tuple #[]) ∧ ∃ v' S', BookT w' B bk v' S' ∧ S'.length = S.length + 4 ∧ Below B0 wr w' ∧ (∀ q, q < w0.heap.size → q ≠ bk → v.ownBlock ≠ some q → w'.heap[q]? = w0.heap[q]?) ∧ wr.heap.size ≤ w'.heap.size :=
  keepT_nil_at B0 B bk 0 v S w0 wr rfl hB h4 hS hb b1 b2 b3 b4
end Go.Proofs.YtgaoeoijdpdjiabGreatDoor
