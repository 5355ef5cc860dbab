/-
  The statement's own value and lesser. The program's RootBy: from a signature's values of one layer up to the root. The program's IsLeaf, IsTree, IsChain. Small facts about sets, seeds, places. The place of a tree. No record was found.
-/
import Derived.Test.YtgaoeoijdpdjiabGreatDoorPart8
import Derived.Test.YtgaoeoijdpdjiabGreatDoorPart35
import Derived.Test.YtgaoeoijdpdjiabGreatDoorPart6
import Derived.Test.YtgaoeoijdpdjiabGreatDoorPart25
import Derived.Test.YtgaoeoijdpdjiabGreatDoorPart23
import Derived.Test.YtgaoeoijdpdjiabGreatDoorPart28
import Derived.Test.YtgaoeoijdpdjiabGreatDoorPart12
import Derived.Test.YtgaoeoijdpdjiabGreatDoorPart4
namespace Go.Proofs.YtgaoeoijdpdjiabGreatDoor
open Go.RowKit
theorem valN_most (s : ByteArray) (i : Nat) : ∀ m, m ≤ 4 → valN s i m < 256 ^ m := by
  intro m hm
  induction m with
  | zero => simp [valN]
  | succ m ih =>
    have h := ih (by omega)
    have hb := byt_lt s (i + m)
    rw [valN, Nat.pow_succ]
    omega
set_option maxRecDepth 20000 in
set_option maxHeartbeats 2000000 in
theorem kvalue_on (s : ByteArray) (w : World) (h : 4 ≤ s.size) :
    Calls Tryz.prog 53 #[.string s, .int .i64 4] w fun e w' => e = .returned (.int .i64 ((valN s 0 4 : Nat) : Int)) ∧ Below w.heap.size w w' := by
  go_enter Tryz.func53, Tryz.ntmps53
  go_wp2_with fail
  go_loopw [5, 6] (fun v i wr => ∃ m : Nat, m ≤ 4 ∧ i = .int .i64 m ∧ v = .int .i64 ((valN s 0 m : Nat) : Int) ∧ Hid (Below w.heap.size w wr)) (fun _ i _ => 4 - (intOf i).toNat)
  case atStart => exact ⟨0, Nat.zero_le _, rfl, rfl, Below.refl _ _⟩
  case round =>
    obtain ⟨m, hm, rfl, rfl, hb⟩ := hrel
    by_cases hlt : m < 4
    · have hms : (m : Int) < 4 := by omega
      have hml : (m : Int) < (s.size : Int) := by omega
      have hix := idxV s m (by omega)
      have hbt := byt_lt s m
      have hv := valN_most s 0 m (by omega)
      have hp : 256 ^ m ≤ 16777216 := Nat.le_trans (Nat.pow_le_pow_right (by decide) (show m ≤ 3 by omega)) (by decide)
      have HN : Hid (((valN s 0 (m + 1) : Nat) : Int) = ((valN s 0 m : Nat) : Int) * 256 + ((byt s m : Nat) : Int)) := by
        show ((valN s 0 (m + 1) : Nat) : Int) = _
        rw [valN, Nat.zero_add]
        omega
      generalize valN s 0 m = vv at hv HN ⊢
      generalize byt s m = bb at hix hbt HN ⊢
      have w1 : IntKind.i64.wrap ((vv : Int) * 256) = (vv : Int) * 256 := by rw [IntKind.wrap_i64] <;> omega
      have w2 : IntKind.i64.wrap (bb : Int) = (bb : Int) := by rw [IntKind.wrap_i64] <;> omega
      have w3 : IntKind.i64.wrap ((vv : Int) * 256 + (bb : Int)) = (vv : Int) * 256 + (bb : Int) := by rw [IntKind.wrap_i64] <;> omega
      clear hv hp hbt h
      go_wp2
      go_roundw
      case rel =>
        have R : ∃ m' : Nat, m' ≤ 4 ∧ Value.int .i64 ((m : Int) + 1) = .int .i64 m' ∧ Value.int .i64 ((vv : Int) * 256 + (bb : Int)) = .int .i64 ((valN s 0 m' : Nat) : Int) ∧ Hid (Below w.heap.size w wr) := ⟨m + 1, by omega, by go_num, by rw [HN.out], hb.out⟩
        first | exact R | ((repeat apply Exists.intro); exact ⟨R, rfl⟩)
      case measure => simp [intOf]; omega
    · obtain rfl : m = 4 := by omega
      go_wp2
      go_ret
      exact ⟨rfl, hb.out⟩
set_option maxRecDepth 20000 in
theorem lesser_any (a b : Int) (w : World) : Calls Tryz.prog 32 #[.int .i64 a, .int .i64 b] w fun e w' => e = .returned (.int .i64 (if a < b then a else b)) ∧ Below w.heap.size w w' := by
  by_cases h : a < b
  · rw [if_pos h]
    go_enter Tryz.func32, Tryz.ntmps32
    go_wp2
    go_ret
    exact ⟨rfl, Below.refl _ _⟩
  · rw [if_neg h]
    go_enter Tryz.func32, Tryz.ntmps32
    go_wp2
    go_ret
    exact ⟨rfl, Below.refl _ _⟩
end Go.Proofs.YtgaoeoijdpdjiabGreatDoor

namespace Go.Proofs.YtgaoeoijdpdjiabGreatDoor
open Go.RowKit
/-- The ends of the chains, from the values on. -/
def endsV (k b : Int) (x : Nat) (pub : ByteArray) (p0 p1 F : Int) (ds : List Nat) (vs : List ByteArray) (n : Nat) : List ByteArray := (List.range n).map fun (i : Nat) => chainS k b pub p0 p1 F i ((ds[i]?.getD 0 : Nat) : Int) (x - 1 - ds[i]?.getD 0) (vs[i]?.getD ⟨#[]⟩)
theorem endsV_succ (k b : Int) (x : Nat) (pub : ByteArray) (p0 p1 F : Int) (ds : List Nat) (vs : List ByteArray) (n : Nat) : endsV k b x pub p0 p1 F ds vs (n + 1) = endsV k b x pub p0 p1 F ds vs n ++ [chainS k b pub p0 p1 F n ((ds[n]?.getD 0 : Nat) : Int) (x - 1 - ds[n]?.getD 0) (vs[n]?.getD ⟨#[]⟩)] := by simp [endsV, List.range_succ]
theorem endsV_length (k b : Int) (x : Nat) (pub : ByteArray) (p0 p1 F : Int) (ds : List Nat) (vs : List ByteArray) (n : Nat) : (endsV k b x pub p0 p1 F ds vs n).length = n := by simp [endsV]
theorem endsV_size (k b : Int) (x : Nat) (pub : ByteArray) (p0 p1 F : Int) (ds : List Nat) (vs : List ByteArray) (hk : k = 1 ∨ k = 2) (h1 : 1 ≤ b) (h2 : b ≤ 16) (hp : pub.size ≤ 16) (hv : ∀ y ∈ vs, (y.size : Int) = b) : ∀ y ∈ endsV k b x pub p0 p1 F ds vs vs.length, (y.size : Int) = b := by
  intro y hy
  simp only [endsV, List.mem_map, List.mem_range] at hy
  obtain ⟨i, hi, rfl⟩ := hy
  refine chainS_size k b pub p0 p1 F i _ _ _ hk h1 h2 hp ?_
  rw [List.getElem?_eq_getElem hi]
  exact hv _ (List.getElem_mem hi)
/-- The root to which one layer's parts lead. -/
def rootS (k b : Int) (x : Nat) (pub : ByteArray) (p0 p1 : Int) (F : Nat) (ds : List Nat) (vs path : List ByteArray) : ByteArray := climbS k b pub p0 p1 F path (foldS k b pub p0 p1 F 6 0 (endsV k b x pub p0 p1 F ds vs vs.length)) path.length
theorem rootS_size (k b : Int) (x : Nat) (pub : ByteArray) (p0 p1 : Int) (F : Nat) (ds : List Nat) (vs path : List ByteArray) (hk : k = 1 ∨ k = 2) (h1 : 1 ≤ b) (h2 : b ≤ 16) (hp : pub.size ≤ 16) (hn : 1 ≤ vs.length) (hv : ∀ y ∈ vs, (y.size : Int) = b) (hq : ∀ y ∈ path, (y.size : Int) = b) : ((rootS k b x pub p0 p1 F ds vs path).size : Int) = b :=
  climbS_size k b pub p0 p1 F path _ hk h1 h2 hp (foldS_size k b pub p0 p1 F hk h1 h2 hp 6 0 _ (by rw [endsV_length]; exact hn) (endsV_size k b x pub p0 p1 F ds vs hk h1 h2 hp hv)) hq path.length (Nat.le_refl _)
set_option maxRecDepth 20000 in
set_option maxHeartbeats 8000000 in
theorem rootBy_any (k b t l : Int) (x : Nat) (pub : ByteArray) (p0 p1 p3 : Int) (F : Nat) (gd od cd gv ov cv gp op cp : Nat) (ds : List Nat) (vs path : List ByteArray) (w : World) (hk : k = 1 ∨ k = 2) (h1 : 1 ≤ b) (h2 : b ≤ 16) (hp : pub.size ≤ 16) (hx : x ≤ 16) (hF : F ≤ 1000)
    (hn1 : 1 ≤ vs.length) (hn : vs.length ≤ 64) (hdn : ds.length = vs.length) (hdx : ∀ d ∈ ds, d < x) (hvs : ∀ y ∈ vs, (y.size : Int) = b) (hpn : path.length ≤ 64) (hps : ∀ y ∈ path, (y.size : Int) = b)
    (gd1 : gd < w.heap.size) (gd2 : ∀ (j : Nat) d, ds[j]? = some d → w.cell? ⟨gd, od + j, none⟩ = some (.int .i64 (d : Nat)))
    (gv1 : gv < w.heap.size) (gv2 : ∀ (j : Nat) y, vs[j]? = some y → w.cell? ⟨gv, ov + j, none⟩ = some (.string y))
    (gp1 : gp < w.heap.size) (gp2 : ∀ (j : Nat) y, path[j]? = some y → w.cell? ⟨gp, op + j, none⟩ = some (.string y)) (hT : Tn w) :
    Calls Tryz.prog 242 #[.agg #[.int .i64 k, .int .i64 b, .int .i64 x, .int .i64 t, .int .i64 l], .string pub, .agg #[.int .i64 p0, .int .i64 p1, .int .i64 F, .int .i64 p3], .slice (some ⟨gd, od, none⟩) vs.length cd, .slice (some ⟨gv, ov, none⟩) vs.length cv, .slice (some ⟨gp, op, none⟩) path.length cp] w fun e w' => e = .returned (.string (rootS k b x pub p0 p1 F ds vs path)) ∧ Below w.heap.size w w' := by
  have HCH := hide (fun (m d : Nat) (y : ByteArray) (hd : d < x) (hy : (y.size : Int) = b) (V : World) (hV : Tn V) => (by
    have h := schain_any k b x t l pub p0 p1 F m d (x - 1 - d) y V hk h1 h2 hp hy (by omega) hV
    rw [show ((d + (x - 1 - d) : Nat) : Int) = (x : Int) - 1 by omega] at h
    exact h : Calls Tryz.prog 285 #[.agg #[.int .i64 k, .int .i64 b, .int .i64 x, .int .i64 t, .int .i64 l, .string pub, .int .i64 p0, .int .i64 p1, .int .i64 F, .int .i64 m], .int .i64 d, .int .i64 ((x : Int) - 1), .string y] V fun e w' => e = .returned (.string (chainS k b pub p0 p1 F m d (x - 1 - d) y)) ∧ Below V.heap.size V w'))
  have HFO := hide (fun (V : World) (g : Nat) (hV : Tn V) (hg : Blk V g ((endsV k b x pub p0 p1 F ds vs vs.length).map Value.string) 9) => (by
    have h := sfold_any k b x t l pub p0 p1 F p3 g 0 vs.length (endsV k b x pub p0 p1 F ds vs vs.length) V (by
      intro j y hj
      rw [Nat.zero_add, hg.cell, List.getElem?_map, hj]
      rfl) hg.lt (by rw [endsV_length]; exact Nat.le_refl _) (by rw [endsV_length]; exact hn) (by rw [endsV_length]; exact hn1) hk h1 h2 hp (endsV_size k b x pub p0 p1 F ds vs hk h1 h2 hp hvs) hV
    rw [endsV_length] at h
    exact h : Calls Tryz.prog 270 #[.agg #[.int .i64 k, .int .i64 b, .int .i64 x, .int .i64 t, .int .i64 l, .string pub, .int .i64 p0, .int .i64 p1, .int .i64 F, .int .i64 p3], .slice (some ⟨g, 0, none⟩) vs.length vs.length] V fun e w' => e = .returned (.string (foldS k b pub p0 p1 F 6 0 (endsV k b x pub p0 p1 F ds vs vs.length))) ∧ Below V.heap.size V w'))
  have HCL := hide (fun (V : World) (hV : Tn V) (hb : Below w.heap.size w V) => sclimb_any k b x t l pub p0 p1 p3 F gp op cp path (foldS k b pub p0 p1 F 6 0 (endsV k b x pub p0 p1 F ds vs vs.length)) V (fun j z hj => (hb.cell (p := ⟨gp, op + j, none⟩) gp1).trans (gp2 j z hj)) (Nat.lt_of_lt_of_le gp1 hb.size) hpn hF hk h1 h2 hp (foldS_size k b pub p0 p1 F hk h1 h2 hp 6 0 _ (by rw [endsV_length]; exact hn1) (endsV_size k b x pub p0 p1 F ds vs hk h1 h2 hp hvs)) hps hV)
  have HES := hide (fun m => endsV_succ k b x pub p0 p1 F ds vs m)
  have HEL := hide (fun m => endsV_length k b x pub p0 p1 F ds vs m)
  have HDX := hide hdx
  have HVS := hide hvs
  have HGD := hide gd2
  have HGV := hide gv2
  unfold rootS
  generalize climbS k b pub p0 p1 F path (foldS k b pub p0 p1 F 6 0 (endsV k b x pub p0 p1 F ds vs vs.length)) path.length = rr at HCL ⊢
  generalize foldS k b pub p0 p1 F 6 0 (endsV k b x pub p0 p1 F ds vs vs.length) = ff at HFO HCL
  obtain ⟨N, hN⟩ : ∃ N, vs.length = N := ⟨_, rfl⟩
  obtain ⟨M, hM⟩ : ∃ M, path.length = M := ⟨_, rfl⟩
  have hmk := makeStr vs.length (by omega)
  rw [hN] at hmk hn hn1 hdn HFO ⊢
  rw [hM] at HCL ⊢
  have HN := hide hN
  clear hN hM gd2 gv2 gp2 hdx hvs hps hpn
  obtain ⟨WT, hWT⟩ : ∃ WT, ((w.alloc (.cells #[.int .i64 k, .int .i64 b, .int .i64 x, .int .i64 t, .int .i64 l] 26)).alloc (.cells #[.int .i64 p0, .int .i64 p1, .int .i64 F, .int .i64 p3] 91)).alloc (.cells #[.int .i64 k, .int .i64 b, .int .i64 x, .int .i64 t, .int .i64 l, .string pub, .int .i64 p0, .int .i64 p1, .int .i64 F, .int .i64 p3] 344) = WT := ⟨_, rfl⟩
  have HWS := hide (show Blk WT w.heap.size [.int .i64 k, .int .i64 b, .int .i64 x, .int .i64 t, .int .i64 l] 26 by rw [← hWT]; exact ((Blk.new w _ _).alloc _).alloc _)
  have HWP := hide (show Blk WT (w.heap.size + 1) [.int .i64 p0, .int .i64 p1, .int .i64 F, .int .i64 p3] 91 by
    rw [← hWT]
    have h := (Blk.new (w.alloc (.cells #[.int .i64 k, .int .i64 b, .int .i64 x, .int .i64 t, .int .i64 l] 26)) [.int .i64 p0, .int .i64 p1, .int .i64 F, .int .i64 p3] 91).alloc (.cells #[.int .i64 k, .int .i64 b, .int .i64 x, .int .i64 t, .int .i64 l, .string pub, .int .i64 p0, .int .i64 p1, .int .i64 F, .int .i64 p3] 344)
    simp only [World.size_alloc] at h
    exact h)
  have HWQ := hide (show Blk WT (w.heap.size + 1 + 1) [.int .i64 k, .int .i64 b, .int .i64 x, .int .i64 t, .int .i64 l, .string pub, .int .i64 p0, .int .i64 p1, .int .i64 F, .int .i64 p3] 344 by
    rw [← hWT]
    have h := Blk.new ((w.alloc (.cells #[.int .i64 k, .int .i64 b, .int .i64 x, .int .i64 t, .int .i64 l] 26)).alloc (.cells #[.int .i64 p0, .int .i64 p1, .int .i64 F, .int .i64 p3] 91)) [.int .i64 k, .int .i64 b, .int .i64 x, .int .i64 t, .int .i64 l, .string pub, .int .i64 p0, .int .i64 p1, .int .i64 F, .int .i64 p3] 344
    simp only [World.size_alloc] at h
    exact h)
  have hzT : WT.heap.size = w.heap.size + 1 + 1 + 1 := by rw [← hWT]; simp
  have HB := hide (show Below w.heap.size w WT by rw [← hWT]; exact (((Below.refl _ _).alloc (Nat.le_refl _) _).alloc (by simp) _).alloc (by simp; omega) _)
  have hpos := hT.pos
  have HTT := hide (hT.on HB.out)
  have HTB := hide (fun (V : World) (h : Below (w.heap.size + 1) WT V) => HTT.out.below h (by omega))
  have HW3 := hide (show Blk (WT.alloc (.cells (Array.replicate N (Value.string ⟨#[]⟩)) 9)) (w.heap.size + 1 + 1 + 1) (List.replicate N (Value.string ⟨#[]⟩)) 9 ∧ Below (w.heap.size + 1) WT (WT.alloc (.cells (Array.replicate N (Value.string ⟨#[]⟩)) 9)) ∧ Blk (WT.alloc (.cells (Array.replicate N (Value.string ⟨#[]⟩)) 9)) (w.heap.size + 1) [.int .i64 p0, .int .i64 p1, .int .i64 F, .int .i64 p3] 91 ∧ Blk (WT.alloc (.cells (Array.replicate N (Value.string ⟨#[]⟩)) 9)) (w.heap.size + 1 + 1) [.int .i64 k, .int .i64 b, .int .i64 x, .int .i64 t, .int .i64 l, .string pub, .int .i64 p0, .int .i64 p1, .int .i64 F, .int .i64 p3] 344 by
    refine ⟨?_, (Below.refl _ _).alloc (by omega) _, HWP.out.alloc _, HWQ.out.alloc _⟩
    have h := Blk.new WT (List.replicate N (Value.string ⟨#[]⟩)) 9
    rw [hzT, List.toArray_replicate] at h; exact h)
  clear hT
  have HWE := hide hWT
  clear hWT
  go_enter Tryz.func242, Tryz.ntmps242
  go_wp2_with fail
  rw [HWE.out]
  obtain ⟨W3, hW3⟩ : ∃ W3, WT.alloc (.cells (Array.replicate N (Value.string ⟨#[]⟩)) 9) = W3 := ⟨_, rfl⟩
  rw [hW3] at HW3 ⊢
  clear hW3 hmk HWE
  go_loopw [26] (fun i wr => ∃ (m : Nat) (z : Int), m ≤ N ∧ i = .int .i64 m ∧ Hid (Blk wr (w.heap.size + 1) [.int .i64 p0, .int .i64 p1, .int .i64 F, .int .i64 z] 91) ∧ Hid (Blk wr (w.heap.size + 1 + 1) [.int .i64 k, .int .i64 b, .int .i64 x, .int .i64 t, .int .i64 l, .string pub, .int .i64 p0, .int .i64 p1, .int .i64 F, .int .i64 p3] 344) ∧ Hid (Blk wr (w.heap.size + 1 + 1 + 1) ((endsV k b x pub p0 p1 F ds vs m).map Value.string ++ List.replicate (N - m) (Value.string ⟨#[]⟩)) 9) ∧ Hid (Below (w.heap.size + 1) WT wr)) (fun i _ => N - (intOf i).toNat)
  case atStart => exact ⟨0, p3, Nat.zero_le _, rfl, HW3.out.2.2.1, HW3.out.2.2.2, show Blk _ _ _ _ by simpa [endsV] using HW3.out.1, HW3.out.2.1⟩
  case round =>
    obtain ⟨m, z, hm, rfl, hat, hsp, hen, hb⟩ := hrel
    by_cases hlt : m < N
    · obtain ⟨dd, hdd⟩ : ∃ dd, ds[m]? = some dd := ⟨_, List.getElem?_eq_getElem (by omega)⟩
      obtain ⟨yy, hyy⟩ : ∃ yy, vs[m]? = some yy := ⟨_, List.getElem?_eq_getElem (by rw [HN.out]; exact hlt)⟩
      have hdb : dd < x := HDX.out dd (List.mem_of_getElem? hdd)
      have hyb := HVS.out yy (List.mem_of_getElem? hyy)
      have HBW := hide (HB.out.trans (hb.out.mono (by omega)))
      have cv : wr.cell? ⟨gv, ov + m, none⟩ = some (.string yy) := (HBW.out.cell (p := ⟨gv, ov + m, none⟩) gv1).trans (HGV.out m yy hyy)
      have HCD := hide (show wr.cell? ⟨gd, od + m, none⟩ = some (.int .i64 dd) from (HBW.out.cell (p := ⟨gd, od + m, none⟩) gd1).trans (HGD.out m dd hdd))
      have H4 := hide (HCH.out m dd yy hdb hyb)
      have HES1 := hide (show endsV k b x pub p0 p1 F ds vs (m + 1) = endsV k b x pub p0 p1 F ds vs m ++ [chainS k b pub p0 p1 F m (dd : Nat) (x - 1 - dd) yy] by rw [HES.out m, hdd, hyy]; rfl)
      generalize chainS k b pub p0 p1 F m (dd : Nat) (x - 1 - dd) yy = cS at H4 HES1
      clear hdd hyy hyb HBW
      obtain ⟨V0, hV0⟩ : ∃ V0, wr.setCell ⟨w.heap.size + 1, 3, none⟩ (.int .i64 m) = V0 := ⟨_, rfl⟩
      have HBV := hide (show Below (w.heap.size + 1) WT V0 by rw [← hV0]; exact hb.out.setCell (p := ⟨w.heap.size + 1, 3, none⟩) (Nat.le_refl _) _)
      have HAV := hide (show Blk V0 (w.heap.size + 1) [.int .i64 p0, .int .i64 p1, .int .i64 F, .int .i64 m] 91 by rw [← hV0]; exact hat.out.set 3 _)
      have HPV := hide (show Blk V0 (w.heap.size + 1 + 1) [.int .i64 k, .int .i64 b, .int .i64 x, .int .i64 t, .int .i64 l, .string pub, .int .i64 p0, .int .i64 p1, .int .i64 F, .int .i64 p3] 344 by rw [← hV0]; exact hsp.out.other _ (by simp))
      have HEV := hide (show Blk V0 (w.heap.size + 1 + 1 + 1) ((endsV k b x pub p0 p1 F ds vs m).map Value.string ++ List.replicate (N - m) (Value.string ⟨#[]⟩)) 9 by rw [← hV0]; exact hen.out.other _ (by simp <;> omega))
      have HCV := hide (show V0.cell? ⟨gd, od + m, none⟩ = some (.int .i64 dd) by rw [← hV0]; exact (World.cell?_setCell_other _ _ _ _ (by simp <;> omega)).trans HCD.out)
      have a3' := hat.out.cell 3
      have fz := hat.out.free 3
      simp only [List.getElem?_cons_zero, List.getElem?_cons_succ] at a3'
      have HSV := hide (HWS.out.below HBV.out (by omega))
      have hgV : gd < V0.heap.size := by have := HBV.out.size; omega
      have HS := hide (fun (V : World) (h : Below V0.heap.size V0 V) => (by
        have q1 := HSV.out.on h
        have q2 := HAV.out.on h
        exact ⟨q1.cell 0, q1.cell 1, q1.cell 2, q1.cell 3, q1.cell 4, q2.cell 0, q2.cell 1, q2.cell 2, q2.cell 3, (h.cell (p := ⟨gd, od + m, none⟩) hgV).trans HCV.out⟩ : V.cell? ⟨w.heap.size, 0, none⟩ = some (.int .i64 k) ∧ V.cell? ⟨w.heap.size, 1, none⟩ = some (.int .i64 b) ∧ V.cell? ⟨w.heap.size, 2, none⟩ = some (.int .i64 x) ∧ V.cell? ⟨w.heap.size, 3, none⟩ = some (.int .i64 t) ∧ V.cell? ⟨w.heap.size, 4, none⟩ = some (.int .i64 l) ∧ V.cell? ⟨w.heap.size + 1, 0, none⟩ = some (.int .i64 p0) ∧ V.cell? ⟨w.heap.size + 1, 1, none⟩ = some (.int .i64 p1) ∧ V.cell? ⟨w.heap.size + 1, 2, none⟩ = some (.int .i64 F) ∧ V.cell? ⟨w.heap.size + 1, 3, none⟩ = some (.int .i64 m) ∧ V.cell? ⟨gd, od + m, none⟩ = some (.int .i64 dd)))
      have HS5 := hide (fun (V : World) (h : Below V0.heap.size V0 V) => (by
        have q1 := (HSV.out.on h).other (a := ⟨w.heap.size + 1 + 1 + 1, m, none⟩) (.string cS) (by simp <;> omega)
        have q2 := (HAV.out.on h).other (a := ⟨w.heap.size + 1 + 1 + 1, m, none⟩) (.string cS) (by simp <;> omega)
        exact ⟨q1.cell 0, q1.cell 1, q1.cell 2, q1.cell 3, q1.cell 4, q2.cell 0, q2.cell 1, q2.cell 2, q2.cell 3, (World.cell?_setCell_other _ _ _ _ (by simp <;> omega)).trans ((h.cell (p := ⟨gd, od + m, none⟩) hgV).trans HCV.out)⟩ : (V.setCell ⟨w.heap.size + 1 + 1 + 1, m, none⟩ (.string cS)).cell? ⟨w.heap.size, 0, none⟩ = some (.int .i64 k) ∧ (V.setCell ⟨w.heap.size + 1 + 1 + 1, m, none⟩ (.string cS)).cell? ⟨w.heap.size, 1, none⟩ = some (.int .i64 b) ∧ (V.setCell ⟨w.heap.size + 1 + 1 + 1, m, none⟩ (.string cS)).cell? ⟨w.heap.size, 2, none⟩ = some (.int .i64 x) ∧ (V.setCell ⟨w.heap.size + 1 + 1 + 1, m, none⟩ (.string cS)).cell? ⟨w.heap.size, 3, none⟩ = some (.int .i64 t) ∧ (V.setCell ⟨w.heap.size + 1 + 1 + 1, m, none⟩ (.string cS)).cell? ⟨w.heap.size, 4, none⟩ = some (.int .i64 l) ∧ (V.setCell ⟨w.heap.size + 1 + 1 + 1, m, none⟩ (.string cS)).cell? ⟨w.heap.size + 1, 0, none⟩ = some (.int .i64 p0) ∧ (V.setCell ⟨w.heap.size + 1 + 1 + 1, m, none⟩ (.string cS)).cell? ⟨w.heap.size + 1, 1, none⟩ = some (.int .i64 p1) ∧ (V.setCell ⟨w.heap.size + 1 + 1 + 1, m, none⟩ (.string cS)).cell? ⟨w.heap.size + 1, 2, none⟩ = some (.int .i64 F) ∧ (V.setCell ⟨w.heap.size + 1 + 1 + 1, m, none⟩ (.string cS)).cell? ⟨w.heap.size + 1, 3, none⟩ = some (.int .i64 m) ∧ (V.setCell ⟨w.heap.size + 1 + 1 + 1, m, none⟩ (.string cS)).cell? ⟨gd, od + m, none⟩ = some (.int .i64 dd)))
      have HVE := hide hV0
      clear hV0 HCD
      have hms : (m : Int) < (N : Int) := by omega
      have vx : IntKind.i64.wrap ((x : Int) - 1) = (x : Int) - 1 := by rw [IntKind.wrap_i64] <;> omega
      go_wp2_with fail
      rw [HVE.out]
      clear HVE a3' fz cv
      refine wp_region_held_drew (S := fun V => V.cell? ⟨w.heap.size, 0, none⟩ = some (.int .i64 k) ∧ V.cell? ⟨w.heap.size, 1, none⟩ = some (.int .i64 b) ∧ V.cell? ⟨w.heap.size, 2, none⟩ = some (.int .i64 x) ∧ V.cell? ⟨w.heap.size, 3, none⟩ = some (.int .i64 t) ∧ V.cell? ⟨w.heap.size, 4, none⟩ = some (.int .i64 l) ∧ V.cell? ⟨w.heap.size + 1, 0, none⟩ = some (.int .i64 p0) ∧ V.cell? ⟨w.heap.size + 1, 1, none⟩ = some (.int .i64 p1) ∧ V.cell? ⟨w.heap.size + 1, 2, none⟩ = some (.int .i64 F) ∧ V.cell? ⟨w.heap.size + 1, 3, none⟩ = some (.int .i64 m) ∧ V.cell? ⟨gd, od + m, none⟩ = some (.int .i64 dd)) (by kernel_rfl) (HS.out _ ((Below.refl V0.heap.size V0).drew)) (fun hHeld => ?_)
      refine tk 0 hHeld (h := ?_)
      refine tk 1 hHeld (h := ?_)
      refine tk 2 hHeld (h := ?_)
      refine tk 3 hHeld (h := ?_)
      refine tk 4 hHeld (h := ?_)
      refine tk 5 hHeld (h := ?_)
      refine tk 6 hHeld (h := ?_)
      refine tk 7 hHeld (h := ?_)
      refine tk 8 hHeld (h := ?_)
      refine tk 9 hHeld (h := ?_)
      refine tk 10 hHeld (h := ?_)
      refine tk 11 hHeld (h := ?_)
      refine tk 12 hHeld (h := ?_)
      refine tk 13 hHeld (h := ?_)
      refine wpAnyH_ready (rs := [14]) (by kernel_rfl) (by simp) ?_
      refine AllReadyH.cons (o := ?oa14) ?hoa14 (fun K hK => ?hsa14) AllReadyH.nil
      case hoa14 => (simp only [List.getElem?_toArray, List.getElem?_cons_succ, List.getElem?_cons_zero]; rfl)
      go_simp
      go_at_call 285
      refine (H4.out _ (HTB.out _ HBV.out.drew)).mono ?_
      rintro e w4 ⟨rfl, hb4⟩
      have HB4 := hide (heldN HBV.out.drew hb4 (by omega))
      have HE4 := hide ((HEV.out.below (Below.refl V0.heap.size V0).drew HEV.out.lt).on hb4)
      have HA4 := hide ((HAV.out.below (Below.refl V0.heap.size V0).drew HAV.out.lt).on hb4)
      have hS4 := heldB (Below.refl V0.heap.size V0).drew hb4 (Nat.le_refl _)
      have HS4 := hide hS4
      clear hb4 hS4
      try go_wp2_with fail
      refine hK.out _ _ (HS.out _ (HS4.out)) (fun hHeld => ?_)
      clear hK K
      try simp only [Act.put, List.setIfInBounds_toArray, List.set_cons_zero, List.set_cons_succ]
      refine tk 15 hHeld (h := ?_)
      have hl := HEL.out m
      have e0 : w4.cell? ⟨w.heap.size + 1 + 1 + 1, m, none⟩ = some (.string ⟨#[]⟩) := by rw [HE4.out.cell, List.getElem?_append_right (by simp [hl]), List.length_map, hl, Nat.sub_self, List.getElem?_replicate, if_pos (by omega)]
      have e1 := HE4.out.free m
      refine wpAnyH_ready (rs := [16]) (by kernel_rfl) (by simp) ?_
      refine AllReadyH.cons (o := ?oa16) ?hoa16 (fun K hK => ?hsa16) AllReadyH.nil
      case hoa16 => (simp only [List.getElem?_toArray, List.getElem?_cons_succ, List.getElem?_cons_zero]; rfl)
      go_simp
      refine hK.out _ _ (HS5.out _ HS4.out) (fun hHeld => ?_)
      clear hK K
      try simp only [Act.put, List.setIfInBounds_toArray, List.set_cons_zero, List.set_cons_succ]
      refine wpAnyH_done (by kernel_rfl) ?_ _
      have HEE := hide (show Blk (w4.setCell ⟨w.heap.size + 1 + 1 + 1, m, none⟩ (.string cS)) (w.heap.size + 1 + 1 + 1) ((endsV k b x pub p0 p1 F ds vs (m + 1)).map Value.string ++ List.replicate (N - (m + 1)) (Value.string ⟨#[]⟩)) 9 by
        have h := HE4.out.set m (.string cS)
        rw [List.set_append_right _ _ (by simp [hl]), List.length_map, hl, Nat.sub_self, show N - m = (N - (m + 1)) + 1 by omega, List.replicate_succ, List.set_cons_zero] at h
        rw [HES1.out, List.map_append, List.append_assoc]
        exact h)
      have HBE := hide (HB4.out.setCell (p := ⟨w.heap.size + 1 + 1 + 1, m, none⟩) (by simp <;> omega) (.string cS))
      have HAE := hide (HA4.out.other (a := ⟨w.heap.size + 1 + 1 + 1, m, none⟩) (.string cS) (by simp <;> omega))
      have HPE := hide ((HPV.out.on HS4.out).other (a := ⟨w.heap.size + 1 + 1 + 1, m, none⟩) (.string cS) (by simp))
      clear hl HES1 e0 e1
      go_wp2
      go_roundw
      case rel =>
        have R : ∃ (m' : Nat) (z : Int), m' ≤ N ∧ Value.int .i64 ((m : Int) + 1) = .int .i64 m' ∧ Hid (Blk (w4.setCell ⟨w.heap.size + 1 + 1 + 1, m, none⟩ (.string cS)) (w.heap.size + 1) [.int .i64 p0, .int .i64 p1, .int .i64 F, .int .i64 z] 91) ∧ Hid (Blk (w4.setCell ⟨w.heap.size + 1 + 1 + 1, m, none⟩ (.string cS)) (w.heap.size + 1 + 1) [.int .i64 k, .int .i64 b, .int .i64 x, .int .i64 t, .int .i64 l, .string pub, .int .i64 p0, .int .i64 p1, .int .i64 F, .int .i64 p3] 344) ∧ Hid (Blk (w4.setCell ⟨w.heap.size + 1 + 1 + 1, m, none⟩ (.string cS)) (w.heap.size + 1 + 1 + 1) ((endsV k b x pub p0 p1 F ds vs m').map Value.string ++ List.replicate (N - m') (Value.string ⟨#[]⟩)) 9) ∧ Hid (Below (w.heap.size + 1) WT (w4.setCell ⟨w.heap.size + 1 + 1 + 1, m, none⟩ (.string cS))) := ⟨m + 1, m, by omega, by go_num, HAE.out, HPE.out, HEE.out, HBE.out⟩
        first | exact R | ((repeat apply Exists.intro); exact ⟨R, rfl⟩)
      case measure => simp [intOf]; omega
    · obtain rfl : m = N := by omega
      have HEN := hide (show Blk wr (w.heap.size + 1 + 1 + 1) ((endsV k b x pub p0 p1 F ds vs m).map Value.string) 9 by
        have h := hen.out
        rw [Nat.sub_self, List.replicate_zero, List.append_nil] at h
        exact h)
      have HBW := hide (HB.out.trans (hb.out.mono (by omega)))
      have HS := hide (fun (V : World) (h : Below wr.heap.size wr V) => (by
        have q1 := hsp.out.on h
        exact ⟨q1.cell 0, q1.cell 1, q1.cell 2, q1.cell 3, q1.cell 4, q1.cell 5, q1.cell 6, q1.cell 7, q1.cell 8, q1.cell 9⟩ : V.cell? ⟨w.heap.size + 1 + 1, 0, none⟩ = some (.int .i64 k) ∧ V.cell? ⟨w.heap.size + 1 + 1, 1, none⟩ = some (.int .i64 b) ∧ V.cell? ⟨w.heap.size + 1 + 1, 2, none⟩ = some (.int .i64 x) ∧ V.cell? ⟨w.heap.size + 1 + 1, 3, none⟩ = some (.int .i64 t) ∧ V.cell? ⟨w.heap.size + 1 + 1, 4, none⟩ = some (.int .i64 l) ∧ V.cell? ⟨w.heap.size + 1 + 1, 5, none⟩ = some (.string pub) ∧ V.cell? ⟨w.heap.size + 1 + 1, 6, none⟩ = some (.int .i64 p0) ∧ V.cell? ⟨w.heap.size + 1 + 1, 7, none⟩ = some (.int .i64 p1) ∧ V.cell? ⟨w.heap.size + 1 + 1, 8, none⟩ = some (.int .i64 F) ∧ V.cell? ⟨w.heap.size + 1 + 1, 9, none⟩ = some (.int .i64 p3)))
      have HTW := hide (HTB.out _ hb.out)
      go_wp2_with fail
      go_region_held3 (fun V => V.cell? ⟨w.heap.size + 1 + 1, 0, none⟩ = some (.int .i64 k) ∧ V.cell? ⟨w.heap.size + 1 + 1, 1, none⟩ = some (.int .i64 b) ∧ V.cell? ⟨w.heap.size + 1 + 1, 2, none⟩ = some (.int .i64 x) ∧ V.cell? ⟨w.heap.size + 1 + 1, 3, none⟩ = some (.int .i64 t) ∧ V.cell? ⟨w.heap.size + 1 + 1, 4, none⟩ = some (.int .i64 l) ∧ V.cell? ⟨w.heap.size + 1 + 1, 5, none⟩ = some (.string pub) ∧ V.cell? ⟨w.heap.size + 1 + 1, 6, none⟩ = some (.int .i64 p0) ∧ V.cell? ⟨w.heap.size + 1 + 1, 7, none⟩ = some (.int .i64 p1) ∧ V.cell? ⟨w.heap.size + 1 + 1, 8, none⟩ = some (.int .i64 F) ∧ V.cell? ⟨w.heap.size + 1 + 1, 9, none⟩ = some (.int .i64 p3)) (first | exact HS.out _ hS2 | exact HS.out _ hS1 | exact HS.out _ (Below.refl wr.heap.size wr).drew) (first | (go_at_call 270; refine (HFO.out _ (w.heap.size + 1 + 1 + 1) (HTW.out.on (Below.refl wr.heap.size wr).drew) (HEN.out.on (Below.refl wr.heap.size wr).drew)).mono ?_; rintro e w5 ⟨rfl, hb5⟩; have hS1 := heldB (Below.refl wr.heap.size wr).drew hb5 (Nat.le_refl _)) | (go_at_call 286; refine (HCL.out _ (HTW.out.on hS1) (HBW.out.trans (hS1.mono HBW.out.size))).mono ?_; rintro e w6 ⟨rfl, hb6⟩; have hS2 := heldB hS1 hb6 (Nat.le_refl _)))
      have HB6 := hide (HBW.out.trans (hS2.mono HBW.out.size))
      clear hS1 hS2 hb5 hb6
      go_wp2
      go_ret
      exact ⟨rfl, HB6.out⟩
end Go.Proofs.YtgaoeoijdpdjiabGreatDoor

namespace Go.Proofs.YtgaoeoijdpdjiabGreatDoor
open Go.RowKit
set_option maxRecDepth 20000 in
set_option maxHeartbeats 2000000 in
theorem isLeaf_any (k b x : Int) (t l : Nat) (p0 p1 p2 p3 : Int) (w : World) (h1 : 1 ≤ t) (h2 : t ≤ 4) (h4 : l ≤ 3) :
    Calls Tryz.prog 306 #[.agg #[.int .i64 k, .int .i64 b, .int .i64 x, .int .i64 t, .int .i64 l], .agg #[.int .i64 p0, .int .i64 p1, .int .i64 p2, .int .i64 p3]] w fun e w' => e = .returned (.bool (leafB t l p0 p1 p2 && p3 == 0)) ∧ Below w.heap.size w w' := by
  have HL := hide (isLeafOf_any k b x t l p0 p1 p2 p3 ((w.alloc (.cells #[.int .i64 k, .int .i64 b, .int .i64 x, .int .i64 t, .int .i64 l] 26)).alloc (.cells #[.int .i64 p0, .int .i64 p1, .int .i64 p2, .int .i64 p3] 91)) h1 h2 h4)
  generalize leafB t l p0 p1 p2 = r at HL ⊢
  cases r with
  | false =>
    go_enter Tryz.func306, Tryz.ntmps306
    go_wp2_with fail
    refine HL.out.mono ?_
    rintro e w1 ⟨rfl, hb1⟩
    have HB1 := hide ((((Below.refl w.heap.size w).alloc (Nat.le_refl _) _).alloc (by simp) _).trans (hb1.mono (by simp; omega)))
    clear hb1
    go_wp2
    go_ret
    exact ⟨rfl, HB1.out⟩
  | true =>
    generalize hr : (p3 == 0) = r
    go_enter Tryz.func306, Tryz.ntmps306
    go_wp2_with fail
    refine HL.out.mono ?_
    rintro e w1 ⟨rfl, hb1⟩
    have d3 : w1.cell? ⟨w.heap.size + 1, 3, none⟩ = some (.int .i64 p3) := (hb1.cell (p := ⟨w.heap.size + 1, 3, none⟩) (by simp)).trans (by simp [go_sem])
    have HB1 := hide ((((Below.refl w.heap.size w).alloc (Nat.le_refl _) _).alloc (by simp) _).trans (hb1.mono (by simp; omega)))
    clear hb1
    go_wp2
    go_ret
    exact ⟨by simp, HB1.out⟩
end Go.Proofs.YtgaoeoijdpdjiabGreatDoor

namespace Go.Proofs.YtgaoeoijdpdjiabGreatDoor
open Go.RowKit
theorem pair_small {b x e f : Nat} (h : Pair b x e f) : 1 ≤ b ∧ b ≤ 16 ∧ 1 ≤ b * e + f ∧ b * e + f ≤ 64 ∧ 1 ≤ x ∧ x ≤ 16 := by
  rcases h with ⟨rfl, rfl, rfl, rfl⟩ | ⟨rfl, rfl, rfl, rfl⟩ | ⟨rfl, rfl, rfl, rfl⟩ | ⟨rfl, rfl, rfl, rfl⟩ <;> decide
end Go.Proofs.YtgaoeoijdpdjiabGreatDoor

namespace Go.Proofs.YtgaoeoijdpdjiabGreatDoor
open Go.RowKit
set_option maxRecDepth 20000 in
set_option maxHeartbeats 2000000 in
theorem isTree_any (k b x : Int) (t l : Nat) (p0 p1 p2 p3 : Int) (w : World) (h1 : 1 ≤ t) (h2 : t ≤ 4) (h4 : l ≤ 3) :
    Calls Tryz.prog 266 #[.agg #[.int .i64 k, .int .i64 b, .int .i64 x, .int .i64 t, .int .i64 l], .agg #[.int .i64 p0, .int .i64 p1, .int .i64 p2, .int .i64 p3]] w fun e w' => e = .returned (.bool ((leafB t l p0 p1 p2 && p3 == 0) && p2 == 0)) ∧ Below w.heap.size w w' := by
  have HL := hide (isLeaf_any k b x t l p0 p1 p2 p3 ((w.alloc (.cells #[.int .i64 k, .int .i64 b, .int .i64 x, .int .i64 t, .int .i64 l] 26)).alloc (.cells #[.int .i64 p0, .int .i64 p1, .int .i64 p2, .int .i64 p3] 91)) h1 h2 h4)
  generalize (leafB t l p0 p1 p2 && p3 == 0) = r at HL ⊢
  cases r with
  | false =>
    go_enter Tryz.func266, Tryz.ntmps266
    go_wp2_with fail
    refine HL.out.mono ?_
    rintro e w1 ⟨rfl, hb1⟩
    have HB1 := hide ((((Below.refl w.heap.size w).alloc (Nat.le_refl _) _).alloc (by simp) _).trans (hb1.mono (by simp; omega)))
    clear hb1
    go_wp2
    go_ret
    exact ⟨rfl, HB1.out⟩
  | true =>
    generalize hr : (p2 == 0) = r
    go_enter Tryz.func266, Tryz.ntmps266
    go_wp2_with fail
    refine HL.out.mono ?_
    rintro e w1 ⟨rfl, hb1⟩
    have d2 : w1.cell? ⟨w.heap.size + 1, 2, none⟩ = some (.int .i64 p2) := (hb1.cell (p := ⟨w.heap.size + 1, 2, none⟩) (by simp)).trans (by simp [go_sem])
    have HB1 := hide ((((Below.refl w.heap.size w).alloc (Nat.le_refl _) _).alloc (by simp) _).trans (hb1.mono (by simp; omega)))
    clear hb1
    go_wp2
    go_ret
    exact ⟨by simp, HB1.out⟩
end Go.Proofs.YtgaoeoijdpdjiabGreatDoor

namespace Go.Proofs.YtgaoeoijdpdjiabGreatDoor
open Go.RowKit
set_option maxRecDepth 20000 in
theorem takeLast_none (D O c : Nat) (id : ByteArray) (tot : Int) (a : Option Addr) (w : World) (hO : Blk w O (opC D id tot (.slice a 0 c) 0 0 ⟨#[]⟩) 246) :
    Calls Tryz.prog 172 #[.pointer (some ⟨O, 0, none⟩)] w fun e w' => e = .returned (.int .i64 8) ∧ w' = w := by
  have c3 : w.cell? ⟨O, 3, none⟩ = some (.slice a 0 c) := hO.cell 3
  have c4 : w.cell? ⟨O, 4, none⟩ = some (.int .i64 0) := hO.cell 4
  clear hO
  go_enter Tryz.func172, Tryz.ntmps172
  go_wp2_with fail
  refine wp_loop_rounds 1 ?_
  rw [rounds_succ]
  go_wp2
  go_ret
  exact ⟨rfl, rfl⟩
end Go.Proofs.YtgaoeoijdpdjiabGreatDoor
