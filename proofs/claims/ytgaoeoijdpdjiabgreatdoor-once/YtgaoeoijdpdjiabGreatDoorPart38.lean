/-
  A signer came out: it is put into the hall's lists. A disk's sectors, moved to a new disk behind a crash. The journal, when a key is made, and when a signer reserves.
-/
import Derived.Test.YtgaoeoijdpdjiabGreatDoorPart37
import Derived.Deep.AppendLies
import Derived.Test.YtgaoeoijdpdjiabGreatDoorPart36
import Derived.Test.YtgaoeoijdpdjiabGreatDoorPart31
namespace Go.Proofs.YtgaoeoijdpdjiabGreatDoor
open Go.RowKit

theorem infoSg : (Tryz.prog.info? 67).map (fun i => (i.zero, i.size, i.bytes)) = some (some (.pointer none), 1, 8) := by kernel_rfl
theorem infoIn : (Tryz.prog.info? 3).map (fun i => (i.zero, i.size, i.bytes)) = some (some (.int .i64 0), 1, 8) := by kernel_rfl
theorem one_newO (w : World) (v : Value) (t : TypeId) : ∀ j u, [v][j]? = some u → (w.alloc (.cells #[v] t)).cell? ((⟨w.heap.size, 0, none⟩ : Addr).add j) = some u := World.news_of_block (heap_alloc_new w _)

set_option maxRecDepth 20000 in
theorem came_none (H : Nat) (c bat : Int) (hc : c ≠ 0) (w : World) :
    Calls Tryz.prog 24 #[.pointer (some ⟨H, 0, none⟩), .pointer none, .int .i64 c, .int .i64 bat] w fun e w' => e = .returned (.bool true) ∧ w' = w := by
  have e1 : (c == 0) = false := by simpa using hc
  clear hc
  go_enter Tryz.func24, Tryz.ntmps24
  go_wp2
  go_ret
  exact ⟨rfl, rfl⟩

set_option maxRecDepth 20000 in
set_option maxHeartbeats 1000000 in
theorem came_some (lo H SD : Nat) (k b x t l : Int) (s1 s2 s3 o1 o2 o3 : ByteArray) (sa ba : Option Addr) (n sc bc : Nat) (gv : Value) (xs ys : List Value) (G : Nat) (bat : Int) (w : World)
    (hH : Blk w H (hallC SD k b x t l s1 s2 s3 o1 o2 o3 (.slice sa n sc) (.slice ba n bc) gv) 65) (hlo : lo ≤ w.heap.size) (hn : n ≤ 2199023255552)
    (hs : w.ownsRow lo 67 1 (.slice sa n sc) n xs) (hb : w.ownsRow lo 3 1 (.slice ba n bc) n ys)
    (hsH : (Value.slice sa n sc).ownBlock ≠ some H) (hbH : (Value.slice ba n bc).ownBlock ≠ some H) (hsb : ∀ q, (Value.slice sa n sc).ownBlock = some q → (Value.slice ba n bc).ownBlock ≠ some q) :
    Calls Tryz.prog 24 #[.pointer (some ⟨H, 0, none⟩), .pointer (some ⟨G, 0, none⟩), .int .i64 0, .int .i64 bat] w fun e w' => e = .returned (.bool true) ∧
      ∃ g c1 g2 c2, Blk w' H (hallC SD k b x t l s1 s2 s3 o1 o2 o3 (.slice (some ⟨g, 0, none⟩) (n + 1) c1) (.slice (some ⟨g2, 0, none⟩) (n + 1) c2) gv) 65 ∧
        w'.ownsRow lo 67 1 (.slice (some ⟨g, 0, none⟩) (n + 1) c1) (n + 1) (xs ++ [.pointer (some ⟨G, 0, none⟩)]) ∧ w'.ownsRow lo 3 1 (.slice (some ⟨g2, 0, none⟩) (n + 1) c2) (n + 1) (ys ++ [.int .i64 bat]) ∧
        Kept (fun q => q = H ∨ (Value.slice sa n sc).ownBlock = some q ∨ (Value.slice ba n bc).ownBlock = some q) w w' ∧ ((Value.slice sa n sc).ownBlock = some g ∨ w.heap.size ≤ g) ∧ ((Value.slice ba n bc).ownBlock = some g2 ∨ w.heap.size ≤ g2) ∧ g ≠ g2 := by
  obtain ⟨i0, hi0, hz0, hz1, hz2⟩ := info_parts infoSg
  obtain ⟨i1, hi1, hy0, hy1, hy2⟩ := info_parts infoIn
  have hHl := hH.lt
  have HH := hide hH
  have HS := hide hs
  have HBR := hide hb
  have HN := hide (And.intro hsH (And.intro hbH hsb))
  have HLO := hide hlo
  have HHL := hide hHl
  have c12 : ∀ o, (w.alloc o).cell? ⟨H, 12, none⟩ = some (.slice sa n sc) := fun o => (World.cell?_alloc_lt _ _ _ hHl).trans (hH.cell 12)
  have c12' : w.cell? ⟨H, 12, none⟩ = some (.slice sa n sc) := hH.cell 12
  have N1 : Hid (n + 1 ≤ maxLen) := by show _ ≤ _; unfold maxLen; omega
  have N2 : Hid ((n + 1) * 8 ≤ 140737488355328) := by show _ ≤ _; omega
  have N3 : Hid (∀ o, lo ≤ (w.alloc o).heap.size) := fun o => by rw [World.size_alloc]; exact Nat.le_succ_of_le hlo
  have N5 : Hid (∀ o, H < (w.alloc o).heap.size) := fun o => by rw [World.size_alloc]; exact Nat.lt_succ_of_lt hHl
  clear hH hs hb hsH hbH hsb hlo hn hHl
  go_enter Tryz.func24, Tryz.ntmps24
  go_wp2_with (at_builtin; refine wpList_append_lies _ rfl _ _ 62 rfl lo 67 i0 (.pointer none) 1 8 Tryz.underlying62 hi0 hz0 hz1 hz2 rfl (by decide) (.slice sa n sc) n xs rfl (HS.out.alloc _) ⟨w.heap.size, 0, none⟩ 1 1 [.pointer (some ⟨G, 0, none⟩)] rfl rfl (one_newO _ _ _) (fun u hu => by rw [List.mem_singleton] at hu; rw [hu]; rfl) (by decide) N1.out N2.out (N3.out _) (w.heap.size + 1) (World.size_alloc _ _) ?_)
  intro g c1 w1 hown hgrow hat hlt
  have nH : (Value.slice sa n sc).ownBlock ≠ some H := HN.out.1
  have gH : g ≠ H := by
    rcases hat with e | e
    · intro e2; subst e2; exact nH e
    · have := HHL.out; omega
  have hgH := hgrow.block H (N5.out _) (fun e => nH e.symm)
  have hB1 : Blk w1 H (hallC SD k b x t l s1 s2 s3 o1 o2 o3 (.slice sa n sc) (.slice ba n bc) gv) 65 := by
    unfold Blk
    rw [hgH]
    exact (HH.out.alloc _ : Blk (w.alloc _) H _ _)
  have f12 : w1.frozen? ⟨H, 12, none⟩ = false := hB1.free 12
  have e12 : w1.cell? ⟨H, 12, none⟩ = some (.slice sa n sc) := hB1.cell 12
  have x13 : w1.cell? ⟨H, 13, none⟩ = some (.slice ba n bc) := hB1.cell 13
  have HK1 := hide (show Kept (fun q => q = H ∨ (Value.slice sa n sc).ownBlock = some q ∨ (Value.slice ba n bc).ownBlock = some q) w w1 from Kept.grown (w := w.alloc _) ((Kept.refl _ _).alloc _) hgrow (fun q e => .inl (.inr (.inl e))))
  have HK1s := hide (show Kept (fun q => (Value.slice sa n sc).ownBlock = some q) w w1 from Kept.grown (w := w.alloc _) ((Kept.refl _ _).alloc _) hgrow (fun q e => .inl e))
  have HAT := hide (show (Value.slice sa n sc).ownBlock = some g ∨ w.heap.size ≤ g by
    rcases hat with e | e
    · exact .inl e
    · exact .inr (by omega))
  obtain ⟨W2, hW2⟩ : ∃ W2, w1.setCell ⟨H, 12, none⟩ (.slice (some ⟨g, 0, none⟩) (n + 1) c1) = W2 := ⟨_, rfl⟩
  have HB2 := hide (show Blk W2 H (hallC SD k b x t l s1 s2 s3 o1 o2 o3 (.slice (some ⟨g, 0, none⟩) (n + 1) c1) (.slice ba n bc) gv) 65 by rw [← hW2]; exact hB1.set 12 _)
  have HO2 := hide (show W2.ownsRow lo 67 1 (.slice (some ⟨g, 0, none⟩) (n + 1) c1) (n + 1) (xs ++ [.pointer (some ⟨G, 0, none⟩)]) by
    rw [← hW2]
    exact owns_kept hown (kept_set w1 ⟨H, 12, none⟩ _) (fun q e hk => by
      have e' : g = q := by simpa [Value.ownBlock] using e
      exact gH (e'.trans hk)))
  have HK2 := hide (show Kept (fun q => q = H ∨ (Value.slice sa n sc).ownBlock = some q ∨ (Value.slice ba n bc).ownBlock = some q) w W2 by rw [← hW2]; exact HK1.out.setCell (.inl (.inl rfl)) _)
  have HR2 := hide (show W2.ownsRow lo 3 1 (.slice ba n bc) n ys by
    rw [← hW2]
    refine owns_kept (owns_kept HBR.out HK1s.out (fun q e e2 => HN.out.2.2 q e2 e)) (kept_set w1 ⟨H, 12, none⟩ _) (fun q e hk => ?_)
    subst hk
    exact HN.out.2.1 e)
  have hG2 : g < W2.heap.size := by rw [← hW2]; simpa using hlt
  have hL2 : lo ≤ W2.heap.size := Nat.le_trans HLO.out HK2.out.size
  have HL2 := hide (And.intro hG2 hL2)
  have hHl2 := HB2.out.lt
  have c13 : ∀ o, (W2.alloc o).cell? ⟨H, 13, none⟩ = some (.slice ba n bc) := fun o => (World.cell?_alloc_lt _ _ _ hHl2).trans (HB2.out.cell 13)
  have c13' : W2.cell? ⟨H, 13, none⟩ = some (.slice ba n bc) := HB2.out.cell 13
  have HNW : Hid (∀ j u, [Value.int .i64 bat][j]? = some u → (W2.alloc (.cells #[.int .i64 bat] 3)).cell? ((⟨w1.heap.size, 0, none⟩ : Addr).add j) = some u) := by
    have hz : W2.heap.size = w1.heap.size := by rw [← hW2]; simp
    rw [← hz]
    exact one_newO W2 _ _
  have HWE := hide hW2
  clear hown hgrow hat hlt hgH hB1 gH nH hW2 c12 c12' hG2 hL2 hHl2
  go_wp2_with (at_builtin; rw [HWE.out]; refine wpList_append_lies _ rfl _ _ 56 rfl lo 3 i1 (.int .i64 0) 1 8 Tryz.underlying56 hi1 hy0 hy1 hy2 rfl (by decide) (.slice ba n bc) n ys rfl (HR2.out.alloc _) ⟨w1.heap.size, 0, none⟩ 1 1 [.int .i64 bat] rfl rfl HNW.out (fun u hu => by rw [List.mem_singleton] at hu; rw [hu]; rfl) (by decide) N1.out N2.out (by rw [World.size_alloc]; exact Nat.le_succ_of_le HL2.out.2) (W2.heap.size + 1) (World.size_alloc _ _) ?_)
  clear f12 e12 x13
  intro g2 c2 w3 hown hgrow hat hlt
  have nH : (Value.slice ba n bc).ownBlock ≠ some H := HN.out.2.1
  have gH : g2 ≠ H := by
    rcases hat with e | e
    · intro e2; subst e2; exact nH e
    · have := HB2.out.lt; omega
  have hgg : g ≠ g2 := by
    rcases hat with e | e
    · rcases HAT.out with e2 | e2
      · intro e3; subst e3; exact HN.out.2.2 _ e2 e
      · have := (HBR.out.lt g2 e).2; omega
    · have := HL2.out.1; omega
  have hgH := hgrow.block H (by rw [World.size_alloc]; exact Nat.lt_succ_of_lt HB2.out.lt) (fun e => nH e.symm)
  have hB3 : Blk w3 H (hallC SD k b x t l s1 s2 s3 o1 o2 o3 (.slice (some ⟨g, 0, none⟩) (n + 1) c1) (.slice ba n bc) gv) 65 := by
    unfold Blk
    rw [hgH]
    exact (HB2.out.alloc _ : Blk (W2.alloc _) H _ _)
  have f13 : w3.frozen? ⟨H, 13, none⟩ = false := hB3.free 13
  have e13 : w3.cell? ⟨H, 13, none⟩ = some (.slice ba n bc) := hB3.cell 13
  have gH1 : g ≠ H := by
    rcases HAT.out with e | e
    · intro e2; subst e2; exact HN.out.1 e
    · have := HHL.out; omega
  have HBF := hide (hB3.set 13 (.slice (some ⟨g2, 0, none⟩) (n + 1) c2))
  have hKb : Kept (fun q => (Value.slice ba n bc).ownBlock = some q) W2 w3 := Kept.grown (w := W2.alloc _) ((Kept.refl _ _).alloc _) hgrow (fun q e => .inl e)
  have HOF := hide (owns_kept (owns_kept HO2.out hKb (fun q e e2 => by
    have e' : g = q := by simpa [Value.ownBlock] using e
    subst e'
    rcases HAT.out with e3 | e3
    · exact HN.out.2.2 _ e3 e2
    · have := (HBR.out.lt g e2).2; omega)) (kept_set w3 ⟨H, 13, none⟩ (.slice (some ⟨g2, 0, none⟩) (n + 1) c2)) (fun q e hk => by
      have e' : g = q := by simpa [Value.ownBlock] using e
      exact gH1 (e'.trans hk)))
  have HOG := hide (owns_kept hown (kept_set w3 ⟨H, 13, none⟩ (.slice (some ⟨g2, 0, none⟩) (n + 1) c2)) (fun q e hk => by
      have e' : g2 = q := by simpa [Value.ownBlock] using e
      exact gH (e'.trans hk)))
  have HKF := hide (show Kept (fun q => q = H ∨ (Value.slice sa n sc).ownBlock = some q ∨ (Value.slice ba n bc).ownBlock = some q) w (w3.setCell ⟨H, 13, none⟩ (.slice (some ⟨g2, 0, none⟩) (n + 1) c2)) from
    (HK2.out.trans hKb (fun q e => .inl (.inr (.inr e)))).setCell (.inl (.inl rfl)) _)
  have HAT2 := hide (show (Value.slice ba n bc).ownBlock = some g2 ∨ w.heap.size ≤ g2 by
    rcases hat with e | e
    · exact .inl e
    · have := HK2.out.size; exact .inr (by omega))
  have HGG := hide hgg
  clear hown hgrow hat hlt hgH hB3 gH gH1 nH hgg hKb
  go_wp2
  go_ret
  exact ⟨rfl, g, c1, g2, c2, HBF.out, HOF.out, HOG.out, HKF.out, HAT.out, HAT2.out, HGG.out⟩
end Go.Proofs.YtgaoeoijdpdjiabGreatDoor

namespace Go.Proofs.YtgaoeoijdpdjiabGreatDoor
open Go.RowKit

set_option maxRecDepth 20000 in
theorem skWrite_on (SD D : Nat) (i : Int) (z : ByteArray) (c : Int) (Q : World → Prop) (w : World) (hG : Blk w SD [.pointer (some ⟨D, 0, none⟩)] 135)
    (h : Calls Tryz.prog 104 #[.pointer (some ⟨D, 0, none⟩), .int .i64 i, .string z] w fun e w' => e = .returned (.int .i64 c) ∧ Q w') :
    Calls Tryz.prog 62 #[.pointer (some ⟨SD, 0, none⟩), .int .i64 i, .string z] w fun e w' => e = .returned (.int .i64 c) ∧ Q w' := by
  have H := hide h
  have c0 : w.cell? ⟨SD, 0, none⟩ = some (.pointer (some ⟨D, 0, none⟩)) := hG.cell 0
  clear h hG
  go_enter Tryz.func62, Tryz.ntmps62
  go_wp2_with fail
  refine H.out.mono ?_
  rintro e w1 ⟨rfl, hq⟩
  have HQ := hide hq
  clear hq
  go_wp2
  go_ret
  exact ⟨rfl, HQ.out⟩

set_option maxRecDepth 20000 in
theorem skSync_on (SD D : Nat) (c : Int) (Q : World → Prop) (w : World) (hG : Blk w SD [.pointer (some ⟨D, 0, none⟩)] 135)
    (h : Calls Tryz.prog 105 #[.pointer (some ⟨D, 0, none⟩)] w fun e w' => e = .returned (.int .i64 c) ∧ Q w') :
    Calls Tryz.prog 63 #[.pointer (some ⟨SD, 0, none⟩)] w fun e w' => e = .returned (.int .i64 c) ∧ Q w' := by
  have H := hide h
  have c0 : w.cell? ⟨SD, 0, none⟩ = some (.pointer (some ⟨D, 0, none⟩)) := hG.cell 0
  clear h hG
  go_enter Tryz.func63, Tryz.ntmps63
  go_wp2_with fail
  refine H.out.mono ?_
  rintro e w1 ⟨rfl, hq⟩
  have HQ := hide hq
  clear hq
  go_wp2
  go_ret
  exact ⟨rfl, HQ.out⟩

/-- The two disks, while the sectors are copied. -/
def MV (lo H SD D SD2 D2 : Nat) (hv : List Value) (s1 s2 : DSt) (F : Nat → Prop) (w wr : World) : Prop :=
  ∃ F1 F2, DSk lo D s1 wr F1 ∧ DSk lo D2 s2 wr F2 ∧ (∀ k, F1 k → ¬ F2 k) ∧ (∀ k, F1 k → F k ∨ w.heap.size ≤ k) ∧ (∀ k, F2 k → w.heap.size ≤ k) ∧ ¬ F1 SD2 ∧ ¬ F2 SD2 ∧ Blk wr H hv 65 ∧ Blk wr SD [.pointer (some ⟨D, 0, none⟩)] 135 ∧ Blk wr SD2 [.pointer (some ⟨D2, 0, none⟩)] 135 ∧ Kept F w wr
section
variable {lo H SD D SD2 D2 : Nat} {hv : List Value} {s1 s2 s3 : DSt} {F F1 F2 : Nat → Prop} {w wr w2 : World}
theorem dl_blk {lo D : Nat} {st : DSt} {F : Nat → Prop} {w w' : World} (k : DL lo D st F w w') {g : Nat} {vs : List Value} {T : TypeId} (h : Blk w g vs T) (hn : ¬ F g) : Blk w' g vs T := k.blk h hn
/-- The old disk is read. -/
theorem MV.old (hH : H < w.heap.size) (hS : SD < w.heap.size) (nH : ¬ F H) (nS : ¬ F SD) (d2 : DSk lo D2 s2 wr F2) (h12 : ∀ k, F1 k → ¬ F2 k) (f1 : ∀ k, F1 k → F k ∨ w.heap.size ≤ k) (f2 : ∀ k, F2 k → w.heap.size ≤ k) (n1 : ¬ F1 SD2) (n2 : ¬ F2 SD2) (bH : Blk wr H hv 65) (bS : Blk wr SD [.pointer (some ⟨D, 0, none⟩)] 135) (b2 : Blk wr SD2 [.pointer (some ⟨D2, 0, none⟩)] 135) (hk : Kept F w wr)
    (hl : DL lo D s3 F1 wr w2) : MV lo H SD D SD2 D2 hv s3 s2 F w w2 := by
  have mH : ¬ F1 H := fun e => by rcases f1 H e with e | e <;> first | exact nH e | omega
  have mS : ¬ F1 SD := fun e => by rcases f1 SD e with e | e <;> first | exact nS e | omega
  have b1H := hl.blk bH mH
  have b1S := hl.blk bS mS
  have b12 := hl.blk b2 n1
  obtain ⟨G, dG, kG, fG⟩ := hl
  refine ⟨G, F2, dG, d2.kept kG (fun k e e2 => h12 k e2 e), fun k e e2 => ?_, fun k e => ?_, f2, fun e => ?_, n2, b1H, b1S, b12, hk.trans kG f1⟩
  · rcases fG k e with e3 | e3
    · exact h12 k e3 e2
    · have := (d2.lt k e2).2; omega
  · rcases fG k e with e3 | e3
    · exact f1 k e3
    · exact .inr (Nat.le_trans hk.size e3)
  · rcases fG SD2 e with e3 | e3
    · exact n1 e3
    · have := b2.lt; omega
/-- The new disk is written. -/
theorem MV.new (hH : H < w.heap.size) (hS : SD < w.heap.size) (d1 : DSk lo D s1 wr F1) (h12 : ∀ k, F1 k → ¬ F2 k) (f1 : ∀ k, F1 k → F k ∨ w.heap.size ≤ k) (f2 : ∀ k, F2 k → w.heap.size ≤ k) (n1 : ¬ F1 SD2) (n2 : ¬ F2 SD2) (bH : Blk wr H hv 65) (bS : Blk wr SD [.pointer (some ⟨D, 0, none⟩)] 135) (b2 : Blk wr SD2 [.pointer (some ⟨D2, 0, none⟩)] 135) (hk : Kept F w wr)
    (hl : DL lo D2 s3 F2 wr w2) : MV lo H SD D SD2 D2 hv s1 s3 F w w2 := by
  have mH : ¬ F2 H := fun e => by have := f2 H e; omega
  have mS : ¬ F2 SD := fun e => by have := f2 SD e; omega
  have b1H := hl.blk bH mH
  have b1S := hl.blk bS mS
  have b12 := hl.blk b2 n2
  obtain ⟨G, dG, kG, fG⟩ := hl
  refine ⟨F1, G, d1.kept kG (fun k e e2 => h12 k e e2), dG, fun k e e2 => ?_, f1, fun k e => ?_, n1, fun e => ?_, b1H, b1S, b12, hk.trans kG (fun k e => .inr (f2 k e))⟩
  · rcases fG k e2 with e3 | e3
    · exact h12 k e e3
    · have := (d1.lt k e).2; omega
  · rcases fG k e with e3 | e3
    · exact f2 k e3
    · exact Nat.le_trans hk.size e3
  · rcases fG SD2 e with e3 | e3
    · exact n2 e3
    · have := b2.lt; omega
theorem MV.below (h : MV lo H SD D SD2 D2 hv s1 s2 F w wr) (hb : Below wr.heap.size wr w2) : MV lo H SD D SD2 D2 hv s1 s2 F w w2 := by
  obtain ⟨F1, F2, d1, d2, h12, f1, f2, n1, n2, bH, bS, b2, hk⟩ := h
  exact ⟨F1, F2, d1.below hb, d2.below hb, h12, f1, f2, n1, n2, bH.on hb, bS.on hb, b2.on hb, hk.after hb⟩
end

/-- The new disk, when j sectors are written. -/
def cpSt (n : Nat) (dur : List ByteArray) (j : Nat) : DSt := { newD n with pend := copyP dur j, writes := j }
/-- The new disk in the end. -/
def mvSt (st : DSt) (K : List Bool) : DSt := ⟨st.n, keptJ st K st.pend.length, [], st.n, 1, 0, 0⟩
theorem cp_write (n : Nat) (dur : List ByteArray) (j : Nat) (hn : n ≤ 8) (hl : dur.length = n) (hd : ∀ x ∈ dur, x.size = 32) (hj : j < n) : wrAns (cpSt n dur j) j (dur.getD j ⟨#[]⟩) = 0 ∧ wrSt (cpSt n dur j) j (dur.getD j ⟨#[]⟩) = cpSt n dur (j + 1) := by
  have h0 : 0 ≤ (j : Int) ∧ (j : Int) < ((cpSt n dur j).n : Int) := ⟨by omega, by show (j : Int) < (n : Int); omega⟩
  have hs : (dur.getD j ⟨#[]⟩).size = 32 := by
    rw [List.getD_eq_getElem?_getD, List.getElem?_eq_getElem (by omega)]
    exact hd _ (List.getElem_mem _)
  have hf : ¬ ((cpSt n dur j).trouble = 1 ∨ (cpSt n dur j).pend.length = 16) := by
    rintro (e | e)
    · exact absurd (show (0 : Int) = 1 from e) (by decide)
    · have : (copyP dur j).length = 16 := e
      rw [copyP_length] at this
      omega
  constructor
  · rw [wrAns, if_neg (fun hn => hn h0), if_neg (fun hn => hn hs), if_neg hf]
  · rw [wrSt, if_neg (fun hn => hn h0), if_neg (fun hn => hn hs), if_neg hf, Int.toNat_natCast]
    simp only [cpSt, newD, copyP_succ, tick]
    rfl
theorem cp_sync (st : DSt) (K : List Bool) (hl : (keptJ st K st.pend.length).length = st.n) : syAns (cpSt st.n (keptJ st K st.pend.length) st.n) = 0 ∧ sySt (cpSt st.n (keptJ st K st.pend.length) st.n) = mvSt st K := by
  have ht : ¬ (cpSt st.n (keptJ st K st.pend.length) st.n).trouble = 1 := fun e => absurd (show (0 : Int) = 1 from e) (by decide)
  constructor
  · rw [syAns, if_neg ht]
  · rw [sySt, if_neg ht, copy_all (keptJ st K st.pend.length) (List.replicate st.n zeroS) (by rw [hl]; simp) _ rfl (by rw [hl]; rfl)]
    rfl
end Go.Proofs.YtgaoeoijdpdjiabGreatDoor

namespace Go.Proofs.YtgaoeoijdpdjiabGreatDoor
open Go.RowKit

section
variable {tot : Nat} {st s2 : DSt} {id id2 : ByteArray} {sq sb : Nat}
theorem write_or (i : Nat) (t : ByteArray) (hi : i < st.n) (ht : t.size = 32) : (wrAns st i t = 5 ∧ wrSt st i t = { st with trouble := tick st.trouble }) ∨ (wrAns st i t = 0 ∧ wrSt st i t = { st with trouble := tick st.trouble, pend := st.pend ++ [(i, t)], writes := st.writes + 1 }) := by
  have h0 : 0 ≤ (i : Int) ∧ (i : Int) < st.n := by omega
  have hA : wrAns st i t = if st.trouble = 1 ∨ st.pend.length = 16 then 5 else 0 := by rw [wrAns, if_neg (fun hn => hn h0), if_neg (fun hn => hn ht)]
  have hS : wrSt st i t = if st.trouble = 1 ∨ st.pend.length = 16 then { st with trouble := tick st.trouble } else { st with trouble := tick st.trouble, pend := st.pend ++ [(i, t)], writes := st.writes + 1 } := by rw [wrSt, if_neg (fun hn => hn h0), if_neg (fun hn => hn ht), Int.toNat_natCast]
  rw [hA, hS]
  split
  · exact .inl ⟨rfl, rfl⟩
  · exact .inr ⟨rfl, rfl⟩

theorem jr_new (q b : Nat) (h1 : 1 ≤ q) (h2 : q ≤ b + 1) (h3 : b ≤ tot) : Jr tot id (q % 2) (sealS q b id) q b := ⟨rfl, rfl, h1, h2, h3⟩

/-- The next record is written. -/
theorem JI.lay (h : JI tot st id sq sb) (b : Nat) (hb : sb ≤ b) (hbt : b ≤ tot) (hq : sq ≤ b) : JI tot (wrSt st ((sq + 1) % 2 : Nat) (sealS ((sq + 1 : Nat) : Int) b id)) id sq sb := by
  have hn := h.n2
  rcases write_or (st := st) ((sq + 1) % 2) (sealS ((sq + 1 : Nat) : Int) b id) (by omega) (sealS_size _ _ _ h.id8) with ⟨_, e⟩ | ⟨_, e⟩
  · rw [e]; exact h.same rfl rfl rfl
  · rw [e]
    have hj : Jr tot id ((sq + 1) % 2) (sealS ((sq + 1 : Nat) : Int) b id) (sq + 1) b := jr_new _ _ (by omega) (by omega) hbt
    have hC : ∀ s x, Cand { st with trouble := tick st.trouble, pend := st.pend ++ [((sq + 1) % 2, sealS ((sq + 1 : Nat) : Int) b id)], writes := st.writes + 1 } s x → Cand st s x ∨ s = (sq + 1) % 2 ∧ x = sealS ((sq + 1 : Nat) : Int) b id := by
      intro s x hc
      rcases hc with hc | hc
      · exact .inl (.inl hc)
      · rcases List.mem_append.1 hc with hc | hc
        · exact .inl (.inr hc)
        · rw [List.mem_singleton] at hc
          cases hc
          exact .inr ⟨rfl, rfl⟩
    refine ⟨h.n2, h.len, h.id8, h.tot4, fun s hs x hc hr => ?_, ?_⟩
    · rcases hC s x hc with hc | ⟨rfl, rfl⟩
      · exact h.recs s hs x hc hr
      · exact ⟨_, _, hj⟩
    · rcases h.base with hb | ⟨h1, h2, h3, h4⟩
      · exact .inl hb
      · refine .inr ⟨h1, h2, fun x hx => ?_, fun x q b' hc hz => ?_⟩
        · rcases List.mem_append.1 hx with hx | hx
          · exact h3 x hx
          · rw [List.mem_singleton] at hx
            have := congrArg Prod.fst hx
            simp only at this
            omega
        · rcases hC _ x hc with hc | ⟨_, rfl⟩
          · exact h4 x q b' hc hz
          · have r1 := (jr_rec hj h.id8 h.tot4).2
            have r2 := (jr_rec hz h.id8 h.tot4).2
            rw [r1] at r2
            have e1 := congrArg Rec.q r2
            have e2 := congrArg Rec.b r2
            simp only at e1 e2
            exact .inl ⟨by omega, by omega⟩
/-- It is written, and synced. -/
theorem JI.laid (h : JI tot st id sq sb) (b : Nat) (hb : sb ≤ b) (hbt : b ≤ tot) (hq : sq ≤ b) (hz : sq = 0 → ∀ x, Cand st 0 x → isRec x = false)
    (ha : wrAns st ((sq + 1) % 2 : Nat) (sealS ((sq + 1 : Nat) : Int) b id) = 0) (hy : syAns (wrSt st ((sq + 1) % 2 : Nat) (sealS ((sq + 1 : Nat) : Int) b id)) = 0) : JI tot (sySt (wrSt st ((sq + 1) % 2 : Nat) (sealS ((sq + 1 : Nat) : Int) b id))) id (sq + 1) b := by
  have hL := (h.lay b hb hbt hq).sync
  have hn := h.n2
  have hlen := h.len
  rcases write_or (st := st) ((sq + 1) % 2) (sealS ((sq + 1 : Nat) : Int) b id) (by omega) (sealS_size _ _ _ h.id8) with ⟨e0, _⟩ | ⟨_, e⟩
  · rw [ha] at e0; exact absurd e0 (by decide)
  have hj : Jr tot id ((sq + 1) % 2) (sealS ((sq + 1 : Nat) : Int) b id) (sq + 1) b := jr_new _ _ (by omega) (by omega) hbt
  have ey := sync_yes hy
  rw [ey] at hL ⊢
  rw [e] at hL ⊢
  generalize hx : sealS ((sq + 1 : Nat) : Int) b id = X at *
  have hlast : (laidJ { st with trouble := tick st.trouble, pend := st.pend ++ [((sq + 1) % 2, X)], writes := st.writes + 1 } (st.pend ++ [((sq + 1) % 2, X)]).length) = (laidJ st st.pend.length).set ((sq + 1) % 2) X := by
    simp only [laidJ, List.take_length, List.foldl_append, List.foldl_cons, List.foldl_nil]
  have hll := laid_len st st.pend.length
  refine ⟨hL.n2, hL.len, hL.id8, hL.tot4, hL.recs, .inr ⟨by omega, ⟨X, ?_, hj⟩, by simp, fun x q b' hc hz2 => ?_⟩⟩
  · show (laidJ _ _)[(sq + 1) % 2]? = some X
    rw [hlast, List.getElem?_set_self (by omega)]
  · have es : (sq + 1 + 1) % 2 = sq % 2 := by omega
    rw [es] at hc hz2
    rcases hc with hc | hc
    · have hc' : (laidJ _ _)[sq % 2]? = some x := hc
      rw [hlast, List.getElem?_set_ne (by omega)] at hc'
      obtain ⟨g1, g2⟩ := laid_cand hc'
      rcases h.base with ⟨hs, _⟩ | ⟨h1, ⟨z, h2, h2'⟩, h3, h4⟩
      · subst hs
        have := hz rfl x g1
        rw [(jr_rec hz2 h.id8 h.tot4).1] at this
        exact absurd this (by decide)
      · have := g2 h3
        rw [h2] at this
        cases this
        have r1 := (jr_rec h2' h.id8 h.tot4).2
        have r2 := (jr_rec hz2 h.id8 h.tot4).2
        rw [r1] at r2
        have e1 := congrArg Rec.q r2
        simp only at e1
        exact .inr (by omega)
    · simp at hc

theorem JI.switch (h : JI tot st id sq sb) (h8 : id2.size = 8) (hz : ∀ s, s < 2 → ∀ x, Cand st s x → isRec x = false) : JI tot st id2 0 0 :=
  ⟨h.n2, h.len, h8, h.tot4, fun s hs x hc hr => by rw [hz s hs x hc] at hr; exact absurd hr (by decide), .inl ⟨rfl, rfl⟩⟩
theorem JI.none (h : JI tot st id sq sb) (hz : ∀ s, s < 2 → ∀ x, Cand st s x → isRec x = false) : sq = 0 ∧ sb = 0 := by
  rcases h.base with hb | ⟨h1, ⟨z, h2, h2'⟩, h3, h4⟩
  · exact hb
  · have := hz (sq % 2) (by omega) z (.inl h2)
    rw [(jr_rec h2' h.id8 h.tot4).1] at this
    exact absurd this (by decide)
theorem found_nil {L : List Rec} {x : ByteArray} (h : foundR L x = []) : L = [] ∧ isRec x = false := by
  unfold foundR at h
  split at h
  · simp at h
  · rename_i hn
    exact ⟨h, by simpa using hn⟩
/-- A key is made, or it is not. -/
theorem JI.made (h : JI tot st id sq sb) (h8 : id2.size = 8) : (mkAns st id2 = 0 ∧ sb = 0 ∧ JI tot (mkSt st id2) id2 1 0) ∨ (mkAns st id2 ≠ 0 ∧ ∃ id', JI tot (mkSt st id2) id' sq sb) := by
  by_cases h0 : syAns st = 0
  case neg => exact .inr ⟨by rw [mkAns, if_pos h0]; exact h0, id, by rw [mkSt, if_pos h0]; exact h.begins 1⟩
  by_cases h1 : (opR0 st).2 = 0
  case neg => exact .inr ⟨by rw [mkAns, if_neg (fun hn => hn h0), if_pos h1]; exact h1, id, by rw [mkSt, if_neg (fun hn => hn h0), if_pos h1]; exact h.begins 2⟩
  by_cases h3 : (opR1 st).2 = 0
  case neg => exact .inr ⟨by rw [mkAns, if_neg (fun hn => hn h0), if_neg (fun hn => hn h1), if_pos h3]; exact h3, id, by rw [mkSt, if_neg (fun hn => hn h0), if_neg (fun hn => hn h1), if_pos h3]; exact h.begins 3⟩
  by_cases hL : opL st 3 = []
  case neg => exact .inr ⟨by rw [mkAns, if_neg (fun hn => hn h0), if_neg (fun hn => hn h1), if_neg (fun hn => hn h3), if_pos hL]; decide, id, by rw [mkSt, if_neg (fun hn => hn h0), if_neg (fun hn => hn h1), if_neg (fun hn => hn h3), if_pos hL]; exact h.begins 3⟩
  have eA : mkAns st id2 = if wrAns (opS st 3) 1 (sealS 1 0 id2) ≠ 0 then wrAns (opS st 3) 1 (sealS 1 0 id2) else syAns (mkT st id2) := by
    rw [mkAns, if_neg (fun hn => hn h0), if_neg (fun hn => hn h1), if_neg (fun hn => hn h3), if_neg (fun hn => hn hL)]
  have eS : mkSt st id2 = if wrAns (opS st 3) 1 (sealS 1 0 id2) ≠ 0 then mkT st id2 else sySt (mkT st id2) := by
    rw [mkSt, if_neg (fun hn => hn h0), if_neg (fun hn => hn h1), if_neg (fun hn => hn h3), if_neg (fun hn => hn hL)]
  obtain ⟨hp, hn, e0, e1⟩ := begin_reads h.n2 h.len h0 h1 h3
  have hJ := h.begins 3
  have hL' : foundR (foundR [] (opR0 st).1) (opR1 st).1 = [] := hL
  obtain ⟨hL0, n1⟩ := found_nil hL'
  obtain ⟨_, n0⟩ := found_nil hL0
  have hz : ∀ s, s < 2 → ∀ x, Cand (opS st 3) s x → isRec x = false := by
    intro s hs x hc
    rcases hc with hc | hc
    · match s, hs with
      | 0, _ => rw [e0] at hc; cases hc; exact n0
      | 1, _ => rw [e1] at hc; cases hc; exact n1
    · rw [hp] at hc; simp at hc
  obtain ⟨hs0, hb0⟩ := hJ.none hz
  have hJ2 := hJ.switch h8 hz
  have hlay : JI tot (mkT st id2) id2 0 0 := hJ2.lay 0 (Nat.le_refl _) (Nat.zero_le _) (Nat.le_refl _)
  subst hs0 hb0
  by_cases ha : wrAns (opS st 3) 1 (sealS 1 0 id2) = 0
  · rw [if_neg (fun hn => hn ha)] at eA eS
    by_cases hy : syAns (mkT st id2) = 0
    · refine .inl ⟨by rw [eA]; exact hy, rfl, ?_⟩
      rw [eS]
      exact hJ2.laid 0 (Nat.le_refl _) (Nat.zero_le _) (Nat.le_refl _) (fun _ x hc => hz 0 (by omega) x hc) ha hy
    · refine .inr ⟨by rw [eA]; exact hy, id2, ?_⟩
      rw [eS]
      exact hlay.sync
  · rw [if_pos ha] at eA eS
    refine .inr ⟨by rw [eA]; exact ha, id2, ?_⟩
    rw [eS]
    exact hlay
end
end Go.Proofs.YtgaoeoijdpdjiabGreatDoor
