/-
  A signer came out: it is put into the hall's lists. A signer is about to reserve: the bound is noted. A signer is about to reserve: the bound is put into the list. A trail's signer reserves.
-/
import Derived.Test.YtgaoeoijdpdjiabGreatDoorPart41
import Derived.Deep.AppendLies
namespace Go.Proofs.YtgaoeoijdpdjiabGreatDoor
open Go.RowKit
theorem infoSg : (Tryz.prog.info? 67).map (fun i => (i.zero, i.size, i.bytes)) = some (some (.pointer none), 1, 8) := by kernel_rfl
theorem infoIn : (Tryz.prog.info? 3).map (fun i => (i.zero, i.size, i.bytes)) = some (some (.int .i64 0), 1, 8) := by kernel_rfl
theorem one_newO (w : World) (v : Value) (t : TypeId) : ∀ j u, [v][j]? = some u → (w.alloc (.cells #[v] t)).cell? ((⟨w.heap.size, 0, none⟩ : Addr).add j) = some u := World.news_of_block (heap_alloc_new w _)
set_option maxRecDepth 20000 in
theorem came_none (H : Nat) (c bat : Int) (hc : c ≠ 0) (w : World) :
    Calls Tryz.prog 24 #[.pointer (some ⟨H, 0, none⟩), .pointer none, .int .i64 c, .int .i64 bat] w fun e w' => e = .returned (.bool true) ∧ w' = w := by
  have e1 : (c == 0) = false := by simpa using hc
  clear hc
  go_enter Tryz.func24, Tryz.ntmps24
  go_wp2
  go_ret
  exact ⟨rfl, rfl⟩
set_option maxRecDepth 20000 in
set_option maxHeartbeats 1000000 in
theorem came_some (lo H SD : Nat) (k b x t l : Int) (s1 s2 s3 o1 o2 o3 : ByteArray) (sa ba : Option Addr) (n sc bc : Nat) (gv : Value) (xs ys : List Value) (G : Nat) (bat : Int) (w : World)
    (hH : Blk w H (hallC SD k b x t l s1 s2 s3 o1 o2 o3 (.slice sa n sc) (.slice ba n bc) gv) 65) (hlo : lo ≤ w.heap.size) (hn : n ≤ 8796093022208)
    (hs : w.ownsRow lo 67 1 (.slice sa n sc) n xs) (hb : w.ownsRow lo 3 1 (.slice ba n bc) n ys)
    (hsH : (Value.slice sa n sc).ownBlock ≠ some H) (hbH : (Value.slice ba n bc).ownBlock ≠ some H) (hsb : ∀ q, (Value.slice sa n sc).ownBlock = some q → (Value.slice ba n bc).ownBlock ≠ some q) :
    Calls Tryz.prog 24 #[.pointer (some ⟨H, 0, none⟩), .pointer (some ⟨G, 0, none⟩), .int .i64 0, .int .i64 bat] w fun e w' => e = .returned (.bool true) ∧
      ∃ g c1 g2 c2, Blk w' H (hallC SD k b x t l s1 s2 s3 o1 o2 o3 (.slice (some ⟨g, 0, none⟩) (n + 1) c1) (.slice (some ⟨g2, 0, none⟩) (n + 1) c2) gv) 65 ∧
        w'.ownsRow lo 67 1 (.slice (some ⟨g, 0, none⟩) (n + 1) c1) (n + 1) (xs ++ [.pointer (some ⟨G, 0, none⟩)]) ∧ w'.ownsRow lo 3 1 (.slice (some ⟨g2, 0, none⟩) (n + 1) c2) (n + 1) (ys ++ [.int .i64 bat]) ∧
        Kept (fun q => q = H ∨ (Value.slice sa n sc).ownBlock = some q ∨ (Value.slice ba n bc).ownBlock = some q) w w' ∧ ((Value.slice sa n sc).ownBlock = some g ∨ w.heap.size ≤ g) ∧ ((Value.slice ba n bc).ownBlock = some g2 ∨ w.heap.size ≤ g2) ∧ g ≠ g2 := by
  obtain ⟨i0, hi0, hz0, hz1, hz2⟩ := info_parts infoSg
  obtain ⟨i1, hi1, hy0, hy1, hy2⟩ := info_parts infoIn
  have hHl := hH.lt
  have HH := hide hH
  have HS := hide hs
  have HBR := hide hb
  have HN := hide (And.intro hsH (And.intro hbH hsb))
  have HLO := hide hlo
  have HHL := hide hHl
  have c12 : ∀ o, (w.alloc o).cell? ⟨H, 12, none⟩ = some (.slice sa n sc) := fun o => (World.cell?_alloc_lt _ _ _ hHl).trans (hH.cell 12)
  have c12' : w.cell? ⟨H, 12, none⟩ = some (.slice sa n sc) := hH.cell 12
  have N1 : Hid (n + 1 ≤ maxLen) := by show _ ≤ _; unfold maxLen; omega
  have N2 : Hid ((n + 1) * 8 ≤ 140737488355328) := by show _ ≤ _; omega
  have N3 : Hid (∀ o, lo ≤ (w.alloc o).heap.size) := fun o => by rw [World.size_alloc]; exact Nat.le_succ_of_le hlo
  have N5 : Hid (∀ o, H < (w.alloc o).heap.size) := fun o => by rw [World.size_alloc]; exact Nat.lt_succ_of_lt hHl
  clear hH hs hb hsH hbH hsb hlo hn hHl
  go_enter Tryz.func24, Tryz.ntmps24
  go_wp2_with (at_builtin; refine wpList_append_lies _ rfl _ _ 62 rfl lo 67 i0 (.pointer none) 1 8 Tryz.underlying62 hi0 hz0 hz1 hz2 rfl (by decide) (.slice sa n sc) n xs rfl (HS.out.alloc _) ⟨w.heap.size, 0, none⟩ 1 1 [.pointer (some ⟨G, 0, none⟩)] rfl rfl (one_newO _ _ _) (fun u hu => by rw [List.mem_singleton] at hu; rw [hu]; rfl) (by decide) N1.out N2.out (N3.out _) (w.heap.size + 1) (World.size_alloc _ _) ?_)
  intro g c1 w1 hown hgrow hat hlt
  have nH : (Value.slice sa n sc).ownBlock ≠ some H := HN.out.1
  have gH : g ≠ H := by
    rcases hat with e | e
    · intro e2; subst e2; exact nH e
    · have := HHL.out; omega
  have hgH := hgrow.block H (N5.out _) (fun e => nH e.symm)
  have hB1 : Blk w1 H (hallC SD k b x t l s1 s2 s3 o1 o2 o3 (.slice sa n sc) (.slice ba n bc) gv) 65 := by
    unfold Blk
    rw [hgH]
    exact (HH.out.alloc _ : Blk (w.alloc _) H _ _)
  have f12 : w1.frozen? ⟨H, 12, none⟩ = false := hB1.free 12
  have e12 : w1.cell? ⟨H, 12, none⟩ = some (.slice sa n sc) := hB1.cell 12
  have x13 : w1.cell? ⟨H, 13, none⟩ = some (.slice ba n bc) := hB1.cell 13
  have HK1 := hide (show Kept (fun q => q = H ∨ (Value.slice sa n sc).ownBlock = some q ∨ (Value.slice ba n bc).ownBlock = some q) w w1 from Kept.grown (w := w.alloc _) ((Kept.refl _ _).alloc _) hgrow (fun q e => .inl (.inr (.inl e))))
  have HK1s := hide (show Kept (fun q => (Value.slice sa n sc).ownBlock = some q) w w1 from Kept.grown (w := w.alloc _) ((Kept.refl _ _).alloc _) hgrow (fun q e => .inl e))
  have HAT := hide (show (Value.slice sa n sc).ownBlock = some g ∨ w.heap.size ≤ g by
    rcases hat with e | e
    · exact .inl e
    · exact .inr (by omega))
  obtain ⟨W2, hW2⟩ : ∃ W2, w1.setCell ⟨H, 12, none⟩ (.slice (some ⟨g, 0, none⟩) (n + 1) c1) = W2 := ⟨_, rfl⟩
  have HB2 := hide (show Blk W2 H (hallC SD k b x t l s1 s2 s3 o1 o2 o3 (.slice (some ⟨g, 0, none⟩) (n + 1) c1) (.slice ba n bc) gv) 65 by rw [← hW2]; exact hB1.set 12 _)
  have HO2 := hide (show W2.ownsRow lo 67 1 (.slice (some ⟨g, 0, none⟩) (n + 1) c1) (n + 1) (xs ++ [.pointer (some ⟨G, 0, none⟩)]) by
    rw [← hW2]
    exact owns_kept hown (kept_set w1 ⟨H, 12, none⟩ _) (fun q e hk => by
      have e' : g = q := by simpa [Value.ownBlock] using e
      exact gH (e'.trans hk)))
  have HK2 := hide (show Kept (fun q => q = H ∨ (Value.slice sa n sc).ownBlock = some q ∨ (Value.slice ba n bc).ownBlock = some q) w W2 by rw [← hW2]; exact HK1.out.setCell (.inl (.inl rfl)) _)
  have HR2 := hide (show W2.ownsRow lo 3 1 (.slice ba n bc) n ys by
    rw [← hW2]
    refine owns_kept (owns_kept HBR.out HK1s.out (fun q e e2 => HN.out.2.2 q e2 e)) (kept_set w1 ⟨H, 12, none⟩ _) (fun q e hk => ?_)
    subst hk
    exact HN.out.2.1 e)
  have hG2 : g < W2.heap.size := by rw [← hW2]; simpa using hlt
  have hL2 : lo ≤ W2.heap.size := Nat.le_trans HLO.out HK2.out.size
  have HL2 := hide (And.intro hG2 hL2)
  have hHl2 := HB2.out.lt
  have c13 : ∀ o, (W2.alloc o).cell? ⟨H, 13, none⟩ = some (.slice ba n bc) := fun o => (World.cell?_alloc_lt _ _ _ hHl2).trans (HB2.out.cell 13)
  have c13' : W2.cell? ⟨H, 13, none⟩ = some (.slice ba n bc) := HB2.out.cell 13
  have HNW : Hid (∀ j u, [Value.int .i64 bat][j]? = some u → (W2.alloc (.cells #[.int .i64 bat] 3)).cell? ((⟨w1.heap.size, 0, none⟩ : Addr).add j) = some u) := by
    have hz : W2.heap.size = w1.heap.size := by rw [← hW2]; simp
    rw [← hz]
    exact one_newO W2 _ _
  have HWE := hide hW2
  clear hown hgrow hat hlt hgH hB1 gH nH hW2 c12 c12' hG2 hL2 hHl2
  go_wp2_with (at_builtin; rw [HWE.out]; refine wpList_append_lies _ rfl _ _ 56 rfl lo 3 i1 (.int .i64 0) 1 8 Tryz.underlying56 hi1 hy0 hy1 hy2 rfl (by decide) (.slice ba n bc) n ys rfl (HR2.out.alloc _) ⟨w1.heap.size, 0, none⟩ 1 1 [.int .i64 bat] rfl rfl HNW.out (fun u hu => by rw [List.mem_singleton] at hu; rw [hu]; rfl) (by decide) N1.out N2.out (by rw [World.size_alloc]; exact Nat.le_succ_of_le HL2.out.2) (W2.heap.size + 1) (World.size_alloc _ _) ?_)
  clear f12 e12 x13
  intro g2 c2 w3 hown hgrow hat hlt
  have nH : (Value.slice ba n bc).ownBlock ≠ some H := HN.out.2.1
  have gH : g2 ≠ H := by
    rcases hat with e | e
    · intro e2; subst e2; exact nH e
    · have := HB2.out.lt; omega
  have hgg : g ≠ g2 := by
    rcases hat with e | e
    · rcases HAT.out with e2 | e2
      · intro e3; subst e3; exact HN.out.2.2 _ e2 e
      · have := (HBR.out.lt g2 e).2; omega
    · have := HL2.out.1; omega
  have hgH := hgrow.block H (by rw [World.size_alloc]; exact Nat.lt_succ_of_lt HB2.out.lt) (fun e => nH e.symm)
  have hB3 : Blk w3 H (hallC SD k b x t l s1 s2 s3 o1 o2 o3 (.slice (some ⟨g, 0, none⟩) (n + 1) c1) (.slice ba n bc) gv) 65 := by
    unfold Blk
    rw [hgH]
    exact (HB2.out.alloc _ : Blk (W2.alloc _) H _ _)
  have f13 : w3.frozen? ⟨H, 13, none⟩ = false := hB3.free 13
  have e13 : w3.cell? ⟨H, 13, none⟩ = some (.slice ba n bc) := hB3.cell 13
  have gH1 : g ≠ H := by
    rcases HAT.out with e | e
    · intro e2; subst e2; exact HN.out.1 e
    · have := HHL.out; omega
  have HBF := hide (hB3.set 13 (.slice (some ⟨g2, 0, none⟩) (n + 1) c2))
  have hKb : Kept (fun q => (Value.slice ba n bc).ownBlock = some q) W2 w3 := Kept.grown (w := W2.alloc _) ((Kept.refl _ _).alloc _) hgrow (fun q e => .inl e)
  have HOF := hide (owns_kept (owns_kept HO2.out hKb (fun q e e2 => by
    have e' : g = q := by simpa [Value.ownBlock] using e
    subst e'
    rcases HAT.out with e3 | e3
    · exact HN.out.2.2 _ e3 e2
    · have := (HBR.out.lt g e2).2; omega)) (kept_set w3 ⟨H, 13, none⟩ (.slice (some ⟨g2, 0, none⟩) (n + 1) c2)) (fun q e hk => by
      have e' : g = q := by simpa [Value.ownBlock] using e
      exact gH1 (e'.trans hk)))
  have HOG := hide (owns_kept hown (kept_set w3 ⟨H, 13, none⟩ (.slice (some ⟨g2, 0, none⟩) (n + 1) c2)) (fun q e hk => by
      have e' : g2 = q := by simpa [Value.ownBlock] using e
      exact gH (e'.trans hk)))
  have HKF := hide (show Kept (fun q => q = H ∨ (Value.slice sa n sc).ownBlock = some q ∨ (Value.slice ba n bc).ownBlock = some q) w (w3.setCell ⟨H, 13, none⟩ (.slice (some ⟨g2, 0, none⟩) (n + 1) c2)) from
    (HK2.out.trans hKb (fun q e => .inl (.inr (.inr e)))).setCell (.inl (.inl rfl)) _)
  have HAT2 := hide (show (Value.slice ba n bc).ownBlock = some g2 ∨ w.heap.size ≤ g2 by
    rcases hat with e | e
    · exact .inl e
    · have := HK2.out.size; exact .inr (by omega))
  have HGG := hide hgg
  clear hown hgrow hat hlt hgH hB3 gH gH1 nH hgg hKb
  go_wp2
  go_ret
  exact ⟨rfl, g, c1, g2, c2, HBF.out, HOF.out, HOG.out, HKF.out, HAT.out, HAT2.out, HGG.out⟩
end Go.Proofs.YtgaoeoijdpdjiabGreatDoor

namespace Go.Proofs.YtgaoeoijdpdjiabGreatDoor
open Go.RowKit
/-- A trail's cells. -/
def trC (H : Nat) (bg : Value) (su go : Int) : List Value := [.pointer (some ⟨H, 0, none⟩), bg, .int .i64 su, .int .i64 go]
set_option maxRecDepth 20000 in
theorem among_any (lo : Nat) (ba : Option Addr) (m c : Nat) (B : List Int) (k : Int) (w : World) (hr : w.ownsRow lo 3 1 (.slice ba m c) m (B.map (.int .i64))) (hm : m ≤ 8796093022208) :
    Calls Tryz.prog 64 #[.slice ba m c, .int .i64 k] w fun e w' => e = .returned (.bool (decide (k ∈ B))) ∧ w' = w := by
  have HR := hide hr
  have HM := hide hm
  have hlen : B.length = m := by have := hr.1; simpa using this
  have HLN := hide hlen
  clear hr hm hlen
  go_enter Tryz.func64, Tryz.ntmps64
  go_wp2_with fail
  go_loopw [5] (fun i wr => ∃ j : Nat, j ≤ m ∧ i = .int .i64 j ∧ wr = w ∧ Hid (∀ (q : Nat) (y : Int), q < j → B[q]? = some y → y ≠ k)) (fun i _ => m - (intOf i).toNat)
  case atStart => exact ⟨0, Nat.zero_le _, rfl, rfl, fun q y h => absurd h (Nat.not_lt_zero q)⟩
  case round =>
    obtain ⟨j, hj, rfl, rfl, hno⟩ := hrel
    by_cases hlt : j < m
    · obtain ⟨p, hp⟩ : ∃ p, B[j]? = some p := ⟨_, List.getElem?_eq_getElem (by rw [HLN.out]; exact hlt)⟩
      obtain ⟨g, cap, hgv, _, _⟩ := HR.out.form (by omega)
      simp only [Value.slice.injEq] at hgv
      obtain ⟨rfl, _, rfl⟩ := hgv
      have hcap : m ≤ c := by
        rcases HR.out.2 with ⟨_, e⟩ | ⟨_, _, _, e, _, _, h, _⟩
        · omega
        · simp only [Value.slice.injEq] at e; rw [e.2.2]; exact h
      have y0 : wr.cell? ⟨g, j, none⟩ = some (.int .i64 p) := by
        rw [HR.out.cellAt j (by omega), List.getElem?_map, hp]; rfl
      have hms : (j : Int) < (m : Int) := by omega
      have hjm : (j : Int) < 8796093022208 := by have := HM.out; omega
      have HP := hide hp
      clear hp
      by_cases hk : p = k
      · have e1 : (p == k) = true := by simpa using hk
        have HE : Hid (decide (k ∈ B) = true) := decide_eq_true (by rw [← hk]; exact List.mem_of_getElem? HP.out)
        clear hk
        go_wp2
        go_ret
        exact ⟨by rw [HE.out]; rfl, rfl⟩
      · have e1 : (p == k) = false := by simpa using hk
        have HN : Hid (∀ (q : Nat) (y : Int), q < j + 1 → B[q]? = some y → y ≠ k) := fun q y hq hy => by
          by_cases e : q = j
          · subst e
            rw [HP.out] at hy
            cases hy
            exact hk
          · exact hno.out q y (by omega) hy
        clear hk
        go_wp2
        go_roundw
        case rel => exact ⟨j + 1, by omega, by go_num, by trivial, HN.out⟩
        case measure => simp [intOf]; omega
    · have hms : ¬ (j : Int) < (m : Int) := by omega
      have HE : Hid (decide (k ∈ B) = false) := decide_eq_false (fun hm => by
        obtain ⟨q, hq⟩ := List.getElem?_of_mem hm
        have hql := (List.getElem?_eq_some_iff.1 hq).1
        exact hno.out q k (by have := HLN.out; omega) hq rfl)
      clear hno
      go_wp2
      go_ret
      exact ⟨by rw [HE.out]; rfl, rfl⟩
set_option maxRecDepth 20000 in
set_option maxHeartbeats 2000000 in
theorem will_over (TR G : Nat) (nx bd q m : Int) (w : World) (hSt : Calls Tryz.prog 30 #[.pointer (some ⟨G, 0, none⟩)] w fun e w' => e = .returned (.agg #[.int .i64 nx, .int .i64 bd, .int .i64 q, .bool true]) ∧ Below w.heap.size w w') :
    Calls Tryz.prog 101 #[.pointer (some ⟨TR, 0, none⟩), .pointer (some ⟨G, 0, none⟩), .int .i64 m] w fun e w' => e = .returned (.tuple #[]) ∧ Below w.heap.size w w' := by
  have HSt := hide hSt
  clear hSt
  go_enter Tryz.func101, Tryz.ntmps101
  go_wp2_with fail
  refine HSt.out.mono ?_
  rintro e w1 ⟨rfl, hb1⟩
  obtain ⟨W2, hW2⟩ : ∃ W2, w1.alloc (.cells #[.int .i64 nx, .int .i64 bd, .int .i64 q, .bool true] 79) = W2 := ⟨_, rfl⟩
  obtain ⟨SB, hSB⟩ : ∃ SB, w1.heap.size = SB := ⟨_, rfl⟩
  have HBX := hide (show Blk W2 SB [.int .i64 nx, .int .i64 bd, .int .i64 q, .bool true] 79 by rw [← hW2, ← hSB]; exact Blk.new w1 _ _)
  have HB2 := hide (show Below w.heap.size w W2 by rw [← hW2]; exact hb1.alloc hb1.size _)
  have HWE := hide hW2
  have HSE := hide hSB
  clear hb1 hW2 hSB
  have HS := hide (fun (V : World) (h : Below W2.heap.size W2 V) => (by
    have q1 := HBX.out.on h
    exact ⟨q1.cell 0, q1.cell 1, q1.cell 3⟩ : V.cell? ⟨SB, 0, none⟩ = some (.int .i64 nx) ∧ V.cell? ⟨SB, 1, none⟩ = some (.int .i64 bd) ∧ V.cell? ⟨SB, 3, none⟩ = some (.bool true)))
  go_wp2_with fail
  rw [HWE.out, HSE.out]
  refine wp_region_held_drew (S := fun V => V.cell? ⟨SB, 0, none⟩ = some (.int .i64 nx) ∧ V.cell? ⟨SB, 1, none⟩ = some (.int .i64 bd) ∧ V.cell? ⟨SB, 3, none⟩ = some (.bool true)) (by kernel_rfl) (HS.out _ ((Below.refl W2.heap.size W2).drew)) (fun hHeld => ?_)
  refine tk 0 hHeld (h := ?_)
  refine tk 1 hHeld (h := ?_)
  refine tk 2 hHeld (h := ?_)
  refine tk 3 hHeld (h := ?_)
  refine sk 4 hHeld (h := ?_)
  refine sk 5 hHeld (h := ?_)
  refine sk 6 hHeld (h := ?_)
  refine sk 7 hHeld (h := ?_)
  refine sk 8 hHeld (h := ?_)
  refine sk 9 hHeld (h := ?_)
  refine sk 10 hHeld (h := ?_)
  refine sk 11 hHeld (h := ?_)
  refine sk 12 hHeld (h := ?_)
  refine sk 13 hHeld (h := ?_)
  refine sk 14 hHeld (h := ?_)
  refine tk 15 hHeld (h := ?_)
  refine wpAnyH_done (by kernel_rfl) ?_ _
  clear hHeld
  go_wp2
  go_end0
  exact ⟨rfl, HB2.out.drew⟩
set_option maxRecDepth 20000 in
set_option maxHeartbeats 2000000 in
theorem will_full (TR H SD G : Nat) (k b x : Int) (t l : Nat) (s1 s2 s3 o1 o2 o3 : ByteArray) (sv bv gv : Value) (ba : Option Addr) (n bc : Nat) (su go : Int) (nx bd q m : Int) (w : World) (hH : Blk w H (hallC SD k b x t l s1 s2 s3 o1 o2 o3 sv bv gv) 65) (hTR : Blk w TR (trC H (.slice ba n bc) su go) 58) (ht : t ≤ 4) (hl : l ≤ 3) (hSt : Calls Tryz.prog 30 #[.pointer (some ⟨G, 0, none⟩)] w fun e w' => e = .returned (.agg #[.int .i64 nx, .int .i64 bd, .int .i64 q, .bool false]) ∧ Below w.heap.size w w') (hbd : ((2 ^ (t * l) : Nat) : Int) ≤ bd) :
    Calls Tryz.prog 101 #[.pointer (some ⟨TR, 0, none⟩), .pointer (some ⟨G, 0, none⟩), .int .i64 m] w fun e w' => e = .returned (.tuple #[]) ∧ Below w.heap.size w w' := by
  have HTO := hide (fun V : World => keepTotal_any k b x t l V ht hl)
  generalize 2 ^ (t * l) = tot at HTO hbd
  have hdf : decide (bd < (tot : Int)) = false := decide_eq_false (by omega)
  have HH := hide hH
  have HT := hide hTR
  clear hH hTR ht hl hbd
  have HSt := hide hSt
  clear hSt
  go_enter Tryz.func101, Tryz.ntmps101
  go_wp2_with fail
  refine HSt.out.mono ?_
  rintro e w1 ⟨rfl, hb1⟩
  obtain ⟨W2, hW2⟩ : ∃ W2, w1.alloc (.cells #[.int .i64 nx, .int .i64 bd, .int .i64 q, .bool false] 79) = W2 := ⟨_, rfl⟩
  obtain ⟨SB, hSB⟩ : ∃ SB, w1.heap.size = SB := ⟨_, rfl⟩
  have HBX := hide (show Blk W2 SB [.int .i64 nx, .int .i64 bd, .int .i64 q, .bool false] 79 by rw [← hW2, ← hSB]; exact Blk.new w1 _ _)
  have HB2 := hide (show Below w.heap.size w W2 by rw [← hW2]; exact hb1.alloc hb1.size _)
  have HWE := hide hW2
  have HSE := hide hSB
  clear hb1 hW2 hSB
  have HH2 := hide (HH.out.on HB2.out)
  have HT2 := hide (HT.out.on HB2.out)
  have HS := hide (fun (V : World) (h : Blk V SB [.int .i64 nx, .int .i64 bd, .int .i64 q, .bool false] 79 ∧ Blk V H (hallC SD k b x t l s1 s2 s3 o1 o2 o3 sv bv gv) 65 ∧ ∃ bg, Blk V TR (trC H bg su go) 58) => (by
    obtain ⟨q1, q2, bg, q3⟩ := h
    exact ⟨q2.cell 0, q2.cell 1, q2.cell 2, q2.cell 3, q2.cell 4, q3.cell 0, q1.cell 0, q1.cell 1, q1.cell 3⟩ : V.cell? ⟨H, 0, none⟩ = some (.int .i64 k) ∧ V.cell? ⟨H, 1, none⟩ = some (.int .i64 b) ∧ V.cell? ⟨H, 2, none⟩ = some (.int .i64 x) ∧ V.cell? ⟨H, 3, none⟩ = some (.int .i64 t) ∧ V.cell? ⟨H, 4, none⟩ = some (.int .i64 l) ∧ V.cell? ⟨TR, 0, none⟩ = some (.pointer (some ⟨H, 0, none⟩)) ∧ V.cell? ⟨SB, 0, none⟩ = some (.int .i64 nx) ∧ V.cell? ⟨SB, 1, none⟩ = some (.int .i64 bd) ∧ V.cell? ⟨SB, 3, none⟩ = some (.bool false)))
  have HON := hide (fun (V : World) (h : Below W2.heap.size W2 V) => (⟨HBX.out.on h, HH2.out.on h, _, HT2.out.on h⟩ : Blk V SB [.int .i64 nx, .int .i64 bd, .int .i64 q, .bool false] 79 ∧ Blk V H (hallC SD k b x t l s1 s2 s3 o1 o2 o3 sv bv gv) 65 ∧ ∃ bg, Blk V TR (trC H bg su go) 58))
  go_wp2_with fail
  rw [HWE.out, HSE.out]
  refine wp_region_held_drew (S := fun V => V.cell? ⟨H, 0, none⟩ = some (.int .i64 k) ∧ V.cell? ⟨H, 1, none⟩ = some (.int .i64 b) ∧ V.cell? ⟨H, 2, none⟩ = some (.int .i64 x) ∧ V.cell? ⟨H, 3, none⟩ = some (.int .i64 t) ∧ V.cell? ⟨H, 4, none⟩ = some (.int .i64 l) ∧ V.cell? ⟨TR, 0, none⟩ = some (.pointer (some ⟨H, 0, none⟩)) ∧ V.cell? ⟨SB, 0, none⟩ = some (.int .i64 nx) ∧ V.cell? ⟨SB, 1, none⟩ = some (.int .i64 bd) ∧ V.cell? ⟨SB, 3, none⟩ = some (.bool false)) (by kernel_rfl) (HS.out _ (HON.out _ (Below.refl W2.heap.size W2).drew)) (fun hHeld => ?_)
  refine tk 0 hHeld (h := ?_)
  refine tk 1 hHeld (h := ?_)
  refine tk 2 hHeld (h := ?_)
  refine tk 3 hHeld (h := ?_)
  refine tk 4 hHeld (h := ?_)
  refine tk 5 hHeld (h := ?_)
  refine tk 6 hHeld (h := ?_)
  refine tk 7 hHeld (h := ?_)
  refine tk 8 hHeld (h := ?_)
  refine tk 9 hHeld (h := ?_)
  refine tk 10 hHeld (h := ?_)
  refine tk 11 hHeld (h := ?_)
  refine tk 12 hHeld (h := ?_)
  refine wpAnyH_ready (rs := [13]) (by kernel_rfl) (by simp) ?_
  refine AllReadyH.cons (o := ?oa13) ?hoa13 (fun K hK => ?hsa13) AllReadyH.nil
  case hoa13 => (simp only [List.getElem?_toArray, List.getElem?_cons_succ, List.getElem?_cons_zero]; rfl)
  go_simp
  go_at_call 29
  refine (HTO.out _).mono ?_
  rintro e w4 ⟨rfl, hb4⟩
  have HB4 := hide (heldB (Below.refl W2.heap.size W2).drew hb4 (Nat.le_refl _))
  clear hb4
  try go_wp2_with fail
  refine hK.out _ _ (HS.out _ (HON.out _ HB4.out)) (fun hHeld => ?_)
  clear hK K
  try simp only [Act.put, List.setIfInBounds_toArray, List.set_cons_zero, List.set_cons_succ]
  refine tk 14 hHeld (h := ?_)
  refine tk 15 hHeld (h := ?_)
  refine wpAnyH_done (by kernel_rfl) ?_ _
  clear hHeld
  have HBF := hide (HB2.out.trans (HB4.out.mono HB2.out.size))
  go_wp2
  go_end0
  exact ⟨rfl, HBF.out⟩
end Go.Proofs.YtgaoeoijdpdjiabGreatDoor

namespace Go.Proofs.YtgaoeoijdpdjiabGreatDoor
open Go.RowKit
theorem blkK {w w' : World} {X : Nat → Prop} {b : Nat} {vs : List Value} {T : TypeId} (h : Blk w b vs T) (hk : Kept X w w') (hn : ¬ X b) : Blk w' b vs T := by
  unfold Blk at h ⊢
  rw [hk.block b (Blk.lt h) hn]; exact h
set_option maxRecDepth 20000 in
set_option maxHeartbeats 4000000 in
theorem will_yes (lo TR H SD G : Nat) (k b x : Int) (t l : Nat) (s1 s2 s3 o1 o2 o3 : ByteArray) (sv bv gv : Value) (ba : Option Addr) (n bc : Nat) (su go : Int) (xs : List Value) (nx bd q m : Int) (nb : Int) (w : World) (hH : Blk w H (hallC SD k b x t l s1 s2 s3 o1 o2 o3 sv bv gv) 65) (hTR : Blk w TR (trC H (.slice ba n bc) su go) 58) (ht : t ≤ 4) (hl : l ≤ 3) (hSt : Calls Tryz.prog 30 #[.pointer (some ⟨G, 0, none⟩)] w fun e w' => e = .returned (.agg #[.int .i64 nx, .int .i64 bd, .int .i64 q, .bool false]) ∧ Below w.heap.size w w') (hbd : bd < ((2 ^ (t * l) : Nat) : Int)) (hnb : (if bd + m < ((2 ^ (t * l) : Nat) : Int) then bd + m else ((2 ^ (t * l) : Nat) : Int)) = nb) (hbm : IntKind.i64.wrap (bd + m) = bd + m)
    (hlo : lo ≤ w.heap.size) (hn : n ≤ 8796093022208) (hr : w.ownsRow lo 3 1 (.slice ba n bc) n xs) (hT : (Value.slice ba n bc).ownBlock ≠ some TR) (hHo : (Value.slice ba n bc).ownBlock ≠ some H) (hTH : H ≠ TR) :
    Calls Tryz.prog 101 #[.pointer (some ⟨TR, 0, none⟩), .pointer (some ⟨G, 0, none⟩), .int .i64 m] w fun e w' => e = .returned (.tuple #[]) ∧ ∃ g cap, Blk w' TR (trC H (.slice (some ⟨g, 0, none⟩) (n + 1) cap) su go) 58 ∧ w'.ownsRow lo 3 1 (.slice (some ⟨g, 0, none⟩) (n + 1) cap) (n + 1) (xs ++ [.int .i64 nb]) ∧ Kept (fun q => q = TR ∨ (Value.slice ba n bc).ownBlock = some q) w w' ∧ ((Value.slice ba n bc).ownBlock = some g ∨ w.heap.size ≤ g) := by
  obtain ⟨i1, hi1, hy0, hy1, hy2⟩ := info_parts infoIn
  have HLE := hide (fun V : World => lesser_any (bd + m) ((2 ^ (t * l) : Nat) : Int) V)
  rw [hnb] at HLE
  have HTO := hide (fun V : World => keepTotal_any k b x t l V ht hl)
  generalize 2 ^ (t * l) = tot at HTO HLE hbd
  have hdf : decide (bd < (tot : Int)) = true := decide_eq_true hbd
  have HH := hide hH
  have HT := hide hTR
  have HR := hide hr
  have HLW := hide hlo
  have HNX := hide (And.intro hT (And.intro hHo hTH))
  have N1 : Hid (n + 1 ≤ maxLen) := by show _ ≤ _; unfold maxLen; omega
  have N2 : Hid ((n + 1) * 8 ≤ 140737488355328) := by show _ ≤ _; omega
  have HTL := hide hTR.lt
  have HHL := hide hH.lt
  clear hH hTR ht hl hbd hnb hlo hn hr hT hHo hTH
  have HSt := hide hSt
  clear hSt
  go_enter Tryz.func101, Tryz.ntmps101
  go_wp2_with fail
  refine HSt.out.mono ?_
  rintro e w1 ⟨rfl, hb1⟩
  have HB1 := hide hb1
  obtain ⟨W2, hW2⟩ : ∃ W2, w1.alloc (.cells #[.int .i64 nx, .int .i64 bd, .int .i64 q, .bool false] 79) = W2 := ⟨_, rfl⟩
  obtain ⟨SB, hSB⟩ : ∃ SB, w1.heap.size = SB := ⟨_, rfl⟩
  have HBX := hide (show Blk W2 SB [.int .i64 nx, .int .i64 bd, .int .i64 q, .bool false] 79 by rw [← hW2, ← hSB]; exact Blk.new w1 _ _)
  have HB2 := hide (show Below w.heap.size w W2 by rw [← hW2]; exact hb1.alloc hb1.size _)
  have HWE := hide hW2
  have HSE := hide hSB
  clear hb1 hW2 hSB
  have HSBL := hide (show w.heap.size ≤ SB by rw [← HSE.out]; exact HB1.out.size)
  have HH2 := hide (HH.out.on HB2.out)
  have HT2 := hide (HT.out.on HB2.out)
  have HS := hide (fun (V : World) (h : Blk V SB [.int .i64 nx, .int .i64 bd, .int .i64 q, .bool false] 79 ∧ Blk V H (hallC SD k b x t l s1 s2 s3 o1 o2 o3 sv bv gv) 65 ∧ ∃ bg, Blk V TR (trC H bg su go) 58) => (by
    obtain ⟨q1, q2, bg, q3⟩ := h
    exact ⟨q2.cell 0, q2.cell 1, q2.cell 2, q2.cell 3, q2.cell 4, q3.cell 0, q1.cell 0, q1.cell 1, q1.cell 3⟩ : V.cell? ⟨H, 0, none⟩ = some (.int .i64 k) ∧ V.cell? ⟨H, 1, none⟩ = some (.int .i64 b) ∧ V.cell? ⟨H, 2, none⟩ = some (.int .i64 x) ∧ V.cell? ⟨H, 3, none⟩ = some (.int .i64 t) ∧ V.cell? ⟨H, 4, none⟩ = some (.int .i64 l) ∧ V.cell? ⟨TR, 0, none⟩ = some (.pointer (some ⟨H, 0, none⟩)) ∧ V.cell? ⟨SB, 0, none⟩ = some (.int .i64 nx) ∧ V.cell? ⟨SB, 1, none⟩ = some (.int .i64 bd) ∧ V.cell? ⟨SB, 3, none⟩ = some (.bool false)))
  have HON := hide (fun (V : World) (h : Below W2.heap.size W2 V) => (⟨HBX.out.on h, HH2.out.on h, _, HT2.out.on h⟩ : Blk V SB [.int .i64 nx, .int .i64 bd, .int .i64 q, .bool false] 79 ∧ Blk V H (hallC SD k b x t l s1 s2 s3 o1 o2 o3 sv bv gv) 65 ∧ ∃ bg, Blk V TR (trC H bg su go) 58))
  go_wp2_with fail
  rw [HWE.out, HSE.out]
  refine wp_region_held_drew (S := fun V => V.cell? ⟨H, 0, none⟩ = some (.int .i64 k) ∧ V.cell? ⟨H, 1, none⟩ = some (.int .i64 b) ∧ V.cell? ⟨H, 2, none⟩ = some (.int .i64 x) ∧ V.cell? ⟨H, 3, none⟩ = some (.int .i64 t) ∧ V.cell? ⟨H, 4, none⟩ = some (.int .i64 l) ∧ V.cell? ⟨TR, 0, none⟩ = some (.pointer (some ⟨H, 0, none⟩)) ∧ V.cell? ⟨SB, 0, none⟩ = some (.int .i64 nx) ∧ V.cell? ⟨SB, 1, none⟩ = some (.int .i64 bd) ∧ V.cell? ⟨SB, 3, none⟩ = some (.bool false)) (by kernel_rfl) (HS.out _ (HON.out _ (Below.refl W2.heap.size W2).drew)) (fun hHeld => ?_)
  refine tk 0 hHeld (h := ?_)
  refine tk 1 hHeld (h := ?_)
  refine tk 2 hHeld (h := ?_)
  refine tk 3 hHeld (h := ?_)
  refine tk 4 hHeld (h := ?_)
  refine tk 5 hHeld (h := ?_)
  refine tk 6 hHeld (h := ?_)
  refine tk 7 hHeld (h := ?_)
  refine tk 8 hHeld (h := ?_)
  refine tk 9 hHeld (h := ?_)
  refine tk 10 hHeld (h := ?_)
  refine tk 11 hHeld (h := ?_)
  refine tk 12 hHeld (h := ?_)
  refine wpAnyH_ready (rs := [13]) (by kernel_rfl) (by simp) ?_
  refine AllReadyH.cons (o := ?oa13) ?hoa13 (fun K hK => ?hsa13) AllReadyH.nil
  case hoa13 => (simp only [List.getElem?_toArray, List.getElem?_cons_succ, List.getElem?_cons_zero]; rfl)
  go_simp
  go_at_call 29
  refine (HTO.out _).mono ?_
  rintro e w4 ⟨rfl, hb4⟩
  have HB4 := hide (heldB (Below.refl W2.heap.size W2).drew hb4 (Nat.le_refl _))
  clear hb4
  try go_wp2_with fail
  refine hK.out _ _ (HS.out _ (HON.out _ HB4.out)) (fun hHeld => ?_)
  clear hK K
  try simp only [Act.put, List.setIfInBounds_toArray, List.set_cons_zero, List.set_cons_succ]
  refine tk 14 hHeld (h := ?_)
  refine tk 15 hHeld (h := ?_)
  refine wpAnyH_done (by kernel_rfl) ?_ _
  clear hHeld
  obtain ⟨W4, hW4⟩ : ∃ W4, w4.drew = W4 := ⟨_, rfl⟩
  have HBW := hide (show Below w.heap.size w W4 by rw [← hW4]; exact (HB2.out.trans (HB4.out.mono HB2.out.size)).drew)
  have HSB4 := hide (show Blk W4 SB [.int .i64 nx, .int .i64 bd, .int .i64 q, .bool false] 79 by rw [← hW4]; exact HBX.out.on HB4.out.drew)
  have HH4 := hide (show Blk W4 H (hallC SD k b x t l s1 s2 s3 o1 o2 o3 sv bv gv) 65 by rw [← hW4]; exact HH2.out.on HB4.out.drew)
  have HTR4 := hide (show Blk W4 TR (trC H (.slice ba n bc) su go) 58 by rw [← hW4]; exact HT2.out.on HB4.out.drew)
  have HON4 := hide (fun (V : World) (h : Below W4.heap.size W4 V) => (⟨HSB4.out.on h, HH4.out.on h, _, HTR4.out.on h⟩ : Blk V SB [.int .i64 nx, .int .i64 bd, .int .i64 q, .bool false] 79 ∧ Blk V H (hallC SD k b x t l s1 s2 s3 o1 o2 o3 sv bv gv) 65 ∧ ∃ bg, Blk V TR (trC H bg su go) 58))
  have HRO := hide (fun (V : World) (h : Below W4.heap.size W4 V) => owns_kept HR.out (Kept.of_below (F := fun _ => False) (HBW.out.trans (h.mono HBW.out.size))) (fun _ _ e => e))
  have HLO := hide (Nat.le_trans HLW.out HBW.out.size)
  have HNB := hide (show (Value.slice ba n bc).ownBlock ≠ some TR ∧ (Value.slice ba n bc).ownBlock ≠ some H ∧ (Value.slice ba n bc).ownBlock ≠ some SB from ⟨HNX.out.1, HNX.out.2.1, fun e => by have := (HR.out.lt SB e).2; have := HSBL.out; omega⟩)
  have HNE := hide (show H ≠ TR ∧ SB ≠ TR from ⟨HNX.out.2.2, by have := HSBL.out; have := HTL.out; omega⟩)
  have HKZ := hide (fun (V : World) (h : Kept (fun q => q = TR ∨ (Value.slice ba n bc).ownBlock = some q) W4 V) => (Kept.of_below (F := fun q => q = TR ∨ (Value.slice ba n bc).ownBlock = some q) HBW.out).trans h (fun _ e => .inl e))
  have HAZ := hide (fun (g : Nat) (h : (Value.slice ba n bc).ownBlock = some g ∨ W4.heap.size ≤ g) => (h.imp id (fun e => Nat.le_trans HBW.out.size e) : (Value.slice ba n bc).ownBlock = some g ∨ w.heap.size ≤ g))
  have HWE4 := hide hW4
  clear hW4
  go_wp2_with fail
  refine wp_region_held_drew (S := fun V => V.cell? ⟨H, 0, none⟩ = some (.int .i64 k) ∧ V.cell? ⟨H, 1, none⟩ = some (.int .i64 b) ∧ V.cell? ⟨H, 2, none⟩ = some (.int .i64 x) ∧ V.cell? ⟨H, 3, none⟩ = some (.int .i64 t) ∧ V.cell? ⟨H, 4, none⟩ = some (.int .i64 l) ∧ V.cell? ⟨TR, 0, none⟩ = some (.pointer (some ⟨H, 0, none⟩)) ∧ V.cell? ⟨SB, 0, none⟩ = some (.int .i64 nx) ∧ V.cell? ⟨SB, 1, none⟩ = some (.int .i64 bd) ∧ V.cell? ⟨SB, 3, none⟩ = some (.bool false)) (by kernel_rfl) (HS.out _ (by rw [HWE4.out]; exact HON4.out _ (Below.refl W4.heap.size W4))) (fun hHeld => ?_)
  rw [HWE4.out] at hHeld ⊢
  refine tk 0 hHeld (h := ?_)
  refine tk 1 hHeld (h := ?_)
  refine tk 2 hHeld (h := ?_)
  refine tk 3 hHeld (h := ?_)
  refine tk 5 hHeld (h := ?_)
  refine tk 6 hHeld (h := ?_)
  refine tk 7 hHeld (h := ?_)
  refine tk 8 hHeld (h := ?_)
  refine tk 9 hHeld (h := ?_)
  refine tk 10 hHeld (h := ?_)
  refine tk 11 hHeld (h := ?_)
  refine tk 12 hHeld (h := ?_)
  refine tk 13 hHeld (h := ?_)
  refine tk 14 hHeld (h := ?_)
  refine tk 15 hHeld (h := ?_)
  refine wpAnyH_ready (rs := [4, 16]) (by kernel_rfl) (by simp) ?_
  refine AllReadyH.cons (o := ?oA1) ?hA1 (fun K hK => ?sA1) (AllReadyH.cons (o := ?oB1) ?hB1 (fun K hK => ?sB1) AllReadyH.nil)
  case hA1 => (simp only [List.getElem?_toArray, List.getElem?_cons_succ, List.getElem?_cons_zero]; rfl)
  case hB1 => (simp only [List.getElem?_toArray, List.getElem?_cons_succ, List.getElem?_cons_zero]; rfl)
  case sA1 =>
    have c1 := (HTR4.out.on (Below.refl W4.heap.size W4)).cell 1
    simp only [trC, List.getElem?_cons_zero, List.getElem?_cons_succ] at c1
    go_simp
    clear c1
    refine hK.out _ _ (HS.out _ (HON4.out _ (Below.refl W4.heap.size W4))) (fun hHeld => ?_)
    clear hK K
    try simp only [Act.put, List.setIfInBounds_toArray, List.set_cons_zero, List.set_cons_succ]
    refine wpAnyH_ready (rs := [16]) (by kernel_rfl) (by simp) ?_
    refine AllReadyH.cons (o := ?oA2) ?hA2 (fun K hK => ?sA2) AllReadyH.nil
    case hA2 => (simp only [List.getElem?_toArray, List.getElem?_cons_succ, List.getElem?_cons_zero]; rfl)
    go_simp
    go_at_call 29
    refine (HTO.out _).mono ?_
    rintro e w5 ⟨rfl, hb5⟩
    have HB5 := hide (heldB (Below.refl W4.heap.size W4) hb5 (Nat.le_refl _))
    clear hb5
    try go_wp2_with fail
    refine hK.out _ _ (HS.out _ (HON4.out _ HB5.out)) (fun hHeld => ?_)
    clear hK K
    try simp only [Act.put, List.setIfInBounds_toArray, List.set_cons_zero, List.set_cons_succ]
    refine wpAnyH_ready (rs := [17]) (by kernel_rfl) (by simp) ?_
    refine AllReadyH.cons (o := ?oA3) ?hA3 (fun K hK => ?sA3) AllReadyH.nil
    case hA3 => (simp only [List.getElem?_toArray, List.getElem?_cons_succ, List.getElem?_cons_zero]; rfl)
    go_simp
    go_at_call 32
    refine (HLE.out _).mono ?_
    rintro e w6 ⟨rfl, hb6⟩
    have HB6 := hide (heldB HB5.out hb6 (Nat.le_refl _))
    clear hb6
    try go_wp2_with fail
    refine hK.out _ _ (HS.out _ (HON4.out _ HB6.out)) (fun hHeld => ?_)
    clear hK K
    try simp only [Act.put, List.setIfInBounds_toArray, List.set_cons_zero, List.set_cons_succ]
    refine wpAnyH_ready (rs := [18]) (by kernel_rfl) (by simp) ?_
    refine AllReadyH.cons (o := ?oA4) ?hA4 (fun K hK => ?sA4) AllReadyH.nil
    case hA4 => (simp only [List.getElem?_toArray, List.getElem?_cons_succ, List.getElem?_cons_zero]; rfl)
    go_simp
    obtain ⟨W7, hW7⟩ : ∃ W7, w6.alloc (.cells #[.int .i64 nb] 3) = W7 := ⟨_, rfl⟩
    have HB7 := hide (show Below W4.heap.size W4 W7 by rw [← hW7]; exact HB6.out.alloc HB6.out.size _)
    have HNW := hide (show ∀ j u, [Value.int .i64 nb][j]? = some u → W7.cell? ((⟨w6.heap.size, 0, none⟩ : Addr).add j) = some u by rw [← hW7]; exact one_newO w6 _ _)
    have HZ7 := hide (show W7.heap.size = w6.heap.size + 1 by rw [← hW7]; exact World.size_alloc _ _)
    rw [hW7]
    clear hW7
    refine hK.out _ _ (HS.out _ (HON4.out _ HB7.out)) (fun hHeld => ?_)
    clear hK K
    try simp only [Act.put, List.setIfInBounds_toArray, List.set_cons_zero, List.set_cons_succ]
    refine wpAnyH_ready (rs := [19]) (by kernel_rfl) (by simp) ?_
    refine AllReadyH.cons (o := ?oA5) ?hA5 (fun K hK => ?sA5) AllReadyH.nil
    case hA5 => (simp only [List.getElem?_toArray, List.getElem?_cons_succ, List.getElem?_cons_zero]; rfl)
    refine step_append_lies _ (by rfl) (.tmp 29) (.tmp 43) 56 (by rfl) lo 3 i1 (.int .i64 0) 1 8 Tryz.underlying56 hi1 hy0 hy1 hy2 (by rfl) (by decide) (.slice ba n bc) n xs (by rfl) (HRO.out W7 HB7.out) ⟨w6.heap.size, 0, none⟩ 1 1 [.int .i64 nb] (by rfl) (by rfl) HNW.out (fun u hu => by rw [List.mem_singleton] at hu; rw [hu]; rfl) (by decide) N1.out N2.out (Nat.le_trans HLO.out HB7.out.size) (w6.heap.size + 1) HZ7.out ?_
    intro g cap w8 hown hgrow hat hlt
    have hK8 := Kept.grown (F := fun q => (Value.slice ba n bc).ownBlock = some q) (Kept.of_below HB7.out) hgrow (fun q e => .inl e)
    have HSB8 := hide (blkK HSB4.out hK8 HNB.out.2.2)
    have HH8 := hide (blkK HH4.out hK8 HNB.out.2.1)
    have HTR8 := hide (blkK HTR4.out hK8 HNB.out.1)
    have HAT := hide (show (Value.slice ba n bc).ownBlock = some g ∨ W4.heap.size ≤ g by
      rcases hat with e | e
      · exact .inl e
      · have := HB6.out.size; exact .inr (by omega))
    have HGT := hide (show g ≠ TR by
      rcases HAT.out with e | e
      · intro e2; subst e2; exact HNB.out.1 e
      · have := HTR4.out.lt; omega)
    have HOW := hide hown
    have HK8 := hide hK8
    clear hown hgrow hat hlt hK8
    refine hK.out _ _ (HS.out _ ⟨HSB8.out, HH8.out, _, HTR8.out⟩) (fun hHeld => ?_)
    clear hK K
    try simp only [Act.put, List.setIfInBounds_toArray, List.set_cons_zero, List.set_cons_succ]
    refine tk 20 hHeld (h := ?_)
    refine tk 21 hHeld (h := ?_)
    have f1 := HTR8.out.free 1
    have c1 := HTR8.out.cell 1
    simp only [trC, List.getElem?_cons_zero, List.getElem?_cons_succ] at c1
    have HTR9 := hide (HTR8.out.set 1 (.slice (some ⟨g, 0, none⟩) (n + 1) cap))
    have HSB9 := hide (HSB8.out.other (a := ⟨TR, 1, none⟩) (.slice (some ⟨g, 0, none⟩) (n + 1) cap) HNE.out.2)
    have HH9 := hide (HH8.out.other (a := ⟨TR, 1, none⟩) (.slice (some ⟨g, 0, none⟩) (n + 1) cap) HNE.out.1)
    have HOF := hide (owns_kept HOW.out (kept_set w8 ⟨TR, 1, none⟩ (.slice (some ⟨g, 0, none⟩) (n + 1) cap)) (fun q e hk => by
      have e' : g = q := by simpa [Value.ownBlock] using e
      exact HGT.out (e'.trans hk)))
    have HKF := hide (show Kept (fun q => q = TR ∨ (Value.slice ba n bc).ownBlock = some q) W4 (w8.setCell ⟨TR, 1, none⟩ (.slice (some ⟨g, 0, none⟩) (n + 1) cap)) from (HK8.out.mono (fun q _ e => .inr e)).setCell (.inl (.inl rfl)) _)
    refine wpAnyH_ready (rs := [22]) (by kernel_rfl) (by simp) ?_
    refine AllReadyH.cons (o := ?oA6) ?hA6 (fun K hK => ?sA6) AllReadyH.nil
    case hA6 => (simp only [List.getElem?_toArray, List.getElem?_cons_succ, List.getElem?_cons_zero]; rfl)
    go_simp
    clear f1 c1
    refine hK.out _ _ (HS.out _ ⟨HSB9.out, HH9.out, _, HTR9.out⟩) (fun hHeld => ?_)
    clear hK K
    try simp only [Act.put, List.setIfInBounds_toArray, List.set_cons_zero, List.set_cons_succ]
    refine wpAnyH_done (by kernel_rfl) ?_ _
    clear hHeld
    go_wp2
    go_end0
    exact ⟨rfl, g, cap, HTR9.out, HOF.out, HKZ.out _ HKF.out, HAZ.out _ HAT.out⟩
  case sB1 =>
    go_simp
    go_at_call 29
    refine (HTO.out _).mono ?_
    rintro e w5 ⟨rfl, hb5⟩
    have HB5 := hide (heldB (Below.refl W4.heap.size W4) hb5 (Nat.le_refl _))
    clear hb5
    try go_wp2_with fail
    refine hK.out _ _ (HS.out _ (HON4.out _ HB5.out)) (fun hHeld => ?_)
    clear hK K
    try simp only [Act.put, List.setIfInBounds_toArray, List.set_cons_zero, List.set_cons_succ]
    refine wpAnyH_ready (rs := [4, 17]) (by kernel_rfl) (by simp) ?_
    refine AllReadyH.cons (o := ?oA7) ?hA7 (fun K hK => ?sA7) (AllReadyH.cons (o := ?oB7) ?hB7 (fun K hK => ?sB7) AllReadyH.nil)
    case hA7 => (simp only [List.getElem?_toArray, List.getElem?_cons_succ, List.getElem?_cons_zero]; rfl)
    case hB7 => (simp only [List.getElem?_toArray, List.getElem?_cons_succ, List.getElem?_cons_zero]; rfl)
    case sA7 =>
      have c1 := (HTR4.out.on HB5.out).cell 1
      simp only [trC, List.getElem?_cons_zero, List.getElem?_cons_succ] at c1
      go_simp
      clear c1
      refine hK.out _ _ (HS.out _ (HON4.out _ HB5.out)) (fun hHeld => ?_)
      clear hK K
      try simp only [Act.put, List.setIfInBounds_toArray, List.set_cons_zero, List.set_cons_succ]
      refine wpAnyH_ready (rs := [17]) (by kernel_rfl) (by simp) ?_
      refine AllReadyH.cons (o := ?oA8) ?hA8 (fun K hK => ?sA8) AllReadyH.nil
      case hA8 => (simp only [List.getElem?_toArray, List.getElem?_cons_succ, List.getElem?_cons_zero]; rfl)
      go_simp
      go_at_call 32
      refine (HLE.out _).mono ?_
      rintro e w6 ⟨rfl, hb6⟩
      have HB6 := hide (heldB HB5.out hb6 (Nat.le_refl _))
      clear hb6
      try go_wp2_with fail
      refine hK.out _ _ (HS.out _ (HON4.out _ HB6.out)) (fun hHeld => ?_)
      clear hK K
      try simp only [Act.put, List.setIfInBounds_toArray, List.set_cons_zero, List.set_cons_succ]
      refine wpAnyH_ready (rs := [18]) (by kernel_rfl) (by simp) ?_
      refine AllReadyH.cons (o := ?oA9) ?hA9 (fun K hK => ?sA9) AllReadyH.nil
      case hA9 => (simp only [List.getElem?_toArray, List.getElem?_cons_succ, List.getElem?_cons_zero]; rfl)
      go_simp
      obtain ⟨W7, hW7⟩ : ∃ W7, w6.alloc (.cells #[.int .i64 nb] 3) = W7 := ⟨_, rfl⟩
      have HB7 := hide (show Below W4.heap.size W4 W7 by rw [← hW7]; exact HB6.out.alloc HB6.out.size _)
      have HNW := hide (show ∀ j u, [Value.int .i64 nb][j]? = some u → W7.cell? ((⟨w6.heap.size, 0, none⟩ : Addr).add j) = some u by rw [← hW7]; exact one_newO w6 _ _)
      have HZ7 := hide (show W7.heap.size = w6.heap.size + 1 by rw [← hW7]; exact World.size_alloc _ _)
      rw [hW7]
      clear hW7
      refine hK.out _ _ (HS.out _ (HON4.out _ HB7.out)) (fun hHeld => ?_)
      clear hK K
      try simp only [Act.put, List.setIfInBounds_toArray, List.set_cons_zero, List.set_cons_succ]
      refine wpAnyH_ready (rs := [19]) (by kernel_rfl) (by simp) ?_
      refine AllReadyH.cons (o := ?oA10) ?hA10 (fun K hK => ?sA10) AllReadyH.nil
      case hA10 => (simp only [List.getElem?_toArray, List.getElem?_cons_succ, List.getElem?_cons_zero]; rfl)
      refine step_append_lies _ (by rfl) (.tmp 29) (.tmp 43) 56 (by rfl) lo 3 i1 (.int .i64 0) 1 8 Tryz.underlying56 hi1 hy0 hy1 hy2 (by rfl) (by decide) (.slice ba n bc) n xs (by rfl) (HRO.out W7 HB7.out) ⟨w6.heap.size, 0, none⟩ 1 1 [.int .i64 nb] (by rfl) (by rfl) HNW.out (fun u hu => by rw [List.mem_singleton] at hu; rw [hu]; rfl) (by decide) N1.out N2.out (Nat.le_trans HLO.out HB7.out.size) (w6.heap.size + 1) HZ7.out ?_
      intro g cap w8 hown hgrow hat hlt
      have hK8 := Kept.grown (F := fun q => (Value.slice ba n bc).ownBlock = some q) (Kept.of_below HB7.out) hgrow (fun q e => .inl e)
      have HSB8 := hide (blkK HSB4.out hK8 HNB.out.2.2)
      have HH8 := hide (blkK HH4.out hK8 HNB.out.2.1)
      have HTR8 := hide (blkK HTR4.out hK8 HNB.out.1)
      have HAT := hide (show (Value.slice ba n bc).ownBlock = some g ∨ W4.heap.size ≤ g by
        rcases hat with e | e
        · exact .inl e
        · have := HB6.out.size; exact .inr (by omega))
      have HGT := hide (show g ≠ TR by
        rcases HAT.out with e | e
        · intro e2; subst e2; exact HNB.out.1 e
        · have := HTR4.out.lt; omega)
      have HOW := hide hown
      have HK8 := hide hK8
      clear hown hgrow hat hlt hK8
      refine hK.out _ _ (HS.out _ ⟨HSB8.out, HH8.out, _, HTR8.out⟩) (fun hHeld => ?_)
      clear hK K
      try simp only [Act.put, List.setIfInBounds_toArray, List.set_cons_zero, List.set_cons_succ]
      refine tk 20 hHeld (h := ?_)
      refine tk 21 hHeld (h := ?_)
      have f1 := HTR8.out.free 1
      have c1 := HTR8.out.cell 1
      simp only [trC, List.getElem?_cons_zero, List.getElem?_cons_succ] at c1
      have HTR9 := hide (HTR8.out.set 1 (.slice (some ⟨g, 0, none⟩) (n + 1) cap))
      have HSB9 := hide (HSB8.out.other (a := ⟨TR, 1, none⟩) (.slice (some ⟨g, 0, none⟩) (n + 1) cap) HNE.out.2)
      have HH9 := hide (HH8.out.other (a := ⟨TR, 1, none⟩) (.slice (some ⟨g, 0, none⟩) (n + 1) cap) HNE.out.1)
      have HOF := hide (owns_kept HOW.out (kept_set w8 ⟨TR, 1, none⟩ (.slice (some ⟨g, 0, none⟩) (n + 1) cap)) (fun q e hk => by
        have e' : g = q := by simpa [Value.ownBlock] using e
        exact HGT.out (e'.trans hk)))
      have HKF := hide (show Kept (fun q => q = TR ∨ (Value.slice ba n bc).ownBlock = some q) W4 (w8.setCell ⟨TR, 1, none⟩ (.slice (some ⟨g, 0, none⟩) (n + 1) cap)) from (HK8.out.mono (fun q _ e => .inr e)).setCell (.inl (.inl rfl)) _)
      refine wpAnyH_ready (rs := [22]) (by kernel_rfl) (by simp) ?_
      refine AllReadyH.cons (o := ?oA11) ?hA11 (fun K hK => ?sA11) AllReadyH.nil
      case hA11 => (simp only [List.getElem?_toArray, List.getElem?_cons_succ, List.getElem?_cons_zero]; rfl)
      go_simp
      clear f1 c1
      refine hK.out _ _ (HS.out _ ⟨HSB9.out, HH9.out, _, HTR9.out⟩) (fun hHeld => ?_)
      clear hK K
      try simp only [Act.put, List.setIfInBounds_toArray, List.set_cons_zero, List.set_cons_succ]
      refine wpAnyH_done (by kernel_rfl) ?_ _
      clear hHeld
      go_wp2
      go_end0
      exact ⟨rfl, g, cap, HTR9.out, HOF.out, HKZ.out _ HKF.out, HAZ.out _ HAT.out⟩
    case sB7 =>
      go_simp
      go_at_call 32
      refine (HLE.out _).mono ?_
      rintro e w6 ⟨rfl, hb6⟩
      have HB6 := hide (heldB HB5.out hb6 (Nat.le_refl _))
      clear hb6
      try go_wp2_with fail
      refine hK.out _ _ (HS.out _ (HON4.out _ HB6.out)) (fun hHeld => ?_)
      clear hK K
      try simp only [Act.put, List.setIfInBounds_toArray, List.set_cons_zero, List.set_cons_succ]
      refine wpAnyH_ready (rs := [4, 18]) (by kernel_rfl) (by simp) ?_
      refine AllReadyH.cons (o := ?oA12) ?hA12 (fun K hK => ?sA12) (AllReadyH.cons (o := ?oB12) ?hB12 (fun K hK => ?sB12) AllReadyH.nil)
      case hA12 => (simp only [List.getElem?_toArray, List.getElem?_cons_succ, List.getElem?_cons_zero]; rfl)
      case hB12 => (simp only [List.getElem?_toArray, List.getElem?_cons_succ, List.getElem?_cons_zero]; rfl)
      case sA12 =>
        have c1 := (HTR4.out.on HB6.out).cell 1
        simp only [trC, List.getElem?_cons_zero, List.getElem?_cons_succ] at c1
        go_simp
        clear c1
        refine hK.out _ _ (HS.out _ (HON4.out _ HB6.out)) (fun hHeld => ?_)
        clear hK K
        try simp only [Act.put, List.setIfInBounds_toArray, List.set_cons_zero, List.set_cons_succ]
        refine wpAnyH_ready (rs := [18]) (by kernel_rfl) (by simp) ?_
        refine AllReadyH.cons (o := ?oA13) ?hA13 (fun K hK => ?sA13) AllReadyH.nil
        case hA13 => (simp only [List.getElem?_toArray, List.getElem?_cons_succ, List.getElem?_cons_zero]; rfl)
        go_simp
        obtain ⟨W7, hW7⟩ : ∃ W7, w6.alloc (.cells #[.int .i64 nb] 3) = W7 := ⟨_, rfl⟩
        have HB7 := hide (show Below W4.heap.size W4 W7 by rw [← hW7]; exact HB6.out.alloc HB6.out.size _)
        have HNW := hide (show ∀ j u, [Value.int .i64 nb][j]? = some u → W7.cell? ((⟨w6.heap.size, 0, none⟩ : Addr).add j) = some u by rw [← hW7]; exact one_newO w6 _ _)
        have HZ7 := hide (show W7.heap.size = w6.heap.size + 1 by rw [← hW7]; exact World.size_alloc _ _)
        rw [hW7]
        clear hW7
        refine hK.out _ _ (HS.out _ (HON4.out _ HB7.out)) (fun hHeld => ?_)
        clear hK K
        try simp only [Act.put, List.setIfInBounds_toArray, List.set_cons_zero, List.set_cons_succ]
        refine wpAnyH_ready (rs := [19]) (by kernel_rfl) (by simp) ?_
        refine AllReadyH.cons (o := ?oA14) ?hA14 (fun K hK => ?sA14) AllReadyH.nil
        case hA14 => (simp only [List.getElem?_toArray, List.getElem?_cons_succ, List.getElem?_cons_zero]; rfl)
        refine step_append_lies _ (by rfl) (.tmp 29) (.tmp 43) 56 (by rfl) lo 3 i1 (.int .i64 0) 1 8 Tryz.underlying56 hi1 hy0 hy1 hy2 (by rfl) (by decide) (.slice ba n bc) n xs (by rfl) (HRO.out W7 HB7.out) ⟨w6.heap.size, 0, none⟩ 1 1 [.int .i64 nb] (by rfl) (by rfl) HNW.out (fun u hu => by rw [List.mem_singleton] at hu; rw [hu]; rfl) (by decide) N1.out N2.out (Nat.le_trans HLO.out HB7.out.size) (w6.heap.size + 1) HZ7.out ?_
        intro g cap w8 hown hgrow hat hlt
        have hK8 := Kept.grown (F := fun q => (Value.slice ba n bc).ownBlock = some q) (Kept.of_below HB7.out) hgrow (fun q e => .inl e)
        have HSB8 := hide (blkK HSB4.out hK8 HNB.out.2.2)
        have HH8 := hide (blkK HH4.out hK8 HNB.out.2.1)
        have HTR8 := hide (blkK HTR4.out hK8 HNB.out.1)
        have HAT := hide (show (Value.slice ba n bc).ownBlock = some g ∨ W4.heap.size ≤ g by
          rcases hat with e | e
          · exact .inl e
          · have := HB6.out.size; exact .inr (by omega))
        have HGT := hide (show g ≠ TR by
          rcases HAT.out with e | e
          · intro e2; subst e2; exact HNB.out.1 e
          · have := HTR4.out.lt; omega)
        have HOW := hide hown
        have HK8 := hide hK8
        clear hown hgrow hat hlt hK8
        refine hK.out _ _ (HS.out _ ⟨HSB8.out, HH8.out, _, HTR8.out⟩) (fun hHeld => ?_)
        clear hK K
        try simp only [Act.put, List.setIfInBounds_toArray, List.set_cons_zero, List.set_cons_succ]
        refine tk 20 hHeld (h := ?_)
        refine tk 21 hHeld (h := ?_)
        have f1 := HTR8.out.free 1
        have c1 := HTR8.out.cell 1
        simp only [trC, List.getElem?_cons_zero, List.getElem?_cons_succ] at c1
        have HTR9 := hide (HTR8.out.set 1 (.slice (some ⟨g, 0, none⟩) (n + 1) cap))
        have HSB9 := hide (HSB8.out.other (a := ⟨TR, 1, none⟩) (.slice (some ⟨g, 0, none⟩) (n + 1) cap) HNE.out.2)
        have HH9 := hide (HH8.out.other (a := ⟨TR, 1, none⟩) (.slice (some ⟨g, 0, none⟩) (n + 1) cap) HNE.out.1)
        have HOF := hide (owns_kept HOW.out (kept_set w8 ⟨TR, 1, none⟩ (.slice (some ⟨g, 0, none⟩) (n + 1) cap)) (fun q e hk => by
          have e' : g = q := by simpa [Value.ownBlock] using e
          exact HGT.out (e'.trans hk)))
        have HKF := hide (show Kept (fun q => q = TR ∨ (Value.slice ba n bc).ownBlock = some q) W4 (w8.setCell ⟨TR, 1, none⟩ (.slice (some ⟨g, 0, none⟩) (n + 1) cap)) from (HK8.out.mono (fun q _ e => .inr e)).setCell (.inl (.inl rfl)) _)
        refine wpAnyH_ready (rs := [22]) (by kernel_rfl) (by simp) ?_
        refine AllReadyH.cons (o := ?oA15) ?hA15 (fun K hK => ?sA15) AllReadyH.nil
        case hA15 => (simp only [List.getElem?_toArray, List.getElem?_cons_succ, List.getElem?_cons_zero]; rfl)
        go_simp
        clear f1 c1
        refine hK.out _ _ (HS.out _ ⟨HSB9.out, HH9.out, _, HTR9.out⟩) (fun hHeld => ?_)
        clear hK K
        try simp only [Act.put, List.setIfInBounds_toArray, List.set_cons_zero, List.set_cons_succ]
        refine wpAnyH_done (by kernel_rfl) ?_ _
        clear hHeld
        go_wp2
        go_end0
        exact ⟨rfl, g, cap, HTR9.out, HOF.out, HKZ.out _ HKF.out, HAZ.out _ HAT.out⟩
      case sB12 =>
        go_simp
        obtain ⟨W7, hW7⟩ : ∃ W7, w6.alloc (.cells #[.int .i64 nb] 3) = W7 := ⟨_, rfl⟩
        have HB7 := hide (show Below W4.heap.size W4 W7 by rw [← hW7]; exact HB6.out.alloc HB6.out.size _)
        have HNW := hide (show ∀ j u, [Value.int .i64 nb][j]? = some u → W7.cell? ((⟨w6.heap.size, 0, none⟩ : Addr).add j) = some u by rw [← hW7]; exact one_newO w6 _ _)
        have HZ7 := hide (show W7.heap.size = w6.heap.size + 1 by rw [← hW7]; exact World.size_alloc _ _)
        rw [hW7]
        clear hW7
        refine hK.out _ _ (HS.out _ (HON4.out _ HB7.out)) (fun hHeld => ?_)
        clear hK K
        try simp only [Act.put, List.setIfInBounds_toArray, List.set_cons_zero, List.set_cons_succ]
        refine wpAnyH_ready (rs := [4]) (by kernel_rfl) (by simp) ?_
        refine AllReadyH.cons (o := ?oA16) ?hA16 (fun K hK => ?sA16) AllReadyH.nil
        case hA16 => (simp only [List.getElem?_toArray, List.getElem?_cons_succ, List.getElem?_cons_zero]; rfl)
        have c1 := (HTR4.out.on HB7.out).cell 1
        simp only [trC, List.getElem?_cons_zero, List.getElem?_cons_succ] at c1
        go_simp
        clear c1
        refine hK.out _ _ (HS.out _ (HON4.out _ HB7.out)) (fun hHeld => ?_)
        clear hK K
        try simp only [Act.put, List.setIfInBounds_toArray, List.set_cons_zero, List.set_cons_succ]
        refine wpAnyH_ready (rs := [19]) (by kernel_rfl) (by simp) ?_
        refine AllReadyH.cons (o := ?oA17) ?hA17 (fun K hK => ?sA17) AllReadyH.nil
        case hA17 => (simp only [List.getElem?_toArray, List.getElem?_cons_succ, List.getElem?_cons_zero]; rfl)
        refine step_append_lies _ (by rfl) (.tmp 29) (.tmp 43) 56 (by rfl) lo 3 i1 (.int .i64 0) 1 8 Tryz.underlying56 hi1 hy0 hy1 hy2 (by rfl) (by decide) (.slice ba n bc) n xs (by rfl) (HRO.out W7 HB7.out) ⟨w6.heap.size, 0, none⟩ 1 1 [.int .i64 nb] (by rfl) (by rfl) HNW.out (fun u hu => by rw [List.mem_singleton] at hu; rw [hu]; rfl) (by decide) N1.out N2.out (Nat.le_trans HLO.out HB7.out.size) (w6.heap.size + 1) HZ7.out ?_
        intro g cap w8 hown hgrow hat hlt
        have hK8 := Kept.grown (F := fun q => (Value.slice ba n bc).ownBlock = some q) (Kept.of_below HB7.out) hgrow (fun q e => .inl e)
        have HSB8 := hide (blkK HSB4.out hK8 HNB.out.2.2)
        have HH8 := hide (blkK HH4.out hK8 HNB.out.2.1)
        have HTR8 := hide (blkK HTR4.out hK8 HNB.out.1)
        have HAT := hide (show (Value.slice ba n bc).ownBlock = some g ∨ W4.heap.size ≤ g by
          rcases hat with e | e
          · exact .inl e
          · have := HB6.out.size; exact .inr (by omega))
        have HGT := hide (show g ≠ TR by
          rcases HAT.out with e | e
          · intro e2; subst e2; exact HNB.out.1 e
          · have := HTR4.out.lt; omega)
        have HOW := hide hown
        have HK8 := hide hK8
        clear hown hgrow hat hlt hK8
        refine hK.out _ _ (HS.out _ ⟨HSB8.out, HH8.out, _, HTR8.out⟩) (fun hHeld => ?_)
        clear hK K
        try simp only [Act.put, List.setIfInBounds_toArray, List.set_cons_zero, List.set_cons_succ]
        refine tk 20 hHeld (h := ?_)
        refine tk 21 hHeld (h := ?_)
        have f1 := HTR8.out.free 1
        have c1 := HTR8.out.cell 1
        simp only [trC, List.getElem?_cons_zero, List.getElem?_cons_succ] at c1
        have HTR9 := hide (HTR8.out.set 1 (.slice (some ⟨g, 0, none⟩) (n + 1) cap))
        have HSB9 := hide (HSB8.out.other (a := ⟨TR, 1, none⟩) (.slice (some ⟨g, 0, none⟩) (n + 1) cap) HNE.out.2)
        have HH9 := hide (HH8.out.other (a := ⟨TR, 1, none⟩) (.slice (some ⟨g, 0, none⟩) (n + 1) cap) HNE.out.1)
        have HOF := hide (owns_kept HOW.out (kept_set w8 ⟨TR, 1, none⟩ (.slice (some ⟨g, 0, none⟩) (n + 1) cap)) (fun q e hk => by
          have e' : g = q := by simpa [Value.ownBlock] using e
          exact HGT.out (e'.trans hk)))
        have HKF := hide (show Kept (fun q => q = TR ∨ (Value.slice ba n bc).ownBlock = some q) W4 (w8.setCell ⟨TR, 1, none⟩ (.slice (some ⟨g, 0, none⟩) (n + 1) cap)) from (HK8.out.mono (fun q _ e => .inr e)).setCell (.inl (.inl rfl)) _)
        refine wpAnyH_ready (rs := [22]) (by kernel_rfl) (by simp) ?_
        refine AllReadyH.cons (o := ?oA18) ?hA18 (fun K hK => ?sA18) AllReadyH.nil
        case hA18 => (simp only [List.getElem?_toArray, List.getElem?_cons_succ, List.getElem?_cons_zero]; rfl)
        go_simp
        clear f1 c1
        refine hK.out _ _ (HS.out _ ⟨HSB9.out, HH9.out, _, HTR9.out⟩) (fun hHeld => ?_)
        clear hK K
        try simp only [Act.put, List.setIfInBounds_toArray, List.set_cons_zero, List.set_cons_succ]
        refine wpAnyH_done (by kernel_rfl) ?_ _
        clear hHeld
        go_wp2
        go_end0
        exact ⟨rfl, g, cap, HTR9.out, HOF.out, HKZ.out _ HKF.out, HAZ.out _ HAT.out⟩
end Go.Proofs.YtgaoeoijdpdjiabGreatDoor

namespace Go.Proofs.YtgaoeoijdpdjiabGreatDoor
open Go.RowKit
set_option maxRecDepth 20000 in
set_option maxHeartbeats 2000000 in
theorem treserves_no (TR H SD : Nat) (k b x t l : Int) (s1 s2 s3 o1 o2 o3 : ByteArray) (g ns sc i G : Nat) (bv gv bg : Value) (su go : Int) (m c : Int) (Q1 Q2 : World → Prop) (w : World) (hH : Blk w H (hallC SD k b x t l s1 s2 s3 o1 o2 o3 (.slice (some ⟨g, 0, none⟩) ns sc) bv gv) 65) (hTR : Blk w TR (trC H bg su go) 58) (hi : i < ns) (hsc : ns ≤ sc) (hgc : w.cell? ⟨g, i, none⟩ = some (.pointer (some ⟨G, 0, none⟩))) (hns : ns ≤ 8796093022208) (hc : c ≠ 0)
    (hW : Calls Tryz.prog 101 #[.pointer (some ⟨TR, 0, none⟩), .pointer (some ⟨G, 0, none⟩), .int .i64 m] w fun e w' => e = .returned (.tuple #[]) ∧ Q1 w')
    (hR : ∀ V, Q1 V → Calls Tryz.prog 31 #[.pointer (some ⟨G, 0, none⟩), .int .i64 m] V fun e w' => e = .returned (.tuple #[.int .i64 0, .int .i64 c]) ∧ Q2 w') :
    Calls Tryz.prog 58 #[.pointer (some ⟨TR, 0, none⟩), .int .i64 i, .int .i64 m] w fun e w' => e = .returned (.bool true) ∧ Q2 w' := by
  have t0 : w.cell? ⟨TR, 0, none⟩ = some (.pointer (some ⟨H, 0, none⟩)) := hTR.cell 0
  have h12 : w.cell? ⟨H, 12, none⟩ = some (.slice (some ⟨g, 0, none⟩) ns sc) := hH.cell 12
  have hi3 : (i : Int) < (ns : Int) := by omega
  have hi5 : i < sc := by omega
  have hi6 : (i : Int) < 8796093022208 := by omega
  have HW := hide hW
  have HR := hide hR
  have e1 : (c == 0) = false := by simpa using hc
  clear hH hTR hi hsc hns hc hW hR
  go_enter Tryz.func58, Tryz.ntmps58
  go_wp2_with fail
  refine HW.out.mono ?_
  rintro e w1 ⟨rfl, hq1⟩
  have HR1 := hide (HR.out _ hq1)
  clear hq1 t0 h12 hgc hi3 hi5 hi6
  go_wp2_with fail
  refine HR1.out.mono ?_
  rintro e w2 ⟨rfl, hq2⟩
  have HQ := hide hq2
  clear hq2
  go_wp2
  go_ret
  exact ⟨rfl, HQ.out⟩
set_option maxRecDepth 20000 in
set_option maxHeartbeats 2000000 in
theorem treserves_up (lo : Nat) (TR H SD : Nat) (k b x t l : Int) (s1 s2 s3 o1 o2 o3 : ByteArray) (g ns sc i G : Nat) (bv gv bg : Value) (su go : Int) (m nb : Int) (Q1 Q2 : World → Prop) (w : World) (hH : Blk w H (hallC SD k b x t l s1 s2 s3 o1 o2 o3 (.slice (some ⟨g, 0, none⟩) ns sc) bv gv) 65) (hTR : Blk w TR (trC H bg su go) 58) (hi : i < ns) (hsc : ns ≤ sc) (hgc : w.cell? ⟨g, i, none⟩ = some (.pointer (some ⟨G, 0, none⟩))) (hns : ns ≤ 8796093022208) (hcm : su < nb)
    (hW : Calls Tryz.prog 101 #[.pointer (some ⟨TR, 0, none⟩), .pointer (some ⟨G, 0, none⟩), .int .i64 m] w fun e w' => e = .returned (.tuple #[]) ∧ Q1 w')
    (hR : ∀ V, Q1 V → Calls Tryz.prog 31 #[.pointer (some ⟨G, 0, none⟩), .int .i64 m] V fun e w' => e = .returned (.tuple #[.int .i64 nb, .int .i64 0]) ∧ Q2 w')
    (hQ2 : ∀ V, Q2 V → ∃ (ba : Option Addr) (n bc : Nat) (B : List Int), Blk V TR (trC H (.slice ba n bc) su go) 58 ∧ V.ownsRow lo 3 1 (.slice ba n bc) n (B.map (.int .i64)) ∧ n ≤ 8796093022208 ∧ nb ∈ B ∧ (Value.slice ba n bc).ownBlock ≠ some TR) :
    Calls Tryz.prog 58 #[.pointer (some ⟨TR, 0, none⟩), .int .i64 i, .int .i64 m] w fun e w' => e = .returned (.bool true) ∧ ∃ V bg, Q2 V ∧ Blk V TR (trC H bg su go) 58 ∧ Blk w' TR (trC H bg nb go) 58 ∧ Kept (fun q => q = TR) V w' := by
  have t0 : w.cell? ⟨TR, 0, none⟩ = some (.pointer (some ⟨H, 0, none⟩)) := hTR.cell 0
  have h12 : w.cell? ⟨H, 12, none⟩ = some (.slice (some ⟨g, 0, none⟩) ns sc) := hH.cell 12
  have hi3 : (i : Int) < (ns : Int) := by omega
  have hi5 : i < sc := by omega
  have hi6 : (i : Int) < 8796093022208 := by omega
  have HW := hide hW
  have HR := hide hR
  have HQ2 := hide hQ2
  have e1 : decide (su < nb) = true := decide_eq_true hcm
  clear hH hTR hi hsc hns hcm hW hR hQ2
  go_enter Tryz.func58, Tryz.ntmps58
  go_wp2_with fail
  refine HW.out.mono ?_
  rintro e w1 ⟨rfl, hq1⟩
  have HR1 := hide (HR.out _ hq1)
  clear hq1 t0 h12 hgc hi3 hi5 hi6
  go_wp2_with fail
  refine HR1.out.mono ?_
  rintro e w2 ⟨rfl, hq2⟩
  obtain ⟨ba, n, bc, B, b2, r2, hn, hin, hTo⟩ := HQ2.out _ hq2
  have HN := hide hn
  have HIN := hide hin
  have HTO := hide hTo
  have HB2 := hide b2
  clear hn hin hTo
  have HQ := hide hq2
  have c2 : w2.cell? ⟨TR, 2, none⟩ = some (.int .i64 su) := b2.cell 2
  have f2 : w2.frozen? ⟨TR, 2, none⟩ = false := b2.free 2
  have c1 : w2.cell? ⟨TR, 1, none⟩ = some (.slice ba n bc) := b2.cell 1
  have HB3 := hide (b2.set 2 (.int .i64 nb))
  have HK3 := hide (kept_set w2 ⟨TR, 2, none⟩ (.int .i64 nb))
  have HR3 := hide (owns_kept r2 (kept_set w2 ⟨TR, 2, none⟩ (.int .i64 nb)) (fun q e hk => by
    have hk' : q = TR := hk
    subst hk'
    exact HTO.out e))
  have HAM := hide (among_any lo ba n bc B nb _ HR3.out HN.out)
  rw [decide_eq_true HIN.out] at HAM
  clear hq2 b2 r2
  go_wp2_with fail
  refine HAM.out.mono ?_
  rintro e w3 ⟨rfl, hw3⟩
  subst hw3
  clear c1 c2 f2
  go_wp2
  go_ret
  exact ⟨rfl, w2, _, HQ.out, HB2.out, HB3.out, HK3.out⟩
set_option maxRecDepth 20000 in
set_option maxHeartbeats 2000000 in
theorem treserves_on (lo : Nat) (TR H SD : Nat) (k b x t l : Int) (s1 s2 s3 o1 o2 o3 : ByteArray) (g ns sc i G : Nat) (bv gv bg : Value) (su go : Int) (m nb : Int) (Q1 Q2 : World → Prop) (w : World) (hH : Blk w H (hallC SD k b x t l s1 s2 s3 o1 o2 o3 (.slice (some ⟨g, 0, none⟩) ns sc) bv gv) 65) (hTR : Blk w TR (trC H bg su go) 58) (hi : i < ns) (hsc : ns ≤ sc) (hgc : w.cell? ⟨g, i, none⟩ = some (.pointer (some ⟨G, 0, none⟩))) (hns : ns ≤ 8796093022208) (hcm : nb ≤ su)
    (hW : Calls Tryz.prog 101 #[.pointer (some ⟨TR, 0, none⟩), .pointer (some ⟨G, 0, none⟩), .int .i64 m] w fun e w' => e = .returned (.tuple #[]) ∧ Q1 w')
    (hR : ∀ V, Q1 V → Calls Tryz.prog 31 #[.pointer (some ⟨G, 0, none⟩), .int .i64 m] V fun e w' => e = .returned (.tuple #[.int .i64 nb, .int .i64 0]) ∧ Q2 w')
    (hQ2 : ∀ V, Q2 V → ∃ (ba : Option Addr) (n bc : Nat) (B : List Int), Blk V TR (trC H (.slice ba n bc) su go) 58 ∧ V.ownsRow lo 3 1 (.slice ba n bc) n (B.map (.int .i64)) ∧ n ≤ 8796093022208 ∧ nb ∈ B ∧ (Value.slice ba n bc).ownBlock ≠ some TR) :
    Calls Tryz.prog 58 #[.pointer (some ⟨TR, 0, none⟩), .int .i64 i, .int .i64 m] w fun e w' => e = .returned (.bool true) ∧ ∃ V bg, Q2 V ∧ Blk V TR (trC H bg su go) 58 ∧ Blk w' TR (trC H bg su go) 58 ∧ Kept (fun q => q = TR) V w' := by
  have t0 : w.cell? ⟨TR, 0, none⟩ = some (.pointer (some ⟨H, 0, none⟩)) := hTR.cell 0
  have h12 : w.cell? ⟨H, 12, none⟩ = some (.slice (some ⟨g, 0, none⟩) ns sc) := hH.cell 12
  have hi3 : (i : Int) < (ns : Int) := by omega
  have hi5 : i < sc := by omega
  have hi6 : (i : Int) < 8796093022208 := by omega
  have HW := hide hW
  have HR := hide hR
  have HQ2 := hide hQ2
  have e1 : decide (su < nb) = false := decide_eq_false (by omega)
  clear hH hTR hi hsc hns hcm hW hR hQ2
  go_enter Tryz.func58, Tryz.ntmps58
  go_wp2_with fail
  refine HW.out.mono ?_
  rintro e w1 ⟨rfl, hq1⟩
  have HR1 := hide (HR.out _ hq1)
  clear hq1 t0 h12 hgc hi3 hi5 hi6
  go_wp2_with fail
  refine HR1.out.mono ?_
  rintro e w2 ⟨rfl, hq2⟩
  obtain ⟨ba, n, bc, B, b2, r2, hn, hin, hTo⟩ := HQ2.out _ hq2
  have HN := hide hn
  have HIN := hide hin
  have HTO := hide hTo
  have HB2 := hide b2
  clear hn hin hTo
  have HQ := hide hq2
  have c2 : w2.cell? ⟨TR, 2, none⟩ = some (.int .i64 su) := b2.cell 2
  have f2 : w2.frozen? ⟨TR, 2, none⟩ = false := b2.free 2
  have c1 : w2.cell? ⟨TR, 1, none⟩ = some (.slice ba n bc) := b2.cell 1
  have HB3 := hide b2
  have HAM := hide (among_any lo ba n bc B nb _ r2 HN.out)
  rw [decide_eq_true HIN.out] at HAM
  clear hq2 b2 r2
  go_wp2_with fail
  refine HAM.out.mono ?_
  rintro e w3 ⟨rfl, hw3⟩
  subst hw3
  clear c1 c2 f2
  go_wp2
  go_ret
  exact ⟨rfl, _, _, HQ.out, HB2.out, HB3.out, Kept.refl _ _⟩
end Go.Proofs.YtgaoeoijdpdjiabGreatDoor
