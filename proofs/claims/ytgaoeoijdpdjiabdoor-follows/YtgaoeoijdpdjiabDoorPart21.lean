/-
  The program's Of: ErrArg, ErrLong, or the first n bytes of the whole. The statement's own 'digits' (as many as chains, each a digit), at a set that is right and a text of its length.
-/
import Derived.Test.YtgaoeoijdpdjiabDoorPart20
import Derived.Test.YtgaoeoijdpdjiabDoorPart3
import Derived.BigQuiet
import Derived.Deep.QuietTactic
namespace Go.Proofs.YtgaoeoijdpdjiabDoor
open Go.RowKit

def whole32 (s : ByteArray) : ByteArray := textOf (outs 4 (soak32 (padRow s ((s.size / 16 + 1) * 16)) (s.size / 16 + 1)) 16)
def whole64 (s : ByteArray) : ByteArray := textOf (outs 8 (soak64 (padRow s ((s.size / 32 + 1) * 32)) (s.size / 32 + 1)) 32)
theorem whole32_size (s : ByteArray) : (whole32 s).size = 16 := by unfold whole32; rw [textOf_size, outs_length]
theorem whole64_size (s : ByteArray) : (whole64 s).size = 32 := by unfold whole64; rw [textOf_size, outs_length]
theorem whole32_at (s : ByteArray) (w : World) (hs : s.size ≤ 400) (hT : Turns32 w) (hw : 1 < w.heap.size) :
    Calls Tryd.prog 55 #[.string s] w fun e w' => e = .returned (.string (whole32 s)) ∧ Below w.heap.size w w' := whole_32 s w hs hT hw
theorem whole64_at (s : ByteArray) (w : World) (hs : s.size ≤ 400) (hT : Turns64 w) (hw : 1 < w.heap.size) :
    Calls Tryd.prog 56 #[.string s] w fun e w' => e = .returned (.string (whole64 s)) ∧ Below w.heap.size w w' := whole_64 s w hs hT hw

theorem of_arg (kind n : Int) (s : ByteArray) (w : World) (h : ¬ ((kind = 1 ∨ kind = 2) ∧ 1 ≤ n ∧ n ≤ 16)) :
    Calls Tryd.prog 38 #[.int .i64 kind, .int .i64 n, .string s] w fun e w' => e = .returned (.tuple #[.string ⟨#[]⟩, .int .i64 2]) ∧ w' = w := by
  by_cases h1 : kind = 1
  · subst h1
    by_cases h2 : n < 1
    · go_enter Tryd.func38, Tryd.ntmps38
      go_wp2
      go_ret2
      exact ⟨rfl, rfl⟩
    · have h3 : 16 < n := by omega
      go_enter Tryd.func38, Tryd.ntmps38
      go_wp2
      go_ret2
      exact ⟨rfl, rfl⟩
  · by_cases h1' : kind = 2
    · subst h1'
      by_cases h2 : n < 1
      · go_enter Tryd.func38, Tryd.ntmps38
        go_wp2
        go_ret2
        exact ⟨rfl, rfl⟩
      · have h3 : 16 < n := by omega
        go_enter Tryd.func38, Tryd.ntmps38
        go_wp2
        go_ret2
        exact ⟨rfl, rfl⟩
    · go_enter Tryd.func38, Tryd.ntmps38
      go_wp2
      go_ret2
      exact ⟨rfl, rfl⟩

theorem of_long (kind n : Int) (s : ByteArray) (w : World) (h1 : kind = 1 ∨ kind = 2) (h2 : 1 ≤ n) (h3 : n ≤ 16) (hs : 400 < s.size) :
    Calls Tryd.prog 38 #[.int .i64 kind, .int .i64 n, .string s] w fun e w' => e = .returned (.tuple #[.string ⟨#[]⟩, .int .i64 3]) ∧ w' = w := by
  rcases h1 with rfl | rfl
  · go_enter Tryd.func38, Tryd.ntmps38
    go_wp2
    go_ret2
    exact ⟨rfl, rfl⟩
  · go_enter Tryd.func38, Tryd.ntmps38
    go_wp2
    go_ret2
    exact ⟨rfl, rfl⟩

theorem of_32 (n : Nat) (s : ByteArray) (w : World) (h2 : 1 ≤ n) (h3 : n ≤ 16) (hs : s.size ≤ 400) (hT : Turns32 w) (hw : 1 < w.heap.size) :
    Calls Tryd.prog 38 #[.int .i64 1, .int .i64 (n : Int), .string s] w fun e w' => e = .returned (.tuple #[.string ((whole32 s).extract 0 n), .int .i64 0]) ∧ Below w.heap.size w w' := by
  have HW := hide (whole32_at s w hs hT hw)
  have hz := whole32_size s
  clear hT
  go_enter Tryd.func38, Tryd.ntmps38
  go_wp2_with fail
  refine HW.out.mono ?_
  rintro e w1 ⟨rfl, hb⟩
  go_wp2
  go_ret2
  exact ⟨rfl, hb⟩
theorem of_64 (n : Nat) (s : ByteArray) (w : World) (h2 : 1 ≤ n) (h3 : n ≤ 16) (hs : s.size ≤ 400) (hT : Turns64 w) (hw : 1 < w.heap.size) :
    Calls Tryd.prog 38 #[.int .i64 2, .int .i64 (n : Int), .string s] w fun e w' => e = .returned (.tuple #[.string ((whole64 s).extract 0 n), .int .i64 0]) ∧ Below w.heap.size w w' := by
  have HW := hide (whole64_at s w hs hT hw)
  have hz := whole64_size s
  clear hT
  go_enter Tryd.func38, Tryd.ntmps38
  go_wp2_with fail
  refine HW.out.mono ?_
  rintro e w1 ⟨rfl, hb⟩
  go_wp2
  go_ret2
  exact ⟨rfl, hb⟩

/-- What signet.Digest answers. -/
def digAns (kind n : Int) (s : ByteArray) : ByteArray × Int :=
  if (kind = 1 ∨ kind = 2) ∧ 1 ≤ n ∧ n ≤ 16 then (if s.size ≤ 400 then (if kind = 1 then ((whole32 s).extract 0 n.toNat, 0) else ((whole64 s).extract 0 n.toNat, 0)) else (⟨#[]⟩, 3)) else (⟨#[]⟩, 2)

theorem of_ans (kind n : Int) (s : ByteArray) (w : World) (h3 : Turns32 w) (h6 : Turns64 w) (hw : 1 < w.heap.size) :
    Calls Tryd.prog 38 #[.int .i64 kind, .int .i64 n, .string s] w fun e w' => e = .returned (.tuple #[.string (digAns kind n s).1, .int .i64 (digAns kind n s).2]) ∧ Below w.heap.size w w' := by
  by_cases h : (kind = 1 ∨ kind = 2) ∧ 1 ≤ n ∧ n ≤ 16
  · obtain ⟨hk, h1, h2⟩ := h
    by_cases hs : s.size ≤ 400
    · obtain ⟨m, rfl⟩ : ∃ m : Nat, n = (m : Int) := ⟨n.toNat, by omega⟩
      rcases hk with rfl | rfl
      · refine (of_32 m s w (by omega) (by omega) hs h3 hw).mono ?_
        rintro e w' ⟨rfl, hb⟩
        exact ⟨by simp [digAns, h1, h2, hs], hb⟩
      · refine (of_64 m s w (by omega) (by omega) hs h6 hw).mono ?_
        rintro e w' ⟨rfl, hb⟩
        exact ⟨by simp [digAns, h1, h2, hs], hb⟩
    · refine (of_long kind n s w hk h1 h2 (by omega)).mono ?_
      rintro e w' ⟨rfl, rfl⟩
      exact ⟨by simp [digAns, hk, h1, h2, hs], Below.refl _ _⟩
  · refine (of_arg kind n s w h).mono ?_
    rintro e w' ⟨rfl, rfl⟩
    exact ⟨by rw [digAns, if_neg h], Below.refl _ _⟩

theorem digest_ans (kind n : Int) (s : ByteArray) (w : World) (h3 : Turns32 w) (h6 : Turns64 w) (hw : 1 < w.heap.size) :
    Calls Tryd.prog 24 #[.int .i64 kind, .int .i64 n, .string s] w fun e w' => e = .returned (.tuple #[.string (digAns kind n s).1, .int .i64 (digAns kind n s).2]) ∧ Below w.heap.size w w' := by
  have HO := hide (of_ans kind n s w h3 h6 hw)
  clear h3 h6
  go_enter Tryd.func24, Tryd.ntmps24
  go_wp2_with fail
  refine HO.out.mono ?_
  rintro e w1 ⟨rfl, hb⟩
  go_wp2
  go_ret2
  exact ⟨rfl, hb⟩
end Go.Proofs.YtgaoeoijdpdjiabDoor

namespace Go.Proofs.YtgaoeoijdpdjiabDoor
open Go.RowKit

theorem pair_chains (b x e f : Nat) (hp : Pair b x e f) : chainsK b x = b * e + f := by
  rcases hp with ⟨rfl, rfl, rfl, rfl⟩ | ⟨rfl, rfl, rfl, rfl⟩ | ⟨rfl, rfl, rfl, rfl⟩ | ⟨rfl, rfl, rfl, rfl⟩ <;> rfl

set_option maxHeartbeats 400000 in
theorem keepDigits_any (b x e f : Nat) (hp : Pair b x e f) (k t l : Int) (m : ByteArray) (w : World) (hk : k = 1 ∨ k = 2) (h1 : 1 ≤ t) (h2 : t ≤ 4) (h3 : 1 ≤ l) (h4 : l ≤ 3) (hm : m.size = b) :
    Calls Tryd.prog 34 #[.agg #[.int .i64 k, .int .i64 b, .int .i64 x, .int .i64 t, .int .i64 l], .string m] w fun r w' =>
      ∃ g, r = .returned (.tuple #[.slice (some ⟨g, 0, none⟩) (b * e + f) (b * e + f), .bool true]) ∧ w.heap.size ≤ g ∧ RowZ w' g ((digitsN x e f (bytesN m)).map Int.ofNat) ∧ Below w.heap.size w w' := by
  have hch := pair_chains b x e f hp
  have hn : b * e + f ≤ 36 := by rcases hp with ⟨rfl, rfl, rfl, rfl⟩ | ⟨rfl, rfl, rfl, rfl⟩ | ⟨rfl, rfl, rfl, rfl⟩ | ⟨rfl, rfl, rfl, rfl⟩ <;> decide
  have hx16 : x ≤ 16 := by rcases hp with ⟨rfl, rfl, rfl, rfl⟩ | ⟨rfl, rfl, rfl, rfl⟩ | ⟨rfl, rfl, rfl, rfl⟩ | ⟨rfl, rfl, rfl, rfl⟩ <;> decide
  have hx0 : 0 < x := by rcases hp with ⟨rfl, rfl, rfl, rfl⟩ | ⟨rfl, rfl, rfl, rfl⟩ | ⟨rfl, rfl, rfl, rfl⟩ | ⟨rfl, rfl, rfl, rfl⟩ <;> decide
  have hbb : b = 4 ∨ b = 8 := by rcases hp with ⟨rfl, _⟩ | ⟨rfl, _⟩ | ⟨rfl, _⟩ | ⟨rfl, _⟩ <;> decide
  have hxx : x = 4 ∨ x = 16 := by rcases hp with ⟨_, rfl, _⟩ | ⟨_, rfl, _⟩ | ⟨_, rfl, _⟩ | ⟨_, rfl, _⟩ <;> decide
  have hlen : (digitsN x e f (bytesN m)).length = b * e + f := by rw [digitsN_length, bytesN_length, hm]
  have hlt := digitsN_lt x e f (bytesN m) hx0
  have HC := hideM (digits_any b x e f hp k t l m (w.alloc (.cells #[.int .i64 k, .int .i64 b, .int .i64 x, .int .i64 t, .int .i64 l] 23)) hk h1 h2 h3 h4 hm)
  generalize hD : digitsN x e f (bytesN m) = D at HC hlen hlt ⊢
  have HCH := hideM (fun w' : World => keepChains_any b x k t l w' hbb hxx)
  rw [hch] at HCH
  generalize hN : b * e + f = n at HC HCH hlen hn ⊢
  clear hp hm hbb hxx hch hD hN
  have HLEN := hideM hlen
  have HLT := hideM hlt
  clear hlen hlt
  go_enter Tryd.func34, Tryd.ntmps34
  go_wp2_with fail
  refine HC.out.mono ?_
  rintro r w1 ⟨g, rfl, hg, hr, hb⟩
  have hz := hb.size
  simp at hg hz
  have hz2 : w.heap.size < w1.heap.size := by omega
  have c0 : w1.cell? ⟨w.heap.size, 0, none⟩ = some (.int .i64 k) := (hb.cell (by simp)).trans (by simp [go_sem])
  have c1 : w1.cell? ⟨w.heap.size, 1, none⟩ = some (.int .i64 b) := (hb.cell (by simp)).trans (by simp [go_sem])
  have c2 : w1.cell? ⟨w.heap.size, 2, none⟩ = some (.int .i64 x) := (hb.cell (by simp)).trans (by simp [go_sem])
  have c3 : w1.cell? ⟨w.heap.size, 3, none⟩ = some (.int .i64 t) := (hb.cell (by simp)).trans (by simp [go_sem])
  have c4 : w1.cell? ⟨w.heap.size, 4, none⟩ = some (.int .i64 l) := (hb.cell (by simp)).trans (by simp [go_sem])
  have HR := hideM hr
  have HB := hideM (((Below.refl _ _).alloc (Nat.le_refl _) _).trans (hb.mono (by simp)) : Below w.heap.size w w1)
  clear hr hb
  go_wp2_with fail
  refine (HCH.out _).mono ?_
  rintro r w2 ⟨rfl, hb2⟩
  have d2 : w2.cell? ⟨w.heap.size, 2, none⟩ = some (.int .i64 x) := (hb2.cell (by exact hz2)).trans c2
  have HR2 := hideM (HR.out.below hb2 HR.out.lt)
  have HB2 := hideM (HB.out.trans (hb2.mono (by omega)))
  clear hb2 c0 c1 c2 c3 c4
  go_wp2
  go_loopw [8] (fun i wr => ∃ j : Nat, j ≤ n ∧ i = .int .i64 j ∧ Hid (RowZ wr g (D.map Int.ofNat)) ∧ wr.cell? ⟨w.heap.size, 2, none⟩ = some (.int .i64 x) ∧ Hid (Below w.heap.size w wr)) (fun i _ => n - (intOf i).toNat)
  case atStart => exact ⟨0, by omega, rfl, HR2, d2, HB2⟩
  case round =>
    obtain ⟨j, hj, rfl, hr, cx, hb⟩ := hrel
    by_cases hlt : j < n
    · have hjD : j < D.length := by have := HLEN.out; omega
      have c := hr.out.cell (i := j) (by simpa using hjD)
      have hd := at0_lt D x j hx0 HLT.out
      have e1 : (D.map Int.ofNat)[j]?.getD 0 = ((at0M D j : Nat) : Int) := by simp [at0M, List.getElem?_eq_getElem hjD]
      rw [e1] at c
      generalize at0M D j = d at c hd
      clear e1 hjD
      have g1 : decide ((d : Int) < 0) = false := by simp
      have g2 : decide ((x : Int) ≤ (d : Int)) = false := by simp; omega
      go_wp2
      go_quiet (fail)
      go_wp2
      go_roundw
      case rel => exact ⟨j + 1, by omega, by go_num, hr.out.drewN _, by simpa [go_sem] using cx, below_drewN hb.out _⟩
      case measure => simp [intOf]; omega
    · obtain rfl : j = n := by omega
      go_wp2
      go_ret2
      exact ⟨g, rfl, by omega, hr.out, hb.out⟩
end Go.Proofs.YtgaoeoijdpdjiabDoor
