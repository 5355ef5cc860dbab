/-
  Proved: for every set of numbers and every two texts the function signetlaw.Numerals returns true, and its arguments read behind the call as they read before; no condition beside the row's own.
-/
import Derived.Test.YtgaoeoijdpdjiaaNumeralsAt
import Derived.Test.YtgaoeoijdpdjiaaOpenSet
import Derived.OpenShut
import Derived.ShutString
import Derived.ChangeOld
namespace Go.Proofs.Ytgaoeoijdpdjiaa
open Go.ChangeShapes Go.WideShapes Go.ChangeAt Go.RowKit
open Go.ChangeMaps (open_string shut_string)

theorem five_left {B0 B bk C : Nat} {v : Value} {S : List Value} {w w' : World} {k b x t l : Int} (h : Five w C k b x t l) (hl : Left4 B0 B bk v S w w') (hC : C < w.heap.size) (h1 : C ≠ bk) (h2 : v.ownBlock ≠ some C) : Five w' C k b x t l := by
  obtain ⟨_, _, _, _, _, hk, _⟩ := hl
  have e := hk C hC h1 h2
  exact ⟨(World.cell?_of_block (w := w) e).trans h.1, (World.cell?_of_block (w := w) e).trans h.2.1, (World.cell?_of_block (w := w) e).trans h.2.2.1, (World.cell?_of_block (w := w) e).trans h.2.2.2.1, (World.cell?_of_block (w := w) e).trans h.2.2.2.2⟩

theorem own_ne {w : World} {B bk C : Nat} {v : Value} {S : List Value} (h : BookAt w B bk v S) (hC : C < B) : v.ownBlock ≠ some C := fun e => by
  have := (owns_lt h.row C e).1
  omega

set_option maxHeartbeats 1000000 in
theorem numeralsLaw_any (k b x t l : Int) (s u : ByteArray) (w : World) :
    Calls Try.prog 3 #[.agg #[.int .i64 k, .int .i64 b, .int .i64 x, .int .i64 t, .int .i64 l], .string s, .string u] w fun r w' => r = .returned (.bool true) ∧ Below w.heap.size w w' := by
  go_enter Try.func3, Try.ntmps3
  go_wp2_with fail
  refine (measures_any k b x t l _).mono ?_
  rintro r w1 ⟨rfl, hb⟩
  have F1 := hideM (five_below (show Five ((w.alloc (.cells #[.int .i64 k, .int .i64 b, .int .i64 x, .int .i64 t, .int .i64 l] 23)).alloc (.cells #[.slice none 0 0, .slice none 0 0, .slice none 0 0] 29)) w.heap.size k b x t l by refine ⟨?_, ?_, ?_, ?_, ?_⟩ <;> simp [go_sem]) hb (by simp; omega))
  have hblk : w1.heap[w.heap.size + 1]? = some (.cells #[.slice none 0 0, .slice none 0 0, .slice none 0 0] 29 (0, 0)) := by
    rw [hb.block _ (by simp)]
    have := heap_alloc_new (w.alloc (.cells #[.int .i64 k, .int .i64 b, .int .i64 x, .int .i64 t, .int .i64 l] 23)) (.cells #[.slice none 0 0, .slice none 0 0, .slice none 0 0] 29)
    rwa [World.size_alloc] at this
  have K1 := hideM (show BookAt w1 (w.heap.size + 2) (w.heap.size + 1) (.slice none 0 0) [] from ⟨hblk, World.ownsRow_nil _ _ _ _, fun i s hs => by simp at hs, by simp⟩)
  have Z1 : w.heap.size + 2 ≤ w1.heap.size := by have := hb.size; simp at this; omega
  have B1 := hideM ((((Below.refl _ _).alloc (Nat.le_refl _) _).alloc (by simp) _).trans (hb.mono (by simp; omega)) : Below w.heap.size w w1)
  clear hb hblk
  obtain ⟨c0, c1, c2, c3, c4⟩ := F1.out
  go_wp2_with fail
  refine (numerals_any w.heap.size (w.heap.size + 2) (w.heap.size + 1) _ [] k b x t l s w1 K1.out rfl (by simp) (by omega) (by omega) (by omega) Z1).mono ?_
  rintro r w2 ⟨rfl, hl⟩
  have F2 := hideM (five_left F1.out hl (by omega) (by omega) (own_ne K1.out (by omega)))
  obtain ⟨v2, S2, k2, s2, hb2, _, z2⟩ := hl
  have K2 := hideM k2
  have B2 := hideM (B1.out.trans hb2)
  simp only [List.length_nil, Nat.zero_add] at s2
  have HS2 := hideM s2
  clear k2 hb2 c0 c1 c2 c3 c4 F1 K1 B1 s2
  obtain ⟨c0, c1, c2, c3, c4⟩ := F2.out
  go_wp2_with fail
  refine (numerals_any w.heap.size (w.heap.size + 2) (w.heap.size + 1) v2 S2 k b x t l u w2 K2.out (by rw [HS2.out]) (by rw [HS2.out]; decide) (by omega) (by omega) (by omega) (by omega)).mono ?_
  rintro r w3 ⟨rfl, hl⟩
  have F3 := hideM (five_left F2.out hl (by omega) (by omega) (own_ne K2.out (by omega)))
  obtain ⟨v3, S3, k3, s3, hb3, _, z3⟩ := hl
  have K3 := hideM k3
  have B3 := hideM (B2.out.trans hb3)
  rw [HS2.out] at s3
  have HS3 := hideM s3
  clear k3 hb3 c0 c1 c2 c3 c4 F2 K2 B2 s3 HS2
  obtain ⟨c0, c1, c2, c3, c4⟩ := F3.out
  go_wp2_with fail
  refine (numerals_any w.heap.size (w.heap.size + 2) (w.heap.size + 1) v3 S3 k b x t l s w3 K3.out (by rw [HS3.out]) (by rw [HS3.out]; decide) (by omega) (by omega) (by omega) (by omega)).mono ?_
  rintro r w4 ⟨rfl, hl⟩
  obtain ⟨v4, S4, k4, s4, hb4, _, z4⟩ := hl
  have K4 := hideM k4
  have B4 := hideM (B3.out.trans hb4)
  rw [HS3.out] at s4
  have HS4 := hideM s4
  clear k4 hb4 c0 c1 c2 c3 c4 F3 K3 B3 s4 HS3
  go_wp2_with fail
  refine (looks_any (w.heap.size + 2) (w.heap.size + 1) v4 S4 w4 K4.out (by rw [HS4.out]; decide)).mono ?_
  rintro r w5 ⟨rfl, hb⟩
  have B5 := hideM (B4.out.trans (hb.mono B4.out.size))
  clear hb
  go_wp2
  go_ret
  exact ⟨rfl, B5.out⟩

theorem ownN : ownKnob Try.prog.godebug = none := by kernel_rfl
theorem laidOutN : laidOutB Try.prog = true := by kernel_rfl

set_option maxRecDepth 100000 in
theorem numerals_lifted (os : Os) (started : os.Started) (H : Type) (enc : TypeId × Value → H) :
    ReturnsInHanded {} Try.checked os 3 .any (Rows.numeralsSpec.pre6 enc Try.prog Try.f3 Rows.numeralsRow.domain false) (Rows.numeralsSpec.post enc Try.prog Try.f3 false true false false) := by
  refine returnsInHanded_of_change (C := Try.checked) ownN started (by kernel_rfl) Try.func3
    (ChangeSpec.witness6 (enc := enc) (C := Try.checked) false ⟨#[], #[.agg #[.int .i64 0, .int .i64 0, .int .i64 0, .int .i64 0, .int .i64 0], .string ⟨#[]⟩, .string ⟨#[]⟩], []⟩ 8 (by kernel_rfl) (by kernel_rfl) (by kernel_rfl) (by kernel_rfl)) ?_
  intro W base args ds gs before hval0 hW hcnd _
  have hval : ∀ (j : Nat) t v, Try.f3.params[j]? = some t → args[j]? = some v → Value.okWide Try.prog W .any base t v := hval0
  have hW' := hW
  obtain ⟨p, q, hA0, hV, rfl, hfz, hnd⟩ := hW
  have hA : DataW.TrodAll enc Try.prog W 0 (fun _ => true) true Try.f3.params.toList args.toList ds p := hA0
  rw [Try.params3] at hA hval
  obtain ⟨v0, vs0, d0, ds0, p0, q0, hargs, rfl, rfl, h0, r0⟩ := trodAll_cons hA
  obtain ⟨v1, vs1, d1, ds1, p1, q1, rfl, rfl, rfl, h1, r1⟩ := trodAll_cons r0
  obtain ⟨v2, vs2, d2, ds2, p2, q2, rfl, rfl, rfl, h2, r2⟩ := trodAll_cons r1
  obtain ⟨rfl, rfl, rfl⟩ := trodAll_nil r2
  obtain rfl : args = #[v0, v1, v2] := by cases args; simp_all
  obtain ⟨rfl, rfl⟩ := trodVars_none hV
  have k0 := h0
  have lt0 : ∀ x ∈ p0, x.block < W.heap.size := by obtain ⟨m, hm⟩ := k0; exact DataW.trod_lt m _ _ _ hm
  obtain ⟨k, b, x, t, l, rfl, i0, i1, i2, i3, i4⟩ := open_set (hval 0 23 v0 rfl rfl) h0
  obtain ⟨s, rfl, rfl, rfl, hs⟩ := open_string Try.underlying9 (hval 1 9 v1 rfl rfl) h1
  obtain ⟨u, rfl, rfl, rfl, hu⟩ := open_string Try.underlying9 (hval 2 9 v2 rfl rfl) h2
  clear hA0 hval0
  refine (numeralsLaw_any k b x t l s u W).mono fun e W' ⟨he, bel⟩ => ?_
  subst he
  exact ⟨_, rfl, _, _, _, [], _, [], hW', trodAll_mk1 (shut_bool Try.underlying4 _), (trodAll_cons_mk (Below.trod laidOutN (by kernel_rfl) (of_decide_eq_true (by kernel_rfl)) k0 bel lt0) (trodAll_cons_mk (shut_string Try.underlying9 hs) (trodAll_cons_mk (shut_string Try.underlying9 hu) trodAll_mk0))), rfl, bel.frame _, fun h => by cases h⟩

theorem numerals_holds : Rows.NumeralsSaid :=
  OpenClaim.holds_of_wide 3 Try.f3 rfl rfl rfl rfl rfl rfl rfl ⟨rfl, rfl, rfl, rfl, rfl⟩ rfl rfl rfl rfl rfl (by kernel_rfl) Try.func3 (by kernel_rfl)
    (of_decide_eq_true (by kernel_rfl)) (by unfold Func.isWrapper; first | (rw [if_pos (by decide +kernel)]; kernel_rfl) | (rw [if_neg (by decide +kernel)]; exact ⟨rfl, rfl⟩))
    (fun os started H enc _ => numerals_lifted os started H enc)
end Go.Proofs.Ytgaoeoijdpdjiaa
