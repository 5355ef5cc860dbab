/-
  The statement Durable, its first part: the list of sectors that are all zeros.
-/
import Derived.Test.YtgaoeoijdpdjiaaKStep0
import Derived.Test.YtgaoeoijdpdjiaaKStep1
import Derived.Test.YtgaoeoijdpdjiaaKStep2
import Derived.Test.YtgaoeoijdpdjiaaKStep3
import Derived.Test.YtgaoeoijdpdjiaaKStep4
namespace Go.Proofs.Ytgaoeoijdpdjiaa
open Go.RowKit

theorem someB_zero : someB ⟨#[]⟩ 32 = zeroS := by
  unfold someB zeroS someL
  congr 1

theorem step_any (lo X S : Nat) (st : DSt) (kd a b : Int) (t : ByteArray) (kv : Value) (K : List Bool) (w : World) (h : StepIn lo X S st w kd a t kv K) :
    Calls Try.prog 18 #[.pointer (some ⟨X, 0, none⟩), .agg #[.int .i64 kd, .int .i64 a, .int .i64 b, .string t, kv]] w fun e w' => e = .returned (.bool true) ∧ Stepped lo X S st w w' := by
  have hb := pickZ_bd kd 5 (by omega)
  have hc : pickZ kd 5 = 0 ∨ pickZ kd 5 = 1 ∨ pickZ kd 5 = 2 ∨ pickZ kd 5 = 3 ∨ pickZ kd 5 = 4 := by omega
  rcases hc with hc | hc | hc | hc | hc
  · exact step_0 lo X S st kd a b t kv K w h hc
  · exact step_1 lo X S st kd a b t kv K w h hc
  · exact step_2 lo X S st kd a b t kv K w h hc
  · exact step_3 lo X S st kd a b t kv K w h hc
  · exact step_4 lo X S st kd a b t kv K w h hc

/-- The list grows by one sector. -/
theorem XAt.pushSt {lo X S g cap H : Nat} {sv : Value} {dur : List ByteArray} {nw ny : Int} {V w3 : World} {o : Obj} {t : ByteArray}
    (h : XAt lo X S sv (.slice none 0 0) (.slice none 0 0) dur [] nw ny V) (hown : w3.ownsRow lo 9 1 (.slice (some ⟨g, 0, none⟩) (dur.length + 1) cap) (dur.length + 1) (dur.map Value.string ++ [.string t])) (hgrow : (V.alloc o).grownBy w3 sv.ownBlock) (hat : sv.ownBlock = some g ∨ g = H) (hH : (V.alloc o).heap.size = H) :
    XAt lo X S (.slice (some ⟨g, 0, none⟩) (dur.length + 1) cap) (.slice none 0 0) (.slice none 0 0) (dur ++ [t]) [] nw ny (w3.setCell ⟨X, 1, none⟩ (.slice (some ⟨g, 0, none⟩) (dur.length + 1) cap)) := by
  have hX := h.ltX
  have hz : (V.alloc o).heap.size = V.heap.size + 1 := World.size_alloc _ _
  have gX : g ≠ X := by
    rcases hat with e | e
    · intro e2; subst e2; exact h.sX e
    · omega
  have hKA : Kept (fun k => sv.ownBlock = some k) V w3 := ((Kept.refl (fun k => sv.ownBlock = some k) V).alloc o).grown hgrow (fun k e => .inl e)
  have bX : w3.heap[X]? = V.heap[X]? := hKA.block X hX h.sX
  have hKS := kept_set w3 ⟨X, 1, none⟩ (.slice (some ⟨g, 0, none⟩) (dur.length + 1) cap)
  refine ⟨block_setCell (bX.trans h.blk) _, ?_, World.ownsRow_nil _ _ _ _, World.ownsRow_nil _ _ _ _, by simpa [Value.ownBlock] using gX, by simp [Value.ownBlock], by simp [Value.ownBlock], fun k _ => by simp [Value.ownBlock], fun k _ => by simp [Value.ownBlock], fun k e => by simp [Value.ownBlock] at e, h.loX⟩
  have := owns_kept hown hKS (fun k e hk => by
    have e' : g = k := by simpa [Value.ownBlock] using e
    exact gX (e'.trans hk))
  simpa using this

/-- One step of a script, as it comes in. -/
structure StepD where
  kd : Int
  a : Int
  b : Int
  t : ByteArray
  kv : Value
  K : List Bool
structure StepOk (w : World) (d : StepD) : Prop where
  kd1 : -9223372036854775808 ≤ d.kd
  kd2 : d.kd ≤ 9223372036854775807
  a1 : -9223372036854775808 ≤ d.a
  a2 : d.a ≤ 9223372036854775807
  ts : d.t.size ≤ maxLen
  kb : BoolsAt w d.kv d.K
  kl : d.K.length ≤ maxLen
  ko : ∀ b o l c, d.kv = .slice (some ⟨b, o, none⟩) l c → 0 < l → b < w.heap.size
/-- A script lies in memory. -/
def ScriptAt (w : World) (v : Value) (l : List StepD) : Prop := ((∃ a c, v = .slice a 0 c) ∧ l = []) ∨ ∃ b o cap, v = .slice (some ⟨b, o, none⟩) l.length cap ∧ l.length ≤ cap ∧ b < w.heap.size ∧ ∀ j d, l[j]? = some d → StepOk w d ∧ w.cell? ⟨b, o + j * 5, none⟩ = some (.int .i64 d.kd) ∧ w.cell? ⟨b, o + j * 5 + 1, none⟩ = some (.int .i64 d.a) ∧ w.cell? ⟨b, o + j * 5 + 2, none⟩ = some (.int .i64 d.b) ∧ w.cell? ⟨b, o + j * 5 + 3, none⟩ = some (.string d.t) ∧ w.cell? ⟨b, o + j * 5 + 4, none⟩ = some d.kv
theorem ScriptAt.len {w : World} {v : Value} {l : List StepD} (h : ScriptAt w v l) : ∃ a c, v = .slice a l.length c := by
  rcases h with ⟨⟨a, c, rfl⟩, rfl⟩ | ⟨b, o, cap, rfl, _⟩
  · exact ⟨a, c, rfl⟩
  · exact ⟨_, _, rfl⟩
end Go.Proofs.Ytgaoeoijdpdjiaa
