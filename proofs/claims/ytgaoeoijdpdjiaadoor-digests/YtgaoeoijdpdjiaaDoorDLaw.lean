/-
  The law Digests answers true.
-/
import Derived.Test.YtgaoeoijdpdjiaaDoorDRefAns
import Derived.Test.YtgaoeoijdpdjiaaDoorDSum
namespace Go.Proofs.YtgaoeoijdpdjiaaDoor
open Go.RowKit

theorem num_any (x : Int) (w : World) : Calls Tryd.prog 20 #[.int .i64 x] w fun e w' => e = .returned (.int .i64 x) ∧ w' = w := by
  go_enter Tryd.func20, Tryd.ntmps20
  go_wp2
  go_ret
  exact ⟨rfl, rfl⟩

theorem ssum_any (s : ByteArray) (w : World) (hs : s.size ≤ maxLen) :
    Calls Tryd.prog 21 #[.string s] w fun e w' => e = .returned (.int .i64 (4294967295 - ((crcTo s s.size : Nat) : Int))) ∧ w' = w := by
  have HS := hide (sum_any s w hs)
  clear hs
  generalize (4294967295 - ((crcTo s s.size : Nat) : Int)) = z at HS ⊢
  go_enter Tryd.func21, Tryd.ntmps21
  go_wp2_with fail
  refine HS.out.mono ?_
  rintro e w1 ⟨rfl, rfl⟩
  go_wp2
  go_ret
  exact ⟨rfl, rfl⟩

theorem sums_true (s : ByteArray) (w : World) (hs : s.size ≤ maxLen) :
    Calls Tryd.prog 7 #[.string s] w fun e w' => e = .returned (.bool true) ∧ w' = w := by
  have HS := hide (ssum_any s w hs)
  have HR := hide (refSum_any s w hs)
  clear hs
  generalize (4294967295 - ((crcTo s s.size : Nat) : Int)) = z at HS HR
  go_enter Tryd.func7, Tryd.ntmps7
  go_wp2_with fail
  refine HS.out.mono ?_
  rintro e w1 ⟨rfl, rfl⟩
  go_wp2_with fail
  refine HR.out.mono ?_
  rintro e w2 ⟨rfl, rfl⟩
  go_wp2
  go_ret
  exact ⟨rfl, rfl⟩

theorem digests_true (kind n : Int) (s : ByteArray) (w : World) (h3 : Turns32 w) (h6 : Turns64 w) (hw : 0 < w.heap.size) :
    Calls Tryd.prog 6 #[.int .i64 kind, .int .i64 n, .string s] w fun e w' => e = .returned (.bool true) ∧ Below w.heap.size w w' := by
  have HD := hide (digest_ans kind n s w h3 h6 hw)
  have HR := hide (fun w' : World => rdigest_ans kind n s w')
  clear h3 h6
  generalize digAns kind n s = A at HD HR
  obtain ⟨d, x⟩ := A
  have HN := hide (fun w' : World => num_any x w')
  go_enter Tryd.func6, Tryd.ntmps6
  go_wp2_with fail
  refine HD.out.mono ?_
  rintro e w1 ⟨rfl, hb1⟩
  have B1 := hide hb1
  clear hb1 HD
  go_wp2_with fail
  refine (HR.out _).mono ?_
  rintro e w2 ⟨rfl, hb2⟩
  have B2 := hide (B1.out.trans (hb2.mono B1.out.size))
  clear hb2 HR
  go_wp2_with fail
  refine (HN.out _).mono ?_
  rintro e w3 ⟨rfl, rfl⟩
  go_wp2
  go_ret
  exact ⟨rfl, B2.out⟩

theorem law_true (kind n : Int) (s : ByteArray) (w : World) (hs : s.size ≤ maxLen) (h3 : Turns32 w) (h6 : Turns64 w) (hw : 0 < w.heap.size) :
    Calls Tryd.prog 3 #[.int .i64 kind, .int .i64 n, .string s] w fun e w' => e = .returned (.bool true) ∧ Below w.heap.size w w' := by
  have HD := hide (digests_true kind n s w h3 h6 hw)
  have HS := hide (fun w' : World => sums_true s w' hs)
  clear h3 h6 hs
  go_enter Tryd.func3, Tryd.ntmps3
  go_wp2_with fail
  refine HD.out.mono ?_
  rintro e w1 ⟨rfl, hb1⟩
  have B1 := hide hb1
  clear hb1 HD
  go_wp2_with fail
  refine (HS.out _).mono ?_
  rintro e w2 ⟨rfl, rfl⟩
  go_wp2
  go_ret
  exact ⟨rfl, B1.out⟩
end Go.Proofs.YtgaoeoijdpdjiaaDoor
