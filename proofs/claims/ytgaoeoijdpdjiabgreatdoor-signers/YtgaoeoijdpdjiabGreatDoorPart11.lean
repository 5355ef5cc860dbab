import Derived.Test.YtgaoeoijdpdjiabGreatDoorPart1
open Go.Value (int)
open Go.IntKind (i64)
open Go.Proofs.Tryz
set_option maxHeartbeats 2000000
namespace Go.Proofs.YtgaoeoijdpdjiabGreatDoor
open Go.RowKit
theorem nb0 (k b x t l:Int)(w:World)(k1:1<=k)(k2:k<=2)(hb:b=4\/b=8)(hx:x=4\/x=16)(h1:1<=t)(h2:t<=4)(h3:1<=l)(h4:l<=3):Calls prog 82 #[.agg #[int i64 k,int i64 b,int i64 x,int i64 t,int i64 l]] w λe w'=>e=.returned (int i64 0)/\Below w.heap.size w w':=by
 have a0:decide (k<1)=false:=by simp;omega
 have a9:decide (2<k)=false:=by simp;omega
 have b0:decide (t<1)=false:=by simp;omega
 have b1:decide (4<t)=false:=by simp;omega
 have b2:decide (l<1)=false:=by simp;omega
 have b3:decide (3<l)=false:=by simp;omega
 rcases hb with rfl|rfl<;>rcases hx with rfl|rfl
 all_goals
  go_enter func82,ntmps82
  go_wp2;go_ret;exact⟨rfl,(Below.refl _ _).alloc (Nat.le_refl _) _⟩
theorem eb0 (k b x t l:Int)(w:World)(hk:k<1):Calls prog 82 #[.agg #[int i64 k,int i64 b,int i64 x,int i64 t,int i64 l]] w λe w'=>e=.returned (int i64 1)/\Below w.heap.size w w':=by
 have a0:decide (k<1)=true:=by simp;omega
 all_goals
  go_enter func82,ntmps82
  go_wp2;go_ret;exact⟨rfl,(Below.refl _ _).alloc (Nat.le_refl _) _⟩
theorem fb0 (k b x t l:Int)(w:World)(k1:1<=k)(hk:2<k):Calls prog 82 #[.agg #[int i64 k,int i64 b,int i64 x,int i64 t,int i64 l]] w λe w'=>e=.returned (int i64 1)/\Below w.heap.size w w':=by
 have a0:decide (k<1)=false:=by simp;omega
 have a9:decide (2<k)=true:=by simp;omega
 all_goals
  go_enter func82,ntmps82
  go_wp2;go_ret;exact⟨rfl,(Below.refl _ _).alloc (Nat.le_refl _) _⟩
theorem db0 (k b x t l:Int)(w:World)(k1:1<=k)(k2:k<=2)(hb:¬(b=4\/b=8)):Calls prog 82 #[.agg #[int i64 k,int i64 b,int i64 x,int i64 t,int i64 l]] w λe w'=>e=.returned (int i64 1)/\Below w.heap.size w w':=by
 have a0:decide (k<1)=false:=by simp;omega
 have a9:decide (2<k)=false:=by simp;omega
 have a1:(b !=4)=true:=by simp;omega
 have a2:(b !=8)=true:=by simp;omega
 clear hb
 all_goals
  go_enter func82,ntmps82
  go_wp2;go_ret;exact⟨rfl,(Below.refl _ _).alloc (Nat.le_refl _) _⟩
theorem mb0 (k b x t l:Int)(w:World)(k1:1<=k)(k2:k<=2)(hb:b=4\/b=8)(hx:¬(x=4\/x=16)):Calls prog 82 #[.agg #[int i64 k,int i64 b,int i64 x,int i64 t,int i64 l]] w λe w'=>e=.returned (int i64 1)/\Below w.heap.size w w':=by
 have a0:decide (k<1)=false:=by simp;omega
 have a9:decide (2<k)=false:=by simp;omega
 have a1:(x !=4)=true:=by simp;omega
 have a2:(x !=16)=true:=by simp;omega
 clear hx;rcases hb with rfl|rfl
 all_goals
  go_enter func82,ntmps82
  go_wp2;go_ret;exact⟨rfl,(Below.refl _ _).alloc (Nat.le_refl _) _⟩
theorem jb0 (k b x t l:Int)(w:World)(k1:1<=k)(k2:k<=2)(hb:b=4\/b=8)(hx:x=4\/x=16)(h1:t<1):Calls prog 82 #[.agg #[int i64 k,int i64 b,int i64 x,int i64 t,int i64 l]] w λe w'=>e=.returned (int i64 1)/\Below w.heap.size w w':=by
 have a0:decide (k<1)=false:=by simp;omega
 have a9:decide (2<k)=false:=by simp;omega
 have a1:decide (t<1)=true:=by simp;omega
 rcases hb with rfl|rfl<;>rcases hx with rfl|rfl
 all_goals
  go_enter func82,ntmps82
  go_wp2;go_ret;exact⟨rfl,(Below.refl _ _).alloc (Nat.le_refl _) _⟩
theorem kb0 (k b x t l:Int)(w:World)(k1:1<=k)(k2:k<=2)(hb:b=4\/b=8)(hx:x=4\/x=16)(h1:1<=t)(h2:4<t):Calls prog 82 #[.agg #[int i64 k,int i64 b,int i64 x,int i64 t,int i64 l]] w λe w'=>e=.returned (int i64 1)/\Below w.heap.size w w':=by
 have a0:decide (k<1)=false:=by simp;omega
 have a9:decide (2<k)=false:=by simp;omega
 have b0:decide (t<1)=false:=by simp;omega
 have a1:decide (4<t)=true:=by simp;omega
 rcases hb with rfl|rfl<;>rcases hx with rfl|rfl
 all_goals
  go_enter func82,ntmps82
  go_wp2;go_ret;exact⟨rfl,(Below.refl _ _).alloc (Nat.le_refl _) _⟩
theorem gb0 (k b x t l:Int)(w:World)(k1:1<=k)(k2:k<=2)(hb:b=4\/b=8)(hx:x=4\/x=16)(h1:1<=t)(h2:t<=4)(h3:l<1):Calls prog 82 #[.agg #[int i64 k,int i64 b,int i64 x,int i64 t,int i64 l]] w λe w'=>e=.returned (int i64 1)/\Below w.heap.size w w':=by
 have a0:decide (k<1)=false:=by simp;omega
 have a9:decide (2<k)=false:=by simp;omega
 have b0:decide (t<1)=false:=by simp;omega
 have b1:decide (4<t)=false:=by simp;omega
 have a1:decide (l<1)=true:=by simp;omega
 rcases hb with rfl|rfl<;>rcases hx with rfl|rfl
 all_goals
  go_enter func82,ntmps82
  go_wp2;go_ret;exact⟨rfl,(Below.refl _ _).alloc (Nat.le_refl _) _⟩
theorem ib0 (k b x t l:Int)(w:World)(k1:1<=k)(k2:k<=2)(hb:b=4\/b=8)(hx:x=4\/x=16)(h1:1<=t)(h2:t<=4)(h3:1<=l)(h4:3<l):Calls prog 82 #[.agg #[int i64 k,int i64 b,int i64 x,int i64 t,int i64 l]] w λe w'=>e=.returned (int i64 1)/\Below w.heap.size w w':=by
 have a0:decide (k<1)=false:=by simp;omega
 have a9:decide (2<k)=false:=by simp;omega
 have b0:decide (t<1)=false:=by simp;omega
 have b1:decide (4<t)=false:=by simp;omega
 have b2:decide (l<1)=false:=by simp;omega
 have a1:decide (3<l)=true:=by simp;omega
 rcases hb with rfl|rfl<;>rcases hx with rfl|rfl
 all_goals
  go_enter func82,ntmps82
  go_wp2;go_ret;exact⟨rfl,(Below.refl _ _).alloc (Nat.le_refl _) _⟩
theorem IC (k b x t l:Int)(w:World):Calls prog 82 #[.agg #[int i64 k,int i64 b,int i64 x,int i64 t,int i64 l]] w λe w'=>e=.returned (int i64 (if Yb k b x t l then 0 else 1))/\Below w.heap.size w w':=by
 by_cases k1:1<=k
 ·by_cases k2:k<=2
  ·by_cases hb:b=4\/b=8
   ·by_cases hx:x=4\/x=16
    ·by_cases h1:1<=t
     ·by_cases h2:t<=4
      ·by_cases h3:1<=l
       ·by_cases h4:l<=3
        ·rw[show Yb k b x t l=true by simp[Yb,hb,hx,h1,h2,h3,h4];omega];exact nb0 k b x t l w k1 k2 hb hx h1 h2 h3 h4
        ·rw[show Yb k b x t l=false by simp[Yb,h4]];exact ib0 k b x t l w k1 k2 hb hx h1 h2 h3 (by omega)
       ·rw[show Yb k b x t l=false by simp[Yb,h3]];exact gb0 k b x t l w k1 k2 hb hx h1 h2 (by omega)
      ·rw[show Yb k b x t l=false by simp[Yb,h2]];exact kb0 k b x t l w k1 k2 hb hx h1 (by omega)
     ·rw[show Yb k b x t l=false by simp[Yb,h1]];exact jb0 k b x t l w k1 k2 hb hx (by omega)
    ·rw[show Yb k b x t l=false by simp[Yb,hx]];exact mb0 k b x t l w k1 k2 hb hx
   ·rw[show Yb k b x t l=false by simp[Yb,hb]];exact db0 k b x t l w k1 k2 hb
  ·rw[show Yb k b x t l=false by simp[Yb];omega];exact fb0 k b x t l w k1 (by omega)
 ·rw[show Yb k b x t l=false by simp[Yb];omega];exact eb0 k b x t l w (by omega)
end Go.Proofs.YtgaoeoijdpdjiabGreatDoor
