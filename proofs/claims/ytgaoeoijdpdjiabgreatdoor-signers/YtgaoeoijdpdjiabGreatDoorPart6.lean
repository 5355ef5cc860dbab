import Derived.Test.YtgaoeoijdpdjiabGreatDoorPart1
open Go.Value (int)
open Go.IntKind (i64)
open Go.Proofs.Tryz
set_option maxHeartbeats 2000000
namespace Go.Proofs.YtgaoeoijdpdjiabGreatDoor
open Go.RowKit
theorem sc0 (k b x t l:Int)(w:World)(hk:k=1\/k=2)(hb:b=4\/b=8)(hx:x=4\/x=16)(h1:1<=t)(h2:t<=4)(h3:1<=l)(h4:l<=3):Calls prog 279 #[.agg #[int i64 k,int i64 b,int i64 x,int i64 t,int i64 l]] w λe w'=>e=.returned (.bool true)/\Below w.heap.size w w':=by
 rcases hk with rfl|rfl<;>rcases hb with rfl|rfl<;>rcases hx with rfl|rfl
 all_goals
  go_enter func279,ntmps279
  go_wp2;go_ret;exact⟨rfl,(Below.refl _ _).alloc (Nat.le_refl _) _⟩
theorem kc0 (k b x t l:Int)(w:World)(hk:¬(k=1\/k=2)):Calls prog 279 #[.agg #[int i64 k,int i64 b,int i64 x,int i64 t,int i64 l]] w λe w'=>e=.returned (.bool false)/\Below w.heap.size w w':=by
 have a1:(k==1)=false:=by simp;omega
 have a2:(k==2)=false:=by simp;omega
 clear hk
 all_goals
  go_enter func279,ntmps279
  go_wp2;go_ret;exact⟨rfl,(Below.refl _ _).alloc (Nat.le_refl _) _⟩
theorem jc0 (k b x t l:Int)(w:World)(hk:k=1\/k=2)(hb:¬(b=4\/b=8)):Calls prog 279 #[.agg #[int i64 k,int i64 b,int i64 x,int i64 t,int i64 l]] w λe w'=>e=.returned (.bool false)/\Below w.heap.size w w':=by
 have a1:(b==4)=false:=by simp;omega
 have a2:(b==8)=false:=by simp;omega
 clear hb;rcases hk with rfl|rfl
 all_goals
  go_enter func279,ntmps279
  go_wp2;go_ret;exact⟨rfl,(Below.refl _ _).alloc (Nat.le_refl _) _⟩
theorem rc0 (k b x t l:Int)(w:World)(hk:k=1\/k=2)(hb:b=4\/b=8)(hx:¬(x=4\/x=16)):Calls prog 279 #[.agg #[int i64 k,int i64 b,int i64 x,int i64 t,int i64 l]] w λe w'=>e=.returned (.bool false)/\Below w.heap.size w w':=by
 have a1:(x==4)=false:=by simp;omega
 have a2:(x==16)=false:=by simp;omega
 clear hx;rcases hk with rfl|rfl<;>rcases hb with rfl|rfl
 all_goals
  go_enter func279,ntmps279
  go_wp2;go_ret;exact⟨rfl,(Below.refl _ _).alloc (Nat.le_refl _) _⟩
theorem nc0 (k b x t l:Int)(w:World)(hk:k=1\/k=2)(hb:b=4\/b=8)(hx:x=4\/x=16)(h1:¬1<=t):Calls prog 279 #[.agg #[int i64 k,int i64 b,int i64 x,int i64 t,int i64 l]] w λe w'=>e=.returned (.bool false)/\Below w.heap.size w w':=by
 have a1:decide (1<=t)=false:=by simpa using h1
 rcases hk with rfl|rfl<;>rcases hb with rfl|rfl<;>rcases hx with rfl|rfl
 all_goals
  go_enter func279,ntmps279
  go_wp2;go_ret;exact⟨rfl,(Below.refl _ _).alloc (Nat.le_refl _) _⟩
theorem qc0 (k b x t l:Int)(w:World)(hk:k=1\/k=2)(hb:b=4\/b=8)(hx:x=4\/x=16)(h1:1<=t)(h2:¬t<=4):Calls prog 279 #[.agg #[int i64 k,int i64 b,int i64 x,int i64 t,int i64 l]] w λe w'=>e=.returned (.bool false)/\Below w.heap.size w w':=by
 have a1:decide (t<=4)=false:=by simpa using h2
 rcases hk with rfl|rfl<;>rcases hb with rfl|rfl<;>rcases hx with rfl|rfl
 all_goals
  go_enter func279,ntmps279
  go_wp2;go_ret;exact⟨rfl,(Below.refl _ _).alloc (Nat.le_refl _) _⟩
theorem lc0 (k b x t l:Int)(w:World)(hk:k=1\/k=2)(hb:b=4\/b=8)(hx:x=4\/x=16)(h1:1<=t)(h2:t<=4)(h3:¬1<=l):Calls prog 279 #[.agg #[int i64 k,int i64 b,int i64 x,int i64 t,int i64 l]] w λe w'=>e=.returned (.bool false)/\Below w.heap.size w w':=by
 have a1:decide (1<=l)=false:=by simpa using h3
 rcases hk with rfl|rfl<;>rcases hb with rfl|rfl<;>rcases hx with rfl|rfl
 all_goals
  go_enter func279,ntmps279
  go_wp2;go_ret;exact⟨rfl,(Below.refl _ _).alloc (Nat.le_refl _) _⟩
theorem mc0 (k b x t l:Int)(w:World)(hk:k=1\/k=2)(hb:b=4\/b=8)(hx:x=4\/x=16)(h1:1<=t)(h2:t<=4)(h3:1<=l)(h4:¬l<=3):Calls prog 279 #[.agg #[int i64 k,int i64 b,int i64 x,int i64 t,int i64 l]] w λe w'=>e=.returned (.bool false)/\Below w.heap.size w w':=by
 have a1:decide (l<=3)=false:=by simpa using h4
 rcases hk with rfl|rfl<;>rcases hb with rfl|rfl<;>rcases hx with rfl|rfl
 all_goals
  go_enter func279,ntmps279
  go_wp2;go_ret;exact⟨rfl,(Below.refl _ _).alloc (Nat.le_refl _) _⟩
theorem ic0 (k b x t l:Int)(w:World):Calls prog 279 #[.agg #[int i64 k,int i64 b,int i64 x,int i64 t,int i64 l]] w λe w'=>e=.returned (.bool (Yb k b x t l))/\Below w.heap.size w w':=by
 by_cases hk:k=1\/k=2
 ·by_cases hb:b=4\/b=8
  ·by_cases hx:x=4\/x=16
   ·by_cases h1:1<=t
    ·by_cases h2:t<=4
     ·by_cases h3:1<=l
      ·by_cases h4:l<=3
       ·rw[show Yb k b x t l=true by simp[Yb,hk,hb,hx,h1,h2,h3,h4]];exact sc0 k b x t l w hk hb hx h1 h2 h3 h4
       ·rw[show Yb k b x t l=false by simp[Yb,h4]];exact mc0 k b x t l w hk hb hx h1 h2 h3 h4
      ·rw[show Yb k b x t l=false by simp[Yb,h3]];exact lc0 k b x t l w hk hb hx h1 h2 h3
     ·rw[show Yb k b x t l=false by simp[Yb,h2]];exact qc0 k b x t l w hk hb hx h1 h2
    ·rw[show Yb k b x t l=false by simp[Yb,h1]];exact nc0 k b x t l w hk hb hx h1
   ·rw[show Yb k b x t l=false by simp[Yb,hx]];exact rc0 k b x t l w hk hb hx
  ·rw[show Yb k b x t l=false by simp[Yb,hb]];exact jc0 k b x t l w hk hb
 ·rw[show Yb k b x t l=false by simp[Yb,hk]];exact kc0 k b x t l w hk
end Go.Proofs.YtgaoeoijdpdjiabGreatDoor
