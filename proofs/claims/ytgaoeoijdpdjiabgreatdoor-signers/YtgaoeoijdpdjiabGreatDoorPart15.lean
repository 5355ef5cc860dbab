import Derived.Test.YtgaoeoijdpdjiabGreatDoorPart3
open Go.Value (int pointer)
open Go.IntKind (i64)
open Go.Proofs.Tryz
set_option maxHeartbeats 4000000
namespace Go.Proofs.YtgaoeoijdpdjiabGreatDoor
open Go.RowKit
def Au (w:World):Prop:=∀i,i<4->w.cell? ⟨1,i,none⟩=some (int i64 ((Ab i:Nat):Int))
theorem Kf0 (i:Nat)(h:i<4):Ab i=5\/Ab i=11\/Ab i=19\/Ab i=26:=by
 rcases(show i=0\/i=1\/i=2\/i=3 by omega)with rfl|rfl|rfl|rfl<;>simp[Ab]
theorem xW (x y:Nat):IntKind.u64.wrap ((x:Int)+(y:Int))=((La 64 x y:Nat):Int):=by
 rw[IntKind.wrap_u64];unfold La;omega
theorem l9 (g:Nat)(L:List Nat)(w:World)(hr:Lb w g .u64 361 L)(hL:L.length=8)(hW:ve 64 L)(hT:Au w)(hg:1<g):Calls prog 322 #[pointer (some ⟨g,0,none⟩)] w λe w'=>e=.returned (.tuple #[])/\Lb w' g .u64 361 (Fg 64 L 4)/\Ob g w w':=by
 have HR:=aa hr;have HL:=aa hL;have HW:=aa hW;have HT:=aa hT;clear hr hL hW hT;go_enter func322,ntmps322;go_wp2;go_loopw [4] (λi wr=>∃j:Nat,j<=4/\i=int i64 j/\Hid (Lb wr g .u64 361 (Fg 64 L j))/\Hid (Ob g w wr)) (λi _=>4-(intOf i).toNat)
 case atStart=>exact⟨0,by omega,rfl,HR,Ob.refl _ _⟩
 case round=>
  obtain⟨j,hj,rfl,hr,ho⟩:=hrel;by_cases hlt:j<4
  ·have hlen:(Fg 64 L j).length=8:=by rw[Vy];exact HL.out
   have hwd:=tC 64 L j HW.out;have HS:Hid (Fg 64 L (j+1)=Pb 64 j (j+4) (Fg 64 L j)):=rfl;generalize Fg 64 L j=K at hr hlen hwd HS;have d1:=hr.out.cell (i:=j) (by omega);have d2:=hr.out.cell (i:=j+4) (by omega);have f1:=hr.out.free j;have x1:=hwd.at j;have x2:=hwd.at (j+4);have HA:=aa (xW (Ba K j) (Ba K (j+4)));have q0:(0:Int)<=(j:Int):=by omega
   have q1:(j:Int)<8:=by omega
   have q2:(j:Int)+4<8:=by omega
   have q3:(0:Int)<=(j:Int)+4:=by omega
   have yJ:j<K.length:=by omega
   have hk4:j+4<K.length:=by omega
   have t4:((j:Int)+4).toNat=j+4:=by omega
   clear hlen;have HK:=aa hwd;clear hwd;go_wp2;go_region;go_wp2;have HT1:=aa (HT.out j hlt);have hgj:Ba (K.set j (La 64 (Ba K j) (Ba K (j+4)))) j=La 64 (Ba K j) (Ba K (j+4)):=uN _ _ _ yJ;have OB:Ba (K.set j (La 64 (Ba K j) (Ba K (j+4)))) (j+4)=Ba K (j+4):=tN _ _ _ _ (by omega);have R1:=aa (hr.out.set j (La 64 (Ba K j) (Ba K (j+4))));rw[IntKind.wrap_u64];rw[show((Ba K j:Nat):Int)+((Ba K (j+4):Nat):Int)=(((Ba K j+Ba K (j+4):Nat)):Int)from(Int.natCast_add _ _).symm,show(((Ba K j+Ba K (j+4):Nat)):Int)% 18446744073709551616=((La 64 (Ba K j) (Ba K (j+4)):Nat):Int)from(Int.natCast_emod _ _).symm];have O1:=aa (ho.out.setCell j (.int .u64 ((La 64 (Ba K j) (Ba K (j+4)):Nat):Int)));generalize hV:wr.setCell ⟨g,j,none⟩ (.int .u64 ((La 64 (Ba K j) (Ba K (j+4)):Nat):Int))=V at R1 O1⊢;have e1:V.cell? ⟨g,j,none⟩=some (.int .u64 ((La 64 (Ba K j) (Ba K (j+4)):Nat):Int)):=by have h:=R1.out.cell (i:=j) (by rw[List.length_set];omega);rwa [hgj]at h
   have e2:V.cell? ⟨g,j+4,none⟩=some (.int .u64 ((Ba K (j+4):Nat):Int)):=by have h:=R1.out.cell (i:=j+4) (by rw[List.length_set];omega);rwa [OB]at h
   have e3:V.cell? ⟨1,j,none⟩=some (int i64 ((Ab j:Nat):Int)):=(O1.out.cell (by simp;omega)).trans HT1.out;have f2:V.frozen? ⟨g,j+4,none⟩=false:=R1.out.free _;clear hV d1 d2 f1 hgj OB;have Ws:=aa (λw':World=>Qf0 (Ba K (j+4)) (Ab j) w' (by simpa using x2) (Kf0 j hlt));have Te:=aa (u64_xor_nat (Kb 64 (Ba K (j+4)) (Ab j)) (La 64 (Ba K j) (Ba K (j+4))) (by have:=NC 64 (Ba K (j+4)) (Ab j) x2;simpa using this) (by have:=Ay 64 (Ba K j) (Ba K (j+4));simpa using this));have Kh:Hid (Pb 64 j (j+4) K=(K.set j (La 64 (Ba K j) (Ba K (j+4)))).set (j+4) (Kb 64 (Ba K (j+4)) (Ab j)^^^La 64 (Ba K j) (Ba K (j+4)))):=rfl;generalize Kb 64 (Ba K (j+4)) (Ab j)=rt at Ws Te Kh;generalize La 64 (Ba K j) (Ba K (j+4))=A at R1 O1 e1 Te Kh;generalize Ba K (j+4)=y at e2 Ws x2;generalize Ab j=tn at e3 Ws;clear x1 HA;go_region_with ((go_at_call 328;refine(Ws.out _).mono ?_;rintro e w' ⟨rfl,n,rfl⟩))
   all_goals
    go_wp2
    try rw[Te.out]
    go_roundw
    case rel=>
     refine⟨j+1,by omega,by go_num,?_,?_⟩
     ·unfold Hid;rw[HS.out,Kh.out];exact R1.out.set (j+4) (rt^^^A)
     ·exact(O1.out.drewN _).setCell (j+4) _
    case measure=>simp[intOf];omega
  ·obtain rfl:j=4:=by omega
   go_wp2;go_end0;exact⟨rfl,hr.out,ho.out⟩
end Go.Proofs.YtgaoeoijdpdjiabGreatDoor
