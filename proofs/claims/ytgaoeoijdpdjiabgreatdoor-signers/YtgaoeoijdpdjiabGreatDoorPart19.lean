import Derived.RangeFuncNested
import Derived.RangeFuncBound
import Derived.RangeFuncCalls
import Derived.RangeFuncLeaves
import Derived.RangeFuncBox
import Derived.Shelf.Abstract
import Derived.Shelf.RegionOpen
import Derived.OwnWalkIn
import Derived.TacticsInMore
import Derived.LoopNIn
import Derived.LoopIn
import Derived.Maps.AppendAt
import Derived.Sort.QuietIn
import Derived.Test.YtgaoeoijdpdjiabGreatDoorPart2
open Go.Value (int pointer slice)
open Go.IntKind (i64)
open Go.Proofs.Tryz
set_option maxRecDepth 100000
set_option maxHeartbeats 2000000
namespace Go.Proofs.YtgaoeoijdpdjiabGreatDoor
open Go.RowKit Go.Shelf
attribute [local go_sem] Oper.semAt_some
theorem qZ (V:World)(m:Nat):V.grownBy (World.drewN V m) none:=⟨rfl,rfl,rfl,Aa,λ_ _ _=>rfl⟩
def Uj (Bs Bn:Nat)(A B:World):Prop:=(∀i,B.cell? ⟨Bs,i,none⟩=A.cell? ⟨Bs,i,none⟩)/\(∀i,B.cell? ⟨Bn,i,none⟩=A.cell? ⟨Bn,i,none⟩)
theorem Uj.refl (Bs Bn:Nat)(A:World):Uj Bs Bn A A:=⟨λ_=>rfl,λ_=>rfl⟩
theorem Uj.trans {Bs Bn:Nat}{A B C:World}(h:Uj Bs Bn A B)(k:Uj Bs Bn B C):Uj Bs Bn A C:=⟨λi=>(k.1 i).trans (h.1 i),λi=>(k.2 i).trans (h.2 i)⟩
theorem Uj.drewN {Bs Bn:Nat}{A B:World}(h:Uj Bs Bn A B)(m:Nat):Uj Bs Bn A (World.drewN B m):=⟨h.1,h.2⟩
theorem Uj.of_below {Bs Bn n:Nat}{A B:World}(h:Below n A B)(hs:Bs<n)(hn:Bn<n):Uj Bs Bn A B:=⟨λi=>h.cell (p:=⟨Bs,i,none⟩) hs,λi=>h.cell (p:=⟨Bn,i,none⟩) hn⟩
def pl (N q:Nat):Nat:=min 2 (N-2*q)
abbrev Pr (N:Nat):={q:Nat//2*q<N}
def Oo (bk o N:Nat)(q:Nat):Value:=slice (some ⟨bk,o+2*q,none⟩) (pl N q) (pl N q)
theorem lT (bk o N c q:Nat)(hq:2*q<N)(hc:N<=c)(wx:World):(Instr.slice 27 (slice (some ⟨bk,o,none⟩) N c) (some (int i64 (2*(q:Int)))) none none).run prog wx=.ok (slice (some ⟨bk,o+2*q,none⟩) (N-2*q) (c-2*q)) wx:=by
 have a1:(0:Int)<=2*(q:Int):=by omega
 have a2:2*(q:Int)<=(N:Int):=by omega
 have t1:(2*(q:Int)).toNat=2*q:=by omega
 have n2:¬(c=2*q):=by omega
 simp[go_sem,underlying27,a1,a2,t1,n2]<;>omega
theorem rT (bk o N c q e:Nat)(hq:2*q+e<=N)(he:1<=e)(hc:N<=c)(wx:World):(Instr.slice 27 (slice (some ⟨bk,o,none⟩) N c) (some (int i64 (2*(q:Int)))) (some (int i64 (2*(q:Int)+(e:Int)))) (some (int i64 (2*(q:Int)+(e:Int))))).run prog wx=.ok (slice (some ⟨bk,o+2*q,none⟩) e e) wx:=by
 have a1:(0:Int)<=2*(q:Int):=by omega
 have a2:2*(q:Int)<=2*(q:Int)+(e:Int):=by omega
 have a3:2*(q:Int)+(e:Int)<=(c:Int):=by omega
 have t1:(2*(q:Int)).toNat=2*q:=by omega
 have t2:(2*(q:Int)+(e:Int)).toNat=2*q+e:=by omega
 have n1:¬(e=0):=by omega
 simp[go_sem,underlying27,a1,a2,a3,t1,t2,n1]<;>omega
theorem DX (n:Nat)(hn:1<=n)(lp Bs Bn bk o N c:Nat)(hN:N<=1000)(hc:N<=c)(J Jx:List (Pr N)->World->Prop)(hJ:∀s V m,J s V->J s (World.drewN V m))
  (hY:∀pre x W,J pre W->pre.length<(N+1)/2->YieldAt Fence.wide (n-1) prog lp #[Oo bk o N x.1] W λe W'=>
   (e=.returned (.bool true)/\J (pre++[x]) W'/\Uj Bs Bn W W')\/(e=.returned (.bool false)/\Jx (pre++[x]) W'))
  (W:World)(Zj:W.cell? ⟨Bs,0,none⟩=some (slice (some ⟨bk,o,none⟩) N c))(RI:W.cell? ⟨Bn,0,none⟩=some (int i64 2))(h0:J [] W):CallsIn Fence.wide n prog 330 #[.func (.yield lp) #[] #[],pointer (some ⟨Bs,0,none⟩),pointer (some ⟨Bn,0,none⟩)] W λe W'=>(∃v,e=.returned v)/\((∃ys:List (Pr N),ys.map (·.1)=List.range ((N+1)/2)/\J ys W')\/(∃pre,True/\Jx pre W')):=by
 refine callsIn_of_wp func330 rfl trivial ?_ rfl;simp only[ntmps330,List.size_toArray,List.length_cons,List.length_nil,Nat.reduceAdd,Nat.reduceSub,Array.replicate_succ,Array.replicate_zero,List.push_toArray,List.append_toArray,List.nil_append,List.cons_append]
 gi_wp2
 gi_loopw [4] (λi wr=>∃(q:Nat) (pre:List (Pr N)),2*q<=N+1/\i=int i64 (2*q:Nat)/\pre.map (·.1)=List.range q/\J pre wr/\Uj Bs Bn W wr)
  (λi _=>N+1-(intOf i).toNat)
 case atStart=>exact⟨0,[],Nat.zero_le _,rfl,rfl,h0,Uj.refl _ _ _⟩
 case round=>
  obtain⟨q,pre,hq,rfl,hpre,hJs,hnx⟩:=hrel;have cs:wr.cell? ⟨Bs,0,none⟩=some (slice (some ⟨bk,o,none⟩) N c):=(hnx.1 0).trans Zj;have cn:wr.cell? ⟨Bn,0,none⟩=some (int i64 2):=(hnx.2 0).trans RI;by_cases hlt:2*q<N
  ·have i0:(0:Int)<=2*(q:Int):=by omega
   have i1:2*(q:Int)<=(N:Int):=by omega
   have i2:2*(q:Int)<(N:Int):=by omega
   have gF:pre.length<(N+1)/2:=by
    have h:=congrArg List.length hpre;simp at h;omega
   by_cases h2:2*q+2<=N
   ·have hpv:Oo bk o N q=slice (some ⟨bk,o+2*q,none⟩) 2 2:=by
     have:pl N q=2:=by unfold pl;omega
     unfold Oo;rw[this]
    have YB:=lT bk o N c q hlt hc;obtain⟨M,hM⟩:=Ca (N-2*q);rw[hM]at YB;have m1:min (2:Int) (M:Int)=2:=by omega
    have m2:(2:Int)<=(M:Int):=by omega
    have m3:¬((M:Int)<2):=by omega
    have hsp:=rT bk o N c q 2 (by omega) (by omega) hc;simp only[Int.cast_ofNat_Int]at hsp;have Tp:=aa (λV hV=>hY pre ⟨q,hlt⟩ V hV gF);dsimp only at Tp;rw[hpv]at Tp;clear hY hpv
    gi_wp2
    gi_quiet (fail)
    have uB:=hJ _ _ nq hJs;have cs':(wr.drewN nq).cell? ⟨Bs,0,none⟩=some (slice (some ⟨bk,o,none⟩) N c):=cs;have YA:(wr.drewN nq).cell? ⟨Bn,0,none⟩=some (int i64 2):=cn;have XB:=hnx.drewN nq;generalize wr.drewN nq=V at uB cs' YA XB⊢;obtain⟨fn,tmps,assign,body,hy,hR⟩:=Tp.out V uB
    gi_wp2
    refine hR.mono ?_
    rintro e W3 (⟨rfl,hJ3,hk3⟩|⟨rfl,hJx3⟩)
    ·have IX:W3.cell? ⟨Bn,0,none⟩=some (int i64 2):=(hk3.2 0).trans YA
     gi_wp2
     go_roundw
     case rel=>exact⟨q+1,pre++[⟨q,hlt⟩],by omega,by go_num,by rw[List.map_append,hpre,List.range_succ];rfl,hJ3,XB.trans hk3⟩
     case measure=>simp[intOf];omega
    ·gi_wp2
     refine bodyPost_ret (results_none rfl _ _ _) rfl ?_;exact⟨⟨_,rfl⟩,.inr ⟨_,trivial,hJx3⟩⟩
   ·have hpv:Oo bk o N q=slice (some ⟨bk,o+2*q,none⟩) 1 1:=by
     have:pl N q=1:=by unfold pl;omega
     unfold Oo;rw[this]
    have YB:=lT bk o N c q hlt hc;rw[show N-2*q=1 by omega]at YB;have hsp:=rT bk o N c q 1 (by omega) (by omega) hc;simp only[Int.natCast_one]at hsp;have Tp:=aa (λV hV=>hY pre ⟨q,hlt⟩ V hV gF);dsimp only at Tp;rw[hpv]at Tp;clear hY hpv
    gi_wp2
    gi_quiet (fail)
    have uB:=hJ _ _ nq hJs;have cs':(wr.drewN nq).cell? ⟨Bs,0,none⟩=some (slice (some ⟨bk,o,none⟩) N c):=cs;have YA:(wr.drewN nq).cell? ⟨Bn,0,none⟩=some (int i64 2):=cn;have XB:=hnx.drewN nq;generalize wr.drewN nq=V at uB cs' YA XB⊢;obtain⟨fn,tmps,assign,body,hy,hR⟩:=Tp.out V uB
    gi_wp2
    refine hR.mono ?_
    rintro e W3 (⟨rfl,hJ3,hk3⟩|⟨rfl,hJx3⟩)
    ·have IX:W3.cell? ⟨Bn,0,none⟩=some (int i64 2):=(hk3.2 0).trans YA
     gi_wp2
     go_roundw
     case rel=>exact⟨q+1,pre++[⟨q,hlt⟩],by omega,by go_num,by rw[List.map_append,hpre,List.range_succ];rfl,hJ3,XB.trans hk3⟩
     case measure=>simp[intOf];omega
    ·gi_wp2
     refine bodyPost_ret (results_none rfl _ _ _) rfl ?_;exact⟨⟨_,rfl⟩,.inr ⟨_,trivial,hJx3⟩⟩
  ·gi_wp2
   go_end0;have hq2:q=(N+1)/2:=by omega
   exact⟨⟨_,rfl⟩,.inl ⟨pre,by rw[hpre,hq2],hJs⟩⟩
theorem EX (a:Option Addr)(len cap:Nat)(w:World):Calls prog 326 #[slice a len cap,int i64 2] w λe w'=>e=.returned (.func (.func 330) #[] #[pointer (some ⟨w.heap.size,0,none⟩),pointer (some ⟨w.heap.size+1,0,none⟩)])/\w'=(w.alloc (.cells #[slice a len cap] 27)).alloc (.cells #[int i64 2] 3):=by
 go_enter func326,ntmps326;go_wp2;go_ret;exact⟨rfl,rfl⟩
theorem FX (n:Nat)(hn:1<=n)(Bs Bn bk o N c:Nat)(hN:N<=1000)(hc:N<=c)(w:World)(hs:Bs<w.heap.size)(hb:Bn<w.heap.size)(Zj:w.cell? ⟨Bs,0,none⟩=some (slice (some ⟨bk,o,none⟩) N c))(RI:w.cell? ⟨Bn,0,none⟩=some (int i64 2)):SeqStopsK Fence.wide n prog 330 #[pointer (some ⟨Bs,0,none⟩),pointer (some ⟨Bn,0,none⟩)] (λq:Pr N=>#[Oo bk o N q.1]) (Uj Bs Bn) (λys=>ys.map (·.1)=List.range ((N+1)/2)) (λ_=>True) ((N+1)/2) w:=λl J Jx W hW hJ _ hY h0=>
 DX n hn l Bs Bn bk o N c hN hc J Jx (λs V m h=>hJ s V (World.drewN V m) none h (qZ V m) (λr e=>by cases e)) hY W ((hW.cell (p:=⟨Bs,0,none⟩) hs).trans Zj) ((hW.cell (p:=⟨Bn,0,none⟩) hb).trans RI) h0
end Go.Proofs.YtgaoeoijdpdjiabGreatDoor
