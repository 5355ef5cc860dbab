import Derived.Test.YtgaoeoijdpdjiabGreatDoorPart8
import Derived.Test.YtgaoeoijdpdjiabGreatDoorPart9
open Go.Value (int string)
open Go.IntKind (i64)
open Go.Proofs.Tryz
set_option maxHeartbeats 1000000
namespace Go.Proofs.YtgaoeoijdpdjiabGreatDoor
open Go.RowKit
theorem Ti (k:Nat)(v:Int)(w:World)(hk:k<=64)(hv:0<=v)(hv2:v<=9223372036854775807):Calls prog 87 #[int i64 v,int i64 k] w λe w'=>e=.returned (string (qa k v))/\Below w.heap.size w w':=by
 have HV:=aa hv;have OH:=aa hv2;clear hv hv2;go_enter func87,ntmps87;go_wp2;go_loopw [0,5,6] (λt s i wr=>∃j:Nat,j<=k/\i=int i64 j/\t=int i64 (v/256^j)/\s=string (qa j v)/\Hid (Below w.heap.size w wr)) (λ_ _ i _=>k-(intOf i).toNat)
 case atStart=>exact⟨0,Nat.zero_le _,rfl,by simp,rfl,Vb⟩
 case round=>
  obtain⟨j,hj,rfl,rfl,rfl,hb⟩:=hrel;by_cases hlt:j<k
  ·have HQ:Hid (0<=v/256^j):=Int.ediv_nonneg HV.out (Int.le_of_lt (Int.pow_pos (by decide)))
   have Sc:Hid (v/256^j<=9223372036854775807):=by
    refine Int.le_trans ?_ OH.out;exact Int.ediv_le_self _ HV.out
   have HD:Hid (v/256^j/256=v/256^(j+1)):=by
    show v/256^j/256=v/256^(j+1);rw[Int.ediv_ediv_of_nonneg (Int.le_of_lt (Int.pow_pos (by decide))),Int.pow_succ]
   have HS:=aa (P9 j v);have hz:(qa j v).size<=64:=by rw[Sa];omega
   generalize v/256^j=q at HQ Sc HD HS⊢;generalize qa j v=s at HS hz⊢;have hT:=dU (wr.alloc (.cells #[.int .u8 (q% 256)] 5)) wr.heap.size 1 [(q% 256).toNat] (by intro d hd;simp at hd;subst hd;omega) (by unfold Lb;rw[heap_alloc_new];simp[Int.toNat_of_nonneg (Int.emod_nonneg q (show(256:Int)≠0 by decide))]) rfl;have hdiv:(q.tdiv 256)=q/256:=Int.tdiv_eq_ediv_of_nonneg HQ.out
   have hwr:wrap64 (q/256)=q/256:=by
    have:=HQ.out;have:=Sc.out;unfold wrap64;omega
   go_wp2;go_roundw
   case rel=>
    rw[hwr];exact⟨j+1,by omega,by go_num,by rw[HD.out],by rw[HS.out],hb.out.alloc hb.out.size _⟩
   case measure=>simp[intOf];omega
  ·obtain rfl:j=k:=by omega
   go_wp2;go_ret;exact⟨rfl,hb.out⟩
theorem NK (b x e f t l:Nat)(hp:Bi b x e f)(k:Int)(w:World)(hk:k=1\/k=2)(h1:1<=t)(h2:t<=4)(h3:1<=l)(h4:l<=3):Calls prog 155 #[.agg #[int i64 k,int i64 b,int i64 x,int i64 t,int i64 l]] w λr w'=>
   r=.returned (.tuple #[.agg #[int i64 ((b*e:Nat):Int),int i64 f,int i64 ((b*e+f:Nat):Int),int i64 (Yc t l),int i64 (Xc b x t l),int i64 ((5+2*b:Nat):Int)],int i64 0])/\Below w.heap.size w w':=by
 rcases hp with⟨rfl,rfl,rfl,rfl⟩|⟨rfl,rfl,rfl,rfl⟩|⟨rfl,rfl,rfl,rfl⟩|⟨rfl,rfl,rfl,rfl⟩
 ·exact QQ k t l w hk (by omega) (by omega) (by omega) (by omega)
 ·exact SQ k t l w hk (by omega) (by omega) (by omega) (by omega)
 ·exact PQ k t l w hk (by omega) (by omega) (by omega) (by omega)
 ·exact RQ k t l w hk (by omega) (by omega) (by omega) (by omega)
theorem eT (k b x t l:Int)(w:World)(hr:Yb k b x t l=false):Calls prog 155 #[.agg #[int i64 k,int i64 b,int i64 x,int i64 t,int i64 l]] w λr w'=>
   r=.returned (.tuple #[.agg #[int i64 0,int i64 0,int i64 0,int i64 0,int i64 0,int i64 0],int i64 1])/\Below w.heap.size w w':=by
 have HR:=Ia hr;clear hr;go_enter func155,ntmps155;go_wp2_with fail;refine(XA k b x t l _).mono ?_
 rintro e w1 ⟨rfl,hb⟩
 rw[HR.out];obtain⟨z0,z1,z2,z3,z4,z5⟩:=SC hb;have fz:∀o,w1.frozen? ⟨w.heap.size+1,o,none⟩=false:=λo=>(hb.frozen (by simp)).trans (by simp[go_sem]);have HB:=Ia (((Va _).alloc (by simp) _).trans (hb.mono (by simp;omega)):Below w.heap.size w w1);clear hb;go_wp2;refine bodyPost_ret (v:=.tuple #[.agg #[int i64 0,int i64 0,int i64 0,int i64 0,int i64 0,int i64 0],int i64 1]) (by simp[results,results155,go_sem,z0,z1,z2,z3,z4,z5]) rfl ⟨rfl,?_⟩;iterate 6 refine Below.setCell ?_ (show w.heap.size<=_ by simp) _
 exact HB.out
theorem rg0 (t l:Nat)(h1:1<=t)(h2:t<=4)(h3:1<=l)(h4:l<=3):wrap64 (8+wrap64 (wrap64 ((l:Int)*(19+(t:Int)))*4))=Xc 4 4 t l:=by
 rcases(show t=1\/t=2\/t=3\/t=4 by omega)with rfl|rfl|rfl|rfl<;>rcases(show l=1\/l=2\/l=3 by omega)with rfl|rfl|rfl<;>simp[wrap64,Xc,Gy,cB,iC,each]
theorem JC (k:Int)(t l:Nat)(w:World)(h1:1<=t)(h2:t<=4)(h3:1<=l)(h4:l<=3):Calls prog 83 #[.agg #[int i64 k,int i64 4,int i64 4,int i64 t,int i64 l]] w λr w'=>
   r=.returned (.agg #[int i64 16,int i64 3,int i64 19,int i64 (Yc t l),int i64 (Xc 4 4 t l),int i64 13])/\Below w.heap.size w w':=by
 go_enter func83,ntmps83;go_wp2;go_rounds 5;go_rounds 4;generalize hW:(((w.alloc (.cells #[int i64 k,int i64 4,int i64 4,int i64 t,int i64 l] 26)).alloc (.cells #[int i64 0,int i64 0,int i64 0,int i64 0,int i64 0,int i64 0] 158)).alloc (.cells #[int i64 16,int i64 3,int i64 19,int i64 0,int i64 0,int i64 0] 158))=W;have F5:Xl W w.heap.size k 4 4 t l:=by subst hW;refine⟨?_,?_,?_,?_,?_⟩<;>simp[go_sem,World.cell?_alloc_past]
 have Z6:Vj W (w.heap.size+1) 0 0 0 0 0 0:=by subst hW;refine⟨?_,?_,?_,?_,?_,?_⟩<;>simp[go_sem,World.cell?_alloc_past]
 have S6:Vj W (w.heap.size+1+1) 16 3 19 0 0 0:=by subst hW;refine⟨?_,?_,?_,?_,?_,?_⟩<;>simp[go_sem,World.cell?_alloc_at]
 have fz:∀o,W.frozen? ⟨w.heap.size+1,o,none⟩=false:=by subst hW;intro o;simp[go_sem]
 have Hw:∀o,W.frozen? ⟨w.heap.size+1+1,o,none⟩=false:=by subst hW;intro o;simp[go_sem]
 have hsz:w.heap.size+3=W.heap.size:=by subst hW;simp
 have HB:=Ia (by subst hW;exact((Va _).alloc (by simp) _).alloc (by simp;omega) _:Below w.heap.size w W);clear hW;have hl2:2^t<=16:=Nat.le_trans (Nat.pow_le_pow_right (by decide) h2) (by decide);have hpw:(2^t)^l=2^(t*l):=(Nat.pow_mul 2 t l).symm;have hpl:(2^t)^l<=65536:=Nat.le_trans (Nat.pow_le_pow_left hl2 l) (Nat.le_trans (Nat.pow_le_pow_right (by decide) h4) (by decide));have HT:Hid ((((2^t)^l:Nat):Int)=Yc t l):=by show(((2^t)^l:Nat):Int)=Yc t l;rw[hpw];unfold Yc;rw[show((t:Int)*(l:Int)).toNat=t*l by rw[<-Int.natCast_mul];rfl];simp
 have Nc:=Ia (λw':World=>Sy t k 4 4 l w' h2);have Ag:=Ia (λw':World=>Cx (2^t) l w' hl2 (by omega) hpl (Nat.one_le_two_pow));clear hl2 hpw hpl;generalize 2^t=q at HT Nc Ag;generalize q^l=T at HT Ag;obtain⟨c0,c1,c2,c3,c4⟩:=F5;obtain⟨z0,z1,z2,z3,z4,z5⟩:=Z6;obtain⟨s0,s1,s2,s3,s4,s5⟩:=S6;go_region_held3 (λw'=>w'.cell? ⟨w.heap.size,0,none⟩=some (int i64 k)/\w'.cell? ⟨w.heap.size,1,none⟩=some (int i64 4)/\w'.cell? ⟨w.heap.size,2,none⟩=some (int i64 4)/\w'.cell? ⟨w.heap.size,3,none⟩=some (int i64 t)/\w'.cell? ⟨w.heap.size,4,none⟩=some (int i64 l)) (first|exact hk1|exact yE hk1 _ (by omega)|(simp[go_sem,c0,c1,c2,c3,c4];done)) (first|(go_at_call 92;refine(Nc.out _).mono ?_;rintro r w1 ⟨rfl,hb1⟩;have hk1:=Gw (show Xl W.drew w.heap.size k 4 4 t l from⟨c0,c1,c2,c3,c4⟩) hb1 (by simp;omega);have hz1:=Fv (show Vj W.drew (w.heap.size+1) 0 0 0 0 0 0 from⟨z0,z1,z2,z3,z4,z5⟩) hb1 (by simp;omega);have hs1:=Fv (show Vj W.drew (w.heap.size+1+1) 16 3 19 0 0 0 from⟨s0,s1,s2,s3,s4,s5⟩) hb1 (by simp;omega);have fy:∀o,w1.frozen? ⟨w.heap.size+1,o,none⟩=false:=(λo=>(hb1.frozen (by simp;omega)).trans (fz o));have II:∀o,w1.frozen? ⟨w.heap.size+1+1,o,none⟩=false:=(λo=>(hb1.frozen (by simp;omega)).trans (Hw o));obtain⟨y0,y1,y2,y3,y4,y5⟩:=hz1;obtain⟨x0,x1,x2,x3,x4,x5⟩:=hs1)|(go_at_call 91;refine(Ag.out _).mono ?_;rintro r w2 ⟨rfl,rfl⟩));obtain⟨m0,m1,m2,m3,m4⟩:=hk1;have Ak:=Ia (rg0 t l h1 h2 h3 h4);go_wp2;rw[Ak.out,HT.out];refine bodyPost_ret (v:=.agg #[int i64 16,int i64 3,int i64 19,int i64 (Yc t l),int i64 (Xc 4 4 t l),int i64 13]) (by simp[results,results83,go_sem,y0,y1,y2,y3,y4,y5]) rfl ⟨rfl,?_⟩;iterate 9 refine Below.setCell ?_ (show w.heap.size<=_ by simp<;>omega) _
 exact HB.out.drew.trans (hb1.mono (by simp;omega))
theorem qg0 (t l:Nat)(h1:1<=t)(h2:t<=4)(h3:1<=l)(h4:l<=3):wrap64 (8+wrap64 (wrap64 ((l:Int)*(10+(t:Int)))*4))=Xc 4 16 t l:=by
 rcases(show t=1\/t=2\/t=3\/t=4 by omega)with rfl|rfl|rfl|rfl<;>rcases(show l=1\/l=2\/l=3 by omega)with rfl|rfl|rfl<;>simp[wrap64,Xc,Gy,cB,iC,each]
theorem BK (k:Int)(t l:Nat)(w:World)(h1:1<=t)(h2:t<=4)(h3:1<=l)(h4:l<=3):Calls prog 83 #[.agg #[int i64 k,int i64 4,int i64 16,int i64 t,int i64 l]] w λr w'=>
   r=.returned (.agg #[int i64 8,int i64 2,int i64 10,int i64 (Yc t l),int i64 (Xc 4 16 t l),int i64 13])/\Below w.heap.size w w':=by
 go_enter func83,ntmps83;go_wp2;go_rounds 3;go_rounds 3;generalize hW:(((w.alloc (.cells #[int i64 k,int i64 4,int i64 16,int i64 t,int i64 l] 26)).alloc (.cells #[int i64 0,int i64 0,int i64 0,int i64 0,int i64 0,int i64 0] 158)).alloc (.cells #[int i64 8,int i64 2,int i64 10,int i64 0,int i64 0,int i64 0] 158))=W;have F5:Xl W w.heap.size k 4 16 t l:=by subst hW;refine⟨?_,?_,?_,?_,?_⟩<;>simp[go_sem,World.cell?_alloc_past]
 have Z6:Vj W (w.heap.size+1) 0 0 0 0 0 0:=by subst hW;refine⟨?_,?_,?_,?_,?_,?_⟩<;>simp[go_sem,World.cell?_alloc_past]
 have S6:Vj W (w.heap.size+1+1) 8 2 10 0 0 0:=by subst hW;refine⟨?_,?_,?_,?_,?_,?_⟩<;>simp[go_sem,World.cell?_alloc_at]
 have fz:∀o,W.frozen? ⟨w.heap.size+1,o,none⟩=false:=by subst hW;intro o;simp[go_sem]
 have Hw:∀o,W.frozen? ⟨w.heap.size+1+1,o,none⟩=false:=by subst hW;intro o;simp[go_sem]
 have hsz:w.heap.size+3=W.heap.size:=by subst hW;simp
 have HB:=Ia (by subst hW;exact((Va _).alloc (by simp) _).alloc (by simp;omega) _:Below w.heap.size w W);clear hW;have hl2:2^t<=16:=Nat.le_trans (Nat.pow_le_pow_right (by decide) h2) (by decide);have hpw:(2^t)^l=2^(t*l):=(Nat.pow_mul 2 t l).symm;have hpl:(2^t)^l<=65536:=Nat.le_trans (Nat.pow_le_pow_left hl2 l) (Nat.le_trans (Nat.pow_le_pow_right (by decide) h4) (by decide));have HT:Hid ((((2^t)^l:Nat):Int)=Yc t l):=by show(((2^t)^l:Nat):Int)=Yc t l;rw[hpw];unfold Yc;rw[show((t:Int)*(l:Int)).toNat=t*l by rw[<-Int.natCast_mul];rfl];simp
 have Nc:=Ia (λw':World=>Sy t k 4 16 l w' h2);have Ag:=Ia (λw':World=>Cx (2^t) l w' hl2 (by omega) hpl (Nat.one_le_two_pow));clear hl2 hpw hpl;generalize 2^t=q at HT Nc Ag;generalize q^l=T at HT Ag;obtain⟨c0,c1,c2,c3,c4⟩:=F5;obtain⟨z0,z1,z2,z3,z4,z5⟩:=Z6;obtain⟨s0,s1,s2,s3,s4,s5⟩:=S6;go_region_held3 (λw'=>w'.cell? ⟨w.heap.size,0,none⟩=some (int i64 k)/\w'.cell? ⟨w.heap.size,1,none⟩=some (int i64 4)/\w'.cell? ⟨w.heap.size,2,none⟩=some (int i64 16)/\w'.cell? ⟨w.heap.size,3,none⟩=some (int i64 t)/\w'.cell? ⟨w.heap.size,4,none⟩=some (int i64 l)) (first|exact hk1|exact yE hk1 _ (by omega)|(simp[go_sem,c0,c1,c2,c3,c4];done)) (first|(go_at_call 92;refine(Nc.out _).mono ?_;rintro r w1 ⟨rfl,hb1⟩;have hk1:=Gw (show Xl W.drew w.heap.size k 4 16 t l from⟨c0,c1,c2,c3,c4⟩) hb1 (by simp;omega);have hz1:=Fv (show Vj W.drew (w.heap.size+1) 0 0 0 0 0 0 from⟨z0,z1,z2,z3,z4,z5⟩) hb1 (by simp;omega);have hs1:=Fv (show Vj W.drew (w.heap.size+1+1) 8 2 10 0 0 0 from⟨s0,s1,s2,s3,s4,s5⟩) hb1 (by simp;omega);have fy:∀o,w1.frozen? ⟨w.heap.size+1,o,none⟩=false:=(λo=>(hb1.frozen (by simp;omega)).trans (fz o));have II:∀o,w1.frozen? ⟨w.heap.size+1+1,o,none⟩=false:=(λo=>(hb1.frozen (by simp;omega)).trans (Hw o));obtain⟨y0,y1,y2,y3,y4,y5⟩:=hz1;obtain⟨x0,x1,x2,x3,x4,x5⟩:=hs1)|(go_at_call 91;refine(Ag.out _).mono ?_;rintro r w2 ⟨rfl,rfl⟩));obtain⟨m0,m1,m2,m3,m4⟩:=hk1;have Ak:=Ia (qg0 t l h1 h2 h3 h4);go_wp2;rw[Ak.out,HT.out];refine bodyPost_ret (v:=.agg #[int i64 8,int i64 2,int i64 10,int i64 (Yc t l),int i64 (Xc 4 16 t l),int i64 13]) (by simp[results,results83,go_sem,y0,y1,y2,y3,y4,y5]) rfl ⟨rfl,?_⟩;iterate 9 refine Below.setCell ?_ (show w.heap.size<=_ by simp<;>omega) _
 exact HB.out.drew.trans (hb1.mono (by simp;omega))
theorem sg0 (t l:Nat)(h1:1<=t)(h2:t<=4)(h3:1<=l)(h4:l<=3):wrap64 (12+wrap64 (wrap64 ((l:Int)*(18+(t:Int)))*8))=Xc 8 16 t l:=by
 rcases(show t=1\/t=2\/t=3\/t=4 by omega)with rfl|rfl|rfl|rfl<;>rcases(show l=1\/l=2\/l=3 by omega)with rfl|rfl|rfl<;>simp[wrap64,Xc,Gy,cB,iC,each]
theorem CK (k:Int)(t l:Nat)(w:World)(h1:1<=t)(h2:t<=4)(h3:1<=l)(h4:l<=3):Calls prog 83 #[.agg #[int i64 k,int i64 8,int i64 16,int i64 t,int i64 l]] w λr w'=>
   r=.returned (.agg #[int i64 16,int i64 2,int i64 18,int i64 (Yc t l),int i64 (Xc 8 16 t l),int i64 21])/\Below w.heap.size w w':=by
 go_enter func83,ntmps83;go_wp2;go_rounds 3;go_rounds 3;generalize hW:(((w.alloc (.cells #[int i64 k,int i64 8,int i64 16,int i64 t,int i64 l] 26)).alloc (.cells #[int i64 0,int i64 0,int i64 0,int i64 0,int i64 0,int i64 0] 158)).alloc (.cells #[int i64 16,int i64 2,int i64 18,int i64 0,int i64 0,int i64 0] 158))=W;have F5:Xl W w.heap.size k 8 16 t l:=by subst hW;refine⟨?_,?_,?_,?_,?_⟩<;>simp[go_sem,World.cell?_alloc_past]
 have Z6:Vj W (w.heap.size+1) 0 0 0 0 0 0:=by subst hW;refine⟨?_,?_,?_,?_,?_,?_⟩<;>simp[go_sem,World.cell?_alloc_past]
 have S6:Vj W (w.heap.size+1+1) 16 2 18 0 0 0:=by subst hW;refine⟨?_,?_,?_,?_,?_,?_⟩<;>simp[go_sem,World.cell?_alloc_at]
 have fz:∀o,W.frozen? ⟨w.heap.size+1,o,none⟩=false:=by subst hW;intro o;simp[go_sem]
 have Hw:∀o,W.frozen? ⟨w.heap.size+1+1,o,none⟩=false:=by subst hW;intro o;simp[go_sem]
 have hsz:w.heap.size+3=W.heap.size:=by subst hW;simp
 have HB:=Ia (by subst hW;exact((Va _).alloc (by simp) _).alloc (by simp;omega) _:Below w.heap.size w W);clear hW;have hl2:2^t<=16:=Nat.le_trans (Nat.pow_le_pow_right (by decide) h2) (by decide);have hpw:(2^t)^l=2^(t*l):=(Nat.pow_mul 2 t l).symm;have hpl:(2^t)^l<=65536:=Nat.le_trans (Nat.pow_le_pow_left hl2 l) (Nat.le_trans (Nat.pow_le_pow_right (by decide) h4) (by decide));have HT:Hid ((((2^t)^l:Nat):Int)=Yc t l):=by show(((2^t)^l:Nat):Int)=Yc t l;rw[hpw];unfold Yc;rw[show((t:Int)*(l:Int)).toNat=t*l by rw[<-Int.natCast_mul];rfl];simp
 have Nc:=Ia (λw':World=>Sy t k 8 16 l w' h2);have Ag:=Ia (λw':World=>Cx (2^t) l w' hl2 (by omega) hpl (Nat.one_le_two_pow));clear hl2 hpw hpl;generalize 2^t=q at HT Nc Ag;generalize q^l=T at HT Ag;obtain⟨c0,c1,c2,c3,c4⟩:=F5;obtain⟨z0,z1,z2,z3,z4,z5⟩:=Z6;obtain⟨s0,s1,s2,s3,s4,s5⟩:=S6;go_region_held3 (λw'=>w'.cell? ⟨w.heap.size,0,none⟩=some (int i64 k)/\w'.cell? ⟨w.heap.size,1,none⟩=some (int i64 8)/\w'.cell? ⟨w.heap.size,2,none⟩=some (int i64 16)/\w'.cell? ⟨w.heap.size,3,none⟩=some (int i64 t)/\w'.cell? ⟨w.heap.size,4,none⟩=some (int i64 l)) (first|exact hk1|exact yE hk1 _ (by omega)|(simp[go_sem,c0,c1,c2,c3,c4];done)) (first|(go_at_call 92;refine(Nc.out _).mono ?_;rintro r w1 ⟨rfl,hb1⟩;have hk1:=Gw (show Xl W.drew w.heap.size k 8 16 t l from⟨c0,c1,c2,c3,c4⟩) hb1 (by simp;omega);have hz1:=Fv (show Vj W.drew (w.heap.size+1) 0 0 0 0 0 0 from⟨z0,z1,z2,z3,z4,z5⟩) hb1 (by simp;omega);have hs1:=Fv (show Vj W.drew (w.heap.size+1+1) 16 2 18 0 0 0 from⟨s0,s1,s2,s3,s4,s5⟩) hb1 (by simp;omega);have fy:∀o,w1.frozen? ⟨w.heap.size+1,o,none⟩=false:=(λo=>(hb1.frozen (by simp;omega)).trans (fz o));have II:∀o,w1.frozen? ⟨w.heap.size+1+1,o,none⟩=false:=(λo=>(hb1.frozen (by simp;omega)).trans (Hw o));obtain⟨y0,y1,y2,y3,y4,y5⟩:=hz1;obtain⟨x0,x1,x2,x3,x4,x5⟩:=hs1)|(go_at_call 91;refine(Ag.out _).mono ?_;rintro r w2 ⟨rfl,rfl⟩));obtain⟨m0,m1,m2,m3,m4⟩:=hk1;have Ak:=Ia (sg0 t l h1 h2 h3 h4);go_wp2;rw[Ak.out,HT.out];refine bodyPost_ret (v:=.agg #[int i64 16,int i64 2,int i64 18,int i64 (Yc t l),int i64 (Xc 8 16 t l),int i64 21]) (by simp[results,results83,go_sem,y0,y1,y2,y3,y4,y5]) rfl ⟨rfl,?_⟩;iterate 9 refine Below.setCell ?_ (show w.heap.size<=_ by simp<;>omega) _
 exact HB.out.drew.trans (hb1.mono (by simp;omega))
theorem lg0 (s:ByteArray)(q:Nat)(w:World)(hs:s.size<=1000)(hq:q<=1000):Calls prog 243 #[string s,int i64 q,int i64 4] w λe w'=>e=.returned (.int .u64 ((yc (Ib s) (q*4) 4:Nat):Int))/\w'=w:=by
 go_enter func243,ntmps243;go_wp2;go_loop [7,8] (λx i=>∃j:Nat,j<=4/\i=int i64 ((q:Int)*4+j)/\x=.int .u64 ((yc (Ib s) (q*4) j:Nat):Int)) (λ_ i=>(((q:Int)+1)*4-intOf i).toNat)
 case atStart=>exact⟨0,by omega,by simp,rfl⟩
 case round=>
  obtain⟨j,hj,rfl,rfl⟩:=hrel;by_cases hlt:j<4
  ·have hv:yc (Ib s) (q*4) j<16777216:=Nat.lt_of_lt_of_le (Br _ _ j (yx s)) (Nat.pow_le_pow_right (by decide) (show j<=3 by omega));have HS:Hid (yc (Ib s) (q*4) (j+1)=yc (Ib s) (q*4) j*256+Ba (Ib s) (q*4+j)):=rfl;have HV:=aa hv;generalize yc (Ib s) (q*4) j=v at hv HS HV⊢;have HC:=aa (yx s (q*4+j));rcases Nat.lt_trichotomy (q*4+j) s.size with h|h|h
   ·have HX:=aa (qK s (q*4+j) h);have t1:((q:Int)*4+(j:Int)).toNat=q*4+j:=by omega
    have h1:(q:Int)*4+(j:Int)<(s.size:Int):=by omega
    have h2:(0:Int)<=(q:Int)*4+(j:Int):=by omega
    have hcb:(((s[q*4+j]'h).toNat:Nat):Int)<=255:=by have:=UInt8.toNat_lt (s[q*4+j]'h);omega
    clear hv;go_wp2;go_round
    case rel=>
     refine⟨j+1,by omega,by go_num,?_⟩;rw[HS.out,HX.out];have:=HV.out;refine congrArg (Value.int IntKind.u64) ?_;try simp only[IntKind.wrap_u64]
     omega
    case measure=>simp[intOf];omega
   ·have HX:=aa (show Ba (Ib s) (q*4+j)=1 by rw[h];exact pK s);have h1:decide ((q:Int)*4+(j:Int)<(s.size:Int))=false:=by simp;omega
    have h2:((q:Int)*4+(j:Int)==(s.size:Int))=true:=by rw[beq_iff_eq];omega
    have H:=aa h;clear hv h;go_wp2;go_round
    case rel=>
     refine⟨j+1,by omega,by go_num,?_⟩;rw[HS.out,HX.out];have:=HV.out;refine congrArg (Value.int IntKind.u64) ?_;try simp only[IntKind.wrap_u64]
     omega
    case measure=>simp[intOf];omega
   ·have HX:=aa (sK s (q*4+j) h);have h1:decide ((q:Int)*4+(j:Int)<(s.size:Int))=false:=by simp;omega
    have h2:((q:Int)*4+(j:Int)==(s.size:Int))=false:=by rw[beq_eq_false_iff_ne];omega
    clear hv;go_wp2;go_round
    case rel=>
     refine⟨j+1,by omega,by go_num,?_⟩;rw[HS.out,HX.out];have:=HV.out;refine congrArg (Value.int IntKind.u64) ?_;try simp only[IntKind.wrap_u64]
     omega
    case measure=>simp[intOf];omega
  ·obtain rfl:j=4:=by omega
   go_wp2;go_ret;exact⟨rfl,rfl⟩
theorem mg0 (s:ByteArray)(q:Nat)(w:World)(hs:s.size<=1000)(hq:q<=1000):Calls prog 243 #[string s,int i64 q,int i64 8] w λe w'=>e=.returned (.int .u64 ((yc (Ib s) (q*8) 8:Nat):Int))/\w'=w:=by
 go_enter func243,ntmps243;go_wp2;go_loop [7,8] (λx i=>∃j:Nat,j<=8/\i=int i64 ((q:Int)*8+j)/\x=.int .u64 ((yc (Ib s) (q*8) j:Nat):Int)) (λ_ i=>(((q:Int)+1)*8-intOf i).toNat)
 case atStart=>exact⟨0,by omega,by simp,rfl⟩
 case round=>
  obtain⟨j,hj,rfl,rfl⟩:=hrel;by_cases hlt:j<8
  ·have hv:yc (Ib s) (q*8) j<72057594037927936:=Nat.lt_of_lt_of_le (Br _ _ j (yx s)) (Nat.pow_le_pow_right (by decide) (show j<=7 by omega));have HS:Hid (yc (Ib s) (q*8) (j+1)=yc (Ib s) (q*8) j*256+Ba (Ib s) (q*8+j)):=rfl;have HV:=aa hv;generalize yc (Ib s) (q*8) j=v at hv HS HV⊢;have HC:=aa (yx s (q*8+j));rcases Nat.lt_trichotomy (q*8+j) s.size with h|h|h
   ·have HX:=aa (qK s (q*8+j) h);have t1:((q:Int)*8+(j:Int)).toNat=q*8+j:=by omega
    have h1:(q:Int)*8+(j:Int)<(s.size:Int):=by omega
    have h2:(0:Int)<=(q:Int)*8+(j:Int):=by omega
    have hcb:(((s[q*8+j]'h).toNat:Nat):Int)<=255:=by have:=UInt8.toNat_lt (s[q*8+j]'h);omega
    clear hv;go_wp2;go_round
    case rel=>
     refine⟨j+1,by omega,by go_num,?_⟩;rw[HS.out,HX.out];have:=HV.out;refine congrArg (Value.int IntKind.u64) ?_;try simp only[IntKind.wrap_u64]
     omega
    case measure=>simp[intOf];omega
   ·have HX:=aa (show Ba (Ib s) (q*8+j)=1 by rw[h];exact pK s);have h1:decide ((q:Int)*8+(j:Int)<(s.size:Int))=false:=by simp;omega
    have h2:((q:Int)*8+(j:Int)==(s.size:Int))=true:=by rw[beq_iff_eq];omega
    have H:=aa h;clear hv h;go_wp2;go_round
    case rel=>
     refine⟨j+1,by omega,by go_num,?_⟩;rw[HS.out,HX.out];have:=HV.out;refine congrArg (Value.int IntKind.u64) ?_;try simp only[IntKind.wrap_u64]
     omega
    case measure=>simp[intOf];omega
   ·have HX:=aa (sK s (q*8+j) h);have h1:decide ((q:Int)*8+(j:Int)<(s.size:Int))=false:=by simp;omega
    have h2:((q:Int)*8+(j:Int)==(s.size:Int))=false:=by rw[beq_eq_false_iff_ne];omega
    clear hv;go_wp2;go_round
    case rel=>
     refine⟨j+1,by omega,by go_num,?_⟩;rw[HS.out,HX.out];have:=HV.out;refine congrArg (Value.int IntKind.u64) ?_;try simp only[IntKind.wrap_u64]
     omega
    case measure=>simp[intOf];omega
  ·obtain rfl:j=8:=by omega
   go_wp2;go_ret;exact⟨rfl,rfl⟩
end Go.Proofs.YtgaoeoijdpdjiabGreatDoor
