import Derived.Test.YtgaoeoijdpdjiabGreatDoorPart18
import Derived.Test.YtgaoeoijdpdjiabGreatDoorPart10
open Go.Value (int string pointer)
open Go.IntKind (i64)
open Go.Proofs.Tryz
set_option maxRecDepth 20000
set_option maxHeartbeats 4000000
namespace Go.Proofs.YtgaoeoijdpdjiabGreatDoor
open Go.RowKit
theorem Bf0 (i:Nat)(h:i<4):Ab i=5\/Ab i=11\/Ab i=19\/Ab i=26:=by
 rcases(show i=0\/i=1\/i=2\/i=3 by omega)with rfl|rfl|rfl|rfl<;>simp[Ab]
theorem G6 (g:Nat)(x:Int)(w:World)(hc:w.cell? ⟨g,8,none⟩=some (int i64 32))(h0:0<=x)(h1:x<18446744073709551616):Calls prog 287 #[pointer (some ⟨g,0,none⟩),.int .u64 x] w λe w'=>e=.returned (.int .u64 (x% 4294967296))/\w'=w:=by
 obtain⟨n,rfl⟩:=Int.eq_ofNat_of_zero_le h0;exact dC g n w hc (by omega)
theorem cf0 (g:Nat)(L:List Nat)(w:World)(hr:bf w g 32 L)(hL:L.length=8)(hW:ve 32 L):Calls prog 244 #[pointer (some ⟨g,0,none⟩)] w λe w'=>e=.returned (.tuple #[])/\bf w' g 32 (Mg 32 L 8)/\Ob g w w':=by
 have HR:=aa hr;have HL:=aa hL;have HW:=aa hW;clear hr hL hW;go_enter func244,ntmps244;go_wp2;go_loopw [2] (λi wr=>∃r:Nat,r<=8/\i=int i64 r/\Hid (bf wr g 32 (Mg 32 L r))/\Hid (Ob g w wr)) (λi _=>8-(intOf i).toNat)
 case atStart=>exact⟨0,by omega,rfl,HR,Ob.refl _ _⟩
 case round=>
  obtain⟨r,Y0,rfl,hp,ho⟩:=hrel;by_cases hlt:r<8
  ·have hlen:(Mg 32 L r).length=8:=by rw[XF];exact HL.out
   have hwd:=kS 32 L r HW.out;have HS:Hid (Mg 32 L (r+1)=(Ue 32 r (Mg 32 L r) 4).set 0 (Ba (Ue 32 r (Mg 32 L r) 4) 0^^^(r+1))):=rfl;generalize Mg 32 L r=Q at hp hlen hwd HS;have iw:=aa hlen;have jA:=aa hwd;clear hlen hwd;obtain⟨wo,rfl⟩:∃wo:World,wo=wr:=⟨_,rfl⟩;go_wp2;go_loopw [3] (λi wr=>∃j:Nat,j<=4/\i=int i64 j/\Hid (bf wr g 32 (Ue 32 r Q j))/\Hid (Ob g w wr)) (λi _=>4-(intOf i).toNat)
   case atStart=>exact⟨0,by omega,rfl,hp,ho⟩
   case round=>
    obtain⟨j,hj,rfl,hp,ho⟩:=hrel;by_cases Kn:j<4
    ·have hlen:(Ue 32 r Q j).length=8:=by rw[qC];exact iw.out
     have hwd:=rC 32 r Q j jA.out;have Ed:Hid (Ue 32 r Q (j+1)=Pb 32 j (4+(j+r)% 4) (Ue 32 r Q j)):=rfl;generalize Ue 32 r Q j=K at hp hlen hwd Ed;have hjr:4+(j+r)% 4<8:=by omega
     have d1:=hp.out.cell (i:=j) (by omega);have d2:=hp.out.cell (i:=4+(j+r)% 4) (by omega);have d8:=hp.out.bits hlen;have x1:=hwd.at j;have x2:=hwd.at (4+(j+r)% 4);have HJ:Hid ((4:Int)+((j:Int)+(r:Int))% 4=((4+(j+r)% 4:Nat):Int)):=by show(4:Int)+((j:Int)+(r:Int))% 4=_;omega
     have Kh:Hid (Pb 32 j (4+(j+r)% 4) K=(K.set j (La 32 (Ba K j) (Ba K (4+(j+r)% 4)))).set (4+(j+r)% 4) (Kb 32 (Ba K (4+(j+r)% 4)) (Ab j)^^^La 32 (Ba K j) (Ba K (4+(j+r)% 4)))):=rfl;have UI:4<=4+(j+r)% 4:=by omega
     generalize 4+(j+r)% 4=J at hjr d2 x2 HJ Ed Kh UI;have q0:(0:Int)<=(J:Int):=by omega
     have q1:(J:Int)<8:=by omega
     have q2:(j:Int)<8:=by omega
     have Mh:=aa hlen;have z1:Ba K j<4294967296:=by simpa using x1
     have z2:Ba K J<4294967296:=by simpa using x2
     have y1:((Ba K j:Nat):Int)<4294967296:=by omega
     have y2:((Ba K J:Nat):Int)<4294967296:=by omega
     have hwr:IntKind.u64.wrap (((Ba K j:Nat):Int)+((Ba K J:Nat):Int))=((Ba K j:Nat):Int)+((Ba K J:Nat):Int):=by rw[IntKind.wrap_u64];omega
     have HP:Hid (0<=((Ba K j:Nat):Int)+((Ba K J:Nat):Int)/\((Ba K j:Nat):Int)+((Ba K J:Nat):Int)<18446744073709551616):=⟨by omega,by omega⟩;clear z1 z2 y1 y2;have Tm:=aa (λw' h1=>Ad0 g (Ba K J) (Ab j) w' h1 (by simpa using x2) (Bf0 j Kn));have tu:=aa (λw':World=>fU j w' Kn)
     have HAD:Hid ((((Ba K j:Nat):Int)+((Ba K J:Nat):Int))% 4294967296=((La 32 (Ba K j) (Ba K J):Nat):Int)):=by
      show(((Ba K j:Nat):Int)+((Ba K J:Nat):Int))% 4294967296=_;unfold La;rw[Int.natCast_emod,Int.natCast_add];rfl
     have Re:=aa (show Kb 32 (Ba K J) (Ab j)<18446744073709551616 from Nat.lt_of_lt_of_le (NC 32 (Ba K J) (Ab j) x2) (by decide));have jk:=aa (show La 32 (Ba K j) (Ba K J)<18446744073709551616 from Nat.lt_of_lt_of_le (Ay 32 (Ba K j) (Ba K J)) (by decide));generalize Ba K j=a at d1 x1 HAD Kh hwr HP jk;generalize Ba K J=c at d2 x2 HAD Kh hwr HP Tm Re jk;generalize Ab j=tn at Tm tu Kh Re;generalize Kb 32 c tn=rt at Tm Kh Re;generalize La 32 a c=A at HAD Kh jk;clear hlen hwd x1 x2;go_wp2;rw[HJ.out];go_quiet ((go_at_call 287;exact Calls.quiet_of_same (G6 g _ _ (by simpa[go_sem]using d8) HP.out.1 HP.out.2)));have Te:=aa (u64_xor_nat rt A Re.out jk.out);have zk:=aa (hp.out.drewN nq);have qb:=aa (ho.out.drewN nq);generalize hV:wr.drewN nq=V at zk qb⊢;have fj:V.frozen? ⟨g,j,none⟩=false:=zk.out.free j;have fJ:V.frozen? ⟨g,J,none⟩=false:=zk.out.free J;have e1:V.cell? ⟨g,j,none⟩=some (.int .u64 ((a:Nat):Int)):=by rw[<-hV];exact d1
     have e2:V.cell? ⟨g,J,none⟩=some (.int .u64 ((c:Nat):Int)):=by rw[<-hV];exact d2
     have e8:V.cell? ⟨g,8,none⟩=some (int i64 32):=by rw[<-hV];exact d8
     clear hwr hV d1 d2 d8;go_wp2;rw[HAD.out];go_quiet (first|(go_at_call 289;exact Calls.quiet_of_same (tu.out _))|(go_at_call 288;exact Calls.quiet_of_same (Tm.out _ (by simpa[go_sem]using e8))));go_wp2;rw[Te.out];go_roundw
     case rel=>
      refine⟨j+1,by omega,by go_num,?_,?_⟩
      ·have h:=(zk.out.set j A (by have:=Mh.out;omega)).set J (rt^^^A) (by rw[List.length_set];have:=Mh.out;omega);rw[<-Kh.out,<-Ed.out]at h;exact h
      ·unfold Hid;repeat(first|refine Ob.drew ?_|refine Ob.drewN ?_ _|refine Ob.setCell ?_ _ _)
       exact qb.out
     case measure=>simp[intOf];omega
    ·obtain rfl:j=4:=by omega
     have hlen:(Ue 32 r Q 4).length=8:=by rw[qC];exact iw.out
     have hwd:=rC 32 r Q 4 jA.out;generalize Ue 32 r Q 4=K at hp hlen hwd HS;have d0:=hp.out.cell (i:=0) (by omega);have f0:=hp.out.free 0;have Te:Hid (bits BinOp.xor IntKind.u64 ((Ba K 0:Nat):Int) ((r:Int)+1)=((Ba K 0^^^(r+1):Nat):Int)):=u64_xor_nat (Ba K 0) (r+1) (Nat.lt_of_lt_of_le (hwd.at 0) (by decide)) (by omega);have Mh:=aa hlen;generalize Ba K 0=a at d0 Te HS;clear hlen hwd;go_wp2;go_region;go_wp2;rw[Te.out];go_roundw
     case rel=>
      refine⟨r+1,by omega,by go_num,?_,?_⟩
      ·have h:=hp.out.set 0 (a^^^(r+1)) (by have:=Mh.out;omega);rw[<-HS.out]at h;exact h
      ·unfold Hid;repeat(first|refine Ob.drew ?_|refine Ob.drewN ?_ _|refine Ob.setCell ?_ _ _)
       exact ho.out
     case measure=>simp[intOf];omega
  ·obtain rfl:r=8:=by omega
   go_wp2;go_end0;exact⟨rfl,hp.out,ho.out⟩
theorem nf0 (BL:List Nat)(o:Nat)(L:List Nat)(j:Nat):xg BL o L (j+1)=(xg BL o L j).set j (Ba (xg BL o L j) j^^^yc BL (o+j*4) 4):=by rw[xg]
theorem of0 (BL:List Nat)(o:Nat)(L:List Nat):xg BL o L 0=L:=by rw[xg]
theorem Xe0 (L:List Nat)(hL:L.length=8):Mg 32 L 8=Je 32 L 8:=KT 32 L hL
theorem qY (n:Nat)(s:ByteArray)(w:World)(hn:1<=n)(hn2:n<=16)(hs:s.size<=400):Calls prog 165 #[int i64 1,int i64 (n:Int),string s] w λe w'=>e=.returned (string (ik (Me 4 (Lj (Ib s) (s.size/16+1)) n)))/\Below w.heap.size w w':=by
 have HS:=aa hs;have HN:=aa hn;have kg:=aa hn2;clear hs hn hn2;obtain⟨sk,Nh⟩:∃F,Hid (Lj=F):=⟨_,rfl⟩;obtain⟨tk,Yf⟩:∃F,Hid (xg=F):=⟨_,rfl⟩;obtain⟨ou,Qs⟩:∃F,Hid (Me=F):=⟨_,rfl⟩;have Mf:Hid (∀BL,sk BL 0=[1,2,3,4,5,6,7,8]):=λBL=>by rw[<-Nh.out];exact wT BL
 have Vs:Hid (∀BL m,sk BL (m+1)=Je 32 (tk BL (m*16) (sk BL m) 4) 8):=λBL m=>by rw[<-Nh.out,<-Yf.out];exact oG BL m
 have Vd:Hid (∀BL m,(sk BL m).length=8):=λBL m=>by rw[<-Nh.out];exact TK BL m
 have qj:Hid (∀BL,(∀i,Ba BL i<256)->∀m,ve 32 (sk BL m)):=λBL h m=>by rw[<-Nh.out];exact vT BL h m
 have HT0:Hid (∀BL o L,tk BL o L 0=L):=λBL o L=>by rw[<-Yf.out];exact of0 BL o L
 have HT1:Hid (∀BL o L j,tk BL o L (j+1)=(tk BL o L j).set j (Ba (tk BL o L j) j^^^yc BL (o+j*4) 4)):=λBL o L j=>by rw[<-Yf.out];exact nf0 BL o L j
 have su:Hid (∀BL o L j,(tk BL o L j).length=L.length):=λBL o L j=>by rw[<-Yf.out];exact YC BL o L j
 have Mi:Hid (∀BL o L j,ve 32 L->(∀i,Ba BL i<256)->ve 32 (tk BL o L j)):=λBL o L j h hB=>by rw[<-Yf.out];exact vG BL o L j h hB
 have jm:Hid (∀n L m,(ou n L m).length=m):=λn L m=>by rw[<-Qs.out];exact vv n L m
 have ku:Hid (∀n L m,ou n L (m+1)=ou n L m++[Rn n L m]):=λn L m=>by rw[<-Qs.out];exact EF n L m
 rw[Nh.out,Qs.out];go_enter func165,ntmps165;go_wp2;go_rounds 9
 have R0:Hid (bf (w.alloc (.cells #[.int .u64 1,.int .u64 2,.int .u64 3,.int .u64 4,.int .u64 5,.int .u64 6,.int .u64 7,.int .u64 8,int i64 32] 320)) w.heap.size 32 (sk (Ib s) 0)):=by
  rw[Mf.out];exact heap_alloc_new _ _
 have B0:=aa ((Below.refl w.heap.size w).alloc Aa (.cells #[.int .u64 1,.int .u64 2,.int .u64 3,.int .u64 4,.int .u64 5,.int .u64 6,.int .u64 7,.int .u64 8,int i64 32] 320));generalize hW0:w.alloc (.cells #[.int .u64 1,.int .u64 2,.int .u64 3,.int .u64 4,.int .u64 5,.int .u64 6,.int .u64 7,.int .u64 8,int i64 32] 320)=W0 at R0 B0⊢;clear hW0;obtain⟨g,hg⟩:∃g,g=w.heap.size:=⟨_,rfl⟩;rw[<-hg]at R0 B0;rw[<-hg];have Zl:=aa hg;clear hg;have Cf:=aa (λi=>yx s i);have hz:=HS.out;go_loopw [10] (λa wr=>∃m:Nat,m<=s.size/16+1/\a=int i64 ((m:Int)*4)/\Hid (bf wr g 32 (sk (Ib s) m))/\Hid (Below g w wr)) (λa _=>500-(intOf a).toNat)
 case atStart=>exact⟨0,by omega,by simp,R0,B0⟩
 case round=>
  obtain⟨m,hm,rfl,hp,hb⟩:=hrel;by_cases hlt:m<=s.size/16
  ·obtain⟨wo,rfl⟩:∃wo:World,wo=wr:=⟨_,rfl⟩;have nJ:decide ((m:Int)*4*4<=(s.size:Int))=true:=by simp;omega
   have hl:=Vd.out (Ib s) m;have hwd:=qj.out (Ib s) Cf.out m;have xm:=aa (Vs.out (Ib s) m);generalize sk (Ib s) m=A at hp hl hwd xm;have HL:=aa hl;have EA:=aa hwd;clear hl hwd;go_wp2;go_loopw [11] (λi wr=>∃j:Nat,j<=4/\i=int i64 j/\Hid (bf wr g 32 (tk (Ib s) (m*16) A j))/\Hid (Below g w wr)) (λi _=>4-(intOf i).toNat)
   case atStart=>exact⟨0,by omega,rfl,by rw[HT0.out];exact hp,hb⟩
   case round=>
    obtain⟨j,hj,rfl,hp,hb⟩:=hrel;by_cases Kn:j<4
    ·have hlen:(tk (Ib s) (m*16) A j).length=8:=by rw[su.out];exact HL.out
     have hwd:=Mi.out (Ib s) (m*16) A j EA.out Cf.out;have Ed:=aa (HT1.out (Ib s) (m*16) A j);generalize tk (Ib s) (m*16) A j=K at hp hlen hwd Ed;have HW:=aa (λw':World=>lg0 s (m*4+j) w' (by omega) (by omega));rw[show(m*4+j)*4=m*16+j*4 by omega]at HW;have d1:=hp.out.cell (i:=j) (by omega);have f1:=hp.out.free j;have x1:Ba K j<18446744073709551616:=Nat.lt_of_lt_of_le (hwd.at j) (by decide);have y1:yc (Ib s) (m*16+j*4) 4<18446744073709551616:=Nat.lt_of_lt_of_le (Br (Ib s) (m*16+j*4) 4 Cf.out) (by decide);have Te:=aa (u64_xor_nat (Ba K j) (yc (Ib s) (m*16+j*4) 4) x1 y1);have Jf:=aa hlen;generalize yc (Ib s) (m*16+j*4) 4=v at Ed HW y1 Te;generalize Ba K j=u at d1 x1 Te Ed;clear hlen hwd x1 y1;have q1:(j:Int)<8:=by omega
     have hc:((m*4+j:Nat):Int)=(m:Int)*4+(j:Int):=by omega
     rw[hc]at HW;clear hc;go_wp2_with fail;refine(HW.out _).mono ?_
     rintro e w3 ⟨rfl,rfl⟩
     clear HW;go_wp2;go_region;go_wp2;rw[Te.out];go_roundw
     case rel=>
      refine⟨j+1,by omega,by go_num,?_,?_⟩
      ·have h:=hp.out.set j (u^^^v) (by have:=Jf.out;omega);rw[<-Ed.out]at h;exact h
      ·unfold Hid;repeat(first|refine Below.drew ?_|refine Below.setCell ?_ (Nat.le_refl g) _)
       exact hb.out
     case measure=>simp[intOf];omega
    ·obtain rfl:j=4:=by omega
     have HST:=aa (cf0 g (tk (Ib s) (m*16) A 4) wr hp.out (by rw[su.out];exact HL.out) (Mi.out (Ib s) (m*16) A 4 EA.out Cf.out));go_wp2_with fail;refine HST.out.mono ?_
     rintro e w4 ⟨rfl,Jk,Di⟩
     clear HST;rw[Xe0 _ (by rw[su.out];exact HL.out),<-xm.out]at Jk;have P4:=aa Jk;have B4:=aa (Di.below hb.out (Nat.le_refl g));clear Jk Di;go_wp2;go_roundw
     case rel=>exact⟨m+1,by omega,by go_num,P4,B4⟩
     case measure=>simp[intOf];omega
  ·obtain rfl:m=s.size/16+1:=by omega
   have hl:=Vd.out (Ib s) (s.size/16+1);have hwd:=qj.out (Ib s) Cf.out (s.size/16+1);generalize vB:sk (Ib s) (s.size/16+1)=L at hp hl hwd⊢;have eH:=aa vB;have eu:=aa hl;have RH:=aa hwd;clear vB hl hwd;have Zi:=aa hp.out.lt;obtain⟨wo,rfl⟩:∃wo:World,wo=wr:=⟨_,rfl⟩;obtain⟨i0,hi,hz0,hz1,hz2⟩:=info_parts infoByte;go_wp2;go_loopw [13,14] (λv i wr=>∃a:Nat,a<=n/\i=int i64 a/\Hid (wr.ownsRow wo.heap.size 5 1 v a (Jg (ou 4 L a)))/\Hid (Below wo.heap.size wo wr)) (λ_ i _=>16-(intOf i).toNat)
   case atStart=>exact⟨0,by omega,rfl,⟨by simp[Jg,jm.out],Or.inl ⟨rfl,rfl⟩⟩,Vb⟩
   case round=>
    obtain⟨a,ha,rfl,ho,hb2⟩:=hrel;by_cases hlt2:a<n
    ·have hn2:=kg.out;have c:=(hp.out.below hb2.out Zi.out).cell (i:=a/4) (by have:=eu.out;omega);have HX:=aa (RH.out.at (a/4));have Lf:Hid (Rn 4 L a=Ba L (a/4)/2^(8*(4-1-a% 4))% 256):=rfl;have Ld:=aa (ku.out 4 L a);generalize Ba L (a/4)=u at c HX Lf;obtain⟨d,hd⟩:∃d,d=a/4:=⟨_,rfl⟩;obtain⟨q,hq⟩:∃q,q=a% 4:=⟨_,rfl⟩;rw[<-hd]at c;rw[<-hq]at Lf;have e1:(a:Int).tdiv 4=(d:Int):=by rw[Int.tdiv_eq_ediv_of_nonneg (by omega)];omega
     have e2:(a:Int)/4=(d:Int):=by omega
     have e3:(a:Int).tmod 4=(q:Int):=by rw[Int.tmod_eq_emod_of_nonneg (by omega)];omega
     have e4:(a:Int)% 4=(q:Int):=by omega
     have d8:(d:Int)<8:=by omega
     have q8:(q:Int)<4:=by omega
     clear hd hq;go_wp2;go_region;have qb:=aa (show wr.drew.ownsRow wo.heap.size 5 1 u13 a (Jg (ou 4 L a))from ho.out);have Wi:=aa hb2.out.drew;generalize hV:wr.drew=V at qb Wi⊢;clear hV c;go_wp2_with (at_builtin;refine wpList_append_own _ rfl _ _ 170 rfl wo.heap.size 5 i0 (.int .u8 0) 1 1 underlying170 hi hz0 hz1 hz2 rfl (by decide) _ _ _ rfl (qb.out.alloc _) ⟨V.heap.size,0,none⟩ 1 1 [_] rfl rfl (Mo _ _ _) ?c2 ?c3 ?c4 ?c5 ?_)
     case c2=>intro y hy;simp at hy;subst hy;rfl
     case c3=>unfold maxLen;omega
     case c4=>omega
     case c5=>have:=Wi.out.size;simp;omega
     intro v' w3 ho3 hgrow _;have HB3:=aa ((Wi.out.alloc Wi.out.size _).grown hgrow (by have:=Wi.out.size;simp;omega) (λp hp=>(Mr qb.out p hp).1));have jd:=aa ho3;clear ho3 hgrow;go_wp2;go_roundw
     case rel=>
      have hcs:Jg (ou 4 L (a+1))=Jg (ou 4 L a)++[.int .u8 ((u:Int)/2^(8*(4-1-q))% 256)]:=by
       rw[Ld.out,uE,Lf.out,Int.natCast_emod,Int.natCast_ediv,Int.natCast_pow];rfl
      have R:∃p:Nat,p<=n/\int i64 ((a:Int)+1)=int i64 (p:Int)/\Hid (w3.ownsRow wo.heap.size 5 1 v' p (Jg (ou 4 L p)))/\Hid (Below wo.heap.size wo w3):=⟨a+1,by omega,by go_num,by rw[hcs];exact jd.out,HB3.out⟩;first|exact R|((repeat apply Exists.intro);exact⟨R,rfl⟩)
     case measure=>simp[intOf];omega
    ·obtain rfl:a=n:=by omega
     have HT:=aa (iG wr wo.heap.size _ (ou 4 L a) (λd hd=>by rw[<-Qs.out]at hd;simp only[Me,List.mem_map]at hd;obtain⟨i,_,rfl⟩:=hd;exact CF _ _ _) (by rw[jm.out];exact ho.out) (by rw[jm.out];exact HN.out));have hT:=HT.out;go_wp2;go_ret;refine⟨by rw[eH.out];rfl,?_⟩;rw[<-Zl.out];exact hb.out.trans (hb2.out.mono (Nat.le_of_lt Zi.out))
theorem Cf0 (i:Nat)(h:i<4):Ab i=5\/Ab i=11\/Ab i=19\/Ab i=26:=by
 rcases(show i=0\/i=1\/i=2\/i=3 by omega)with rfl|rfl|rfl|rfl<;>simp[Ab]
theorem H6 (g:Nat)(x:Int)(w:World)(hc:w.cell? ⟨g,8,none⟩=some (int i64 64))(h0:0<=x)(h1:x<18446744073709551616):Calls prog 287 #[pointer (some ⟨g,0,none⟩),.int .u64 x] w λe w'=>e=.returned (.int .u64 (x))/\w'=w:=by
 obtain⟨n,rfl⟩:=Int.eq_ofNat_of_zero_le h0;exact fC g n w hc (by omega)
theorem df0 (g:Nat)(L:List Nat)(w:World)(hr:bf w g 64 L)(hL:L.length=8)(hW:ve 64 L):Calls prog 244 #[pointer (some ⟨g,0,none⟩)] w λe w'=>e=.returned (.tuple #[])/\bf w' g 64 (Mg 64 L 8)/\Ob g w w':=by
 have HR:=aa hr;have HL:=aa hL;have HW:=aa hW;clear hr hL hW;go_enter func244,ntmps244;go_wp2;go_loopw [2] (λi wr=>∃r:Nat,r<=8/\i=int i64 r/\Hid (bf wr g 64 (Mg 64 L r))/\Hid (Ob g w wr)) (λi _=>8-(intOf i).toNat)
 case atStart=>exact⟨0,by omega,rfl,HR,Ob.refl _ _⟩
 case round=>
  obtain⟨r,Y0,rfl,hp,ho⟩:=hrel;by_cases hlt:r<8
  ·have hlen:(Mg 64 L r).length=8:=by rw[XF];exact HL.out
   have hwd:=kS 64 L r HW.out;have HS:Hid (Mg 64 L (r+1)=(Ue 64 r (Mg 64 L r) 4).set 0 (Ba (Ue 64 r (Mg 64 L r) 4) 0^^^(r+1))):=rfl;generalize Mg 64 L r=Q at hp hlen hwd HS;have iw:=aa hlen;have jA:=aa hwd;clear hlen hwd;obtain⟨wo,rfl⟩:∃wo:World,wo=wr:=⟨_,rfl⟩;go_wp2;go_loopw [3] (λi wr=>∃j:Nat,j<=4/\i=int i64 j/\Hid (bf wr g 64 (Ue 64 r Q j))/\Hid (Ob g w wr)) (λi _=>4-(intOf i).toNat)
   case atStart=>exact⟨0,by omega,rfl,hp,ho⟩
   case round=>
    obtain⟨j,hj,rfl,hp,ho⟩:=hrel;by_cases Kn:j<4
    ·have hlen:(Ue 64 r Q j).length=8:=by rw[qC];exact iw.out
     have hwd:=rC 64 r Q j jA.out;have Ed:Hid (Ue 64 r Q (j+1)=Pb 64 j (4+(j+r)% 4) (Ue 64 r Q j)):=rfl;generalize Ue 64 r Q j=K at hp hlen hwd Ed;have hjr:4+(j+r)% 4<8:=by omega
     have d1:=hp.out.cell (i:=j) (by omega);have d2:=hp.out.cell (i:=4+(j+r)% 4) (by omega);have d8:=hp.out.bits hlen;have x1:=hwd.at j;have x2:=hwd.at (4+(j+r)% 4);have HJ:Hid ((4:Int)+((j:Int)+(r:Int))% 4=((4+(j+r)% 4:Nat):Int)):=by show(4:Int)+((j:Int)+(r:Int))% 4=_;omega
     have Kh:Hid (Pb 64 j (4+(j+r)% 4) K=(K.set j (La 64 (Ba K j) (Ba K (4+(j+r)% 4)))).set (4+(j+r)% 4) (Kb 64 (Ba K (4+(j+r)% 4)) (Ab j)^^^La 64 (Ba K j) (Ba K (4+(j+r)% 4)))):=rfl;have UI:4<=4+(j+r)% 4:=by omega
     generalize 4+(j+r)% 4=J at hjr d2 x2 HJ Ed Kh UI;have q0:(0:Int)<=(J:Int):=by omega
     have q1:(J:Int)<8:=by omega
     have q2:(j:Int)<8:=by omega
     have Mh:=aa hlen;have z1:Ba K j<18446744073709551616:=by simpa using x1
     have z2:Ba K J<18446744073709551616:=by simpa using x2
     have y1:((Ba K j:Nat):Int)<18446744073709551616:=by omega
     have y2:((Ba K J:Nat):Int)<18446744073709551616:=by omega
     have hwr:IntKind.u64.wrap (((Ba K j:Nat):Int)+((Ba K J:Nat):Int))=(((Ba K j:Nat):Int)+((Ba K J:Nat):Int))% 18446744073709551616:=by rw[IntKind.wrap_u64]
     have HP:Hid (0<=(((Ba K j:Nat):Int)+((Ba K J:Nat):Int))% 18446744073709551616/\(((Ba K j:Nat):Int)+((Ba K J:Nat):Int))% 18446744073709551616<18446744073709551616):=⟨by omega,by omega⟩;clear z1 z2 y1 y2;have Tm:=aa (λw' h1=>Bd0 g (Ba K J) (Ab j) w' h1 (by simpa using x2) (Cf0 j Kn));have tu:=aa (λw':World=>fU j w' Kn)
     have HAD:Hid ((((Ba K j:Nat):Int)+((Ba K J:Nat):Int))% 18446744073709551616=((La 64 (Ba K j) (Ba K J):Nat):Int)):=by
      show(((Ba K j:Nat):Int)+((Ba K J:Nat):Int))% 18446744073709551616=_;unfold La;rw[Int.natCast_emod,Int.natCast_add];rfl
     have Re:=aa (show Kb 64 (Ba K J) (Ab j)<18446744073709551616 from Nat.lt_of_lt_of_le (NC 64 (Ba K J) (Ab j) x2) (by decide));have jk:=aa (show La 64 (Ba K j) (Ba K J)<18446744073709551616 from Nat.lt_of_lt_of_le (Ay 64 (Ba K j) (Ba K J)) (by decide));generalize Ba K j=a at d1 x1 HAD Kh hwr HP jk;generalize Ba K J=c at d2 x2 HAD Kh hwr HP Tm Re jk;generalize Ab j=tn at Tm tu Kh Re;generalize Kb 64 c tn=rt at Tm Kh Re;generalize La 64 a c=A at HAD Kh jk;clear hlen hwd x1 x2;go_wp2;rw[HJ.out];go_quiet ((go_at_call 287;exact Calls.quiet_of_same (H6 g _ _ (by simpa[go_sem]using d8) HP.out.1 HP.out.2)));have Te:=aa (u64_xor_nat rt A Re.out jk.out);have zk:=aa (hp.out.drewN nq);have qb:=aa (ho.out.drewN nq);generalize hV:wr.drewN nq=V at zk qb⊢;have fj:V.frozen? ⟨g,j,none⟩=false:=zk.out.free j;have fJ:V.frozen? ⟨g,J,none⟩=false:=zk.out.free J;have e1:V.cell? ⟨g,j,none⟩=some (.int .u64 ((a:Nat):Int)):=by rw[<-hV];exact d1
     have e2:V.cell? ⟨g,J,none⟩=some (.int .u64 ((c:Nat):Int)):=by rw[<-hV];exact d2
     have e8:V.cell? ⟨g,8,none⟩=some (int i64 64):=by rw[<-hV];exact d8
     clear hwr hV d1 d2 d8;go_wp2;rw[HAD.out];go_quiet (first|(go_at_call 289;exact Calls.quiet_of_same (tu.out _))|(go_at_call 288;exact Calls.quiet_of_same (Tm.out _ (by simpa[go_sem]using e8))));go_wp2;rw[Te.out];go_roundw
     case rel=>
      refine⟨j+1,by omega,by go_num,?_,?_⟩
      ·have h:=(zk.out.set j A (by have:=Mh.out;omega)).set J (rt^^^A) (by rw[List.length_set];have:=Mh.out;omega);rw[<-Kh.out,<-Ed.out]at h;exact h
      ·unfold Hid;repeat(first|refine Ob.drew ?_|refine Ob.drewN ?_ _|refine Ob.setCell ?_ _ _)
       exact qb.out
     case measure=>simp[intOf];omega
    ·obtain rfl:j=4:=by omega
     have hlen:(Ue 64 r Q 4).length=8:=by rw[qC];exact iw.out
     have hwd:=rC 64 r Q 4 jA.out;generalize Ue 64 r Q 4=K at hp hlen hwd HS;have d0:=hp.out.cell (i:=0) (by omega);have f0:=hp.out.free 0;have Te:Hid (bits BinOp.xor IntKind.u64 ((Ba K 0:Nat):Int) ((r:Int)+1)=((Ba K 0^^^(r+1):Nat):Int)):=u64_xor_nat (Ba K 0) (r+1) (Nat.lt_of_lt_of_le (hwd.at 0) (by decide)) (by omega);have Mh:=aa hlen;generalize Ba K 0=a at d0 Te HS;clear hlen hwd;go_wp2;go_region;go_wp2;rw[Te.out];go_roundw
     case rel=>
      refine⟨r+1,by omega,by go_num,?_,?_⟩
      ·have h:=hp.out.set 0 (a^^^(r+1)) (by have:=Mh.out;omega);rw[<-HS.out]at h;exact h
      ·unfold Hid;repeat(first|refine Ob.drew ?_|refine Ob.drewN ?_ _|refine Ob.setCell ?_ _ _)
       exact ho.out
     case measure=>simp[intOf];omega
  ·obtain rfl:r=8:=by omega
   go_wp2;go_end0;exact⟨rfl,hp.out,ho.out⟩
theorem qf0 (BL:List Nat)(o:Nat)(L:List Nat)(j:Nat):yg BL o L (j+1)=(yg BL o L j).set j (Ba (yg BL o L j) j^^^yc BL (o+j*8) 8):=by rw[yg]
theorem rf0 (BL:List Nat)(o:Nat)(L:List Nat):yg BL o L 0=L:=by rw[yg]
theorem Ye0 (L:List Nat)(hL:L.length=8):Mg 64 L 8=Je 64 L 8:=KT 64 L hL
theorem rY (n:Nat)(s:ByteArray)(w:World)(hn:1<=n)(hn2:n<=16)(hs:s.size<=400):Calls prog 165 #[int i64 2,int i64 (n:Int),string s] w λe w'=>e=.returned (string (ik (Me 8 (Mj (Ib s) (s.size/32+1)) n)))/\Below w.heap.size w w':=by
 have HS:=aa hs;have HN:=aa hn;have kg:=aa hn2;clear hs hn hn2;obtain⟨sk,Nh⟩:∃F,Hid (Mj=F):=⟨_,rfl⟩;obtain⟨tk,Yf⟩:∃F,Hid (yg=F):=⟨_,rfl⟩;obtain⟨ou,Qs⟩:∃F,Hid (Me=F):=⟨_,rfl⟩;have Mf:Hid (∀BL,sk BL 0=[1,2,3,4,5,6,7,8]):=λBL=>by rw[<-Nh.out];exact zT BL
 have Vs:Hid (∀BL m,sk BL (m+1)=Je 64 (tk BL (m*32) (sk BL m) 4) 8):=λBL m=>by rw[<-Nh.out,<-Yf.out];exact pG BL m
 have Vd:Hid (∀BL m,(sk BL m).length=8):=λBL m=>by rw[<-Nh.out];exact UK BL m
 have qj:Hid (∀BL,(∀i,Ba BL i<256)->∀m,ve 64 (sk BL m)):=λBL h m=>by rw[<-Nh.out];exact yT BL h m
 have HT0:Hid (∀BL o L,tk BL o L 0=L):=λBL o L=>by rw[<-Yf.out];exact rf0 BL o L
 have HT1:Hid (∀BL o L j,tk BL o L (j+1)=(tk BL o L j).set j (Ba (tk BL o L j) j^^^yc BL (o+j*8) 8)):=λBL o L j=>by rw[<-Yf.out];exact qf0 BL o L j
 have su:Hid (∀BL o L j,(tk BL o L j).length=L.length):=λBL o L j=>by rw[<-Yf.out];exact ZC BL o L j
 have Mi:Hid (∀BL o L j,ve 64 L->(∀i,Ba BL i<256)->ve 64 (tk BL o L j)):=λBL o L j h hB=>by rw[<-Yf.out];exact wG BL o L j h hB
 have jm:Hid (∀n L m,(ou n L m).length=m):=λn L m=>by rw[<-Qs.out];exact vv n L m
 have ku:Hid (∀n L m,ou n L (m+1)=ou n L m++[Rn n L m]):=λn L m=>by rw[<-Qs.out];exact EF n L m
 rw[Nh.out,Qs.out];go_enter func165,ntmps165;go_wp2;go_rounds 9
 have R0:Hid (bf (w.alloc (.cells #[.int .u64 1,.int .u64 2,.int .u64 3,.int .u64 4,.int .u64 5,.int .u64 6,.int .u64 7,.int .u64 8,int i64 64] 320)) w.heap.size 64 (sk (Ib s) 0)):=by
  rw[Mf.out];exact heap_alloc_new _ _
 have B0:=aa ((Below.refl w.heap.size w).alloc Aa (.cells #[.int .u64 1,.int .u64 2,.int .u64 3,.int .u64 4,.int .u64 5,.int .u64 6,.int .u64 7,.int .u64 8,int i64 64] 320));generalize hW0:w.alloc (.cells #[.int .u64 1,.int .u64 2,.int .u64 3,.int .u64 4,.int .u64 5,.int .u64 6,.int .u64 7,.int .u64 8,int i64 64] 320)=W0 at R0 B0⊢;clear hW0;obtain⟨g,hg⟩:∃g,g=w.heap.size:=⟨_,rfl⟩;rw[<-hg]at R0 B0;rw[<-hg];have Zl:=aa hg;clear hg;have Cf:=aa (λi=>yx s i);have hz:=HS.out;go_loopw [10] (λa wr=>∃m:Nat,m<=s.size/32+1/\a=int i64 ((m:Int)*4)/\Hid (bf wr g 64 (sk (Ib s) m))/\Hid (Below g w wr)) (λa _=>500-(intOf a).toNat)
 case atStart=>exact⟨0,by omega,by simp,R0,B0⟩
 case round=>
  obtain⟨m,hm,rfl,hp,hb⟩:=hrel;by_cases hlt:m<=s.size/32
  ·obtain⟨wo,rfl⟩:∃wo:World,wo=wr:=⟨_,rfl⟩;have nJ:decide ((m:Int)*4*8<=(s.size:Int))=true:=by simp;omega
   have hl:=Vd.out (Ib s) m;have hwd:=qj.out (Ib s) Cf.out m;have xm:=aa (Vs.out (Ib s) m);generalize sk (Ib s) m=A at hp hl hwd xm;have HL:=aa hl;have EA:=aa hwd;clear hl hwd;go_wp2;go_loopw [11] (λi wr=>∃j:Nat,j<=4/\i=int i64 j/\Hid (bf wr g 64 (tk (Ib s) (m*32) A j))/\Hid (Below g w wr)) (λi _=>4-(intOf i).toNat)
   case atStart=>exact⟨0,by omega,rfl,by rw[HT0.out];exact hp,hb⟩
   case round=>
    obtain⟨j,hj,rfl,hp,hb⟩:=hrel;by_cases Kn:j<4
    ·have hlen:(tk (Ib s) (m*32) A j).length=8:=by rw[su.out];exact HL.out
     have hwd:=Mi.out (Ib s) (m*32) A j EA.out Cf.out;have Ed:=aa (HT1.out (Ib s) (m*32) A j);generalize tk (Ib s) (m*32) A j=K at hp hlen hwd Ed;have HW:=aa (λw':World=>mg0 s (m*4+j) w' (by omega) (by omega));rw[show(m*4+j)*8=m*32+j*8 by omega]at HW;have d1:=hp.out.cell (i:=j) (by omega);have f1:=hp.out.free j;have x1:Ba K j<18446744073709551616:=Nat.lt_of_lt_of_le (hwd.at j) (by decide);have y1:yc (Ib s) (m*32+j*8) 8<18446744073709551616:=Nat.lt_of_lt_of_le (Br (Ib s) (m*32+j*8) 8 Cf.out) (by decide);have Te:=aa (u64_xor_nat (Ba K j) (yc (Ib s) (m*32+j*8) 8) x1 y1);have Jf:=aa hlen;generalize yc (Ib s) (m*32+j*8) 8=v at Ed HW y1 Te;generalize Ba K j=u at d1 x1 Te Ed;clear hlen hwd x1 y1;have q1:(j:Int)<8:=by omega
     have hc:((m*4+j:Nat):Int)=(m:Int)*4+(j:Int):=by omega
     rw[hc]at HW;clear hc;go_wp2_with fail;refine(HW.out _).mono ?_
     rintro e w3 ⟨rfl,rfl⟩
     clear HW;go_wp2;go_region;go_wp2;rw[Te.out];go_roundw
     case rel=>
      refine⟨j+1,by omega,by go_num,?_,?_⟩
      ·have h:=hp.out.set j (u^^^v) (by have:=Jf.out;omega);rw[<-Ed.out]at h;exact h
      ·unfold Hid;repeat(first|refine Below.drew ?_|refine Below.setCell ?_ (Nat.le_refl g) _)
       exact hb.out
     case measure=>simp[intOf];omega
    ·obtain rfl:j=4:=by omega
     have HST:=aa (df0 g (tk (Ib s) (m*32) A 4) wr hp.out (by rw[su.out];exact HL.out) (Mi.out (Ib s) (m*32) A 4 EA.out Cf.out));go_wp2_with fail;refine HST.out.mono ?_
     rintro e w4 ⟨rfl,Jk,Di⟩
     clear HST;rw[Ye0 _ (by rw[su.out];exact HL.out),<-xm.out]at Jk;have P4:=aa Jk;have B4:=aa (Di.below hb.out (Nat.le_refl g));clear Jk Di;go_wp2;go_roundw
     case rel=>exact⟨m+1,by omega,by go_num,P4,B4⟩
     case measure=>simp[intOf];omega
  ·obtain rfl:m=s.size/32+1:=by omega
   have hl:=Vd.out (Ib s) (s.size/32+1);have hwd:=qj.out (Ib s) Cf.out (s.size/32+1);generalize vB:sk (Ib s) (s.size/32+1)=L at hp hl hwd⊢;have eH:=aa vB;have eu:=aa hl;have RH:=aa hwd;clear vB hl hwd;have Zi:=aa hp.out.lt;obtain⟨wo,rfl⟩:∃wo:World,wo=wr:=⟨_,rfl⟩;obtain⟨i0,hi,hz0,hz1,hz2⟩:=info_parts infoByte;go_wp2;go_loopw [13,14] (λv i wr=>∃a:Nat,a<=n/\i=int i64 a/\Hid (wr.ownsRow wo.heap.size 5 1 v a (Jg (ou 8 L a)))/\Hid (Below wo.heap.size wo wr)) (λ_ i _=>16-(intOf i).toNat)
   case atStart=>exact⟨0,by omega,rfl,⟨by simp[Jg,jm.out],Or.inl ⟨rfl,rfl⟩⟩,Vb⟩
   case round=>
    obtain⟨a,ha,rfl,ho,hb2⟩:=hrel;by_cases hlt2:a<n
    ·have hn2:=kg.out;have c:=(hp.out.below hb2.out Zi.out).cell (i:=a/8) (by have:=eu.out;omega);have HX:=aa (RH.out.at (a/8));have Lf:Hid (Rn 8 L a=Ba L (a/8)/2^(8*(8-1-a% 8))% 256):=rfl;have Ld:=aa (ku.out 8 L a);generalize Ba L (a/8)=u at c HX Lf;obtain⟨d,hd⟩:∃d,d=a/8:=⟨_,rfl⟩;obtain⟨q,hq⟩:∃q,q=a% 8:=⟨_,rfl⟩;rw[<-hd]at c;rw[<-hq]at Lf;have e1:(a:Int).tdiv 8=(d:Int):=by rw[Int.tdiv_eq_ediv_of_nonneg (by omega)];omega
     have e2:(a:Int)/8=(d:Int):=by omega
     have e3:(a:Int).tmod 8=(q:Int):=by rw[Int.tmod_eq_emod_of_nonneg (by omega)];omega
     have e4:(a:Int)% 8=(q:Int):=by omega
     have d8:(d:Int)<8:=by omega
     have q8:(q:Int)<8:=by omega
     clear hd hq;go_wp2;go_region;have qb:=aa (show wr.drew.ownsRow wo.heap.size 5 1 u13 a (Jg (ou 8 L a))from ho.out);have Wi:=aa hb2.out.drew;generalize hV:wr.drew=V at qb Wi⊢;clear hV c;go_wp2_with (at_builtin;refine wpList_append_own _ rfl _ _ 170 rfl wo.heap.size 5 i0 (.int .u8 0) 1 1 underlying170 hi hz0 hz1 hz2 rfl (by decide) _ _ _ rfl (qb.out.alloc _) ⟨V.heap.size,0,none⟩ 1 1 [_] rfl rfl (Mo _ _ _) ?c2 ?c3 ?c4 ?c5 ?_)
     case c2=>intro y hy;simp at hy;subst hy;rfl
     case c3=>unfold maxLen;omega
     case c4=>omega
     case c5=>have:=Wi.out.size;simp;omega
     intro v' w3 ho3 hgrow _;have HB3:=aa ((Wi.out.alloc Wi.out.size _).grown hgrow (by have:=Wi.out.size;simp;omega) (λp hp=>(Mr qb.out p hp).1));have jd:=aa ho3;clear ho3 hgrow;go_wp2;go_roundw
     case rel=>
      have hcs:Jg (ou 8 L (a+1))=Jg (ou 8 L a)++[.int .u8 ((u:Int)/2^(8*(8-1-q))% 256)]:=by
       rw[Ld.out,uE,Lf.out,Int.natCast_emod,Int.natCast_ediv,Int.natCast_pow];rfl
      have R:∃p:Nat,p<=n/\int i64 ((a:Int)+1)=int i64 (p:Int)/\Hid (w3.ownsRow wo.heap.size 5 1 v' p (Jg (ou 8 L p)))/\Hid (Below wo.heap.size wo w3):=⟨a+1,by omega,by go_num,by rw[hcs];exact jd.out,HB3.out⟩;first|exact R|((repeat apply Exists.intro);exact⟨R,rfl⟩)
     case measure=>simp[intOf];omega
    ·obtain rfl:a=n:=by omega
     have HT:=aa (iG wr wo.heap.size _ (ou 8 L a) (λd hd=>by rw[<-Qs.out]at hd;simp only[Me,List.mem_map]at hd;obtain⟨i,_,rfl⟩:=hd;exact CF _ _ _) (by rw[jm.out];exact ho.out) (by rw[jm.out];exact HN.out));have hT:=HT.out;go_wp2;go_ret;refine⟨by rw[eH.out];rfl,?_⟩;rw[<-Zl.out];exact hb.out.trans (hb2.out.mono (Nat.le_of_lt Zi.out))
end Go.Proofs.YtgaoeoijdpdjiabGreatDoor
