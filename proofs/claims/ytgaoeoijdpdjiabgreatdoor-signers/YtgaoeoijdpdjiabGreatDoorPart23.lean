import Derived.Test.YtgaoeoijdpdjiabGreatDoorPart18
import Derived.Test.YtgaoeoijdpdjiabGreatDoorPart10
open Go.Value (int string pointer)
open Go.IntKind (i64)
open Go.Proofs.Tryz
set_option maxRecDepth 20000
set_option maxHeartbeats 4000000
namespace Go.Proofs.YtgaoeoijdpdjiabGreatDoor
open Go.RowKit
theorem Hf0 (i:Nat)(h:i<4):Ab i=5\/Ab i=11\/Ab i=19\/Ab i=26:=by
 rcases(show i=0\/i=1\/i=2\/i=3 by omega)with rfl|rfl|rfl|rfl<;>simp[Ab]
theorem L6 (g:Nat)(x:Int)(w:World)(hc:w.cell? ⟨g,8,none⟩=some (int i64 32))(h0:0<=x)(h1:x<18446744073709551616):Calls prog 287 #[pointer (some ⟨g,0,none⟩),.int .u64 x] w λe w'=>e=.returned (.int .u64 (x% 4294967296))/\w'=w:=by
 obtain⟨n,rfl⟩:=Int.eq_ofNat_of_zero_le h0;exact aC g n w hc (by omega)
theorem jf0 (g:Nat)(L:List Nat)(w:World)(hr:Ye w g 32 L)(hL:L.length=8)(hW:Pf 32 L):Calls prog 244 #[pointer (some ⟨g,0,none⟩)] w λe w'=>e=.returned (.tuple #[])/\Ye w' g 32 (Ag 32 L 8)/\Ob g w w':=by
 have HR:=aa hr;have HL:=aa hL;have HW:=aa hW;clear hr hL hW;go_enter func244,ntmps244;go_wp2;go_loopw [2] (λi wr=>∃r:Nat,r<=8/\i=int i64 r/\Hid (Ye wr g 32 (Ag 32 L r))/\Hid (Ob g w wr)) (λi _=>8-(intOf i).toNat)
 case atStart=>exact⟨0,by omega,rfl,HR,Ob.refl _ _⟩
 case round=>
  obtain⟨r,J2,rfl,hp,ho⟩:=hrel;by_cases hlt:r<8
  ·have hlen:(Ag 32 L r).length=8:=by rw[YF];exact HL.out
   have hwd:=kS 32 L r HW.out;have HS:Hid (Ag 32 L (r+1)=(Re 32 r (Ag 32 L r) 4).set 0 (Ba (Re 32 r (Ag 32 L r) 4) 0^^^(r+1))):=rfl;generalize Ag 32 L r=Q at hp hlen hwd HS;have Zv:=aa hlen;have iA:=aa hwd;clear hlen hwd;obtain⟨wo,rfl⟩:∃wo:World,wo=wr:=⟨_,rfl⟩;go_wp2;go_loopw [3] (λi wr=>∃j:Nat,j<=4/\i=int i64 j/\Hid (Ye wr g 32 (Re 32 r Q j))/\Hid (Ob g w wr)) (λi _=>4-(intOf i).toNat)
   case atStart=>exact⟨0,by omega,rfl,hp,ho⟩
   case round=>
    obtain⟨j,hj,rfl,hp,ho⟩:=hrel;by_cases Kn:j<4
    ·have hlen:(Re 32 r Q j).length=8:=by rw[nC];exact Zv.out
     have hwd:=oC 32 r Q j iA.out;have Gd:Hid (Re 32 r Q (j+1)=Pb 32 j (4+(j+r)% 4) (Re 32 r Q j)):=rfl;generalize Re 32 r Q j=K at hp hlen hwd Gd;have hjr:4+(j+r)% 4<8:=by omega
     have d1:=hp.out.cell (i:=j) (by omega);have d2:=hp.out.cell (i:=4+(j+r)% 4) (by omega);have d8:=hp.out.bits hlen;have x1:=hwd.at j;have x2:=hwd.at (4+(j+r)% 4);have HJ:Hid ((4:Int)+((j:Int)+(r:Int))% 4=((4+(j+r)% 4:Nat):Int)):=by show(4:Int)+((j:Int)+(r:Int))% 4=_;omega
     have Nh:Hid (Pb 32 j (4+(j+r)% 4) K=(K.set j (La 32 (Ba K j) (Ba K (4+(j+r)% 4)))).set (4+(j+r)% 4) (Kb 32 (Ba K (4+(j+r)% 4)) (Ab j)^^^La 32 (Ba K j) (Ba K (4+(j+r)% 4)))):=rfl;have XI:4<=4+(j+r)% 4:=by omega
     generalize 4+(j+r)% 4=J at hjr d2 x2 HJ Gd Nh XI;have q0:(0:Int)<=(J:Int):=by omega
     have q1:(J:Int)<8:=by omega
     have q2:(j:Int)<8:=by omega
     have Ph:=aa hlen;have z1:Ba K j<4294967296:=by simpa using x1
     have z2:Ba K J<4294967296:=by simpa using x2
     have y1:((Ba K j:Nat):Int)<4294967296:=by omega
     have y2:((Ba K J:Nat):Int)<4294967296:=by omega
     have hwr:IntKind.u64.wrap (((Ba K j:Nat):Int)+((Ba K J:Nat):Int))=((Ba K j:Nat):Int)+((Ba K J:Nat):Int):=by rw[IntKind.wrap_u64];omega
     have HP:Hid (0<=((Ba K j:Nat):Int)+((Ba K J:Nat):Int)/\((Ba K j:Nat):Int)+((Ba K J:Nat):Int)<18446744073709551616):=⟨by omega,by omega⟩;clear z1 z2 y1 y2;have Sm:=aa (λw' h1=>Fd0 g (Ba K J) (Ab j) w' h1 (by simpa using x2) (Hf0 j Kn));have ru:=aa (λw':World=>dU j w' Kn)
     have HAD:Hid ((((Ba K j:Nat):Int)+((Ba K J:Nat):Int))% 4294967296=((La 32 (Ba K j) (Ba K J):Nat):Int)):=by
      show(((Ba K j:Nat):Int)+((Ba K J:Nat):Int))% 4294967296=_;unfold La;rw[Int.natCast_emod,Int.natCast_add];rfl
     have Pe:=aa (show Kb 32 (Ba K J) (Ab j)<18446744073709551616 from Nat.lt_of_lt_of_le (LC 32 (Ba K J) (Ab j) x2) (by decide));have ek:=aa (show La 32 (Ba K j) (Ba K J)<18446744073709551616 from Nat.lt_of_lt_of_le (zy 32 (Ba K j) (Ba K J)) (by decide));generalize Ba K j=a at d1 x1 HAD Nh hwr HP ek;generalize Ba K J=c at d2 x2 HAD Nh hwr HP Sm Pe ek;generalize Ab j=tn at Sm ru Nh Pe;generalize Kb 32 c tn=rt at Sm Nh Pe;generalize La 32 a c=A at HAD Nh ek;clear hlen hwd x1 x2;go_wp2;rw[HJ.out];go_quiet ((go_at_call 287;exact Calls.quiet_of_same (L6 g _ _ (by simpa[go_sem]using d8) HP.out.1 HP.out.2)));have Qe:=aa (u64_xor_nat rt A Pe.out ek.out);have vk:=aa (hp.out.drewN nq);have qb:=aa (ho.out.drewN nq);generalize hV:wr.drewN nq=V at vk qb⊢;have fj:V.frozen? ⟨g,j,none⟩=false:=vk.out.free j;have fJ:V.frozen? ⟨g,J,none⟩=false:=vk.out.free J;have e1:V.cell? ⟨g,j,none⟩=some (.int .u64 ((a:Nat):Int)):=by rw[<-hV];exact d1
     have e2:V.cell? ⟨g,J,none⟩=some (.int .u64 ((c:Nat):Int)):=by rw[<-hV];exact d2
     have e8:V.cell? ⟨g,8,none⟩=some (int i64 32):=by rw[<-hV];exact d8
     clear hwr hV d1 d2 d8;go_wp2;rw[HAD.out];go_quiet (first|(go_at_call 289;exact Calls.quiet_of_same (ru.out _))|(go_at_call 288;exact Calls.quiet_of_same (Sm.out _ (by simpa[go_sem]using e8))));go_wp2;rw[Qe.out];go_roundw
     case rel=>
      refine⟨j+1,by omega,by go_num,?_,?_⟩
      ·have h:=(vk.out.set j A (by have:=Ph.out;omega)).set J (rt^^^A) (by rw[List.length_set];have:=Ph.out;omega);rw[<-Nh.out,<-Gd.out]at h;exact h
      ·unfold Hid;repeat(first|refine Ob.drew ?_|refine Ob.drewN ?_ _|refine Ob.setCell ?_ _ _)
       exact qb.out
     case measure=>simp[intOf];omega
    ·obtain rfl:j=4:=by omega
     have hlen:(Re 32 r Q 4).length=8:=by rw[nC];exact Zv.out
     have hwd:=oC 32 r Q 4 iA.out;generalize Re 32 r Q 4=K at hp hlen hwd HS;have d0:=hp.out.cell (i:=0) (by omega);have f0:=hp.out.free 0;have Qe:Hid (bits BinOp.xor IntKind.u64 ((Ba K 0:Nat):Int) ((r:Int)+1)=((Ba K 0^^^(r+1):Nat):Int)):=u64_xor_nat (Ba K 0) (r+1) (Nat.lt_of_lt_of_le (hwd.at 0) (by decide)) (by omega);have Ph:=aa hlen;generalize Ba K 0=a at d0 Qe HS;clear hlen hwd;go_wp2;go_region;go_wp2;rw[Qe.out];go_roundw
     case rel=>
      refine⟨r+1,by omega,by go_num,?_,?_⟩
      ·have h:=hp.out.set 0 (a^^^(r+1)) (by have:=Ph.out;omega);rw[<-HS.out]at h;exact h
      ·unfold Hid;repeat(first|refine Ob.drew ?_|refine Ob.drewN ?_ _|refine Ob.setCell ?_ _ _)
       exact ho.out
     case measure=>simp[intOf];omega
  ·obtain rfl:r=8:=by omega
   go_wp2;go_end0;exact⟨rfl,hp.out,ho.out⟩
end Go.Proofs.YtgaoeoijdpdjiabGreatDoor
namespace Go.Proofs.YtgaoeoijdpdjiabGreatDoor
open Go.RowKit
theorem tf0 (BL:List Nat)(o:Nat)(L:List Nat)(j:Nat):Hf BL o L (j+1)=(Hf BL o L j).set j (Ba (Hf BL o L j) j^^^yc BL (o+j*4) 4):=by rw[Hf]
theorem uf0 (BL:List Nat)(o:Nat)(L:List Nat):Hf BL o L 0=L:=by rw[Hf]
theorem df0 (L:List Nat)(hL:L.length=8):Ag 32 L 8=Ie 32 L 8:=ET 32 L hL
attribute [local irreducible] Tf Hf Ie Ag Mc Wi yc
theorem wY (n:Nat)(s:ByteArray)(w:World)(hn:1<=n)(hn2:n<=16)(hs:s.size<=400):Calls prog 165 #[int i64 1,int i64 (n:Int),string s] w λe w'=>e=.returned (string (Wi (Mc 4 (Tf (Ib s) (s.size/16+1)) n)))/\Below w.heap.size w w':=by
 have HS:=aa hs;have HN:=aa hn;have mg:=aa hn2;clear hs hn hn2;go_enter func165,ntmps165;go_wp2;go_rounds 9
 have R0:Hid (Ye (w.alloc (.cells #[.int .u64 1,.int .u64 2,.int .u64 3,.int .u64 4,.int .u64 5,.int .u64 6,.int .u64 7,.int .u64 8,int i64 32] 320)) w.heap.size 32 (Tf (Ib s) 0)):=by
  rw[vT];exact heap_alloc_new _ _
 have B0:=aa ((Below.refl w.heap.size w).alloc Aa (.cells #[.int .u64 1,.int .u64 2,.int .u64 3,.int .u64 4,.int .u64 5,.int .u64 6,.int .u64 7,.int .u64 8,int i64 32] 320));generalize hW0:w.alloc (.cells #[.int .u64 1,.int .u64 2,.int .u64 3,.int .u64 4,.int .u64 5,.int .u64 6,.int .u64 7,.int .u64 8,int i64 32] 320)=W0 at R0 B0⊢;clear hW0;obtain⟨g,hg⟩:∃g,g=w.heap.size:=⟨_,rfl⟩;rw[<-hg]at R0 B0;rw[<-hg];have Yl:=aa hg;clear hg;have Bf:=aa (λi=>qx s i);have hz:=HS.out;go_loopw [10] (λa wr=>∃m:Nat,m<=s.size/16+1/\a=int i64 ((m:Int)*4)/\Hid (Ye wr g 32 (Tf (Ib s) m))/\Hid (Below g w wr)) (λa _=>500-(intOf a).toNat)
 case atStart=>exact⟨0,by omega,by simp,R0,B0⟩
 case round=>
  obtain⟨m,hm,rfl,hp,hb⟩:=hrel;by_cases hlt:m<=s.size/16
  ·obtain⟨wo,rfl⟩:∃wo:World,wo=wr:=⟨_,rfl⟩;have qJ:decide ((m:Int)*4*4<=(s.size:Int))=true:=by simp;omega
   have hl:=SC (Ib s) m;have hwd:=qG (Ib s) Bf.out m;have um:=aa (pG (Ib s) m);generalize Tf (Ib s) m=A at hp hl hwd um;have HL:=aa hl;have BA:=aa hwd;clear hl hwd;go_wp2;go_loopw [11] (λi wr=>∃j:Nat,j<=4/\i=int i64 j/\Hid (Ye wr g 32 (Hf (Ib s) (m*16) A j))/\Hid (Below g w wr)) (λi _=>4-(intOf i).toNat)
   case atStart=>exact⟨0,by omega,rfl,by rw[uf0];exact hp,hb⟩
   case round=>
    obtain⟨j,hj,rfl,hp,hb⟩:=hrel;by_cases Kn:j<4
    ·have hlen:(Hf (Ib s) (m*16) A j).length=8:=by rw[Fx];exact HL.out
     have hwd:=YC (Ib s) (m*16) A j BA.out Bf.out;have Gd:=aa (tf0 (Ib s) (m*16) A j);generalize Hf (Ib s) (m*16) A j=K at hp hlen hwd Gd;have HW:=aa (λw':World=>rg0 s (m*4+j) w' (by omega) (by omega));rw[show(m*4+j)*4=m*16+j*4 by omega]at HW;have d1:=hp.out.cell (i:=j) (by omega);have f1:=hp.out.free j;have x1:Ba K j<18446744073709551616:=Nat.lt_of_lt_of_le (hwd.at j) (by decide);have y1:yc (Ib s) (m*16+j*4) 4<18446744073709551616:=Nat.lt_of_lt_of_le (Br (Ib s) (m*16+j*4) 4 Bf.out) (by decide);have Qe:=aa (u64_xor_nat (Ba K j) (yc (Ib s) (m*16+j*4) 4) x1 y1);have Lf:=aa hlen;generalize yc (Ib s) (m*16+j*4) 4=v at Gd HW y1 Qe;generalize Ba K j=u at d1 x1 Qe Gd;clear hlen hwd x1 y1;have q1:(j:Int)<8:=by omega
     have hc:((m*4+j:Nat):Int)=(m:Int)*4+(j:Int):=by omega
     rw[hc]at HW;clear hc;go_wp2_with fail;refine(HW.out _).mono ?_
     rintro e w3 ⟨rfl,rfl⟩
     clear HW;go_wp2;go_region;go_wp2;rw[Qe.out];go_roundw
     case rel=>
      refine⟨j+1,by omega,by go_num,?_,?_⟩
      ·have h:=hp.out.set j (u^^^v) (by have:=Lf.out;omega);rw[<-Gd.out]at h;exact h
      ·unfold Hid;repeat(first|refine Below.drew ?_|refine Below.setCell ?_ (Nat.le_refl g) _)
       exact hb.out
     case measure=>simp[intOf];omega
    ·obtain rfl:j=4:=by omega
     have HST:=aa (jf0 g (Hf (Ib s) (m*16) A 4) wr hp.out (by rw[Fx];exact HL.out) (YC (Ib s) (m*16) A 4 BA.out Bf.out));go_wp2_with fail;refine HST.out.mono ?_
     rintro e w4 ⟨rfl,Dk,Ei⟩
     clear HST;rw[df0 _ (by rw[Fx];exact HL.out),<-um.out]at Dk;have P4:=aa Dk;have B4:=aa (Ei.below hb.out (Nat.le_refl g));clear Dk Ei;go_wp2;go_roundw
     case rel=>exact⟨m+1,by omega,by go_num,P4,B4⟩
     case measure=>simp[intOf];omega
  ·obtain rfl:m=s.size/16+1:=by omega
   have hl:=SC (Ib s) (s.size/16+1);have hwd:=qG (Ib s) Bf.out (s.size/16+1);generalize uB:Tf (Ib s) (s.size/16+1)=L at hp hl hwd⊢;have fH:=aa uB;have eu:=aa hl;have SH:=aa hwd;clear uB hl hwd;have qj:=aa hp.out.lt;obtain⟨wo,rfl⟩:∃wo:World,wo=wr:=⟨_,rfl⟩;obtain⟨i0,hi,hz0,hz1,hz2⟩:=info_parts infoByte;go_wp2;go_loopw [13,14] (λv i wr=>∃a:Nat,a<=n/\i=int i64 a/\Hid (wr.ownsRow wo.heap.size 5 1 v a (Lg (Mc 4 L a)))/\Hid (Below wo.heap.size wo wr)) (λ_ i _=>16-(intOf i).toNat)
   case atStart=>exact⟨0,by omega,rfl,⟨by simp[Lg,Ko],Or.inl ⟨rfl,rfl⟩⟩,Vb⟩
   case round=>
    obtain⟨a,ha,rfl,ho,hb2⟩:=hrel;by_cases hlt2:a<n
    ·have hn2:=mg.out;have c:=(hp.out.below hb2.out qj.out).cell (i:=a/4) (by have:=eu.out;omega);have HX:=aa (SH.out.at (a/4));have Mf:Hid (oq 4 L a=Ba L (a/4)/2^(8*(4-1-a% 4))% 256):=rfl;have Md:=aa (JF 4 L a);generalize Ba L (a/4)=u at c HX Mf;obtain⟨d,hd⟩:∃d,d=a/4:=⟨_,rfl⟩;obtain⟨q,hq⟩:∃q,q=a% 4:=⟨_,rfl⟩;rw[<-hd]at c;rw[<-hq]at Mf;have e1:(a:Int).tdiv 4=(d:Int):=by rw[Int.tdiv_eq_ediv_of_nonneg (by omega)];omega
     have e2:(a:Int)/4=(d:Int):=by omega
     have e3:(a:Int).tmod 4=(q:Int):=by rw[Int.tmod_eq_emod_of_nonneg (by omega)];omega
     have e4:(a:Int)% 4=(q:Int):=by omega
     have d8:(d:Int)<8:=by omega
     have q8:(q:Int)<4:=by omega
     clear hd hq;go_wp2;go_region;have qb:=aa (show wr.drew.ownsRow wo.heap.size 5 1 u13 a (Lg (Mc 4 L a))from ho.out);have Yi:=aa hb2.out.drew;generalize hV:wr.drew=V at qb Yi⊢;clear hV c;go_wp2_with (at_builtin;refine wpList_append_own _ rfl _ _ 170 rfl wo.heap.size 5 i0 (.int .u8 0) 1 1 underlying170 hi hz0 hz1 hz2 rfl (by decide) _ _ _ rfl (qb.out.alloc _) ⟨V.heap.size,0,none⟩ 1 1 [_] rfl rfl (Jo _ _ _) ?c2 ?c3 ?c4 ?c5 ?_)
     case c2=>intro y hy;simp at hy;subst hy;rfl
     case c3=>unfold maxLen;omega
     case c4=>omega
     case c5=>have:=Yi.out.size;simp;omega
     intro v' w3 ho3 hgrow _;have HB3:=aa ((Yi.out.alloc Yi.out.size _).grown hgrow (by have:=Yi.out.size;simp;omega) (λp hp=>(Mr qb.out p hp).1));have qd:=aa ho3;clear ho3 hgrow;go_wp2;go_roundw
     case rel=>
      have hcs:Lg (Mc 4 L (a+1))=Lg (Mc 4 L a)++[.int .u8 ((u:Int)/2^(8*(4-1-q))% 256)]:=by
       rw[Md.out,vE,Mf.out,Int.natCast_emod,Int.natCast_ediv,Int.natCast_pow];rfl
      have R:∃p:Nat,p<=n/\int i64 ((a:Int)+1)=int i64 (p:Int)/\Hid (w3.ownsRow wo.heap.size 5 1 v' p (Lg (Mc 4 L p)))/\Hid (Below wo.heap.size wo w3):=⟨a+1,by omega,by go_num,by rw[hcs];exact qd.out,HB3.out⟩;first|exact R|((repeat apply Exists.intro);exact⟨R,rfl⟩)
     case measure=>simp[intOf];omega
    ·obtain rfl:a=n:=by omega
     have HT:=aa (jG wr wo.heap.size _ (Mc 4 L a) (λd hd=>by simp only[Mc,List.mem_map]at hd;obtain⟨i,_,rfl⟩:=hd;exact EF _ _ _) (by rw[Ko];exact ho.out) (by rw[Ko];exact HN.out));have hT:=HT.out;go_wp2;go_ret;refine⟨by rw[fH.out];rfl,?_⟩;rw[<-Yl.out];exact hb.out.trans (hb2.out.mono (Nat.le_of_lt qj.out))
end Go.Proofs.YtgaoeoijdpdjiabGreatDoor
namespace Go.Proofs.YtgaoeoijdpdjiabGreatDoor
open Go.RowKit
theorem If0 (i:Nat)(h:i<4):Ab i=5\/Ab i=11\/Ab i=19\/Ab i=26:=by
 rcases(show i=0\/i=1\/i=2\/i=3 by omega)with rfl|rfl|rfl|rfl<;>simp[Ab]
theorem M6 (g:Nat)(x:Int)(w:World)(hc:w.cell? ⟨g,8,none⟩=some (int i64 64))(h0:0<=x)(h1:x<18446744073709551616):Calls prog 287 #[pointer (some ⟨g,0,none⟩),.int .u64 x] w λe w'=>e=.returned (.int .u64 (x))/\w'=w:=by
 obtain⟨n,rfl⟩:=Int.eq_ofNat_of_zero_le h0;exact dC g n w hc (by omega)
theorem kf0 (g:Nat)(L:List Nat)(w:World)(hr:Ye w g 64 L)(hL:L.length=8)(hW:Pf 64 L):Calls prog 244 #[pointer (some ⟨g,0,none⟩)] w λe w'=>e=.returned (.tuple #[])/\Ye w' g 64 (Ag 64 L 8)/\Ob g w w':=by
 have HR:=aa hr;have HL:=aa hL;have HW:=aa hW;clear hr hL hW;go_enter func244,ntmps244;go_wp2;go_loopw [2] (λi wr=>∃r:Nat,r<=8/\i=int i64 r/\Hid (Ye wr g 64 (Ag 64 L r))/\Hid (Ob g w wr)) (λi _=>8-(intOf i).toNat)
 case atStart=>exact⟨0,by omega,rfl,HR,Ob.refl _ _⟩
 case round=>
  obtain⟨r,J2,rfl,hp,ho⟩:=hrel;by_cases hlt:r<8
  ·have hlen:(Ag 64 L r).length=8:=by rw[YF];exact HL.out
   have hwd:=kS 64 L r HW.out;have HS:Hid (Ag 64 L (r+1)=(Re 64 r (Ag 64 L r) 4).set 0 (Ba (Re 64 r (Ag 64 L r) 4) 0^^^(r+1))):=rfl;generalize Ag 64 L r=Q at hp hlen hwd HS;have Zv:=aa hlen;have iA:=aa hwd;clear hlen hwd;obtain⟨wo,rfl⟩:∃wo:World,wo=wr:=⟨_,rfl⟩;go_wp2;go_loopw [3] (λi wr=>∃j:Nat,j<=4/\i=int i64 j/\Hid (Ye wr g 64 (Re 64 r Q j))/\Hid (Ob g w wr)) (λi _=>4-(intOf i).toNat)
   case atStart=>exact⟨0,by omega,rfl,hp,ho⟩
   case round=>
    obtain⟨j,hj,rfl,hp,ho⟩:=hrel;by_cases Kn:j<4
    ·have hlen:(Re 64 r Q j).length=8:=by rw[nC];exact Zv.out
     have hwd:=oC 64 r Q j iA.out;have Gd:Hid (Re 64 r Q (j+1)=Pb 64 j (4+(j+r)% 4) (Re 64 r Q j)):=rfl;generalize Re 64 r Q j=K at hp hlen hwd Gd;have hjr:4+(j+r)% 4<8:=by omega
     have d1:=hp.out.cell (i:=j) (by omega);have d2:=hp.out.cell (i:=4+(j+r)% 4) (by omega);have d8:=hp.out.bits hlen;have x1:=hwd.at j;have x2:=hwd.at (4+(j+r)% 4);have HJ:Hid ((4:Int)+((j:Int)+(r:Int))% 4=((4+(j+r)% 4:Nat):Int)):=by show(4:Int)+((j:Int)+(r:Int))% 4=_;omega
     have Nh:Hid (Pb 64 j (4+(j+r)% 4) K=(K.set j (La 64 (Ba K j) (Ba K (4+(j+r)% 4)))).set (4+(j+r)% 4) (Kb 64 (Ba K (4+(j+r)% 4)) (Ab j)^^^La 64 (Ba K j) (Ba K (4+(j+r)% 4)))):=rfl;have XI:4<=4+(j+r)% 4:=by omega
     generalize 4+(j+r)% 4=J at hjr d2 x2 HJ Gd Nh XI;have q0:(0:Int)<=(J:Int):=by omega
     have q1:(J:Int)<8:=by omega
     have q2:(j:Int)<8:=by omega
     have Ph:=aa hlen;have z1:Ba K j<18446744073709551616:=by simpa using x1
     have z2:Ba K J<18446744073709551616:=by simpa using x2
     have y1:((Ba K j:Nat):Int)<18446744073709551616:=by omega
     have y2:((Ba K J:Nat):Int)<18446744073709551616:=by omega
     have hwr:IntKind.u64.wrap (((Ba K j:Nat):Int)+((Ba K J:Nat):Int))=(((Ba K j:Nat):Int)+((Ba K J:Nat):Int))% 18446744073709551616:=by rw[IntKind.wrap_u64]
     have HP:Hid (0<=(((Ba K j:Nat):Int)+((Ba K J:Nat):Int))% 18446744073709551616/\(((Ba K j:Nat):Int)+((Ba K J:Nat):Int))% 18446744073709551616<18446744073709551616):=⟨by omega,by omega⟩;clear z1 z2 y1 y2;have Sm:=aa (λw' h1=>Gd0 g (Ba K J) (Ab j) w' h1 (by simpa using x2) (If0 j Kn));have ru:=aa (λw':World=>dU j w' Kn)
     have HAD:Hid ((((Ba K j:Nat):Int)+((Ba K J:Nat):Int))% 18446744073709551616=((La 64 (Ba K j) (Ba K J):Nat):Int)):=by
      show(((Ba K j:Nat):Int)+((Ba K J:Nat):Int))% 18446744073709551616=_;unfold La;rw[Int.natCast_emod,Int.natCast_add];rfl
     have Pe:=aa (show Kb 64 (Ba K J) (Ab j)<18446744073709551616 from Nat.lt_of_lt_of_le (LC 64 (Ba K J) (Ab j) x2) (by decide));have ek:=aa (show La 64 (Ba K j) (Ba K J)<18446744073709551616 from Nat.lt_of_lt_of_le (zy 64 (Ba K j) (Ba K J)) (by decide));generalize Ba K j=a at d1 x1 HAD Nh hwr HP ek;generalize Ba K J=c at d2 x2 HAD Nh hwr HP Sm Pe ek;generalize Ab j=tn at Sm ru Nh Pe;generalize Kb 64 c tn=rt at Sm Nh Pe;generalize La 64 a c=A at HAD Nh ek;clear hlen hwd x1 x2;go_wp2;rw[HJ.out];go_quiet ((go_at_call 287;exact Calls.quiet_of_same (M6 g _ _ (by simpa[go_sem]using d8) HP.out.1 HP.out.2)));have Qe:=aa (u64_xor_nat rt A Pe.out ek.out);have vk:=aa (hp.out.drewN nq);have qb:=aa (ho.out.drewN nq);generalize hV:wr.drewN nq=V at vk qb⊢;have fj:V.frozen? ⟨g,j,none⟩=false:=vk.out.free j;have fJ:V.frozen? ⟨g,J,none⟩=false:=vk.out.free J;have e1:V.cell? ⟨g,j,none⟩=some (.int .u64 ((a:Nat):Int)):=by rw[<-hV];exact d1
     have e2:V.cell? ⟨g,J,none⟩=some (.int .u64 ((c:Nat):Int)):=by rw[<-hV];exact d2
     have e8:V.cell? ⟨g,8,none⟩=some (int i64 64):=by rw[<-hV];exact d8
     clear hwr hV d1 d2 d8;go_wp2;rw[HAD.out];go_quiet (first|(go_at_call 289;exact Calls.quiet_of_same (ru.out _))|(go_at_call 288;exact Calls.quiet_of_same (Sm.out _ (by simpa[go_sem]using e8))));go_wp2;rw[Qe.out];go_roundw
     case rel=>
      refine⟨j+1,by omega,by go_num,?_,?_⟩
      ·have h:=(vk.out.set j A (by have:=Ph.out;omega)).set J (rt^^^A) (by rw[List.length_set];have:=Ph.out;omega);rw[<-Nh.out,<-Gd.out]at h;exact h
      ·unfold Hid;repeat(first|refine Ob.drew ?_|refine Ob.drewN ?_ _|refine Ob.setCell ?_ _ _)
       exact qb.out
     case measure=>simp[intOf];omega
    ·obtain rfl:j=4:=by omega
     have hlen:(Re 64 r Q 4).length=8:=by rw[nC];exact Zv.out
     have hwd:=oC 64 r Q 4 iA.out;generalize Re 64 r Q 4=K at hp hlen hwd HS;have d0:=hp.out.cell (i:=0) (by omega);have f0:=hp.out.free 0;have Qe:Hid (bits BinOp.xor IntKind.u64 ((Ba K 0:Nat):Int) ((r:Int)+1)=((Ba K 0^^^(r+1):Nat):Int)):=u64_xor_nat (Ba K 0) (r+1) (Nat.lt_of_lt_of_le (hwd.at 0) (by decide)) (by omega);have Ph:=aa hlen;generalize Ba K 0=a at d0 Qe HS;clear hlen hwd;go_wp2;go_region;go_wp2;rw[Qe.out];go_roundw
     case rel=>
      refine⟨r+1,by omega,by go_num,?_,?_⟩
      ·have h:=hp.out.set 0 (a^^^(r+1)) (by have:=Ph.out;omega);rw[<-HS.out]at h;exact h
      ·unfold Hid;repeat(first|refine Ob.drew ?_|refine Ob.drewN ?_ _|refine Ob.setCell ?_ _ _)
       exact ho.out
     case measure=>simp[intOf];omega
  ·obtain rfl:r=8:=by omega
   go_wp2;go_end0;exact⟨rfl,hp.out,ho.out⟩
end Go.Proofs.YtgaoeoijdpdjiabGreatDoor
namespace Go.Proofs.YtgaoeoijdpdjiabGreatDoor
open Go.RowKit
theorem wf0 (BL:List Nat)(o:Nat)(L:List Nat)(j:Nat):Jf BL o L (j+1)=(Jf BL o L j).set j (Ba (Jf BL o L j) j^^^yc BL (o+j*8) 8):=by rw[Jf]
theorem xf0 (BL:List Nat)(o:Nat)(L:List Nat):Jf BL o L 0=L:=by rw[Jf]
theorem ef0 (L:List Nat)(hL:L.length=8):Ag 64 L 8=Ie 64 L 8:=ET 64 L hL
attribute [local irreducible] Uf Jf Ie Ag Mc Wi yc
theorem xY (n:Nat)(s:ByteArray)(w:World)(hn:1<=n)(hn2:n<=16)(hs:s.size<=400):Calls prog 165 #[int i64 2,int i64 (n:Int),string s] w λe w'=>e=.returned (string (Wi (Mc 8 (Uf (Ib s) (s.size/32+1)) n)))/\Below w.heap.size w w':=by
 have HS:=aa hs;have HN:=aa hn;have mg:=aa hn2;clear hs hn hn2;go_enter func165,ntmps165;go_wp2;go_rounds 9
 have R0:Hid (Ye (w.alloc (.cells #[.int .u64 1,.int .u64 2,.int .u64 3,.int .u64 4,.int .u64 5,.int .u64 6,.int .u64 7,.int .u64 8,int i64 64] 320)) w.heap.size 64 (Uf (Ib s) 0)):=by
  rw[wT];exact heap_alloc_new _ _
 have B0:=aa ((Below.refl w.heap.size w).alloc Aa (.cells #[.int .u64 1,.int .u64 2,.int .u64 3,.int .u64 4,.int .u64 5,.int .u64 6,.int .u64 7,.int .u64 8,int i64 64] 320));generalize hW0:w.alloc (.cells #[.int .u64 1,.int .u64 2,.int .u64 3,.int .u64 4,.int .u64 5,.int .u64 6,.int .u64 7,.int .u64 8,int i64 64] 320)=W0 at R0 B0⊢;clear hW0;obtain⟨g,hg⟩:∃g,g=w.heap.size:=⟨_,rfl⟩;rw[<-hg]at R0 B0;rw[<-hg];have Yl:=aa hg;clear hg;have Bf:=aa (λi=>qx s i);have hz:=HS.out;go_loopw [10] (λa wr=>∃m:Nat,m<=s.size/32+1/\a=int i64 ((m:Int)*4)/\Hid (Ye wr g 64 (Uf (Ib s) m))/\Hid (Below g w wr)) (λa _=>500-(intOf a).toNat)
 case atStart=>exact⟨0,by omega,by simp,R0,B0⟩
 case round=>
  obtain⟨m,hm,rfl,hp,hb⟩:=hrel;by_cases hlt:m<=s.size/32
  ·obtain⟨wo,rfl⟩:∃wo:World,wo=wr:=⟨_,rfl⟩;have qJ:decide ((m:Int)*4*8<=(s.size:Int))=true:=by simp;omega
   have hl:=TC (Ib s) m;have hwd:=sG (Ib s) Bf.out m;have um:=aa (rG (Ib s) m);generalize Uf (Ib s) m=A at hp hl hwd um;have HL:=aa hl;have BA:=aa hwd;clear hl hwd;go_wp2;go_loopw [11] (λi wr=>∃j:Nat,j<=4/\i=int i64 j/\Hid (Ye wr g 64 (Jf (Ib s) (m*32) A j))/\Hid (Below g w wr)) (λi _=>4-(intOf i).toNat)
   case atStart=>exact⟨0,by omega,rfl,by rw[xf0];exact hp,hb⟩
   case round=>
    obtain⟨j,hj,rfl,hp,hb⟩:=hrel;by_cases Kn:j<4
    ·have hlen:(Jf (Ib s) (m*32) A j).length=8:=by rw[Gx];exact HL.out
     have hwd:=ZC (Ib s) (m*32) A j BA.out Bf.out;have Gd:=aa (wf0 (Ib s) (m*32) A j);generalize Jf (Ib s) (m*32) A j=K at hp hlen hwd Gd;have HW:=aa (λw':World=>sg0 s (m*4+j) w' (by omega) (by omega));rw[show(m*4+j)*8=m*32+j*8 by omega]at HW;have d1:=hp.out.cell (i:=j) (by omega);have f1:=hp.out.free j;have x1:Ba K j<18446744073709551616:=Nat.lt_of_lt_of_le (hwd.at j) (by decide);have y1:yc (Ib s) (m*32+j*8) 8<18446744073709551616:=Nat.lt_of_lt_of_le (Br (Ib s) (m*32+j*8) 8 Bf.out) (by decide);have Qe:=aa (u64_xor_nat (Ba K j) (yc (Ib s) (m*32+j*8) 8) x1 y1);have Lf:=aa hlen;generalize yc (Ib s) (m*32+j*8) 8=v at Gd HW y1 Qe;generalize Ba K j=u at d1 x1 Qe Gd;clear hlen hwd x1 y1;have q1:(j:Int)<8:=by omega
     have hc:((m*4+j:Nat):Int)=(m:Int)*4+(j:Int):=by omega
     rw[hc]at HW;clear hc;go_wp2_with fail;refine(HW.out _).mono ?_
     rintro e w3 ⟨rfl,rfl⟩
     clear HW;go_wp2;go_region;go_wp2;rw[Qe.out];go_roundw
     case rel=>
      refine⟨j+1,by omega,by go_num,?_,?_⟩
      ·have h:=hp.out.set j (u^^^v) (by have:=Lf.out;omega);rw[<-Gd.out]at h;exact h
      ·unfold Hid;repeat(first|refine Below.drew ?_|refine Below.setCell ?_ (Nat.le_refl g) _)
       exact hb.out
     case measure=>simp[intOf];omega
    ·obtain rfl:j=4:=by omega
     have HST:=aa (kf0 g (Jf (Ib s) (m*32) A 4) wr hp.out (by rw[Gx];exact HL.out) (ZC (Ib s) (m*32) A 4 BA.out Bf.out));go_wp2_with fail;refine HST.out.mono ?_
     rintro e w4 ⟨rfl,Dk,Ei⟩
     clear HST;rw[ef0 _ (by rw[Gx];exact HL.out),<-um.out]at Dk;have P4:=aa Dk;have B4:=aa (Ei.below hb.out (Nat.le_refl g));clear Dk Ei;go_wp2;go_roundw
     case rel=>exact⟨m+1,by omega,by go_num,P4,B4⟩
     case measure=>simp[intOf];omega
  ·obtain rfl:m=s.size/32+1:=by omega
   have hl:=TC (Ib s) (s.size/32+1);have hwd:=sG (Ib s) Bf.out (s.size/32+1);generalize uB:Uf (Ib s) (s.size/32+1)=L at hp hl hwd⊢;have fH:=aa uB;have eu:=aa hl;have SH:=aa hwd;clear uB hl hwd;have qj:=aa hp.out.lt;obtain⟨wo,rfl⟩:∃wo:World,wo=wr:=⟨_,rfl⟩;obtain⟨i0,hi,hz0,hz1,hz2⟩:=info_parts infoByte;go_wp2;go_loopw [13,14] (λv i wr=>∃a:Nat,a<=n/\i=int i64 a/\Hid (wr.ownsRow wo.heap.size 5 1 v a (Lg (Mc 8 L a)))/\Hid (Below wo.heap.size wo wr)) (λ_ i _=>16-(intOf i).toNat)
   case atStart=>exact⟨0,by omega,rfl,⟨by simp[Lg,Ko],Or.inl ⟨rfl,rfl⟩⟩,Vb⟩
   case round=>
    obtain⟨a,ha,rfl,ho,hb2⟩:=hrel;by_cases hlt2:a<n
    ·have hn2:=mg.out;have c:=(hp.out.below hb2.out qj.out).cell (i:=a/8) (by have:=eu.out;omega);have HX:=aa (SH.out.at (a/8));have Mf:Hid (oq 8 L a=Ba L (a/8)/2^(8*(8-1-a% 8))% 256):=rfl;have Md:=aa (JF 8 L a);generalize Ba L (a/8)=u at c HX Mf;obtain⟨d,hd⟩:∃d,d=a/8:=⟨_,rfl⟩;obtain⟨q,hq⟩:∃q,q=a% 8:=⟨_,rfl⟩;rw[<-hd]at c;rw[<-hq]at Mf;have e1:(a:Int).tdiv 8=(d:Int):=by rw[Int.tdiv_eq_ediv_of_nonneg (by omega)];omega
     have e2:(a:Int)/8=(d:Int):=by omega
     have e3:(a:Int).tmod 8=(q:Int):=by rw[Int.tmod_eq_emod_of_nonneg (by omega)];omega
     have e4:(a:Int)% 8=(q:Int):=by omega
     have d8:(d:Int)<8:=by omega
     have q8:(q:Int)<8:=by omega
     clear hd hq;go_wp2;go_region;have qb:=aa (show wr.drew.ownsRow wo.heap.size 5 1 u13 a (Lg (Mc 8 L a))from ho.out);have Yi:=aa hb2.out.drew;generalize hV:wr.drew=V at qb Yi⊢;clear hV c;go_wp2_with (at_builtin;refine wpList_append_own _ rfl _ _ 170 rfl wo.heap.size 5 i0 (.int .u8 0) 1 1 underlying170 hi hz0 hz1 hz2 rfl (by decide) _ _ _ rfl (qb.out.alloc _) ⟨V.heap.size,0,none⟩ 1 1 [_] rfl rfl (Jo _ _ _) ?c2 ?c3 ?c4 ?c5 ?_)
     case c2=>intro y hy;simp at hy;subst hy;rfl
     case c3=>unfold maxLen;omega
     case c4=>omega
     case c5=>have:=Yi.out.size;simp;omega
     intro v' w3 ho3 hgrow _;have HB3:=aa ((Yi.out.alloc Yi.out.size _).grown hgrow (by have:=Yi.out.size;simp;omega) (λp hp=>(Mr qb.out p hp).1));have qd:=aa ho3;clear ho3 hgrow;go_wp2;go_roundw
     case rel=>
      have hcs:Lg (Mc 8 L (a+1))=Lg (Mc 8 L a)++[.int .u8 ((u:Int)/2^(8*(8-1-q))% 256)]:=by
       rw[Md.out,vE,Mf.out,Int.natCast_emod,Int.natCast_ediv,Int.natCast_pow];rfl
      have R:∃p:Nat,p<=n/\int i64 ((a:Int)+1)=int i64 (p:Int)/\Hid (w3.ownsRow wo.heap.size 5 1 v' p (Lg (Mc 8 L p)))/\Hid (Below wo.heap.size wo w3):=⟨a+1,by omega,by go_num,by rw[hcs];exact qd.out,HB3.out⟩;first|exact R|((repeat apply Exists.intro);exact⟨R,rfl⟩)
     case measure=>simp[intOf];omega
    ·obtain rfl:a=n:=by omega
     have HT:=aa (jG wr wo.heap.size _ (Mc 8 L a) (λd hd=>by simp only[Mc,List.mem_map]at hd;obtain⟨i,_,rfl⟩:=hd;exact EF _ _ _) (by rw[Ko];exact ho.out) (by rw[Ko];exact HN.out));have hT:=HT.out;go_wp2;go_ret;refine⟨by rw[fH.out];rfl,?_⟩;rw[<-Yl.out];exact hb.out.trans (hb2.out.mono (Nat.le_of_lt qj.out))
end Go.Proofs.YtgaoeoijdpdjiabGreatDoor
