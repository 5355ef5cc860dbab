import Derived.Test.YtgaoeoijdpdjiabGreatDoorPart45
open Go.Value (int string pointer slice)
open Go.IntKind (i64)
open Go.Proofs.Tryz
set_option maxRecDepth 20000
set_option maxHeartbeats 8000000
namespace Go.Proofs.YtgaoeoijdpdjiabGreatDoor
open Go.RowKit
structure He where
 q:Int
 b:Int
 d:ByteArray
def kC (r l:He):Bool:=decide (l.q<r.q\/r.q=l.q/\l.b<r.b)
def Ng (id:ByteArray)(tot:Int)(l r:He):He:=if r.d=id/\r.b<=tot/\kC r l=true then r else l
def Gi (id:ByteArray)(tot:Int)(l:He)(L:List He)(j:Nat):He:=(L.take j).foldl (Ng id tot) l
theorem sf0 (id:ByteArray)(tot:Int)(l:He)(L:List He)(j:Nat)(r:He)(h:L[j]?=some r):Gi id tot l L (j+1)=Ng id tot (Gi id tot l L j) r:=by
 obtain⟨hj,rfl⟩:=List.getElem?_eq_some_iff.1 h;rw[Gi,List.take_succ_eq_append_getElem hj,List.foldl_append];rfl
theorem l7 (r l:He)(w:World):Calls prog 252 #[.agg #[int i64 r.q,int i64 r.b,string r.d],.agg #[int i64 l.q,int i64 l.b,string l.d]] w λe w'=>e=.returned (.bool (kC r l))/\Below w.heap.size w w':=by
 obtain⟨rq,rb,rd⟩:=r;obtain⟨lq,lb,ld⟩:=l;unfold kC;dsimp only;by_cases h1:lq<rq
 ·rw[decide_eq_true (.inl h1)];go_enter func252,ntmps252;go_wp2;go_ret;exact⟨rfl,(Va _).alloc (by simp) _⟩
 ·by_cases h2:rq=lq
  ·by_cases h3:lb<rb
   ·rw[decide_eq_true (.inr ⟨h2,h3⟩)];have e2:(rq==lq)=true:=by simpa using h2
    clear h2;go_enter func252,ntmps252;go_wp2;go_ret;exact⟨rfl,(Va _).alloc (by simp) _⟩
   ·rw[decide_eq_false (by omega)];have e2:(rq==lq)=true:=by simpa using h2
    clear h2;go_enter func252,ntmps252;go_wp2;go_ret;exact⟨rfl,(Va _).alloc (by simp) _⟩
  ·rw[decide_eq_false (by omega)];have e2:(rq==lq)=false:=by simpa using h2
   clear h2;go_enter func252,ntmps252;go_wp2;go_ret;exact⟨rfl,(Va _).alloc (by simp) _⟩
def TR (D O _FB:Nat)(id:ByteArray)(tot:Int)(n:Nat)(a:Option Addr)(c:Nat)(L:List He)(j:Nat)(w V:World):Prop:=ma V O (Lg D id tot (slice a n c) (Gi id tot ⟨0,0,⟨#[]⟩⟩ L j).q (Gi id tot ⟨0,0,⟨#[]⟩⟩ L j).b (Gi id tot ⟨0,0,⟨#[]⟩⟩ L j).d) 246/\za (λk=>k=O) w V
theorem tf0 (D O FB:Nat)(id:ByteArray)(tot:Int)(n c:Nat)(L:List He)(w:World)(hn:L.length=n)(hn2:n<=100)(hO:ma w O (Lg D id tot (slice (some ⟨FB,0,none⟩) n c) 0 0 ⟨#[]⟩) 246)(VO:FB<w.heap.size)(WO:FB≠O)
  (hL:∀(j:Nat) (r:He),L[j]?=some r->w.cell? ⟨FB,j*3,none⟩=some (int i64 r.q)/\w.cell? ⟨FB,j*3+1,none⟩=some (int i64 r.b)/\w.cell? ⟨FB,j*3+2,none⟩=some (string r.d)):Calls prog 172 #[pointer (some ⟨O,0,none⟩)] w λe w'=>(e=.returned (int i64 8)/\(Gi id tot ⟨0,0,⟨#[]⟩⟩ L n).q=0\/e=.returned (int i64 0)/\(Gi id tot ⟨0,0,⟨#[]⟩⟩ L n).q≠0)/\TR D O FB id tot n (some ⟨FB,0,none⟩) c L n w w':=by
 have HL:=aa hL;have HN:=aa hn;have TG:=aa VO;have El:=aa WO;have jm:=aa hO.lt;have HT0:Hid (TR D O FB id tot n (some ⟨FB,0,none⟩) c L 0 w w):=⟨hO,za.refl _ _⟩;have c3:=Xa hO;obtain⟨a,ha⟩:∃a:Option Addr,a=some ⟨FB,0,none⟩:=⟨_,rfl⟩;have Xt:=aa ha;rw[<-ha]at HT0 c3⊢;subst ha;clear hL hn VO WO hO;go_enter func172,ntmps172;go_wp2_with fail;clear c3;go_loopw [10] (λi wr=>∃j:Nat,j<=n/\i=int i64 j/\Hid (TR D O FB id tot n (some ⟨FB,0,none⟩) c L j w wr)) (λi _=>n-(intOf i).toNat)
 case atStart=>exact⟨0,Nat.zero_le _,rfl,HT0.out⟩
 case round=>
  obtain⟨j,hj,rfl,htr⟩:=hrel;by_cases hlt:j<n
  ·obtain⟨r,hr⟩:∃r,L[j]?=some r:=⟨_,List.getElem?_eq_getElem (by rw[HN.out];exact hlt)⟩;have Ld:=aa (sf0 id tot ⟨0,0,⟨#[]⟩⟩ L j r hr);obtain⟨x0,x1,x2⟩:=HL.out j r hr;have hkb:=htr.out.2;have g0:=(hkb.cell (p:=⟨FB,j*3,none⟩) TG.out El.out).trans x0;have g1:=(hkb.cell (p:=⟨FB,j*3+1,none⟩) TG.out El.out).trans x1;have g2:=(hkb.cell (p:=⟨FB,j*3+2,none⟩) TG.out El.out).trans x2;have Qz:=aa hkb;have Lf:=aa htr.out.1;have jg:=aa (λV:World=>l7 r (Gi id tot ⟨0,0,⟨#[]⟩⟩ L j) V);have HST:Hid (∀l',l'=Gi id tot ⟨0,0,⟨#[]⟩⟩ L (j+1)->True):=λ_ _=>trivial;obtain⟨Dg,aQ⟩:=Ca (Gi id tot ⟨0,0,⟨#[]⟩⟩ L j);rw[aQ]at Lf jg Ld
   have qD:=aa (λ(V:World) (h:ma V O (Lg D id tot (slice (some ⟨FB,0,none⟩) n c) (Ng id tot Dg r).q (Ng id tot Dg r).b (Ng id tot Dg r).d) 246) (hk:za (λk=>k=O) w V)=>(by
    unfold TR;rw[Ld.out];exact⟨h,hk⟩:TR D O FB id tot n (some ⟨FB,0,none⟩) c L (j+1) w V))
   clear aQ x0 x1 x2 hkb htr Ld HST hr;obtain⟨rq,rb,rd⟩:=r;obtain⟨lq,lb,ld⟩:=Dg;dsimp only at g0 g1 g2 Lf jg;obtain⟨W6,Dn⟩:=Ca (wr.alloc (.cells #[int i64 rq,int i64 rb,string rd] 186));obtain⟨RB,Hr⟩:=Ca (wr.heap.size);have Ub:=Xd Dn;have qA:=aa (show ma W6 RB [int i64 rq,int i64 rb,string rd] 186 by rw[<-Dn,<-Hr];exact ma.new wr _ _);have Rj:=aa (Lf.out.on Ub.out);have Wn:=aa (Qz.out.after Ub.out);have dW:=aa Dn;have qm:=aa Hr;have HS:=aa (λ(V:World) (h:Below W6.heap.size W6 V)=>(have q0:=qA.out.on h;have q1:=Rj.out.on h;Ul (Fa q0) (Ja q0) (Ha q0) (Ja q1) (Ha q1) (Ya q1) (Ee q1) (jf q1)));clear Dn Hr;have hms:(j:Int)<(n:Int):=by omega
   go_wp2_with fail;rw[dW.out,qm.out];clear g0 g1 g2;by_cases hid:rd=id
   ·have e1:(rd.toList==id.toList)=true:=by rw[hid];simp
    by_cases hbt:rb<=tot
    ·by_cases hla:kC ⟨rq,rb,rd⟩ ⟨lq,lb,ld⟩=true
     ·have Yf:Hid (Ng id tot ⟨lq,lb,ld⟩ ⟨rq,rb,rd⟩=⟨rq,rb,rd⟩):=by show _=_;rw[Ng,if_pos ⟨hid,hbt,hla⟩]
      rw[hla]at jg;clear hid hla;refine wp_region_held_drew (S:=λV=>V.cell? ⟨RB,0,none⟩=some (int i64 rq)/\V.cell? ⟨RB,1,none⟩=some (int i64 rb)/\V.cell? ⟨RB,2,none⟩=some (string rd)/\V.cell? ⟨O,1,none⟩=some (string id)/\V.cell? ⟨O,2,none⟩=some (int i64 tot)/\V.cell? ⟨O,4,none⟩=some (int i64 lq)/\V.cell? ⟨O,5,none⟩=some (int i64 lb)/\V.cell? ⟨O,6,none⟩=some (string ld)) (by kernel_rfl) (HS.out _ ((Below.refl W6.heap.size W6).drew)) (λja=>?_);refine tk 0 ja ?_;refine tk 1 ja ?_;refine tk 2 ja ?_;refine tk 3 ja ?_;refine tk 4 ja ?_;refine tk 5 ja ?_;refine tk 6 ja ?_;refine tk 7 ja ?_;refine tk 8 ja ?_;refine tk 9 ja ?_;refine tk 10 ja ?_;refine tk 11 ja ?_;refine tk 12 ja ?_;refine tk 13 ja ?_;refine tk 14 ja ?_;refine tk 15 ja ?_;refine tk 16 ja ?_;refine tk 17 ja ?_;refine tk 18 ja ?_;refine tk 19 ja ?_;refine tk 20 ja ?_;refine tk 21 ja ?_;refine wpAnyH_ready (rs:=[22]) (by kernel_rfl) (by simp) ?_;refine AllReadyH.cons (o:=?oa22) ?hoa22 (λK hK=>?hsa22) AllReadyH.nil
      case hoa22=>(simp only[jb,Na,Oa];rfl)
      go_simp;go_at_call 252;refine(jg.out _).mono ?_
      rintro e w7 ⟨rfl,En⟩
      have Pe:=aa (Ga (Below.refl W6.heap.size W6).drew En Aa);clear En;try go_wp2_with fail
      refine hK.out _ _ (HS.out _ (Pe.out)) (λja=>?_);clear hK K;try simp only[Act.put,Bb,Ka,Ma]
      refine tk 23 ja ?_;refine wpAnyH_done (by kernel_rfl) ?_ _;clear ja;have Zv:=aa (Rj.out.on Pe.out);have gy:=aa (qA.out.on Pe.out);have y0:=Fa gy.out;have y1:=Ja gy.out;have y2:=Ha gy.out;have o4:=Ya Zv.out;have o5:=Ee Zv.out;have o6:=jf Zv.out;have p4:=Zv.out.free 4;have p5:=Zv.out.free 5;have p6:=Zv.out.free 6
      have xw:=aa (qD.out (((w7.setCell ⟨O,4,none⟩ (int i64 rq)).setCell ⟨O,5,none⟩ (int i64 rb)).setCell ⟨O,6,none⟩ (string rd)) (by
       rw[Yf.out];exact((Zv.out.set 4 (int i64 rq)).set 5 (int i64 rb)).set 6 (string rd)) ((((Wn.out.after Pe.out).setCell (p:=⟨O,4,none⟩) (.inl rfl) (int i64 rq)).setCell (p:=⟨O,5,none⟩) (.inl rfl) (int i64 rb)).setCell (p:=⟨O,6,none⟩) (.inl rfl) (string rd)))
      go_wp2;go_roundw
      case rel=>
       have RR:∃j':Nat,j'<=n/\int i64 ((j:Int)+1)=int i64 j'/\Hid (TR D O FB id tot n (some ⟨FB,0,none⟩) c L j' w (((w7.setCell ⟨O,4,none⟩ (int i64 rq)).setCell ⟨O,5,none⟩ (int i64 rb)).setCell ⟨O,6,none⟩ (string rd))):=⟨j+1,by omega,by go_num,xw.out⟩;first|exact RR|((repeat apply Exists.intro);exact⟨RR,rfl⟩)
      case measure=>simp[intOf];omega
     ·have Yf:Hid (Ng id tot ⟨lq,lb,ld⟩ ⟨rq,rb,rd⟩=⟨lq,lb,ld⟩):=by show _=_;rw[Ng,if_neg (λh=>hla h.2.2)]
      rw[show kC ⟨rq,rb,rd⟩ ⟨lq,lb,ld⟩=false by simpa using hla]at jg;clear hid hla;refine wp_region_held_drew (S:=λV=>V.cell? ⟨RB,0,none⟩=some (int i64 rq)/\V.cell? ⟨RB,1,none⟩=some (int i64 rb)/\V.cell? ⟨RB,2,none⟩=some (string rd)/\V.cell? ⟨O,1,none⟩=some (string id)/\V.cell? ⟨O,2,none⟩=some (int i64 tot)/\V.cell? ⟨O,4,none⟩=some (int i64 lq)/\V.cell? ⟨O,5,none⟩=some (int i64 lb)/\V.cell? ⟨O,6,none⟩=some (string ld)) (by kernel_rfl) (HS.out _ ((Below.refl W6.heap.size W6).drew)) (λja=>?_);refine tk 0 ja ?_;refine tk 1 ja ?_;refine tk 2 ja ?_;refine tk 3 ja ?_;refine tk 4 ja ?_;refine tk 5 ja ?_;refine tk 6 ja ?_;refine tk 7 ja ?_;refine tk 8 ja ?_;refine tk 9 ja ?_;refine tk 10 ja ?_;refine tk 11 ja ?_;refine tk 12 ja ?_;refine tk 13 ja ?_;refine tk 14 ja ?_;refine tk 15 ja ?_;refine tk 16 ja ?_;refine tk 17 ja ?_;refine tk 18 ja ?_;refine tk 19 ja ?_;refine tk 20 ja ?_;refine tk 21 ja ?_;refine wpAnyH_ready (rs:=[22]) (by kernel_rfl) (by simp) ?_;refine AllReadyH.cons (o:=?ob22) ?hob22 (λK hK=>?hsb22) AllReadyH.nil
      case hob22=>(simp only[jb,Na,Oa];rfl)
      go_simp;go_at_call 252;refine(jg.out _).mono ?_
      rintro e w7 ⟨rfl,En⟩
      have Pe:=aa (Ga (Below.refl W6.heap.size W6).drew En Aa);clear En;try go_wp2_with fail
      refine hK.out _ _ (HS.out _ (Pe.out)) (λja=>?_);clear hK K;try simp only[Act.put,Bb,Ka,Ma]
      refine tk 23 ja ?_;refine wpAnyH_done (by kernel_rfl) ?_ _;clear ja;have xw:=aa (qD.out w7 (by rw[Yf.out];exact Rj.out.on Pe.out) (Wn.out.after Pe.out));go_wp2;go_roundw
      case rel=>
       have RR:∃j':Nat,j'<=n/\int i64 ((j:Int)+1)=int i64 j'/\Hid (TR D O FB id tot n (some ⟨FB,0,none⟩) c L j' w w7):=⟨j+1,by omega,by go_num,xw.out⟩;first|exact RR|((repeat apply Exists.intro);exact⟨RR,rfl⟩)
      case measure=>simp[intOf];omega
    ·have Yf:Hid (Ng id tot ⟨lq,lb,ld⟩ ⟨rq,rb,rd⟩=⟨lq,lb,ld⟩):=by show _=_;rw[Ng,if_neg (λh=>hbt h.2.1)]
     have Pg0:decide (rb<=tot)=false:=decide_eq_false hbt;clear hid hbt;refine wp_region_held_drew (S:=λV=>V.cell? ⟨RB,0,none⟩=some (int i64 rq)/\V.cell? ⟨RB,1,none⟩=some (int i64 rb)/\V.cell? ⟨RB,2,none⟩=some (string rd)/\V.cell? ⟨O,1,none⟩=some (string id)/\V.cell? ⟨O,2,none⟩=some (int i64 tot)/\V.cell? ⟨O,4,none⟩=some (int i64 lq)/\V.cell? ⟨O,5,none⟩=some (int i64 lb)/\V.cell? ⟨O,6,none⟩=some (string ld)) (by kernel_rfl) (HS.out _ ((Below.refl W6.heap.size W6).drew)) (λja=>?_);refine tk 0 ja ?_;refine tk 1 ja ?_;refine tk 2 ja ?_;refine tk 3 ja ?_;refine tk 4 ja ?_;refine tk 5 ja ?_;refine tk 6 ja ?_;refine tk 7 ja ?_;refine tk 8 ja ?_;refine tk 9 ja ?_;refine tk 10 ja ?_;refine tk 11 ja ?_;refine tk 12 ja ?_;refine tk 13 ja ?_;refine tk 14 ja ?_;refine tk 15 ja ?_;refine tk 16 ja ?_;refine sk 17 ja ?_;refine sk 18 ja ?_;refine sk 19 ja ?_;refine sk 20 ja ?_;refine sk 21 ja ?_;refine sk 22 ja ?_;refine tk 23 ja ?_;refine wpAnyH_done (by kernel_rfl) ?_ _;clear ja;have xw:=aa (qD.out W6.drew (by rw[Yf.out];exact Rj.out.on Vb.drew) (Wn.out.after Vb.drew));go_wp2;go_roundw
     case rel=>
      have RR:∃j':Nat,j'<=n/\int i64 ((j:Int)+1)=int i64 j'/\Hid (TR D O FB id tot n (some ⟨FB,0,none⟩) c L j' w W6.drew):=⟨j+1,by omega,by go_num,xw.out⟩;first|exact RR|((repeat apply Exists.intro);exact⟨RR,rfl⟩)
     case measure=>simp[intOf];omega
   ·have e1:(rd.toList==id.toList)=false:=xG hid;have Yf:Hid (Ng id tot ⟨lq,lb,ld⟩ ⟨rq,rb,rd⟩=⟨lq,lb,ld⟩):=by show _=_;rw[Ng,if_neg (λh=>hid h.1)]
    clear hid;refine wp_region_held_drew (S:=λV=>V.cell? ⟨RB,0,none⟩=some (int i64 rq)/\V.cell? ⟨RB,1,none⟩=some (int i64 rb)/\V.cell? ⟨RB,2,none⟩=some (string rd)/\V.cell? ⟨O,1,none⟩=some (string id)/\V.cell? ⟨O,2,none⟩=some (int i64 tot)/\V.cell? ⟨O,4,none⟩=some (int i64 lq)/\V.cell? ⟨O,5,none⟩=some (int i64 lb)/\V.cell? ⟨O,6,none⟩=some (string ld)) (by kernel_rfl) (HS.out _ ((Below.refl W6.heap.size W6).drew)) (λja=>?_);refine tk 0 ja ?_;refine tk 1 ja ?_;refine tk 2 ja ?_;refine tk 3 ja ?_;refine tk 4 ja ?_;refine tk 5 ja ?_;refine tk 6 ja ?_;refine tk 7 ja ?_;refine sk 8 ja ?_;refine sk 9 ja ?_;refine sk 10 ja ?_;refine sk 11 ja ?_;refine sk 12 ja ?_;refine sk 13 ja ?_;refine sk 14 ja ?_;refine tk 15 ja ?_;refine tk 16 ja ?_;refine sk 17 ja ?_;refine sk 18 ja ?_;refine sk 19 ja ?_;refine sk 20 ja ?_;refine sk 21 ja ?_;refine sk 22 ja ?_;refine tk 23 ja ?_;refine wpAnyH_done (by kernel_rfl) ?_ _;clear ja;have xw:=aa (qD.out W6.drew (by rw[Yf.out];exact Rj.out.on Vb.drew) (Wn.out.after Vb.drew));go_wp2;go_roundw
    case rel=>
     have RR:∃j':Nat,j'<=n/\int i64 ((j:Int)+1)=int i64 j'/\Hid (TR D O FB id tot n (some ⟨FB,0,none⟩) c L j' w W6.drew):=⟨j+1,by omega,by go_num,xw.out⟩;first|exact RR|((repeat apply Exists.intro);exact⟨RR,rfl⟩)
    case measure=>simp[intOf];omega
  ·obtain rfl:j=n:=by omega
   have Kl:=aa htr.out;have o4:=Ya htr.out.1;clear htr hj hlt;by_cases h0:(Gi id tot ⟨0,0,⟨#[]⟩⟩ L j).q=0
   ·have HE:=aa h0;rw[h0]at o4;clear h0;go_wp2;go_ret;exact⟨.inl ⟨rfl,HE.out⟩,Kl.out⟩
   ·have HE:=aa h0;have e0:((Gi id tot ⟨0,0,⟨#[]⟩⟩ L j).q==0)=false:=by simpa using h0
    generalize(Gi id tot ⟨0,0,⟨#[]⟩⟩ L j).q=zz at o4 e0;clear h0;go_wp2;go_ret;exact⟨.inr ⟨rfl,HE.out⟩,Kl.out⟩
theorem BN (lo D:Nat)(st s2:Da)(F:Nat->Prop)(k b x t l:Int)(root pub sec rnd id di:ByteArray)(tot bat q bd z0 z1 z2 z4 z5:Int)(sv:Value)(w:World)(hD:Fb lo D st w F)(hn:2<=st.n)(hT:Tn w)(Yg:1<lo)(hlo:lo<=w.heap.size)(hb1:1<=bat)(hb2:bat<=64)(ht0:0<=st.term)(ht1:st.term<9223372036854775807)(jc:s2.term=st.term+1)
  (hM:∀V:World,Calls prog 155 #[.agg #[int i64 k,int i64 b,int i64 x,int i64 t,int i64 l]] V λe w'=>e=.returned (.tuple #[.agg #[int i64 z0,int i64 z1,int i64 z2,int i64 tot,int i64 z4,int i64 z5],int i64 0])/\Below V.heap.size V w')
  (ll:∀V:World,Tn V->Calls prog 178 #[.agg #[int i64 k,int i64 b,int i64 x,int i64 t,int i64 l],.agg #[string sec,string rnd,string pub]] V λe w'=>e=.returned (.tuple #[.agg #[int i64 k,int i64 b,int i64 x,int i64 t,int i64 l,string root,string pub],int i64 0])/\Below V.heap.size V w')
  (zn:∀V:World,Tn V->Calls prog 179 #[.agg #[int i64 k,int i64 b,int i64 x,int i64 t,int i64 l,string root,string pub]] V λe w'=>e=.returned (string id)/\Below V.heap.size V w')
  (hDone:∀(V:World) (O:Nat) (F1:Nat->Prop),Fb lo D {st with term:=st.term+1} V F1->za F w V->(∀k,F1 k->F k\/w.heap.size<=k)->w.heap.size<=O->¬F1 O->ma V O (Lg D id tot (slice none 0 0) 0 0 ⟨#[]⟩) 246->Calls prog 180 #[pointer (some ⟨O,0,none⟩),sv] V λe w'=>e=.returned (int i64 0)/\∃fv,bI lo O D s2 (Lg D id tot fv q bd di) F1 V w'):Calls prog 106 #[pointer (some ⟨D,0,none⟩),.agg #[int i64 k,int i64 b,int i64 x,int i64 t,int i64 l],.agg #[string sec,string rnd,string pub],int i64 bat,sv] w λe w'=>∃S F',e=.returned (.tuple #[pointer (some ⟨S,0,none⟩),int i64 0])/\ma w' S (Zb D (st.term+1) k b x t l root pub sec rnd tot bat bd q bd di false) 188/\Fb lo D s2 w' F'/\¬F' S/\w.heap.size<=S/\za F w w'/\∀k,F' k->F k\/w.heap.size<=k:=by
 have jB:∀i,F i->lo<=i/\i<w.heap.size:=hD.lt;obtain⟨W0,hW⟩:=Ca ((w.alloc (.cells #[int i64 k,int i64 b,int i64 x,int i64 t,int i64 l] 26)).alloc (.cells #[string sec,string rnd,string pub] 42));have HB0:=Gc hW;have HC:=aa (show ma W0 w.heap.size [int i64 k,int i64 b,int i64 x,int i64 t,int i64 l] 26 by rw[<-hW];exact(ma.new w _ _).alloc _)
 have HE:=aa (show ma W0 (w.heap.size+1) [string sec,string rnd,string pub] 42 by
  rw[<-hW];have h:=ma.new (w.alloc (.cells #[int i64 k,int i64 b,int i64 x,int i64 t,int i64 l] 26)) [string sec,string rnd,string pub] 42;simp only[World.size_alloc]at h;exact h)
 have HM:=aa hM;have Qm:=aa ll;have YG:=aa zn;have QG:=aa hDone;have OG:=aa (λV:World=>zw bat V hb1 hb2);obtain⟨sa,hsa⟩:=hD.sectors;have Sj:=aa (λ(V:World) (h:Below w.heap.size w V)=>QC D sa st.n st.n V ((h.cell (p:=⟨D,0,none⟩) hD.ltD).trans hsa));have hnn:(2:Int)<=(st.n:Int):=by omega
 have HP:=aa (And.intro hD (And.intro hT (And.intro Yg (And.intro hlo (And.intro ht0 (And.intro ht1 (And.intro jc jB)))))));have Ea:=aa hW;clear hW hM ll zn hDone hb1 hb2 hsa hD hT Yg hlo ht0 ht1 jc jB hn;go_enter func106,ntmps106;go_wp2_with fail;rw[Ea.out];refine(HM.out _).mono ?_
 rintro e w1 ⟨rfl,hb1⟩
 obtain⟨W1,hW1⟩:=Ca (w1.alloc (.cells #[int i64 z0,int i64 z1,int i64 z2,int i64 tot,int i64 z4,int i64 z5] 158));have HB1:=aa (show Below W0.heap.size W0 W1 by rw[<-hW1];exact hb1.alloc hb1.size _);have HZ:=Ph hW1;have HW1:=aa hW1;have EB:=HB0.out.size;have Nw:=hb1.size;obtain⟨Z,hZ⟩:=Ca (w1.heap.size);rw[hZ]at HZ Nw;have WH:=aa hZ;have iE:=aa (Nat.le_trans EB Nw);clear hb1 hW1 hZ EB Nw;go_wp2_with fail;rw[HW1.out];refine(Sj.out _ (HB0.out.trans (HB1.out.mono HB0.out.size))).mono ?_
 rintro e w2 ⟨rfl,hb2⟩
 have HB2:=aa hb2;clear hb2;go_wp2_with fail;refine(OG.out _).mono ?_
 rintro e w3 ⟨rfl,hb3⟩
 have HB3:=aa (Ga HB2.out hb3 Aa);clear hb3;have Ov:=aa (HB1.out.trans (HB3.out.mono HB1.out.size));have We:=aa (HC.out.on Ov.out);have Xi:=aa (HE.out.on Ov.out);have c0:=Fa We.out;have c1:=Ja We.out;have c2:=Ha We.out;have c3:=Xa We.out;have c4:=Ya We.out;have d0:=Fa Xi.out;have d1:=Ja Xi.out;have d2:=Ha Xi.out;have Yr:=aa (HB0.out.trans (Ov.out.mono HB0.out.size));have HT3:=aa (HP.out.2.1.on Yr.out);go_wp2_with fail;refine(Qm.out _ HT3.out).mono ?_
 rintro e w4 ⟨rfl,hb4⟩
 clear c0 c1 c2 c3 c4 d0 d1 d2;obtain⟨W4,Gj⟩:=Ca (w4.alloc (.cells #[int i64 k,int i64 b,int i64 x,int i64 t,int i64 l,string root,string pub] 184));have Db:=aa (show Below w3.heap.size w3 W4 by rw[<-Gj];exact hb4.alloc hb4.size _);have HKK:=Ph Gj;obtain⟨KB,Jt⟩:=Ca (w4.heap.size);have DD:=aa (show w.heap.size<=KB by rw[<-Jt];exact Nat.le_trans Yr.out.size hb4.size);rw[Jt]at HKK;have PH:=aa Gj;have Vv:=aa Jt;clear hb4 Gj Jt;have Zr:=aa (Yr.out.trans (Db.out.mono Yr.out.size));have wh:=aa (Xi.out.on Db.out);have GA:=aa ((HZ.out.on HB3.out).on Db.out);have HD4:=aa (HP.out.1.below Zr.out);have Tq:=aa (yO lo D st F W4 HD4.out HP.out.2.2.2.2.1 HP.out.2.2.2.2.2.1);go_wp2_with fail;rw[PH.out];refine Tq.out.mono ?_
 rintro e w5 ⟨rfl,hl5⟩
 have hnF:∀g,w.heap.size<=g->¬F g:=λg hg h=>by have:=(HP.out.2.2.2.2.2.2.2 g h).2;omega
 have Rv:=aa (hl5.blk wh.out (hnF _ (by omega)));have Ck:=aa (hl5.blk GA.out (hnF _ iE.out));have Ep:=aa (hl5.blk HKK.out (hnF _ DD.out));have Uk:=aa (hl5.of_below Zr.out (λi hi=>(HP.out.2.2.2.2.2.2.2 i hi).2));have gu:=aa hnF;have Sz:=aa hl5;have jo:=aa (And.intro wh.out.lt (And.intro GA.out.lt HKK.out.lt));clear hl5 hnF
 have Ez:=aa (show Below lo w w5 by
  obtain⟨F1,_,k1,_⟩:=Uk.out;exact k1.below (λi hi=>(HP.out.2.2.2.2.2.2.2 i hi).1) HP.out.2.2.2.1)
 have ky:=aa (show Tn w5.drew from(HP.out.2.1.below Ez.out HP.out.2.2.1).on (Below.refl _ w5).drew);have HS:=aa (λ(V:World) (h:Below w5.heap.size w5 V)=>(have q1:=Ep.out.on h;have q2:=Ck.out.on h;Ul (Fa q1) (Ja q1) (Ha q1) (Xa q1) (Ya q1) (Ee q1) (jf q1) (Xa q2)));go_wp2_with fail;try rw[Vv.out]
 try rw[WH.out]
 refine wp_region_held_drew (S:=λV=>V.cell? ⟨KB,0,none⟩=some (int i64 k)/\V.cell? ⟨KB,1,none⟩=some (int i64 b)/\V.cell? ⟨KB,2,none⟩=some (int i64 x)/\V.cell? ⟨KB,3,none⟩=some (int i64 t)/\V.cell? ⟨KB,4,none⟩=some (int i64 l)/\V.cell? ⟨KB,5,none⟩=some (string root)/\V.cell? ⟨KB,6,none⟩=some (string pub)/\V.cell? ⟨Z,3,none⟩=some (int i64 tot)) (by kernel_rfl) (HS.out _ ((Below.refl w5.heap.size w5).drew)) (λja=>?_);refine tk 0 ja ?_;refine tk 1 ja ?_;refine tk 3 ja ?_;refine tk 4 ja ?_;refine wpAnyH_ready (rs:=[2]) (by kernel_rfl) (by simp) ?_;refine AllReadyH.cons (o:=?oa2) ?hoa2 (λK hK=>?hsa2) AllReadyH.nil
 case hoa2=>(simp only[jb,Na,Oa];rfl)
 go_simp;go_at_call 179;refine(YG.out _ ky.out).mono ?_
 rintro e w6 ⟨rfl,hb6⟩
 have Ub:=aa (Ga (Below.refl w5.heap.size w5).drew hb6 Aa);clear hb6;try go_wp2_with fail
 refine hK.out _ _ (HS.out _ (Ub.out)) (λja=>?_);clear hK K;try simp only[Act.put,Bb,Ka,Ma]
 refine tk 5 ja ?_;refine wpAnyH_ready (rs:=[6]) (by kernel_rfl) (by simp) ?_;refine AllReadyH.cons (o:=?oa6) ?hoa6 (λK hK=>?hsa6) AllReadyH.nil
 case hoa6=>(simp only[jb,Na,Oa];rfl)
 go_simp;refine hK.out _ _ (HS.out _ (Ub.out.alloc Ub.out.size _)) (λja=>?_);clear hK K;try simp only[Act.put,Bb,Ka,Ma]
 refine tk 7 ja ?_;refine wpAnyH_done (by kernel_rfl) ?_ _;have Lf:=aa (ma.new w6 (Lg D id tot (slice none 0 0) 0 0 ⟨#[]⟩) 246);have Pe:=aa (Ub.out.alloc Ub.out.size (.cells (Lg D id tot (slice none 0 0) 0 0 ⟨#[]⟩).toArray 246));have HOW:=aa (Nat.le_trans Ez.out.size Ub.out.size);have Yn:=aa Ub.out.size;simp only[Lg]at Lf Pe;clear ja;generalize w6.alloc (.cells (List.toArray [pointer (some ⟨D,0,none⟩),string id,int i64 tot,slice none 0 0,int i64 0,int i64 0,string ⟨#[]⟩]) 246)=W7 at Lf Pe⊢;obtain⟨O,hO⟩:=Ca (w6.heap.size);rw[hO]at Lf HOW Yn⊢;clear hO
 obtain⟨F1,HD1,Ce,Cs,TL,gm⟩:∃F1,Hid (Fb lo D {st with term:=st.term+1} W7 F1)/\Hid (za F w W7)/\Hid (∀k,F1 k->F k\/w.heap.size<=k)/\Hid (∀k,F1 k->F k\/W4.heap.size<=k)/\Hid (¬F1 O):=by
  obtain⟨F1,a,b,c⟩:=Sz.out;refine⟨F1,a.below Pe.out,((za.of_below (F:=F) Zr.out).trans b (λi hi=>.inl hi)).after Pe.out,λk hk=>?_,c,λh=>by have:=(a.lt O h).2;have:=Yn.out;omega⟩;rcases c k hk with h|h
  ·exact .inl h
  ·exact .inr (Nat.le_trans Zr.out.size h)
 have Nq:=aa (QG.out W7 O F1 HD1.out Ce.out Cs.out HOW.out gm.out Lf.out);have RL:=aa (Rv.out.on Pe.out);have uy:=aa (Ck.out.on Pe.out);have Ls:=aa (Ep.out.on Pe.out);have XM:=aa (show W4.heap.size<=w5.heap.size by obtain⟨_,_,b,_⟩:=Sz.out;exact b.size);go_wp2_with fail;refine Nq.out.mono ?_
 rintro e w8 ⟨rfl,fv,eQ,F2,hd2,hk2,hf2⟩
 have Uu:∀g,w.heap.size<=g->g<W4.heap.size->¬(g=O\/F1 g):=by
  intro g g1 g2 h;rcases h with rfl|h
  ·have:=Yn.out;have:=XM.out;omega
  ·rcases TL.out g h with h|h
   ·exact gu.out g g1 h
   ·omega
 have VU:=aa (hk2.blk RL.out (Uu _ (by omega) jo.out.1));have pW:=aa (hk2.blk uy.out (Uu _ iE.out jo.out.2.1));have Lh:=aa (hk2.blk Ls.out (Uu _ DD.out jo.out.2.2));have CV:=aa eQ;have xD:=aa hd2;have jr:=aa (And.intro hk2 hf2);have YV:=aa (XK D (st.term+1) w8.drew (by rw[<-HP.out.2.2.2.2.2.2.1];exact hd2.term));clear Uu eQ hd2 hk2 hf2;have BH:=aa (λ(V:World) (h:Below w8.heap.size w8 V)=>(have q1:=Lh.out.on h;have q2:=pW.out.on h;have q3:=VU.out.on h;have q4:=CV.out.on h;dK (Fa q1) (Ja q1) (Ha q1) (Xa q1) (Ya q1) (Ee q1) (jf q1) (Xa q2) (Fa q3) (Ja q3) (Ha q3) (Ya q4) (Ee q4) (jf q4)));go_wp2_with fail;refine wp_region_held_drew (S:=λV=>V.cell? ⟨KB,0,none⟩=some (int i64 k)/\V.cell? ⟨KB,1,none⟩=some (int i64 b)/\V.cell? ⟨KB,2,none⟩=some (int i64 x)/\V.cell? ⟨KB,3,none⟩=some (int i64 t)/\V.cell? ⟨KB,4,none⟩=some (int i64 l)/\V.cell? ⟨KB,5,none⟩=some (string root)/\V.cell? ⟨KB,6,none⟩=some (string pub)/\V.cell? ⟨Z,3,none⟩=some (int i64 tot)/\V.cell? ⟨w.heap.size+1,0,none⟩=some (string sec)/\V.cell? ⟨w.heap.size+1,1,none⟩=some (string rnd)/\V.cell? ⟨w.heap.size+1,2,none⟩=some (string pub)/\V.cell? ⟨O,4,none⟩=some (int i64 q)/\V.cell? ⟨O,5,none⟩=some (int i64 bd)/\V.cell? ⟨O,6,none⟩=some (string di)) (by kernel_rfl) (BH.out _ ((Below.refl w8.heap.size w8).drew)) (λja=>?_);refine tk 0 ja ?_;refine tk 1 ja ?_;refine tk 3 ja ?_;refine tk 4 ja ?_;refine tk 5 ja ?_;refine tk 6 ja ?_;refine tk 7 ja ?_;refine tk 8 ja ?_;refine tk 9 ja ?_;refine tk 10 ja ?_;refine tk 11 ja ?_;refine tk 12 ja ?_;refine tk 13 ja ?_;refine tk 14 ja ?_;refine tk 15 ja ?_;refine tk 16 ja ?_;refine wpAnyH_ready (rs:=[2]) (by kernel_rfl) (by simp) ?_;refine AllReadyH.cons (o:=?og2) ?hog2 (λK hK=>?hsg2) AllReadyH.nil
 case hog2=>(simp only[jb,Na,Oa];rfl)
 go_simp;go_at_call 181;refine YV.out.mono ?_
 rintro e w9 ⟨rfl,Sl⟩
 have Td:=aa (Ga (Below.refl w8.heap.size w8).drew Sl Aa);clear Sl;try go_wp2_with fail
 refine hK.out _ _ (BH.out _ (Td.out)) (λja=>?_);clear hK K;try simp only[Act.put,Bb,Ka,Ma]
 refine tk 17 ja ?_;refine wpAnyH_ready (rs:=[18]) (by kernel_rfl) (by simp) ?_;refine AllReadyH.cons (o:=?og18) ?hog18 (λK hK=>?hsg18) AllReadyH.nil
 case hog18=>(simp only[jb,Na,Oa];rfl)
 go_simp;refine hK.out _ _ (BH.out _ (Td.out.alloc Td.out.size _)) (λja=>?_);clear hK K;try simp only[Act.put,Bb,Ka,Ma]
 refine tk 19 ja ?_;refine tk 20 ja ?_;refine wpAnyH_done (by kernel_rfl) ?_ _;have rf:=aa (ma.new w9 (Zb D (st.term+1) k b x t l root pub sec rnd tot bat bd q bd di false) 188);have Pv:=aa (Td.out.alloc Td.out.size (.cells (Zb D (st.term+1) k b x t l root pub sec rnd tot bat bd q bd di false).toArray 188));have Vs:=aa Td.out.size;simp only[Zb]at rf Pv;clear ja;go_wp2;go_ret2;have z7:=Ce.out.size;have z8:=jr.out.1.size;have zs:=Vs.out;refine⟨w9.heap.size,F2,rfl,rf.out,xD.out.below Pv.out,λh=>by have:=(xD.out.lt _ h).2;omega,by omega,?_,λi hi=>?_⟩
 ·refine(Ce.out.trans jr.out.1 (λi hi=>?_)).after Pv.out;rcases hi with rfl|hi
  ·exact .inr HOW.out
  ·exact Cs.out i hi
 ·rcases jr.out.2 i hi with h|h
  ·exact Cs.out i h
  ·exact .inr (by omega)
end Go.Proofs.YtgaoeoijdpdjiabGreatDoor
