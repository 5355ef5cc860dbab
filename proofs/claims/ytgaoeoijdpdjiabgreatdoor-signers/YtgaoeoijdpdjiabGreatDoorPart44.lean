import Derived.Test.YtgaoeoijdpdjiabGreatDoorPart42
import Derived.Test.YtgaoeoijdpdjiabGreatDoorPart43
open Go.Value (int string pointer slice)
open Go.IntKind (i64)
open Go.Proofs.Tryz
set_option maxRecDepth 20000
set_option maxHeartbeats 8000000
namespace Go.Proofs.YtgaoeoijdpdjiabGreatDoor
open Go.RowKit
structure vW (lo S T:Nat)(rs:Value->List Value)(w0:World)(F0:Nat->Prop)(Za:Int->Int->Nat->Nat->ByteArray)(N:Nat)(w:World)(ra:Option Addr)(rc:Nat)(Ks:List Ig):Prop where
 b:ma w S (rs (slice ra Ks.length rc)) 302
 t:Nf lo w (slice ra Ks.length rc) Ks T Za
 n:Ks.length<=N
 k:za (λi=>i=S\/F0 i) w0 w
 f:∀i,og T (slice ra Ks.length rc) Ks i->F0 i\/w0.heap.size<=i
def Yk (lo S T:Nat)(rs:Value->List Value)(w0:World)(F0:Nat->Prop)(Za:Int->Int->Nat->Nat->ByteArray)(N:Nat)(w:World):Prop:=∃ra rc Ks,vW lo S T rs w0 F0 Za N w ra rc Ks
section
variable {lo S T N:Nat}{rs:Value->List Value}{w0 w w':World}{F0:Nat->Prop}{Za:Int->Int->Nat->Nat->ByteArray}
theorem Yk.cell (h:Yk lo S T rs w0 F0 Za N w)(i:Nat){v:Value}(hv:∀tr,(rs tr)[i]?=some v):w.cell? ⟨S,i,none⟩=some v:=by
 obtain⟨ra,rc,Ks,h⟩:=h;rw[h.b.cell i];exact hv _
theorem Yk.on (h:Yk lo S T rs w0 F0 Za N w)(hb:Below w.heap.size w w'):Yk lo S T rs w0 F0 Za N w':=by
 obtain⟨ra,rc,Ks,h⟩:=h;exact⟨ra,rc,Ks,h.b.on hb,h.t.on hb,h.n,h.k.after hb,h.f⟩
theorem Yk.set (h:Yk lo S T rs w0 F0 Za N w){A:Nat}{vs:List Value}(hA:ma w A vs 91)(hl:w0.heap.size<=A)(i:Nat)(v:Value):Yk lo S T rs w0 F0 Za N (w.setCell ⟨A,i,none⟩ v):=by
 obtain⟨ra,rc,Ks,h⟩:=h;refine⟨ra,rc,Ks,h.b.other _ (λe=>xe (show ma w A _ _ from e▸h.b) hA (by decide)),h.t.kept (Jc _ _ _) (λq e e2=>?_),h.n,h.k.setCell (p:=⟨A,i,none⟩) (.inr hl) v,h.f⟩;have e3:q=A:=e2;subst e3;rcases e with e|⟨K,hK,e|⟨u,hu,e⟩⟩
 ·obtain⟨-,-,us,hB⟩:=dh h.t.row e;exact xe hB hA (by decide)
 ·obtain⟨-,-,us,hB⟩:=dh (h.t.each K hK).row e;exact xe hB hA (by decide)
 ·obtain⟨us,hB⟩:=(h.t.each K hK).blk hu e;exact xe hB hA (by decide)
end
theorem OT {lo S T N R:Nat}{en:Int}{ov:Bool}{k b x l:Int}{sec rnd pub:ByteArray}{bat:Int}{key id:ByteArray}{nx bd q:Int}{w0 w:World}{F0:Nat->Prop}{Za:Int->Int->Nat->Nat->ByteArray}(h:Yk lo S T (λtr=>Oc R en ov k b x (T:Int) l sec rnd pub bat key id nx bd q tr) w0 F0 Za N w)(hN:N<=1000000)(hlo:lo<=w.heap.size)(ly n:Int)
  (hG:∀V:World,Calls prog 214 #[.agg #[int i64 k,int i64 b,int i64 x,int i64 (T:Int),int i64 l],.agg #[string sec,string rnd,string pub],.agg #[int i64 ly,int i64 n,int i64 0,int i64 0]] V λe w'=>∃ra rc vs,e=.returned (.agg #[int i64 ly,int i64 n,int i64 0,int i64 0,slice ra (T+1) rc])/\Zc V.heap.size w' (slice ra (T+1) rc) vs (T+1) T (Za ly n)/\Below V.heap.size V w'):Calls prog 277 #[pointer (some ⟨S,0,none⟩),int i64 ly,int i64 n] w λe w'=>∃ga gc vs,e=.returned (.agg #[int i64 ly,int i64 n,int i64 0,int i64 0,slice ga (T+1) gc])/\Zc lo w' (slice ga (T+1) gc) vs (T+1) T (Za ly n)/\Yk lo S T (λtr=>Oc R en ov k b x (T:Int) l sec rnd pub bat key id nx bd q tr) w0 F0 Za (N+1) w'/\w.heap.size<=w'.heap.size/\∀g us Ty,ma w g us Ty->Ty≠302->Ty≠285->ma w' g us Ty:=by
 obtain⟨ra,rc,Ks,h⟩:=h;refine(NT lo S R en ov k b x l T sec rnd pub bat key id nx bd q ra rc Ks Za ly n w h.b h.t (Nat.le_trans h.n hN) hlo hG).mono ?_
 rintro e w' ⟨K,Bt,Rt,rc',rfl,rfl,rfl,hm,hl,hb,ht,hk,hf⟩
 refine⟨K.ra,K.rc,K.vs,rfl,ht.each K hm,⟨Rt,rc',Bt,hb,ht,Nat.le_trans hl (Nat.succ_le_succ h.n),h.k.trans hk (λi e=>?_),λi e=>?_⟩,hk.size,λg us Ty hB h1 h2=>?_⟩
 ·rcases e with e|e
  ·exact .inl (.inl e)
  ·exact(h.f i (.inl e)).imp .inr (λh=>h)
 ·rcases hf i e with e|e
  ·exact h.f i e
  ·exact .inr (Nat.le_trans h.k.size e)
 ·refine Cu hB hk (λe=>?_);rcases e with e|e
  ·subst e;exact xe hB h.b h1
  ·obtain⟨-,-,zG,hB2⟩:=dh h.t.row e;exact xe hB hB2 h2
theorem Zf.of {lo R n:Nat}{st:Da}{lv:Value}{w V w':World}(hb:Below w.heap.size w V)(h:Zf lo R st lv n V w'):Zf lo R st lv n w w':=by
 obtain⟨a,b,c,d,e,f⟩:=h;exact⟨a,b,c,d,(za.of_below hb).trans e (λq e=>.inl e),λq e=>(f q e).imp id (λh=>Nat.le_trans hb.size h)⟩
theorem RD.nS {lo R S:Nat}{st:Da}{lv:Value}{L:List Gb}{w:World}{vs:List Value}(h:RD lo R st lv L w)(hS:ma w S vs 302):¬Wh R lv S:=by
 rintro(rfl|e)
 ·exact xe h.b hS (by decide)
 ·exact Km h.r hS (by decide) e
def ql (st:Da)(sq:Nat)(t:ByteArray):Int:=if Kc st ((sq% 2:Nat):Int) t≠0 then Kc st ((sq% 2:Nat):Int) t else Qc (Jb st ((sq% 2:Nat):Int) t)
def Ff (st:Da)(sq:Nat)(t:ByteArray):Da:=if Kc st ((sq% 2:Nat):Int) t≠0 then Jb st ((sq% 2:Nat):Int) t else Cb (Jb st ((sq% 2:Nat):Int) t)
theorem iD (st:Da)(i:Int)(t:ByteArray):(Jb st i t).syncs=st.syncs:=by
 unfold Jb;split
 ·rfl
 ·split
  ·rfl
  ·split<;>rfl
theorem JS {lo R S:Nat}{st:Da}{lv:Value}{L:List Gb}{en:Int}{ov:Bool}{k b x t l:Int}{sec rnd pub:ByteArray}{bat:Int}{key id:ByteArray}{nx bd q:Int}{tr:Value}{w:World}(sq:Nat)(bb:Int)(hS:ma w S (Oc R en ov k b x t l sec rnd pub bat key id nx bd q tr) 302)(h:RD lo R st lv L w)(ok:qf st)(hL:L.length<2199023255552)(hlo:lo<=w.heap.size)(hs0:0<=st.syncs)(hs1:st.syncs<9223372036854775807)(hR:Oh sq bb id):Calls prog 226 #[pointer (some ⟨S,0,none⟩),int i64 (sq:Int),int i64 bb] w λe w'=>e=.returned (int i64 (ql st sq (Ua sq bb id)))/\Zf lo R (Ff st sq (Ua sq bb id)) lv (L.length+1) w w':=by
 have hz:=YS sq bb id hR.2.2.2.2;refine(bd0 sq bb (Ua sq bb id) (Kc st ((sq% 2:Nat):Int) (Ua sq bb id)) (Qc (Jb st ((sq% 2:Nat):Int) (Ua sq bb id))) (Zf lo R (Jb st ((sq% 2:Nat):Int) (Ua sq bb id)) lv (L.length+1) w) (Zf lo R (Cb (Jb st ((sq% 2:Nat):Int) (Ua sq bb id))) lv (L.length+1) w) hS ((wb0 sq bb id w hR).mono λe w' hh=>⟨0,hh.1,hh.2⟩) (λV hb=>?_) (λ_ V hQ=>?_)).mono ?_
 ·refine(aS (h.below hb) ok _ _ (by rw[hz];decide) (Nat.le_of_lt hL) (Nat.le_trans hlo hb.size)).mono ?_
  rintro e w' ⟨rfl,hl⟩
  refine⟨rfl,hl.of hb,?_⟩;obtain⟨_,_,_,_,hk,_⟩:=hl;exact(hk.cell (p:=⟨S,0,none⟩) (hS.on hb).lt ((h.below hb).nS (hS.on hb))).trans ((hS.on hb).cell 0)
 ·obtain⟨E8,L1,a,b,c,d⟩:=hQ;refine(yK a (ok.wr _ _) (by omega) (by rw[iD];exact hs0) (by rw[iD];exact hs1)).mono ?_
  rintro e w' ⟨rfl,L2,a2,b2,c2⟩
  refine⟨rfl,E8,L2,a2,Nat.le_trans b2 b,c.trans c2 (λq e=>?_),d⟩;rcases e with e|e
  ·exact .inl (.inl e)
  ·exact(d q e).imp .inr (λh=>h)
 ·rintro e w' ⟨h1,h2⟩
  unfold ql Ff;by_cases hc:Kc st ((sq% 2:Nat):Int) (Ua sq bb id)=0
  ·rw[if_neg (λe=>e hc),if_neg (λe=>e hc)];exact h2 hc
  ·rw[if_pos hc,if_pos hc];exact h1 hc
abbrev yu:Type:=Int×Int×ByteArray
def ji (id:ByteArray)(tot:Int)(r:yu):yu:=if r.2.2=id/\r.2.1<=tot then r else(0,0,⟨#[]⟩)
abbrev jC (a b:yu):Prop:=a.1<b.1\/b.1=a.1/\a.2.1<b.2.1
def Ry (id:ByteArray)(tot:Int)(x y:yu):yu:=if jC (ji id tot x) (ji id tot y)then ji id tot y else ji id tot x
def Aq (st:Da)(id:ByteArray):Int:=if Sg st≠0 then Sg st else if 0<(mf (Ec (Cb st) 0).1).1\/0<(mf (Ec (Sb (Cb st) 0) 1).1).1 then 7 else ql (Ae st) 1 (Ua 1 0 id)
def Qr (st:Da)(id:ByteArray):Da:=if Sg st≠0 then Ae st else if 0<(mf (Ec (Cb st) 0).1).1\/0<(mf (Ec (Sb (Cb st) 0) 1).1).1 then Ae st else Ff (Ae st) 1 (Ua 1 0 id)
def Vl (st:Da)(id:ByteArray)(tot:Int):yu:=Ry id tot (mf (Ec (Cb st) 0).1) (mf (Ec (Sb (Cb st) 0) 1).1)
def Bq (st:Da)(id:ByteArray)(tot:Int):Int:=if Sg st≠0 then Sg st else if(Vl st id tot).1=0 then 8 else 0
section
variable {lo R n S:Nat}{st:Da}{lv:Value}{L:List Gb}{w W w':World}{vs:List Value}
theorem Zf.from (h:Zf lo R st lv n W w')(hk:za (Wh R lv) w W):Zf lo R st lv n w w':=by
 obtain⟨a,b,c,d,e,f⟩:=h;exact⟨a,b,c,d,hk.trans e (λ_ e=>.inl e),λq e=>(f q e).imp id (λh=>Nat.le_trans hk.size h)⟩
theorem Zf.setS (h:Zf lo R st lv n w w')(hS:ma w' S vs 302)(hl:w.heap.size<=S)(i:Nat)(v:Value):Zf lo R st lv n w (w'.setCell ⟨S,i,none⟩ v):=by
 obtain⟨a,b,c,d,e,f⟩:=h;exact⟨a,b,c.kept (Jc _ _ _) (λq e e2=>c.nS hS (by rw[<-(show q=S from e2)];exact e)),d,e.setCell (p:=⟨S,i,none⟩) (.inr hl) _,f⟩
theorem R7 (ok:qf st):qf (Ae st):=by
 unfold Ae;split
 ·exact ok.sy
 ·split
  ·exact ok.sy.rd _
  ·exact(ok.sy.rd _).rd _
theorem FC (st:Da)(i:Int):(Sb st i).syncs=st.syncs:=by unfold Sb;split<;>rfl
theorem WK (st:Da):st.syncs<=(Cb st).syncs/\(Cb st).syncs<=st.syncs+1:=by unfold Cb;split<;>(dsimp only;omega)
theorem sF (st:Da):st.syncs<=(Ae st).syncs/\(Ae st).syncs<=st.syncs+1:=by
 have:=WK st;unfold Ae;split
 ·exact this
 ·split
  ·rw[FC];exact this
  ·rw[FC,FC];exact this
theorem CU (st:Da)(i:Int)(t:ByteArray):(Jb st i t).n=st.n:=by
 unfold Jb;split
 ·rfl
 ·split
  ·rfl
  ·split<;>rfl
theorem sG (st:Da):(Cb st).n=st.n:=by unfold Cb;split<;>rfl
theorem xK (st:Da)(i:Int):(Sb st i).n=st.n:=by unfold Sb;split<;>rfl
theorem rF (st:Da):(Ae st).n=st.n:=by
 unfold Ae;split
 ·exact sG _
 ·split
  ·rw[xK,sG]
  ·rw[xK,xK,sG]
theorem YJ (st:Da)(sq:Nat)(t:ByteArray):(Ff st sq t).n=st.n:=by
 unfold Ff;split
 ·exact CU _ _ _
 ·rw[sG,CU]
theorem ZJ (st:Da)(sq:Nat)(t:ByteArray):st.syncs<=(Ff st sq t).syncs/\(Ff st sq t).syncs<=st.syncs+1:=by
 have h1:=iD st ((sq% 2:Nat):Int) t;have h2:=WK (Jb st ((sq% 2:Nat):Int) t);unfold Ff;split
 ·omega
 ·omega
end
def zm (lo S R:Nat)(st:Da)(lv:Value)(n:Nat)(w w':World):Prop:=∃nC L',RD lo R st nC L' w'/\L'.length<=n/\za (λi=>i=S\/Wh R lv i) w w'/\∀q,nC.ownBlock=some q->lv.ownBlock=some q\/w.heap.size<=q
section
variable {lo R n S:Nat}{st:Da}{lv:Value}{w W w':World}{vs:List Value}
theorem Zf.rsl (h:Zf lo R st lv n w w')(S:Nat):zm lo S R st lv n w w':=by
 obtain⟨a,b,c,d,e,f⟩:=h;exact⟨a,b,c,d,e.mono (λ_ _ e=>.inr e),f⟩
theorem zm.setS (h:zm lo S R st lv n w w')(hS:ma w' S vs 302)(i:Nat)(v:Value):zm lo S R st lv n w (w'.setCell ⟨S,i,none⟩ v):=by
 obtain⟨a,b,c,d,e,f⟩:=h;exact⟨a,b,c.kept (Jc _ _ _) (λq e e2=>c.nS hS (by rw[<-(show q=S from e2)];exact e)),d,e.setCell (p:=⟨S,i,none⟩) (.inl (.inl rfl)) _,f⟩
theorem zm.of (hb:Below w.heap.size w W)(h:zm lo S R st lv n W w'):zm lo S R st lv n w w':=by
 obtain⟨a,b,c,d,e,f⟩:=h;exact⟨a,b,c,d,(za.of_below hb).trans e (λ_ e=>.inl e),λq e=>(f q e).imp id (λh=>Nat.le_trans hb.size h)⟩
theorem Zf.kp (h:Zf lo R st lv n w w'):za (Wh R lv) w w':=by
 obtain⟨_,_,_,_,k,_⟩:=h;exact k
end
theorem md0 {S R:Nat}{en:Int}{ov:Bool}{k b x t l:Int}{sec rnd pub:ByteArray}{bat:Int}{key id:ByteArray}{nx bd:Int}{tr:Value}{w:World}{lo:Nat}{st:Da}{lv:Value}{L:List Gb}(qn:Nat)(m nb:Int)(m0 m1 m2 tot m4 m5:Int)(hZ:∀V:World,Calls prog 83 #[.agg #[int i64 k,int i64 b,int i64 x,int i64 t,int i64 l]] V λe w'=>e=.returned (.agg #[int i64 m0,int i64 m1,int i64 m2,int i64 tot,int i64 m4,int i64 m5])/\Below V.heap.size V w')(hS:ma w S (Oc R en ov k b x t l sec rnd pub bat key id nx bd (qn:Int) tr) 302)(h:RD lo R st lv L w)(ok:qf st)(hL:L.length<2199023255552)(hlo:lo<=w.heap.size)(hs0:0<=st.syncs)(hs1:st.syncs<9223372036854775807)(hR:Oh ((qn+1:Nat):Int) nb id)(hm:0<=bd+m/\bd+m<=100000)(hnb:nb=if tot<bd+m then tot else bd+m):Calls prog 229 #[pointer (some ⟨S,0,none⟩),int i64 m] w λe w'=>e=.returned (int i64 (ql st (qn+1) (Ua ((qn+1:Nat):Int) nb id)))/\zm lo S R (Ff st (qn+1) (Ua ((qn+1:Nat):Int) nb id)) lv (L.length+1) w w'/\(ql st (qn+1) (Ua ((qn+1:Nat):Int) nb id)=0->ma w' S (Oc R en ov k b x t l sec rnd pub bat key id nx nb ((qn+1:Nat):Int) tr) 302)/\(ql st (qn+1) (Ua ((qn+1:Nat):Int) nb id)≠0->ma w' S (Oc R en true k b x t l sec rnd pub bat key id nx bd (qn:Int) tr) 302):=by
 have Gp:=aa (λ(V:World) (hb:Below w.heap.size w V)=>JS (qn+1) nb (hS.on hb) (h.below hb) ok hL (Nat.le_trans hlo hb.size) hs0 hs1 hR);have Sq:=aa (λ(V:World) (hb:Below w.heap.size w V)=>(h.below hb).nS (hS.on hb));have iQ:=hR.2.1;have w1:IntKind.i64.wrap ((qn:Int)+1)=((qn+1:Nat):Int):=by rw[IntKind.wrap_i64]<;>omega
 have w2:wrap64 ((qn:Int)+1)=((qn+1:Nat):Int):=by rw[Yo]<;>omega
 have w3:IntKind.i64.wrap (bd+m)=bd+m:=by rw[IntKind.wrap_i64]<;>omega
 have w4:wrap64 (bd+m)=bd+m:=by rw[Yo]<;>omega
 have Yv:=aa hnb;obtain⟨z,hz⟩:=Ca (Ua ((qn+1:Nat):Int) nb id);rw[hz]at Gp⊢;obtain⟨c,hc⟩:=Ca (ql st (qn+1) z);rw[hc]at Gp⊢;clear hz hc h ok hL hlo hs0 hs1 hR hm hnb iQ;have c3:=Xa hS;have c4:=Ya hS;have c5:=Ee hS;have c6:=jf hS;have c7:=Ch hS;have HS:=aa hS;have HZ:=aa hZ;clear hS hZ;go_enter func229,ntmps229;go_wp2_with fail;refine(HZ.out _).mono ?_
 rintro e w1 ⟨rfl,hb1⟩
 obtain⟨Z,Pd⟩:=Ca (w1.heap.size);obtain⟨W1,hW1⟩:=Ca (w1.alloc (.cells #[int i64 m0,int i64 m1,int i64 m2,int i64 tot,int i64 m4,int i64 m5] 158));have HB1:=aa (show Below w.heap.size w W1 by rw[<-hW1];exact hb1.alloc hb1.size _);have Ze:=aa (show ma W1 Z (#[int i64 m0,int i64 m1,int i64 m2,int i64 tot,int i64 m4,int i64 m5]).toList 158 by rw[<-hW1,<-Pd];exact ma.new w1 _ _);have ic:=aa (HS.out.on HB1.out);have y3:=Xa Ze.out;have HZN:=aa (show Z≠S by have:=HS.out.lt;have:=hb1.size;omega);clear c3 c4 c5 c6 c7 hb1;go_upto_region 2 with fail
 (try rw[hW1])
 (try rw[Pd])
 clear hW1 Pd;have c15:=pg ic.out;have c16:=ag ic.out;by_cases ht:tot<bd+m
 ·have d1:decide (tot<bd+m)=true:=decide_eq_true ht;obtain rfl:nb=tot:=by have h:=Yv.out;rw[if_pos ht]at h;exact h
  clear ht;go_wp2_with fail;refine(Gp.out _ HB1.out).mono ?_
  rintro e w5 ⟨rfl,hl5⟩
  have Uk:=aa (hl5.of HB1.out);have qc:=aa (Mc ic.out hl5.kp (Sq.out _ HB1.out));have s2:=Ha qc.out;have s15:=pg qc.out;have s16:=ag qc.out;have f2:=qc.out.free 2;have f15:=qc.out.free 15;have f16:=qc.out.free 16;clear hl5;by_cases hc:c=0
  ·subst hc;go_wp2_with fail;go_ret;exact⟨rfl,((Uk.out.rsl S).setS qc.out 16 _).setS (qc.out.set 16 _) 15 _,(qc.out.set 16 _).set 15 _⟩
  ·have e1:(c==0)=false:=by simpa using hc
   have e2:(c !=0)=true:=by simpa using hc
   have HC:=aa hc;clear hc;go_wp2_with fail;go_ret;exact⟨rfl,(Uk.out.rsl S).setS qc.out 2 _,λe=>absurd e HC.out,λ_=>qc.out.set 2 _⟩
 ·have d1:decide (tot<bd+m)=false:=decide_eq_false ht;obtain rfl:nb=bd+m:=by have h:=Yv.out;rw[if_neg ht]at h;exact h
  clear ht;go_wp2_with fail;refine(Gp.out _ HB1.out).mono ?_
  rintro e w5 ⟨rfl,hl5⟩
  have Uk:=aa (hl5.of HB1.out);have qc:=aa (Mc ic.out hl5.kp (Sq.out _ HB1.out));have s2:=Ha qc.out;have s15:=pg qc.out;have s16:=ag qc.out;have f2:=qc.out.free 2;have f15:=qc.out.free 15;have f16:=qc.out.free 16;clear hl5;by_cases hc:c=0
  ·subst hc;go_wp2_with fail;go_ret;exact⟨rfl,((Uk.out.rsl S).setS qc.out 16 _).setS (qc.out.set 16 _) 15 _,(qc.out.set 16 _).set 15 _⟩
  ·have e1:(c==0)=false:=by simpa using hc
   have e2:(c !=0)=true:=by simpa using hc
   have HC:=aa hc;clear hc;go_wp2_with fail;go_ret;exact⟨rfl,(Uk.out.rsl S).setS qc.out 2 _,λe=>absurd e HC.out,λ_=>qc.out.set 2 _⟩
theorem vd0 {S D:Nat}{en:Int}{ov:Bool}{k b x t l:Int}{sec rnd pub:ByteArray}{bat:Int}{key id:ByteArray}{nx bd q:Int}{tr:Value}{w:World}{Md:Int}(hS:ma w S (Oc D en ov k b x t l sec rnd pub bat key id nx bd q tr) 302)(h4:w.cell? ⟨D,4,none⟩=some (int i64 Md))(hD:D<w.heap.size):Calls prog 152 #[pointer (some ⟨S,0,none⟩)] w λe w'=>e=.returned (.agg #[int i64 nx,int i64 bd,int i64 q,.bool (Gh ov en Md)])/\Below w.heap.size w w':=by
 obtain⟨W0,e1⟩:∃X,w.alloc (.cells #[int i64 0,int i64 0,int i64 0,.bool false] 79)=X:=⟨_,rfl⟩;have HB0:=Xd e1;have Tc:=Ph e1;have qb:=aa (Dq (hS.on HB0.out) ((HB0.out.cell (p:=⟨D,4,none⟩) hD).trans h4));have rf:=aa (λ(V:World) (hb:Below w.heap.size w V)=>hS.on hb);have Ea:=aa e1;generalize Gh ov en Md=o at qb⊢;clear e1 hS h4 hD;go_enter func152,ntmps152;go_upto_region 1 with fail;rw[Ea.out];clear Ea;go_wp2_with fail;refine qb.out.mono ?_
 rintro e w1 ⟨rfl,hb⟩
 have HB1:=aa (HB0.out.trans (hb.mono HB0.out.size));have HR1:=aa (Tc.out.on hb);have ic:=aa (rf.out _ HB1.out);clear hb;have HC:=aa (λ(V:World) (h:ma V S (Oc D en ov k b x t l sec rnd pub bat key id nx bd q tr) 302)=>(Uw (Aj h) (pg h) (ag h)));go_upto_region 2 with fail;refine wp_region_held_drew (S:=λV=>V.cell? ⟨S,14,none⟩=some (int i64 nx)/\V.cell? ⟨S,15,none⟩=some (int i64 bd)/\V.cell? ⟨S,16,none⟩=some (int i64 q)) (by kernel_rfl) (HC.out _ (ic.out.on (Below.refl w1.heap.size w1).drew)) (λja=>?_);have HD0:=aa ((Below.refl w1.heap.size w1).drew);generalize World.drew w1=V2 at HD0 ja⊢;refine tk 0 ja ?_;refine tk 1 ja ?_;refine tk 2 ja ?_;refine tk 3 ja ?_;refine tk 4 ja ?_;refine tk 5 ja ?_;refine tk 6 ja ?_;refine tk 7 ja ?_;refine tk 8 ja ?_;refine tk 9 ja ?_;refine tk 10 ja ?_;refine tk 11 ja ?_;refine tk 12 ja ?_;refine tk 13 ja ?_;have HR2:=aa (HR1.out.on HD0.out);have r0:=Fa HR2.out;have r1:=Ja HR2.out;have r2:=Ha HR2.out;have r3:=Xa HR2.out;have f0:=HR2.out.free 0;have f1:=HR2.out.free 1;have f2:=HR2.out.free 2;have f3:=HR2.out.free 3;have Qe:=aa (((((HB1.out.trans (HD0.out.mono HB1.out.size)).setCell (p:=⟨w.heap.size,0,none⟩) Aa (int i64 nx)).setCell (p:=⟨w.heap.size,1,none⟩) Aa (int i64 bd)).setCell (p:=⟨w.heap.size,2,none⟩) Aa (int i64 q)).setCell (p:=⟨w.heap.size,3,none⟩) Aa (.bool o));refine wpAnyH_ready (rs:=[14]) (by kernel_rfl) (by simp) ?_;refine(AllReadyH.cons (o:=?o1) ?h1 (λK hK=>?s1) AllReadyH.nil)
 case h1=>(simp only[jb,Na,Oa];rfl)
 case s1=>
  go_simp;refine hK.out _ _ (HC.out _ (rf.out _ Qe.out)) (λja=>?_);clear hK K;try simp only[Act.put,Bb,Ka,Ma]
  refine wpAnyH_done (by kernel_rfl) ?_ _;clear ja;go_wp2_with fail;refine bodyPost_ret (v:=.agg #[int i64 nx,int i64 bd,int i64 q,.bool o]) (by simp[results,results152,go_sem,r0,r1,r2,r3]) rfl ⟨rfl,Qe.out⟩
theorem ES (lo R:Nat)(en k b x l:Int)(T:Nat)(sec rnd pub:ByteArray)(bat:Int)(Za:Int->Int->Nat->Nat->ByteArray)(w:World)(hR:R<w.heap.size)(h4:w.cell? ⟨R,4,none⟩=some (int i64 en))(hlo:lo<=w.heap.size)(hk:k=1\/k=2)(hb:0<=b/\b<=100)(hx:0<=x/\x<=100)(hT:T<=4)(hl:1<=l/\l<=100)(z1:(Za (l-1) 0 T 0).size<=16)(z2:pub.size<=16)
  (hG:∀V:World,Calls prog 214 #[.agg #[int i64 k,int i64 b,int i64 x,int i64 (T:Int),int i64 l],.agg #[string sec,string rnd,string pub],.agg #[int i64 (l-1),int i64 0,int i64 0,int i64 0]] V λe w'=>∃ra rc vs,e=.returned (.agg #[int i64 (l-1),int i64 0,int i64 0,int i64 0,slice ra (T+1) rc])/\Zc V.heap.size w' (slice ra (T+1) rc) vs (T+1) T (Za (l-1) 0)/\Below V.heap.size V w'):Calls prog 224 #[pointer (some ⟨R,0,none⟩),.agg #[int i64 k,int i64 b,int i64 x,int i64 (T:Int),int i64 l],.agg #[string sec,string rnd,string pub],int i64 bat] w λe w'=>∃S Ks ra rc,e=.returned (pointer (some ⟨S,0,none⟩))/\ma w' S (Oc R en false k b x (T:Int) l sec rnd pub bat (Yd k b x (T:Int) l++Za (l-1) 0 T 0++pub) (hv k 8 (qa 1 7++(Yd k b x (T:Int) l++Za (l-1) 0 T 0++pub))) 0 0 0 (slice ra Ks.length rc)) 302/\Nf lo w' (slice ra Ks.length rc) Ks T Za/\Ks.length<=1/\w.heap.size<=S/\(∀q,og T (slice ra Ks.length rc) Ks q->w.heap.size<=q)/\Below w.heap.size w w':=by
 obtain⟨B,hB⟩:=Ca (w.heap.size);obtain⟨W0,hW⟩:=Ca ((w.alloc (.cells #[int i64 k,int i64 b,int i64 x,int i64 (T:Int),int i64 l] 26)).alloc (.cells #[string sec,string rnd,string pub] 42))
 have Qb:=aa (show ma W0 B [int i64 k,int i64 b,int i64 x,int i64 (T:Int),int i64 l] 26/\ma W0 (B+1) [string sec,string rnd,string pub] 42 by
  subst hW hB;refine⟨(ma.new w _ _).alloc _,?_⟩;have h:=ma.new (w.alloc (.cells #[int i64 k,int i64 b,int i64 x,int i64 (T:Int),int i64 l] 26)) [string sec,string rnd,string pub] 42;simp only[World.size_alloc]at h;exact h)
 have HB0:=aa (show Below B w W0 by subst hW hB;exact(Va _).alloc (by simp) _);have HW:=aa (λ(V:World) (h1:ma V B [int i64 k,int i64 b,int i64 x,int i64 (T:Int),int i64 l] 26) (h2:ma V (B+1) [string sec,string rnd,string pub] 42)=>(Vw (⟨h1.cell 0,h1.cell 1,h1.cell 2,h1.cell 3,h1.cell 4⟩:(V.cell? ⟨B,0,none⟩=some (int i64 k)/\V.cell? ⟨B,1,none⟩=some (int i64 b)/\V.cell? ⟨B,2,none⟩=some (int i64 x)/\V.cell? ⟨B,3,none⟩=some (int i64 (T:Int))/\V.cell? ⟨B,4,none⟩=some (int i64 l))) (Fa h2) (Ja h2) (Ha h2)));have r4:W0.cell? ⟨R,4,none⟩=some (int i64 en):=(HB0.out.cell (p:=⟨R,4,none⟩) (by rw[<-hB];exact hR)).trans h4;have HR4:=aa r4;have Sm:=aa (show R<B by omega);have yh:=aa (show lo<=B by omega);have HT:=aa hT;have HG:=aa hG;have HN:=aa (λ(v:Int) (V:World) (hv:Hid (0<=v/\v<=100))=>Ti 1 v V (by decide) hv.out.1 (by have:=hv.out;omega));have HD:=aa (λ(s:ByteArray) (V:World) (hs:s.size<=400)=>jS k 8 s V hk (by decide) (by decide) hs);have N0:Hid (0<=k/\k<=100):=by show _/\_;omega
 have N1:Hid (0<=b/\b<=100):=hb;have N2:Hid (0<=x/\x<=100):=hx;have N3:Hid (0<=(T:Int)/\(T:Int)<=100):=by show _/\_;omega
 have N4:Hid (0<=l/\l<=100):=by show _/\_;omega
 have N5:Hid ((0:Int)<=7/\(7:Int)<=100):=by show _/\_;omega
 have wl:IntKind.i64.wrap (l-1)=l-1:=by rw[IntKind.wrap_i64]<;>omega
 have vU:wrap64 (l-1)=l-1:=by rw[Yo]<;>omega
 have Wj:=Sd (qa 1 k) (qa 1 b) (by rw[Sa];omega) (by rw[Sa];omega);have Cj:=Sd (qa 1 k++qa 1 b) (qa 1 x) (by simp only[ByteArray.size_append,Sa];omega) (by rw[Sa];omega);have il:=Sd (qa 1 k++qa 1 b++qa 1 x) (qa 1 (T:Int)) (by simp only[ByteArray.size_append,Sa];omega) (by rw[Sa];omega);have Yh:=Sd (qa 1 k++qa 1 b++qa 1 x++qa 1 (T:Int)) (qa 1 l) (by simp only[ByteArray.size_append,Sa];omega) (by rw[Sa];omega);have tJ:=NB k b x (T:Int) l;rw[show qa 1 k++qa 1 b++qa 1 x++qa 1 (T:Int)++qa 1 l=Yd k b x (T:Int) l from rfl]at Yh;generalize hrt:Za (l-1) 0 T 0=root at*;have Nl:=Sd (Yd k b x (T:Int) l) root (by omega) (by omega);have Fu:=Sd (Yd k b x (T:Int) l++root) pub (by rw[ByteArray.size_append];omega) (by omega);have hks:(Yd k b x (T:Int) l++root++pub).size<=100:=by rw[ByteArray.size_append,ByteArray.size_append];omega
 have cc7:=Sd (qa 1 7) (Yd k b x (T:Int) l++root++pub) (by rw[Sa];omega) (by omega);have RU:=aa (HD.out (qa 1 7++(Yd k b x (T:Int) l++root++pub)) · (by rw[ByteArray.size_append,Sa];omega));clear HD;generalize Yd k b x (T:Int) l++root++pub=t6 at*;generalize Yd k b x (T:Int) l++root=t5 at*;generalize Yd k b x (T:Int) l=t4 at*;clear tJ hks z1 z2;generalize qa 1 k++qa 1 b++qa 1 x++qa 1 (T:Int)=t3 at*;generalize qa 1 k++qa 1 b++qa 1 x=t2 at*;generalize qa 1 k++qa 1 b=t1 at*;generalize hv k 8 (qa 1 7++t6)=LJ at*;generalize qa 1 7++t6=t7 at*;have GD:=aa (λ(V:World)=>HN.out 7 V N5);have Ea:=aa hW;have Tm:=aa hrt;have Rc:=aa hB;clear hR h4 hlo hk hb hx hT hl hG hW hrt hB;go_enter func224,ntmps224;go_upto_region 1 with fail;rw[Ea.out,Rc.out];clear Ea;refine wp_region_held_drew (S:=λV=>(V.cell? ⟨B,0,none⟩=some (int i64 k)/\V.cell? ⟨B,1,none⟩=some (int i64 b)/\V.cell? ⟨B,2,none⟩=some (int i64 x)/\V.cell? ⟨B,3,none⟩=some (int i64 (T:Int))/\V.cell? ⟨B,4,none⟩=some (int i64 l))/\(V.cell? ⟨B+1,0,none⟩=some (string sec)/\V.cell? ⟨B+1,1,none⟩=some (string rnd)/\V.cell? ⟨B+1,2,none⟩=some (string pub))/\V.cell? ⟨R,4,none⟩=some (int i64 en)) (by kernel_rfl) ⟨(HW.out _ (Qb.out.1.on (Below.refl W0.heap.size W0).drew) (Qb.out.2.on (Below.refl W0.heap.size W0).drew)).1,(HW.out _ (Qb.out.1.on (Below.refl W0.heap.size W0).drew) (Qb.out.2.on (Below.refl W0.heap.size W0).drew)).2,HR4.out⟩ (λja=>?_);have HD0:=aa ((Below.refl W0.heap.size W0).drew);generalize World.drew W0=V2 at HD0 ja⊢;refine tk 0 ja ?_;refine tk 1 ja ?_;refine tk 2 ja ?_;refine tk 3 ja ?_;refine tk 4 ja ?_;refine tk 5 ja ?_;refine tk 6 ja ?_;refine tk 7 ja ?_;refine tk 8 ja ?_;refine wpAnyH_ready (rs:=[9]) (by kernel_rfl) (by simp) ?_;refine(AllReadyH.cons (o:=?o1) ?h1 (λK0 hK=>?s1) AllReadyH.nil)
 case h1=>(simp only[jb,Na,Oa];rfl)
 go_simp;obtain⟨S,hS⟩:=Ca (V2.heap.size);obtain⟨U,hU⟩:=Ca (V2.alloc (.cells #[pointer (some ⟨R,0,none⟩),int i64 en,.bool false,int i64 k,int i64 b,int i64 x,int i64 (T:Int),int i64 l,string sec,string rnd,string pub,int i64 bat,string ⟨#[]⟩,string ⟨#[]⟩,int i64 0,int i64 0,int i64 0,slice none 0 0] 302));have Ze:=aa (show Below W0.heap.size W0 U by rw[<-hU];exact HD0.out.alloc HD0.out.size _);have ic:=aa (show ma U S (Oc R en false k b x (T:Int) l sec rnd pub bat ⟨#[]⟩ ⟨#[]⟩ 0 0 0 (slice none 0 0)) 302 by rw[<-hU,<-hS];exact ma.new V2 _ _);have Vd:=aa (show W0.heap.size<=S by have:=HD0.out.size;omega);rw[hU,hS];clear hU hS;refine hK.out _ _ ⟨(HW.out _ (Qb.out.1.on Ze.out) (Qb.out.2.on Ze.out)).1,(HW.out _ (Qb.out.1.on Ze.out) (Qb.out.2.on Ze.out)).2,(Ze.out.cell (p:=⟨R,4,none⟩) (Nat.lt_of_lt_of_le Sm.out (by rw[<-Rc.out];exact HB0.out.size))).trans HR4.out⟩ (λja=>?_);clear hK K0;try simp only[Act.put,Bb,Ka,Ma]
 refine tk 10 ja ?_;refine wpAnyH_done (by kernel_rfl) ?_ _;clear ja r4 HR4;have HB1:=aa (HB0.out.trans (Ze.out.mono (by rw[<-Rc.out];exact HB0.out.size)));have Nc:=aa (show ma U B [int i64 k,int i64 b,int i64 x,int i64 (T:Int),int i64 l] 26/\ma U (B+1) [string sec,string rnd,string pub] 42 from⟨Qb.out.1.on Ze.out,Qb.out.2.on Ze.out⟩);have sj:=aa (NT lo S R en false k b x l T sec rnd pub bat ⟨#[]⟩ ⟨#[]⟩ 0 0 0 none 0 [] Za (l-1) 0 U ic.out ⟨World.ownsRow_nil _ _ _ _,λK h=>by simp at h⟩ (Nat.zero_le _) (Nat.le_trans yh.out (Nat.le_trans (by rw[<-Rc.out];exact HB0.out.size) Ze.out.size)) HG.out);have b4:=Ya Nc.out.1;clear Ze HG;go_wp2_with fail;refine sj.out.mono ?_
 rintro e w2 ⟨K,Ks,ra,rc,rfl,PE,hKn,Ny,hKs,hS2,Em,hk2,hf2⟩
 clear b4 sj;unfold Ig.v;obtain⟨G,Jw⟩:=Ca (w2.heap.size);obtain⟨W2,hW2⟩:=Ca (w2.alloc (.cells #[int i64 K.l,int i64 K.n,int i64 0,int i64 0,slice K.ra (T+1) K.rc] 285));have Xr:=aa (show B<S/\B+1<S by have h1:=Qb.out.1.lt;have h2:=Qb.out.2.lt;have h3:=Vd.out;omega)
 have HB2:=aa (show Below B w W2 by
  rw[<-hW2];refine(HB1.out.trans (hk2.below (λi e=>?_) ?_)).alloc ?_ _
  ·rcases e with rfl|e
   ·have:=Xr.out;omega
   ·simp[Value.ownBlock]at e
  ·have h1:=Nc.out.1.lt;omega
  ·have h1:=Nc.out.1.lt;have h2:=hk2.size;omega)
 have Sc:=Xd hW2;have Ag:=aa (show ma W2 B [int i64 k,int i64 b,int i64 x,int i64 (T:Int),int i64 l] 26/\ma W2 (B+1) [string sec,string rnd,string pub] 42 from⟨(Cu Nc.out.1 hk2 (λe=>by rcases e with e|e;have:=Xr.out;omega;simp[Value.ownBlock]at e)).on Sc.out,(Cu Nc.out.2 hk2 (λe=>by rcases e with e|e;have:=Xr.out;omega;simp[Value.ownBlock]at e)).on Sc.out⟩);have HS2:=aa (hS2.on Sc.out);have HT2:=aa (Em.on Sc.out);have HG2:=aa (show ma W2 G [int i64 K.l,int i64 K.n,int i64 0,int i64 0,slice K.ra (T+1) K.rc] 285 by rw[<-hW2,<-Jw];exact ma.new w2 _ _);have Ak:=aa (show G≠S by have:=hS2.lt;omega);have Fs:=aa (show B+1<G by have h1:=Nc.out.2.lt;have h2:=hk2.size;omega)
 have Oq:=aa (show∀q,og T (slice ra Ks.length rc) Ks q->B<=q fromλq e=>by
  rcases hf2 q e with e|e
  ·rcases e with e|⟨K,hK,_⟩
   ·simp[Value.ownBlock]at e
   ·simp at hK
  ·have h1:=Nc.out.1.lt;omega)
 have qV:=aa Ny;have kM:=aa (And.intro PE hKn);have bu:=aa (show Ks.length<=1 from hKs);clear PE hKn;go_upto_region 3 with fail
 (try rw[hW2])
 (try rw[Jw])
 clear hW2 Jw Ny hKs hS2 Em hk2 hf2;go_cut [11]from 27 to 45 (λx11 wx=>x11=string t4/\Hid (Below W2.heap.size W2 wx))
 case first=>
  have hS:=(Below.refl W2.heap.size W2).drew;go_region_held3 (λV=>(V.cell? ⟨B,0,none⟩=some (int i64 k)/\V.cell? ⟨B,1,none⟩=some (int i64 b)/\V.cell? ⟨B,2,none⟩=some (int i64 x)/\V.cell? ⟨B,3,none⟩=some (int i64 (T:Int))/\V.cell? ⟨B,4,none⟩=some (int i64 l))) (exact(HW.out _ (Ag.out.1.on hS) (Ag.out.2.on hS)).1) ((go_at_call 87;refine(HN.out _ _ (by assumption)).mono ?_;rintro e wN ⟨rfl,hbN⟩;have hS:=Ga hS hbN Aa));have HB3:=aa hS;clear hS;go_wp2_with fail;go_meet;exact⟨rfl,HB3.out⟩
 case rest=>
 obtain⟨rfl,HB3⟩:=hcut;generalize wc=V3 at HB3⊢;have We:=aa (And.intro (Ag.out.1.on HB3.out) (Ag.out.2.on HB3.out));have yA:=aa (HS2.out.on HB3.out);have HT3:=aa (HT2.out.on HB3.out);have ui:=aa (HG2.out.on HB3.out);have Yl:=aa (HB2.out.trans (HB3.out.mono (show B<=W2.heap.size by have:=Ag.out.1.lt;omega)));clear Ag HS2 HT2 HG2 HB2 HB3 Nc Qb HB0 ic HB1 HW HN N0 N1 N2 N3 N4 N5 Wj Cj il Yh;go_upto_region 4 with fail;have zi:=aa (λ(V:World) (h:Zc lo V (K.v T) K.vs (T+1) T (Za K.l K.n))=>KI lo K.l K.n 0 0 K.ra K.rc T K.vs (Za K.l K.n) V HT.out h);have Sj:=aa (λ(V:World) (h1:ma V G [int i64 K.l,int i64 K.n,int i64 0,int i64 0,slice K.ra (T+1) K.rc] 285) (h2:ma V (B+1) [string sec,string rnd,string pub] 42)=>(dR (Fa h1) (Ja h1) (Ha h1) (Xa h1) (Ya h1) (Ha h2)));refine wp_region_held_drew (S:=λV=>V.cell? ⟨G,0,none⟩=some (int i64 K.l)/\V.cell? ⟨G,1,none⟩=some (int i64 K.n)/\V.cell? ⟨G,2,none⟩=some (int i64 0)/\V.cell? ⟨G,3,none⟩=some (int i64 0)/\V.cell? ⟨G,4,none⟩=some (slice K.ra (T+1) K.rc)/\V.cell? ⟨B+1,2,none⟩=some (string pub)) (by kernel_rfl) (Sj.out _ (ui.out.on (Below.refl V3.heap.size V3).drew) (We.out.2.on (Below.refl V3.heap.size V3).drew)) (λja=>?_);have HD4:=aa ((Below.refl V3.heap.size V3).drew);generalize World.drew V3=V4 at HD4 ja⊢;refine tk 0 ja ?_;refine tk 1 ja ?_;refine tk 2 ja ?_;refine tk 5 ja ?_;refine tk 6 ja ?_;refine wpAnyH_ready (rs:=[3]) (by kernel_rfl) (by simp) ?_;refine(AllReadyH.cons (o:=?o4) ?h4 (λK0 hK=>?s4) AllReadyH.nil)
 case h4=>(simp only[jb,Na,Oa];rfl)
 go_simp;go_at_call 278;refine(zi.out _ ((HT3.out.on HD4.out).each K qV.out)).mono ?_
 rintro e w5 ⟨rfl,hb5⟩
 have je:=aa (HD4.out.trans (hb5.mono HD4.out.size));clear hb5;rw[kM.out.1,kM.out.2,Tm.out];try go_wp2_with fail
 refine hK.out _ _ (Sj.out _ (ui.out.on je.out) (We.out.2.on je.out)) (λja=>?_);clear hK K0;try simp only[Act.put,Bb,Ka,Ma]
 refine tk 4 ja ?_;refine tk 7 ja ?_;refine tk 8 ja ?_;refine tk 9 ja ?_;have qc:=aa (yA.out.on je.out);have s12:=Bh qc.out;have f12:=qc.out.free 12;refine wpAnyH_ready (rs:=[10]) (by kernel_rfl) (by simp) ?_;refine(AllReadyH.cons (o:=?o6) ?h6 (λK0 hK=>?s6) AllReadyH.nil)
 case h6=>(simp only[jb,Na,Oa];rfl)
 go_simp;refine hK.out _ _ (Sj.out _ ((ui.out.on je.out).other _ Ak.out) ((We.out.2.on je.out).other _ (show B+1≠S by have:=Xr.out;omega))) (λja=>?_);clear hK K0;try simp only[Act.put,Bb,Ka,Ma]
 refine wpAnyH_done (by kernel_rfl) ?_ _;clear ja s12 f12;have VD:=aa ((HT3.out.on je.out).kept (Jc w5 ⟨S,12,none⟩ (string t6)) (λq e e2=>(HT3.out.on je.out).not qc.out (by rw[<-(show q=S from e2)];exact e)));have jy:=aa (qc.out.set 12 (string t6));have Kq:=aa ((We.out.1.on je.out).other (a:=⟨S,12,none⟩) (string t6) (show B≠S by have:=Xr.out;omega));have KG:=aa ((Yl.out.trans (je.out.mono (show B<=V3.heap.size by have:=We.out.1.lt;omega))).setCell (p:=⟨S,12,none⟩) (show B<=S by have:=Xr.out;omega) (string t6));clear We ui Sj zi yA HT3 je HD4 qc Yl;obtain⟨W6,Dn⟩:=Ca (w5.setCell ⟨S,12,none⟩ (string t6));rw[Dn]at VD jy Kq KG;go_upto_region 5 with fail
 (try rw[Dn])
 clear Dn;have Sj:=aa (λ(V:World) (h1:ma V B [int i64 k,int i64 b,int i64 x,int i64 (T:Int),int i64 l] 26) (h2:ma V S (Oc R en false k b x (T:Int) l sec rnd pub bat t6 ⟨#[]⟩ 0 0 0 (slice ra Ks.length rc)) 302)=>(J9 (Fa h1) (Bh h2)));refine wp_region_held_drew (S:=λV=>V.cell? ⟨B,0,none⟩=some (int i64 k)/\V.cell? ⟨S,12,none⟩=some (string t6)) (by kernel_rfl) (Sj.out _ (Kq.out.on (Below.refl W6.heap.size W6).drew) (jy.out.on (Below.refl W6.heap.size W6).drew)) (λja=>?_);have HD7:=aa ((Below.refl W6.heap.size W6).drew);generalize World.drew W6=V7 at HD7 ja⊢;refine tk 0 ja ?_;refine tk 1 ja ?_;refine tk 2 ja ?_;refine tk 4 ja ?_;refine tk 5 ja ?_;refine tk 6 ja ?_;refine tk 7 ja ?_;refine wpAnyH_ready (rs:=[3]) (by kernel_rfl) (by simp) ?_;refine(AllReadyH.cons (o:=?o7) ?h7 (λK0 hK=>?s7) AllReadyH.nil)
 case h7=>(simp only[jb,Na,Oa];rfl)
 go_simp;go_at_call 87;refine(GD.out _).mono ?_
 rintro e w8 ⟨rfl,Ru⟩
 have Cf:=aa (HD7.out.trans (Ru.mono HD7.out.size));clear Ru;try go_wp2_with fail
 refine hK.out _ _ (Sj.out _ (Kq.out.on Cf.out) (jy.out.on Cf.out)) (λja=>?_);clear hK K0;try simp only[Act.put,Bb,Ka,Ma]
 refine tk 8 ja ?_;refine wpAnyH_ready (rs:=[9]) (by kernel_rfl) (by simp) ?_;refine(AllReadyH.cons (o:=?o9) ?h9 (λK0 hK=>?s9) AllReadyH.nil)
 case h9=>(simp only[jb,Na,Oa];rfl)
 go_simp;go_at_call 165;refine(RU.out _).mono ?_
 rintro e w9 ⟨rfl,Sl⟩
 have Td:=aa (Cf.out.trans (Sl.mono Cf.out.size));clear Sl;try go_wp2_with fail
 refine hK.out _ _ (Sj.out _ (Kq.out.on Td.out) (jy.out.on Td.out)) (λja=>?_);clear hK K0;try simp only[Act.put,Bb,Ka,Ma]
 refine tk 10 ja ?_;refine tk 11 ja ?_;have Yq:=aa (jy.out.on Td.out);have s13:=Dt Yq.out;have f13:=Yq.out.free 13;refine wpAnyH_ready (rs:=[12]) (by kernel_rfl) (by simp) ?_;refine(AllReadyH.cons (o:=?oA) ?hA (λK0 hK=>?sA) AllReadyH.nil)
 case hA=>(simp only[jb,Na,Oa];rfl)
 go_simp;refine hK.out _ _ ⟨((Kq.out.on Td.out).other _ (show B≠S by have:=Xr.out;omega)).cell 0,(Yq.out.set 13 _).cell 12⟩ (λja=>?_);clear hK K0;try simp only[Act.put,Bb,Ka,Ma]
 refine wpAnyH_done (by kernel_rfl) ?_ _;clear ja s13 f13;have ny:=aa ((VD.out.on Td.out).kept (Jc w9 ⟨S,13,none⟩ (string LJ)) (λq e e2=>(VD.out.on Td.out).not Yq.out (by rw[<-(show q=S from e2)];exact e)));have um:=aa (Yq.out.set 13 (string LJ));have Ki:=aa ((KG.out.trans (Td.out.mono (show B<=W6.heap.size by have:=Kq.out.lt;omega))).setCell (p:=⟨S,13,none⟩) (show B<=S by have:=Xr.out;omega) (string LJ));clear Kq jy VD Td Yq KG;go_wp2;go_ret;refine⟨S,Ks,ra,rc,rfl,um.out,ny.out,bu.out,?_,?_,?_⟩
 ·rw[Rc.out];have:=Xr.out;omega
 ·rw[Rc.out];exact Oq.out
 ·rw[Rc.out];exact Ki.out
theorem vc0 (c:Int)(hc:c≠0)(pv:Option Addr)(k b x t l bat:Int)(sec rnd pub:ByteArray)(w:World)(Dm:∀V:World,Below w.heap.size w V->Calls prog 223 #[pointer pv,.agg #[int i64 k,int i64 b,int i64 x,int i64 t,int i64 l],.agg #[string sec,string rnd,string pub],int i64 bat] V λe w'=>e=.returned (int i64 c)/\Below V.heap.size V w'):Calls prog 149 #[pointer pv,.agg #[int i64 k,int i64 b,int i64 x,int i64 t,int i64 l],.agg #[string sec,string rnd,string pub],int i64 bat] w λe w'=>e=.returned (.tuple #[pointer none,int i64 c])/\Below w.heap.size w w':=by
 obtain⟨W0,hW⟩:=Ca ((w.alloc (.cells #[int i64 k,int i64 b,int i64 x,int i64 t,int i64 l] 26)).alloc (.cells #[string sec,string rnd,string pub] 42));have HB0:=Gc hW;have h1:ma W0 w.heap.size [int i64 k,int i64 b,int i64 x,int i64 t,int i64 l] 26:=by subst hW;exact(ma.new w _ _).alloc _
 have h2:ma W0 (w.heap.size+1) [string sec,string rnd,string pub] 42:=by
  subst hW;have h:=ma.new (w.alloc (.cells #[int i64 k,int i64 b,int i64 x,int i64 t,int i64 l] 26)) [string sec,string rnd,string pub] 42;simp only[World.size_alloc]at h;exact h
 have c0:=Fa h1;have c1:=Ja h1;have c2:=Ha h1;have c3:=Xa h1;have c4:=Ya h1;have c5:=Fa h2;have c6:=Ja h2;have c7:=Ha h2;have xk:=aa Dm;have e1:(c !=0)=true:=by simpa using hc
 have e2:(c==0)=false:=by simpa using hc
 have Ea:=aa hW;clear h1 h2 Dm hc hW;go_enter func149,ntmps149;go_upto_region 1 with fail;rw[Ea.out];clear Ea;go_wp2_with fail;refine(xk.out _ HB0.out).mono ?_
 rintro e w1 ⟨rfl,hb⟩
 have HB1:=aa (HB0.out.trans (hb.mono HB0.out.size));clear hb;go_wp2;go_ret2;exact⟨rfl,HB1.out⟩
theorem wc0 (lo R:Nat)(st:Da)(lv:Value)(L:List Gb)(k b x l:Int)(T:Nat)(sec rnd pub id:ByteArray)(bat:Int)(Za:Int->Int->Nat->Nat->ByteArray)(w:World)(h:RD lo R st lv L w)(ok:qf st)(hL:L.length<2199023255552)(hlo:lo<=w.heap.size)(hs0:0<=st.syncs)(hs1:st.syncs<9223372036854775806)(ht0:0<=st.term)(ht1:st.term<9223372036854775807)(hk:k=1\/k=2)(hb:0<=b/\b<=100)(hx:0<=x/\x<=100)(hT:T<=4)(hl:1<=l/\l<=100)(z1:(Za (l-1) 0 T 0).size<=16)(z2:pub.size<=16)(hid:id=(hv k 8 (qa 1 7++(Yd k b x (T:Int) l++Za (l-1) 0 T 0++pub))))
  (Dm:∀V:World,Below w.heap.size w V->Calls prog 223 #[pointer (some ⟨R,0,none⟩),.agg #[int i64 k,int i64 b,int i64 x,int i64 (T:Int),int i64 l],.agg #[string sec,string rnd,string pub],int i64 bat] V λe w'=>e=.returned (int i64 0)/\Below V.heap.size V w')
  (hG:∀V:World,Calls prog 214 #[.agg #[int i64 k,int i64 b,int i64 x,int i64 (T:Int),int i64 l],.agg #[string sec,string rnd,string pub],.agg #[int i64 (l-1),int i64 0,int i64 0,int i64 0]] V λe w'=>∃ra rc vs,e=.returned (.agg #[int i64 (l-1),int i64 0,int i64 0,int i64 0,slice ra (T+1) rc])/\Zc V.heap.size w' (slice ra (T+1) rc) vs (T+1) T (Za (l-1) 0)/\Below V.heap.size V w')
  (s1:Da)(hs:s1={st with term:=st.term+1}):Calls prog 149 #[pointer (some ⟨R,0,none⟩),.agg #[int i64 k,int i64 b,int i64 x,int i64 (T:Int),int i64 l],.agg #[string sec,string rnd,string pub],int i64 bat] w λe w'=>Zf lo R (Qr s1 id) lv (L.length+1) w w'/\((Aq s1 id=0/\∃S Ks ra rc,e=.returned (.tuple #[pointer (some ⟨S,0,none⟩),int i64 0])/\ma w' S (Oc R (st.term+1) false k b x (T:Int) l sec rnd pub bat (Yd k b x (T:Int) l++Za (l-1) 0 T 0++pub) id 0 0 1 (slice ra Ks.length rc)) 302/\Nf lo w' (slice ra Ks.length rc) Ks T Za/\Ks.length<=1/\w.heap.size<=S/\∀q,og T (slice ra Ks.length rc) Ks q->w.heap.size<=q)\/(Aq s1 id≠0/\e=.returned (.tuple #[pointer none,int i64 (Aq s1 id)]))):=by
 obtain⟨B,hB⟩:=Ca (w.heap.size);obtain⟨W0,hW⟩:=Ca ((w.alloc (.cells #[int i64 k,int i64 b,int i64 x,int i64 (T:Int),int i64 l] 26)).alloc (.cells #[string sec,string rnd,string pub] 42))
 have Qb:=aa (show ma W0 B [int i64 k,int i64 b,int i64 x,int i64 (T:Int),int i64 l] 26/\ma W0 (B+1) [string sec,string rnd,string pub] 42 by
  subst hW hB;refine⟨(ma.new w _ _).alloc _,?_⟩;have h:=ma.new (w.alloc (.cells #[int i64 k,int i64 b,int i64 x,int i64 (T:Int),int i64 l] 26)) [string sec,string rnd,string pub] 42;simp only[World.size_alloc]at h;exact h)
 have HB0:=Gc hW;have om:=aa h;have Vq:=aa (show qf s1 by rw[hs];exact ok.tm _);have Hl:=aa (show∀q,Wh R lv q->q<B by rw[<-hB];exactλq e=>(h.lt e).2);have yh:=aa hlo;have eu:=aa hL;have jw:=aa (show 0<=s1.syncs/\s1.syncs<9223372036854775806 by rw[hs];exact⟨hs0,hs1⟩);have wm:=aa hs;have xk:=aa Dm;have Qq:=aa (λ(V:World) (h1:R<V.heap.size) (h2:V.cell? ⟨R,4,none⟩=some (int i64 (st.term+1))) (h3:lo<=V.heap.size)=>ES lo R (st.term+1) k b x l T sec rnd pub bat Za V h1 h2 h3 hk hb hx hT hl z1 z2 hG);rw[<-hid]at Qq;have XG:=aa (show id.size=8 by rw[hid];have h8:=Vu k 8 (qa 1 7++(Yd k b x (T:Int) l++Za (l-1) 0 T 0++pub)) hk (by decide) (by decide) (by rw[ByteArray.size_append,Sa,ByteArray.size_append,ByteArray.size_append,NB];omega);omega);have wt:IntKind.i64.wrap (st.term+1)=st.term+1:=by rw[IntKind.wrap_i64]<;>omega
 have tL:wrap64 (st.term+1)=st.term+1:=by rw[Yo]<;>omega
 have Ea:=aa hW;have Rc:=aa hB;have c0:=Fa Qb.out.1;have c1:=Ja Qb.out.1;have c2:=Ha Qb.out.1;have c3:=Xa Qb.out.1;have c4:=Ya Qb.out.1;have c5:=Fa Qb.out.2;have c6:=Ja Qb.out.2;have c7:=Ha Qb.out.2;clear h ok hL hlo hs0 hs1 ht0 ht1 hk hb hx hT hl z1 z2 hid Dm hG hW hB hs;go_enter func149,ntmps149;go_upto_region 1 with fail;rw[Ea.out,Rc.out];clear Ea;go_wp2_with fail;refine(xk.out _ HB0.out).mono ?_
 rintro e w1 ⟨rfl,hb1⟩
 have HB1:=aa (HB0.out.trans (hb1.mono HB0.out.size));have HR1:=aa (om.out.below HB1.out);have r4:=Ya HR1.out.b;have f4:=HR1.out.b.free 4;obtain⟨W1,hW1⟩:=Ca (w1.setCell ⟨R,4,none⟩ (int i64 (st.term+1)));have Rm:=aa (show R≠B/\R≠B+1 by have:=Hl.out R (.inl rfl);omega);have Nc:=aa (show ma W1 B [int i64 k,int i64 b,int i64 x,int i64 (T:Int),int i64 l] 26/\ma W1 (B+1) [string sec,string rnd,string pub] 42 by rw[<-hW1];exact⟨(Qb.out.1.on hb1).other _ (Ne.symm Rm.out.1),(Qb.out.2.on hb1).other _ (Ne.symm Rm.out.2)⟩)
 have HR2:=aa (show RD lo R s1 lv L W1 by
  rw[<-hW1,wm.out];exact⟨HR1.out.b.set 4 _,xc HR1.out.r (Jc _ _ _) (λq e e2=>Km HR1.out.r HR1.out.b (by decide) (by rw[<-(show q=R from e2)];exact e)),HR1.out.rl.same rfl rfl rfl rfl,HR1.out.lR⟩)
 have Ce:=aa (show za (Wh R lv) w W1 by rw[<-hW1];exact(za.of_below HB1.out).setCell (p:=⟨R,4,none⟩) (.inl (.inl rfl)) _);have HR4:=aa (show W1.cell? ⟨R,4,none⟩=some (int i64 (st.term+1)) by rw[<-hW1];exact(HR1.out.b.set 4 _).cell 4);clear hb1 c0 c1 c2 c3 c4 c5 c6 c7;go_upto_region 5 with fail
 (try rw[hW1])
 clear hW1 r4 f4 wt tL;have c0:=Fa Nc.out.1;have c1:=Ja Nc.out.1;have c2:=Ha Nc.out.1;have c3:=Xa Nc.out.1;have c4:=Ya Nc.out.1;have c5:=Fa Nc.out.2;have c6:=Ja Nc.out.2;have c7:=Ha Nc.out.2;go_wp2_with fail;refine(Qq.out _ HR2.out.b.lt HR4.out (Nat.le_trans yh.out Ce.out.size)).mono ?_
 rintro e w2 ⟨S,Ks,ra,rc,rfl,hS2,Em,hKs,ze,hf2,hb2⟩
 have HS2:=aa hS2;have HT2:=aa Em;have bu:=aa hKs;have Vd:=aa (show w.heap.size<=S from Nat.le_trans Ce.out.size ze);have Oq:=aa (λq e=>Nat.le_trans Ce.out.size (hf2 q e));have HR3:=aa (HR2.out.below hb2);have Gd:=aa (Ce.out.after hb2);have Tq:=aa (show∀q,Wh R lv q->¬og T (slice ra Ks.length rc) Ks q fromλq e e2=>by have h1:=Hl.out q e;have h2:=Oq.out q e2;rw[Rc.out]at h2;omega);clear hS2 Em hKs ze hf2 hb2 c0 c1 c2 c3 c4 c5 c6 c7 Qq HR2 Nc Qb xk om HR1 HB0 HB1 Ce HR4;have Mh:=aa (MS HR3.out Vq.out (Nat.le_of_lt eu.out) jw.out.1 (by have:=jw.out;omega));go_wp2_with fail;refine Mh.out.mono ?_
 rintro e w3 ⟨q0,b0,d0,q1,b1,d1,rfl,Mw,hrc⟩
 have rA:=aa hrc;obtain⟨L3,hr3,hl3,hk3⟩:=Mw;obtain⟨A,hA⟩:=Ca (w3.heap.size);obtain⟨W3,hW3⟩:=Ca ((w3.alloc (.cells #[int i64 q0,int i64 b0,string d0] 186)).alloc (.cells #[int i64 q1,int i64 b1,string d1] 186));have HB3:=Gc hW3
 have Oj:=aa (show ma W3 A (#[int i64 q0,int i64 b0,string d0]).toList 186/\ma W3 (A+1) (#[int i64 q1,int i64 b1,string d1]).toList 186 by
  rw[<-hW3,<-hA];refine⟨(ma.new w3 _ _).alloc _,?_⟩;have h:=ma.new (w3.alloc (.cells #[int i64 q0,int i64 b0,string d0] 186)) (#[int i64 q1,int i64 b1,string d1]).toList 186;simp only[World.size_alloc]at h;exact h)
 have Ed:=aa ((Mc HS2.out hk3 (HR3.out.nS HS2.out)).on HB3.out);have ru:=aa ((HT2.out.kept hk3 (λq e e2=>Tq.out q e2 e)).on HB3.out);have HR4:=aa (hr3.below HB3.out);have Rb:=aa ((Gd.out.trans hk3 (λ_ e=>.inl e)).after HB3.out);have Wv:=aa (show L3.length<=L.length from hl3);have wh:=aa (show Zf lo R (Ae s1) lv (L.length+1) w W3 from⟨lv,L3,HR4.out,Nat.le_succ_of_le hl3,Rb.out,λ_ e=>.inl e⟩);have a0:=Fa Oj.out.1;have a1:=Fa Oj.out.2;clear hrc hr3 hl3 hk3 Mh HS2 HT2 HR3 Gd;go_upto_region 7 with fail
 (try rw[hW3])
 (try rw[hA])
 clear hW3 hA;by_cases hc:Sg s1=0
 ·have e1:(Sg s1==0)=true:=by simp[hc]
  have e2:(Sg s1 !=0)=false:=by simp[hc]
  have HC:=aa hc;have Xq:=aa (rA.out hc);clear hc rA;by_cases h0:0<q0\/0<q1
  ·have HQ:=aa (show Aq s1 id=7/\Qr s1 id=Ae s1 by
    unfold Aq Qr;rw[<-Xq.out.1,<-Xq.out.2];exact⟨(if_neg (λe=>e HC.out)).trans (if_pos h0),(if_neg (λe=>e HC.out)).trans (if_pos h0)⟩)
   by_cases h1:0<q0
   ·have d0:decide (0<q0)=true:=decide_eq_true h1;clear h0;go_wp2_with fail;go_ret2;rw[HQ.out.1,HQ.out.2];exact⟨wh.out,.inr ⟨by decide,rfl⟩⟩
   ·have h2:0<q1:=h0.resolve_left h1;have d0:decide (0<q0)=false:=decide_eq_false h1;have d1:decide (0<q1)=true:=decide_eq_true h2;clear h0;go_wp2_with fail;go_ret2;rw[HQ.out.1,HQ.out.2];exact⟨wh.out,.inr ⟨by decide,rfl⟩⟩
  ·have HQ:=aa (show Aq s1 id=ql (Ae s1) 1 (Ua 1 0 id)/\Qr s1 id=Ff (Ae s1) 1 (Ua 1 0 id) by
    unfold Aq Qr;rw[<-Xq.out.1,<-Xq.out.2];exact⟨(if_neg (λe=>e HC.out)).trans (if_neg h0),(if_neg (λe=>e HC.out)).trans (if_neg h0)⟩)
   have h1:¬0<q0:=λe=>h0 (.inl e);have h2:¬0<q1:=λe=>h0 (.inr e);have d0:decide (0<q0)=false:=decide_eq_false h1;have d1:decide (0<q1)=false:=decide_eq_false h2;clear h0;have Gp:Hid (Calls prog 226 #[pointer (some ⟨S,0,none⟩),int i64 1,int i64 0] W3 λe w'=>e=.returned (int i64 (ql (Ae s1) 1 (Ua 1 0 id)))/\Zf lo R (Ff (Ae s1) 1 (Ua 1 0 id)) lv (L3.length+1) W3 w'):=JS 1 0 Ed.out HR4.out (R7 Vq.out) (by have:=Wv.out;have:=eu.out;omega) (Nat.le_trans yh.out Rb.out.size) (by have:=sF s1;have:=jw.out;omega) (by have:=sF s1;have:=jw.out;omega) ⟨by decide,by decide,by decide,by decide,XG.out⟩;generalize ql (Ae s1) 1 (Ua 1 0 id)=c9 at Gp HQ;by_cases LB:c9=0
   ·subst LB;go_wp2_with fail;refine Gp.out.mono ?_
    rintro e w5 ⟨rfl,hl5⟩
    have Ep:=aa (show za (Wh R lv) W3 w5 by obtain⟨_,_,_,_,k,_⟩:=hl5;exact k);have qc:=aa (Mc Ed.out Ep.out (HR4.out.nS Ed.out));have ky:=aa (ru.out.kept Ep.out (λq e e2=>Tq.out q e2 e))
    have Rv:=aa ((show Zf lo R (Ff (Ae s1) 1 (Ua 1 0 id)) lv (L.length+1) w w5 by
     have h:=hl5.from Rb.out;obtain⟨a,b,c,d,e,f⟩:=h;exact⟨a,b,c,Nat.le_trans d (Nat.succ_le_succ Wv.out),e,f⟩))
    have s16:=ag qc.out;have f16:=qc.out.free 16;clear hl5;go_wp2_with fail;go_ret2;rw[HQ.out.1,HQ.out.2];exact⟨Rv.out.setS qc.out Vd.out 16 _,.inl ⟨rfl,S,Ks,ra,rc,rfl,qc.out.set 16 _,ky.out.kept (Jc _ _ _) (λq e e2=>ky.out.not qc.out (by rw[<-(show q=S from e2)];exact e)),bu.out,Vd.out,Oq.out⟩⟩
   ·have e3:(c9==0)=false:=by simpa using LB
    have e4:(c9 !=0)=true:=by simpa using LB
    have OU:=aa LB;clear LB;go_wp2_with fail;refine Gp.out.mono ?_
    rintro e w5 ⟨rfl,hl5⟩
    have Rv:=aa ((show Zf lo R (Ff (Ae s1) 1 (Ua 1 0 id)) lv (L.length+1) w w5 by
     have h:=hl5.from Rb.out;obtain⟨a,b,c,d,e,f⟩:=h;exact⟨a,b,c,Nat.le_trans d (Nat.succ_le_succ Wv.out),e,f⟩))
    clear hl5;go_wp2_with fail;go_ret2;rw[HQ.out.1,HQ.out.2];exact⟨Rv.out,.inr ⟨OU.out,rfl⟩⟩
 ·have e1:(Sg s1==0)=false:=by simpa using hc
  have e2:(Sg s1 !=0)=true:=by simpa using hc
  have HC:=aa hc;clear hc;go_wp2_with fail;go_ret2;have hq:Aq s1 id=Sg s1/\Qr s1 id=Ae s1:=by unfold Aq Qr;rw[if_pos HC.out,if_pos HC.out];exact⟨rfl,rfl⟩
  rw[hq.1,hq.2];exact⟨wh.out,.inr ⟨HC.out,rfl⟩⟩
end Go.Proofs.YtgaoeoijdpdjiabGreatDoor
