import Derived.Test.YtgaoeoijdpdjiabGreatDoorPart40
open Go.Value (int string pointer slice)
open Go.IntKind (i64)
open Go.Proofs.Tryz
set_option maxRecDepth 20000
set_option maxHeartbeats 4000000
namespace Go.Proofs.YtgaoeoijdpdjiabGreatDoor
open Go.RowKit
theorem Ya0 {T a i:Nat}(ha:a<2^T)(hi:i<T):Kj a i<2^(T-i):=by
 have hq:a/2^i<2^(T-i):=by
  refine Nat.div_lt_of_lt_mul ?_;rw[<-Nat.pow_add,show i+(T-i)=T by omega];exact ha
 have hp:2^(T-i)=2*2^(T-(i+1)):=by rw[<-Nat.pow_succ'];congr 1;omega
 unfold Kj;generalize a/2^i=q at*;generalize 2^(T-(i+1))=M at*;split<;>omega
theorem Nc0 (lo:Nat)(p0 p1 p2 p3:Int)(ra:Option Addr)(rc T a:Nat)(vs:List Value)(tv:Nat->Nat->ByteArray)(w:World)(hT:T<=4)(ha:a<2^T)(hg:Zc lo w (slice ra (T+1) rc) vs (T+1) T tv):Calls prog 217 #[.agg #[int i64 p0,int i64 p1,int i64 p2,int i64 p3,slice ra (T+1) rc],int i64 (a:Int)] w λe w'=>∃v,e=.returned v/\w'.ownsRow w.heap.size 9 1 v T ((Px tv T a).map .string)/\Below w.heap.size w w':=by
 obtain⟨i0,hi,hz0,hz1,hz2⟩:=info_parts sQ;obtain⟨gr,rfl,hgr,WB⟩:=hg.node (by omega);have ha16:a<16:=Nat.lt_of_lt_of_le ha (Nat.le_trans (Nat.pow_le_pow_right (by decide) hT) (by decide));have AV:=aa WB;have Oz:=aa hgr;have Pp:=aa (λi (hi:i<T)=>Ya0 ha hi);clear hg WB hgr ha;obtain⟨W0,hW⟩:=Ca (w.alloc (.cells #[int i64 p0,int i64 p1,int i64 p2,int i64 p3,slice (some ⟨gr,0,none⟩) (T+1) rc] 285));have HB0:=Xd hW;have HX:=aa (show ma W0 w.heap.size [int i64 p0,int i64 p1,int i64 p2,int i64 p3,slice (some ⟨gr,0,none⟩) (T+1) rc] 285 by subst hW;exact ma.new w _ _);have hz':w.heap.size+1<=W0.heap.size:=by subst hW;simp
 have Ea:=aa hW;clear hW;go_enter func217,ntmps217;go_wp2_with fail;rw[Ea.out];clear Ea;go_loopw [5,6,7,8] (λl q h k wr=>∃m:Nat,m<=T/\h=int i64 (m:Int)/\q=int i64 ((a/2^m:Nat):Int)/\Hid (wr.ownsRow (w.heap.size+1) 9 1 l m ((List.range m).map λi=>string (tv i (Kj a i))))/\Hid (Below (w.heap.size+1) W0 wr)/\w.heap.size+1<=wr.heap.size) (λ_ _ h _ _=>T-(intOf h).toNat)
 case atStart=>exact⟨0,Nat.zero_le _,rfl,by simp,World.ownsRow_nil _ _ _ _,Vb,hz'⟩
 case round=>
  obtain⟨m,hm,rfl,rfl,ho,hb,pQ⟩:=hrel;have x4:=((HX.out.below hb.out (by omega)).cell 4);simp only[Oa,Na]at x4;by_cases hlt:m<T
  ·have WZ:(m:Int)+1<(T:Int)+1:=by omega
   obtain⟨gi,ci,y0,hgi,hy1⟩:=AV.out m (by omega);have Ud:=aa (HB0.out.trans (hb.out.mono (by omega)));have z0:=(Ud.out.cell (p:=⟨gr,m,none⟩) Oz.out).trans y0;have hpn:=Pp.out m hlt;have Ef:=aa (show a/2^(m+1)=a/2^m/2 by rw[Nat.pow_succ,Nat.div_div_eq_div_mul]);have ay:=aa (show Kj a m=if a/2^m% 2=1 then a/2^m-1 else a/2^m+1 from rfl);have z1:=(Ud.out.cell (p:=⟨gi,Kj a m,none⟩) hgi).trans (hy1 _ hpn);have Ld:=aa (show(List.range (m+1)).map (λi=>string (tv i (Kj a i)))=(List.range m).map (λi=>string (tv i (Kj a i)))++[string (tv m (Kj a m))] by simp[List.range_succ]);have Vg0:a/2^m<16:=Nat.lt_of_le_of_lt (Nat.div_le_self _ _) ha16;have t1:=YK (a/2^m);have t2:=ZT (a/2^m);generalize 2^(T-m)=N at*;generalize tv m (Kj a m)=lv at Ld z1;generalize Kj a m=pn at*;generalize a/2^m=q at*;have hpi:(pn:Int)<(N:Int):=by omega
   have zJ:(m:Int)<(T:Int)+1:=by omega
   clear y0 hy1 hgi Ud;by_cases hod:q% 2=1
   case' pos=>
    have e1:(((q% 2:Nat):Int)==1)=true:=by rw[hod];rfl
    have e2:(q:Int)-1=(pn:Int):=by have:=ay.out;rw[if_pos hod]at this;omega
    have e3:IntKind.i64.wrap ((q:Int)-1)=(pn:Int):=by rw[e2,IntKind.wrap_i64]<;>omega
    have e4:wrap64 ((q:Int)-1)=(pn:Int):=by rw[e2];exact Yo _ (by omega)
    have E2:=aa e2;clear e2
   case' neg=>
    have e1:(((q% 2:Nat):Int)==1)=false:=beq_eq_false_iff_ne.2 (by omega);have e2:(q:Int)+1=(pn:Int):=by have:=ay.out;rw[if_neg hod]at this;omega
    have e3:IntKind.i64.wrap ((q:Int)+1)=(pn:Int):=by rw[e2,IntKind.wrap_i64]<;>omega
    have e4:wrap64 ((q:Int)+1)=(pn:Int):=by rw[e2];exact Yo _ (by omega)
    have E2:=aa e2;clear e2
   all_goals
    have Cg0:=aa hpn
    generalize hr2:q% 2=r2 at*;generalize hq2:q/2=q2 at*;have Sc:=aa hq2;have wq:wrap64 (q2:Int)=(q2:Int):=Yo _ (by omega);clear hr2 hq2 hod hpn;go_wp2_with (at_builtin;refine wpList_append_own _ rfl _ _ 27 rfl (w.heap.size+1) 9 i0 (string ⟨#[]⟩) 1 16 underlying27 hi hz0 hz1 hz2 rfl (by decide) _ _ _ rfl (ho.out.alloc _) ⟨wr.heap.size,0,none⟩ 1 1 [_] rfl rfl (Mo _ _ _) ?c2 ?c3 ?c4 ?c5 ?_)
    case c2=>first|rfl|(intro y hy;simp at hy;subst hy;rfl)
    case c3=>unfold maxLen;omega
    case c4=>omega
    case c5=>first|omega|(simp;omega)
    intro v' w6 Cg hgrow _;have Ip:=aa (λq hq=>(dh ho.out hq (q:=q)).1);have Ub:=aa ((hb.out.alloc (by omega) _).grown hgrow (by simp;omega) (λp hp=>Ip.out p hp))
    have Rj:Hid (w6.ownsRow (w.heap.size+1) 9 1 v' (m+1) ((List.range (m+1)).map λi=>string (tv i (Kj a i)))):=by
     show w6.ownsRow (w.heap.size+1) 9 1 v' (m+1) ((List.range (m+1)).map λi=>string (tv i (Kj a i)));rw[Ld.out];exact Cg
    have Y3:w.heap.size+1<=w6.heap.size:=by have:=hgrow.size;simp at this;omega
    clear Cg hgrow Ip ho hb Ld z0 z1 x4;go_wp2;go_roundw
    case rel=>
     have R:∃m':Nat,m'<=T/\int i64 ((m:Int)+1)=int i64 (m':Int)/\int i64 (wrap64 (q2:Int))=int i64 ((a/2^m':Nat):Int)/\Hid (w6.ownsRow (w.heap.size+1) 9 1 v' m' ((List.range m').map λi=>string (tv i (Kj a i))))/\Hid (Below (w.heap.size+1) W0 w6)/\w.heap.size+1<=w6.heap.size:=⟨m+1,by omega,by go_num,by rw[Ef.out,wq],Rj.out,Ub.out,Y3⟩;first|exact R|((repeat apply Exists.intro);exact⟨R,rfl⟩)
    case measure=>simp[intOf];omega
  ·obtain rfl:m=T:=by omega
   have WZ:¬(m:Int)+1<(m:Int)+1:=by omega
   have H9:=aa (show wr.ownsRow w.heap.size 9 1 _ m ((Px tv m a).map .string) by
    have h:=KF (lo':=w.heap.size) ho.out (Nat.le_succ _);rw[Px,List.map_map];exact h)
   have Rc:=aa (HB0.out.trans (hb.out.mono (by omega)));clear ho hb;go_wp2_with fail;go_ret;exact⟨_,rfl,H9.out,Rc.out⟩
theorem yG (t l q idx:Nat)(hq:q<l)(hi:idx<2^(t*l)):Im t l q ((idx/2^(t*q)/2^t:Nat):Int) 0=true:=by
 unfold Im;rw[Int.toNat_natCast];simp only[Bool.and_eq_true,decide_eq_true_eq]
 have h1:idx/2^(t*q)/2^t<2^(t*(l-1-q)):=by
  rw[Nat.div_div_eq_div_mul,<-Nat.pow_add];refine Nat.div_lt_of_lt_mul ?_
  rw[<-Nat.pow_add,show t*q+t+t*(l-1-q)=t*l by
   have:l=q+1+(l-1-q):=by omega
   conv=>rhs;rw[this]
   rw[Nat.mul_add,Nat.mul_add,Nat.mul_one]]
  exact hi
 have h2:0<2^t:=Nat.two_pow_pos t;generalize idx/2^(t*q)/2^t=A at*;generalize 2^(t*(l-1-q))=M at*;generalize 2^t=L at*;omega
theorem BS {w:World}{g:Nat}{D:List Nat}(h:Ic w g (D.map Int.ofNat))(j d:Nat)(hj:D[j]?=some d):w.cell? ⟨g,j,none⟩=some (int i64 (d:Nat)):=by
 have hl:j<D.length:=(List.getElem?_eq_some_iff.1 hj).1;rw[h.cell (by simpa using hl),List.getElem?_map,hj];rfl
theorem rE (b:Nat):∀xs:List ByteArray,(∀y∈xs,(y.size:Int)=b)->(Dc xs).size=xs.length*b
 |[],_=>by rw[List.length_nil,Nat.zero_mul];rfl
 |x::xs,h=>by
  have h1:=h x (by simp);rw[Dc,ByteArray.size_append,rE b xs (λy hy=>h y (by simp[hy])),List.length_cons,Nat.add_mul,Nat.one_mul];omega
def Ad (k:Int)(b:Nat)(rnd:ByteArray)(idx:Nat):ByteArray:=hv k b (qa 1 5++(rnd++qa 4 idx))
def Ie (k:Int)(b x t ch l:Nat)(sec pub:ByteArray):ByteArray:=Zg k b (x-1) ch sec pub ((l:Int)-1) 0 t 0
def oz (k:Int)(b x e f t l:Nat)(sec rnd pub msg:ByteArray)(idx:Nat):ByteArray:=qa 4 idx++Ad k b rnd idx++Dc (Oe (sV k b x e f t (b*e+f) sec pub idx (Eg k b (Ad k b rnd idx) (Ie k b x t (b*e+f) l sec pub) pub idx msg)) (sP k b x t (b*e+f) sec pub idx) l)
theorem QS (k:Int)(b:Nat)(rnd:ByteArray)(idx:Nat)(hk:k=1\/k=2)(h1:1<=b)(h2:b<=16)(hs:rnd.size<=16):(Ad k b rnd idx).size=b:=by
 have h:=Vu k b (qa 1 5++(rnd++qa 4 idx)) hk (by omega) (by omega) (by simp only[ByteArray.size_append,Sa];omega);unfold Ad;omega
theorem MC (k:Int)(b x t ch l:Nat)(sec pub:ByteArray)(hk:k=1\/k=2)(h1:1<=b)(h2:b<=16)(hs:sec.size<=16)(hp:pub.size<=16)(hc:1<=ch):(Ie k b x t ch l sec pub).size=b:=by
 have h:=Wy k b (x-1) ch sec pub ((l:Int)-1) 0 hk (by omega) (by omega) hs hp hc t 0;unfold Ie;omega
theorem Ld0 (k:Int)(b x t l:Nat)(sec rnd pub:ByteArray)(s1:sec.size=b)(s2:rnd.size=b)(s3:pub.size=b)(V:World):Calls prog 265 #[.agg #[int i64 k,int i64 b,int i64 x,int i64 t,int i64 l],.agg #[string sec,string rnd,string pub]] V λe w'=>e=.returned (.bool true)/\Below V.heap.size V w':=by
 have h:=aT k b x t l sec rnd pub V
 rw[show Wl b sec rnd pub=true from(IA (b:Int) _).2 (by
  intro y hy;simp only[List.mem_cons,List.not_mem_nil,or_false]at hy;rcases hy with rfl|rfl|rfl<;>omega)]at h
 exact h
theorem kR (k:Int)(b x e f t l:Nat)(R:Wp k b x e f t l)(sec rnd pub:ByteArray)(s1:sec.size=b)(s2:rnd.size=b)(s3:pub.size=b)(p0 p1:Int)(hl:Im t l p0 p1 0=true)(V:World):Calls prog 208 #[.agg #[int i64 k,int i64 b,int i64 x,int i64 t,int i64 l],.agg #[string sec,string rnd,string pub],.agg #[int i64 p0,int i64 p1,int i64 0,int i64 0]] V λe' w'=>e'=.returned (.tuple #[.agg #[int i64 k,int i64 b,int i64 x,int i64 t,int i64 l,string sec,string rnd,string pub,int i64 p0,int i64 p1,int i64 0,int i64 0,int i64 ((b*e+f:Nat):Int)],int i64 0])/\Below V.heap.size V w':=M9 k b x t l _ _ _ _ _ _ sec rnd pub p0 p1 0 0 V (λV=>oC k b x e f t l R V) (λV=>Ld0 k b x t l sec rnd pub s1 s2 s3 V) (λV=>by
  have h:=Q5 k b x t l p0 p1 0 0 V R.t1 R.t2 R.l2;rw[hl]at h;exact h)
theorem vR (k:Int)(b x e f t l:Nat)(R:Wp k b x e f t l)(sec rnd pub:ByteArray)(s1:sec.size=b)(s2:rnd.size=b)(s3:pub.size=b)(w:World)(hT:Tn w):Calls prog 178 #[.agg #[int i64 k,int i64 b,int i64 x,int i64 t,int i64 l],.agg #[string sec,string rnd,string pub]] w λe' w'=>e'=.returned (.tuple #[.agg #[int i64 k,int i64 b,int i64 x,int i64 t,int i64 l,string (Ie k b x t (b*e+f) l sec pub),string pub],int i64 0])/\Below w.heap.size w w':=by
 obtain⟨g1,g2,g3,g4,g5,g6⟩:=uq R.pr;have r3:=R.l1;have r4:=R.l2
 have hl0:Im t l ((l:Int)-1) 0 0=true:=by
  have h:=yG t l (l-1) 0 (by omega) (Nat.two_pow_pos _);rw[Nat.zero_div,Nat.zero_div,show(((l-1:Nat)):Int)=(l:Int)-1 by omega]at h;exact h
 exact K6 k b x t l _ _ _ _ _ sec rnd pub (Ie k b x t (b*e+f) l sec pub) w (by rw[IntKind.wrap_i64]<;>omega) hT (λV=>kR k b x e f t l R sec rnd pub s1 s2 s3 _ _ hl0 V) (λV hV=>Ff0 k b x l t sec rnd pub _ _ _ _ (b*e+f) (x-1) V R.kk (by omega) (by omega) (by omega) (by omega) g3 g4 (UN R.pr) (by omega) (by omega) R.t2 hV)
theorem ce0 (k:Int)(b x e f t l:Nat)(R:Wp k b x e f t l)(sec rnd pub msg:ByteArray)(idx:Nat)(s1:sec.size=b)(s2:rnd.size=b)(s3:pub.size=b)(s4:msg.size<=200)(hi:idx<2^(t*l))(w:World)(hT:Tn w):Calls prog 171 #[.agg #[int i64 k,int i64 b,int i64 x,int i64 t,int i64 l,string (Ie k b x t (b*e+f) l sec pub),string pub],.agg #[string sec,string rnd,string pub],int i64 idx,string msg] w λe' w'=>e'=.returned (string (oz k b x e f t l sec rnd pub msg idx))/\Below w.heap.size w w':=by
 obtain⟨g1,g2,g3,g4,g5,g6⟩:=uq R.pr;obtain⟨hb,hx⟩:=KR R.pr;have r1:=R.t1;have r2:=R.t2;have r3:=R.l1;have r4:=R.l2;have hk:=R.kk;have h36:b*e+f<=36:=by rcases R.pr with⟨rfl,rfl,rfl,rfl⟩|⟨rfl,rfl,rfl,rfl⟩|⟨rfl,rfl,rfl,rfl⟩|⟨rfl,rfl,rfl,rfl⟩<;>decide
 have Lt:l*(b*e+f+t)<=3*40:=Nat.mul_le_mul r4 (by omega);have hpw:2^(t*l)<=4096:=Nat.le_trans (Nat.pow_le_pow_right (by decide) (Nat.mul_le_mul r2 r4)) (by decide);have Ir:=QS k b rnd idx hk g1 g2 (by omega);have I1:=MC k b x t (b*e+f) l sec pub hk g1 g2 (by omega) (by omega) g3;have hm0:=XQ k b (Ad k b rnd idx) (Ie k b x t (b*e+f) l sec pub) pub idx msg hk (by omega) (by omega) (by omega) (by omega) (by omega) s4;have hF:=GK k b x e f t (b*e+f) sec pub idx _ R.pr rfl hk (by omega) (by omega) hm0;have hvl:=SS k b x e f t (b*e+f) sec pub idx _ R.pr rfl hk (by omega) (by omega) hm0;have hpl:=RS k b x t (b*e+f) sec pub idx;have hps:=WR k b x e f t (b*e+f) sec pub idx (Eg k b (Ad k b rnd idx) (Ie k b x t (b*e+f) l sec pub) pub idx msg) R.pr rfl hk (by omega) (by omega) l;have hsz:=IK k b x e f t (b*e+f) sec pub idx (Eg k b (Ad k b rnd idx) (Ie k b x t (b*e+f) l sec pub) pub idx msg) R.pr rfl hk (by omega) (by omega);have Su:∀q,∀d∈sD k b x e f t (b*e+f) sec pub idx (Eg k b (Ad k b rnd idx) (Ie k b x t (b*e+f) l sec pub) pub idx msg) q,d<x:=λq=>rO x e f _ (by omega);have Jo:=SF _ _ _ _ hvl hpl l;have hq2:∀q,idx/2^(t*q)% 2^t<2^t:=λq=>Nat.mod_lt _ (Nat.two_pow_pos t);have h16:2^t<=16:=Nat.le_trans (Nat.pow_le_pow_right (by decide) r2) (by decide);refine de0 k b x t l (b*e+f) idx _ sec rnd pub msg (Ad k b rnd idx) (oz k b x e f t l sec rnd pub msg idx) (sM k b x e f t (b*e+f) sec pub idx (Eg k b (Ad k b rnd idx) (Ie k b x t (b*e+f) l sec pub) pub idx msg)) (λq=>idx/2^(t*q)/2^t) (λq=>idx/2^(t*q)% 2^t) (sD k b x e f t (b*e+f) sec pub idx (Eg k b (Ad k b rnd idx) (Ie k b x t (b*e+f) l sec pub) pub idx msg)) (sV k b x e f t (b*e+f) sec pub idx (Eg k b (Ad k b rnd idx) (Ie k b x t (b*e+f) l sec pub) pub idx msg)) (sP k b x t (b*e+f) sec pub idx) w hT r3 r4 g3 (by omega) r2 hvl hpl ?_ ?_ ?_ ?_ ?_ ?_ ?_ ?_ ?_
 ·intro V hV
  have q:=gL k b x t l 5 V.heap.size 0 2 [rnd,qa 4 idx] (V.alloc (.cells #[string rnd,string (qa 4 idx)] 9)) (by
   intro j y hj
   match j,hj with
   |0,hj=>simp at hj;subst hj;simp[go_sem]
   |1,hj=>simp at hj;subst hj;simp[go_sem]) (by simp) (by simp) (by simp) hk (by omega) (by omega) (by rw[Eu];simp[Sa];omega) (hV.alloc _)
  simp only[Dc,Ar,List.length_cons,List.length_nil,Nat.reduceAdd]at q;exact q
 ·intro V hV;exact A9 k b x t l idx _ pub _ msg (slice none 0 0) V hk (by omega) (by omega) (by omega) (by omega) (by omega) s4 hV
 ·intro q hq V;exact le0 k b x l t q idx V r1 r2 (by omega) (by omega)
 ·intro q hq V;exact kR k b x e f t l R sec rnd pub s1 s2 s3 _ _ (yG t l q idx hq hi) V
 ·intro q hq V;have h0:=(hF q).1;have hsd:sD k b x e f t (b*e+f) sec pub idx (Eg k b (Ad k b rnd idx) (Ie k b x t (b*e+f) l sec pub) pub idx msg) q=Fj x e f (Eb (sM k b x e f t (b*e+f) sec pub idx (Eg k b (Ad k b rnd idx) (Ie k b x t (b*e+f) l sec pub) pub idx msg) q)):=rfl;rw[hsd];clear hsd;generalize sM k b x e f t (b*e+f) sec pub idx (Eg k b (Ad k b rnd idx) (Ie k b x t (b*e+f) l sec pub) pub idx msg) q=mq at h0⊢;exact Pd0 b x e f R.pr k t l mq V hk (by omega) (by omega) (by omega) (by omega) (by omega)
 ·intro q hq V g hV hrow;have hdl:=(hF q).2;have hd1:=Su q;have hsv:sV k b x e f t (b*e+f) sec pub idx (Eg k b (Ad k b rnd idx) (Ie k b x t (b*e+f) l sec pub) pub idx msg) q=Ih k b sec pub q ((idx/2^(t*q)/2^t:Nat):Int) ((idx/2^(t*q)% 2^t:Nat):Int) (sD k b x e f t (b*e+f) sec pub idx (Eg k b (Ad k b rnd idx) (Ie k b x t (b*e+f) l sec pub) pub idx msg) q) (sD k b x e f t (b*e+f) sec pub idx (Eg k b (Ad k b rnd idx) (Ie k b x t (b*e+f) l sec pub) pub idx msg) q).length:=rfl;rw[hsv];clear hsv;generalize sD k b x e f t (b*e+f) sec pub idx (Eg k b (Ad k b rnd idx) (Ie k b x t (b*e+f) l sec pub) pub idx msg) q=D at hdl hd1 hrow⊢;have h:=yS k b x t l sec rnd pub q ((idx/2^(t*q)/2^t:Nat):Int) 0 0 ((b*e+f:Nat):Int) ((idx/2^(t*q)% 2^t:Nat):Int) g 0 (b*e+f) D V hk (by omega) (by omega) (by omega) (by omega) (by rw[hdl];exact g4) (λd hd=>by have:=hd1 d hd;omega) hrow.lt (λj d hj=>by rw[Nat.zero_add];exact BS hrow j d hj) hV;rw[hdl]at h⊢;refine h.mono ?_
  rintro e' w' ⟨rfl,h2,h3⟩
  exact⟨_,rfl,by omega,h2,h3⟩
 ·intro q hq V hV;have hsp:sP k b x t (b*e+f) sec pub idx q=Si k b (x-1) (b*e+f) sec pub q ((idx/2^(t*q)/2^t:Nat):Int) (idx/2^(t*q)% 2^t) t:=rfl;rw[hsp];clear hsp;have h:=Df0 k b x l t (idx/2^(t*q)% 2^t) sec rnd pub q ((idx/2^(t*q)/2^t:Nat):Int) 0 0 (b*e+f) (x-1) V hk (by omega) (by omega) (by omega) (by omega) g3 g4 (UN R.pr) (by omega) (by omega) r2 (hq2 q) hV;refine h.mono ?_
  rintro e' w' ⟨rfl,h2,h3⟩
  exact⟨_,rfl,by omega,h2,h3⟩
 ·intro q hq V gd gv gp hV hrow Jn hkp;have hdl:=(hF q).2;have hd1:=Su q;have hv1:=hvl q;have hp1:=hpl q;have hz1:=(hsz q).1;have hz2:=(hsz q).2;have iP:sM k b x e f t (b*e+f) sec pub idx (Eg k b (Ad k b rnd idx) (Ie k b x t (b*e+f) l sec pub) pub idx msg) (q+1)=Dx k b x pub q ((idx/2^(t*q)/2^t:Nat):Int) (idx/2^(t*q)% 2^t) (sD k b x e f t (b*e+f) sec pub idx (Eg k b (Ad k b rnd idx) (Ie k b x t (b*e+f) l sec pub) pub idx msg) q) (sV k b x e f t (b*e+f) sec pub idx (Eg k b (Ad k b rnd idx) (Ie k b x t (b*e+f) l sec pub) pub idx msg) q) (sP k b x t (b*e+f) sec pub idx q):=rfl;rw[iP];clear iP;generalize sD k b x e f t (b*e+f) sec pub idx (Eg k b (Ad k b rnd idx) (Ie k b x t (b*e+f) l sec pub) pub idx msg) q=D at hdl hd1 hrow⊢;generalize sV k b x e f t (b*e+f) sec pub idx (Eg k b (Ad k b rnd idx) (Ie k b x t (b*e+f) l sec pub) pub idx msg) q=VV at hv1 hz1 Jn⊢;generalize sP k b x t (b*e+f) sec pub idx q=PP at hp1 hz2 hkp⊢;have h:=zc0 k b t l x pub q ((idx/2^(t*q)/2^t:Nat):Int) 0 (idx/2^(t*q)% 2^t) gd 0 (b*e+f) gv 0 (b*e+f) gp 0 t D VV PP V hk (by omega) (by omega) (by omega) g6 (by have:=hq2 q;omega) (by rw[hv1];exact g3) (by rw[hv1];exact g4) (by rw[hdl,hv1]) hd1 hz1 (by rw[hp1];omega) hz2 hrow.lt (λj d hj=>by rw[Nat.zero_add];exact BS hrow j d hj) Jn.lt (λj y hj=>by rw[Nat.zero_add,Jn.cell,List.getElem?_map,hj];rfl) hkp.lt (λj y hj=>by rw[Nat.zero_add,hkp.cell,List.getElem?_map,hj];rfl) hV;rw[hv1,hp1]at h;exact h
 ·intro V g c hg hc hce;rw[Jo]at hc⊢
  have h:=u6 k b x t l _ _ ((b*e+f:Nat):Int) _ _ _ (idx:Int) (l*(b*e+f+t)) g c (Ad k b rnd idx) (Dc (Oe (sV k b x e f t (b*e+f) sec pub idx (Eg k b (Ad k b rnd idx) (Ie k b x t (b*e+f) l sec pub) pub idx msg)) (sP k b x t (b*e+f) sec pub idx) l)) V (by rw[IntKind.wrap_i64]<;>omega) (by
    rw[<-Int.natCast_add,<-Int.natCast_mul,IntKind.wrap_i64]<;>omega) (by omega) (by
    have hnb:l*(b*e+f+t)*b<=120*8:=Nat.mul_le_mul Lt (by omega);rw[rE b _ hps,Jo];omega) (λV=>oC k b x e f t l R V) (λV=>by
    have h:=J5 k b x t l (idx:Int) _ _ _ _ _ _ V (λV=>oC k b x e f t l R V);rw[decide_eq_true (by omega)]at h;exact h) (λV B hB=>by
    have h:=bg0 k b x t l (Ad k b rnd idx) V B hB;rw[show(((Ad k b rnd idx).size:Int)==(b:Int))=true by rw[Ir];simp]at h;exact h) (λV' hb'=>by
    have h:=iL k b x t l g 0 c (Oe (sV k b x e f t (b*e+f) sec pub idx (Eg k b (Ad k b rnd idx) (Ie k b x t (b*e+f) l sec pub) pub idx msg)) (sP k b x t (b*e+f) sec pub idx) l) V' (λj y hj=>by
     rw[Nat.zero_add];exact(hb'.cell (p:=⟨g,j,none⟩) hg).trans (hce j y hj)) (Nat.lt_of_lt_of_le hg hb'.size) (by omega)
    rw[(IA (b:Int) _).2 hps,Jo]at h;exact h) (λV' hb'=>by
    have hnb:l*(b*e+f+t)*b<=120*8:=Nat.mul_le_mul Lt (by omega)
    have h:=oF g 0 c (Oe (sV k b x e f t (b*e+f) sec pub idx (Eg k b (Ad k b rnd idx) (Ie k b x t (b*e+f) l sec pub) pub idx msg)) (sP k b x t (b*e+f) sec pub idx) l) V' (λj y hj=>by
     rw[Nat.zero_add];exact(hb'.cell (p:=⟨g,j,none⟩) hg).trans (hce j y hj)) (Nat.lt_of_lt_of_le hg hb'.size) (by omega) (by omega) (by rw[rE b _ hps,Jo];omega)
    rw[Jo]at h;exact h)
  exact h
end Go.Proofs.YtgaoeoijdpdjiabGreatDoor
namespace Go.Proofs.YtgaoeoijdpdjiabGreatDoor
open Go.RowKit
variable {S D:Nat}{en:Int}{ov:Bool}{k b x t l:Int}{sec rnd pub:ByteArray}{bat:Int}{key id:ByteArray}{nx bd q:Int}{tr:Value}{w:World}
theorem Zc0 (hS:ma w S (Oc D en ov k b x t l sec rnd pub bat key id nx bd q tr) 302):Calls prog 151 #[pointer (some ⟨S,0,none⟩)] w λe w'=>e=.returned (string key)/\w'=w:=by
 have c0:=Bh hS;clear hS;go_enter func151,ntmps151;go_wp2;go_ret;exact⟨rfl,rfl⟩
def Gh (ov:Bool)(en Md:Int):Bool:=ov|| !(en==Md)
theorem Dq {Md:Int}(hS:ma w S (Oc D en ov k b x t l sec rnd pub bat key id nx bd q tr) 302)(h4:w.cell? ⟨D,4,none⟩=some (int i64 Md)):Calls prog 228 #[pointer (some ⟨S,0,none⟩)] w λe w'=>e=.returned (.bool (Gh ov en Md))/\Below w.heap.size w w':=by
 have c0:=Fa hS;have c1:=Ja hS;have c2:=Ha hS;have Vd:=aa hS.lt;clear hS
 cases ov with
 |true=>
  go_enter func228,ntmps228;go_wp2_with fail;go_quiet (fail);go_wp2;go_ret;exact⟨rfl,⟨rfl,rfl,rfl,Aa,λ_ _=>rfl⟩⟩
 |false=>
  by_cases he:en=Md
  ·have e1:(en==Md)=true:=by simpa using he
   have e2:(en !=Md)=false:=by simpa using he
   clear he;go_enter func228,ntmps228;go_wp2_with fail;go_quiet (fail);go_wp2;go_ret;exact⟨by simp[Gh,e1],⟨rfl,rfl,rfl,Aa,λ_ _=>rfl⟩⟩
  ·have e1:(en==Md)=false:=by simpa using he
   have e2:(en !=Md)=true:=by simpa using he
   clear he;go_enter func228,ntmps228;go_wp2_with fail;go_quiet (fail);go_wp2;go_ret;exact⟨by simp[Gh,e1],⟨rfl,rfl,rfl,Aa,λ_ _=>rfl⟩⟩
end Go.Proofs.YtgaoeoijdpdjiabGreatDoor
namespace Go.Proofs.YtgaoeoijdpdjiabGreatDoor
open Go.RowKit
theorem gd0 {S D:Nat}{en:Int}{ov:Bool}{k b x t l:Int}{sec rnd pub:ByteArray}{bat:Int}{key id:ByteArray}{nx bd q:Int}{tr:Value}{w:World}(rq rb:Int)(ri:ByteArray)(z0 z1 z2 tot z4 z5:Int)(hS:ma w S (Oc D en ov k b x t l sec rnd pub bat key id nx bd q tr) 302)
  (hZ:∀V:World,Calls prog 83 #[.agg #[int i64 k,int i64 b,int i64 x,int i64 t,int i64 l]] V λe w'=>e=.returned (.agg #[int i64 z0,int i64 z1,int i64 z2,int i64 tot,int i64 z4,int i64 z5])/\Below V.heap.size V w')(hi:ri=id)(hb1:rb<=tot):Calls prog 227 #[pointer (some ⟨S,0,none⟩),.agg #[int i64 rq,int i64 rb,string ri]] w λe w'=>e=.returned (.agg #[int i64 rq,int i64 rb,string ri])/\Below w.heap.size w w':=by
 obtain⟨W0,hW⟩:=Ca ((w.alloc (.cells #[int i64 rq,int i64 rb,string ri] 186)).alloc (.cells #[int i64 0,int i64 0,string ⟨#[]⟩] 186))
 have HX0:=aa (show ma W0 w.heap.size [int i64 rq,int i64 rb,string ri] 186/\ma W0 (w.heap.size+1) [int i64 0,int i64 0,string ⟨#[]⟩] 186 by
  subst hW;refine⟨(ma.new w _ _).alloc _,?_⟩;have h:=ma.new (w.alloc (.cells #[int i64 rq,int i64 rb,string ri] 186)) [int i64 0,int i64 0,string ⟨#[]⟩] 186;simp only[World.size_alloc]at h;exact h)
 have HB0:=Gc hW;have Mf:=aa (hS.on HB0.out);have rf:=aa (λ(V:World) (hb:Below w.heap.size w V)=>hS.on hb);have c3:=Xa Mf.out;have c4:=Ya Mf.out;have c5:=Ee Mf.out;have c6:=jf Mf.out;have c7:=Ch Mf.out;have HZ:=aa hZ;have Ea:=aa hW;clear hW hS hZ;subst hi;have d1:decide (tot<rb)=false:=decide_eq_false (by omega);go_enter func227,ntmps227;go_upto_region 1 with fail;rw[Ea.out];clear Ea;go_wp2_with fail;refine(HZ.out _).mono ?_
 rintro e w1 ⟨rfl,hb⟩
 obtain⟨W1,hW1⟩:∃X,w1.alloc (.cells #[int i64 z0,int i64 z1,int i64 z2,int i64 tot,int i64 z4,int i64 z5] 158)=X:=⟨_,rfl⟩;have HB1:=aa (show Below w.heap.size w W1 by rw[<-hW1];exact(Ga HB0.out hb Aa).alloc (Ga HB0.out hb Aa).size _);have Ra:=aa (show ma W1 w.heap.size [int i64 rq,int i64 rb,string ri] 186/\ma W1 (w.heap.size+1) [int i64 0,int i64 0,string ⟨#[]⟩] 186 by rw[<-hW1];exact⟨(HX0.out.1.on hb).alloc _,(HX0.out.2.on hb).alloc _⟩);obtain⟨Z,hZ1⟩:∃X,w1.heap.size=X:=⟨_,rfl⟩;have y3:W1.cell? ⟨Z,3,none⟩=some (int i64 tot):=by rw[<-hW1,<-hZ1];exact(ma.new w1 [int i64 z0,int i64 z1,int i64 z2,int i64 tot,int i64 z4,int i64 z5] 158).cell 3
 have c13:=Dt ((rf.out _ HB1.out));have x0:=Fa Ra.out.1;have x1:=Ja Ra.out.1;have x2:=Ha Ra.out.1;have r0:=Fa Ra.out.2;have r1:=Ja Ra.out.2;have r2:=Ha Ra.out.2;have f0:=Ra.out.2.free 0;have f1:=Ra.out.2.free 1;have f2:=Ra.out.2.free 2;have Qe:=aa (((HB1.out.setCell (p:=⟨w.heap.size+1,0,none⟩) (Nat.le_succ _) (int i64 rq)).setCell (p:=⟨w.heap.size+1,1,none⟩) (Nat.le_succ _) (int i64 rb)).setCell (p:=⟨w.heap.size+1,2,none⟩) (Nat.le_succ _) (string ri));clear c3 c4 c5 c6 c7 hb;go_upto_region 2 with fail
 (try rw[hW1])
 (try rw[hZ1])
 clear hW1 hZ1;go_quiet (fail);go_wp2;refine bodyPost_ret (v:=.agg #[int i64 rq,int i64 rb,string ri]) (by simp[results,results227,go_sem,r0,r1,r2]) rfl ⟨rfl,⟨Qe.out.os,Qe.out.tape,Qe.out.output,Qe.out.size,Qe.out.block⟩⟩
theorem ed0 {S D:Nat}{en:Int}{ov:Bool}{k b x t l:Int}{sec rnd pub:ByteArray}{bat:Int}{key id:ByteArray}{nx bd q:Int}{tr:Value}{w:World}(rq rb:Int)(ri:ByteArray)(z0 z1 z2 tot z4 z5:Int)(hS:ma w S (Oc D en ov k b x t l sec rnd pub bat key id nx bd q tr) 302)
  (hZ:∀V:World,Calls prog 83 #[.agg #[int i64 k,int i64 b,int i64 x,int i64 t,int i64 l]] V λe w'=>e=.returned (.agg #[int i64 z0,int i64 z1,int i64 z2,int i64 tot,int i64 z4,int i64 z5])/\Below V.heap.size V w')(hi:ri≠id):Calls prog 227 #[pointer (some ⟨S,0,none⟩),.agg #[int i64 rq,int i64 rb,string ri]] w λe w'=>e=.returned (.agg #[int i64 0,int i64 0,string ⟨#[]⟩])/\Below w.heap.size w w':=by
 obtain⟨W0,hW⟩:=Ca ((w.alloc (.cells #[int i64 rq,int i64 rb,string ri] 186)).alloc (.cells #[int i64 0,int i64 0,string ⟨#[]⟩] 186))
 have HX0:=aa (show ma W0 w.heap.size [int i64 rq,int i64 rb,string ri] 186/\ma W0 (w.heap.size+1) [int i64 0,int i64 0,string ⟨#[]⟩] 186 by
  subst hW;refine⟨(ma.new w _ _).alloc _,?_⟩;have h:=ma.new (w.alloc (.cells #[int i64 rq,int i64 rb,string ri] 186)) [int i64 0,int i64 0,string ⟨#[]⟩] 186;simp only[World.size_alloc]at h;exact h)
 have HB0:=Gc hW;have Mf:=aa (hS.on HB0.out);have rf:=aa (λ(V:World) (hb:Below w.heap.size w V)=>hS.on hb);have c3:=Xa Mf.out;have c4:=Ya Mf.out;have c5:=Ee Mf.out;have c6:=jf Mf.out;have c7:=Ch Mf.out;have HZ:=aa hZ;have Ea:=aa hW;clear hW hS hZ;have e1:(ri.toList==id.toList)=false:=xG hi;have e2:(ri.toList !=id.toList)=true:=by rw[bne,e1];rfl
 have e3:¬ri.toList=id.toList:=λe=>by rw[e]at e1;simp at e1
 clear hi;go_enter func227,ntmps227;go_upto_region 1 with fail;rw[Ea.out];clear Ea;go_wp2_with fail;refine(HZ.out _).mono ?_
 rintro e w1 ⟨rfl,hb⟩
 obtain⟨W1,hW1⟩:∃X,w1.alloc (.cells #[int i64 z0,int i64 z1,int i64 z2,int i64 tot,int i64 z4,int i64 z5] 158)=X:=⟨_,rfl⟩;have HB1:=aa (show Below w.heap.size w W1 by rw[<-hW1];exact(Ga HB0.out hb Aa).alloc (Ga HB0.out hb Aa).size _);have Ra:=aa (show ma W1 w.heap.size [int i64 rq,int i64 rb,string ri] 186/\ma W1 (w.heap.size+1) [int i64 0,int i64 0,string ⟨#[]⟩] 186 by rw[<-hW1];exact⟨(HX0.out.1.on hb).alloc _,(HX0.out.2.on hb).alloc _⟩);obtain⟨Z,hZ1⟩:∃X,w1.heap.size=X:=⟨_,rfl⟩;have y3:W1.cell? ⟨Z,3,none⟩=some (int i64 tot):=by rw[<-hW1,<-hZ1];exact(ma.new w1 [int i64 z0,int i64 z1,int i64 z2,int i64 tot,int i64 z4,int i64 z5] 158).cell 3
 have c13:=Dt ((rf.out _ HB1.out));have x0:=Fa Ra.out.1;have x1:=Ja Ra.out.1;have x2:=Ha Ra.out.1;have r0:=Fa Ra.out.2;have r1:=Ja Ra.out.2;have r2:=Ha Ra.out.2;have f0:=Ra.out.2.free 0;have f1:=Ra.out.2.free 1;have f2:=Ra.out.2.free 2;have Qe:=aa (((HB1.out.setCell (p:=⟨w.heap.size+1,0,none⟩) (Nat.le_succ _) (int i64 0)).setCell (p:=⟨w.heap.size+1,1,none⟩) (Nat.le_succ _) (int i64 0)).setCell (p:=⟨w.heap.size+1,2,none⟩) (Nat.le_succ _) (string ⟨#[]⟩));clear c3 c4 c5 c6 c7 hb;go_upto_region 2 with fail
 (try rw[hW1])
 (try rw[hZ1])
 clear hW1 hZ1;go_quiet (fail);go_wp2;refine bodyPost_ret (v:=.agg #[int i64 0,int i64 0,string ⟨#[]⟩]) (by simp[results,results227,go_sem,r0,r1,r2]) rfl ⟨rfl,⟨Qe.out.os,Qe.out.tape,Qe.out.output,Qe.out.size,Qe.out.block⟩⟩
theorem dd0 {S D:Nat}{en:Int}{ov:Bool}{k b x t l:Int}{sec rnd pub:ByteArray}{bat:Int}{key id:ByteArray}{nx bd q:Int}{tr:Value}{w:World}(rq rb:Int)(ri:ByteArray)(z0 z1 z2 tot z4 z5:Int)(hS:ma w S (Oc D en ov k b x t l sec rnd pub bat key id nx bd q tr) 302)
  (hZ:∀V:World,Calls prog 83 #[.agg #[int i64 k,int i64 b,int i64 x,int i64 t,int i64 l]] V λe w'=>e=.returned (.agg #[int i64 z0,int i64 z1,int i64 z2,int i64 tot,int i64 z4,int i64 z5])/\Below V.heap.size V w')(hi:ri=id)(hb1:tot<rb):Calls prog 227 #[pointer (some ⟨S,0,none⟩),.agg #[int i64 rq,int i64 rb,string ri]] w λe w'=>e=.returned (.agg #[int i64 0,int i64 0,string ⟨#[]⟩])/\Below w.heap.size w w':=by
 obtain⟨W0,hW⟩:=Ca ((w.alloc (.cells #[int i64 rq,int i64 rb,string ri] 186)).alloc (.cells #[int i64 0,int i64 0,string ⟨#[]⟩] 186))
 have HX0:=aa (show ma W0 w.heap.size [int i64 rq,int i64 rb,string ri] 186/\ma W0 (w.heap.size+1) [int i64 0,int i64 0,string ⟨#[]⟩] 186 by
  subst hW;refine⟨(ma.new w _ _).alloc _,?_⟩;have h:=ma.new (w.alloc (.cells #[int i64 rq,int i64 rb,string ri] 186)) [int i64 0,int i64 0,string ⟨#[]⟩] 186;simp only[World.size_alloc]at h;exact h)
 have HB0:=Gc hW;have Mf:=aa (hS.on HB0.out);have rf:=aa (λ(V:World) (hb:Below w.heap.size w V)=>hS.on hb);have c3:=Xa Mf.out;have c4:=Ya Mf.out;have c5:=Ee Mf.out;have c6:=jf Mf.out;have c7:=Ch Mf.out;have HZ:=aa hZ;have Ea:=aa hW;clear hW hS hZ;subst hi;have d1:decide (tot<rb)=true:=decide_eq_true hb1;go_enter func227,ntmps227;go_upto_region 1 with fail;rw[Ea.out];clear Ea;go_wp2_with fail;refine(HZ.out _).mono ?_
 rintro e w1 ⟨rfl,hb⟩
 obtain⟨W1,hW1⟩:∃X,w1.alloc (.cells #[int i64 z0,int i64 z1,int i64 z2,int i64 tot,int i64 z4,int i64 z5] 158)=X:=⟨_,rfl⟩;have HB1:=aa (show Below w.heap.size w W1 by rw[<-hW1];exact(Ga HB0.out hb Aa).alloc (Ga HB0.out hb Aa).size _);have Ra:=aa (show ma W1 w.heap.size [int i64 rq,int i64 rb,string ri] 186/\ma W1 (w.heap.size+1) [int i64 0,int i64 0,string ⟨#[]⟩] 186 by rw[<-hW1];exact⟨(HX0.out.1.on hb).alloc _,(HX0.out.2.on hb).alloc _⟩);obtain⟨Z,hZ1⟩:∃X,w1.heap.size=X:=⟨_,rfl⟩;have y3:W1.cell? ⟨Z,3,none⟩=some (int i64 tot):=by rw[<-hW1,<-hZ1];exact(ma.new w1 [int i64 z0,int i64 z1,int i64 z2,int i64 tot,int i64 z4,int i64 z5] 158).cell 3
 have c13:=Dt ((rf.out _ HB1.out));have x0:=Fa Ra.out.1;have x1:=Ja Ra.out.1;have x2:=Ha Ra.out.1;have r0:=Fa Ra.out.2;have r1:=Ja Ra.out.2;have r2:=Ha Ra.out.2;have f0:=Ra.out.2.free 0;have f1:=Ra.out.2.free 1;have f2:=Ra.out.2.free 2;have Qe:=aa (((HB1.out.setCell (p:=⟨w.heap.size+1,0,none⟩) (Nat.le_succ _) (int i64 0)).setCell (p:=⟨w.heap.size+1,1,none⟩) (Nat.le_succ _) (int i64 0)).setCell (p:=⟨w.heap.size+1,2,none⟩) (Nat.le_succ _) (string ⟨#[]⟩));clear c3 c4 c5 c6 c7 hb;go_upto_region 2 with fail
 (try rw[hW1])
 (try rw[hZ1])
 clear hW1 hZ1;go_quiet (fail);go_wp2;refine bodyPost_ret (v:=.agg #[int i64 0,int i64 0,string ⟨#[]⟩]) (by simp[results,results227,go_sem,r0,r1,r2]) rfl ⟨rfl,⟨Qe.out.os,Qe.out.tape,Qe.out.output,Qe.out.size,Qe.out.block⟩⟩
theorem zS (k b x t l bat:Int)(sec rnd pub:ByteArray)(dv:Option Addr)(w:World)(hC:∀V:World,Calls prog 82 #[.agg #[int i64 k,int i64 b,int i64 x,int i64 t,int i64 l]] V λe w'=>e=.returned (int i64 1)/\Below V.heap.size V w'):Calls prog 223 #[pointer dv,.agg #[int i64 k,int i64 b,int i64 x,int i64 t,int i64 l],.agg #[string sec,string rnd,string pub],int i64 bat] w λe w'=>e=.returned (int i64 1)/\Below w.heap.size w w':=by
 obtain⟨W0,hW⟩:=Ca ((w.alloc (.cells #[int i64 k,int i64 b,int i64 x,int i64 t,int i64 l] 26)).alloc (.cells #[string sec,string rnd,string pub] 42))
 have HX0:=aa (show ma W0 w.heap.size [int i64 k,int i64 b,int i64 x,int i64 t,int i64 l] 26/\ma W0 (w.heap.size+1) [string sec,string rnd,string pub] 42 by
  subst hW;refine⟨(ma.new w _ _).alloc _,?_⟩;have h:=ma.new (w.alloc (.cells #[int i64 k,int i64 b,int i64 x,int i64 t,int i64 l] 26)) [string sec,string rnd,string pub] 42;simp only[World.size_alloc]at h;exact h)
 have HB0:=Gc hW;have ed:=aa (λ(V:World) (h:ma V w.heap.size [int i64 k,int i64 b,int i64 x,int i64 t,int i64 l] 26/\ma V (w.heap.size+1) [string sec,string rnd,string pub] 42)=>(Ul (Fa h.1) (Ja h.1) (Ha h.1) (Xa h.1) (Ya h.1) (Fa h.2) (Ja h.2) (Ha h.2)));have Ea:=aa hW;have HC:=aa hC;clear hW hC;go_enter func223,ntmps223;go_wp2_with fail;rw[Ea.out];clear Ea;obtain⟨c0,c1,c2,c3,c4,s0,s1,s2⟩:=ed.out _ HX0.out;refine(HC.out _).mono ?_
 rintro e w1 ⟨rfl,hb⟩
 have Ra:=aa (And.intro (HX0.out.1.on hb) (HX0.out.2.on hb));have HB1:=aa (Ga HB0.out hb Aa);clear hb HX0 HB0 c0 c1 c2 c3 c4 s0 s1 s2;obtain⟨c0,c1,c2,c3,c4,s0,s1,s2⟩:=ed.out _ Ra.out;go_wp2;go_ret;exact⟨rfl,HB1.out⟩
theorem cc0 (k b x t l bat:Int)(sec rnd pub:ByteArray)(sb:Bool)(w:World)(hC:∀V:World,Calls prog 82 #[.agg #[int i64 k,int i64 b,int i64 x,int i64 t,int i64 l]] V λe w'=>e=.returned (int i64 0)/\Below V.heap.size V w')(hV:∀V:World,Calls prog 212 #[.agg #[int i64 k,int i64 b,int i64 x,int i64 t,int i64 l],.agg #[string sec,string rnd,string pub]] V λe w'=>e=.returned (.bool sb)/\Below V.heap.size V w'):Calls prog 223 #[pointer none,.agg #[int i64 k,int i64 b,int i64 x,int i64 t,int i64 l],.agg #[string sec,string rnd,string pub],int i64 bat] w λe w'=>e=.returned (int i64 2)/\Below w.heap.size w w':=by
 obtain⟨W0,hW⟩:=Ca ((w.alloc (.cells #[int i64 k,int i64 b,int i64 x,int i64 t,int i64 l] 26)).alloc (.cells #[string sec,string rnd,string pub] 42))
 have HX0:=aa (show ma W0 w.heap.size [int i64 k,int i64 b,int i64 x,int i64 t,int i64 l] 26/\ma W0 (w.heap.size+1) [string sec,string rnd,string pub] 42 by
  subst hW;refine⟨(ma.new w _ _).alloc _,?_⟩;have h:=ma.new (w.alloc (.cells #[int i64 k,int i64 b,int i64 x,int i64 t,int i64 l] 26)) [string sec,string rnd,string pub] 42;simp only[World.size_alloc]at h;exact h)
 have HB0:=Gc hW;have ed:=aa (λ(V:World) (h:ma V w.heap.size [int i64 k,int i64 b,int i64 x,int i64 t,int i64 l] 26/\ma V (w.heap.size+1) [string sec,string rnd,string pub] 42)=>(Ul (Fa h.1) (Ja h.1) (Ha h.1) (Xa h.1) (Ya h.1) (Fa h.2) (Ja h.2) (Ha h.2)));have Ea:=aa hW;have HC:=aa hC;have HV:=aa hV;clear hW hC hV;go_enter func223,ntmps223;go_wp2_with fail;rw[Ea.out];clear Ea;obtain⟨c0,c1,c2,c3,c4,s0,s1,s2⟩:=ed.out _ HX0.out;refine(HC.out _).mono ?_
 rintro e w1 ⟨rfl,hb⟩
 have Ra:=aa (And.intro (HX0.out.1.on hb) (HX0.out.2.on hb));have HB1:=aa (Ga HB0.out hb Aa);clear hb HX0 HB0 c0 c1 c2 c3 c4 s0 s1 s2;obtain⟨c0,c1,c2,c3,c4,s0,s1,s2⟩:=ed.out _ Ra.out;go_wp2_with fail;refine(HV.out _).mono ?_
 rintro e w2 ⟨rfl,hb⟩
 have lg:=aa (And.intro (Ra.out.1.on hb) (Ra.out.2.on hb));have HB2:=aa (Ga HB1.out hb Aa);clear hb Ra HB1 c0 c1 c2 c3 c4 s0 s1 s2;obtain⟨c0,c1,c2,c3,c4,s0,s1,s2⟩:=ed.out _ lg.out;go_wp2;go_ret;exact⟨rfl,HB2.out⟩
theorem fc0 (k b x t l bat:Int)(sec rnd pub:ByteArray)(D:Nat)(w:World)(hC:∀V:World,Calls prog 82 #[.agg #[int i64 k,int i64 b,int i64 x,int i64 t,int i64 l]] V λe w'=>e=.returned (int i64 0)/\Below V.heap.size V w')(hV:∀V:World,Calls prog 212 #[.agg #[int i64 k,int i64 b,int i64 x,int i64 t,int i64 l],.agg #[string sec,string rnd,string pub]] V λe w'=>e=.returned (.bool false)/\Below V.heap.size V w'):Calls prog 223 #[pointer (some ⟨D,0,none⟩),.agg #[int i64 k,int i64 b,int i64 x,int i64 t,int i64 l],.agg #[string sec,string rnd,string pub],int i64 bat] w λe w'=>e=.returned (int i64 2)/\Below w.heap.size w w':=by
 obtain⟨W0,hW⟩:=Ca ((w.alloc (.cells #[int i64 k,int i64 b,int i64 x,int i64 t,int i64 l] 26)).alloc (.cells #[string sec,string rnd,string pub] 42))
 have HX0:=aa (show ma W0 w.heap.size [int i64 k,int i64 b,int i64 x,int i64 t,int i64 l] 26/\ma W0 (w.heap.size+1) [string sec,string rnd,string pub] 42 by
  subst hW;refine⟨(ma.new w _ _).alloc _,?_⟩;have h:=ma.new (w.alloc (.cells #[int i64 k,int i64 b,int i64 x,int i64 t,int i64 l] 26)) [string sec,string rnd,string pub] 42;simp only[World.size_alloc]at h;exact h)
 have HB0:=Gc hW;have ed:=aa (λ(V:World) (h:ma V w.heap.size [int i64 k,int i64 b,int i64 x,int i64 t,int i64 l] 26/\ma V (w.heap.size+1) [string sec,string rnd,string pub] 42)=>(Ul (Fa h.1) (Ja h.1) (Ha h.1) (Xa h.1) (Ya h.1) (Fa h.2) (Ja h.2) (Ha h.2)));have Ea:=aa hW;have HC:=aa hC;have HV:=aa hV;clear hW hC hV;go_enter func223,ntmps223;go_wp2_with fail;rw[Ea.out];clear Ea;obtain⟨c0,c1,c2,c3,c4,s0,s1,s2⟩:=ed.out _ HX0.out;refine(HC.out _).mono ?_
 rintro e w1 ⟨rfl,hb⟩
 have Ra:=aa (And.intro (HX0.out.1.on hb) (HX0.out.2.on hb));have HB1:=aa (Ga HB0.out hb Aa);clear hb HX0 HB0 c0 c1 c2 c3 c4 s0 s1 s2;obtain⟨c0,c1,c2,c3,c4,s0,s1,s2⟩:=ed.out _ Ra.out;go_wp2_with fail;refine(HV.out _).mono ?_
 rintro e w2 ⟨rfl,hb⟩
 have lg:=aa (And.intro (Ra.out.1.on hb) (Ra.out.2.on hb));have HB2:=aa (Ga HB1.out hb Aa);clear hb Ra HB1 c0 c1 c2 c3 c4 s0 s1 s2;obtain⟨c0,c1,c2,c3,c4,s0,s1,s2⟩:=ed.out _ lg.out;go_wp2;go_ret;exact⟨rfl,HB2.out⟩
theorem ac0 (k b x t l bat:Int)(sec rnd pub:ByteArray)(D:Nat)(w:World)(hC:∀V:World,Calls prog 82 #[.agg #[int i64 k,int i64 b,int i64 x,int i64 t,int i64 l]] V λe w'=>e=.returned (int i64 0)/\Below V.heap.size V w')(hV:∀V:World,Calls prog 212 #[.agg #[int i64 k,int i64 b,int i64 x,int i64 t,int i64 l],.agg #[string sec,string rnd,string pub]] V λe w'=>e=.returned (.bool true)/\Below V.heap.size V w')(h1:bat<1):Calls prog 223 #[pointer (some ⟨D,0,none⟩),.agg #[int i64 k,int i64 b,int i64 x,int i64 t,int i64 l],.agg #[string sec,string rnd,string pub],int i64 bat] w λe w'=>e=.returned (int i64 2)/\Below w.heap.size w w':=by
 obtain⟨W0,hW⟩:=Ca ((w.alloc (.cells #[int i64 k,int i64 b,int i64 x,int i64 t,int i64 l] 26)).alloc (.cells #[string sec,string rnd,string pub] 42))
 have HX0:=aa (show ma W0 w.heap.size [int i64 k,int i64 b,int i64 x,int i64 t,int i64 l] 26/\ma W0 (w.heap.size+1) [string sec,string rnd,string pub] 42 by
  subst hW;refine⟨(ma.new w _ _).alloc _,?_⟩;have h:=ma.new (w.alloc (.cells #[int i64 k,int i64 b,int i64 x,int i64 t,int i64 l] 26)) [string sec,string rnd,string pub] 42;simp only[World.size_alloc]at h;exact h)
 have HB0:=Gc hW;have ed:=aa (λ(V:World) (h:ma V w.heap.size [int i64 k,int i64 b,int i64 x,int i64 t,int i64 l] 26/\ma V (w.heap.size+1) [string sec,string rnd,string pub] 42)=>(Ul (Fa h.1) (Ja h.1) (Ha h.1) (Xa h.1) (Ya h.1) (Fa h.2) (Ja h.2) (Ha h.2)));have Ea:=aa hW;have HC:=aa hC;have HV:=aa hV;clear hW hC hV;have d1:decide (bat<1)=true:=decide_eq_true h1;go_enter func223,ntmps223;go_wp2_with fail;rw[Ea.out];clear Ea;obtain⟨c0,c1,c2,c3,c4,s0,s1,s2⟩:=ed.out _ HX0.out;refine(HC.out _).mono ?_
 rintro e w1 ⟨rfl,hb⟩
 have Ra:=aa (And.intro (HX0.out.1.on hb) (HX0.out.2.on hb));have HB1:=aa (Ga HB0.out hb Aa);clear hb HX0 HB0 c0 c1 c2 c3 c4 s0 s1 s2;obtain⟨c0,c1,c2,c3,c4,s0,s1,s2⟩:=ed.out _ Ra.out;go_wp2_with fail;refine(HV.out _).mono ?_
 rintro e w2 ⟨rfl,hb⟩
 have lg:=aa (And.intro (Ra.out.1.on hb) (Ra.out.2.on hb));have HB2:=aa (Ga HB1.out hb Aa);clear hb Ra HB1 c0 c1 c2 c3 c4 s0 s1 s2;obtain⟨c0,c1,c2,c3,c4,s0,s1,s2⟩:=ed.out _ lg.out;go_wp2;go_ret;exact⟨rfl,HB2.out⟩
theorem gc0 (k b x t l bat:Int)(sec rnd pub:ByteArray)(D:Nat)(w:World)(hC:∀V:World,Calls prog 82 #[.agg #[int i64 k,int i64 b,int i64 x,int i64 t,int i64 l]] V λe w'=>e=.returned (int i64 0)/\Below V.heap.size V w')(hV:∀V:World,Calls prog 212 #[.agg #[int i64 k,int i64 b,int i64 x,int i64 t,int i64 l],.agg #[string sec,string rnd,string pub]] V λe w'=>e=.returned (.bool true)/\Below V.heap.size V w')(h2:64<bat):Calls prog 223 #[pointer (some ⟨D,0,none⟩),.agg #[int i64 k,int i64 b,int i64 x,int i64 t,int i64 l],.agg #[string sec,string rnd,string pub],int i64 bat] w λe w'=>e=.returned (int i64 2)/\Below w.heap.size w w':=by
 obtain⟨W0,hW⟩:=Ca ((w.alloc (.cells #[int i64 k,int i64 b,int i64 x,int i64 t,int i64 l] 26)).alloc (.cells #[string sec,string rnd,string pub] 42))
 have HX0:=aa (show ma W0 w.heap.size [int i64 k,int i64 b,int i64 x,int i64 t,int i64 l] 26/\ma W0 (w.heap.size+1) [string sec,string rnd,string pub] 42 by
  subst hW;refine⟨(ma.new w _ _).alloc _,?_⟩;have h:=ma.new (w.alloc (.cells #[int i64 k,int i64 b,int i64 x,int i64 t,int i64 l] 26)) [string sec,string rnd,string pub] 42;simp only[World.size_alloc]at h;exact h)
 have HB0:=Gc hW;have ed:=aa (λ(V:World) (h:ma V w.heap.size [int i64 k,int i64 b,int i64 x,int i64 t,int i64 l] 26/\ma V (w.heap.size+1) [string sec,string rnd,string pub] 42)=>(Ul (Fa h.1) (Ja h.1) (Ha h.1) (Xa h.1) (Ya h.1) (Fa h.2) (Ja h.2) (Ha h.2)));have Ea:=aa hW;have HC:=aa hC;have HV:=aa hV;clear hW hC hV;have d1:decide (bat<1)=false:=decide_eq_false (by omega);have d2:decide (64<bat)=true:=decide_eq_true h2;go_enter func223,ntmps223;go_wp2_with fail;rw[Ea.out];clear Ea;obtain⟨c0,c1,c2,c3,c4,s0,s1,s2⟩:=ed.out _ HX0.out;refine(HC.out _).mono ?_
 rintro e w1 ⟨rfl,hb⟩
 have Ra:=aa (And.intro (HX0.out.1.on hb) (HX0.out.2.on hb));have HB1:=aa (Ga HB0.out hb Aa);clear hb HX0 HB0 c0 c1 c2 c3 c4 s0 s1 s2;obtain⟨c0,c1,c2,c3,c4,s0,s1,s2⟩:=ed.out _ Ra.out;go_wp2_with fail;refine(HV.out _).mono ?_
 rintro e w2 ⟨rfl,hb⟩
 have lg:=aa (And.intro (Ra.out.1.on hb) (Ra.out.2.on hb));have HB2:=aa (Ga HB1.out hb Aa);clear hb Ra HB1 c0 c1 c2 c3 c4 s0 s1 s2;obtain⟨c0,c1,c2,c3,c4,s0,s1,s2⟩:=ed.out _ lg.out;go_wp2;go_ret;exact⟨rfl,HB2.out⟩
theorem Zb0 (k b x t l bat:Int)(sec rnd pub:ByteArray)(D:Nat)(n:Int)(w:World)(hC:∀V:World,Calls prog 82 #[.agg #[int i64 k,int i64 b,int i64 x,int i64 t,int i64 l]] V λe w'=>e=.returned (int i64 0)/\Below V.heap.size V w')(hV:∀V:World,Calls prog 212 #[.agg #[int i64 k,int i64 b,int i64 x,int i64 t,int i64 l],.agg #[string sec,string rnd,string pub]] V λe w'=>e=.returned (.bool true)/\Below V.heap.size V w')(h1:1<=bat)(h2:bat<=64)(hD:D<w.heap.size)(h0:w.cell? ⟨D,0,none⟩=some (int i64 n))(hn:n<2):Calls prog 223 #[pointer (some ⟨D,0,none⟩),.agg #[int i64 k,int i64 b,int i64 x,int i64 t,int i64 l],.agg #[string sec,string rnd,string pub],int i64 bat] w λe w'=>e=.returned (int i64 2)/\Below w.heap.size w w':=by
 obtain⟨W0,hW⟩:=Ca ((w.alloc (.cells #[int i64 k,int i64 b,int i64 x,int i64 t,int i64 l] 26)).alloc (.cells #[string sec,string rnd,string pub] 42))
 have HX0:=aa (show ma W0 w.heap.size [int i64 k,int i64 b,int i64 x,int i64 t,int i64 l] 26/\ma W0 (w.heap.size+1) [string sec,string rnd,string pub] 42 by
  subst hW;refine⟨(ma.new w _ _).alloc _,?_⟩;have h:=ma.new (w.alloc (.cells #[int i64 k,int i64 b,int i64 x,int i64 t,int i64 l] 26)) [string sec,string rnd,string pub] 42;simp only[World.size_alloc]at h;exact h)
 have HB0:=Gc hW;have ed:=aa (λ(V:World) (h:ma V w.heap.size [int i64 k,int i64 b,int i64 x,int i64 t,int i64 l] 26/\ma V (w.heap.size+1) [string sec,string rnd,string pub] 42)=>(Ul (Fa h.1) (Ja h.1) (Ha h.1) (Xa h.1) (Ya h.1) (Fa h.2) (Ja h.2) (Ha h.2)));have Ea:=aa hW;have HC:=aa hC;have HV:=aa hV;clear hW hC hV;have d1:decide (bat<1)=false:=decide_eq_false (by omega);have d2:decide (64<bat)=false:=decide_eq_false (by omega);have Nq:=aa (λ(V:World) (hb:Below w.heap.size w V)=>(hb.cell (p:=⟨D,0,none⟩) hD).trans h0);clear h0;go_enter func223,ntmps223;go_wp2_with fail;rw[Ea.out];clear Ea;obtain⟨c0,c1,c2,c3,c4,s0,s1,s2⟩:=ed.out _ HX0.out;refine(HC.out _).mono ?_
 rintro e w1 ⟨rfl,hb⟩
 have Ra:=aa (And.intro (HX0.out.1.on hb) (HX0.out.2.on hb));have HB1:=aa (Ga HB0.out hb Aa);clear hb HX0 HB0 c0 c1 c2 c3 c4 s0 s1 s2;obtain⟨c0,c1,c2,c3,c4,s0,s1,s2⟩:=ed.out _ Ra.out;go_wp2_with fail;refine(HV.out _).mono ?_
 rintro e w2 ⟨rfl,hb⟩
 have lg:=aa (And.intro (Ra.out.1.on hb) (Ra.out.2.on hb));have HB2:=aa (Ga HB1.out hb Aa);clear hb Ra HB1 c0 c1 c2 c3 c4 s0 s1 s2;obtain⟨c0,c1,c2,c3,c4,s0,s1,s2⟩:=ed.out _ lg.out;have y0:=Nq.out _ HB2.out;go_wp2;go_ret;exact⟨rfl,HB2.out⟩
theorem ec0 (k b x t l bat:Int)(sec rnd pub:ByteArray)(D:Nat)(n:Int)(w:World)(hC:∀V:World,Calls prog 82 #[.agg #[int i64 k,int i64 b,int i64 x,int i64 t,int i64 l]] V λe w'=>e=.returned (int i64 0)/\Below V.heap.size V w')(hV:∀V:World,Calls prog 212 #[.agg #[int i64 k,int i64 b,int i64 x,int i64 t,int i64 l],.agg #[string sec,string rnd,string pub]] V λe w'=>e=.returned (.bool true)/\Below V.heap.size V w')(h1:1<=bat)(h2:bat<=64)(hD:D<w.heap.size)(h0:w.cell? ⟨D,0,none⟩=some (int i64 n))(hn:2<=n):Calls prog 223 #[pointer (some ⟨D,0,none⟩),.agg #[int i64 k,int i64 b,int i64 x,int i64 t,int i64 l],.agg #[string sec,string rnd,string pub],int i64 bat] w λe w'=>e=.returned (int i64 0)/\Below w.heap.size w w':=by
 obtain⟨W0,hW⟩:=Ca ((w.alloc (.cells #[int i64 k,int i64 b,int i64 x,int i64 t,int i64 l] 26)).alloc (.cells #[string sec,string rnd,string pub] 42))
 have HX0:=aa (show ma W0 w.heap.size [int i64 k,int i64 b,int i64 x,int i64 t,int i64 l] 26/\ma W0 (w.heap.size+1) [string sec,string rnd,string pub] 42 by
  subst hW;refine⟨(ma.new w _ _).alloc _,?_⟩;have h:=ma.new (w.alloc (.cells #[int i64 k,int i64 b,int i64 x,int i64 t,int i64 l] 26)) [string sec,string rnd,string pub] 42;simp only[World.size_alloc]at h;exact h)
 have HB0:=Gc hW;have ed:=aa (λ(V:World) (h:ma V w.heap.size [int i64 k,int i64 b,int i64 x,int i64 t,int i64 l] 26/\ma V (w.heap.size+1) [string sec,string rnd,string pub] 42)=>(Ul (Fa h.1) (Ja h.1) (Ha h.1) (Xa h.1) (Ya h.1) (Fa h.2) (Ja h.2) (Ha h.2)));have Ea:=aa hW;have HC:=aa hC;have HV:=aa hV;clear hW hC hV;have d1:decide (bat<1)=false:=decide_eq_false (by omega);have d2:decide (64<bat)=false:=decide_eq_false (by omega);have Nq:=aa (λ(V:World) (hb:Below w.heap.size w V)=>(hb.cell (p:=⟨D,0,none⟩) hD).trans h0);clear h0;have hn2:¬n<2:=by omega
 go_enter func223,ntmps223;go_wp2_with fail;rw[Ea.out];clear Ea;obtain⟨c0,c1,c2,c3,c4,s0,s1,s2⟩:=ed.out _ HX0.out;refine(HC.out _).mono ?_
 rintro e w1 ⟨rfl,hb⟩
 have Ra:=aa (And.intro (HX0.out.1.on hb) (HX0.out.2.on hb));have HB1:=aa (Ga HB0.out hb Aa);clear hb HX0 HB0 c0 c1 c2 c3 c4 s0 s1 s2;obtain⟨c0,c1,c2,c3,c4,s0,s1,s2⟩:=ed.out _ Ra.out;go_wp2_with fail;refine(HV.out _).mono ?_
 rintro e w2 ⟨rfl,hb⟩
 have lg:=aa (And.intro (Ra.out.1.on hb) (Ra.out.2.on hb));have HB2:=aa (Ga HB1.out hb Aa);clear hb Ra HB1 c0 c1 c2 c3 c4 s0 s1 s2;obtain⟨c0,c1,c2,c3,c4,s0,s1,s2⟩:=ed.out _ lg.out;have y0:=Nq.out _ HB2.out;go_wp2;go_ret;exact⟨rfl,HB2.out⟩
end Go.Proofs.YtgaoeoijdpdjiabGreatDoor
