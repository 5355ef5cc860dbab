import Derived.Test.YtgaoeoijdpdjiabGreatDoorPart46
import Derived.Test.YtgaoeoijdpdjiabGreatDoorPart49
import Derived.Test.YtgaoeoijdpdjiabGreatDoorPart50
open Go.Value (int string pointer slice)
open Go.IntKind (i64)
open Go.Proofs.Tryz
set_option maxRecDepth 20000
set_option maxHeartbeats 4000000
namespace Go.Proofs.YtgaoeoijdpdjiabGreatDoor
open Go.RowKit
theorem Xo {h:Hd}(ok:uj h)(V:World):Calls prog 83 #[.agg #[int i64 h.k,int i64 h.b,int i64 h.x,int i64 (h.t:Int),int i64 h.l]] V λe w'=>e=.returned (.agg #[int i64 ((h.b*h.e:Nat):Int),int i64 h.f,int i64 ((h.b*h.e+h.f:Nat):Int),int i64 (h.tot:Nat),int i64 (Xc h.b h.x h.t h.l),int i64 ((5+2*h.b:Nat):Int)])/\Below V.heap.size V w':=by
 have hz:=VF h.b h.x h.e h.f h.t h.l ok.R.pr h.k V ok.R.t1 ok.R.t2 ok.R.l1 ok.R.l2;rw[aL]at hz;exact hz
theorem Yy (ov:Bool)(a b:Int):Gh ov a b=true↔(ov=true\/a≠b):=by
 unfold Gh
 cases ov<;>simp
structure HW (lo:Nat)(p:Cc)(h:Hd)(w:World):Prop where
 kh:HA lo p.D p.R h w
 kp:PA lo p w
 dis:∀q,h.fp q->¬p.fp q
 lo:lo<=w.heap.size
 n2:2<=p.st.n
 w0:p.L.length<2199023255552
 y0:0<=p.st.syncs
 y1:p.st.syncs<=2199023255552
section
variable {lo:Nat}{p:Cc}{h:Hd}{w V:World}
theorem HW.below (k:HW lo p h w)(hb:Below w.heap.size w V):HW lo p h V:=⟨k.kh.below hb,k.kp.below hb,k.dis,Nat.le_trans k.lo hb.size,k.n2,k.w0,k.y0,k.y1⟩
theorem HW.lt (k:HW lo p h w):∀q,p.fp q\/h.fp q->q<w.heap.size:=λ_ e=>e.elim (λe=>(k.kp.lt e).2) (λe=>(k.kh.lt e).2)
theorem HW.en (k:HW lo p h w):w.cell? ⟨p.R,4,none⟩=some (int i64 p.st.term):=k.kp.b.cell 4
theorem HW.dk (k:HW lo p h w):∃F',Fb lo p.D p.st w F'/\(p.F=λk=>k=p.X\/F' k)/\¬F' p.X/\ma w p.X [pointer (some ⟨p.D,0,none⟩)] 135/\lo<=p.X/\¬F' h.S:=by
 obtain⟨F',a,b,c,d,e⟩:=k.kp.d.dsk;exact⟨F',a,b,c,d,e,λe2=>k.dis h.S (.inr (.inl rfl)) (.inl (by rw[b];exact .inr e2))⟩
theorem HW.wr (k:HW lo p h w):0<=p.st.writes/\p.st.writes<9223372036854775806:=by
 have h1:=k.kp.rl.wr;have h2:=k.w0;omega
def Hd.more (h:Hd)(nb:Nat):Hd:={h with bd:=nb,q:=h.q+1,ov:=false}
def Hd.done (h:Hd):Hd:={h with ov:=true}
theorem wS (k:HW lo p h w)(hov:h.ov=false)(m:Int)(nb:Nat)(h1:1<=m)(h2:m<=64)(hq:h.q<2147483647)(hnb:(nb:Int)=if(h.tot:Int)<(h.bd:Int)+m then(h.tot:Int)else(h.bd:Int)+m)(c:Int)(hc:c=ql p.st (h.q+1) (Ua ((h.q+1:Nat):Int) nb h.id)){F':Nat->Prop}(d1:Fb lo p.D p.st w F')(d6:¬F' h.S):(∀V,Below w.heap.size w V->Calls prog 116 #[pointer (some ⟨h.S,0,none⟩),int i64 m] V λe w'=>e=.returned (int i64 c)/\(c=0->ng lo h.S p.D (Ff p.st (h.q+1) (Ua ((h.q+1:Nat):Int) nb h.id)) ((h.more nb).sc p.D) F' V w')/\(c≠0->ng lo h.S p.D (Ff p.st (h.q+1) (Ua ((h.q+1:Nat):Int) nb h.id)) (h.done.sc p.D) F' V w'))/\(∀(V:World) (h1:Hd) (st2:Da),ic lo p h h1 st2 w V->∀V2,Below V.heap.size V V2->Calls prog 229 #[pointer (some ⟨h.Rs,0,none⟩),int i64 m] V2 λe w'=>e=.returned (int i64 c)/\zm lo h.Rs p.R (Ff p.st (h.q+1) (Ua ((h.q+1:Nat):Int) nb h.id)) p.lv (p.L.length+1) V2 w'/\(c=0->ma w' h.Rs ((h.more nb).rs p.R h.tr) 302)/\(c≠0->ma w' h.Rs (h.done.rs p.R h.tr) 302)):=by
 have ok:=k.kh.ok;have mQ:=ok.tot4;have hbt:=ok.bt;have hnl:(nb:Int)<=4096:=by rw[hnb];split<;>omega
 have hR:Oh ((h.q+1:Nat):Int) nb h.id:=⟨by omega,by omega,by omega,by omega,ok.id8⟩;have hw:=k.wr;have y0:=k.y0;have y1:=k.y1;refine⟨λV hb=>?_,λV h1' st2 hh V2 hb2=>?_⟩
 ·have kV:=k.below hb;refine cb0 lo h.S p.D p.st F' h.tm h.k h.b h.x h.t h.l h.root h.pub h.sec h.rnd (h.tot:Nat) h.bat h.nx h.q h.bd h.id m nb c V ?_ (d1.below hb) d6 kV.lo hw.1 hw.2 y0 (by omega) hR (by omega) hnb hc;have hs:=kV.kh.s;unfold Hd.sc at hs;rw[hov]at hs;exact hs
 ·have hs:=hh.r;unfold Hd.rs at hs;rw[hov]at hs;subst hc;have hlo:lo<=V.heap.size:=Nat.le_trans k.lo hh.k.size;refine(md0 h.q m nb _ _ _ _ _ _ (Xo ok) (hs.on hb2) (hh.rd.below hb2) k.kp.d.ok k.w0 (Nat.le_trans hlo hb2.size) y0 (by omega) hR (by omega) hnb).mono ?_
  rintro e w' ⟨rfl,a,b,c⟩
  exact⟨rfl,a,λe=>b e,λe=>c e⟩
theorem NQ (st:Da)(sq:Nat)(t:ByteArray):(Ff st sq t).term=st.term:=by
 have h1:∀s:Da,(Cb s).term=s.term:=λs=>by unfold Cb;split<;>rfl
 have h2:(Jb st ((sq% 2:Nat):Int) t).term=st.term:=by
  unfold Jb;split
  ·rfl
  ·split
   ·rfl
   ·split<;>rfl
 unfold Ff;split
 ·exact h2
 ·rw[h1,h2]
theorem EI {h1:Hd}{sq:Nat}{z:ByteArray}{V w':World}(k:HW lo p h w)(hh:ic lo p h h1 (Ff p.st sq z) w V)(e1:h1.G=h.G/\h1.S=h.S/\h1.Rs=h.Rs/\h1.i=h.i)(ok:uj h1)(e2:h1.tr=h.tr/\h1.Ks=h.Ks/\h1.t=h.t/\lh h1.k h1.b h1.x h1.e h1.f h1.sec h1.pub=lh h.k h.b h.x h.e h.f h.sec h.pub)(hl:zm lo h.Rs p.R (Ff p.st sq z) p.lv (p.L.length+1) V w')(hr:ma w' h.Rs (h1.rs p.R h.tr) 302):za (λq=>p.fp q\/h.fp q) V w'/\JL lo p h w w':=by
 obtain⟨lv2,L2,a,b,c,d⟩:=hl;have hy:=ZJ p.st sq z;obtain⟨t1,t2,t3,t4⟩:=e2;refine uU hh ⟨k.kh.lG,k.kh.lS,k.kh.lR⟩ e1 ok (YJ _ _ _) (NQ _ _ _) hy.1 (by omega) (c.mono (λq _ e=>e.elim .inl (λe=>.inr (.inr e)))) a b d (by rw[t1];exact hr) ?_ (λq e=>by rw[t1,t2,t3]at e;exact .inl e);rw[t1,t2,t3,t4];refine hh.t.kept c (λq e e5=>?_);obtain⟨us,Ty,hB,e6⟩:=hh.t.blk e;rcases e5 with rfl|rfl|e5
 ·rcases e6 with rfl|rfl|rfl<;>exact xe hB hh.r (by decide)
 ·rcases e6 with rfl|rfl|rfl<;>exact xe hB hh.rd.b (by decide)
 ·obtain⟨vs,hv⟩:=Cq hh.rd.r e5;rcases e6 with rfl|rfl|rfl<;>exact xe hB hv (by decide)
theorem uj.more {h:Hd}(ok:uj h){nb:Nat}(h1:h.bd<=nb)(h2:nb<=h.tot)(hq:h.q<2147483647):uj (h.more nb):=⟨ok.R,ok.s1,ok.s2,ok.s3,ok.b1,ok.b2,Nat.le_trans ok.nb h1,h2,Nat.le_succ_of_le ok.q1,hq,ok.kn⟩
theorem uj.done {h:Hd}(ok:uj h):uj h.done:=⟨ok.R,ok.s1,ok.s2,ok.s3,ok.b1,ok.b2,ok.nb,ok.bt,ok.q1,ok.q2,ok.kn⟩
theorem Xd0 (k:HW lo p h w)(d:Fe)(hk:d.kd=44):Calls prog 80 #[.agg #[pointer (some ⟨h.G,0,none⟩),pointer (some ⟨h.Rs,0,none⟩)],Be d] w λe w'=>e=.returned (.bool true)/\(Below w.heap.size w w'\/JL lo p h w w'):=by
 have ok:=k.kh.ok;have hbt:=ok.bt;have hq2:=ok.q2;obtain⟨F',d1,d2,d3,d4,d5,d6⟩:=k.dk;have Ng0:p.R<w.heap.size:=k.kp.b.lt;unfold Be Fh;rw[hk]
 have run:∀(y c:Int) (Q1 Q2:World->Prop),(∀V,Below w.heap.size w V->Calls prog 72 #[pointer (some ⟨h.S,0,none⟩),int i64 d.a] V λe w'=>e=.returned (.tuple #[int i64 y,int i64 c])/\za (λq=>p.fp q\/h.fp q) V w'/\Q1 w')->(∀V,Q1 V->Calls prog 153 #[pointer (some ⟨h.Rs,0,none⟩),int i64 d.a] V λe w'=>e=.returned (.tuple #[int i64 y,int i64 c])/\za (λq=>p.fp q\/h.fp q) V w'/\Q2 w')->(∀V,Q2 V->Below w.heap.size w V\/JL lo p h w V)->Calls prog 80 #[.agg #[pointer (some ⟨h.G,0,none⟩),pointer (some ⟨h.Rs,0,none⟩)],.agg #[int i64 44,int i64 d.on,int i64 d.a,int i64 d.b,string d.s,string d.t,string d.u,slice d.l1 d.l2 d.l3,slice d.k1 d.k2 d.k3,int i64 d.c0,int i64 d.c1,int i64 d.c2,int i64 d.c3,int i64 d.c4,string d.d0,string d.d1,string d.d2,int i64 d.p0,int i64 d.p1,int i64 d.p2,int i64 d.p3]] w λe w'=>e=.returned (.bool true)/\(Below w.heap.size w w'\/JL lo p h w w'):=λy c Q1 Q2 hX hR hE=>
  (fe0 h.G h.Rs d.on d.a d.b d.s d.t d.u d.l1 d.l2 d.l3 d.k1 d.k2 d.k3 d.c0 d.c1 d.c2 d.c3 d.c4 d.d0 d.d1 d.d2 d.p0 d.p1 d.p2 d.p3 y c (λq=>p.fp q\/h.fp q) Q1 Q2 w k.lt (λV hb=>Rd0 h.G h.S d.a y c _ V (k.kh.below hb).g (hX V hb)) hR).mono λe w' hh=>⟨hh.1,hE _ hh.2⟩
 have quiet:∀(c:Int),(∀V,Below w.heap.size w V->Calls prog 72 #[pointer (some ⟨h.S,0,none⟩),int i64 d.a] V λe w'=>e=.returned (.tuple #[int i64 0,int i64 c])/\Below V.heap.size V w')->(∀V,Below w.heap.size w V->Calls prog 153 #[pointer (some ⟨h.Rs,0,none⟩),int i64 d.a] V λe w'=>e=.returned (.tuple #[int i64 0,int i64 c])/\Below V.heap.size V w')->_:=λc hX hR=>
  run 0 c (λV=>Below w.heap.size w V) (λV=>Below w.heap.size w V) (λV hb=>(hX V hb).mono λe w' hh=>⟨hh.1,za.of_below hh.2,hb.trans (hh.2.mono hb.size)⟩) (λV hb=>(hR V hb).mono λe w' hh=>⟨hh.1,za.of_below hh.2,hb.trans (hh.2.mono hb.size)⟩) (λV hb=>.inl hb)
 by_cases hov:h.ov=true\/h.tm≠p.st.term
 ·exact quiet 9 (λV hb=>Ge0 h.S p.D p.st.term h.tm h.k h.b h.x h.t h.l h.root h.pub h.sec h.rnd _ h.bat h.nx h.q h.bd h.id h.ov d.a V (k.below hb).kh.s (d1.below hb).ltD (d1.below hb).term hov) (λV hb=>jd0 h.q d.a _ _ _ _ _ _ (Xo ok) (k.below hb).kh.r p.st.term (k.below hb).kp.b.lt (k.below hb).en ((Yy _ _ _).2 hov))
 ·have ho:h.ov=false:=by
   cases e:h.ov with
   |false=>rfl
   |true=>exact absurd (.inl e) hov
  have jc:p.st.term=h.tm:=by
   by_cases e:h.tm=p.st.term
   ·exact e.symm
   ·exact absurd (.inr e) hov
  have Io:Gh h.ov h.tm p.st.term=false:=by
   cases e:Gh h.ov h.tm p.st.term with
   |false=>rfl
   |true=>exact absurd ((Yy _ _ _).1 e) hov
  have sB:∀V,Below w.heap.size w V->ma V h.S (Zb p.D h.tm h.k h.b h.x h.t h.l h.root h.pub h.sec h.rnd (h.tot:Nat) h.bat h.nx h.q h.bd h.id false) 188:=λV hb=>by
   have hs:=(k.below hb).kh.s;unfold Hd.sc at hs;rw[ho]at hs;exact hs
  by_cases ha:d.a<1\/64<d.a
  ·exact quiet 2 (λV hb=>Ee0 lo h.S p.D p.st F' h.tm h.k h.b h.x h.t h.l h.root h.pub h.sec h.rnd _ h.bat h.nx h.q h.bd h.id d.a V (sB V hb) (d1.below hb) d6 jc ha) (λV hb=>id0 h.q d.a _ _ _ _ _ _ (Xo ok) (k.below hb).kh.r p.st.term (k.below hb).kp.b.lt (k.below hb).en Io ha)
  ·by_cases hsp:h.bd=h.tot\/h.q=2147483647
   ·refine quiet 10 (λV hb=>?_) (λV hb=>kd0 h.q d.a _ _ _ _ _ _ (Xo ok) (k.below hb).kh.r p.st.term (k.below hb).kp.b.lt (k.below hb).en Io (by omega) (by omega) (by omega));by_cases hb2:h.bd=h.tot
    ·exact Ie0 lo h.S p.D p.st F' h.tm h.k h.b h.x h.t h.l h.root h.pub h.sec h.rnd _ h.bat h.nx h.q h.bd h.id d.a V (sB V hb) (d1.below hb) d6 jc (by omega) (by omega) (by omega)
    ·exact He0 lo h.S p.D p.st F' h.tm h.k h.b h.x h.t h.l h.root h.pub h.sec h.rnd _ h.bat h.nx h.q h.bd h.id d.a V (sB V hb) (d1.below hb) d6 jc (by omega) (by omega) (by omega) (by omega)
   ·obtain⟨nb,hnb⟩:∃nb:Nat,(nb:Int)=if(h.tot:Int)<(h.bd:Int)+d.a then(h.tot:Int)else(h.bd:Int)+d.a:=by
     refine⟨(if(h.tot:Int)<(h.bd:Int)+d.a then(h.tot:Int)else(h.bd:Int)+d.a).toNat,?_⟩;split<;>omega
    have hn1:h.bd<=nb/\nb<=h.tot:=by
     rw[apply_ite (λz:Int=>(nb:Int)=z)]at hnb;split at hnb<;>omega
    obtain⟨c,hc⟩:∃c,c=ql p.st (h.q+1) (Ua ((h.q+1:Nat):Int) nb h.id):=⟨_,rfl⟩;obtain⟨r1,r2⟩:=wS k ho d.a nb (by omega) (by omega) (by omega) hnb c hc d1 d6;by_cases hc0:c=0
    ·refine run nb 0 (ic lo p h (h.more nb) (Ff p.st (h.q+1) (Ua ((h.q+1:Nat):Int) nb h.id)) w) (JL lo p h w) (λV hb=>?_) (λV hh=>?_) (λV hJ=>.inr hJ)
     ·refine(Je0 lo h.S p.D p.st F' h.tm h.k h.b h.x h.t h.l h.root h.pub h.sec h.rnd _ h.bat h.nx h.q h.bd h.id d.a nb _ V (sB V hb) (d1.below hb) d6 jc (by omega) (by omega) (by omega) (by omega) (λV2 hb2=>(r1 V2 (hb.trans (hb2.mono hb.size))).mono λe w' hh=>⟨by rw[hh.1,hc0],hh.2.1 hc0⟩)).mono ?_
      rintro e w' ⟨rfl,hs⟩
      exact⟨rfl,IB k.kh k.kp k.dis hb d2 d3 (d4.on hb) d5 hs⟩
     ·refine(NS h.q d.a 0 nb nb (.inl ⟨rfl,rfl⟩) (λw'=>zm lo h.Rs p.R (Ff p.st (h.q+1) (Ua ((h.q+1:Nat):Int) nb h.id)) p.lv (p.L.length+1) V w'/\ma w' h.Rs ((h.more nb).rs p.R h.tr) 302) _ _ _ _ _ _ (Xo ok) hh.r p.st.term hh.rd.b.lt (hh.rd.b.cell 4) Io (by omega) (by omega) (by omega) (by omega) (λV2 hb2=>(r2 V _ _ hh V2 hb2).mono λe w' hq=>⟨by rw[hq.1,hc0],⟨hq.2.1.of hb2,hq.2.2.1 hc0⟩,λ_=>(hq.2.2.1 hc0).cell 15⟩)).mono ?_
      rintro e w' ⟨rfl,q1,q2⟩
      exact⟨rfl,EI k hh ⟨rfl,rfl,rfl,rfl⟩ (ok.more hn1.1 hn1.2 (by omega)) ⟨rfl,rfl,rfl,rfl⟩ q1 q2⟩
    ·refine run 0 c (ic lo p h h.done (Ff p.st (h.q+1) (Ua ((h.q+1:Nat):Int) nb h.id)) w) (JL lo p h w) (λV hb=>?_) (λV hh=>?_) (λV hJ=>.inr hJ)
     ·refine(Fe0 lo h.S p.D p.st F' h.tm h.k h.b h.x h.t h.l h.root h.pub h.sec h.rnd _ h.bat h.nx h.q h.bd h.id d.a c _ hc0 V (sB V hb) (d1.below hb) d6 jc (by omega) (by omega) (by omega) (by omega) (λV2 hb2=>(r1 V2 (hb.trans (hb2.mono hb.size))).mono λe w' hh=>⟨hh.1,hh.2.2 hc0⟩)).mono ?_
      rintro e w' ⟨rfl,hs⟩
      exact⟨rfl,IB k.kh k.kp k.dis hb d2 d3 (d4.on hb) d5 hs⟩
     ·refine(NS h.q d.a c nb 0 (.inr ⟨hc0,rfl⟩) (λw'=>zm lo h.Rs p.R (Ff p.st (h.q+1) (Ua ((h.q+1:Nat):Int) nb h.id)) p.lv (p.L.length+1) V w'/\ma w' h.Rs (h.done.rs p.R h.tr) 302) _ _ _ _ _ _ (Xo ok) hh.r p.st.term hh.rd.b.lt (hh.rd.b.cell 4) Io (by omega) (by omega) (by omega) (by omega) (λV2 hb2=>(r2 V _ _ hh V2 hb2).mono λe w' hq=>⟨hq.1,⟨hq.2.1.of hb2,hq.2.2.2 hc0⟩,λe=>absurd e hc0⟩)).mono ?_
      rintro e w' ⟨rfl,q1,q2⟩
      exact⟨rfl,EI k hh ⟨rfl,rfl,rfl,rfl⟩ ok.done ⟨rfl,rfl,rfl,rfl⟩ q1 q2⟩
end
def Hd.at (h:Hd)(bd q:Nat):Hd:={h with bd:=bd,q:=q,ov:=false}
def Hd.go (h:Hd)(bd q:Nat)(ra:Option Addr)(rc:Nat)(Ks:List Ig):Hd:={h with nx:=h.nx+1,bd:=bd,q:=q,ov:=false,ra:=ra,rc:=rc,Ks:=Ks}
def Hd.sig (h:Hd)(msg:ByteArray):ByteArray:=oz h.k h.b h.x h.e h.f h.t h.l h.sec h.rnd h.pub msg h.nx
section
variable {lo:Nat}{p:Cc}{h:Hd}{w V:World}
theorem gT (ok:uj h)(bd q:Nat)(msg:ByteArray)(hm:msg.size<=200)(hn:h.nx<h.tot)(hlo:lo<=V.heap.size)(hr:ma V h.Rs ((h.at bd q).rs p.R h.tr) 302)(ht:Nf lo V h.tr h.Ks h.t (lh h.k h.b h.x h.e h.f h.sec h.pub)):Calls prog 230 #[pointer (some ⟨h.Rs,0,none⟩),int i64 h.nx,string msg] (V.setCell ⟨h.Rs,14,none⟩ (int i64 ((h.nx:Int)+1))) λe w'=>e=.returned (string (h.sig msg))/\∃ra rc Ks,ma w' h.Rs ((h.go bd q ra rc Ks).rs p.R (h.go bd q ra rc Ks).tr) 302/\Nf lo w' (h.go bd q ra rc Ks).tr Ks h.t (lh h.k h.b h.x h.e h.f h.sec h.pub)/\Ks.length<=h.Ks.length+1+h.l/\za (λi=>i=h.Rs\/og h.t h.tr h.Ks i) V w'/\∀i,og h.t (h.go bd q ra rc Ks).tr Ks i->og h.t h.tr h.Ks i\/V.heap.size<=i:=by
 have hkn:=ok.kn;have h4:=ok.tot4;refine(xb0 lo h.Rs p.R h.tm false h.k h.b h.x h.e h.f h.t h.l ok.R h.sec h.rnd h.pub msg h.bat h.key h.id ((h.nx:Int)+1) bd q (og h.t h.tr h.Ks) h.Ks.length h.nx ok.s1 ok.s2 ok.s3 hm hn V _ (by omega) (by rw[World.size_setCell];exact hlo) ⟨h.ra,h.rc,h.Ks,hr.set 14 _,ht.kept (Jc _ _ _) (λq e e2=>ht.not hr (by rw[<-(show q=h.Rs from e2)];exact e)),Aa,(za.refl _ V).setCell (p:=⟨h.Rs,14,none⟩) (.inl (.inl rfl)) _,λi e=>.inl e⟩).mono ?_
 rintro e w' ⟨rfl,ra,rc,Ks,k⟩
 exact⟨rfl,ra,rc,Ks,k.b,k.t,k.n,k.k,k.f⟩
theorem AO {st2:Da}{lv2:Value}{L2:List Gb}{V V3 w':World}{bd q:Nat}{ra:Option Addr}{rc:Nat}{Ks:List Ig}(k:HW lo p h w)(hh:ic lo p h (h.go bd q h.ra h.rc h.Ks) st2 w V)(hb1:h.nx+1<=bd)(hb2:bd<=h.tot)(hq1:1<=q)(hq2:q<=2147483647)(hn:st2.n=p.st.n)(jc:st2.term=p.st.term)(hy1:p.st.syncs<=st2.syncs)(hy2:st2.syncs<=p.st.syncs+2)
  (hk3:za (λi=>i=h.Rs\/Wh p.R p.lv i) V V3)(hrd:RD lo p.R st2 lv2 L2 V3)(hL:L2.length<=p.L.length+1)(hlv:∀i,lv2.ownBlock=some i->p.lv.ownBlock=some i\/V.heap.size<=i)(hr3:ma V3 h.Rs ((h.at bd q).rs p.R h.tr) 302)(ht3:Nf lo V3 h.tr h.Ks h.t (lh h.k h.b h.x h.e h.f h.sec h.pub))
  (hr:ma w' h.Rs ((h.go bd q ra rc Ks).rs p.R (h.go bd q ra rc Ks).tr) 302)(ht:Nf lo w' (h.go bd q ra rc Ks).tr Ks h.t (lh h.k h.b h.x h.e h.f h.sec h.pub))(hKs:Ks.length<=h.Ks.length+1+h.l)(hk:za (λi=>i=h.Rs\/og h.t h.tr h.Ks i) V3 w')(hf:∀i,og h.t (h.go bd q ra rc Ks).tr Ks i->og h.t h.tr h.Ks i\/V3.heap.size<=i):za (λq=>p.fp q\/h.fp q) V w'/\JL lo p h w w':=by
 have ok:=k.kh.ok;have hkn:=ok.kn;have hl2:=ok.R.l2;have kK:uj (h.go bd q ra rc Ks):=⟨ok.R,ok.s1,ok.s2,ok.s3,ok.b1,ok.b2,hb1,hb2,hq1,hq2,by show Ks.length<=1+5*(h.nx+1);omega⟩
 have Z0:RD lo p.R st2 lv2 L2 w':=hrd.kept hk (λi e e2=>by
  rcases e2 with rfl|e2
  ·exact hrd.nS hr3 e
  ·obtain⟨us,Ty,hB,e6⟩:=ht3.blk e2;rcases e with rfl|e
   ·rcases e6 with rfl|rfl|rfl<;>exact xe hB hrd.b (by decide)
   ·obtain⟨vs,hv⟩:=Cq hrd.r e;rcases e6 with rfl|rfl|rfl<;>exact xe hB hv (by decide))
 exact uU (h1:=h.go bd q ra rc Ks) ⟨hh.s,hh.d,hh.rd,hh.g,hh.r,hh.t,hh.k⟩ ⟨k.kh.lG,k.kh.lS,k.kh.lR⟩ ⟨rfl,rfl,rfl,rfl⟩ kK hn jc hy1 hy2 ((hk3.mono (λi _ e=>e.elim .inl (λe=>.inr (.inr e)))).trans hk (λi e=>.inl (e.elim .inl (λe=>.inr (.inl e))))) Z0 hL hlv hr ht (λi e=>(hf i e).imp (λe=>e) (λe=>Nat.le_trans hk3.size e))
theorem Yd0 (k:HW lo p h w)(hT:Tn w)(Yg:1<lo)(d:Fe)(hk:d.kd=45)(hmx:d.s.size<=maxLen):Calls prog 80 #[.agg #[pointer (some ⟨h.G,0,none⟩),pointer (some ⟨h.Rs,0,none⟩)],Be d] w λe w'=>e=.returned (.bool true)/\(Below w.heap.size w w'\/JL lo p h w w'):=by
 have ok:=k.kh.ok;have hbt:=ok.bt;have hnb:=ok.nb;have hq1:=ok.q1;have hq2:=ok.q2;have mQ:=ok.tot4;have hb1:=ok.b1;have hb2:=ok.b2;obtain⟨F',d1,d2,d3,d4,d5,d6⟩:=k.dk;unfold Be Fh;rw[hk]
 have run:∀(y:ByteArray) (c:Int) (Q1 Q2:World->Prop),(∀V,Below w.heap.size w V->Calls prog 99 #[pointer (some ⟨h.S,0,none⟩),string d.s] V λe w'=>e=.returned (.tuple #[string y,int i64 c])/\za (λq=>p.fp q\/h.fp q) V w'/\Q1 w')->(∀V,Q1 V->Calls prog 154 #[pointer (some ⟨h.Rs,0,none⟩),string d.s] V λe w'=>e=.returned (.tuple #[string y,int i64 c])/\za (λq=>p.fp q\/h.fp q) V w'/\Q2 w')->(∀V,Q2 V->Below w.heap.size w V\/JL lo p h w V)->Calls prog 80 #[.agg #[pointer (some ⟨h.G,0,none⟩),pointer (some ⟨h.Rs,0,none⟩)],.agg #[int i64 45,int i64 d.on,int i64 d.a,int i64 d.b,string d.s,string d.t,string d.u,slice d.l1 d.l2 d.l3,slice d.k1 d.k2 d.k3,int i64 d.c0,int i64 d.c1,int i64 d.c2,int i64 d.c3,int i64 d.c4,string d.d0,string d.d1,string d.d2,int i64 d.p0,int i64 d.p1,int i64 d.p2,int i64 d.p3]] w λe w'=>e=.returned (.bool true)/\(Below w.heap.size w w'\/JL lo p h w w'):=λy c Q1 Q2 hX hR hE=>
  (ge0 h.G h.Rs d.on d.a d.b d.s d.t d.u d.l1 d.l2 d.l3 d.k1 d.k2 d.k3 d.c0 d.c1 d.c2 d.c3 d.c4 d.d0 d.d1 d.d2 d.p0 d.p1 d.p2 d.p3 y c (λq=>p.fp q\/h.fp q) Q1 Q2 w k.lt (λV hb=>Sd0 h.G h.S d.s y c _ V (k.kh.below hb).g (hX V hb)) hR).mono λe w' hh=>⟨hh.1,hE _ hh.2⟩
 have quiet:∀(c:Int),(∀V,Below w.heap.size w V->Calls prog 99 #[pointer (some ⟨h.S,0,none⟩),string d.s] V λe w'=>e=.returned (.tuple #[string ⟨#[]⟩,int i64 c])/\Below V.heap.size V w')->(∀V,Below w.heap.size w V->Calls prog 154 #[pointer (some ⟨h.Rs,0,none⟩),string d.s] V λe w'=>e=.returned (.tuple #[string ⟨#[]⟩,int i64 c])/\Below V.heap.size V w')->_:=λc hX hR=>
  run ⟨#[]⟩ c (λV=>Below w.heap.size w V) (λV=>Below w.heap.size w V) (λV hb=>(hX V hb).mono λe w' hh=>⟨hh.1,za.of_below hh.2,hb.trans (hh.2.mono hb.size)⟩) (λV hb=>(hR V hb).mono λe w' hh=>⟨hh.1,za.of_below hh.2,hb.trans (hh.2.mono hb.size)⟩) (λV hb=>.inl hb)
 by_cases hov:h.ov=true\/h.tm≠p.st.term
 ·exact quiet 9 (λV hb=>Ne0 h.S p.D p.st.term h.tm h.k h.b h.x h.t h.l h.root h.pub h.sec h.rnd _ h.bat h.nx h.q h.bd h.id h.ov d.s V (k.below hb).kh.s (d1.below hb).ltD (d1.below hb).term hov) (λV hb=>sd0 h.q d.s _ _ _ _ _ _ (Xo ok) (k.below hb).kh.r p.st.term (k.below hb).kp.b.lt (k.below hb).en ((Yy _ _ _).2 hov))
 ·have ho:h.ov=false:=by
   cases e:h.ov with
   |false=>rfl
   |true=>exact absurd (.inl e) hov
  have jc:p.st.term=h.tm:=by
   by_cases e:h.tm=p.st.term
   ·exact e.symm
   ·exact absurd (.inr e) hov
  have Io:Gh h.ov h.tm p.st.term=false:=by
   cases e:Gh h.ov h.tm p.st.term with
   |false=>rfl
   |true=>exact absurd ((Yy _ _ _).1 e) hov
  have sB:∀V,Below w.heap.size w V->ma V h.S (Zb p.D h.tm h.k h.b h.x h.t h.l h.root h.pub h.sec h.rnd (h.tot:Nat) h.bat h.nx h.q h.bd h.id false) 188:=λV hb=>by
   have hs:=(k.below hb).kh.s;unfold Hd.sc at hs;rw[ho]at hs;exact hs
  have hat:∀tr,h.rs p.R tr=(h.at h.bd h.q).rs p.R tr:=λtr=>by
   unfold Hd.rs;rw[ho];rfl
  by_cases hm:200<d.s.size
  ·exact quiet 3 (λV hb=>Le0 lo h.S p.D p.st F' h.tm h.k h.b h.x h.t h.l h.root h.pub h.sec h.rnd _ h.bat h.nx h.q h.bd h.id d.s V (sB V hb) (d1.below hb) d6 jc hm) (λV hb=>qd0 h.q d.s _ _ _ _ _ _ (Xo ok) (k.below hb).kh.r p.st.term (k.below hb).kp.b.lt (k.below hb).en Io hm hmx)
  ·have hm2:d.s.size<=200:=by omega
   by_cases hsp:h.nx=h.tot\/h.nx=h.bd/\h.q=2147483647
   ·refine quiet 10 (λV hb=>?_) (λV hb=>ud0 h.q d.s _ _ _ _ _ _ (Xo ok) (k.below hb).kh.r p.st.term (k.below hb).kp.b.lt (k.below hb).en Io hm2 (by omega));by_cases hn:h.nx=h.tot
    ·exact Qe0 lo h.S p.D p.st F' h.tm h.k h.b h.x h.t h.l h.root h.pub h.sec h.rnd _ h.bat h.nx h.q h.bd h.id d.s V (sB V hb) (d1.below hb) d6 jc hm2 (by omega)
    ·exact Pe0 lo h.S p.D p.st F' h.tm h.k h.b h.x h.t h.l h.root h.pub h.sec h.rnd _ h.bat h.nx h.q h.bd h.id d.s V (sB V hb) (d1.below hb) d6 jc (by omega) (by omega) (by omega) hm2
   ·have hlt:h.nx<h.tot:=by omega
    have hv:IntKind.i64.wrap ((h.nx:Int)+1)=(h.nx:Int)+1:=by rw[IntKind.wrap_i64]<;>omega
    have Nu:∀V:World,Tn V->Calls prog 171 #[.agg #[int i64 h.k,int i64 h.b,int i64 h.x,int i64 h.t,int i64 h.l,string h.root,string h.pub],.agg #[string h.sec,string h.rnd,string h.pub],int i64 h.nx,string d.s] V λe w'=>e=.returned (string (h.sig d.s))/\Below V.heap.size V w':=λV hV=>ce0 h.k h.b h.x h.e h.f h.t h.l ok.R h.sec h.rnd h.pub d.s h.nx ok.s1 ok.s2 ok.s3 hm2 hlt V hV;by_cases hbd:h.nx=h.bd
    ·obtain⟨nb,hnb⟩:∃nb:Nat,(nb:Int)=if(h.tot:Int)<(h.bd:Int)+h.bat then(h.tot:Int)else(h.bd:Int)+h.bat:=by
      refine⟨(if(h.tot:Int)<(h.bd:Int)+h.bat then(h.tot:Int)else(h.bd:Int)+h.bat).toNat,?_⟩;split<;>omega
     have hn1:h.bd+1<=nb/\nb<=h.tot:=by
      rw[apply_ite (λz:Int=>(nb:Int)=z)]at hnb;split at hnb<;>omega
     obtain⟨c,hc⟩:∃c,c=ql p.st (h.q+1) (Ua ((h.q+1:Nat):Int) nb h.id):=⟨_,rfl⟩;obtain⟨r1,r2⟩:=wS k ho h.bat nb (by omega) (by omega) (by omega) hnb c hc d1 d6;by_cases hc0:c=0
     ·refine run (h.sig d.s) 0 (ic lo p h (h.go nb (h.q+1) h.ra h.rc h.Ks) (Ff p.st (h.q+1) (Ua ((h.q+1:Nat):Int) nb h.id)) w) (JL lo p h w) (λV hb=>?_) (λV hh=>?_) (λV hJ=>.inr hJ)
      ·refine(Oe0 lo h.S p.D p.st F' h.tm h.k h.b h.x h.t h.l h.root h.pub h.sec h.rnd _ h.bat h.nx h.q h.bd h.id d.s (h.sig d.s) nb _ V (sB V hb) (d1.below hb) d6 jc (by omega) (by omega) (by omega) hv (hT.on hb) Yg k.kh.lS (k.below hb).lo hm2 Nu (λV2 hb2=>(r1 V2 (hb.trans (hb2.mono hb.size))).mono λe w' hh=>⟨by rw[hh.1,hc0],hh.2.1 hc0⟩)).mono ?_
       rintro e w' ⟨rfl,hs⟩
       exact⟨rfl,IB k.kh k.kp k.dis hb d2 d3 (d4.on hb) d5 hs⟩
      ·have wJ:lo<=V.heap.size:=Nat.le_trans k.lo hh.k.size;have hy:=ZJ p.st (h.q+1) (Ua ((h.q+1:Nat):Int) nb h.id);refine(td0 h.q d.s (h.sig d.s) (λV3=>zm lo h.Rs p.R (Ff p.st (h.q+1) (Ua ((h.q+1:Nat):Int) nb h.id)) p.lv (p.L.length+1) V V3/\ma V3 h.Rs ((h.at nb (h.q+1)).rs p.R h.tr) 302) (λw'=>za (λq=>p.fp q\/h.fp q) V w'/\JL lo p h w w') _ _ _ _ _ _ (Xo ok) hh.r p.st.term hh.rd.b.lt (hh.rd.b.cell 4) Io hm2 (by omega) (by omega) (by omega) (by omega) (by omega) (λV2 hb2=>(r2 V _ _ hh V2 hb2).mono λe w' hq=>⟨by rw[hq.1,hc0],⟨hq.2.1.of hb2,hq.2.2.1 hc0⟩,(hq.2.2.1 hc0).cell 14,(hq.2.2.1 hc0).free 14⟩) (λV3 h3=>?_)).mono λe w' hq=>⟨hq.1,hq.2.1,hq.2.2⟩;obtain⟨⟨lv2,L2,a1,a2,a3,a4⟩,iB⟩:=h3
       have ht3:Nf lo V3 h.tr h.Ks h.t (lh h.k h.b h.x h.e h.f h.sec h.pub):=hh.t.kept a3 (λi e e5=>by
        obtain⟨us,Ty,hB,e6⟩:=hh.t.blk e;rcases e5 with rfl|rfl|e5
        ·rcases e6 with rfl|rfl|rfl<;>exact xe hB hh.r (by decide)
        ·rcases e6 with rfl|rfl|rfl<;>exact xe hB hh.rd.b (by decide)
        ·obtain⟨vs,hv⟩:=Cq hh.rd.r e5;rcases e6 with rfl|rfl|rfl<;>exact xe hB hv (by decide))
       refine(gT ok nb (h.q+1) d.s hm2 hlt (Nat.le_trans wJ a3.size) iB ht3).mono ?_
       rintro e w' ⟨rfl,ra,rc,Ks,b1,b2,b3,b4,b5⟩
       exact⟨rfl,AO k hh (by omega) hn1.2 (by omega) (by omega) (YJ _ _ _) (NQ _ _ _) hy.1 (by omega) a3 a1 a2 a4 iB ht3 b1 b2 b3 b4 b5⟩
     ·refine run ⟨#[]⟩ c (ic lo p h h.done (Ff p.st (h.q+1) (Ua ((h.q+1:Nat):Int) nb h.id)) w) (JL lo p h w) (λV hb=>?_) (λV hh=>?_) (λV hJ=>.inr hJ)
      ·refine(Ke0 lo h.S p.D p.st F' h.tm h.k h.b h.x h.t h.l h.root h.pub h.sec h.rnd _ h.bat h.nx h.q h.bd h.id d.s c _ hc0 V (sB V hb) (d1.below hb) d6 jc (by omega) (by omega) (by omega) hm2 (λV2 hb2=>(r1 V2 (hb.trans (hb2.mono hb.size))).mono λe w' hh=>⟨hh.1,hh.2.2 hc0⟩)).mono ?_
       rintro e w' ⟨rfl,hs⟩
       exact⟨rfl,IB k.kh k.kp k.dis hb d2 d3 (d4.on hb) d5 hs⟩
      ·refine(pd0 h.q d.s c (λw'=>zm lo h.Rs p.R (Ff p.st (h.q+1) (Ua ((h.q+1:Nat):Int) nb h.id)) p.lv (p.L.length+1) V w'/\ma w' h.Rs (h.done.rs p.R h.tr) 302) _ _ _ _ _ _ (Xo ok) hh.r p.st.term hh.rd.b.lt (hh.rd.b.cell 4) Io hm2 (by omega) (by omega) (by omega) hc0 (λV2 hb2=>(r2 V _ _ hh V2 hb2).mono λe w' hq=>⟨hq.1,⟨hq.2.1.of hb2,hq.2.2.2 hc0⟩,(hq.2.2.2 hc0).cell 14,(hq.2.2.2 hc0).free 14⟩)).mono ?_
       rintro e w' ⟨rfl,q1,q2⟩
       exact⟨rfl,EI k hh ⟨rfl,rfl,rfl,rfl⟩ ok.done ⟨rfl,rfl,rfl,rfl⟩ q1 q2⟩
    ·refine run (h.sig d.s) 0 (ic lo p h (h.go h.bd h.q h.ra h.rc h.Ks) p.st w) (JL lo p h w) (λV hb=>?_) (λV hh=>?_) (λV hJ=>.inr hJ)
     ·refine(Me0 lo h.S p.D p.st F' h.tm h.k h.b h.x h.t h.l h.root h.pub h.sec h.rnd _ h.bat h.nx h.q h.bd h.id d.s (h.sig d.s) V (sB V hb) (d1.below hb) d6 jc (by omega) (by omega) hv (hT.on hb) Yg k.kh.lS (k.below hb).lo hm2 Nu).mono ?_
      rintro e w' ⟨rfl,hs⟩
      exact⟨rfl,IB k.kh k.kp k.dis hb d2 d3 (d4.on hb) d5 hs⟩
     ·have wJ:lo<=V.heap.size:=Nat.le_trans k.lo hh.k.size;refine(rd0 h.q d.s (h.sig d.s) (λV3=>Below V.heap.size V V3) (λw'=>za (λq=>p.fp q\/h.fp q) V w'/\JL lo p h w w') _ _ _ _ _ _ (Xo ok) hh.r p.st.term hh.rd.b.lt (hh.rd.b.cell 4) Io hm2 (by omega) (by omega) (by omega) (by omega) (λ_ hb=>hb) (λV3 hb3=>?_)).mono λe w' hq=>⟨hq.1,hq.2.1,hq.2.2⟩;have iB:ma V3 h.Rs ((h.at h.bd h.q).rs p.R h.tr) 302:=by rw[<-hat];exact hh.r.on hb3
      refine(gT ok h.bd h.q d.s hm2 hlt (Nat.le_trans wJ hb3.size) iB (hh.t.on hb3)).mono ?_
      rintro e w' ⟨rfl,ra,rc,Ks,b1,b2,b3,b4,b5⟩
      exact⟨rfl,AO k hh (by omega) hbt hq1 hq2 rfl rfl (Int.le_refl _) (by omega) (za.of_below hb3) (hh.rd.below hb3) (Nat.le_succ _) (λ_ e=>.inl e) iB (hh.t.on hb3) b1 b2 b3 b4 b5⟩
end
section
variable {lo:Nat}{p:Cc}{h:Hd}{w V:World}
theorem Wd0 (k:HW lo p h w)(d:Fe)(hk:d.kd=42):Calls prog 80 #[.agg #[pointer (some ⟨h.G,0,none⟩),pointer (some ⟨h.Rs,0,none⟩)],Be d] w λe w'=>e=.returned (.bool true)/\(Below w.heap.size w w'\/JL lo p h w w'):=by
 have ok:=k.kh.ok;have hz:=ok.rsz;have h3:=ok.s3;have hb:=(uq ok.R.pr).2.1;unfold Be Fh;rw[hk];refine(ee0 h.G h.Rs d.on d.a d.b d.s d.t d.u d.l1 d.l2 d.l3 d.k1 d.k2 d.k3 d.c0 d.c1 d.c2 d.c3 d.c4 d.d0 d.d1 d.d2 d.p0 d.p1 d.p2 d.p3 h.key (λq=>p.fp q\/h.fp q) (λV=>Below w.heap.size w V) (λV=>Below w.heap.size w V) w k.lt (λV hb=>Qd0 h.G h.S h.key _ V (k.kh.below hb).g ((I6 h.S p.D h.tm h.k h.b h.x h.t h.l h.root h.pub h.sec h.rnd _ h.bat h.nx h.q h.bd h.id h.ov V (k.kh.below hb).s (by omega) (by omega)).mono λe w' hh=>⟨hh.1,za.of_below hh.2,hb.trans (hh.2.mono hb.size)⟩)) (λV hb=>(Zc0 (k.kh.below hb).r).mono λe w' hh=>⟨hh.1,by rw[hh.2];exact za.refl _ _,by rw[hh.2];exact hb⟩)).mono λe w' hh=>⟨hh.1,.inl hh.2⟩
theorem Zd0 (k:HW lo p h w)(d:Fe)(hk:d.kd=43):Calls prog 80 #[.agg #[pointer (some ⟨h.G,0,none⟩),pointer (some ⟨h.Rs,0,none⟩)],Be d] w λe w'=>e=.returned (.bool true)/\(Below w.heap.size w w'\/JL lo p h w w'):=by
 obtain⟨F',d1,d2,d3,d4,d5,d6⟩:=k.dk;unfold Be Fh;rw[hk];refine(ie0 h.G h.Rs d.on d.a d.b d.s d.t d.u d.l1 d.l2 d.l3 d.k1 d.k2 d.k3 d.c0 d.c1 d.c2 d.c3 d.c4 d.d0 d.d1 d.d2 d.p0 d.p1 d.p2 d.p3 h.nx h.bd h.q (Gh h.ov h.tm p.st.term) (λq=>p.fp q\/h.fp q) (λ_=>True) (λ_=>True) w k.lt (λV hb=>?_) (λV hb=>vd0 (k.kh.below hb).r (k.below hb).en (k.below hb).kp.b.lt)).mono λe w' hh=>⟨hh.1,.inl hh.2⟩;by_cases hov:h.ov=true\/h.tm≠p.st.term
 ·rw[(Yy _ _ _).2 hov];exact Ud0 h.G h.S h.nx h.bd h.q V (k.kh.below hb).g (λV2 hb2=>Ve0 h.S p.D h.tm h.k h.b h.x h.t h.l h.root h.pub h.sec h.rnd _ h.bat h.nx h.q h.bd h.id h.ov p.st.term V2 ((k.kh.below hb).s.on hb2) ((d1.below hb).below hb2).ltD ((d1.below hb).below hb2).term hov)
 ·have ho:h.ov=false:=by
   cases e:h.ov with
   |false=>rfl
   |true=>exact absurd (.inl e) hov
  have jc:p.st.term=h.tm:=by
   by_cases e:h.tm=p.st.term
   ·exact e.symm
   ·exact absurd (.inr e) hov
  have Io:Gh h.ov h.tm p.st.term=false:=by
   cases e:Gh h.ov h.tm p.st.term with
   |false=>rfl
   |true=>exact absurd ((Yy _ _ _).1 e) hov
  rw[Io];refine Td0 h.G h.S h.nx h.bd h.q V (k.kh.below hb).g (λV2 hb2=>Ue0 h.S p.D h.tm h.k h.b h.x h.t h.l h.root h.pub h.sec h.rnd (h.tot:Nat) h.bat h.nx h.q h.bd h.id V2 ?_ ((d1.below hb).below hb2).ltD (by rw[<-jc];exact((d1.below hb).below hb2).term));have hs:=(k.kh.below hb).s.on hb2;unfold Hd.sc at hs;rw[ho]at hs;exact hs
theorem Vd0 (k:HW lo p h w)(hT:Tn w)(Yg:1<lo)(d:Fe)(h1:41<d.kd)(h2:d.kd<=45)(hmx:d.s.size<=maxLen):Calls prog 80 #[.agg #[pointer (some ⟨h.G,0,none⟩),pointer (some ⟨h.Rs,0,none⟩)],Be d] w λe w'=>e=.returned (.bool true)/\(Below w.heap.size w w'\/JL lo p h w w'):=by
 have hc:d.kd=42\/d.kd=43\/d.kd=44\/d.kd=45:=by omega
 rcases hc with e|e|e|e
 ·exact Wd0 k d e
 ·exact Zd0 k d e
 ·exact Xd0 k d e
 ·exact Yd0 k hT Yg d e hmx
end
def vg (st:Da):Nat->Da
 |0=>st
 |1=>Cb st
 |2=>Sb (Cb st) 0
 |_=>Sb (Sb (Cb st) 0) 1
def Hf (st:Da):ByteArray×Int:=Ec (Cb st) 0
def ah (st:Da):ByteArray×Int:=Ec (Sb (Cb st) 0) 1
def Nk (st:Da):Nat->List He
 |0=>[]
 |1=>[]
 |2=>ai [] (Hf st).1
 |_=>ai (ai [] (Hf st).1) (ah st).1
def Xb (st:Da)(id:ByteArray)(tot:Int):He:=Gi id tot ⟨0,0,⟨#[]⟩⟩ (Nk st 3) (Nk st 3).length
def oh (st:Da)(id:ByteArray)(tot:Int):Int:=if Qc st≠0 then Qc st else if(Hf st).2≠0 then(Hf st).2 else if(ah st).2≠0 then(ah st).2 else if(Xb st id tot).q=0 then 8 else 0
def mi (st:Da):Da:=if Qc st≠0 then vg st 1 else if(Hf st).2≠0 then vg st 2 else vg st 3
theorem CE (L:List He)(x:ByteArray):(ai L x).length<=L.length+1:=by
 unfold ai;split<;>simp
theorem da0 (st:Da):(Nk st 3).length<=2:=by
 have h0:=CE [] (Hf st).1;have h1:=CE (ai [] (Hf st).1) (ah st).1;simp only[List.length_nil]at h0;show(ai (ai [] (Hf st).1) (ah st).1).length<=2;omega
def zF:List Nat:=[107,108,109,172]
def zC:List Value:=zF.map λf=>.func (.func f) #[] #[]
def aI (lo O SB D:Nat)(T:TypeId)(st:Da)(id:ByteArray)(tot:Int)(F:Nat->Prop)(V:World)(j:Nat)(V':World):Prop:=(1<=j->Qc st=0)/\(2<=j->(Hf st).2=0)/\(3<=j->(ah st).2=0)/\(4<=j->(Xb st id tot).q≠0)/\∃F' fv,Ug lo O SB D T zC (vg st j) id tot (Nk st j) (if j<=3 then⟨0,0,⟨#[]⟩⟩else Xb st id tot) F V V' F' fv
theorem U9 (lo O SB D:Nat)(T:TypeId)(st:Da)(F:Nat->Prop)(id:ByteArray)(tot:Int)(V:World)(hD:Fb lo D st V F)(hOb:ma V O (Lg D id tot (slice none 0 0) 0 0 ⟨#[]⟩) 246)(hSb:ma V SB zC T)(nO:¬F O)(nS:¬F SB)(hlo:lo<=V.heap.size)(Cn:SB≠O)(y0:0<=st.syncs)(y1:st.syncs<9223372036854775807):Calls prog 180 #[pointer (some ⟨O,0,none⟩),slice (some ⟨SB,0,none⟩) 4 4] V λe w'=>e=.returned (int i64 (oh st id tot))/\((oh st id tot=0->∃fv,bI lo O D (mi st) (Lg D id tot fv (Xb st id tot).q (Xb st id tot).b (Xb st id tot).d) F V w')/\∃F2,Fb lo D (mi st) w' F2/\za (λk=>k=O\/F k) V w'/\∀k,F2 k->F k\/V.heap.size<=k):=by
 have hO:=hOb.lt;have hS:=hSb.lt;refine(wO zF 4 O SB (aI lo O SB D T st id tot F V) (λc V'=>c=oh st id tot/\c≠0/\∃F2,Fb lo D (mi st) V' F2/\za (λk=>k=O\/F k) V V'/\∀k,F2 k->F k\/V.heap.size<=k) V rfl (by decide) ?_ ?_ ?_ ?_).mono ?_
 ·refine⟨λh=>by omega,λh=>by omega,λh=>by omega,λh=>by omega,F,slice none 0 0,hD,World.ownsRow_nil _ _ _ _,hOb,hSb,za.refl _ _,λk hk=>.inl hk,λk e=>by simp[Value.ownBlock]at e⟩
 ·intro j f hf args V';have hj:j<4:=by have:=(List.getElem?_eq_some_iff.1 hf).1;simpa[zF]using this
  rcases j with _|_|_|_|j
  ·cases hf;exact Er _ _ func107 (by kernel_rfl) (by kernel_rfl) args V'
  ·cases hf;exact Er _ _ func108 (by kernel_rfl) (by kernel_rfl) args V'
  ·cases hf;exact Er _ _ func109 (by kernel_rfl) (by kernel_rfl) args V'
  ·cases hf;exact Er _ _ func172 (by kernel_rfl) (by kernel_rfl) args V'
  ·omega
 ·rintro j f V' ⟨_,_,_,_,F',fv,h⟩ hf
  rw[h.s.cell j,zC,List.getElem?_map,hf];rfl
 ·rintro j f V' ⟨i1,i2,i3,i4,F',fv,h⟩ hf
  have hj:j<4:=by have:=(List.getElem?_eq_some_iff.1 hf).1;simpa[zF]using this
  rcases j with _|_|_|_|j
  ·cases hf
   refine(JI h hO nO hS nS y0 y1).mono ?_
   rintro e w' ⟨c,rfl,hc,F2,h2⟩
   refine⟨c,rfl,λh0=>⟨λ_=>hc.symm.trans h0,λh=>by omega,λh=>by omega,λh=>by omega,F2,fv,h2⟩,λhn=>?_⟩;have hc':c=Qc st:=hc;have hn':Qc st≠0:=by rw[<-hc'];exact hn
   exact⟨by rw[oh,if_pos hn'];exact hc,hn,F2,by rw[mi,if_pos hn'];exact h2.k,h2.kept,h2.foot⟩
  ·cases hf
   have q1:=i1 (by omega);refine(zR (λc w'=>(c=0->aI lo O SB D T st id tot F V 2 w')/\(c≠0->(c=oh st id tot/\c≠0/\∃F2,Fb lo D (mi st) w' F2/\za (λk=>k=O\/F k) V w'/\∀k,F2 k->F k\/V.heap.size<=k))) O V' ?_).mono (λe w' h=>h);by_cases hc:(Hf st).2=0
   ·refine(IE h hO nO hS nS Cn hlo (by show(Nk st 1).length<=100;simp[Nk]) 0 (Hf st).1 (by show Hf st=_;rw[<-hc])).mono ?_
    rintro e w' ⟨rfl,F2,Ht,h2⟩
    exact⟨0,rfl,λ_=>⟨λ_=>q1,λ_=>hc,λh=>by omega,λh=>by omega,F2,Ht,h2⟩,λh=>absurd rfl h⟩
   ·refine(FE h hO nO hS nS 0 (Hf st).2 (Hf st).1 rfl hc).mono ?_
    rintro e w' ⟨rfl,F2,h2⟩
    exact⟨_,rfl,λh=>absurd h hc,λ_=>⟨by rw[oh,if_neg (λh=>h q1),if_pos hc],hc,F2,by rw[mi,if_neg (λh=>h q1),if_pos hc];exact h2.k,h2.kept,h2.foot⟩⟩
  ·cases hf
   have q1:=i1 (by omega);have q2:=i2 (by omega);refine(AR (λc w'=>(c=0->aI lo O SB D T st id tot F V 3 w')/\(c≠0->(c=oh st id tot/\c≠0/\∃F2,Fb lo D (mi st) w' F2/\za (λk=>k=O\/F k) V w'/\∀k,F2 k->F k\/V.heap.size<=k))) O V' ?_).mono (λe w' h=>h);by_cases hc:(ah st).2=0
   ·refine(IE h hO nO hS nS Cn hlo (by have:=CE [] (Hf st).1;show(ai [] (Hf st).1).length<=100;simp only[List.length_nil]at this;omega) 1 (ah st).1 (by show ah st=_;rw[<-hc])).mono ?_
    rintro e w' ⟨rfl,F2,Ht,h2⟩
    exact⟨0,rfl,λ_=>⟨λ_=>q1,λ_=>q2,λ_=>hc,λh=>by omega,F2,Ht,h2⟩,λh=>absurd rfl h⟩
   ·refine(FE h hO nO hS nS 1 (ah st).2 (ah st).1 rfl hc).mono ?_
    rintro e w' ⟨rfl,F2,h2⟩
    exact⟨_,rfl,λh=>absurd h hc,λ_=>⟨by rw[oh,if_neg (λh=>h q1),if_neg (λh=>h q2),if_pos hc],hc,F2,by rw[mi,if_neg (λh=>h q1),if_neg (λh=>h q2)];exact h2.k,h2.kept,h2.foot⟩⟩
  ·cases hf
   have q1:=i1 (by omega);have q2:=i2 (by omega);have q3:=i3 (by omega);refine(lZ (L:=Nk st 3) (st:=vg st 3) h hO nO Cn (Nat.le_trans (da0 st) (by decide))).mono ?_
   rintro e w' ⟨c,rfl,hcc,h2⟩
   have eS:mi st=vg st 3:=by rw[mi,if_neg (λh=>h q1),if_neg (λh=>h q2)]
   rcases hcc with⟨rfl,hq⟩|⟨rfl,hq⟩
   ·refine⟨8,rfl,λh=>by omega,λ_=>⟨?_,by decide,F',by rw[eS];exact h2.k,h2.kept,h2.foot⟩⟩;rw[oh,if_neg (λh=>h q1),if_neg (λh=>h q2),if_neg (λh=>h q3),if_pos (show(Xb st id tot).q=0 from hq)]
   ·exact⟨0,rfl,λ_=>⟨λ_=>q1,λ_=>q2,λ_=>q3,λ_=>hq,F',fv,h2⟩,λh=>absurd rfl h⟩
  ·omega
 ·rintro e w' ⟨c,rfl,h0,h1⟩
  by_cases hc:c=0
  ·subst hc;obtain⟨i1,i2,i3,i4,F',fv,h⟩:=h0 rfl;have eA:oh st id tot=0:=by rw[oh,if_neg (λh=>h (i1 (by omega))),if_neg (λh=>h (i2 (by omega))),if_neg (λh=>h (i3 (by omega))),if_neg (i4 (by omega))]
   have eS:mi st=vg st 3:=by rw[mi,if_neg (λh=>h (i1 (by omega))),if_neg (λh=>h (i2 (by omega)))]
   rw[eA,eS];exact⟨rfl,λ_=>⟨fv,h.o,F',h.k,h.kept,h.foot⟩,F',h.k,h.kept,h.foot⟩
  ·obtain⟨rfl,hn,h2⟩:=h1 hc;exact⟨rfl,λh=>absurd h hn,h2⟩
def Mk (st:Da)(id:ByteArray):Da:=Jb (vg st 3) 1 (Ua 1 0 id)
def uf (st:Da)(id:ByteArray):Int:=if Qc st≠0 then Qc st else if(Hf st).2≠0 then(Hf st).2 else if(ah st).2≠0 then(ah st).2 else if Nk st 3≠[]then 7 else if Kc (vg st 3) 1 (Ua 1 0 id)≠0 then Kc (vg st 3) 1 (Ua 1 0 id)else Qc (Mk st id)
def Tg (st:Da)(id:ByteArray):Da:=if Qc st≠0 then vg st 1 else if(Hf st).2≠0 then vg st 2 else if(ah st).2≠0 then vg st 3 else if Nk st 3≠[]then vg st 3 else if Kc (vg st 3) 1 (Ua 1 0 id)≠0 then Mk st id else Cb (Mk st id)
def C9 (st:Da)(id:ByteArray):Nat->Da
 |0=>vg st 0
 |1=>vg st 1
 |2=>vg st 2
 |3=>vg st 3
 |4=>vg st 3
 |5=>Mk st id
 |_=>Cb (Mk st id)
def bK (st:Da):Nat->List He
 |0=>[]
 |1=>[]
 |2=>Nk st 2
 |_=>Nk st 3
def YH (lo O SB D:Nat)(T:TypeId)(st:Da)(id:ByteArray)(tot:Int)(F:Nat->Prop)(V:World)(j:Nat)(V':World):Prop:=(1<=j->Qc st=0)/\(2<=j->(Hf st).2=0)/\(3<=j->(ah st).2=0)/\(4<=j->Nk st 3=[])/\(5<=j->Kc (vg st 3) 1 (Ua 1 0 id)=0)/\(6<=j->Qc (Mk st id)=0)/\∃F' fv,Ug lo O SB D T uC (C9 st id j) id tot (bK st j) (if j<=4 then⟨0,0,⟨#[]⟩⟩else⟨1,0,id⟩) F V V' F' fv
theorem V8 (lo O SB D:Nat)(T:TypeId)(st:Da)(F:Nat->Prop)(id:ByteArray)(tot:Int)(V:World)(hD:Fb lo D st V F)(hOb:ma V O (Lg D id tot (slice none 0 0) 0 0 ⟨#[]⟩) 246)(hSb:ma V SB uC T)(nO:¬F O)(nS:¬F SB)(hlo:lo<=V.heap.size)(Cn:SB≠O)(hid:id.size=8)(y0:0<=st.syncs)(y1:st.syncs<9223372036854775807)
  (r0:0<=(vg st 3).writes)(r1:(vg st 3).writes<9223372036854775807)(y2:0<=(Mk st id).syncs)(y3:(Mk st id).syncs<9223372036854775807):Calls prog 180 #[pointer (some ⟨O,0,none⟩),slice (some ⟨SB,0,none⟩) 6 6] V λe w'=>e=.returned (int i64 (uf st id))/\((uf st id=0->∃fv,bI lo O D (Tg st id) (Lg D id tot fv 1 0 id) F V w')/\∃F2,Fb lo D (Tg st id) w' F2/\za (λk=>k=O\/F k) V w'/\∀k,F2 k->F k\/V.heap.size<=k):=by
 have hO:=hOb.lt;have hS:=hSb.lt;refine(wO wF 6 O SB (YH lo O SB D T st id tot F V) (λc V'=>c=uf st id/\c≠0/\∃F2,Fb lo D (Tg st id) V' F2/\za (λk=>k=O\/F k) V V'/\∀k,F2 k->F k\/V.heap.size<=k) V rfl (by decide) ?_ ?_ ?_ ?_).mono ?_
 ·refine⟨λh=>by omega,λh=>by omega,λh=>by omega,λh=>by omega,λh=>by omega,λh=>by omega,F,slice none 0 0,hD,World.ownsRow_nil _ _ _ _,hOb,hSb,za.refl _ _,λk hk=>.inl hk,λk e=>by simp[Value.ownBlock]at e⟩
 ·intro j f hf args V';have hj:j<6:=by have:=(List.getElem?_eq_some_iff.1 hf).1;simpa[wF]using this
  rcases j with _|_|_|_|_|_|j
  ·cases hf;exact Er _ _ func107 (by kernel_rfl) (by kernel_rfl) args V'
  ·cases hf;exact Er _ _ func108 (by kernel_rfl) (by kernel_rfl) args V'
  ·cases hf;exact Er _ _ func109 (by kernel_rfl) (by kernel_rfl) args V'
  ·cases hf;exact Er _ _ func110 (by kernel_rfl) (by kernel_rfl) args V'
  ·cases hf;exact Er _ _ func111 (by kernel_rfl) (by kernel_rfl) args V'
  ·cases hf;exact Er _ _ func107 (by kernel_rfl) (by kernel_rfl) args V'
  ·omega
 ·rintro j f V' ⟨_,_,_,_,_,_,F',fv,h⟩ hf
  rw[h.s.cell j,uC,List.getElem?_map,hf];rfl
 ·rintro j f V' ⟨i1,i2,i3,i4,i5,i6,F',fv,h⟩ hf
  have hj:j<6:=by have:=(List.getElem?_eq_some_iff.1 hf).1;simpa[wF]using this
  rcases j with _|_|_|_|_|_|j
  ·cases hf
   refine(JI h hO nO hS nS y0 y1).mono ?_
   rintro e w' ⟨c,rfl,hc,F2,h2⟩
   have hc':c=Qc st:=hc;refine⟨c,rfl,λh0=>⟨λ_=>hc'.symm.trans h0,λh=>by omega,λh=>by omega,λh=>by omega,λh=>by omega,λh=>by omega,F2,fv,h2⟩,λhn=>?_⟩;have hn':Qc st≠0:=by rw[<-hc'];exact hn
   exact⟨by rw[uf,if_pos hn'];exact hc',hn,F2,by rw[Tg,if_pos hn'];exact h2.k,h2.kept,h2.foot⟩
  ·cases hf
   have q1:=i1 (by omega);refine(zR (λc w'=>(c=0->YH lo O SB D T st id tot F V 2 w')/\(c≠0->(c=uf st id/\c≠0/\∃F2,Fb lo D (Tg st id) w' F2/\za (λk=>k=O\/F k) V w'/\∀k,F2 k->F k\/V.heap.size<=k))) O V' ?_).mono (λe w' h=>h);by_cases hc:(Hf st).2=0
   ·refine(IE h hO nO hS nS Cn hlo (by show(bK st 1).length<=100;simp[bK]) 0 (Hf st).1 (by show Hf st=_;rw[<-hc])).mono ?_
    rintro e w' ⟨rfl,F2,Ht,h2⟩
    exact⟨0,rfl,λ_=>⟨λ_=>q1,λ_=>hc,λh=>by omega,λh=>by omega,λh=>by omega,λh=>by omega,F2,Ht,h2⟩,λh=>absurd rfl h⟩
   ·refine(FE h hO nO hS nS 0 (Hf st).2 (Hf st).1 rfl hc).mono ?_
    rintro e w' ⟨rfl,F2,h2⟩
    exact⟨_,rfl,λh=>absurd h hc,λ_=>⟨by rw[uf,if_neg (λh=>h q1),if_pos hc],hc,F2,by rw[Tg,if_neg (λh=>h q1),if_pos hc];exact h2.k,h2.kept,h2.foot⟩⟩
  ·cases hf
   have q1:=i1 (by omega);have q2:=i2 (by omega);refine(AR (λc w'=>(c=0->YH lo O SB D T st id tot F V 3 w')/\(c≠0->(c=uf st id/\c≠0/\∃F2,Fb lo D (Tg st id) w' F2/\za (λk=>k=O\/F k) V w'/\∀k,F2 k->F k\/V.heap.size<=k))) O V' ?_).mono (λe w' h=>h);by_cases hc:(ah st).2=0
   ·refine(IE h hO nO hS nS Cn hlo (by have:=CE [] (Hf st).1;show(ai [] (Hf st).1).length<=100;simp only[List.length_nil]at this;omega) 1 (ah st).1 (by show ah st=_;rw[<-hc])).mono ?_
    rintro e w' ⟨rfl,F2,Ht,h2⟩
    exact⟨0,rfl,λ_=>⟨λ_=>q1,λ_=>q2,λ_=>hc,λh=>by omega,λh=>by omega,λh=>by omega,F2,Ht,h2⟩,λh=>absurd rfl h⟩
   ·refine(FE h hO nO hS nS 1 (ah st).2 (ah st).1 rfl hc).mono ?_
    rintro e w' ⟨rfl,F2,h2⟩
    exact⟨_,rfl,λh=>absurd h hc,λ_=>⟨by rw[uf,if_neg (λh=>h q1),if_neg (λh=>h q2),if_pos hc],hc,F2,by rw[Tg,if_neg (λh=>h q1),if_neg (λh=>h q2),if_pos hc];exact h2.k,h2.kept,h2.foot⟩⟩
  ·cases hf
   have q1:=i1 (by omega);have q2:=i2 (by omega);have q3:=i3 (by omega);refine(kZ h).mono ?_
   rintro e w' ⟨c,rfl,hcc,rfl⟩
   rcases hcc with⟨rfl,hl⟩|⟨rfl,hl⟩
   ·exact⟨0,rfl,λ_=>⟨λ_=>q1,λ_=>q2,λ_=>q3,λ_=>hl,λh=>by omega,λh=>by omega,F',fv,h⟩,λh=>absurd rfl h⟩
   ·have hl':Nk st 3≠[]:=hl;exact⟨7,rfl,λh=>by omega,λ_=>⟨by rw[uf,if_neg (λh=>h q1),if_neg (λh=>h q2),if_neg (λh=>h q3),if_pos hl'],by decide,F',by rw[Tg,if_neg (λh=>h q1),if_neg (λh=>h q2),if_neg (λh=>h q3),if_pos hl'];exact h.k,h.kept,h.foot⟩⟩
  ·cases hf
   have q1:=i1 (by omega);have q2:=i2 (by omega);have q3:=i3 (by omega);have q4:=i4 (by omega);refine(jZ (st:=vg st 3) (L:=Nk st 3) (lq0:=0) (lb0:=0) (ld0:=⟨#[]⟩) h hO nO hS nS Cn hlo hid r0 r1).mono ?_
   rintro e w' ⟨c,rfl,hc,F2,h2⟩
   refine⟨c,rfl,λh0=>⟨λ_=>q1,λ_=>q2,λ_=>q3,λ_=>q4,λ_=>hc.symm.trans h0,λh=>by omega,F2,fv,h2⟩,λhn=>?_⟩;have hn':Kc (vg st 3) 1 (Ua 1 0 id)≠0:=by rw[<-hc];exact hn
   exact⟨by rw[uf,if_neg (λh=>h q1),if_neg (λh=>h q2),if_neg (λh=>h q3),if_neg (λh=>h q4),if_pos hn'];exact hc,hn,F2,by rw[Tg,if_neg (λh=>h q1),if_neg (λh=>h q2),if_neg (λh=>h q3),if_neg (λh=>h q4),if_pos hn'];exact h2.k,h2.kept,h2.foot⟩
  ·cases hf
   have q1:=i1 (by omega);have q2:=i2 (by omega);have q3:=i3 (by omega);have q4:=i4 (by omega);have q5:=i5 (by omega);refine(JI (st:=Mk st id) h hO nO hS nS y2 y3).mono ?_
   rintro e w' ⟨c,rfl,hc,F2,h2⟩
   refine⟨c,rfl,λh0=>⟨λ_=>q1,λ_=>q2,λ_=>q3,λ_=>q4,λ_=>q5,λ_=>hc.symm.trans h0,F2,fv,h2⟩,λhn=>?_⟩;exact⟨by rw[uf,if_neg (λh=>h q1),if_neg (λh=>h q2),if_neg (λh=>h q3),if_neg (λh=>h q4),if_neg (λh=>h q5)];exact hc,hn,F2,by rw[Tg,if_neg (λh=>h q1),if_neg (λh=>h q2),if_neg (λh=>h q3),if_neg (λh=>h q4),if_neg (λh=>h q5)];exact h2.k,h2.kept,h2.foot⟩
  ·omega
 ·rintro e w' ⟨c,rfl,h0,h1⟩
  by_cases hc:c=0
  ·subst hc;obtain⟨i1,i2,i3,i4,i5,i6,F',fv,h⟩:=h0 rfl;have eA:uf st id=0:=by rw[uf,if_neg (λh=>h (i1 (by omega))),if_neg (λh=>h (i2 (by omega))),if_neg (λh=>h (i3 (by omega))),if_neg (λh=>h (i4 (by omega))),if_neg (λh=>h (i5 (by omega)))];exact i6 (by omega)
   have eS:Tg st id=Cb (Mk st id):=by rw[Tg,if_neg (λh=>h (i1 (by omega))),if_neg (λh=>h (i2 (by omega))),if_neg (λh=>h (i3 (by omega))),if_neg (λh=>h (i4 (by omega))),if_neg (λh=>h (i5 (by omega)))]
   rw[eA,eS];exact⟨rfl,λ_=>⟨fv,h.o,F',h.k,h.kept,h.foot⟩,F',h.k,h.kept,h.foot⟩
  ·obtain⟨rfl,hn,h2⟩:=h1 hc;exact⟨rfl,λh=>absurd h hn,h2⟩
theorem iU (x:ByteArray):0<(mf x).1↔Le x=true:=by
 unfold mf;split
 ·rename_i h
  have:=((Sw x).1 h).2.1.1;exact⟨λ_=>h,λ_=>by show 0<Hg x;omega⟩
 ·rename_i h
  exact⟨λe=>absurd e (by decide),λe=>absurd e h⟩
theorem fZ (x y:ByteArray):ai (ai [] x) y≠[]↔Le x=true\/Le y=true:=by
 unfold ai;by_cases h1:Le x=true<;>by_cases h2:Le y=true<;>simp[h1,h2]
theorem ZQ (st:Da)(id:ByteArray):Aq st id=uf st id/\Qr st id=Tg st id:=by
 unfold Aq Qr uf Tg Sg Ae;by_cases h1:Qc st=0
 ·by_cases h2:(Hf st).2=0
  ·by_cases h3:(ah st).2=0
   ·have e2:(Ec (Cb st) 0).2=0:=h2;have e3:(Ec (Sb (Cb st) 0) 1).2=0:=h3
    have e4:Nk st 3≠[]↔(0<(mf (Ec (Cb st) 0).1).1\/0<(mf (Ec (Sb (Cb st) 0) 1).1).1):=by
     rw[iU,iU];exact fZ _ _
    simp only[h1,h2,h3,e2,e3,ne_eq,not_true_eq_false,if_false];by_cases h5:Nk st 3≠[]
    ·rw[if_pos (e4.1 h5),if_pos h5,if_pos (e4.1 h5),if_pos h5];exact⟨rfl,rfl⟩
    ·rw[if_neg (λe=>h5 (e4.2 e)),if_neg h5,if_neg (λe=>h5 (e4.2 e)),if_neg h5];exact⟨rfl,rfl⟩
   ·have e2:(Ec (Cb st) 0).2=0:=h2;have e3:¬(Ec (Sb (Cb st) 0) 1).2=0:=h3;simp only[h1,h2,h3,e2,e3,ne_eq,not_true_eq_false,not_false_eq_true,if_false,if_true];exact⟨rfl,rfl⟩
  ·have e2:¬(Ec (Cb st) 0).2=0:=h2;simp only[h1,h2,e2,ne_eq,not_true_eq_false,not_false_eq_true,if_false,if_true];exact⟨rfl,rfl⟩
 ·simp only[h1,ne_eq,not_false_eq_true,if_true];exact⟨trivial,rfl⟩
def r3 (r:He):yu:=(r.q,r.b,r.d)
theorem Uy (id:ByteArray)(tot:Int)(x:ByteArray):ji id tot (mf x)=(0,0,⟨#[]⟩)\/(Le x=true/\ji id tot (mf x)=r3 (Qo x)/\Qd x=id/\qg x<=tot):=by
 by_cases h:Le x=true
 ·have hu:mf x=(Hg x,qg x,Qd x):=if_pos h;by_cases hm:Qd x=id/\qg x<=tot
  ·exact .inr ⟨h,by rw[hu];exact if_pos hm,hm.1,hm.2⟩
  ·exact .inl (by rw[hu];exact if_neg hm)
 ·have hu:mf x=(0,0,⟨#[]⟩):=if_neg h;rw[hu];unfold ji;split<;>exact .inl rfl
theorem YT (id:ByteArray)(tot:Int)(l:He)(x:ByteArray)(h0:0<=l.q)(h1:0<=l.b):r3 (if Le x=true then Ng id tot l (Qo x)else l)=if jC (r3 l) (ji id tot (mf x))then ji id tot (mf x)else r3 l:=by
 have hz:¬jC (r3 l) ((0,0,⟨#[]⟩):yu):=by
  rintro(e|e)
  ·have:l.q<0:=e;omega
  ·have:l.b<0:=e.2;omega
 by_cases h:Le x=true
 ·rw[if_pos h];rcases Uy id tot x with hm|⟨_,hm,hi,hb⟩
  ·rw[hm,if_neg hz]
   have hno:¬(Qd x=id/\qg x<=tot):=λe=>by
    have hu:ji id tot (mf x)=(Hg x,qg x,Qd x):=by rw[show mf x=(Hg x,qg x,Qd x)from if_pos h];exact if_pos e
    rw[hm]at hu;have hq:(0:Int)=Hg x:=congrArg Prod.fst hu;have:=((Sw x).1 h).2.1.1;omega
   rw[show Ng id tot l (Qo x)=l from if_neg (λe=>hno ⟨e.1,e.2.1⟩)]
  ·rw[hm];by_cases hl:jC (r3 l) (r3 (Qo x))
   ·rw[if_pos hl,show Ng id tot l (Qo x)=Qo x from if_pos ⟨hi,hb,decide_eq_true hl⟩]
   ·rw[if_neg hl,show Ng id tot l (Qo x)=l from if_neg (λe=>hl (of_decide_eq_true e.2.2))]
 ·rw[if_neg h]
  have hm:ji id tot (mf x)=(0,0,⟨#[]⟩):=by
   rcases Uy id tot x with hm|⟨e,_⟩
   ·exact hm
   ·exact absurd e h
  rw[hm,if_neg hz]
theorem BO (id:ByteArray)(tot:Int)(l:He)(L:List He)(x:ByteArray):(ai L x).foldl (Ng id tot) l=if Le x=true then Ng id tot (L.foldl (Ng id tot) l) (Qo x)else L.foldl (Ng id tot) l:=by
 unfold ai;split
 ·rw[List.foldl_append];rfl
 ·rfl
theorem mK (st:Da)(id:ByteArray)(tot:Int):Vl st id tot=r3 (Xb st id tot):=by
 have h1:Xb st id tot=(ai (ai [] (Hf st).1) (ah st).1).foldl (Ng id tot) ⟨0,0,⟨#[]⟩⟩:=by
  unfold Xb Gi;rw[List.take_length];rfl
 rw[h1,BO,BO];show Ry id tot (mf (Hf st).1) (mf (ah st).1)=_;generalize(Hf st).1=x;generalize(ah st).1=y;have hs:=YT id tot ⟨0,0,⟨#[]⟩⟩ x (Int.le_refl _) (Int.le_refl _)
 have hl:r3 (if Le x=true then Ng id tot (List.foldl (Ng id tot) ⟨0,0,⟨#[]⟩⟩ []) (Qo x)else List.foldl (Ng id tot) ⟨0,0,⟨#[]⟩⟩ [])=ji id tot (mf x):=by
  refine hs.trans ?_;rcases Uy id tot x with hm|⟨e,hm,_⟩
  ·rw[hm];split<;>rfl
  ·rw[hm];have:=((Sw x).1 e).2.1.1;exact if_pos (.inl (show(0:Int)<Hg x by omega))
 generalize(if Le x=true then Ng id tot (List.foldl (Ng id tot) ⟨0,0,⟨#[]⟩⟩ []) (Qo x)else List.foldl (Ng id tot) ⟨0,0,⟨#[]⟩⟩ [])=m at hl
 have hq:0<=m.q/\0<=m.b:=by
  have e1:m.q=(ji id tot (mf x)).1:=by rw[<-hl];rfl
  have e2:m.b=(ji id tot (mf x)).2.1:=by rw[<-hl];rfl
  rw[e1,e2];rcases Uy id tot x with hm|⟨e,hm,_⟩
  ·rw[hm];exact⟨Int.le_refl _,Int.le_refl _⟩
  ·rw[hm];have:=((Sw x).1 e).2.1;exact⟨by show 0<=Hg x;have:=this.1;omega,this.2.2.1⟩
 rw[YT id tot m y hq.1 hq.2,hl];rfl
theorem ia0 (st:Da)(id:ByteArray)(tot:Int):Bq st id tot=oh st id tot/\Ae st=mi st:=by
 unfold Bq oh Ae mi Sg;have hq:(Vl st id tot).1=(Xb st id tot).q:=by rw[mK];rfl
 rw[hq];refine⟨?_,rfl⟩;by_cases h1:Qc st=0
 ·by_cases h2:(Hf st).2=0
  ·have e2:(Ec (Cb st) 0).2=0:=h2;simp only[h1,h2,e2,ne_eq,not_true_eq_false,if_false];rfl
  ·have e2:¬(Ec (Cb st) 0).2=0:=h2;simp only[h1,h2,e2,ne_eq,not_true_eq_false,not_false_eq_true,if_false,if_true];rfl
 ·simp only[h1,ne_eq,not_false_eq_true,if_true]
theorem ka0 (st:Da)(id:ByteArray)(tot:Int)(h:(Xb st id tot).q≠0):1<=(Xb st id tot).q/\(Xb st id tot).q<=2147483647/\0<=(Xb st id tot).b/\(Xb st id tot).b<=tot/\(Xb st id tot).d=id:=by
 have hs:=mK st id tot
 have key:∀x y:ByteArray,Ry id tot (mf x) (mf y)=(0,0,⟨#[]⟩)\/∃z,Le z=true/\Ry id tot (mf x) (mf y)=r3 (Qo z)/\Qd z=id/\qg z<=tot:=by
  intro x y;unfold Ry;split
  ·rcases Uy id tot y with hm|⟨a,b⟩
   ·exact .inl hm
   ·exact .inr ⟨y,a,b⟩
  ·rcases Uy id tot x with hm|⟨a,b⟩
   ·exact .inl hm
   ·exact .inr ⟨x,a,b⟩
 have e1:(Xb st id tot).q=(Vl st id tot).1:=by rw[hs];rfl
 have e2:(Xb st id tot).b=(Vl st id tot).2.1:=by rw[hs];rfl
 have e3:(Xb st id tot).d=(Vl st id tot).2.2:=by rw[hs];rfl
 rw[e1]at h;rw[e1,e2,e3];rcases key (Ec (Cb st) 0).1 (Ec (Sb (Cb st) 0) 1).1 with hk|⟨z,hz,hk,hi,hb⟩
 ·exact absurd (show(Vl st id tot).1=0 by unfold Vl;rw[hk]) h
 ·have hr:=((Sw z).1 hz).2.1;unfold Vl;rw[hk];exact⟨hr.1,hr.2.1,hr.2.2.1,hb,hi⟩
theorem Kv (st:Da):(Cb st).term=st.term:=by unfold Cb;split<;>rfl
theorem az (st:Da)(i:Int):(Sb st i).term=st.term:=by unfold Sb;split<;>rfl
theorem qL (st:Da)(i:Int)(t:ByteArray):(Jb st i t).term=st.term:=by
 unfold Jb
 repeat' split
 all_goals rfl
theorem lK (st:Da)(j:Nat):(vg st j).term=st.term:=by
 rcases j with _|_|_|j
 ·rfl
 ·exact Kv st
 ·show(Sb (Cb st) 0).term=_;rw[az,Kv]
 ·show(Sb (Sb (Cb st) 0) 1).term=_;rw[az,az,Kv]
theorem ga0 (st:Da):(mi st).term=st.term:=by
 unfold mi
 repeat' split
 all_goals exact lK _ _
theorem YQ (st:Da)(id:ByteArray):(Mk st id).term=st.term:=by unfold Mk;rw[qL,lK]
theorem D9 (st:Da)(id:ByteArray):(Tg st id).term=st.term:=by
 unfold Tg
 repeat' split
 all_goals first|exact lK _ _|exact YQ _ _|(rw[Kv,YQ])
theorem U8 (lo D:Nat)(st:Da)(F:Nat->Prop)(k b x t l:Int)(root pub sec rnd id:ByteArray)(tot bat z0 z1 z2 z4 z5:Int)(w:World)(hD:Fb lo D st w F)(hn:2<=st.n)(hT:Tn w)(Yg:1<lo)(hlo:lo<=w.heap.size)(hb1:1<=bat)(hb2:bat<=64)(ht0:0<=st.term)(ht1:st.term<9223372036854775807)
  (hM:∀V:World,Calls prog 155 #[.agg #[int i64 k,int i64 b,int i64 x,int i64 t,int i64 l]] V λe w'=>e=.returned (.tuple #[.agg #[int i64 z0,int i64 z1,int i64 z2,int i64 tot,int i64 z4,int i64 z5],int i64 0])/\Below V.heap.size V w')
  (ll:∀V:World,Tn V->Calls prog 178 #[.agg #[int i64 k,int i64 b,int i64 x,int i64 t,int i64 l],.agg #[string sec,string rnd,string pub]] V λe w'=>e=.returned (.tuple #[.agg #[int i64 k,int i64 b,int i64 x,int i64 t,int i64 l,string root,string pub],int i64 0])/\Below V.heap.size V w')
  (zn:∀V:World,Tn V->Calls prog 179 #[.agg #[int i64 k,int i64 b,int i64 x,int i64 t,int i64 l,string root,string pub]] V λe w'=>e=.returned (string id)/\Below V.heap.size V w')
  (s':Da)(hs':s'={st with term:=st.term+1})(y0:0<=s'.syncs)(y1:s'.syncs<9223372036854775807)(hid:id.size=8)(r0:0<=(vg s' 3).writes)(r1:(vg s' 3).writes<9223372036854775807)(y2:0<=(Mk s' id).syncs)(y3:(Mk s' id).syncs<9223372036854775807):Calls prog 66 #[pointer (some ⟨D,0,none⟩),.agg #[int i64 k,int i64 b,int i64 x,int i64 t,int i64 l],.agg #[string sec,string rnd,string pub],int i64 bat] w λe w'=>∃F',Fb lo D (Tg s' id) w' F'/\za F w w'/\(∀k,F' k->F k\/w.heap.size<=k)/\((uf s' id=0/\∃S,e=.returned (.tuple #[pointer (some ⟨S,0,none⟩),int i64 0])/\ma w' S (Zb D (st.term+1) k b x t l root pub sec rnd tot bat 0 1 0 id false) 188/\¬F' S/\w.heap.size<=S)\/(uf s' id≠0/\e=.returned (.tuple #[pointer none,int i64 (uf s' id)]))):=by
 obtain⟨W1,hW⟩:=Ca (((w.alloc (.cells #[int i64 k,int i64 b,int i64 x,int i64 t,int i64 l] 26)).alloc (.cells #[string sec,string rnd,string pub] 42)).alloc (.cells (List.toArray [.func (.func 107) #[] #[],.func (.func 108) #[] #[],.func (.func 109) #[] #[],.func (.func 110) #[] #[],.func (.func 111) #[] #[],.func (.func 107) #[] #[]]) 331));have HB:=Bu hW
 have rf:=aa (show ma W1 (w.heap.size+1+1) uC 331 by
  rw[<-hW];have h:=ma.new ((w.alloc (.cells #[int i64 k,int i64 b,int i64 x,int i64 t,int i64 l] 26)).alloc (.cells #[string sec,string rnd,string pub] 42)) uC 331;simp only[World.size_alloc]at h;exact h)
 have hlt:=rf.out.lt;have nF:¬F (w.heap.size+1+1):=λh=>by have:=(hD.lt _ h).2;omega
 have Iw:∀(V:World) (O:Nat) (F1:Nat->Prop),Fb lo D s' V F1->za F W1 V->(∀k,F1 k->F k\/W1.heap.size<=k)->W1.heap.size<=O->¬F1 O->ma V O (Lg D id tot (slice none 0 0) 0 0 ⟨#[]⟩) 246->_:=λV O F1 d1 k1 f1 hO nO bO=>
  V8 lo O (w.heap.size+1+1) D 331 s' F1 id tot V d1 bO (k1.blk rf.out nF) nO (by
   intro h;rcases f1 _ h with h|h
   ·exact nF h
   ·omega) (Nat.le_trans hlo (Nat.le_trans HB.out.size k1.size)) (by omega) hid y0 y1 r0 r1 y2 y3
 have HT:Hid (Calls prog 106 #[pointer (some ⟨D,0,none⟩),.agg #[int i64 k,int i64 b,int i64 x,int i64 t,int i64 l],.agg #[string sec,string rnd,string pub],int i64 bat,slice (some ⟨w.heap.size+1+1,0,none⟩) 6 6] W1 λe w'=>∃v c,e=.returned (.tuple #[pointer v,int i64 c])/\∃F',Fb lo D (Tg s' id) w' F'/\za F W1 w'/\(∀k,F' k->F k\/W1.heap.size<=k)/\((uf s' id=0/\c=0/\∃S,v=some ⟨S,0,none⟩/\ma w' S (Zb D (st.term+1) k b x t l root pub sec rnd tot bat 0 1 0 id false) 188/\¬F' S/\W1.heap.size<=S)\/(uf s' id≠0/\v=none/\c=uf s' id))):=by
  by_cases hc:uf s' id=0
  ·refine(BN lo D st (Tg s' id) F k b x t l root pub sec rnd id _ tot bat _ _ z0 z1 z2 z4 z5 (slice (some ⟨w.heap.size+1+1,0,none⟩) 6 6) W1 (hD.below HB.out) hn (hT.on HB.out) Yg (Nat.le_trans hlo HB.out.size) hb1 hb2 ht0 ht1 (by rw[D9,hs']) hM ll zn (by
    intro V O F1 d1 k1 f1 hO nO bO;rw[<-hs']at d1;refine(Iw V O F1 d1 k1 f1 hO nO bO).mono ?_
    rintro e w' ⟨rfl,h1,_⟩
    rw[hc];exact⟨rfl,h1 hc⟩)).mono ?_
   rintro e w' ⟨S,F',rfl,q1,q2,q3,q4,q5,q6⟩
   exact⟨_,_,rfl,F',q2,q5,q6,.inl ⟨hc,rfl,S,rfl,q1,q3,q4⟩⟩
  ·refine(DN lo D st (Tg s' id) F k b x t l root pub sec rnd id tot bat (uf s' id) z0 z1 z2 z4 z5 (slice (some ⟨w.heap.size+1+1,0,none⟩) 6 6) W1 (hD.below HB.out) hn (hT.on HB.out) Yg (Nat.le_trans hlo HB.out.size) hb1 hb2 ht0 ht1 hc hM ll zn (by
    intro V O F1 d1 k1 f1 hO nO bO;rw[<-hs']at d1;refine(Iw V O F1 d1 k1 f1 hO nO bO).mono ?_
    rintro e w' ⟨rfl,_,h2⟩
    exact⟨rfl,h2⟩)).mono ?_
   rintro e w' ⟨F',rfl,q2,q5,q6⟩
   exact⟨_,_,rfl,F',q2,q5,q6,.inr ⟨hc,rfl,rfl⟩⟩
 have Ea:=aa hW;clear hW hlt nF Iw hM ll zn hD hT;go_enter func66,ntmps66;go_wp2_with fail;rw[Ea.out];refine HT.out.mono ?_
 rintro e w2 ⟨v,c,rfl,hq⟩
 have HQ:=aa hq;clear hq;go_wp2;go_ret2;obtain⟨F',q2,q5,q6,q7⟩:=HQ.out;refine⟨F',q2,(za.of_below (F:=F) HB.out).trans q5 (λi hi=>.inl hi),λi hi=>?_,?_⟩
 ·rcases q6 i hi with h|h
  ·exact .inl h
  ·exact .inr (Nat.le_trans HB.out.size h)
 ·rcases q7 with⟨h1,rfl,S,rfl,h2,h3,h4⟩|⟨h1,rfl,rfl⟩
  ·exact .inl ⟨h1,S,rfl,h2,h3,Nat.le_trans HB.out.size h4⟩
  ·exact .inr ⟨h1,rfl⟩
theorem la0 (lo D:Nat)(st:Da)(F:Nat->Prop)(k b x t l:Int)(root pub sec rnd id:ByteArray)(tot bat z0 z1 z2 z4 z5:Int)(w:World)(hD:Fb lo D st w F)(hn:2<=st.n)(hT:Tn w)(Yg:1<lo)(hlo:lo<=w.heap.size)(hb1:1<=bat)(hb2:bat<=64)(ht0:0<=st.term)(ht1:st.term<9223372036854775807)
  (hM:∀V:World,Calls prog 155 #[.agg #[int i64 k,int i64 b,int i64 x,int i64 t,int i64 l]] V λe w'=>e=.returned (.tuple #[.agg #[int i64 z0,int i64 z1,int i64 z2,int i64 tot,int i64 z4,int i64 z5],int i64 0])/\Below V.heap.size V w')
  (ll:∀V:World,Tn V->Calls prog 178 #[.agg #[int i64 k,int i64 b,int i64 x,int i64 t,int i64 l],.agg #[string sec,string rnd,string pub]] V λe w'=>e=.returned (.tuple #[.agg #[int i64 k,int i64 b,int i64 x,int i64 t,int i64 l,string root,string pub],int i64 0])/\Below V.heap.size V w')
  (zn:∀V:World,Tn V->Calls prog 179 #[.agg #[int i64 k,int i64 b,int i64 x,int i64 t,int i64 l,string root,string pub]] V λe w'=>e=.returned (string id)/\Below V.heap.size V w')
  (s':Da)(hs':s'={st with term:=st.term+1})(y0:0<=s'.syncs)(y1:s'.syncs<9223372036854775807):Calls prog 100 #[pointer (some ⟨D,0,none⟩),.agg #[int i64 k,int i64 b,int i64 x,int i64 t,int i64 l],.agg #[string sec,string rnd,string pub],int i64 bat] w λe w'=>∃F',Fb lo D (mi s') w' F'/\za F w w'/\(∀k,F' k->F k\/w.heap.size<=k)/\((oh s' id tot=0/\∃S,e=.returned (.tuple #[pointer (some ⟨S,0,none⟩),int i64 0])/\ma w' S (Zb D (st.term+1) k b x t l root pub sec rnd tot bat (Xb s' id tot).b (Xb s' id tot).q (Xb s' id tot).b (Xb s' id tot).d false) 188/\¬F' S/\w.heap.size<=S)\/(oh s' id tot≠0/\e=.returned (.tuple #[pointer none,int i64 (oh s' id tot)]))):=by
 obtain⟨W1,hW⟩:=Ca (((w.alloc (.cells #[int i64 k,int i64 b,int i64 x,int i64 t,int i64 l] 26)).alloc (.cells #[string sec,string rnd,string pub] 42)).alloc (.cells (List.toArray [.func (.func 107) #[] #[],.func (.func 108) #[] #[],.func (.func 109) #[] #[],.func (.func 172) #[] #[]]) 331));have HB:=Bu hW
 have rf:=aa (show ma W1 (w.heap.size+1+1) zC 331 by
  rw[<-hW];have h:=ma.new ((w.alloc (.cells #[int i64 k,int i64 b,int i64 x,int i64 t,int i64 l] 26)).alloc (.cells #[string sec,string rnd,string pub] 42)) zC 331;simp only[World.size_alloc]at h;exact h)
 have hlt:=rf.out.lt;have nF:¬F (w.heap.size+1+1):=λh=>by have:=(hD.lt _ h).2;omega
 have Iw:∀(V:World) (O:Nat) (F1:Nat->Prop),Fb lo D s' V F1->za F W1 V->(∀k,F1 k->F k\/W1.heap.size<=k)->W1.heap.size<=O->¬F1 O->ma V O (Lg D id tot (slice none 0 0) 0 0 ⟨#[]⟩) 246->_:=λV O F1 d1 k1 f1 hO nO bO=>
  U9 lo O (w.heap.size+1+1) D 331 s' F1 id tot V d1 bO (k1.blk rf.out nF) nO (by
   intro h;rcases f1 _ h with h|h
   ·exact nF h
   ·omega) (Nat.le_trans hlo (Nat.le_trans HB.out.size k1.size)) (by omega) y0 y1
 have HT:Hid (Calls prog 106 #[pointer (some ⟨D,0,none⟩),.agg #[int i64 k,int i64 b,int i64 x,int i64 t,int i64 l],.agg #[string sec,string rnd,string pub],int i64 bat,slice (some ⟨w.heap.size+1+1,0,none⟩) 4 4] W1 λe w'=>∃v c,e=.returned (.tuple #[pointer v,int i64 c])/\∃F',Fb lo D (mi s') w' F'/\za F W1 w'/\(∀k,F' k->F k\/W1.heap.size<=k)/\((oh s' id tot=0/\c=0/\∃S,v=some ⟨S,0,none⟩/\ma w' S (Zb D (st.term+1) k b x t l root pub sec rnd tot bat (Xb s' id tot).b (Xb s' id tot).q (Xb s' id tot).b (Xb s' id tot).d false) 188/\¬F' S/\W1.heap.size<=S)\/(oh s' id tot≠0/\v=none/\c=oh s' id tot))):=by
  by_cases hc:oh s' id tot=0
  ·refine(BN lo D st (mi s') F k b x t l root pub sec rnd id _ tot bat _ _ z0 z1 z2 z4 z5 (slice (some ⟨w.heap.size+1+1,0,none⟩) 4 4) W1 (hD.below HB.out) hn (hT.on HB.out) Yg (Nat.le_trans hlo HB.out.size) hb1 hb2 ht0 ht1 (by rw[ga0,hs']) hM ll zn (by
    intro V O F1 d1 k1 f1 hO nO bO;rw[<-hs']at d1;refine(Iw V O F1 d1 k1 f1 hO nO bO).mono ?_
    rintro e w' ⟨rfl,h1,_⟩
    rw[hc];exact⟨rfl,h1 hc⟩)).mono ?_
   rintro e w' ⟨S,F',rfl,q1,q2,q3,q4,q5,q6⟩
   exact⟨_,_,rfl,F',q2,q5,q6,.inl ⟨hc,rfl,S,rfl,q1,q3,q4⟩⟩
  ·refine(DN lo D st (mi s') F k b x t l root pub sec rnd id tot bat (oh s' id tot) z0 z1 z2 z4 z5 (slice (some ⟨w.heap.size+1+1,0,none⟩) 4 4) W1 (hD.below HB.out) hn (hT.on HB.out) Yg (Nat.le_trans hlo HB.out.size) hb1 hb2 ht0 ht1 hc hM ll zn (by
    intro V O F1 d1 k1 f1 hO nO bO;rw[<-hs']at d1;refine(Iw V O F1 d1 k1 f1 hO nO bO).mono ?_
    rintro e w' ⟨rfl,_,h2⟩
    exact⟨rfl,h2⟩)).mono ?_
   rintro e w' ⟨F',rfl,q2,q5,q6⟩
   exact⟨_,_,rfl,F',q2,q5,q6,.inr ⟨hc,rfl,rfl⟩⟩
 have Ea:=aa hW;clear hW hlt nF Iw hM ll zn hD hT;go_enter func100,ntmps100;go_wp2_with fail;rw[Ea.out];refine HT.out.mono ?_
 rintro e w2 ⟨v,c,rfl,hq⟩
 have HQ:=aa hq;clear hq;go_wp2;go_ret2;obtain⟨F',q2,q5,q6,q7⟩:=HQ.out;refine⟨F',q2,(za.of_below (F:=F) HB.out).trans q5 (λi hi=>.inl hi),λi hi=>?_,?_⟩
 ·rcases q6 i hi with h|h
  ·exact .inl h
  ·exact .inr (Nat.le_trans HB.out.size h)
 ·rcases q7 with⟨h1,rfl,S,rfl,h2,h3,h4⟩|⟨h1,rfl,rfl⟩
  ·exact .inl ⟨h1,S,rfl,h2,h3,Nat.le_trans HB.out.size h4⟩
  ·exact .inr ⟨h1,rfl⟩
def ML (lo i:Nat)(p:Cc)(w:World)(x r:Option Nat)(w':World):Prop:=∃p':Cc,(p'.X=p.X/\p'.D=p.D/\p'.R=p.R/\p'.st.n=p.st.n/\p'.st.term=p.st.term+1/\p'.L.length<=p.L.length+1/\p.st.syncs<=p'.st.syncs/\p'.st.syncs<=p.st.syncs+2)/\PA lo p' w'/\za p.fp w w'/\(∀q,p'.fp q->p.fp q\/w.heap.size<=q)/\((x=none/\r=none)\/∃h':Hd,x=some h'.G/\r=some h'.Rs/\h'.i=i/\HA lo p.D p.R h' w'/\∀q,h'.fp q->w.heap.size<=q/\¬p'.fp q)
structure MH (lo:Nat)(p:Cc)(st2:Da)(w V:World):Prop where
 d:∃F2,Rf lo p.X p.D st2 V F2/\∀q,F2 q->p.F q\/w.heap.size<=q
 rd:RD lo p.R p.st p.lv p.L V
 k:za p.fp w V
def MQ (lo:Nat)(p:Cc)(st2:Da)(cs:List Value)(c0:Int)(w:World)(x:Option Nat)(c:Int)(V:World):Prop:=MH lo p st2 w V/\c=c0/\((c0=0/\∃G S,x=some G/\ma V G [pointer (some ⟨S,0,none⟩)] 142/\ma V S cs 188/\w.heap.size<=G/\w.heap.size<=S)\/(c0≠0/\x=none))
section
variable {lo i:Nat}{p:Cc}{st2:Da}{w V w':World}{cs:List Value}{c0:Int}
theorem TQ (kp:PA lo p w)(hb:Below w.heap.size w V){F':Nat->Prop}(hF:p.F=λk=>k=p.X\/F' k)(hX:¬F' p.X)(XE:ma w p.X [pointer (some ⟨p.D,0,none⟩)] 135)(hl:lo<=p.X){v r:Option Addr}{c:Int}{V1 V2 F2}(k1:Below V.heap.size V V1)(k2:za F' V1 V2)(k3:Fb lo p.D st2 V2 F2)(k4:∀q,F2 q->F' q\/V1.heap.size<=q)(k5:(c0=0/\c=0/\∃S,v=some ⟨S,0,none⟩/\ma V2 S cs 188/\V1.heap.size<=S)\/(c0≠0/\c=c0/\v=none))(k6:Tx v c r V2 w'):∃x,r=zl x/\za p.fp V w'/\MQ lo p st2 cs c0 w x c w':=by
 have kV:=kp.below hb;have h1:=kV.below k1;have jF:∀q,F' q->p.fp q:=λq e=>.inl (by rw[hF];exact .inr e);have hk:za p.fp V w':=((za.of_below k1).trans (k2.mono (λq _ e=>jF q e)) (λ_ e=>.inl e)).after k6.2.2
 have hrd:RD lo p.R p.st p.lv p.L w':=(h1.rd.kept k2 (λq e e2=>by
  have qB:p.F q:=by rw[hF];exact .inr e2
  rcases e with rfl|e
  ·exact h1.nR qB
  ·exact h1.nL e qB)).below k6.2.2
 have CB:ma V1 p.X [pointer (some ⟨p.D,0,none⟩)] 135:=(XE.on hb).on k1;have hX2:ma w' p.X [pointer (some ⟨p.D,0,none⟩)] 135:=(Mc CB k2 hX).on k6.2.2;have Qf:=CB.lt;have hs1:=hb.size;have hs2:=k1.size;have hs3:=k2.size
 have hM:MH lo p st2 w w':=⟨⟨_,WS (k3.below k6.2.2) hX2 (λe=>(k4 _ e).elim hX (λe=>by omega)) hl,λq e=>by
  rcases e with e|e
  ·exact .inl (by rw[hF];exact .inl e)
  ·rcases k4 q e with e|e
   ·exact .inl (by rw[hF];exact .inr e)
   ·exact .inr (by omega)⟩,hrd,(za.of_below hb).trans hk (λ_ e=>.inl e)⟩
 rcases k5 with⟨a,rfl,S,rfl,b1,b2⟩|⟨a,rfl,rfl⟩
 ·obtain⟨g1,g2⟩:=k6.1 rfl;exact⟨some V2.heap.size,g1,hk,hM,a.symm,.inl ⟨a,_,S,rfl,g2,b1.on k6.2.2,by omega,by omega⟩⟩
 ·exact⟨none,k6.2.1 a,hk,hM,rfl,.inr ⟨a,rfl⟩⟩
theorem aR {x:Option Nat}(hh:MQ lo p st2 cs c0 w x c0 V)(hn:st2.n=p.st.n)(jc:st2.term=p.st.term+1)(hy1:p.st.syncs<=st2.syncs)(hy2:st2.syncs<=p.st.syncs+2)(hl:Zf lo p.R st2 p.lv (p.L.length+1) V w')(hlo:lo<=w.heap.size){e:Ending}(T:Nat)(Za:Int->Int->Nat->Nat->ByteArray)(rs:Value->List Value)
  (hq:(c0=0/\∃S Ks ra rc,e=.returned (.tuple #[pointer (some ⟨S,0,none⟩),int i64 0])/\ma w' S (rs (slice ra Ks.length rc)) 302/\Nf lo w' (slice ra Ks.length rc) Ks T Za/\Ks.length<=1/\V.heap.size<=S/\∀q,og T (slice ra Ks.length rc) Ks q->V.heap.size<=q)\/(c0≠0/\e=.returned (.tuple #[pointer none,int i64 c0])))
  (hm:c0=0->∀(G S Rs:Nat) (ra:Option Addr) (rc:Nat) (Ks:List Ig),Ks.length<=1->∃h':Hd,h'.i=i/\h'.G=G/\h'.S=S/\h'.Rs=Rs/\h'.sc p.D=cs/\(∀tr,h'.rs p.R tr=rs tr)/\h'.ra=ra/\h'.rc=rc/\h'.Ks=Ks/\h'.t=T/\lh h'.k h'.b h'.x h'.e h'.f h'.sec h'.pub=Za/\uj h'):∃r,e=.returned (.tuple #[pointer (zl r),int i64 c0])/\x.isSome=r.isSome/\za p.fp V w'/\ML lo i p w x r w':=by
 obtain⟨⟨⟨F2,d1,d2⟩,hrd,fF⟩,-,hx⟩:=hh;obtain⟨lv2,L2,a1,a2,a3,a4⟩:=hl;have hk:za p.fp V w':=a3.mono (λq _ e=>e.elim (λe=>.inr (.inl e)) (λe=>.inr (.inr e)))
 have hd2:Rf lo p.X p.D st2 w' F2:=d1.kept a3 (λq e e5=>by
  rcases e5 with rfl|e5
  ·exact Ro d1 hrd.b (by decide) (by decide) (by decide) (by decide) e
  ·obtain⟨vs,hv⟩:=Cq hrd.r e5;exact Ro d1 hv (by decide) (by decide) (by decide) (by decide) e)
 have hs:=fF.size
 have base:∀r,((x=none/\r=none)\/∃h':Hd,x=some h'.G/\r=some h'.Rs/\h'.i=i/\HA lo p.D p.R h' w'/\∀q,h'.fp q->w.heap.size<=q/\¬(Cc.fp ⟨p.X,p.D,p.R,st2,L2,F2,lv2⟩) q)->ML lo i p w x r w':=λr h=>⟨⟨p.X,p.D,p.R,st2,L2,F2,lv2⟩,⟨rfl,rfl,rfl,hn,jc,a2,hy1,hy2⟩,⟨hd2,a1.b,a1.r,a1.rl,a1.lR⟩,fF.trans hk (λ_ e=>.inl e),λq e=>by
  rcases e with e|e|e
  ·exact(d2 q e).imp .inl (λh=>h)
  ·exact .inl (.inr (.inl e))
  ·rcases a4 q e with e|e
   ·exact .inl (.inr (.inr e))
   ·exact .inr (Nat.le_trans hs e),h⟩
 rcases hq with⟨z0,S2,Ks,ra,rc,rfl,b1,b2,b3,b4,b5⟩|⟨z0,rfl⟩
 ·rcases hx with⟨-,G,S,rfl,g1,g2,g3,g4⟩|⟨z1,_⟩
  ·obtain⟨h',e1,e2,e3,e4,e5,e6,e7,e8,e9,e10,e11,okh⟩:=hm z0 G S S2 ra rc Ks b3
   have nb:∀{q us Ty},ma V q us Ty->Ty≠293->Ty≠295->ma w' q us Ty:=λ{q us Ty} hB n5 n6=>Mc hB a3 (λe=>by
    rcases e with rfl|e
    ·exact xe hB hrd.b n5
    ·obtain⟨vs,hv⟩:=Cq hrd.r e;exact xe hB hv n6)
   have hg:=nb g1 (by decide) (by decide);have hsB:=nb g2 (by decide) (by decide);have htr:h'.tr=slice ra Ks.length rc:=by unfold Hd.tr;rw[e7,e8,e9]
   have ne:∀{q us Ty},ma w' q us Ty->Ty≠293->Ty≠295->Ty≠135->Ty≠182->Ty≠239->Ty≠241->¬(Cc.fp ⟨p.X,p.D,p.R,st2,L2,F2,lv2⟩) q:=λ{q us Ty} hB n5 n6 m1 m2 m3 m4=>by
    rintro(e|rfl|e)
    ·exact Ro hd2 hB m1 m2 m3 m4 e
    ·exact xe hB a1.b n5
    ·obtain⟨vs,hv⟩:=Cq a1.r e;exact xe hB hv n6
   refine⟨some S2,by rw[z0];rfl,rfl,hk,base _ (.inr ⟨h',by rw[e2],by rw[e4],e1,⟨okh,by rw[e2,e3];exact hg,by rw[e3,e5];exact hsB,by rw[e4,e6,htr];exact b1,by rw[htr,e9,e10,e11];exact b2,by rw[e2];omega,by rw[e3];omega,by rw[e4];omega⟩,λq e=>?_⟩)⟩;rcases e with rfl|rfl|rfl|e
   ·rw[e2];exact⟨g3,ne hg (by decide) (by decide) (by decide) (by decide) (by decide) (by decide)⟩
   ·rw[e3];exact⟨g4,ne hsB (by decide) (by decide) (by decide) (by decide) (by decide) (by decide)⟩
   ·rw[e4];exact⟨by omega,ne b1 (by decide) (by decide) (by decide) (by decide) (by decide) (by decide)⟩
   ·rw[htr,e9,e10]at e;obtain⟨us,Ty,hB,e6⟩:=b2.blk e;refine⟨by have:=b5 q e;omega,?_⟩;rcases e6 with rfl|rfl|rfl<;>exact ne hB (by decide) (by decide) (by decide) (by decide) (by decide) (by decide)
  ·exact absurd z0 z1
 ·rcases hx with⟨z1,_⟩|⟨-,rfl⟩
  ·exact absurd z1 z0
  ·exact⟨none,rfl,rfl,hk,base _ (.inl ⟨rfl,rfl⟩)⟩
end
theorem tF (st:Da):(Ae st).term=st.term:=by
 unfold Ae;split
 ·exact Kv _
 ·split
  ·rw[az,Kv]
  ·rw[az,az,Kv]
theorem kf0 (st:Da):(Cb st).writes=st.writes:=by unfold Cb;split<;>rfl
theorem YR (st:Da)(i:Int):(Sb st i).writes=st.writes:=by unfold Sb;split<;>rfl
theorem F8 (st:Da)(sq:Nat)(t:ByteArray):(Ff st sq t).term=st.term:=by
 unfold Ff;split
 ·exact qL _ _ _
 ·rw[Kv,qL]
theorem E9 (st:Da)(id:ByteArray):(Tg st id).n=st.n/\(Tg st id).term=st.term/\st.syncs<=(Tg st id).syncs/\(Tg st id).syncs<=st.syncs+2:=by
 rw[<-(ZQ st id).2];have h1:=sF st;have h2:=ZJ (Ae st) 1 (Ua 1 0 id);unfold Qr;split
 ·exact⟨rF _,tF _,h1.1,by omega⟩
 ·split
  ·exact⟨rF _,tF _,h1.1,by omega⟩
  ·exact⟨by rw[YJ,rF],by rw[F8,tF],by omega,by omega⟩
structure MW (lo:Nat)(p:Cc)(w:World):Prop where
 kp:PA lo p w
 n2:2<=p.st.n
 T:Tn w
 TB:1<lo
 lo:lo<=w.heap.size
 w0:p.L.length<2199023255552
 y0:0<=p.st.syncs
 y1:p.st.syncs<=2199023255552
 t0:0<=p.st.term
 t1:p.st.term<=2199023255552
section
variable {lo:Nat}{p:Cc}{w:World}
theorem FO (V:World)(kp:RD lo p.R p.st p.lv p.L V)(n2:2<=p.st.n)(k:Int)(b x e f t l:Nat)(R:Wp k b x e f t l)(sec rnd pub:ByteArray)(s1:sec.size=b)(s2:rnd.size=b)(s3:pub.size=b)(bat:Int)(b1:1<=bat)(b2:bat<=64):Calls prog 223 #[pointer (some ⟨p.R,0,none⟩),.agg #[int i64 k,int i64 b,int i64 x,int i64 t,int i64 l],.agg #[string sec,string rnd,string pub],int i64 bat] V λe w'=>e=.returned (int i64 0)/\Below V.heap.size V w':=ec0 k b x t l bat sec rnd pub p.R p.st.n V (λV=>by have h:=IC k b x t l V;rw[R.r]at h;exact h) (λV=>by have h:=LK k b x t l sec rnd pub V;rw[Jd0 (by omega) (by omega) (by omega)]at h;exact h) b1 b2 kp.b.lt (kp.b.cell 0) (by omega)
theorem F9 (m:MW lo p w)(i:Nat)(k:Int)(b x e f t l:Nat)(R:Wp k b x e f t l)(sec rnd pub:ByteArray)(s1:sec.size=b)(s2:rnd.size=b)(s3:pub.size=b)(bat:Int)(b1:1<=bat)(b2:bat<=64):∃Q1:Option Nat->Int->World->Prop,(∀V,Below w.heap.size w V->Calls prog 23 #[pointer (some ⟨p.X,0,none⟩),.agg #[int i64 k,int i64 b,int i64 x,int i64 t,int i64 l],.agg #[string sec,string rnd,string pub],int i64 bat] V λe w'=>∃xo c,e=.returned (.tuple #[pointer (zl xo),int i64 c])/\za p.fp V w'/\Q1 xo c w')/\∀xo c V,Q1 xo c V->Calls prog 149 #[pointer (some ⟨p.R,0,none⟩),.agg #[int i64 k,int i64 b,int i64 x,int i64 t,int i64 l],.agg #[string sec,string rnd,string pub],int i64 bat] V λe w'=>∃r,e=.returned (.tuple #[pointer (zl r),int i64 c])/\(xo.isSome=r.isSome)/\za p.fp V w'/\ML lo i p w xo r w'/\(xo=none->∃id:ByteArray,id.size=8/\uf {p.st with term:=p.st.term+1} id≠0):=by
 obtain⟨g1,g2,g3,g4,g5,g6⟩:=uq R.pr;have y0:=m.y0;have y1:=m.y1;have t0:=m.t0;have t1:=m.t1;have hwr:=m.kp.rl.wr;have hw0:=m.w0;have r1:=R.l1;have r2:=R.l2;obtain⟨F',d1,d2,d3,d4,d5⟩:=m.kp.d.dsk;obtain⟨root,hroot⟩:∃root,root=Ie k b x t (b*e+f) l sec pub:=⟨_,rfl⟩;have hrz:root.size=b:=by rw[hroot];exact MC k b x t (b*e+f) l sec pub R.kk g1 g2 (by omega) (by omega) g3
 obtain⟨id,hid⟩:∃id,id=Xu k b x t l root pub:=⟨_,rfl⟩;have uJ:id.size=8:=by rw[hid];exact KJ k b x t l root pub R.kk (by omega) (by omega)
 obtain⟨s',hs'⟩:∃s':Da,s'={p.st with term:=p.st.term+1}:=⟨_,rfl⟩;have hsy:s'.syncs=p.st.syncs:=by rw[hs']
 have hsw:s'.writes=p.st.writes:=by rw[hs']
 have hw3:(vg s' 3).writes=p.st.writes:=by
  show(Sb (Sb (Cb s') 0) 1).writes=_;rw[YR,YR,kf0,hsw]
 have hy3:p.st.syncs<=(Mk s' id).syncs/\(Mk s' id).syncs<=p.st.syncs+1:=by
  show _<=(Jb (Sb (Sb (Cb s') 0) 1) 1 (Ua 1 0 id)).syncs/\(Jb (Sb (Sb (Cb s') 0) 1) 1 (Ua 1 0 id)).syncs<=_;rw[iD,FC,FC,<-hsy];exact WK s'
 have hmk:=E9 s' id
 have GJ:(lh k b x e f sec pub ((l:Int)-1) 0 t 0).size<=16:=by
  have h1:(Ie k b x t (b*e+f) l sec pub).size<=16:=by rw[<-hroot];omega
  exact h1
 refine⟨MQ lo p (Tg s' id) (Zb p.D (p.st.term+1) k b x t l root pub sec rnd ((2^(t*l):Nat):Int) bat 0 1 0 id false) (uf s' id) w,λV hb=>?_,λx0 c V hh=>?_⟩
 ·refine(ue0 p.X p.D F' (λv c V1 V2=>∃F2,Fb lo p.D (Tg s' id) V2 F2/\(∀q,F2 q->F' q\/V1.heap.size<=q)/\((uf s' id=0/\c=0/\∃S,v=some ⟨S,0,none⟩/\ma V2 S (Zb p.D (p.st.term+1) k b x t l root pub sec rnd ((2^(t*l):Nat):Int) bat 0 1 0 id false) 188/\V1.heap.size<=S)\/(uf s' id≠0/\c=uf s' id/\v=none))) k b x t l bat sec rnd pub V (d4.on hb) (λq e=>(d1.below hb).lt q e|>.2) (λV1 hb1=>?_)).mono ?_
  ·have hb2:=hb.trans (hb1.mono hb.size);refine(U8 lo p.D p.st F' k b x t l root pub sec rnd id ((2^(t*l):Nat):Int) bat _ _ _ _ _ V1 (d1.below hb2) m.n2 (m.T.on hb2) m.TB (Nat.le_trans m.lo hb2.size) b1 b2 t0 (by omega) (λV=>oC k b x e f t l R V) (λV hT=>by rw[hroot];exact vR k b x e f t l R sec rnd pub s1 s2 s3 V hT) (λV hT=>by rw[hid];exact yQ k b x t l root pub V R.kk (by omega) (by omega) hT) s' hs' (by omega) (by omega) uJ (by omega) (by omega) (by omega) (by omega)).mono ?_
   rintro e' w' ⟨F2,q1,q2,q3,⟨z,S,rfl,q4,q5,q6⟩|⟨z,rfl⟩⟩
   ·exact⟨_,_,rfl,q2,F2,q1,q3,.inl ⟨z,rfl,S,rfl,q4,q6⟩⟩
   ·exact⟨_,_,rfl,q2,F2,q1,q3,.inr ⟨z,rfl,rfl⟩⟩
  ·rintro e' w' ⟨v,c,r,V1,V2,rfl,k1,k2,⟨F2,k3,k4,k5⟩,k6⟩
   obtain⟨x0,rfl,j1,j2⟩:=TQ m.kp hb d2 d3 d4 d5 k1 k2 k3 k4 k5 k6;exact⟨x0,c,rfl,j1,j2⟩
 ·have hc:=hh.2.1;subst hc;have hms:=ZQ s' id;have hk:=hh.1.k;refine(wc0 lo p.R p.st p.lv p.L k b x l t sec rnd pub id bat (lh k b x e f sec pub) V hh.1.rd m.kp.d.ok m.w0 (Nat.le_trans m.lo hk.size) y0 (by omega) t0 (by omega) R.kk (by omega) (by omega) R.t2 (by omega) GJ (by omega) (by rw[hid,hroot];rfl) (λV2 hb2=>FO V2 (hh.1.rd.below hb2) m.n2 k b x e f t l R sec rnd pub s1 s2 s3 bat b1 b2) (λV=>JE k b x e f t l R sec rnd pub s1 s3 _ _ (ZK r1) V) s' hs').mono ?_
  rintro e' w' ⟨q1,q2⟩
  rw[hms.2]at q1;rw[hms.1]at q2
  have F3:x0=none->∃id:ByteArray,id.size=8/\uf {p.st with term:=p.st.term+1} id≠0:=λe=>by
   rcases hh.2.2 with⟨_,G,S,e2,_⟩|⟨e2,_⟩
   ·rw[e]at e2;simp at e2
   ·exact⟨id,uJ,by rw[<-hs'];exact e2⟩
  obtain⟨r,j1,j2,j3,j4⟩:=aR (i:=i) hh (by rw[hmk.1,hs']) (by rw[hmk.2.1,hs']) (by rw[<-hsy];exact hmk.2.2.1) (by rw[<-hsy];exact hmk.2.2.2) q1 m.lo t (lh k b x e f sec pub) (λtr=>Oc p.R (p.st.term+1) false k b x (t:Int) l sec rnd pub bat (Yd k b x (t:Int) l++lh k b x e f sec pub ((l:Int)-1) 0 t 0++pub) id 0 0 1 tr) q2 (λ_ G S Rs ra rc Ks hK=>⟨⟨i,G,S,Rs,k,b,x,e,f,t,l,sec,rnd,pub,bat,p.st.term+1,0,0,1,false,ra,rc,Ks⟩,rfl,rfl,rfl,rfl,by rw[hid,hroot];rfl,λtr=>by rw[hid,hroot];rfl,rfl,rfl,rfl,rfl,rfl,⟨R,s1,s2,s3,b1,b2,Aa,Nat.zero_le _,Aa,(show 1<=2147483647 by decide),hK⟩⟩);exact⟨r,j1,j2,j3,j4,F3⟩
theorem ja0 (m:MW lo p w)(i:Nat)(k:Int)(b x e f t l:Nat)(R:Wp k b x e f t l)(sec rnd pub:ByteArray)(s1:sec.size=b)(s2:rnd.size=b)(s3:pub.size=b)(bat:Int)(b1:1<=bat)(b2:bat<=64):∃Q1:Option Nat->Int->World->Prop,(∀V,Below w.heap.size w V->Calls prog 55 #[pointer (some ⟨p.X,0,none⟩),.agg #[int i64 k,int i64 b,int i64 x,int i64 t,int i64 l],.agg #[string sec,string rnd,string pub],int i64 bat] V λe w'=>∃xo c,e=.returned (.tuple #[pointer (zl xo),int i64 c])/\za p.fp V w'/\Q1 xo c w')/\∀xo c V,Q1 xo c V->Calls prog 150 #[pointer (some ⟨p.R,0,none⟩),.agg #[int i64 k,int i64 b,int i64 x,int i64 t,int i64 l],.agg #[string sec,string rnd,string pub],int i64 bat] V λe w'=>∃r,e=.returned (.tuple #[pointer (zl r),int i64 c])/\(xo.isSome=r.isSome)/\za p.fp V w'/\ML lo i p w xo r w':=by
 obtain⟨g1,g2,g3,g4,g5,g6⟩:=uq R.pr;have y0:=m.y0;have y1:=m.y1;have t0:=m.t0;have t1:=m.t1;have hwr:=m.kp.rl.wr;have hw0:=m.w0;have r1:=R.l1;have r2:=R.l2;obtain⟨F',d1,d2,d3,d4,d5⟩:=m.kp.d.dsk;obtain⟨root,hroot⟩:∃root,root=Ie k b x t (b*e+f) l sec pub:=⟨_,rfl⟩;have hrz:root.size=b:=by rw[hroot];exact MC k b x t (b*e+f) l sec pub R.kk g1 g2 (by omega) (by omega) g3
 obtain⟨id,hid⟩:∃id,id=Xu k b x t l root pub:=⟨_,rfl⟩;have uJ:id.size=8:=by rw[hid];exact KJ k b x t l root pub R.kk (by omega) (by omega)
 obtain⟨s',hs'⟩:∃s':Da,s'={p.st with term:=p.st.term+1}:=⟨_,rfl⟩;have hsy:s'.syncs=p.st.syncs:=by rw[hs']
 have hsw:s'.writes=p.st.writes:=by rw[hs']
 obtain⟨tot,htot⟩:∃tot:Nat,tot=2^(t*l):=⟨_,rfl⟩;have hlk:=sF s';have hop:=ia0 s' id tot
 have GJ:(lh k b x e f sec pub ((l:Int)-1) 0 t 0).size<=16:=by
  have h1:(Ie k b x t (b*e+f) l sec pub).size<=16:=by rw[<-hroot];omega
  exact h1
 refine⟨MQ lo p (mi s') (Zb p.D (p.st.term+1) k b x t l root pub sec rnd (tot:Int) bat (Xb s' id tot).b (Xb s' id tot).q (Xb s' id tot).b (Xb s' id tot).d false) (oh s' id tot) w,λV hb=>?_,λx0 c V hh=>?_⟩
 ·refine(ze0 p.X p.D F' (λv c V1 V2=>∃F2,Fb lo p.D (mi s') V2 F2/\(∀q,F2 q->F' q\/V1.heap.size<=q)/\((oh s' id tot=0/\c=0/\∃S,v=some ⟨S,0,none⟩/\ma V2 S (Zb p.D (p.st.term+1) k b x t l root pub sec rnd (tot:Int) bat (Xb s' id tot).b (Xb s' id tot).q (Xb s' id tot).b (Xb s' id tot).d false) 188/\V1.heap.size<=S)\/(oh s' id tot≠0/\c=oh s' id tot/\v=none))) k b x t l bat sec rnd pub V (d4.on hb) (λq e=>(d1.below hb).lt q e|>.2) (λV1 hb1=>?_)).mono ?_
  ·have hb2:=hb.trans (hb1.mono hb.size);refine(la0 lo p.D p.st F' k b x t l root pub sec rnd id (tot:Int) bat _ _ _ _ _ V1 (d1.below hb2) m.n2 (m.T.on hb2) m.TB (Nat.le_trans m.lo hb2.size) b1 b2 t0 (by omega) (λV=>by rw[htot];exact oC k b x e f t l R V) (λV hT=>by rw[hroot];exact vR k b x e f t l R sec rnd pub s1 s2 s3 V hT) (λV hT=>by rw[hid];exact yQ k b x t l root pub V R.kk (by omega) (by omega) hT) s' hs' (by omega) (by omega)).mono ?_
   rintro e' w' ⟨F2,q1,q2,q3,⟨z,S,rfl,q4,q5,q6⟩|⟨z,rfl⟩⟩
   ·exact⟨_,_,rfl,q2,F2,q1,q3,.inl ⟨z,rfl,S,rfl,q4,q6⟩⟩
   ·exact⟨_,_,rfl,q2,F2,q1,q3,.inr ⟨z,rfl,rfl⟩⟩
  ·rintro e' w' ⟨v,c,r,V1,V2,rfl,k1,k2,⟨F2,k3,k4,k5⟩,k6⟩
   obtain⟨x0,rfl,j1,j2⟩:=TQ m.kp hb d2 d3 d4 d5 k1 k2 k3 k4 k5 k6;exact⟨x0,c,rfl,j1,j2⟩
 ·have hc:=hh.2.1;subst hc;have hsm:=mK s' id tot;have hk:=hh.1.k;refine(Dc0 lo p.R p.st p.lv p.L k b x l t sec rnd pub id bat (lh k b x e f sec pub) V hh.1.rd m.kp.d.ok m.w0 (Nat.le_trans m.lo hk.size) y0 (by omega) t0 (by omega) R.kk (by omega) (by omega) R.t2 (by omega) GJ (by omega) (by rw[hid,hroot];rfl) _ _ _ (tot:Int) _ _ (λV=>by have hz:=VF b x e f t l R.pr k V R.t1 R.t2 R.l1 R.l2;rw[aL,<-htot]at hz;exact hz) (λV2 hb2=>FO V2 (hh.1.rd.below hb2) m.n2 k b x e f t l R sec rnd pub s1 s2 s3 bat b1 b2) (λV=>JE k b x e f t l R sec rnd pub s1 s3 _ _ (ZK r1) V) s' hs').mono ?_
  rintro e' w' ⟨q1,q2⟩
  rw[hop.2]at q1;rw[hop.1,hsm]at q2;refine aR hh (by rw[<-hop.2,rF,hs']) (by rw[<-hop.2,tF,hs']) (by rw[<-hop.2];omega) (by rw[<-hop.2];omega) q1 m.lo t (lh k b x e f sec pub) (λtr=>Oc p.R (p.st.term+1) false k b x (t:Int) l sec rnd pub bat (Yd k b x (t:Int) l++lh k b x e f sec pub ((l:Int)-1) 0 t 0++pub) id (r3 (Xb s' id tot)).2.1 (r3 (Xb s' id tot)).2.1 (r3 (Xb s' id tot)).1 tr) q2 (λhz G S Rs ra rc Ks hK=>?_)
  have hq0:(Xb s' id tot).q≠0:=by
   rw[<-hop.1]at hz;unfold Bq at hz;split at hz
   ·rename_i h1;exact absurd hz h1
   ·split at hz
    ·exact absurd hz (by decide)
    ·rename_i h2
     rw[hsm]at h2;exact h2
  obtain⟨o1,o2,o3,o4,o5⟩:=ka0 s' id tot hq0;have mQ:tot<=4096:=by rw[htot];exact Nat.le_trans (Nat.pow_le_pow_right (by decide) (Nat.mul_le_mul R.t2 R.l2)) (by decide)
  have c1:(((Xb s' id tot).b.toNat:Nat):Int)=(Xb s' id tot).b:=Int.toNat_of_nonneg o3;have c2:(((Xb s' id tot).q.toNat:Nat):Int)=(Xb s' id tot).q:=Int.toNat_of_nonneg (by omega);refine⟨⟨i,G,S,Rs,k,b,x,e,f,t,l,sec,rnd,pub,bat,p.st.term+1,(Xb s' id tot).b.toNat,(Xb s' id tot).b.toNat,(Xb s' id tot).q.toNat,false,ra,rc,Ks⟩,rfl,rfl,rfl,rfl,?_,λtr=>?_,rfl,rfl,rfl,rfl,rfl,⟨R,s1,s2,s3,b1,b2,Aa,?_,?_,?_,?_⟩⟩
  ·show Zb p.D (p.st.term+1) k b x t l _ pub sec rnd _ bat (((Xb s' id tot).b.toNat:Nat):Int) (((Xb s' id tot).q.toNat:Nat):Int) (((Xb s' id tot).b.toNat:Nat):Int) _ false=_;rw[c1,c2,o5,hid,htot,hroot];rfl
  ·show Oc p.R (p.st.term+1) false k b x (t:Int) l sec rnd pub bat _ _ (((Xb s' id tot).b.toNat:Nat):Int) (((Xb s' id tot).b.toNat:Nat):Int) (((Xb s' id tot).q.toNat:Nat):Int) tr=_;rw[c1,c2];generalize Xb s' id tot=o at*;rw[hid,hroot];rfl
  ·show(Xb s' id tot).b.toNat<=2^(t*l);rw[<-htot];omega
  ·show 1<=(Xb s' id tot).q.toNat;omega
  ·show(Xb s' id tot).q.toNat<=2147483647;omega
  ·show Ks.length<=1+5*(Xb s' id tot).b.toNat;omega
end
end Go.Proofs.YtgaoeoijdpdjiabGreatDoor
