import Derived.Test.YtgaoeoijdpdjiabGreatDoorPart51
open Go.Value (int string pointer slice)
open Go.IntKind (i64)
open Go.Proofs.Tryz
set_option maxRecDepth 20000
set_option maxHeartbeats 8000000
namespace Go.Proofs.YtgaoeoijdpdjiabGreatDoor
open Go.RowKit
def fX (kd:Int):Nat:=if kd=40 then 23 else 55
def fR (kd:Int):Nat:=if kd=40 then 149 else 150
def IG (kd:Int)(xv rv:Option Addr)(k b x t l bat:Int)(sec rnd pub:ByteArray)(Z:Nat->Prop)(Q2:Option Nat->Option Nat->World->Prop)(w:World):Prop:=∃Q1:Option Nat->Int->World->Prop,(∀V,Below w.heap.size w V->Calls prog (fX kd) #[pointer xv,.agg #[int i64 k,int i64 b,int i64 x,int i64 t,int i64 l],.agg #[string sec,string rnd,string pub],int i64 bat] V λe w'=>∃xo c,e=.returned (.tuple #[pointer (zl xo),int i64 c])/\za Z V w'/\Q1 xo c w')/\∀xo c V,Q1 xo c V->Calls prog (fR kd) #[pointer rv,.agg #[int i64 k,int i64 b,int i64 x,int i64 t,int i64 l],.agg #[string sec,string rnd,string pub],int i64 bat] V λe w'=>∃r,e=.returned (.tuple #[pointer (zl r),int i64 c])/\(xo.isSome=r.isSome)/\za Z V w'/\Q2 xo r w'
section
variable {w:World}{kd:Int}{k b x t l bat:Int}{sec rnd pub:ByteArray}
theorem fK (hk:kd=40\/kd=41)(xv dv rv:Option Addr)(Z:Nat->Prop)(Q2:Option Nat->Option Nat->World->Prop)(er:Int)(he:er≠0)(hQ:∀V,Below w.heap.size w V->Q2 none none V)(hBl:∀V:World,Below w.heap.size w V->Calls prog 67 #[pointer xv] V λe w'=>e=.returned (pointer dv)/\Below V.heap.size V w')(hBg:∀(V:World) (sl:Value),Below w.heap.size w V->Calls prog 106 #[pointer dv,.agg #[int i64 k,int i64 b,int i64 x,int i64 t,int i64 l],.agg #[string sec,string rnd,string pub],int i64 bat,sl] V λe w'=>e=.returned (.tuple #[pointer none,int i64 er])/\Below V.heap.size V w')(Dm:∀V:World,Below w.heap.size w V->Calls prog 223 #[pointer rv,.agg #[int i64 k,int i64 b,int i64 x,int i64 t,int i64 l],.agg #[string sec,string rnd,string pub],int i64 bat] V λe w'=>e=.returned (int i64 er)/\Below V.heap.size V w'):IG kd xv rv k b x t l bat sec rnd pub Z Q2 w:=by
 refine⟨λxo c V=>xo=none/\c=er/\Below w.heap.size w V,λV hb=>?_,?_⟩
 ·have fin:∀f,Calls prog f #[pointer xv,.agg #[int i64 k,int i64 b,int i64 x,int i64 t,int i64 l],.agg #[string sec,string rnd,string pub],int i64 bat] V (λe w'=>e=.returned (.tuple #[pointer none,int i64 er])/\Below V.heap.size V w')->Calls prog f #[pointer xv,.agg #[int i64 k,int i64 b,int i64 x,int i64 t,int i64 l],.agg #[string sec,string rnd,string pub],int i64 bat] V λe w'=>∃xo c,e=.returned (.tuple #[pointer (zl xo),int i64 c])/\za Z V w'/\xo=none/\c=er/\Below w.heap.size w w':=λf hf=>hf.mono λe w' h=>⟨none,er,h.1,za.of_below h.2,rfl,rfl,hb.trans (h.2.mono hb.size)⟩;unfold fX;rcases hk with rfl|rfl
  ·rw[if_pos rfl];exact fin _ (Be0 xv dv k b x t l bat er sec rnd pub V he (λV2 h2=>hBl V2 (hb.trans (h2.mono hb.size))) (λV2 sl h2=>hBg V2 sl (hb.trans (h2.mono hb.size))))
  ·rw[if_neg (by decide)];exact fin _ (Ce0 xv dv k b x t l bat er sec rnd pub V he (λV2 h2=>hBl V2 (hb.trans (h2.mono hb.size))) (λV2 sl h2=>hBg V2 sl (hb.trans (h2.mono hb.size))))
 ·rintro xo c V ⟨rfl,rfl,hb⟩
  have fin:∀f,Calls prog f #[pointer rv,.agg #[int i64 k,int i64 b,int i64 x,int i64 t,int i64 l],.agg #[string sec,string rnd,string pub],int i64 bat] V (λe w'=>e=.returned (.tuple #[pointer none,int i64 c])/\Below V.heap.size V w')->Calls prog f #[pointer rv,.agg #[int i64 k,int i64 b,int i64 x,int i64 t,int i64 l],.agg #[string sec,string rnd,string pub],int i64 bat] V λe w'=>∃r,e=.returned (.tuple #[pointer (zl r),int i64 c])/\((none:Option Nat).isSome=r.isSome)/\za Z V w'/\Q2 none r w':=λf hf=>hf.mono λe w' h=>⟨none,h.1,rfl,za.of_below h.2,hQ _ (hb.trans (h.2.mono hb.size))⟩;unfold fR;rcases hk with rfl|rfl
  ·rw[if_pos rfl];exact fin _ (vc0 c he rv k b x t l bat sec rnd pub V (λV2 h2=>Dm V2 (hb.trans (h2.mono hb.size))))
  ·rw[if_neg (by decide)];exact fin _ (Cc0 c he rv k b x t l bat sec rnd pub V (λV2 h2=>Dm V2 (hb.trans (h2.mono hb.size))))
theorem jX (hk:kd=40\/kd=41)(Z:Nat->Prop):IG kd none none k b x t l bat sec rnd pub Z (λxo r V=>xo=none/\r=none/\Below w.heap.size w V) w:=by
 cases hr:Yb k b x t l with
 |false=>exact fK hk none none none Z _ 1 (by decide) (λV hb=>⟨rfl,rfl,hb⟩) (λV _=>GN V) (λV sl _=>EN none k b x t l bat sec rnd pub _ _ _ _ _ _ sl V (λV=>eT k b x t l V hr)) (λV _=>zS k b x t l bat sec rnd pub none V (λV=>by have h:=IC k b x t l V;rw[hr]at h;exact h))
 |true=>
  obtain⟨b',x',e,g,t',l',hp,hkk,rfl,rfl,rfl,rfl,h1,h2,h3,h4⟩:=MR hr;exact fK hk none none none Z _ 2 (by decide) (λV hb=>⟨rfl,rfl,hb⟩) (λV _=>GN V) (λV sl _=>YW k b' x' t' l' bat sec rnd pub _ _ _ _ _ _ sl V (λV=>NK b' x' e g t' l' hp k V hkk h1 h2 h3 h4)) (λV _=>cc0 k b' x' t' l' bat sec rnd pub _ V (λV=>by have h:=IC k b' x' t' l' V;rw[hr]at h;exact h) (λV=>LK k b' x' t' l' sec rnd pub V))
def xz (k b x t l bat:Int)(sec rnd pub:ByteArray)(n:Nat):Prop:=Yb k b x t l=true/\Wl b sec rnd pub=true/\1<=bat/\bat<=64/\2<=n
theorem iX {lo:Nat}{p:Cc}(hk:kd=40\/kd=41)(i:Nat)(kp:PA lo p w)(hT:Tn w)(Yg:1<lo)(hlo:lo<=w.heap.size)(w0:p.L.length<2199023255552)(y0:0<=p.st.syncs)(y1:p.st.syncs<=2199023255552)(t0:0<=p.st.term)(t1:p.st.term<=2199023255552):IG kd (some ⟨p.X,0,none⟩) (some ⟨p.R,0,none⟩) k b x t l bat sec rnd pub p.fp (λxo r V=>(xo=none/\r=none/\Below w.heap.size w V/\¬xz k b x t l bat sec rnd pub p.st.n)\/2<=p.st.n/\ML lo i p w xo r V/\(xo=none->kd=40->∃id:ByteArray,id.size=8/\uf {p.st with term:=p.st.term+1} id≠0)) w:=by
 obtain⟨F',d1,d2,d3,d4,d5⟩:=kp.d.dsk;obtain⟨sa,Y1⟩:=d1.sectors;have hDl:=d1.ltD;have cD:∀V,Below w.heap.size w V->V.cell? ⟨p.D,0,none⟩=some (slice sa p.st.n p.st.n):=λV hb=>(hb.cell (p:=⟨p.D,0,none⟩) hDl).trans Y1;have lD:∀V,Below w.heap.size w V->p.D<V.heap.size:=λV hb=>Nat.lt_of_lt_of_le hDl hb.size;have no:=λ(er:Int) (he:er≠0) (Uu:¬xz k b x t l bat sec rnd pub p.st.n)=>fK (w:=w) (k:=k) (b:=b) (x:=x) (t:=t) (l:=l) (bat:=bat) (sec:=sec) (rnd:=rnd) (pub:=pub) hk (some ⟨p.X,0,none⟩) (some ⟨p.D,0,none⟩) (some ⟨p.R,0,none⟩) p.fp (λxo r V=>(xo=none/\r=none/\Below w.heap.size w V/\¬xz k b x t l bat sec rnd pub p.st.n)\/2<=p.st.n/\ML lo i p w xo r V/\(xo=none->kd=40->∃id:ByteArray,id.size=8/\uf {p.st with term:=p.st.term+1} id≠0)) er he (λV hb=>.inl ⟨rfl,rfl,hb,Uu⟩) (λV hb=>nI p.X p.D V (d4.on hb))
 cases hr:Yb k b x t l with
 |false=>exact no 1 (by decide) (λe=>by rw[e.1]at hr;simp at hr) (λV sl _=>EN _ k b x t l bat sec rnd pub _ _ _ _ _ _ sl V (λV=>eT k b x t l V hr)) (λV _=>zS k b x t l bat sec rnd pub _ V (λV=>by have h:=IC k b x t l V;rw[hr]at h;exact h))
 |true=>
  obtain⟨b',x',e,g,t',l',hp,hkk,rfl,rfl,rfl,rfl,h1,h2,h3,h4⟩:=MR hr;have R:Wp k b' x' e g t' l':=⟨hp,hkk,h1,h2,h3,h4,hr⟩;have HM:=λV:World=>NK b' x' e g t' l' hp k V hkk h1 h2 h3 h4;have HC:∀V:World,Calls prog 82 #[.agg #[int i64 k,int i64 b',int i64 x',int i64 t',int i64 l']] V λe w'=>e=.returned (int i64 0)/\Below V.heap.size V w':=λV=>by have h:=IC k b' x' t' l' V;rw[hr]at h;exact h
  have sw:=λV:World=>LK k b' x' t' l' sec rnd pub V;have KM:=λV:World=>aT k b' x' t' l' sec rnd pub V;by_cases hgood:Wl b' sec rnd pub=true/\1<=bat/\bat<=64/\2<=p.st.n
  ·obtain⟨hs,b1,b2,n2⟩:=hgood;obtain⟨s1,s2,s3⟩:=Kd0 hs;have m:MW lo p w:=⟨kp,n2,hT,Yg,hlo,w0,y0,y1,t0,t1⟩;rcases hk with rfl|rfl
   ·obtain⟨Q1,hX,hR⟩:=F9 m i k b' x' e g t' l' R sec rnd pub (by omega) (by omega) (by omega) bat b1 b2;refine⟨Q1,hX,λxo c V hq=>(hR xo c V hq).mono ?_⟩
    rintro e' w' ⟨r,q1,q2,q3,q4,q5⟩
    exact⟨r,q1,q2,q3,.inr ⟨n2,q4,λe _=>q5 e⟩⟩
   ·obtain⟨Q1,hX,hR⟩:=ja0 m i k b' x' e g t' l' R sec rnd pub (by omega) (by omega) (by omega) bat b1 b2;refine⟨Q1,hX,λxo c V hq=>(hR xo c V hq).mono ?_⟩
    rintro e' w' ⟨r,q1,q2,q3,q4⟩
    exact⟨r,q1,q2,q3,.inr ⟨n2,q4,λ_ e=>absurd e (by decide)⟩⟩
  ·refine no 2 (by decide) (λe=>hgood e.2) (λV sl hb=>?_) (λV hb=>?_)
   ·by_cases hn:p.st.n<2
    ·exact XW k b' x' t' l' bat sec rnd pub _ _ _ _ _ _ sl V p.D p.st.n p.st.n sa (lD V hb) (cD V hb) hn HM
    ·by_cases FZ:bat<1\/64<bat
     ·exact WW k b' x' t' l' bat sec rnd pub _ _ _ _ _ _ sl V p.D p.st.n p.st.n sa (lD V hb) (cD V hb) (by omega) FZ HM
     ·have YB:Wl b' sec rnd pub=false:=by
       cases hs:Wl b' sec rnd pub with
       |false=>rfl
       |true=>exact absurd ⟨hs,by omega,by omega,by omega⟩ hgood
      rw[YB]at KM;exact aX k b' x' t' l' bat sec rnd pub _ _ _ _ _ _ sl V p.D p.st.n p.st.n sa (lD V hb) (cD V hb) (by omega) (by omega) (by omega) (λV=>J6 k b' x' t' l' sec rnd pub V (by rw[IntKind.wrap_i64]<;>omega) (λV=>L9 k b' x' t' l' _ _ _ _ _ _ sec rnd pub _ _ _ _ V HM KM)) HM
   ·cases hs:Wl b' sec rnd pub with
    |false=>
     rw[hs]at sw;exact fc0 k b' x' t' l' bat sec rnd pub p.R V HC sw
    |true=>
     rw[hs]at sw;by_cases hb1:bat<1
     ·exact ac0 k b' x' t' l' bat sec rnd pub p.R V HC sw hb1
     ·by_cases hb2:64<bat
      ·exact gc0 k b' x' t' l' bat sec rnd pub p.R V HC sw hb2
      ·have hn:p.st.n<2:=by
        by_cases hn:p.st.n<2
        ·exact hn
        ·exact absurd ⟨hs,by omega,by omega,by omega⟩ hgood
       exact Zb0 k b' x' t' l' bat sec rnd pub p.R p.st.n V HC sw (by omega) (by omega) (kp.below hb).b.lt ((kp.below hb).b.cell 0) (by omega)
end
structure SI (lo Wb:Nat)(Wd:World)(j:Nat)(c c2:Nat->Nat)(dv hv:Value)(Ps:List Cc)(Hs:List Hd)(w:World):Prop where
 di:DI lo Wb Wd (slice none 0 0) hv j c dv Ps w
 row:w.ownsRow lo 156 2 hv Hs.length (yl (Hs.map λh=>(h.G,h.Rs)))
 rc:∀q,hv.ownBlock=some q->c q=0/\c2 q=1
 ha:∀(i:Nat) (h:Hd),Hs[i]?=some h->(∃p,Ps[h.i]?=some p/\2<=p.st.n/\HA lo p.D p.R h w)/\∀q,h.fp q->c q=0/\c2 q=2+i
 len:Hs.length<=j
theorem DI.up {lo Wb j j':Nat}{Wd w:World}{wv hv dv:Value}{c:Nat->Nat}{Ps:List Cc}(h:DI lo Wb Wd wv hv j c dv Ps w)(hj:j<=j'):DI lo Wb Wd wv hv j' c dv Ps w:=⟨h.wb,h.cw,h.row,h.cr,h.pa,Nat.le_trans h.len hj,λp e=>by obtain⟨a,b,c,d,e⟩:=h.cnt p e;exact⟨by omega,b,by omega,d,by omega⟩,h.low,h.big,h.lW⟩
section
variable {lo Wb j:Nat}{Wd w w':World}{dv hv:Value}{c c2:Nat->Nat}{Ps:List Cc}{Hs:List Hd}
theorem SI.up {j':Nat}(h:SI lo Wb Wd j c c2 dv hv Ps Hs w)(hj:j<=j'):SI lo Wb Wd j' c c2 dv hv Ps Hs w:=⟨h.di.up hj,h.row,h.rc,h.ha,Nat.le_trans h.len hj⟩
theorem SI.below (h:SI lo Wb Wd j c c2 dv hv Ps Hs w)(hb:Below w.heap.size w w'):SI lo Wb Wd j c c2 dv hv Ps Hs w':=⟨h.di.below hb,xc h.row (za.of_below (F:=λ_=>False) hb) (λ_ _ e=>e),h.rc,λi x e=>by
  obtain⟨⟨p,a,b,d⟩,k⟩:=h.ha i x e;exact⟨⟨p,a,b,d.below hb⟩,k⟩,h.len⟩
theorem SI.disk (h:SI lo Wb Wd j c c2 dv hv Ps Hs w){c':Nat->Nat}{Yj:Value}{ib:List Cc}{j':Nat}(hd:DI lo Wb Wd (slice none 0 0) hv j' c' Yj ib w')(hf:DF c Ps w c' ib w')(hj:j<=j'):SI lo Wb Wd j' c' c2 Yj hv ib Hs w':=by
 refine⟨hd,xc h.row hf.kp (λq e e2=>e2 (h.rc q e).1),λq e=>⟨by rw[hf.col q (h.row.lt q e).2];exact(h.rc q e).1,(h.rc q e).2⟩,λi x e=>?_,Nat.le_trans h.len hj⟩;obtain⟨⟨p,a,b,d⟩,k⟩:=h.ha i x e;obtain⟨p',a',e1,e2,e3⟩:=hf.ps _ p a;refine⟨⟨p',a',by rw[e3];exact b,by rw[e1,e2];exact d.kept hf.kp (λq e5 e6=>e6 (k q e5).1)⟩,λq e5=>⟨by rw[hf.col q (d.lt e5).2];exact(k q e5).1,(k q e5).2⟩⟩
theorem Od0 {α:Type}{L:List α}{i k:Nat}{a b:α}(h:(L.set i a)[k]?=some b):(k=i/\b=a)\/(k≠i/\L[k]?=some b):=by
 rw[List.getElem?_set]at h;split at h
 ·rename_i e
  subst e;split at h
  ·simp only[Option.some.injEq]at h;exact .inl ⟨rfl,h.symm⟩
  ·simp at h
 ·rename_i e
  exact .inr ⟨λe2=>e e2.symm,h⟩
theorem MK {Ps:List Cc}{i:Nat}{p p':Cc}(hp:Ps[i]?=some p)(h1:p'.D=p.D)(h2:p'.R=p.R)(h3:p'.st.n=p.st.n){k:Nat}{r:Cc}(hr:Ps[k]?=some r):∃r',(Ps.set i p')[k]?=some r'/\r'.D=r.D/\r'.R=r.R/\r'.st.n=r.st.n:=by
 by_cases e:i=k
 ·subst e;rw[hp]at hr;simp only[Option.some.injEq]at hr;subst hr;exact⟨p',by rw[List.getElem?_set,if_pos rfl,if_pos (List.getElem?_eq_some_iff.1 hp).1],h1,h2,h3⟩
 ·exact⟨r,by rw[List.getElem?_set,if_neg e];exact hr,rfl,rfl,rfl⟩
theorem SI.joint (h:SI lo Wb Wd j c c2 dv hv Ps Hs w){i:Nat}{x:Hd}{p:Cc}(hi:Hs[i]?=some x)(hp:Ps[x.i]?=some p)(hJ:JL lo p x w w'):∃c' c2' ib Tj,SI lo Wb Wd (j+2) c' c2' dv hv ib Tj w'/\Tj.length=Hs.length:=by
 obtain⟨p',x',⟨f1,f2,f3,f4,f5,f6,f7,f8⟩,⟨e1,e2,e3⟩,kp,kh,hk,hfp,hfx⟩:=hJ;obtain⟨⟨p0,a0,n2,d0⟩,k0⟩:=h.ha i x hi;rw[hp]at a0;simp only[Option.some.injEq]at a0;subst a0;obtain⟨hP,hcp⟩:=h.di.pa _ p hp;obtain⟨q1,q2,q3,q4,q5⟩:=h.di.cnt p (List.mem_of_getElem? hp)
 have hX:∀q,p.fp q\/x.fp q->lo<=q/\(c q=0\/c q=3+x.i):=λq e=>by
  rcases e with e|e
  ·exact⟨(hP.lt e).1,.inr (hcp q e)⟩
  ·exact⟨(d0.lt e).1,.inl (k0 q e).1⟩
 obtain⟨c',z1,z2,z3⟩:=h.di.put hp f1 f3 kp hk hX hfp (show j<=j+2 by omega) ⟨by omega,by omega,by omega,by omega,by omega⟩;have hil:=(List.getElem?_eq_some_iff.1 hi).1;refine⟨c',λq=>if q<w.heap.size then c2 q else 2+i,Ps.set x.i p',Hs.set i x',⟨z1,?_,λq e=>?_,λm y hy=>?_,?_⟩,List.length_set ..⟩
 ·have hm:(Hs.set i x').map (λh=>(h.G,h.Rs))=Hs.map λh=>(h.G,h.Rs):=by
   rw[List.map_set,e2,e3];refine(List.ext_getElem? (λq=>?_));rw[List.getElem?_set];split
   ·rename_i e
    subst e;rw[if_pos (by simpa using hil),List.getElem?_map,hi];rfl
   ·rfl
  rw[hm,List.length_set];refine xc h.row hk (λq e e5=>?_);have h1:=h.rc q e;rcases e5 with e5|e5
  ·have:=hcp q e5;omega
  ·have:=k0 q e5;omega
 ·have hq:=(h.row.lt q e).2;exact⟨by rw[z2 q hq];exact(h.rc q e).1,by show(if q<w.heap.size then c2 q else 2+i)=1;rw[if_pos hq];exact(h.rc q e).2⟩
 ·rcases Od0 hy with⟨rfl,rfl⟩|⟨hne,hy⟩
  ·obtain⟨r',g1,g2,g3,g4⟩:=MK hp f2 f3 f4 hp;refine⟨⟨r',by rw[e1];exact g1,by rw[g4];exact n2,by rw[g2,g3];exact kh⟩,λq e=>?_⟩;rcases hfx q e with e5|⟨e5,e6⟩
   ·have hq:=(d0.lt e5).2;exact⟨by rw[z2 q hq];exact(k0 q e5).1,by show(if q<w.heap.size then c2 q else 2+m)=_;rw[if_pos hq];exact(k0 q e5).2⟩
   ·exact⟨z3 q e5 e6,by show(if q<w.heap.size then c2 q else 2+m)=_;rw[if_neg (by omega)]⟩
  ·obtain⟨⟨r,a,b,d⟩,k⟩:=h.ha m y hy;obtain⟨r',g1,g2,g3,g4⟩:=MK hp f2 f3 f4 a
   refine⟨⟨r',g1,by rw[g4];exact b,by rw[g2,g3];exact d.kept hk (λq e e5=>by
    have h1:=k q e;rcases e5 with e5|e5
    ·have:=hcp q e5;omega
    ·have:=k0 q e5;omega)⟩,λq e=>?_⟩
   ·have hq:=(d.lt e).2;exact⟨by rw[z2 q hq];exact(k q e).1,by show(if q<w.heap.size then c2 q else 2+i)=_;rw[if_pos hq];exact(k q e).2⟩
 ·rw[List.length_set];exact Nat.le_trans h.len (by omega)
theorem SI.made (h:SI lo Wb Wd j c c2 dv hv Ps Hs w){i:Nat}{p:Cc}{xo ro:Option Nat}(hp:Ps[i]?=some p)(n2:2<=p.st.n)(hM:ML lo i p w xo ro w'):∃c' ib,SI lo Wb Wd (j+2) c' c2 dv hv ib Hs w'/\(∀q,q<w.heap.size->c' q=c q)/\((xo=none/\ro=none)\/∃h':Hd,xo=some h'.G/\ro=some h'.Rs/\(∃p',ib[h'.i]?=some p'/\2<=p'.st.n/\HA lo p'.D p'.R h' w')/\(∀q,h'.fp q->w.heap.size<=q/\c' q=0))/\∀q,w'.heap.size<=q->c' q=0:=by
 obtain⟨p',⟨f1,f2,f3,f4,f5,f6,f7,f8⟩,kp,hk,hfp,hx⟩:=hM;obtain⟨hP,hcp⟩:=h.di.pa _ p hp;obtain⟨q1,q2,q3,q4,q5⟩:=h.di.cnt p (List.mem_of_getElem? hp);obtain⟨c',z1,z2,z3⟩:=h.di.put hp f1 f3 kp hk (λq e=>⟨(hP.lt e).1,.inr (hcp q e)⟩) hfp (show j<=j+2 by omega) ⟨by omega,by omega,by omega,by omega,by omega⟩;have eF:∀{k:Nat} {r:Cc},Ps[k]?=some r->∃r',(Ps.set i p')[k]?=some r'/\r'.D=r.D/\r'.R=r.R/\r'.st.n=r.st.n:=λhr=>MK hp f2 f3 f4 hr;refine⟨c',Ps.set i p',⟨z1,xc h.row hk (λq e e5=>by have h1:=h.rc q e;have:=hcp q e5;omega),λq e=>⟨by rw[z2 q (h.row.lt q e).2];exact(h.rc q e).1,(h.rc q e).2⟩,λm y hy=>?_,Nat.le_trans h.len (by omega)⟩,z2,?_,λq e=>z3 q (Nat.le_trans hk.size e) (λe5=>by have:=(kp.lt e5).2;omega)⟩
 ·obtain⟨⟨r,a,b,d⟩,k⟩:=h.ha m y hy;obtain⟨r',g1,g2,g3,g4⟩:=eF a;refine⟨⟨r',g1,by rw[g4];exact b,by rw[g2,g3];exact d.kept hk (λq e e5=>by have h1:=k q e;have:=hcp q e5;omega)⟩,λq e=>⟨by rw[z2 q (d.lt e).2];exact(k q e).1,(k q e).2⟩⟩
 ·rcases hx with hx|⟨h',g1,g2,rfl,g4,g5⟩
  ·exact .inl hx
  ·obtain⟨r',k1,k2,k3,k4⟩:=eF hp;exact .inr ⟨h',g1,g2,⟨r',k1,by rw[k4];exact n2,by rw[k2,k3];exact g4⟩,λq e=>⟨(g5 q e).1,z3 q (g5 q e).1 (g5 q e).2⟩⟩
theorem SI.append (h:SI lo Wb Wd j c c2 dv hv Ps Hs w){n0:Nat}{g cc:Nat}(hn0:n0<=w.heap.size)(hold:∀(i:Nat) (x:Hd),Hs[i]?=some x->∀q,x.fp q->q<n0)(hrow:∀q,hv.ownBlock=some q->q<n0)(h':Hd)(hh:∃p,Ps[h'.i]?=some p/\2<=p.st.n/\HA lo p.D p.R h' w)(hfx:∀q,h'.fp q->n0<=q/\c q=0)(hnew:∀q,w.heap.size<=q->c q=0)(hlen:Hs.length+1<=j)
  (hW:ma w' Wb (Rk (slice none 0 0) (slice none 0 0) (slice none 0 0) (slice none 0 0) dv (slice (some ⟨g,0,none⟩) (Hs.length+1) cc)) 89)(hr:w'.ownsRow lo 156 2 (slice (some ⟨g,0,none⟩) (Hs.length+1) cc) (Hs.length+1) (yl ((Hs.map λh=>(h.G,h.Rs))++[(h'.G,h'.Rs)])))(hk:za (λq=>q=Wb\/hv.ownBlock=some q) w w')(hg:hv.ownBlock=some g\/w.heap.size<=g):∃c2' hv',SI lo Wb Wd j c c2' dv hv' Ps (Hs++[h']) w':=by
 obtain⟨p0,a0,b0,d0⟩:=hh;have dd:=h.di
 have nX:∀q,(q=Wb\/hv.ownBlock=some q)->c q=1\/(c q=0/\c2 q=1/\q<n0):=λq e=>by
  rcases e with rfl|e
  ·exact .inl dd.cw
  ·exact .inr ⟨(h.rc q e).1,(h.rc q e).2,hrow q e⟩
 refine⟨λq=>if q<n0 then c2 q else if q<w.heap.size then 2+Hs.length else 1,_,⟨⟨hW,dd.cw,?_,dd.cr,λi p e=>?_,dd.len,dd.cnt,?_,Nat.le_trans dd.big hk.size,dd.lW⟩,?_,λq e=>?_,λi x e=>?_,?_⟩⟩
 ·exact xc dd.row hk (λq e e5=>by have h1:=dd.cr q e;have:=nX q e5;omega)
 ·obtain⟨a,b⟩:=dd.pa i p e;exact⟨a.kept hk (λq e e5=>by have h1:=b q e;have:=nX q e5;omega),b⟩
 ·refine dd.low.trans (hk.below (λq e=>?_) dd.big);rcases e with rfl|e
  ·exact dd.lW
  ·exact(h.row.lt q e).1
 ·rw[List.length_append,List.map_append];exact hr
 ·have e':g=q:=by simpa[Value.ownBlock]using e
  subst e';rcases hg with e5|e5
  ·have h1:=h.rc _ e5;exact⟨h1.1,by show(if g<n0 then c2 g else if g<w.heap.size then 2+Hs.length else 1)=1;rw[if_pos (hrow _ e5)];exact h1.2⟩
  ·exact⟨hnew g e5,by show(if g<n0 then c2 g else if g<w.heap.size then 2+Hs.length else 1)=1;rw[if_neg (by omega),if_neg (by omega)]⟩
 ·rw[List.getElem?_append]at e;split at e
  ·obtain⟨⟨r,a,b,d⟩,k⟩:=h.ha i x e;refine⟨⟨r,a,b,d.kept hk (λq e5 e6=>by have h1:=k q e5;have:=nX q e6;omega)⟩,λq e5=>⟨(k q e5).1,?_⟩⟩;show(if q<n0 then c2 q else if q<w.heap.size then 2+Hs.length else 1)=_;rw[if_pos (hold i x e q e5)];exact(k q e5).2
  ·rename_i hkl
   have hk0:i=Hs.length:=by
    have:=(List.getElem?_eq_some_iff.1 e).1;simp at this;omega
   subst hk0;rw[Nat.sub_self]at e;simp only[Oa,Option.some.injEq]at e;subst e;refine⟨⟨p0,a0,b0,d0.kept hk (λq e5 e6=>by have h1:=hfx q e5;have:=nX q e6;omega)⟩,λq e5=>⟨(hfx q e5).2,?_⟩⟩;have h1:=(hfx q e5).1;have h2:=(d0.lt e5).2;show(if q<n0 then c2 q else if q<w.heap.size then 2+Hs.length else 1)=_;rw[if_neg (by omega),if_pos h2]
 ·rw[List.length_append];exact hlen
end
theorem dG {w:World}{lo:Nat}{e:TypeId}{sz n m c:Nat}{a:Option Addr}{xs:List Value}(h:w.ownsRow lo e sz (slice a m c) n xs):m<=c:=by
 rcases h.2 with⟨e1,e2⟩|⟨g',cap',cur,e1,_,_,h5,_⟩
 ·simp only[Value.slice.injEq]at e1;omega
 ·simp only[Value.slice.injEq]at e1;omega
section
variable {lo Wb j:Nat}{Wd w w':World}{dv hv:Value}{c c2:Nat->Nat}{Ps:List Cc}{Hs:List Hd}
theorem SI.tn (h:SI lo Wb Wd j c c2 dv hv Ps Hs w)(hlo:lo=Wd.heap.size)(hT:Tn Wd):Tn w/\1<lo:=by
 have h1:=hT.pos;exact⟨hT.below h.di.low (by omega),by omega⟩
def nN (d:Fe)(Ps:List Cc):Prop:=d.kd=40/\d.b≠1/\∃p,Ps=[p]/\xz d.c0 d.c1 d.c2 d.c3 d.c4 d.a d.d0 d.d1 d.d2 p.st.n/\∀id:ByteArray,id.size=8->uf {p.st with term:=p.st.term+1} id=0
theorem tT (h:SI lo Wb Wd j c c2 dv hv Ps Hs w)(hj:j<=2199023255550)(hlo:lo=Wd.heap.size)(hT:Tn Wd)(d:Fe)(ok:ym Wd d)(hk:d.kd=40\/d.kd=41):Calls prog 34 #[pointer (some ⟨Wb,0,none⟩),Be d] w λe w'=>e=.returned (.bool true)/\∃c' c2' hv' ib Tj,SI lo Wb Wd (j+2) c' c2' dv hv' ib Tj w'/\(nN d Ps->Tj.length=Hs.length+1):=by
 unfold Be Fh;refine A8 Wb d.kd d.on d.a d.b hk d.s d.t d.u d.l1 d.l2 d.l3 d.k1 d.k2 d.k3 d.c0 d.c1 d.c2 d.c3 d.c4 d.d0 d.d1 d.d2 d.p0 d.p1 d.p2 d.p3 _ _ _ _ dv hv _ w h.di.wb (λV hb=>?_);have hV:=h.below hb;obtain⟨da,dc,hdv⟩:=qi hV.di.row;obtain⟨ha,hc,Ho⟩:=qi hV.row;have hwb:=hV.di.wb;have hrow:=hV.row;have Qw:=hV.di.row;have hl1:=hV.di.len;have hl2:=hV.len;rw[hdv,Ho]at hwb;rw[Ho]at hrow;rw[hdv]at Qw;by_cases hnil:Ps.length=0\/d.b=1
 ·obtain⟨Q1,bX,bR⟩:=jX (w:=V) (k:=d.c0) (b:=d.c1) (x:=d.c2) (t:=d.c3) (l:=d.c4) (bat:=d.a) (sec:=d.d0) (rnd:=d.d1) (pub:=d.d2) hk (λ_=>False);refine(jT lo Wb d.kd d.on d.a d.b d.s d.t d.u d.l1 d.l2 d.l3 d.k1 d.k2 d.k3 d.c0 d.c1 d.c2 d.c3 d.c4 d.d0 d.d1 d.d2 d.p0 d.p1 d.p2 d.p3 _ _ _ _ da Ps.length dc ha Hs.length hc none none _ (λ_=>False) Q1 _ V hk hwb hrow (by omega) (by omega) (dG Qw) hV.di.big (.inl ⟨hnil,rfl,rfl⟩) ok.on.1 ok.on.2 (λ_ e=>e.elim) bX bR).mono ?_
  rintro e w' ⟨rfl,⟨-,-,hb2⟩|⟨X,R,g,cc,V2,⟨hx,_⟩,_⟩⟩
  ·refine⟨rfl,c,c2,hv,Ps,Hs,(hV.below hb2).up (by omega),λhS=>?_⟩;obtain⟨_,hb1,p,rfl,_⟩:=hS;exact absurd hnil (by simp[hb1])
  ·simp at hx
 ·have hp0:0<Ps.length:=by omega
  obtain⟨g0,dc0,RP,hg0,_⟩:=Qw.form hp0;simp only[Value.slice.injEq]at RP;obtain⟨rfl,_,rfl⟩:=RP;have hpz:=QF d.on Ps.length (by omega);obtain⟨i,hi⟩:=Int.eq_ofNat_of_zero_le hpz.1;obtain⟨p,Zd⟩:∃p,Ps[i]?=some p:=⟨_,List.getElem?_eq_getElem (by omega)⟩;obtain⟨hP,hcp⟩:=hV.di.pa i p Zd;obtain⟨q1,q2,q3,q4,q5⟩:=hV.di.cnt p (List.mem_of_getElem? Zd);have BB:=hV.tn hlo hT;have hmap:(Ps.map λp=>(p.X,p.R))[i]?=some (p.X,p.R):=by rw[List.getElem?_map,Zd];rfl
  obtain⟨Q1,bX,bR⟩:=iX (w:=V) (k:=d.c0) (b:=d.c1) (x:=d.c2) (t:=d.c3) (l:=d.c4) (bat:=d.a) (sec:=d.d0) (rnd:=d.d1) (pub:=d.d2) hk i hP BB.1 BB.2 hV.di.big (by omega) q2 (by omega) q4 (by omega);refine(jT lo Wb d.kd d.on d.a d.b d.s d.t d.u d.l1 d.l2 d.l3 d.k1 d.k2 d.k3 d.c0 d.c1 d.c2 d.c3 d.c4 d.d0 d.d1 d.d2 d.p0 d.p1 d.p2 d.p3 _ _ _ _ (some ⟨g0,0,none⟩) Ps.length dc ha Hs.length hc (some ⟨p.X,0,none⟩) (some ⟨p.R,0,none⟩) _ p.fp Q1 _ V hk hwb hrow (by omega) (by omega) (dG Qw) hV.di.big (.inr ⟨λe=>hnil (.inr e),hp0,g0,i,rfl,hi,by omega,?_,?_,?_⟩) ok.on.1 ok.on.2 (λq e=>⟨(hP.lt e).2,λe2=>?_,λe2=>?_⟩) bX bR).mono ?_
  ·exact(Qw.lt g0 rfl).2
  ·rw[Qw.cellAt (i*2) (by omega)];exact Zy hmap 0 (by decide)
  ·rw[Qw.cellAt (i*2+1) (by omega)];exact Zy hmap 1 (by decide)
  ·have h1:=hcp q e;rw[e2,hV.di.cw]at h1;omega
  ·have h1:=hcp q e;have h2:=(hV.rc q (by rw[Ho];exact e2)).1;omega
  ·rintro e w' ⟨rfl,hq|⟨X,R,g,cc,V2,hq,k1,k2,k3,k4⟩⟩
   ·rcases hq with⟨-,-,hb2,Uu⟩|⟨n2,hM,hx⟩
    ·refine⟨rfl,c,c2,hv,Ps,Hs,(hV.below hb2).up (by omega),λhS=>?_⟩;obtain⟨_,_,p2,rfl,hg,_⟩:=hS
     have hpe:p2=p:=by
      have h1:=(List.getElem?_eq_some_iff.1 Zd).1;simp at h1;subst h1;simpa using Zd
     rw[hpe]at hg;exact absurd hg Uu
    ·obtain⟨c',ib,hS1,_,_,_⟩:=hV.made Zd n2 hM;refine⟨rfl,c',c2,hv,ib,Hs,hS1,λhS=>?_⟩;obtain⟨uZ,_,p2,rfl,_,hmk⟩:=hS
     have hpe:p2=p:=by
      have h1:=(List.getElem?_eq_some_iff.1 Zd).1;simp at h1;subst h1;simpa using Zd
     rw[hpe]at hmk;obtain⟨id,hid,hne⟩:=hx rfl uZ;exact absurd (hmk id hid) hne
   ·rcases hq with⟨hx,_⟩|⟨n2,hM,-⟩
    ·simp at hx
    ·obtain⟨c',ib,hS1,hcl,hx,hnew⟩:=hV.made Zd n2 hM;rcases hx with⟨hx,_⟩|⟨h',g1,g2,g3,g4⟩
     ·simp at hx
     ·simp only[Option.some.injEq]at g1 g2;subst g1 g2
      have fF:V.heap.size<=V2.heap.size:=by
       obtain⟨_,_,_,hk,_⟩:=hM;exact hk.size
      rw[<-hdv]at k1;rw[<-Ho]at k3 k4
      obtain⟨c2',hv',hS2⟩:=hS1.append (n0:=V.heap.size) fF (λm y hy q e=>by
       obtain⟨⟨r,_,_,dd⟩,_⟩:=hV.ha m y hy;exact(dd.lt e).2) (λq e=>(hV.row.lt q e).2) h' g3 g4 hnew (by omega) k1 k2 k3 k4
      exact⟨rfl,c',c2',hv',ib,Hs++[h'],hS2,λ_=>by rw[List.length_append];rfl⟩
theorem ET (h:SI lo Wb Wd j c c2 dv hv Ps Hs w)(hj:j<=2199023255550)(hlo:lo=Wd.heap.size)(hT:Tn Wd)(d:Fe)(ok:ym Wd d)(h1:41<d.kd)(h2:d.kd<=45):Calls prog 34 #[pointer (some ⟨Wb,0,none⟩),Be d] w λe w'=>e=.returned (.bool true)/\∃c' c2' ib Tj,SI lo Wb Wd (j+2) c' c2' dv hv ib Tj w'/\Tj.length=Hs.length:=by
 have hl2:=h.len;have hl1:=h.di.len;by_cases hp:0<Hs.length
 ·obtain⟨g,hc,Ho,_,_⟩:=h.row.form hp;have hwb:=h.di.wb;have hrow:=h.row;rw[Ho]at hwb hrow;have hpz:=QF d.on Hs.length (by omega);obtain⟨i,hi⟩:=Int.eq_ofNat_of_zero_le hpz.1;obtain⟨x,hx⟩:∃x,Hs[i]?=some x:=⟨_,List.getElem?_eq_getElem (by omega)⟩;obtain⟨⟨p,Zd,n2,d0⟩,k0⟩:=h.ha i x hx;obtain⟨hP,hcp⟩:=h.di.pa _ p Zd;obtain⟨q1,q2,q3,q4,q5⟩:=h.di.cnt p (List.mem_of_getElem? Zd);have kw:HW lo p x w:=⟨d0,hP,λq e e2=>by have a:=(k0 q e).1;have b:=hcp q e2;omega,h.di.big,n2,by omega,q2,by omega⟩;have BB:=h.tn hlo hT;unfold Be Fh;refine l8 lo Wb d.kd d.on d.a d.b d.s d.t d.u d.l1 d.l2 d.l3 d.k1 d.k2 d.k3 d.c0 d.c1 d.c2 d.c3 d.c4 d.d0 d.d1 d.d2 d.p0 d.p1 d.p2 d.p3 _ _ _ _ dv g Hs.length hc i x.G x.Rs _ (λq=>p.fp q\/x.fp q) _ w (λq e=>?_) hwb hrow (by omega) h1 ok.on.1 ok.on.2 hi (by omega) (by rw[List.getElem?_map,hx];rfl) (dG hrow) (λV hb=>?_)
  ·have hg:=h.rc g (by rw[Ho];rfl);refine⟨kw.lt q e,λe2=>?_,λe2=>?_⟩
   ·have hw:=h.di.cw;rw[e2]at e;rcases e with e|e
    ·have:=hcp _ e;omega
    ·have:=(k0 _ e).1;omega
   ·rw[e2]at e;rcases e with e|e
    ·have:=hcp _ e;omega
    ·have:=(k0 _ e).2;omega
  ·refine(Vd0 (kw.below hb) (BB.1.on hb) BB.2 d h1 h2 ok.s).mono ?_
   rintro e w' ⟨rfl,hb2|hJ⟩
   ·exact⟨rfl,za.of_below hb2,c,c2,Ps,Hs,((h.below hb).below hb2).up (by omega),rfl⟩
   ·have hk:za (λq=>p.fp q\/x.fp q) V w':=by
     obtain⟨_,_,_,_,_,_,hk,_⟩:=hJ;exact hk
    obtain⟨c',c2',ib,Tj,hS,hl⟩:=(h.below hb).joint hx Zd hJ;exact⟨rfl,hk,c',c2',ib,Tj,hS,hl⟩
 ·have h0:Hs.length=0:=by omega
  obtain⟨ha,hc,Ho⟩:=qi h.row;have hwb:=h.di.wb;rw[Ho,h0]at hwb;unfold Be Fh;refine(C8 Wb d.kd d.on d.a d.b d.s d.t d.u d.l1 d.l2 d.l3 d.k1 d.k2 d.k3 d.c0 d.c1 d.c2 d.c3 d.c4 d.d0 d.d1 d.d2 d.p0 d.p1 d.p2 d.p3 _ _ _ _ dv ha hc w hwb h1).mono ?_
  rintro e w' ⟨rfl,hb⟩
  exact⟨rfl,c,c2,Ps,Hs,(h.below hb).up (by omega),rfl⟩
theorem jG (h:SI lo Wb Wd j c c2 dv hv Ps Hs w)(hj:j<=2199023255550)(hlo:lo=Wd.heap.size)(d:Fe)(ok:ym Wd d)(h1:30<=d.kd)(h2:d.kd<37):Calls prog 34 #[pointer (some ⟨Wb,0,none⟩),Be d] w λe w'=>e=.returned (.bool true)/\∃c' Yj ib,SI lo Wb Wd (j+2) c' c2 Yj hv ib Hs w'/\ib.length=Ps.length+(if d.kd=30/\1<=d.a/\d.a<=8 then 1 else 0)/\jE d Ps ib/\DF c Ps w c' ib w':=by
 refine(SY h.di (by omega) hlo d ok h1 h2).mono ?_
 rintro e w' ⟨rfl,c',Yj,ib,z1,z2,z3,z4⟩
 exact⟨rfl,c',Yj,ib,(h.disk z1 z3 (Nat.le_succ j)).up (by omega),z2,z4,z3⟩
theorem Md0 (h:SI lo Wb Wd j c c2 dv hv Ps Hs w)(hj:j<=2199023255550)(d:Fe)(ok:ym Wd d)(h1:36<d.kd)(h2:d.kd<40):Calls prog 34 #[pointer (some ⟨Wb,0,none⟩),Be d] w λe w'=>e=.returned (.bool true)/\SI lo Wb Wd (j+2) c c2 dv hv Ps Hs w':=by
 have hl1:=h.di.len;unfold Be Fh;by_cases hp:0<Ps.length
 ·obtain⟨g,dc,hdv,_,_⟩:=h.di.row.form hp;have hwb:=h.di.wb;have hrow:=h.di.row;rw[hdv]at hwb hrow;have hpz:=QF d.on Ps.length (by omega);obtain⟨i,hi⟩:=Int.eq_ofNat_of_zero_le hpz.1;obtain⟨p,Zd⟩:∃p,Ps[i]?=some p:=⟨_,List.getElem?_eq_getElem (by omega)⟩;refine LQ lo Wb d.kd d.on d.a d.b d.s d.t d.u d.l1 d.l2 d.l3 d.k1 d.k2 d.k3 d.c0 d.c1 d.c2 d.c3 d.c4 d.d0 d.d1 d.d2 d.p0 d.p1 d.p2 d.p3 _ _ _ _ hv g Ps.length dc i p.X p.R _ (λ_=>False) _ w (λ_ e=>e.elim) hwb hrow (by omega) (by omega) h2 ok.on.1 ok.on.2 hi (by omega) (by rw[List.getElem?_map,Zd];rfl) (dG hrow) (λV hb=>(Sf0 p.X p.R d.kd d.on d.a d.b d.s d.t d.u d.l1 d.l2 d.l3 d.k1 d.k2 d.k3 d.c0 d.c1 d.c2 d.c3 d.c4 d.d0 d.d1 d.d2 d.p0 d.p1 d.p2 d.p3 V h1).mono λe w' hh=>⟨hh.1,za.of_below hh.2,((h.below hb).below hh.2).up (by omega)⟩)
 ·obtain⟨da,dc,hdv⟩:=qi h.di.row;have hwb:=h.di.wb;rw[hdv,show Ps.length=0 by omega]at hwb;exact(KQ Wb d.kd d.on d.a d.b d.s d.t d.u d.l1 d.l2 d.l3 d.k1 d.k2 d.k3 d.c0 d.c1 d.c2 d.c3 d.c4 d.d0 d.d1 d.d2 d.p0 d.p1 d.p2 d.p3 _ _ _ _ hv da dc w hwb (by omega) h2).mono λe w' hh=>⟨hh.1,(h.below hh.2).up (by omega)⟩
theorem Re0 (h:SI lo Wb Wd j c c2 dv hv Ps Hs w)(hj:j<=2199023255550)(hlo:lo=Wd.heap.size)(hT:Tn Wd)(d:Fe)(ok:ym Wd d)(h1:30<=d.kd)(h2:d.kd<=45):Calls prog 34 #[pointer (some ⟨Wb,0,none⟩),Be d] w λe w'=>e=.returned (.bool true)/\∃c' c2' Yj hv' ib Tj,SI lo Wb Wd (j+2) c' c2' Yj hv' ib Tj w':=by
 by_cases a1:d.kd<37
 ·refine(jG h hj hlo d ok h1 a1).mono ?_
  rintro e w' ⟨rfl,c',Yj,ib,z,_⟩
  exact⟨rfl,c',c2,Yj,hv,ib,Hs,z⟩
 ·by_cases a2:d.kd<40
  ·exact(Md0 h hj d ok (by omega) a2).mono λe w' hh=>⟨hh.1,c,c2,dv,hv,Ps,Hs,hh.2⟩
  ·by_cases a3:d.kd<=41
   ·refine(tT h hj hlo hT d ok (by omega)).mono ?_
    rintro e w' ⟨rfl,c',c2',hv',ib,Tj,z,_⟩
    exact⟨rfl,c',c2',dv,hv',ib,Tj,z⟩
   ·refine(ET h hj hlo hT d ok (by omega) h2).mono ?_
    rintro e w' ⟨rfl,c',c2',ib,Tj,z,_⟩
    exact⟨rfl,c',c2',dv,hv,ib,Tj,z⟩
end
def bA:ByteArray:=⟨#[97,97,97,97]⟩
def bB:ByteArray:=⟨#[98,98,98,98]⟩
def bC:ByteArray:=⟨#[99,99,99,99]⟩
def yC:Fe:=⟨40,0,1,0,⟨#[]⟩,⟨#[]⟩,⟨#[]⟩,none,0,0,[],none,0,0,[],2,4,4,1,1,bA,bB,bC,0,0,0,0⟩
theorem ea0 (w:World):ym w yC:=by
 have z:∀n:Nat,n<=100->mg n:=λn h=>⟨by omega,by omega⟩;have z0:mg 0:=⟨by decide,by decide⟩;have e:(⟨#[]⟩:ByteArray).size<=maxLen:=by decide
 exact⟨z 40 (by decide),z0,z 1 (by decide),z0,e,e,e,.inl ⟨rfl,rfl,rfl,rfl⟩,Nat.zero_le _,λy hy=>by simp[yC]at hy,.inl ⟨rfl,rfl,rfl,rfl⟩,Nat.zero_le _,z 2 (by decide),z 4 (by decide),z 4 (by decide),z 1 (by decide),z 1 (by decide),by decide,by decide,by decide,z0,z0,z0,z0⟩
theorem iT {Wb:Nat}{Wd w:World}(hb:Below Wd.heap.size Wd w)(hW:ma w Wb dD 89)(hl:Wd.heap.size<=Wb):SI Wd.heap.size Wb Wd 0 (λq=>if q=Wb then 1 else 0) (λ_=>0) (slice none 0 0) (slice none 0 0) [] [] w:=⟨⟨hW,if_pos rfl,World.ownsRow_nil _ _ _ _,λq e=>by simp[Value.ownBlock]at e,λi p e=>by simp at e,Aa,λp e=>by simp at e,hb,hb.size,hl⟩,World.ownsRow_nil _ _ _ _,λq e=>by simp[Value.ownBlock]at e,λi p e=>by simp at e,Aa⟩
theorem yR {d:Fe}{p:Cc}{ib:List Cc}(h:jE d [p] ib)(hk:d.kd≠30):∃p',ib=[p']/\p'.st=Ui d p.st:=by
 rcases h with⟨e,_⟩|⟨_,⟨e,_⟩|⟨i,r,p',e1,e2,e3⟩⟩
 ·exact absurd e hk
 ·simp at e
 ·have hi:=(List.getElem?_eq_some_iff.1 e1).1;simp at hi;subst hi;simp at e1;subst e1;exact⟨p',by rw[e2];rfl,e3⟩
def qG:Da:=Ui (Jm 31 1 ⟨#[]⟩) (Ui (Jm 32 1 ek) (Ij 2))
theorem mR {s:ByteArray}(h:s.size=32)(hm:s.extract 0 4≠Gf):Le s=false:=by
 cases e:Le s with
 |false=>rfl
 |true=>exact absurd ((lF s h).1 e).1 hm
theorem UW (id:ByteArray)(hid:id.size=8):uf {qG with term:=qG.term+1} id=0:=by
 have h0:qG=⟨2,[ig,ig],[(1,ek)],1,0,0,0⟩:=rfl;rw[h0];have hz:=YS 1 0 id hid;have e1:Le ig=false:=mR (by decide) (by decide);have e2:Le ek=false:=mR (by decide) (by decide);have a1:Qc (⟨2,[ig,ig],[(1,ek)],1,0,0,1⟩:Da)=0:=rfl;have a2:Hf (⟨2,[ig,ig],[(1,ek)],1,0,0,1⟩:Da)=(ig,0):=rfl;have a3:ah (⟨2,[ig,ig],[(1,ek)],1,0,0,1⟩:Da)=(ek,0):=rfl
 have a4:Nk (⟨2,[ig,ig],[(1,ek)],1,0,0,1⟩:Da) 3=[]:=by
  show ai (ai [] (Hf _).1) (ah _).1=[];rw[a2,a3];unfold ai;rw[e1,e2];rfl
 have a5:vg (⟨2,[ig,ig],[(1,ek)],1,0,0,1⟩:Da) 3=⟨2,[ig,ek],[],1,1,0,1⟩:=rfl
 have a6:Kc (⟨2,[ig,ek],[],1,1,0,1⟩:Da) 1 (Ua 1 0 id)=0:=by
  unfold Kc;rw[if_neg (by decide),if_neg (by rw[hz];decide),if_neg (by decide)]
 show uf ⟨2,[ig,ig],[(1,ek)],1,0,0,1⟩ id=0;unfold uf Mk;rw[a1,a2,a3,a4,a5,a6]
 have a7:(Jb (⟨2,[ig,ek],[],1,1,0,1⟩:Da) 1 (Ua 1 0 id)).trouble=0:=by
  unfold Jb;rw[if_neg (by decide),if_neg (by rw[hz];decide),if_neg (by decide)];rfl
 have a8:Qc (Jb (⟨2,[ig,ek],[],1,1,0,1⟩:Da) 1 (Ua 1 0 id))=0:=by
  unfold Qc;rw[a7];rfl
 rw[a8];simp
theorem TW:xz 2 4 4 1 1 1 bA bB bC 2:=⟨by decide,by decide,by decide,by decide,by decide⟩
theorem Qy {w w':World}{c c':Nat->Nat}{Ps ib:List Cc}(h:DF c Ps w c' ib w'){g:Nat}{vs:List Value}{T:TypeId}(hB:ma w g vs T)(hc:c g=0):ma w' g vs T/\c' g=0:=⟨Mc hB h.kp (λe=>e hc),by rw[h.col g hB.lt];exact hc⟩
theorem VW (w:World)(hT:Tn w):Calls prog 33 #[int i64 30,int i64 45] w λe w'=>e=.returned (.bool true)/\Below w.heap.size w w':=by
 obtain⟨W0,hW⟩:=Ca (((w.alloc (.cells #[slice none 0 0,slice none 0 0,slice none 0 0,slice none 0 0,slice none 0 0,slice none 0 0] 89)).alloc (.cells #[int i64 2,int i64 4,int i64 4,int i64 1,int i64 1] 26)).alloc (.cells #[string ⟨#[97,97,97,97]⟩,string ⟨#[98,98,98,98]⟩,string ⟨#[99,99,99,99]⟩] 42));have HB:=aa (show Below w.heap.size w W0 by subst hW;exact((Va _).alloc (by simp) _).alloc (by simp<;>omega) _);have H0:=aa (iT HB.out (show ma W0 w.heap.size dD 89 by rw[<-hW];exact((ma.new w dD _).alloc _).alloc _) Aa)
 have Qb:=aa (show ma W0 (w.heap.size+1) [int i64 2,int i64 4,int i64 4,int i64 1,int i64 1] 26/\(if w.heap.size+1=w.heap.size then 1 else 0)=0 by
  refine⟨?_,if_neg (by omega)⟩;rw[<-hW];have h:=ma.new (w.alloc (.cells #[slice none 0 0,slice none 0 0,slice none 0 0,slice none 0 0,slice none 0 0,slice none 0 0] 89)) [int i64 2,int i64 4,int i64 4,int i64 1,int i64 1] 26;simp only[World.size_alloc]at h;exact h.alloc _)
 have au:=aa (show ma W0 (w.heap.size+1+1) [string ⟨#[97,97,97,97]⟩,string ⟨#[98,98,98,98]⟩,string ⟨#[99,99,99,99]⟩] 42/\(if w.heap.size+1+1=w.heap.size then 1 else 0)=0 by
  refine⟨?_,if_neg (by omega)⟩;rw[<-hW];have h:=ma.new ((w.alloc (.cells #[slice none 0 0,slice none 0 0,slice none 0 0,slice none 0 0,slice none 0 0,slice none 0 0] 89)).alloc (.cells #[int i64 2,int i64 4,int i64 4,int i64 1,int i64 1] 26)) [string ⟨#[97,97,97,97]⟩,string ⟨#[98,98,98,98]⟩,string ⟨#[99,99,99,99]⟩] 42;simp only[World.size_alloc]at h;exact h)
 have hS1:=jG H0.out (by decide) rfl (Jm 30 2 ⟨#[]⟩) (BF w 30 2 ⟨#[]⟩ ⟨by decide,by decide⟩ ⟨by decide,by decide⟩ (by decide)) (by decide) (by decide);have hE1:Be (Jm 30 2 ⟨#[]⟩)=.agg #[int i64 30,int i64 0,int i64 2,int i64 0,string ⟨#[]⟩,string ⟨#[]⟩,string ⟨#[]⟩,slice none 0 0,slice none 0 0,int i64 0,int i64 0,int i64 0,int i64 0,int i64 0,string ⟨#[]⟩,string ⟨#[]⟩,string ⟨#[]⟩,int i64 0,int i64 0,int i64 0,int i64 0]:=rfl;rw[hE1]at hS1;have ic:=aa hS1;have Ea:=aa hW;have HT:=aa hT;clear hS1 hW hE1 hT;go_enter func33,ntmps33;go_wp2_with fail;rw[Ea.out];clear Ea;refine ic.out.mono ?_
 rintro e w1 ⟨rfl,c1,dv1,sW,h1,l1,s1,f1⟩
 obtain⟨p1,hp1,kQ⟩:∃p1,sW=[p1]/\p1.st=Ij 2:=by
  rcases s1 with⟨_,⟨p',e1,e2⟩|e1⟩|⟨e1,_⟩
  ·exact⟨p',e1,e2⟩
  ·rw[e1]at l1;simp[Jm]at l1
  ·exact absurd rfl e1
 have Nc:=aa (Qy f1 Qb.out.1 Qb.out.2);have vk:=aa (Qy f1 au.out.1 au.out.2);have hS2:=jG h1 (by decide) rfl (Jm 32 1 ek) (BF w 32 1 ek ⟨by decide,by decide⟩ ⟨by decide,by decide⟩ (by decide)) (by decide) (by decide);have hE1:Be (Jm 32 1 ek)=.agg #[int i64 32,int i64 0,int i64 1,int i64 0,string ⟨#[97,32,116,101,120,116,32,111,102,32,116,104,105,114,116,121,45,116,119,111,32,98,121,116,101,115,32,104,101,114,101,46]⟩,string ⟨#[]⟩,string ⟨#[]⟩,slice none 0 0,slice none 0 0,int i64 0,int i64 0,int i64 0,int i64 0,int i64 0,string ⟨#[]⟩,string ⟨#[]⟩,string ⟨#[]⟩,int i64 0,int i64 0,int i64 0,int i64 0]:=rfl;rw[hE1]at hS2;have HS2:=aa hS2;have Jd:=aa (And.intro hp1 kQ);clear hS2 h1 l1 s1 f1 hE1 hp1 kQ ic Qb au H0;go_wp2_with fail;refine HS2.out.mono ?_
 rintro e w2 ⟨rfl,c2,dv2,uW,h2,l2,s2,f2⟩
 obtain⟨p2,hp2,lQ⟩:∃p2,uW=[p2]/\p2.st=Ui (Jm 32 1 ek) (Ij 2):=by
  rw[Jd.out.1]at s2;obtain⟨p',a,b⟩:=yR s2 (by decide);exact⟨p',a,by rw[b,Jd.out.2]⟩
 have Ag:=aa (Qy f2 Nc.out.1 Nc.out.2);have HE2:=aa (Qy f2 vk.out.1 vk.out.2);have Uc:=jG h2 (by decide) rfl (Jm 31 1 ⟨#[]⟩) (BF w 31 1 ⟨#[]⟩ ⟨by decide,by decide⟩ ⟨by decide,by decide⟩ (by decide)) (by decide) (by decide);have hE1:Be (Jm 31 1 ⟨#[]⟩)=.agg #[int i64 31,int i64 0,int i64 1,int i64 0,string ⟨#[]⟩,string ⟨#[]⟩,string ⟨#[]⟩,slice none 0 0,slice none 0 0,int i64 0,int i64 0,int i64 0,int i64 0,int i64 0,string ⟨#[]⟩,string ⟨#[]⟩,string ⟨#[]⟩,int i64 0,int i64 0,int i64 0,int i64 0]:=rfl;rw[hE1]at Uc;have yA:=aa Uc;have Vk:=aa (And.intro hp2 lQ);clear Uc h2 l2 s2 f2 hE1 hp2 lQ HS2 Nc vk Jd;go_wp2_with fail;refine yA.out.mono ?_
 rintro e w3 ⟨rfl,c3,dv3,kN,h3,l3,s3,f3⟩
 obtain⟨p3,hp3,FJ⟩:∃p3,kN=[p3]/\p3.st=qG:=by
  rw[Vk.out.1]at s3;obtain⟨p',a,b⟩:=yR s3 (by decide);exact⟨p',a,by rw[b,Vk.out.2];rfl⟩
 have We:=aa (Qy f3 Ag.out.1 Ag.out.2);have Xi:=aa (Qy f3 HE2.out.1 HE2.out.2);obtain⟨da,dc,hdv⟩:=qi h3.di.row
 have k4:w3.cell? ⟨w.heap.size,4,none⟩=some (slice da 1 dc):=by
  have:=h3.di.wb.cell 4;rw[hdv,hp3]at this;exact this
 have Bc:=tT h3 (by decide) rfl HT.out yC (ea0 w) (.inl rfl);have Ld:=aa (show nN yC kN from⟨rfl,by decide,p3,hp3,by rw[FJ];exact TW,λid hid=>by rw[FJ];exact UW id hid⟩);have hE1:Be yC=.agg #[int i64 40,int i64 0,int i64 1,int i64 0,string ⟨#[]⟩,string ⟨#[]⟩,string ⟨#[]⟩,slice none 0 0,slice none 0 0,int i64 2,int i64 4,int i64 4,int i64 1,int i64 1,string ⟨#[97,97,97,97]⟩,string ⟨#[98,98,98,98]⟩,string ⟨#[99,99,99,99]⟩,int i64 0,int i64 0,int i64 0,int i64 0]:=rfl;rw[hE1]at Bc;have Ed:=aa Bc;have b0:=Fa We.out.1;have b1:=Ja We.out.1;have b2:=Ha We.out.1;have b3:=Xa We.out.1;have b4:=Ya We.out.1;have b5:=Fa Xi.out.1;have b6:=Ja Xi.out.1;have b7:=Ha Xi.out.1;clear Bc h3 l3 s3 f3 hE1 hp3 FJ hdv yA Ag HE2 Vk;go_wp2_with fail;refine Ed.out.mono ?_
 rintro e w4 ⟨rfl,c4,c24,hv4,Ps4,Hs4,h4,l4⟩
 have Wv:=aa (l4 Ld.out);have hS5:=ET h4 (by decide) rfl HT.out (Jm 45 0 ⟨#[109]⟩) (BF w 45 0 ⟨#[109]⟩ ⟨by decide,by decide⟩ ⟨by decide,by decide⟩ (by decide)) (by decide) (by decide);have hE1:Be (Jm 45 0 ⟨#[109]⟩)=.agg #[int i64 45,int i64 0,int i64 0,int i64 0,string ⟨#[109]⟩,string ⟨#[]⟩,string ⟨#[]⟩,slice none 0 0,slice none 0 0,int i64 0,int i64 0,int i64 0,int i64 0,int i64 0,string ⟨#[]⟩,string ⟨#[]⟩,string ⟨#[]⟩,int i64 0,int i64 0,int i64 0,int i64 0]:=rfl;rw[hE1]at hS5;have qc:=aa hS5;clear hS5 h4 l4 hE1 k4 b0 b1 b2 b3 b4 b5 b6 b7 Ed;go_wp2_with fail;refine qc.out.mono ?_
 rintro e w5 ⟨rfl,c5,Ey,Ps5,qW,h5,l5⟩
 have hlen:qW.length=1:=by rw[l5,Wv.out];rfl
 obtain⟨ha,hc,Ho⟩:=qi h5.row
 have k5:w5.cell? ⟨w.heap.size,5,none⟩=some (slice ha 1 hc):=by
  have:=h5.di.wb.cell 5;rw[Ho,hlen]at this;exact this
 have Zx:=aa h5.di.low;clear h5 l5 hlen Ho;go_wp2;go_ret;exact⟨rfl,Zx.out⟩
theorem Wa0 (v:Value)(L:List Fe)(w:World)(hT:Tn w)(hv:xy w v L)(hl:L.length<=1099511627776):Calls prog 9 #[v,int i64 30,int i64 45] w λe w'=>e=.returned (.bool true)/\Below w.heap.size w w':=by
 refine Va0 v L 30 45 (λj Wb V=>∃c c2 dv hv Ps Hs,SI w.heap.size Wb w (2*j) c c2 dv hv Ps Hs V) w hv (by omega) (VW w hT) ?_ ?_ ?_ ?_ ?_ ?_
 ·intro V Wb V' hb e hW hb2;exact⟨_,_,_,_,_,_,iT (hb.trans (hb2.mono hb.size)) hW (by rw[e];exact hb.size)⟩
 ·rintro j d Wb V hj hd ok h1 h2 ⟨c,c2,dv,hv,Ps,Hs,h⟩
  refine(Re0 h (by omega) rfl hT d ok h1 h2).mono ?_
  rintro e w' ⟨rfl,c',c2',Yj,hv',ib,Tj,z⟩
  exact⟨rfl,c',c2',Yj,hv',ib,Tj,z⟩
 ·rintro j Wb V ⟨c,c2,dv,hv,Ps,Hs,h⟩
  refine(Y7 Wb _ _ _ V h.di.wb).mono ?_
  rintro e w' ⟨rfl,rfl⟩
  exact⟨rfl,Vb⟩
 ·rintro j Wb V V' ⟨c,c2,dv,hv,Ps,Hs,h⟩ hb
  exact⟨c,c2,dv,hv,Ps,Hs,h.below hb⟩
 ·rintro j Wb V ⟨c,c2,dv,hv,Ps,Hs,h⟩
  exact⟨c,c2,dv,hv,Ps,Hs,h.up (by omega)⟩
 ·rintro j Wb V ⟨c,c2,dv,hv,Ps,Hs,h⟩
  exact h.di.low
end Go.Proofs.YtgaoeoijdpdjiabGreatDoor
