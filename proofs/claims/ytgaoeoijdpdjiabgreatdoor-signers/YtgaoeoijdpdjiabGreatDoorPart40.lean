import Derived.Test.YtgaoeoijdpdjiabGreatDoorPart33
import Derived.Test.YtgaoeoijdpdjiabGreatDoorPart34
import Derived.Test.YtgaoeoijdpdjiabGreatDoorPart39
open Go.Value (int string pointer slice)
open Go.IntKind (i64)
open Go.Proofs.Tryz
set_option maxRecDepth 20000
set_option maxHeartbeats 4000000
namespace Go.Proofs.YtgaoeoijdpdjiabGreatDoor
open Go.RowKit
theorem qz {t:Int}(h:0<=t)(h2:t<=9223372036854775807):0<=Ve t/\Ve t<=9223372036854775807:=by
 unfold Ve;split<;>omega
theorem FQ (st:Da)(ok:qf st):∀j,j<=st.pend.length->(Hm st j).length=st.n/\∀x∈Hm st j,x.size=32
 |0,_=>⟨ok.len,ok.sec⟩
 |j+1,hj=>by
  obtain⟨a,b⟩:=FQ st ok j (by omega);have hp:st.pend[j]?=some (st.pend[j]'hj):=List.getElem?_eq_getElem hj;rw[UJ st j _ hp];refine⟨by rw[List.length_set];exact a,λx hx=>?_⟩;rcases List.mem_or_eq_of_mem_set hx with h|rfl
  ·exact b x h
  ·exact(ok.pen _ (List.getElem_mem hj)).2
section
variable {st:Da}
theorem qf.tk (h:qf st):qf {st with trouble:=Ve st.trouble}:=⟨h.len,h.sec,h.pen,h.lo,h.hi,h.most,(qz h.tr h.tr2).1,(qz h.tr h.tr2).2⟩
theorem qf.rd (h:qf st)(i:Int):qf (Sb st i):=by
 unfold Sb;split
 ·exact h
 ·exact h.tk
theorem qf.sy (h:qf st):qf (Cb st):=by
 unfold Cb;split
 ·exact h.tk
 ·obtain⟨a,b⟩:=FQ st h _ Aa;exact⟨a,b,λp e=>by simp at e,h.lo,h.hi,Nat.zero_le _,(qz h.tr h.tr2).1,(qz h.tr h.tr2).2⟩
theorem qf.wr (h:qf st)(i:Int)(t:ByteArray):qf (Jb st i t):=by
 unfold Jb;split
 ·exact h
 ·rename_i hi
  split
  ·exact h
  ·rename_i hz
   split
   ·exact h.tk
   ·rename_i hf
    have hm:=h.most;refine⟨h.len,h.sec,λp e=>?_,h.lo,h.hi,by dsimp only;rw[List.length_append];show _+1<=16;omega,(qz h.tr h.tr2).1,(qz h.tr h.tr2).2⟩;rcases List.mem_append.1 e with e|e
    ·exact h.pen p e
    ·rw[List.mem_singleton.1 e];exact⟨by show i.toNat<st.n;omega,by simpa using hz⟩
theorem qf.tm (h:qf st)(m:Int):qf {st with term:=m}:=⟨h.len,h.sec,h.pen,h.lo,h.hi,h.most,h.tr,h.tr2⟩
end
structure RD (lo R:Nat)(st:Da)(lv:Value)(L:List Gb)(w:World):Prop where
 b:ma w R (Af st.n lv st.trouble st.syncs st.term) 293
 r:w.ownsRow lo 295 3 lv L.length (Eh L)
 rl:Rl st L
 lR:lo<=R
def Wh (R:Nat)(lv:Value)(q:Nat):Prop:=q=R\/lv.ownBlock=some q
def Zf (lo R:Nat)(st:Da)(lv:Value)(n:Nat)(w w':World):Prop:=∃nC L',RD lo R st nC L' w'/\L'.length<=n/\za (Wh R lv) w w'/\∀q,nC.ownBlock=some q->lv.ownBlock=some q\/w.heap.size<=q
def Ct (lo R:Nat)(st:Da)(lv:Value)(n:Nat)(w w':World):Prop:=∃L',RD lo R st lv L' w'/\L'.length<=n/\za (Wh R lv) w w'
section
variable {lo R:Nat}{st:Da}{lv:Value}{L:List Gb}{w w':World}
theorem Ct.left {n m:Nat}(h:Ct lo R st lv n w w')(hn:n<=m):Zf lo R st lv m w w':=by
 obtain⟨L',a,b,c⟩:=h;exact⟨lv,L',a,Nat.le_trans b hn,c,λ_ e=>.inl e⟩
theorem RD.below (h:RD lo R st lv L w)(hb:Below w.heap.size w w'):RD lo R st lv L w':=⟨h.b.on hb,xc h.r (za.of_below (F:=λ_=>False) hb) (λ_ _ e=>e),h.rl,h.lR⟩
theorem RD.lt (h:RD lo R st lv L w){q:Nat}(hq:Wh R lv q):lo<=q/\q<w.heap.size:=by
 rcases hq with rfl|e
 ·exact⟨h.lR,h.b.lt⟩
 ·exact h.r.lt q e
theorem RD.kept {X:Nat->Prop}(h:RD lo R st lv L w)(hk:za X w w')(hn:∀q,Wh R lv q->¬X q):RD lo R st lv L w':=⟨Mc h.b hk (hn _ (.inl rfl)),xc h.r hk (λq e=>hn q (.inr e)),h.rl,h.lR⟩
theorem RD.left (h:RD lo R st lv L w):Ct lo R st lv L.length w w:=⟨L,h,Aa,za.refl _ _⟩
theorem RD.turn {s2:Da}(h:RD lo R st lv L w)(hb:ma w' R (Af s2.n lv s2.trouble s2.syncs s2.term) 293)(hk:za (λq=>q=R) w w')(hr:Rl s2 L):Ct lo R s2 lv L.length w w':=⟨L,⟨hb,xc h.r hk (λq e e2=>by rw[e2]at e;exact Km h.r h.b (by decide) e),hr,h.lR⟩,Aa,hk.mono (λq _ e=>.inl e)⟩
theorem ZR (h:RD lo R st lv L w)(ok:qf st)(i:Int)(hL:L.length<=2199023255552):Calls prog 141 #[pointer (some ⟨R,0,none⟩),int i64 i] w λe w'=>e=.returned (.tuple #[string (Ec st i).1,int i64 (Ec st i).2])/\Ct lo R (Sb st i) lv L.length w w':=by
 by_cases hs:0<=i/\i<st.n
 ·obtain⟨m,rfl⟩:=Int.eq_ofNat_of_zero_le hs.1;have hst:Sb st m={st with trouble:=Ve st.trouble}:=by unfold Sb;rw[if_neg (λe=>e hs)]
  have hrl:Rl (Sb st m) L:=by rw[hst];exact h.rl.same rfl rfl rfl rfl
  by_cases ht:st.trouble=1
  ·have ha:Ec st m=(⟨#[]⟩,5):=by unfold Ec;rw[if_neg (λe=>e hs),if_pos ht]
   rw[ha];refine(Oc0 R m st.n lv st.trouble st.syncs st.term w h.b hs.1 hs.2 ht).mono ?_
   rintro e w' ⟨rfl,hb,hkk⟩
   exact⟨rfl,h.turn (by rw[hst];exact hb) hkk hrl⟩
  ·have ha:Ec st m=(ak st (m:Int).toNat,0):=by unfold Ec;rw[if_neg (λe=>e hs),if_neg ht]
   have hla:ak st (m:Int).toNat=Rh L m L.length:=by rw[Int.toNat_natCast];exact h.rl.read (by omega)
   rw[ha,hla];obtain⟨la,lc,hlv⟩:=qi h.r;have k3:=h.b;have k4:=h.r;rw[hlv]at k3 k4;refine(Qc0 lo R m st.n la lc st.trouble st.syncs st.term L w k3 k4 hL (by omega) ok.tr ok.tr2 ht).mono ?_
   rintro e w' ⟨rfl,hb,hkk⟩
   rw[<-hlv]at hb;exact⟨rfl,h.turn (by rw[hst];exact hb) hkk hrl⟩
 ·have hst:Sb st i=st:=by unfold Sb;rw[if_pos hs]
  have ha:Ec st i=(⟨#[]⟩,4):=by unfold Ec;rw[if_pos hs]
  rw[ha,hst];refine(Pc0 R i st.n lv st.trouble st.syncs st.term w h.b (by omega)).mono ?_
  rintro e w' ⟨rfl,rfl⟩
  exact⟨rfl,h.left⟩
theorem aS (h:RD lo R st lv L w)(ok:qf st)(i:Int)(t:ByteArray)(ht:t.size<=maxLen)(hL:L.length<=2199023255552)(hlo:lo<=w.heap.size):Calls prog 142 #[pointer (some ⟨R,0,none⟩),int i64 i,string t] w λe w'=>e=.returned (int i64 (Kc st i t))/\Zf lo R (Jb st i t) lv (L.length+1) w w':=by
 have up:∀{s2 w'},Ct lo R s2 lv L.length w w'->Zf lo R s2 lv (L.length+1) w w':=λh=>h.left (Nat.le_succ _);obtain⟨la,lc,hlv⟩:=qi h.r;have k3:=h.b;have k4:=h.r;rw[hlv]at k3 k4;by_cases hs:0<=i/\i<st.n
 ·by_cases hz:t.size=32
  ·by_cases hf:st.trouble=1\/st.pend.length=16
   ·have hst:Jb st i t={st with trouble:=Ve st.trouble}:=by unfold Jb;rw[if_neg (λe=>e hs),if_neg (λe=>e hz),if_pos hf]
    have ha:Kc st i t=5:=by unfold Kc;rw[if_neg (λe=>e hs),if_neg (λe=>e hz),if_pos hf]
    rw[ha];refine(Cd0 lo R i st.n t la lc st.trouble st.syncs st.term L w k3 k4 hL hs.1 hs.2 hz ok.tr ok.tr2 (by rw[h.rl.count];omega)).mono ?_
    rintro e w' ⟨rfl,hb,hkk⟩
    rw[<-hlv]at hb;exact⟨rfl,up (h.turn (by rw[hst];exact hb) hkk (by rw[hst];exact h.rl.same rfl rfl rfl rfl))⟩
   ·have Ug0:=ok.most;have hst:Jb st i t={st with trouble:=Ve st.trouble,pend:=st.pend++[(i.toNat,t)],writes:=st.writes+1}:=by unfold Jb;rw[if_neg (λe=>e hs),if_neg (λe=>e hz),if_neg hf]
    have ha:Kc st i t=0:=by unfold Kc;rw[if_neg (λe=>e hs),if_neg (λe=>e hz),if_neg hf]
    obtain⟨m,rfl⟩:=Int.eq_ofNat_of_zero_le hs.1;rw[ha];have hrl:Rl (Jb st m t) (L++[(m,t,0)]):=by rw[hst,Int.toNat_natCast];exact h.rl.write _ _ _
    refine(Fd0 lo R m st.n t la lc st.trouble st.syncs st.term L w k3 k4 hL hlo (by omega) hz ok.tr ok.tr2 (by omega) (by rw[h.rl.count];omega)).mono ?_
    rintro e w' ⟨rfl,g,c,hb,hr,hkk,hg⟩
    rw[<-hlv]at hkk hg;refine⟨rfl,slice (some ⟨g,0,none⟩) (L.length+1) c,L++[(m,t,0)],⟨by rw[hst];exact hb,by rw[List.length_append];exact hr,hrl,h.lR⟩,by rw[List.length_append];exact Aa,hkk,λq e=>?_⟩;have e':g=q:=by simpa[Value.ownBlock]using e
    rw[<-e'];exact hg
  ·have hst:Jb st i t=st:=by unfold Jb;rw[if_neg (λe=>e hs),if_pos hz]
   have ha:Kc st i t=2:=by unfold Kc;rw[if_neg (λe=>e hs),if_pos hz]
   rw[ha,hst];refine(Dd0 R i st.n t lv st.trouble st.syncs st.term w h.b hs.1 hs.2 hz ht).mono ?_
   rintro e w' ⟨rfl,rfl⟩
   exact⟨rfl,up h.left⟩
 ·have hst:Jb st i t=st:=by unfold Jb;rw[if_pos hs]
  have ha:Kc st i t=4:=by unfold Kc;rw[if_pos hs]
  rw[ha,hst];refine(Ed0 R i st.n t lv st.trouble st.syncs st.term w h.b (by omega)).mono ?_
  rintro e w' ⟨rfl,rfl⟩
  exact⟨rfl,up h.left⟩
theorem yK (h:RD lo R st lv L w)(ok:qf st)(hL:L.length<=2199023255552)(hs0:0<=st.syncs)(hs1:st.syncs<9223372036854775807):Calls prog 143 #[pointer (some ⟨R,0,none⟩)] w λe w'=>e=.returned (int i64 (Qc st))/\Ct lo R (Cb st) lv L.length w w':=by
 by_cases ht:st.trouble=1
 ·have hst:Cb st={st with trouble:=Ve st.trouble}:=by unfold Cb;rw[if_pos ht]
  have ha:Qc st=5:=by unfold Qc;rw[if_pos ht]
  rw[ha];refine(wd0 R st.n lv st.trouble st.syncs st.term w h.b ht).mono ?_
  rintro e w' ⟨rfl,hb,hkk⟩
  exact⟨rfl,h.turn (by rw[hst];exact hb) hkk (by rw[hst];exact h.rl.same rfl rfl rfl rfl)⟩
 ·have hst:Cb st={st with trouble:=Ve st.trouble,dur:=Hm st st.pend.length,pend:=[],syncs:=st.syncs+1}:=by unfold Cb;rw[if_neg ht]
  have ha:Qc st=0:=by unfold Qc;rw[if_neg ht]
  rw[ha];obtain⟨la,lc,hlv⟩:=qi h.r;have k3:=h.b;have k4:=h.r;rw[hlv]at k3 k4;refine(xd0 lo R st.n la lc st.trouble st.syncs st.term L w k3 k4 hL ok.tr ok.tr2 ht hs0 hs1).mono ?_
  rintro e w' ⟨rfl,hb,hr,hkk⟩
  rw[<-hlv]at hb hr hkk;exact⟨rfl,Pf (λ_=>true) 0 L,⟨by rw[hst];exact hb,by rw[Gu];exact hr,by rw[hst];exact h.rl.sync ok rfl rfl rfl rfl,h.lR⟩,by rw[Gu];exact Aa,hkk⟩
end
structure Cc where
 X:Nat
 D:Nat
 R:Nat
 st:Da
 L:List Gb
 F:Nat->Prop
 lv:Value
def Cc.fp (p:Cc):Nat->Prop:=λq=>p.F q\/q=p.R\/p.lv.ownBlock=some q
structure PA (lo:Nat)(p:Cc)(w:World):Prop where
 d:Rf lo p.X p.D p.st w p.F
 b:ma w p.R (Af p.st.n p.lv p.st.trouble p.st.syncs p.st.term) 293
 r:w.ownsRow lo 295 3 p.lv p.L.length (Eh p.L)
 rl:Rl p.st p.L
 lR:lo<=p.R
theorem Ro {lo S D:Nat}{st:Da}{w:World}{F:Nat->Prop}(h:Rf lo S D st w F){b:Nat}{vs:List Value}{T:TypeId}(hb:ma w b vs T)(h0:T≠135)(h1:T≠182)(h2:T≠239)(h3:T≠241):¬F b:=by
 obtain⟨E,pv,e1,e2,_,_,_,_,rfl⟩:=h;unfold ma at hb
 rintro(rfl|rfl|rfl|e)
 ·rw[hb]at e1;simp only[Option.some.injEq,Obj.cells.injEq]at e1;exact h0 e1.2.1
 ·have:=e2.disk;rw[hb]at this;simp only[Option.some.injEq,Obj.cells.injEq]at this;exact h1 this.2.1
 ·have:=e2.durable;rw[hb]at this;simp only[Option.some.injEq,Obj.cells.injEq]at this;exact h2 this.2.1
 ·rcases e2.pending.2 with⟨e3,_⟩|⟨g,cap,cur,e3,_,hg,_⟩
  ·rw[e3]at e;simp[Value.ownBlock]at e
  ·rw[e3]at e;have e':g=b:=by simpa[Value.ownBlock]using e
   subst e';rw[hb]at hg;simp only[Option.some.injEq,Obj.cells.injEq]at hg;exact h3 hg.2.1
theorem Cq {w:World}{lo:Nat}{e:TypeId}{sz:Nat}{v:Value}{n:Nat}{xs:List Value}{q:Nat}(h:w.ownsRow lo e sz v n xs)(hq:v.ownBlock=some q):∃vs,ma w q vs e:=by
 rcases h.2 with⟨rfl,_⟩|⟨g,cap,cur,rfl,_,hg,_⟩
 ·simp[Value.ownBlock]at hq
 ·have e':g=q:=by simpa[Value.ownBlock]using hq
  subst e';exact⟨cur.toList,by unfold ma;rw[hg]⟩
section
variable {lo:Nat}{p:Cc}{w V w':World}
theorem PA.below (h:PA lo p w)(hb:Below w.heap.size w w'):PA lo p w':=⟨h.d.below hb,h.b.on hb,xc h.r (za.of_below (F:=λ_=>False) hb) (λ_ _ e=>e),h.rl,h.lR⟩
theorem PA.nR (h:PA lo p w):¬p.F p.R:=Ro h.d h.b (by decide) (by decide) (by decide) (by decide)
theorem PA.nL (h:PA lo p w){q:Nat}(hq:p.lv.ownBlock=some q):¬p.F q:=by
 obtain⟨vs,hv⟩:=Cq h.r hq;exact Ro h.d hv (by decide) (by decide) (by decide) (by decide)
theorem PA.lt (h:PA lo p w){q:Nat}(hq:p.fp q):lo<=q/\q<w.heap.size:=by
 rcases hq with e|rfl|e
 ·exact h.d.lt q e
 ·exact⟨h.lR,h.b.lt⟩
 ·exact h.r.lt q e
theorem PA.kept {X:Nat->Prop}(h:PA lo p w)(hk:za X w w')(hn:∀q,p.fp q->¬X q):PA lo p w':=⟨h.d.kept hk (λq e=>hn q (.inl e)),Mc h.b hk (hn _ (.inr (.inl rfl))),xc h.r hk (λq e=>hn q (.inr (.inr e))),h.rl,h.lR⟩
def kr (lo:Nat)(p:Cc)(s2:Da)(w V:World):Prop:=∃F',Rf lo p.X p.D s2 V F'/\(∀q,F' q->p.F q\/w.heap.size<=q)/\ma V p.R (Af p.st.n p.lv p.st.trouble p.st.syncs p.st.term) 293/\V.ownsRow lo 295 3 p.lv p.L.length (Eh p.L)/\za p.fp w V
theorem Oy {s2:Da}(h:PA lo p w)(hb:Below w.heap.size w V)(hl:mo lo p.X p.D s2 p.F V w'):za p.fp V w'/\kr lo p s2 w w':=by
 obtain⟨F',k1,k2,k3⟩:=hl;have hV:=h.below hb;have YP:za p.fp V w':=k2.mono (λq _ e=>.inl e);refine⟨YP,F',k1,λq e=>?_,Mc hV.b k2 hV.nR,xc hV.r k2 (λq e=>hV.nL e),(za.of_below hb).trans YP (λq e=>.inl e)⟩;rcases k3 q e with e2|e2
 ·exact .inl e2
 ·exact .inr (Nat.le_trans hb.size e2)
def Xm (lo:Nat)(p:Cc)(s2:Da)(w w':World):Prop:=∃p':Cc,(p'.X=p.X/\p'.D=p.D)/\p'.R=p.R/\p'.st=s2/\p'.L.length<=p.L.length+1/\PA lo p' w'/\za p.fp w w'/\∀q,p'.fp q->p.fp q\/w.heap.size<=q
theorem CG {s2:Da}{L2:List Gb}{lv2:Value}(h:kr lo p s2 w V)(lR:lo<=p.R)(hb:ma w' p.R (Af s2.n lv2 s2.trouble s2.syncs s2.term) 293)(hr:w'.ownsRow lo 295 3 lv2 L2.length (Eh L2))(hk:za (λq=>q=p.R\/p.lv.ownBlock=some q) V w')(hl:∀q,lv2.ownBlock=some q->p.lv.ownBlock=some q\/V.heap.size<=q)(hrl:Rl s2 L2)(hn:L2.length<=p.L.length+1):za p.fp V w'/\Xm lo p s2 w w':=by
 obtain⟨F',k1,k2,k3,k4,k5⟩:=h;have hk2:za p.fp V w':=hk.mono (λq _ e=>.inr e)
 have hd:Rf lo p.X p.D s2 w' F':=k1.kept hk (λq e e2=>by
  rcases e2 with rfl|e2
  ·exact Ro k1 k3 (by decide) (by decide) (by decide) (by decide) e
  ·obtain⟨vs,hv⟩:=Cq k4 e2;exact Ro k1 hv (by decide) (by decide) (by decide) (by decide) e)
 refine⟨hk2,⟨p.X,p.D,p.R,s2,L2,F',lv2⟩,⟨rfl,rfl⟩,rfl,rfl,hn,⟨hd,hb,hr,hrl,lR⟩,k5.trans hk2 (λq e=>.inl e),λq e=>?_⟩;rcases e with e|e|e
 ·rcases k2 q e with e2|e2
  ·exact .inl (.inl e2)
  ·exact .inr e2
 ·exact .inl (.inr (.inl e))
 ·rcases hl q e with e2|e2
  ·exact .inl (.inr (.inr e2))
  ·exact .inr (Nat.le_trans k5.size e2)
theorem PA.rd (h:PA lo p w):RD lo p.R p.st p.lv p.L w:=⟨h.b,h.r,h.rl,h.lR⟩
theorem lL {s2:Da}(h:kr lo p s2 w V)(hl:Zf lo p.R s2 p.lv (p.L.length+1) V w'):za p.fp V w'/\Xm lo p s2 w w':=by
 obtain⟨lv2,L2,a,b,c,d⟩:=hl;exact CG h a.lR a.b a.r c d a.rl b
theorem Lf0 (h:PA lo p w)(d:Fe)(hk:d.kd=31)(hL:p.L.length<=2199023255551):Calls prog 78 #[.agg #[pointer (some ⟨p.X,0,none⟩),pointer (some ⟨p.R,0,none⟩)],Be d] w λe w'=>e=.returned (.bool true)/\Xm lo p (Sb p.st d.a) w w':=by
 unfold Be Fh;rw[hk];refine Tf0 p.X p.R d.on d.a d.b d.s d.t d.u d.l1 d.l2 d.l3 d.k1 d.k2 d.k3 d.c0 d.c1 d.c2 d.c3 d.c4 d.d0 d.d1 d.d2 d.p0 d.p1 d.p2 d.p3 (Ec p.st d.a).1 (Ec p.st d.a).2 p.fp (kr lo p (Sb p.st d.a) w) _ w (λq e=>(h.lt e).2) (λV hb=>?_) (λV hH=>?_)
 ·refine(De0 lo p.X p.D p.st p.F d.a V (h.d.below hb)).mono ?_
  rintro e w' ⟨rfl,hl⟩
  exact⟨rfl,Oy h hb hl⟩
 ·obtain⟨F',k1,k2,k3,k4,k5⟩:=hH;refine(ZR ⟨k3,k4,h.rl,h.lR⟩ h.d.ok d.a (by omega)).mono ?_
  rintro e w' ⟨rfl,hl⟩
  exact⟨rfl,lL ⟨F',k1,k2,k3,k4,k5⟩ (hl.left (Nat.le_succ _))⟩
theorem Of0 (h:PA lo p w)(d:Fe)(hk:d.kd=32)(U1:d.s.size<=maxLen)(hL:p.L.length<=2199023255551)(hlo:lo<=w.heap.size):Calls prog 78 #[.agg #[pointer (some ⟨p.X,0,none⟩),pointer (some ⟨p.R,0,none⟩)],Be d] w λe w'=>e=.returned (.bool true)/\Xm lo p (Jb p.st d.a d.s) w w':=by
 have hwr:=h.rl.wr;unfold Be Fh;rw[hk];refine Wf0 p.X p.R d.on d.a d.b d.s d.t d.u d.l1 d.l2 d.l3 d.k1 d.k2 d.k3 d.c0 d.c1 d.c2 d.c3 d.c4 d.d0 d.d1 d.d2 d.p0 d.p1 d.p2 d.p3 (Kc p.st d.a d.s) p.fp (kr lo p (Jb p.st d.a d.s) w) _ w (λq e=>(h.lt e).2) (λV hb=>?_) (λV hH=>?_)
 ·refine(jf0 lo p.X p.D p.st p.F d.a d.s V (h.d.below hb) (Nat.le_trans hlo hb.size) (by omega) (by omega)).mono ?_
  rintro e w' ⟨rfl,hl⟩
  exact⟨rfl,Oy h hb hl⟩
 ·obtain⟨F',k1,k2,k3,k4,k5⟩:=hH;refine(aS ⟨k3,k4,h.rl,h.lR⟩ h.d.ok d.a d.s U1 (by omega) (Nat.le_trans hlo k5.size)).mono ?_
  rintro e w' ⟨rfl,hl⟩
  exact⟨rfl,lL ⟨F',k1,k2,k3,k4,k5⟩ hl⟩
theorem Mf0 (h:PA lo p w)(d:Fe)(hk:d.kd=33)(hL:p.L.length<=2199023255551)(hs0:0<=p.st.syncs)(hs1:p.st.syncs<=2199023255551):Calls prog 78 #[.agg #[pointer (some ⟨p.X,0,none⟩),pointer (some ⟨p.R,0,none⟩)],Be d] w λe w'=>e=.returned (.bool true)/\Xm lo p (Cb p.st) w w':=by
 unfold Be Fh;rw[hk];refine Uf0 p.X p.R d.on d.a d.b d.s d.t d.u d.l1 d.l2 d.l3 d.k1 d.k2 d.k3 d.c0 d.c1 d.c2 d.c3 d.c4 d.d0 d.d1 d.d2 d.p0 d.p1 d.p2 d.p3 (Qc p.st) p.fp (kr lo p (Cb p.st) w) _ w (λq e=>(h.lt e).2) (λV hb=>?_) (λV hH=>?_)
 ·refine(Se0 lo p.X p.D p.st p.F V (h.d.below hb) hs0 (by omega)).mono ?_
  rintro e w' ⟨rfl,hl⟩
  exact⟨rfl,Oy h hb hl⟩
 ·obtain⟨F',k1,k2,k3,k4,k5⟩:=hH;refine(yK ⟨k3,k4,h.rl,h.lR⟩ h.d.ok (by omega) hs0 (by omega)).mono ?_
  rintro e w' ⟨rfl,hl⟩
  exact⟨rfl,lL ⟨F',k1,k2,k3,k4,k5⟩ (hl.left (Nat.le_succ _))⟩
theorem Nf0 (h:PA lo p w)(d:Fe)(hk:d.kd=34)(ha:mg d.a):Calls prog 78 #[.agg #[pointer (some ⟨p.X,0,none⟩),pointer (some ⟨p.R,0,none⟩)],Be d] w λe w'=>e=.returned (.bool true)/\Xm lo p (if d.a<0 then p.st else{p.st with trouble:=d.a}) w w':=by
 unfold Be Fh;rw[hk];refine Vf0 p.X p.R d.on d.a d.b d.s d.t d.u d.l1 d.l2 d.l3 d.k1 d.k2 d.k3 d.c0 d.c1 d.c2 d.c3 d.c4 d.d0 d.d1 d.d2 d.p0 d.p1 d.p2 d.p3 (if d.a<0 then 2 else 0) p.fp (kr lo p (if d.a<0 then p.st else{p.st with trouble:=d.a}) w) _ w (λq e=>(h.lt e).2) (λV hb=>?_) (λV hH=>?_)
 ·refine(ff0 lo p.X p.D p.st p.F d.a V (h.d.below hb) ha.2).mono ?_
  rintro e w' ⟨rfl,hl⟩
  exact⟨rfl,Oy h hb hl⟩
 ·have hH2:=hH;obtain⟨F',k1,k2,k3,k4,k5⟩:=hH;by_cases hn:d.a<0
  ·rw[if_pos hn]at hH2⊢;rw[if_pos hn];refine(yd0 p.R d.a V hn).mono ?_
   rintro e w' ⟨rfl,rfl⟩
   exact⟨rfl,CG hH2 h.lR k3 k4 (za.refl _ _) (λq e=>.inl e) h.rl (Nat.le_succ _)⟩
  ·rw[if_neg hn]at hH2⊢;rw[if_neg hn];refine(zd0 p.R d.a p.st.n p.lv p.st.trouble p.st.syncs p.st.term V k3 (by omega)).mono ?_
   rintro e w' ⟨rfl,hb,hkk⟩
   exact⟨rfl,CG hH2 h.lR (lv2:=p.lv) hb (xc k4 hkk (λq e e2=>by rw[e2]at e;exact Km k4 k3 (by decide) e)) (hkk.mono (λq _ e=>.inl e)) (λq e=>.inl e) (h.rl.same rfl rfl rfl rfl) (Nat.le_succ _)⟩
theorem Hf0 (h:PA lo p w)(d:Fe)(hk:d.kd=36)(hL:p.L.length<=2199023255551):Calls prog 78 #[.agg #[pointer (some ⟨p.X,0,none⟩),pointer (some ⟨p.R,0,none⟩)],Be d] w λe w'=>e=.returned (.bool true)/\Xm lo p p.st w w':=by
 unfold Be Fh;rw[hk];refine(Rf0 p.X p.R d.on d.a d.b d.s d.t d.u d.l1 d.l2 d.l3 d.k1 d.k2 d.k3 d.c0 d.c1 d.c2 d.c3 d.c4 d.d0 d.d1 d.d2 d.p0 d.p1 d.p2 d.p3 p.st.writes p.st.syncs p.st.pend.length p.fp (λ_=>True) (λ_=>True) w (λq e=>(h.lt e).2) (λV hb=>Hd0 lo p.X p.D p.st p.F V (h.d.below hb)) (λV hb=>?_)).mono ?_
 ·have hV:=h.below hb;obtain⟨la,lc,hlv⟩:=qi hV.r;have hb:=hV.b;have hr:=hV.r;rw[hlv]at hb hr;have:=ob0 lo p.R p.st.n la lc p.st.trouble p.st.syncs p.st.term p.L V hb hr (by omega);rw[h.rl.count,<-h.rl.wr]at this;exact this
 ·rintro e w' ⟨rfl,hb⟩
  exact⟨rfl,p,⟨rfl,rfl⟩,rfl,rfl,Nat.le_succ _,h.below hb,za.of_below hb,λq e=>.inl e⟩
end
def Wm (lo:Nat)(w:World)(sp:Option Addr)(n c:Nat)(K:List Bool):Prop:=(sp=none/\n=0/\c=0/\K=[])\/∃a:Addr,sp=some a/\n=K.length/\(K=[]\/∃bk o,a=⟨bk,o,none⟩/\K.length<=c/\bk<lo/\∀(j:Nat) y,K[j]?=some y->w.cell? ⟨bk,o+j,none⟩=some (.bool y))
section
variable {lo:Nat}{p:Cc}{w V w':World}{sp:Option Addr}{n c:Nat}{K:List Bool}
theorem Wm.kept (h:Wm lo w sp n c K){X:Nat->Prop}(hk:za X w w')(hX:∀q,X q->lo<=q)(hlo:lo<=w.heap.size):Wm lo w' sp n c K:=by
 rcases h with h|⟨a,h1,h2,h3⟩
 ·exact .inl h
 ·refine .inr ⟨a,h1,h2,h3.imp id ?_⟩
  rintro⟨bk,o,e1,e2,e3,e4⟩
  exact⟨bk,o,e1,e2,e3,λj y hy=>(hk.cell (p:=⟨bk,o+j,none⟩) (Nat.lt_of_lt_of_le e3 hlo) (λe=>by have:=hX _ e;dsimp only at this;omega)).trans (e4 j y hy)⟩
theorem Wm.bools (h:Wm lo w sp n c K):Qx w (slice sp n c) K:=by
 rcases h with⟨rfl,rfl,rfl,rfl⟩|⟨a,rfl,rfl,h3⟩
 ·exact .inl ⟨⟨none,0,rfl⟩,rfl⟩
 ·rcases h3 with rfl|⟨bk,o,rfl,e2,_,e4⟩
  ·exact .inl ⟨⟨_,_,rfl⟩,rfl⟩
  ·exact .inr ⟨bk,o,c,rfl,e2,e4⟩
theorem Wm.own (h:Wm lo w sp n c K):∀b o l c2,slice sp n c=slice (some ⟨b,o,none⟩) l c2->0<l->b<lo:=by
 intro b o l c2 e hl;simp only[Value.slice.injEq]at e;rcases h with⟨rfl,_⟩|⟨a,rfl,h2,h3⟩
 ·simp at e
 ·rcases h3 with rfl|⟨bk,o2,rfl,_,e3,_⟩
  ·have:n=0:=h2;omega
  ·have:=e.1;simp only[Option.some.injEq,Addr.mk.injEq]at this;omega
theorem PA.ne (h:PA lo p w){b:Nat}{vs:List Value}(hb:ma w b vs 4):¬p.fp b:=by
 rintro(e|rfl|e)
 ·exact Ro h.d hb (by decide) (by decide) (by decide) (by decide) e
 ·have:=h.b;unfold ma at this hb;rw[hb]at this;simp only[Option.some.injEq,Obj.cells.injEq]at this;exact absurd this.2.1 (by decide)
 ·exact Km h.r hb (by decide) e
theorem r9 {g:Nat}{f:Nat->Bool}(hb:ma w g (ug (K.length+5) f (ae K) 0) 4){j:Nat}{y:Bool}(hy:K[j]?=some y):w.cell? ⟨g,j,none⟩=some (.bool y):=by
 have hl:=(List.getElem?_eq_some_iff.1 hy).1;rw[hb.cell j,VQ _ _ _ _ _ (by omega),if_neg (by omega),RJ hy]
theorem If0 (h:PA lo p w)(d:Fe)(hk:d.kd=35)(hL:p.L.length<=2199023255551)(hlo:lo<=w.heap.size)(hK:Wm lo w d.k1 d.k2 d.k3 d.K)(hKn:d.K.length<=140737488355328)(hs0:0<=p.st.term)(hs1:p.st.term<=2199023255551):Calls prog 78 #[.agg #[pointer (some ⟨p.X,0,none⟩),pointer (some ⟨p.R,0,none⟩)],Be d] w λe w'=>e=.returned (.bool true)/\Xm lo p (yn p.st d.K) w w':=by
 unfold Be Fh;rw[hk];have Ny:d.K.length<=maxLen:=by unfold maxLen;omega
 have hfl:∀q,p.fp q->lo<=q:=λq e=>(h.lt e).1
 have oO:∀V,kr lo p (yn p.st d.K) w V->Calls prog 146 #[pointer (some ⟨p.R,0,none⟩),slice d.k1 d.k2 d.k3] V λe w'=>e=.returned (.tuple #[])/\za p.fp V w'/\Xm lo p (yn p.st d.K) w w'/\Wm lo w' d.k1 d.k2 d.k3 d.K:=by
  intro V hH;have hH2:=hH;obtain⟨F',k1,k2,k3,k4,k5⟩:=hH;have Kw:=hK.kept k5 hfl hlo;obtain⟨la,lc,hlv⟩:=qi k4;have hll:∀q,p.lv.ownBlock=some q->lo<=q:=λq e=>(k4.lt q e).1;have k3':=k3;have k4':=k4;rw[hlv]at k3 k4;refine(pb0 lo p.R p.st.n la lc p.st.trouble p.st.syncs p.st.term p.L _ d.K V k3 k4 (by omega) Kw.bools Ny (λb o l c e hl=>?_) hs0 (by omega)).mono ?_
  ·have hb:=Kw.own b o l c e hl;refine⟨Nat.lt_of_lt_of_le hb (Nat.le_trans hlo k5.size),λe2=>?_⟩;have:=hll b (by rw[hlv];exact e2);omega
  ·rintro e w' ⟨rfl,hb,hr,hkk⟩
   rw[<-hlv]at hb hr hkk;obtain⟨q1,q2⟩:=CG hH2 h.lR (lv2:=p.lv) (L2:=Pf (λc=>d.K.getD c false) 0 p.L) hb (by rw[Gu];exact hr) hkk (λq e=>.inl e) (h.rl.crash h.d.ok d.K rfl rfl rfl rfl) (by rw[Gu];exact Nat.le_succ _);exact⟨rfl,q1,q2,Kw.kept q1 hfl (Nat.le_trans hlo k5.size)⟩
 rcases hK with⟨e1,e2,e3,e4⟩|⟨a,e1,e2,e3⟩
 ·have Kg0:Wm lo w d.k1 d.k2 d.k3 d.K:=.inl ⟨e1,e2,e3,e4⟩;refine gU p.X p.R d.on d.a d.b d.s d.t d.u d.l1 d.l2 d.l3 d.k1 d.k2 d.k3 d.c0 d.c1 d.c2 d.c3 d.c4 d.d0 d.d1 d.d2 d.p0 d.p1 d.p2 d.p3 (slice none 0 0) (λV=>Below w.heap.size w V) _ p.fp (kr lo p (yn p.st d.K) w) (λV=>Xm lo p (yn p.st d.K) w V) w (λq e=>(h.lt e).2) (λV hb _=>?_) (λV hb=>?_) (λV hH=>(oO V hH).mono λe w' h=>⟨h.1,h.2.1,h.2.2.1⟩) (λV hH=>?_)
  ·rw[e1,e2,e3];refine(M7 V).mono ?_
   rintro e w' ⟨rfl,rfl⟩
   exact⟨rfl,Vb,hb⟩
  ·refine(VS lo p.X p.D p.st p.F _ d.K V (h.d.below hb) (.inl ⟨⟨none,0,rfl⟩,e4⟩) Ny (λb o l c e=>by simp at e) hs0 (by omega)).mono ?_
   rintro e w' ⟨rfl,hl⟩
   exact⟨rfl,Oy h hb hl⟩
  ·rw[e1,e2,e3];refine(gg0 V).mono ?_
   rintro e w' ⟨rfl,rfl⟩
   exact⟨rfl,hH⟩
 ·have hKs:Wm lo w d.k1 d.k2 d.k3 d.K:=.inr ⟨a,e1,e2,e3⟩;have hgn:∀q,p.fp q->q≠w.heap.size+2:=λq e=>by have:=(h.lt e).2;omega
  refine gU p.X p.R d.on d.a d.b d.s d.t d.u d.l1 d.l2 d.l3 d.k1 d.k2 d.k3 d.c0 d.c1 d.c2 d.c3 d.c4 d.d0 d.d1 d.d2 d.p0 d.p1 d.p2 d.p3 (slice (some ⟨w.heap.size+2,0,none⟩) d.K.length (d.K.length+5)) (λV=>Below w.heap.size w V/\ma V (w.heap.size+2) (ug (d.K.length+5) (λi=> !ae d.K i) (ae d.K) 0) 4) _ p.fp (λV=>kr lo p (yn p.st d.K) w V/\ma V (w.heap.size+2) (ug (d.K.length+5) (λi=> !ae d.K i) (ae d.K) 0) 4) (λV=>(Xm lo p (yn p.st d.K) w V/\Wm lo V d.k1 d.k2 d.k3 d.K)/\ma V (w.heap.size+2) (ug (d.K.length+5) (λi=> !ae d.K i) (ae d.K) 0) 4) w (λq e=>(h.lt e).2) (λV hb hsz=>?_) ?_ ?_ ?_
  ·rw[e1,e2];have Kw:=hKs.kept (za.of_below (F:=λ_=>False) hb) (λ_ e=>e.elim) hlo;refine(O7 a d.k3 d.K V ?_ hKn).mono ?_
   ·rcases Kw with⟨e,_⟩|⟨a',f1,f2,f3⟩
    ·rw[e1]at e;simp at e
    ·rw[e1]at f1;simp only[Option.some.injEq]at f1;subst f1;refine f3.imp id ?_
     rintro⟨bk,o,g1,g2,g3,g4⟩
     exact⟨bk,o,g1,Nat.lt_of_lt_of_le g3 (Nat.le_trans hlo hb.size),g4⟩
   ·rintro e w' ⟨rfl,hbk,hb2⟩
    rw[hsz]at hbk⊢;rw[<-hsz];rw[<-hsz]at hbk;exact⟨rfl,hb2,hb.trans (hb2.mono hb.size),hbk⟩
  ·rintro V ⟨hb,hbk⟩
   refine(VS lo p.X p.D p.st p.F _ d.K V (h.d.below hb) (.inr ⟨_,0,_,rfl,by omega,λj y hy=>by rw[Nat.zero_add];exact r9 hbk hy⟩) Ny (λb o l c e hl=>?_) hs0 (by omega)).mono ?_
   ·simp only[Value.slice.injEq,Option.some.injEq,Addr.mk.injEq,and_true]at e;obtain⟨⟨e5,_⟩,_⟩:=e;rw[<-e5];exact⟨hbk.lt,λe=>hgn _ (.inl e) rfl⟩
   ·rintro e w' ⟨rfl,hl⟩
    obtain⟨q1,q2⟩:=Oy h hb hl;exact⟨rfl,q1,q2,Mc hbk q1 (λe=>hgn _ e rfl)⟩
  ·rintro V ⟨hH,hbk⟩
   refine(oO V hH).mono ?_
   rintro e w' ⟨rfl,q1,q2,q3⟩
   exact⟨rfl,q1,⟨q2,q3⟩,Mc hbk q1 (λe=>hgn _ e rfl)⟩
  ·rintro V ⟨⟨hH,Kw⟩,hbk⟩
   rw[e1,e2];have hgw:w.heap.size+2<V.heap.size:=hbk.lt;refine(ig0 (w.heap.size+2) a d.k3 d.K V ?_ hKn hbk).mono ?_
   ·rcases Kw with⟨e,_⟩|⟨a',f1,f2,f3⟩
    ·rw[e1]at e;simp at e
    ·rw[e1]at f1;simp only[Option.some.injEq]at f1;subst f1;refine f3.imp id ?_
     rintro⟨bk,o,g1,g2,g3,g4⟩
     exact⟨bk,o,g1,g2,by omega,g4⟩
   ·rintro e w' ⟨rfl,hkk⟩
    obtain⟨p',y1,y2,y3,y4,y5,y6,y7⟩:=hH;refine⟨rfl,p',y1,y2,y3,y4,y5.kept hkk (λq e e2=>?_),y6.trans hkk (λq e=>.inr (by rw[e];omega)),y7⟩;rw[e2]at e;exact y5.ne hbk e
end
end Go.Proofs.YtgaoeoijdpdjiabGreatDoor
namespace Go.Proofs.YtgaoeoijdpdjiabGreatDoor
open Go.RowKit
theorem U4:(prog.info? 285).map (λi=>(i.zero,i.size,i.bytes))=some (some (.agg #[int i64 0,int i64 0,int i64 0,int i64 0,slice none 0 0]),5,56):=by kernel_rfl
def Oc (D:Nat)(en:Int)(ov:Bool)(k b x t l:Int)(sec rnd pub:ByteArray)(bat:Int)(key id:ByteArray)(nx bd q:Int)(tr:Value):List Value:=[pointer (some ⟨D,0,none⟩),int i64 en,.bool ov,int i64 k,int i64 b,int i64 x,int i64 t,int i64 l,string sec,string rnd,string pub,int i64 bat,string key,string id,int i64 nx,int i64 bd,int i64 q,tr]
structure Ig where
 l:Int
 n:Int
 ra:Option Addr
 rc:Nat
 vs:List Value
def Ig.v (T:Nat)(K:Ig):Value:=slice K.ra (T+1) K.rc
def Ig.cells (T:Nat)(K:Ig):List Value:=[int i64 K.l,int i64 K.n,int i64 0,int i64 0,K.v T]
def Ot (T:Nat)(Ks:List Ig):List Value:=Ks.flatMap (Ig.cells T)
theorem L6 {T:Nat}{Ks:List Ig}{j:Nat}{K:Ig}(h:Ks[j]?=some K)(i:Nat)(hi:i<5):(Ot T Ks)[j*5+i]?=(K.cells T)[i]?:=Iu (Ig.cells T) 5 Ks j K i (λ_ _=>rfl) h hi
theorem M6 (T:Nat)(Ks:List Ig)(K:Ig):Ot T (Ks++[K])=Ot T Ks++K.cells T:=by simp[Ot]
structure Nf (lo:Nat)(w:World)(rv:Value)(Ks:List Ig)(T:Nat)(Za:Int->Int->Nat->Nat->ByteArray):Prop where
 row:w.ownsRow lo 285 5 rv Ks.length (Ot T Ks)
 each:∀K∈Ks,Zc lo w (K.v T) K.vs (T+1) T (Za K.l K.n)
def og (T:Nat)(rv:Value)(Ks:List Ig)(q:Nat):Prop:=rv.ownBlock=some q\/∃K∈Ks,(K.v T).ownBlock=some q\/∃v∈K.vs,v.ownBlock=some q
variable {lo S T:Nat}{w w':World}{rv:Value}{Ks:List Ig}{Za:Int->Int->Nat->Nat->ByteArray}
theorem Nf.kept {F:Nat->Prop}(h:Nf lo w rv Ks T Za)(hk:za F w w')(hF:∀q,og T rv Ks q->¬F q):Nf lo w' rv Ks T Za:=⟨xc h.row hk (λq e=>hF q (.inl e)),λK hK=>(h.each K hK).kept hk (λq e=>hF q (.inr ⟨K,hK,.inl e⟩)) (λv hv q e=>hF q (.inr ⟨K,hK,.inr ⟨v,hv,e⟩⟩))⟩
theorem Nf.on (h:Nf lo w rv Ks T Za)(hb:Below w.heap.size w w'):Nf lo w' rv Ks T Za:=h.kept (za.of_below (F:=λ_=>False) hb) (λ_ _ e=>e)
theorem Nf.lt (h:Nf lo w rv Ks T Za){q:Nat}(hq:og T rv Ks q):lo<=q/\q<w.heap.size:=by
 rcases hq with e|⟨K,hK,e|⟨v,hv,e⟩⟩
 ·exact⟨(dh h.row e).1,(dh h.row e).2.1⟩
 ·exact(h.each K hK).lt.1 q e
 ·exact(h.each K hK).lt.2 v hv q e
theorem Nf.grows {ss:List Value}(h:Nf lo w rv Ks T Za)(hS:ma w S ss 302)(hk:za (λq=>q=S\/rv.ownBlock=some q) w w'):∀K∈Ks,Zc lo w' (K.v T) K.vs (T+1) T (Za K.l K.n):=by
 intro K hK;refine(h.each K hK).kept hk (λq e hF=>?_) (λv hv q e hF=>?_)
 ·obtain⟨-,-,us,hB⟩:=dh (h.each K hK).row e;rcases hF with rfl|e2
  ·exact xe hB hS (by decide)
  ·obtain⟨-,-,zG,hB2⟩:=dh h.row e2;exact xe hB hB2 (by decide)
 ·obtain⟨us,hB⟩:=(h.each K hK).blk hv e;rcases hF with rfl|e2
  ·exact xe hB hS (by decide)
  ·obtain⟨-,-,zG,hB2⟩:=dh h.row e2;exact xe hB hB2 (by decide)
theorem Nf.not (h:Nf lo w rv Ks T Za){ss:List Value}(hS:ma w S ss 302):¬og T rv Ks S:=by
 rintro(e|⟨K,hK,e|⟨v,hv,e⟩⟩)
 ·obtain⟨-,-,us,hB⟩:=dh h.row e;exact xe hB hS (by decide)
 ·obtain⟨-,-,us,hB⟩:=dh (h.each K hK).row e;exact xe hB hS (by decide)
 ·obtain⟨us,hB⟩:=(h.each K hK).blk hv e;exact xe hB hS (by decide)
end Go.Proofs.YtgaoeoijdpdjiabGreatDoor
namespace Go.Proofs.YtgaoeoijdpdjiabGreatDoor
open Go.RowKit
theorem Zc.node {lo:Nat}{w:World}{ra:Option Addr}{rc:Nat}{vs:List Value}{m T:Nat}{tv:Nat->Nat->ByteArray}(h:Zc lo w (slice ra m rc) vs m T tv)(hm:0<m):∃gr,ra=some ⟨gr,0,none⟩/\gr<w.heap.size/\∀i,i<m->∃gi ci,w.cell? ⟨gr,i,none⟩=some (slice (some ⟨gi,0,none⟩) (2^(T-i)) ci)/\gi<w.heap.size/\∀j,j<2^(T-i)->w.cell? ⟨gi,j,none⟩=some (string (tv i j)):=by
 obtain⟨gr,c,hv,-,hg⟩:=h.row.form hm;simp only[Value.slice.injEq]at hv;obtain⟨rfl,-,rfl⟩:=hv;refine⟨gr,rfl,hg,λi hi=>?_⟩;obtain⟨v,hv,hr⟩:=h.each i hi;obtain⟨gi,ci,rfl,-,hgi⟩:=hr.form Nat.one_le_two_pow;refine⟨gi,ci,?_,hgi,λj hj=>?_⟩
 ·rw[h.row.cellAt i (by omega)];exact hv
 ·rw[hr.cellAt j (by omega)];simp[Ev,List.getElem?_range hj]
theorem Jd0 {b:Nat}{sec rnd pub:ByteArray}(h1:(sec.size:Int)=b)(h2:(rnd.size:Int)=b)(h3:(pub.size:Int)=b):Wl b sec rnd pub=true:=by
 unfold Wl;refine(IA _ _).2 ?_;intro z hz;simp at hz;rcases hz with rfl|rfl|rfl
 ·exact h1
 ·exact h2
 ·exact h3
def Px (tv:Nat->Nat->ByteArray)(T a:Nat):List ByteArray:=(List.range T).map λi=>tv i (Kj a i)
theorem CX (k b:Int)(pub:ByteArray)(p0 p1 p2 p3:Int)(m:Nat)(y:ByteArray):∀n:Nat,bg k b pub p0 p1 p2 p3 (m:Int) n (bg k b pub p0 p1 p2 p3 0 m y)=bg k b pub p0 p1 p2 p3 0 (m+n) y:=by
 intro n
 induction n with
 |zero=>rfl
 |succ n ih=>
  rw[bg,ih,<-Nat.add_assoc,bg];congr 1;omega
theorem ZY (k b:Int)(x:Nat)(sec pub:ByteArray)(p0 p1 F:Int)(ds:List Nat)(hd:∀d∈ds,d<x):Dh k b x pub p0 p1 F ds (Ih k b sec pub p0 p1 F ds ds.length) ds.length=Xg k b (x-1) sec pub p0 p1 F ds.length:=by
 unfold Dh Xg Ew;apply List.map_congr_left;intro i hi;have hi':i<ds.length:=List.mem_range.1 hi
 have h1:(Ih k b sec pub p0 p1 F ds ds.length)[i]?=some (bg k b pub p0 p1 F i 0 (ds[i]?.getD 0) (si k b sec p0 p1 F i)):=by
  simp[Ih,List.getElem?_range hi']
 have h2:ds[i]?.getD 0<x:=by
  rw[List.getElem?_eq_getElem hi'];exact hd _ (List.getElem_mem hi')
 rw[h1,Option.getD_some,CX,show ds[i]?.getD 0+(x-1-ds[i]?.getD 0)=x-1 by omega]
theorem GX (k b:Int)(wd ch:Nat)(sec pub:ByteArray)(p0 p1:Int)(F t:Nat):∀h,h<=t->Pg k b pub p0 p1 F (Si k b wd ch sec pub p0 p1 F t) (oq k b wd ch sec pub p0 p1 F) h=Zg k b wd ch sec pub p0 p1 h (F/2^h):=by
 intro h
 induction h with
 |zero=>
  intro _;rw[Pg,Nat.pow_zero,Nat.div_one,Zg]
 |succ h ih=>
  intro hh
  have hp:(Si k b wd ch sec pub p0 p1 F t).getD h ⟨#[]⟩=Zg k b wd ch sec pub p0 p1 h (F/2^h^^^1):=by
   rw[List.getD_eq_getElem?_getD];simp[Si,List.getElem?_range (show h<t by omega)]
  have hq:F/2^(h+1)=F/2^h/2:=by rw[Nat.pow_succ,Nat.div_div_eq_div_mul]
  rw[Pg,ih (by omega),hp,Zg,hq,uL];generalize F/2^h=a;by_cases h0:a% 2=0
  ·rw[if_pos h0,if_pos h0,show 2*(a/2)=a by omega]
  ·rw[if_neg h0,if_neg h0,show 2*(a/2)=a-1 by omega,show a-1+1=a by omega]
theorem Bc0 (k b:Int)(x t ch:Nat)(sec pub:ByteArray)(p0 p1:Int)(F:Nat)(ds:List Nat)(hd:∀d∈ds,d<x)(hn:ds.length=ch)(hF:F<2^t):Dx k b x pub p0 p1 F ds (Ih k b sec pub p0 p1 F ds ds.length) (Si k b (x-1) ch sec pub p0 p1 F t)=Zg k b (x-1) ch sec pub p0 p1 t 0:=by
 rw[Dx,YF,ZY k b x sec pub p0 p1 F ds hd,uK,hn];have h:=GX k b (x-1) ch sec pub p0 p1 F t t Aa;rw[Nat.div_eq_of_lt hF]at h;exact h
def sM (k:Int)(b x e f t ch:Nat)(sec pub:ByteArray)(idx:Nat)(m0:ByteArray):Nat->ByteArray
 |0=>m0
 |q+1=>Dx k b x pub q ((idx/2^(t*q)/2^t:Nat):Int) (idx/2^(t*q)% 2^t) (Fj x e f (Eb (sM k b x e f t ch sec pub idx m0 q))) (Ih k b sec pub q ((idx/2^(t*q)/2^t:Nat):Int) ((idx/2^(t*q)% 2^t:Nat):Int) (Fj x e f (Eb (sM k b x e f t ch sec pub idx m0 q))) (Fj x e f (Eb (sM k b x e f t ch sec pub idx m0 q))).length) (Si k b (x-1) ch sec pub q ((idx/2^(t*q)/2^t:Nat):Int) (idx/2^(t*q)% 2^t) t)
def sD (k:Int)(b x e f t ch:Nat)(sec pub:ByteArray)(idx:Nat)(m0:ByteArray)(q:Nat):List Nat:=Fj x e f (Eb (sM k b x e f t ch sec pub idx m0 q))
def sV (k:Int)(b x e f t ch:Nat)(sec pub:ByteArray)(idx:Nat)(m0:ByteArray)(q:Nat):List ByteArray:=Ih k b sec pub q ((idx/2^(t*q)/2^t:Nat):Int) ((idx/2^(t*q)% 2^t:Nat):Int) (sD k b x e f t ch sec pub idx m0 q) (sD k b x e f t ch sec pub idx m0 q).length
def sP (k:Int)(b x t ch:Nat)(sec pub:ByteArray)(idx:Nat)(q:Nat):List ByteArray:=Si k b (x-1) ch sec pub q ((idx/2^(t*q)/2^t:Nat):Int) (idx/2^(t*q)% 2^t) t
theorem GK (k:Int)(b x e f t ch:Nat)(sec pub:ByteArray)(idx:Nat)(m0:ByteArray)(hp:Bi b x e f)(hch:ch=b*e+f)(hk:k=1\/k=2)(zs:sec.size<=16)(zp:pub.size<=16)(hm:(m0.size:Int)=b):∀q,((sM k b x e f t ch sec pub idx m0 q).size:Int)=b/\(sD k b x e f t ch sec pub idx m0 q).length=ch:=by
 obtain⟨g1,g2,g3,g4,g5,g6⟩:=uq hp
 have dl:∀m:ByteArray,(m.size:Int)=b->(Fj x e f (Eb m)).length=ch:=λm h=>by
  rw[GY,Bj,hch];congr 2;omega
 intro q
 induction q with
 |zero=>exact⟨hm,dl _ hm⟩
 |succ q ih=>
  have hs:((sM k b x e f t ch sec pub idx m0 (q+1)).size:Int)=b:=by
   rw[sM];refine Ac0 k b x pub q _ _ _ _ _ hk (by omega) (by omega) zp ?_ (xS k b sec pub q _ _ _ _ hk (by omega) (by omega) zs zp) ?_
   ·rw[YF,dl _ ih.1,hch];exact g3
   ·intro y hy;simp only[Si,List.mem_map]at hy;obtain⟨h,_,rfl⟩:=hy;exact Wy k b (x-1) ch sec pub _ _ hk (by omega) (by omega) zs zp (by rw[hch];exact g3) _ _
  exact⟨hs,dl _ hs⟩
theorem SS (k:Int)(b x e f t ch:Nat)(sec pub:ByteArray)(idx:Nat)(m0:ByteArray)(hp:Bi b x e f)(hch:ch=b*e+f)(hk:k=1\/k=2)(zs:sec.size<=16)(zp:pub.size<=16)(hm:(m0.size:Int)=b)(q:Nat):(sV k b x e f t ch sec pub idx m0 q).length=ch:=by
 rw[sV,YF];exact(GK k b x e f t ch sec pub idx m0 hp hch hk zs zp hm q).2
theorem RS (k:Int)(b x t ch:Nat)(sec pub:ByteArray)(idx:Nat)(q:Nat):(sP k b x t ch sec pub idx q).length=t:=by rw[sP,uK]
theorem IK (k:Int)(b x e f t ch:Nat)(sec pub:ByteArray)(idx:Nat)(m0:ByteArray)(hp:Bi b x e f)(hch:ch=b*e+f)(hk:k=1\/k=2)(zs:sec.size<=16)(zp:pub.size<=16)(q:Nat):(∀y∈sV k b x e f t ch sec pub idx m0 q,(y.size:Int)=b)/\∀y∈sP k b x t ch sec pub idx q,(y.size:Int)=b:=by
 obtain⟨g1,g2,g3,g4,g5,g6⟩:=uq hp;refine⟨xS k b sec pub q _ _ _ _ hk (by omega) (by omega) zs zp,λy hy=>?_⟩;simp only[sP,Si,List.mem_map]at hy;obtain⟨h,_,rfl⟩:=hy;exact Wy k b (x-1) ch sec pub _ _ hk (by omega) (by omega) zs zp (by rw[hch];exact g3) _ _
theorem WR (k:Int)(b x e f t ch:Nat)(sec pub:ByteArray)(idx:Nat)(m0:ByteArray)(hp:Bi b x e f)(hch:ch=b*e+f)(hk:k=1\/k=2)(zs:sec.size<=16)(zp:pub.size<=16):∀q,∀y∈Oe (sV k b x e f t ch sec pub idx m0) (sP k b x t ch sec pub idx) q,(y.size:Int)=b:=by
 intro q
 induction q with
 |zero=>intro y hy;simp[Oe]at hy
 |succ q ih=>
  intro y hy;rw[Oe,List.mem_append,List.mem_append]at hy;obtain⟨h1,h2⟩:=IK k b x e f t ch sec pub idx m0 hp hch hk zs zp q;rcases hy with(hy|hy)|hy
  ·exact ih y hy
  ·exact h1 y hy
  ·exact h2 y hy
theorem oC (k:Int)(b x e f t l:Nat)(R:Wp k b x e f t l)(V:World):Calls prog 155 #[.agg #[int i64 k,int i64 b,int i64 x,int i64 t,int i64 l]] V λr w'=>r=.returned (.tuple #[.agg #[int i64 ((b*e:Nat):Int),int i64 f,int i64 ((b*e+f:Nat):Int),int i64 ((2^(t*l):Nat):Int),int i64 ((4+b+l*(b*e+f+t)*b:Nat):Int),int i64 ((5+2*b:Nat):Int)],int i64 0])/\Below V.heap.size V w':=by
 have h:=NK b x e f t l R.pr k V R.kk R.t1 R.t2 R.l1 R.l2;rw[be0 R.pr,aL]at h;exact h
def mf (s:ByteArray):Int×Int×ByteArray:=if Le s then(Hg s,qg s,Qd s)else(0,0,⟨#[]⟩)
theorem jU (s:ByteArray):∃c:Int,Og s=.tuple #[.agg #[int i64 (mf s).1,int i64 (mf s).2.1,string (mf s).2.2],int i64 c]:=by
 unfold Og mf;split<;>exact⟨_,rfl⟩
def Sg (st:Da):Int:=if Qc st≠0 then Qc st else if(Ec (Cb st) 0).2≠0 then(Ec (Cb st) 0).2 else(Ec (Sb (Cb st) 0) 1).2
def Ae (st:Da):Da:=if Qc st≠0 then Cb st else if(Ec (Cb st) 0).2≠0 then Sb (Cb st) 0 else Sb (Sb (Cb st) 0) 1
theorem MS {lo R:Nat}{st:Da}{lv:Value}{L:List Gb}{w:World}(h:RD lo R st lv L w)(ok:qf st)(hL:L.length<=2199023255552)(hs0:0<=st.syncs)(hs1:st.syncs<9223372036854775807):Calls prog 225 #[pointer (some ⟨R,0,none⟩)] w λe w'=>∃q0 b0 d0 q1 b1 d1,e=.returned (.tuple #[.agg #[int i64 q0,int i64 b0,string d0],.agg #[int i64 q1,int i64 b1,string d1],int i64 (Sg st)])/\Ct lo R (Ae st) lv L.length w w'/\(Sg st=0->(q0,b0,d0)=mf (Ec (Cb st) 0).1/\(q1,b1,d1)=mf (Ec (Sb (Cb st) 0) 1).1):=by
 obtain⟨W0,hW⟩:=Ca ((w.alloc (.cells #[int i64 0,int i64 0,string ⟨#[]⟩] 186)).alloc (.cells #[int i64 0,int i64 0,string ⟨#[]⟩] 186))
 have HX0:=aa (show ma W0 w.heap.size [int i64 0,int i64 0,string ⟨#[]⟩] 186/\ma W0 (w.heap.size+1) [int i64 0,int i64 0,string ⟨#[]⟩] 186 by
  subst hW;refine⟨(ma.new w _ _).alloc _,?_⟩;have h:=ma.new (w.alloc (.cells #[int i64 0,int i64 0,string ⟨#[]⟩] 186)) [int i64 0,int i64 0,string ⟨#[]⟩] 186;simp only[World.size_alloc]at h;exact h)
 have HB0:=Gc hW;have HN:=aa (λq (e:Wh R lv q)=>(h.lt e).2);have HX:=aa (λ(V:World) (hk:za (Wh R lv) W0 V)=>(⟨Mc HX0.out.1 hk (λe=>Nat.lt_irrefl _ (HN.out _ e)),Mc HX0.out.2 hk (λe=>by have:=HN.out _ e;omega)⟩:ma V w.heap.size [int i64 0,int i64 0,string ⟨#[]⟩] 186/\ma V (w.heap.size+1) [int i64 0,int i64 0,string ⟨#[]⟩] 186));have Vn:=aa (λ(s2:Da) (V V2:World) (L2:List Gb) (h2:RD lo R s2 lv L2 V) (hl:L2.length<=L.length) (hk:za (Wh R lv) W0 V) (hk2:za (λq=>w.heap.size<=q) V V2)=>(⟨L2,h2.kept hk2 (λq e e2=>by have:=HN.out q e;omega),hl,((za.of_below HB0.out).trans hk (λq e=>.inl e)).trans hk2 (λq e=>.inr e)⟩:Ct lo R s2 lv L.length w V2));have fo:=aa (yK (h.below HB0.out) ok hL hs0 hs1);have om:=aa (λ(V:World) (s2:Da) (L2:List Gb) (i:Int) (h2:RD lo R s2 lv L2 V) (kK:qf s2) (hl:L2.length<=L.length)=>ZR h2 kK i (Nat.le_trans hl hL));have Xe:=aa ok.sy;have Lc:=aa (ok.sy.rd 0);have Ea:=aa hW;have HZ:=aa (λ(V:World) (a0 a1 a2 a3 a4 a5:Value)=>(((((((za.refl (λq=>w.heap.size<=q) V).setCell (p:=⟨w.heap.size,0,none⟩) (.inl Aa) a0).setCell (p:=⟨w.heap.size,1,none⟩) (.inl Aa) a1).setCell (p:=⟨w.heap.size,2,none⟩) (.inl Aa) a2).setCell (p:=⟨w.heap.size+1,0,none⟩) (.inl (Nat.le_succ _)) a3).setCell (p:=⟨w.heap.size+1,1,none⟩) (.inl (Nat.le_succ _)) a4).setCell (p:=⟨w.heap.size+1,2,none⟩) (.inl (Nat.le_succ _)) a5));clear h ok hL hs0 hs1 hW;obtain⟨c1,hE1⟩:∃c,Qc st=c:=⟨_,rfl⟩;obtain⟨s1,hT1⟩:∃c,Cb st=c:=⟨_,rfl⟩;rw[hE1,hT1]at fo;rw[hT1]at Xe Lc;have vk:=aa hE1;have HT1:=aa hT1;clear hE1 hT1;go_enter func225,ntmps225;go_upto_region 1 with fail;rw[Ea.out];clear Ea;by_cases hc1:c1=0
 ·subst hc1;go_wp2_with fail;refine fo.out.mono ?_
  rintro e w1 ⟨rfl,L1,hr1,hl1,hk1⟩
  have HR1:=aa hr1;have Li:=aa hl1;have Ce:=aa hk1;have QD:=aa (om.out _ _ _ 0 hr1 Xe.out hl1);clear hr1 hl1 hk1 fo;obtain⟨z0,hE2⟩:∃c,Ec s1 0=c:=⟨_,rfl⟩;obtain⟨s2,Em⟩:∃c,Sb s1 0=c:=⟨_,rfl⟩;obtain⟨x0,c2⟩:=z0;rw[hE2,Em]at QD;rw[Em]at Lc;have HE2:=aa hE2;have HT2:=aa Em;clear hE2 Em;by_cases hc2:c2=0
  ·subst hc2;go_wp2_with fail;refine QD.out.mono ?_
   rintro e w2 ⟨rfl,L2,hr2,hl2,hk2⟩
   have uA:=aa (om.out _ _ _ 1 hr2 Lc.out (Nat.le_trans hl2 Li.out));have HL2:=aa (Nat.le_trans hl2 Li.out);have Gd:=aa (Ce.out.trans hk2 (λq e=>.inl e));clear hr2 hl2 hk2 QD;obtain⟨z1,TI⟩:∃c,Ec s2 1=c:=⟨_,rfl⟩;obtain⟨s3,XI⟩:∃c,Sb s2 1=c:=⟨_,rfl⟩;obtain⟨x1,c3⟩:=z1;rw[TI,XI]at uA
   have jg:=aa (show Sg st=c3/\Ae st=s3/\(Ec (Cb st) 0).1=x0/\(Ec (Sb (Cb st) 0) 1).1=x1 by
    unfold Sg Ae;rw[HT1.out,vk.out,HE2.out,HT2.out,TI,XI];exact⟨rfl,rfl,rfl,rfl⟩)
   clear TI XI;by_cases hc3:c3=0
   ·subst hc3;obtain⟨n0,hu0⟩:=jU x0;obtain⟨n1,hu1⟩:=jU x1;have JH:=aa (λV=>uS x0 V);have KH:=aa (λV=>uS x1 V);rw[hu0]at JH;rw[hu1]at KH;clear hu0 hu1;obtain⟨⟨q0,b0,d0⟩,hy0⟩:∃y,mf x0=y:=⟨_,rfl⟩;obtain⟨⟨q1,b1,d1⟩,hy1⟩:∃y,mf x1=y:=⟨_,rfl⟩;rw[hy0]at JH;rw[hy1]at KH;have HY:=aa (And.intro hy0 hy1);clear hy0 hy1;go_wp2_with fail;refine uA.out.mono ?_
    rintro e w3 ⟨rfl,L3,hr3,hl3,hk3⟩
    have HR3:=aa hr3;have rV:=aa (Nat.le_trans hl3 HL2.out);have Dp:=aa (Gd.out.trans hk3 (λq e=>.inl e));clear hr3 hl3 hk3 uA;go_wp2_with fail;refine(JH.out _).mono ?_
    rintro e w4 ⟨rfl,hb4⟩
    have Db:=aa hb4;clear hb4;obtain⟨W4,Gj⟩:=Ca (w4.alloc (.cells #[int i64 q0,int i64 b0,string d0] 186));obtain⟨A,hA⟩:=Ca (w4.heap.size);have Vi:=aa (show ma W4 A [int i64 q0,int i64 b0,string d0] 186 by rw[<-Gj,<-hA];exact ma.new w4 _ _);have je:=aa (show Below w3.heap.size w3 W4 by rw[<-Gj];exact Db.out.alloc Db.out.size _);have jk:=aa (show W0.heap.size<=A by have h1:=Dp.out.size;have h2:=Db.out.size;omega);go_upto_region 11 with fail
    (try rw[Gj])
    (try rw[hA])
    clear Gj hA;go_wp2_with fail;refine(KH.out _).mono ?_
    rintro e w5 ⟨rfl,hb5⟩
    obtain⟨W5,Eo⟩:=Ca (w5.alloc (.cells #[int i64 q1,int i64 b1,string d1] 186));obtain⟨B,hB⟩:=Ca (w5.heap.size);have Ub:=aa (show Below w3.heap.size w3 W5 by rw[<-Eo];exact(je.out.trans (hb5.mono je.out.size)).alloc (je.out.trans (hb5.mono je.out.size)).size _);have nk:=aa (show W0.heap.size<=B by have h1:=Dp.out.size;have h2:=(je.out.trans (hb5.mono je.out.size)).size;omega);have Jh:=aa (show ma W5 A [int i64 q0,int i64 b0,string d0] 186/\ma W5 B [int i64 q1,int i64 b1,string d1] 186 by rw[<-Eo,<-hB];exact⟨(Vi.out.on hb5).alloc _,ma.new w5 _ _⟩);have Wn:=aa (Dp.out.after Ub.out);have Vm:=aa (HX.out _ Wn.out);have qA:=aa (HR3.out.below Ub.out);clear hb5;go_upto_region 12 with fail
    (try rw[Eo])
    (try rw[hB])
    clear Eo hB;have EM:=aa (show W0.heap.size<=A/\W0.heap.size<=B from⟨jk.out,nk.out⟩);have JM:=aa (λ(V:World) (h1:ma V A [int i64 q0,int i64 b0,string d0] 186) (h2:ma V B [int i64 q1,int i64 b1,string d1] 186)=>(dR (Fa h1) (Ja h1) (Ha h1) (Fa h2) (Ja h2) (Ha h2)));refine wp_region_held_drew (S:=λV=>V.cell? ⟨A,0,none⟩=some (int i64 q0)/\V.cell? ⟨A,1,none⟩=some (int i64 b0)/\V.cell? ⟨A,2,none⟩=some (string d0)/\V.cell? ⟨B,0,none⟩=some (int i64 q1)/\V.cell? ⟨B,1,none⟩=some (int i64 b1)/\V.cell? ⟨B,2,none⟩=some (string d1)) (by kernel_rfl) (JM.out _ (Jh.out.1.on (Below.refl W5.heap.size W5).drew) (Jh.out.2.on (Below.refl W5.heap.size W5).drew)) (λja=>?_);have HD7:=aa ((Below.refl W5.heap.size W5).drew);have Pj:=aa (And.intro (Jh.out.1.on HD7.out) (Jh.out.2.on HD7.out));have Ls:=aa (Wn.out.after HD7.out);have Xk:=aa (HX.out _ Ls.out);have gy:=aa (qA.out.below HD7.out);clear Jh Wn Vm qA;generalize World.drew W5=V2 at HD7 Pj Ls Xk gy ja⊢;have um:=aa (λ(V:World) (hk:za (λq=>w.heap.size<=q/\q<W0.heap.size) V2 V)=>JM.out V (Mc Pj.out.1 hk (λe=>by have:=EM.out;omega)) (Mc Pj.out.2 hk (λe=>by have:=EM.out;omega)));have HW0:=aa (show w.heap.size<W0.heap.size/\w.heap.size+1<W0.heap.size from⟨HX0.out.1.lt,HX0.out.2.lt⟩);refine tk 0 ja ?_;refine tk 1 ja ?_;have r0:=Fa Xk.out.1;have r1:=Ja Xk.out.1;have r2:=Ha Xk.out.1;have r3:=Fa Xk.out.2;have r4:=Ja Xk.out.2;have r5:=Ha Xk.out.2;have f0:=Xk.out.1.free 0;have f1:=Xk.out.1.free 1;have f2:=Xk.out.1.free 2;have f3:=Xk.out.2.free 0;have f4:=Xk.out.2.free 1;have f5:=Xk.out.2.free 2;refine wpAnyH_ready (rs:=[2]) (by kernel_rfl) (by simp) ?_;refine(AllReadyH.cons (o:=?oa) ?ha (λK hK=>?sa) AllReadyH.nil)
    case ha=>(simp only[jb,Na,Oa];rfl)
    go_simp;refine hK.out _ _ (um.out _ ((((za.refl (λq=>w.heap.size<=q/\q<W0.heap.size) V2).setCell (p:=⟨w.heap.size,0,none⟩) (.inl ⟨Aa,HW0.out.1⟩) _).setCell (p:=⟨w.heap.size,1,none⟩) (.inl ⟨Aa,HW0.out.1⟩) _).setCell (p:=⟨w.heap.size,2,none⟩) (.inl ⟨Aa,HW0.out.1⟩) _)) (λja=>?_);clear hK K;try simp only[Act.put,Bb,Ka,Ma]
    refine wpAnyH_ready (rs:=[3]) (by kernel_rfl) (by simp) ?_;refine(AllReadyH.cons (o:=?ob2) ?hb2 (λK hK=>?sb2) AllReadyH.nil)
    case hb2=>(simp only[jb,Na,Oa];rfl)
    case sb2=>
     go_simp;refine hK.out _ _ (um.out _ (((((((za.refl (λq=>w.heap.size<=q/\q<W0.heap.size) V2).setCell (p:=⟨w.heap.size,0,none⟩) (.inl ⟨Aa,HW0.out.1⟩) _).setCell (p:=⟨w.heap.size,1,none⟩) (.inl ⟨Aa,HW0.out.1⟩) _).setCell (p:=⟨w.heap.size,2,none⟩) (.inl ⟨Aa,HW0.out.1⟩) _).setCell (p:=⟨w.heap.size+1,0,none⟩) (.inl ⟨Nat.le_succ _,HW0.out.2⟩) _).setCell (p:=⟨w.heap.size+1,1,none⟩) (.inl ⟨Nat.le_succ _,HW0.out.2⟩) _).setCell (p:=⟨w.heap.size+1,2,none⟩) (.inl ⟨Nat.le_succ _,HW0.out.2⟩) _)) (λja=>?_);clear hK K;try simp only[Act.put,Bb,Ka,Ma]
     refine tk 4 ja ?_;refine wpAnyH_done (by kernel_rfl) ?_ _;clear ja;go_wp2_with fail;refine bodyPost_ret (v:=.tuple #[.agg #[int i64 q0,int i64 b0,string d0],.agg #[int i64 q1,int i64 b1,string d1],int i64 0]) (by simp[results,results225,go_sem,r0,r1,r2,r3,r4,r5]) rfl ?_;rw[jg.out.1,jg.out.2.1,jg.out.2.2.1,jg.out.2.2.2,HY.out.1,HY.out.2];exact⟨_,_,_,_,_,_,rfl,Vn.out _ _ _ _ gy.out rV.out Ls.out (((((((za.refl (λq=>w.heap.size<=q) V2).setCell (p:=⟨w.heap.size,0,none⟩) (.inl Aa) _).setCell (p:=⟨w.heap.size,1,none⟩) (.inl Aa) _).setCell (p:=⟨w.heap.size,2,none⟩) (.inl Aa) _).setCell (p:=⟨w.heap.size+1,0,none⟩) (.inl (Nat.le_succ _)) _).setCell (p:=⟨w.heap.size+1,1,none⟩) (.inl (Nat.le_succ _)) _).setCell (p:=⟨w.heap.size+1,2,none⟩) (.inl (Nat.le_succ _)) _),λ_=>⟨rfl,rfl⟩⟩
   ·have e3:(c3 !=0)=true:=by simpa using hc3
    have e4:(c3==0)=false:=by simpa using hc3
    have HC:=aa hc3;clear hc3;go_wp2_with fail;refine uA.out.mono ?_
    rintro e w3 ⟨rfl,L3,hr3,hl3,hk3⟩
    have Dp:=aa (Gd.out.trans hk3 (λq e=>.inl e));have Ke:=aa (HX.out _ Dp.out);have HF:=aa (Vn.out _ _ _ _ hr3 (Nat.le_trans hl3 HL2.out) Dp.out (HZ.out w3 (int i64 0) (int i64 0) (string ⟨#[]⟩) (int i64 0) (int i64 0) (string ⟨#[]⟩)));have r0:=Fa Ke.out.1;have r1:=Ja Ke.out.1;have r2:=Ha Ke.out.1;have r3:=Fa Ke.out.2;have r4:=Ja Ke.out.2;have r5:=Ha Ke.out.2;have f0:=Ke.out.1.free 0;have f1:=Ke.out.1.free 1;have f2:=Ke.out.1.free 2;have f3:=Ke.out.2.free 0;have f4:=Ke.out.2.free 1;have f5:=Ke.out.2.free 2;clear hr3 hl3 hk3 uA;go_wp2_with fail;refine bodyPost_ret (v:=.tuple #[.agg #[int i64 0,int i64 0,string ⟨#[]⟩],.agg #[int i64 0,int i64 0,string ⟨#[]⟩],int i64 c3]) (by simp[results,results225,go_sem,r0,r1,r2,r3,r4,r5]) rfl ?_;rw[jg.out.1,jg.out.2.1];exact⟨_,_,_,_,_,_,rfl,HF.out,λe=>absurd e HC.out⟩
  ·have e3:(c2 !=0)=true:=by simpa using hc2
   have e4:(c2==0)=false:=by simpa using hc2
   have HC:=aa hc2
   have jg:=aa (show Sg st=c2/\Ae st=s2 by
    unfold Sg Ae;rw[HT1.out,vk.out];rw[HE2.out,HT2.out];exact⟨by simp[hc2],by simp[hc2]⟩)
   clear hc2;go_wp2_with fail;refine QD.out.mono ?_
   rintro e w3 ⟨rfl,L3,hr3,hl3,hk3⟩
   have Dp:=aa (Ce.out.trans hk3 (λq e=>.inl e));have Ke:=aa (HX.out _ Dp.out);have HF:=aa (Vn.out _ _ _ _ hr3 (Nat.le_trans hl3 Li.out) Dp.out (HZ.out w3 (int i64 0) (int i64 0) (string ⟨#[]⟩) (int i64 0) (int i64 0) (string ⟨#[]⟩)));have r0:=Fa Ke.out.1;have r1:=Ja Ke.out.1;have r2:=Ha Ke.out.1;have r3:=Fa Ke.out.2;have r4:=Ja Ke.out.2;have r5:=Ha Ke.out.2;have f0:=Ke.out.1.free 0;have f1:=Ke.out.1.free 1;have f2:=Ke.out.1.free 2;have f3:=Ke.out.2.free 0;have f4:=Ke.out.2.free 1;have f5:=Ke.out.2.free 2;clear hr3 hl3 hk3;go_wp2_with fail;refine bodyPost_ret (v:=.tuple #[.agg #[int i64 0,int i64 0,string ⟨#[]⟩],.agg #[int i64 0,int i64 0,string ⟨#[]⟩],int i64 c2]) (by simp[results,results225,go_sem,r0,r1,r2,r3,r4,r5]) rfl ?_;rw[jg.out.1,jg.out.2];exact⟨_,_,_,_,_,_,rfl,HF.out,λe=>absurd e HC.out⟩
 ·have e3:(c1 !=0)=true:=by simpa using hc1
  have e4:(c1==0)=false:=by simpa using hc1
  have HC:=aa hc1
  have jg:=aa (show Sg st=c1/\Ae st=s1 by
    unfold Sg Ae;rw[HT1.out,vk.out];rw[if_pos hc1,if_pos hc1];exact⟨rfl,rfl⟩)
  clear hc1;go_wp2_with fail;refine fo.out.mono ?_
  rintro e w3 ⟨rfl,L3,hr3,hl3,hk3⟩
  have Ke:=aa (HX.out _ hk3);have HF:=aa (Vn.out _ _ _ _ hr3 hl3 hk3 (HZ.out w3 (int i64 0) (int i64 0) (string ⟨#[]⟩) (int i64 0) (int i64 0) (string ⟨#[]⟩)));have r0:=Fa Ke.out.1;have r1:=Ja Ke.out.1;have r2:=Ha Ke.out.1;have r3:=Fa Ke.out.2;have r4:=Ja Ke.out.2;have r5:=Ha Ke.out.2;have f0:=Ke.out.1.free 0;have f1:=Ke.out.1.free 1;have f2:=Ke.out.1.free 2;have f3:=Ke.out.2.free 0;have f4:=Ke.out.2.free 1;have f5:=Ke.out.2.free 2;clear hr3 hl3 hk3;go_wp2_with fail;refine bodyPost_ret (v:=.tuple #[.agg #[int i64 0,int i64 0,string ⟨#[]⟩],.agg #[int i64 0,int i64 0,string ⟨#[]⟩],int i64 c1]) (by simp[results,results225,go_sem,r0,r1,r2,r3,r4,r5]) rfl ?_;rw[jg.out.1,jg.out.2];exact⟨_,_,_,_,_,_,rfl,HF.out,λe=>absurd e HC.out⟩
end Go.Proofs.YtgaoeoijdpdjiabGreatDoor
