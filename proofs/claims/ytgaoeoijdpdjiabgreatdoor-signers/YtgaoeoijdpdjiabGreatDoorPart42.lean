import Derived.Test.YtgaoeoijdpdjiabGreatDoorPart40
import Derived.Test.YtgaoeoijdpdjiabGreatDoorPart41
open Go.Value (int string pointer slice)
open Go.IntKind (i64)
open Go.Proofs.Tryz
set_option maxRecDepth 20000
set_option maxHeartbeats 8000000
namespace Go.Proofs.YtgaoeoijdpdjiabGreatDoor
open Go.RowKit
structure DI (lo Wb:Nat)(Wd:World)(wv hv:Value)(j:Nat)(c:Nat->Nat)(dv:Value)(Ps:List Cc)(w:World):Prop where
 wb:ma w Wb (Rk (slice none 0 0) (slice none 0 0) (slice none 0 0) wv dv hv) 89
 cw:c Wb=1
 row:w.ownsRow lo 152 2 dv Ps.length (yl (Ps.map λp=>(p.X,p.R)))
 cr:∀q,dv.ownBlock=some q->c q=2
 pa:∀(i:Nat) (p:Cc),Ps[i]?=some p->PA lo p w/\∀q,p.fp q->c q=3+i
 len:Ps.length<=j
 cnt:∀p∈Ps,p.L.length<=j/\0<=p.st.syncs/\p.st.syncs<=j/\0<=p.st.term/\p.st.term<=j
 low:Below lo Wd w
 big:lo<=w.heap.size
 lW:lo<=Wb
section
variable {lo Wb j:Nat}{Wd w w':World}{wv hv dv:Value}{c:Nat->Nat}{Ps:List Cc}
theorem DI.below (h:DI lo Wb Wd wv hv j c dv Ps w)(hb:Below w.heap.size w w'):DI lo Wb Wd wv hv j c dv Ps w':=⟨h.wb.on hb,h.cw,xc h.row (za.of_below (F:=λ_=>False) hb) (λ_ _ e=>e),h.cr,λi p e=>⟨(h.pa i p e).1.below hb,(h.pa i p e).2⟩,h.len,h.cnt,h.low.trans (hb.mono h.big),Nat.le_trans h.big hb.size,h.lW⟩
theorem DI.next (h:DI lo Wb Wd wv hv j c dv Ps w):DI lo Wb Wd wv hv (j+1) c dv Ps w:=⟨h.wb,h.cw,h.row,h.cr,h.pa,Nat.le_succ_of_le h.len,λp e=>by obtain⟨a,b,c,d,e⟩:=h.cnt p e;exact⟨by omega,b,by omega,d,by omega⟩,h.low,h.big,h.lW⟩
structure DF (c:Nat->Nat)(Ps:List Cc)(w:World)(c':Nat->Nat)(ib:List Cc)(w':World):Prop where
 col:∀q,q<w.heap.size->c' q=c q
 ps:∀(i:Nat) (p:Cc),Ps[i]?=some p->∃p',ib[i]?=some p'/\p'.D=p.D/\p'.R=p.R/\p'.st.n=p.st.n
 kp:za (λq=>c q≠0) w w'
theorem DF.below (hb:Below w.heap.size w w'):DF c Ps w c Ps w':=⟨λ_ _=>rfl,λ_ p e=>⟨p,e,rfl,rfl,rfl⟩,za.of_below hb⟩
theorem DF.of (hb:Below w.heap.size w w'){w2:World}{c':Nat->Nat}{ib:List Cc}(h:DF c Ps w' c' ib w2):DF c Ps w c' ib w2:=⟨λq e=>h.col q (Nat.lt_of_lt_of_le e hb.size),h.ps,(za.of_below hb).trans h.kp (λ_ e=>.inl e)⟩
theorem DI.put (h:DI lo Wb Wd wv hv j c dv Ps w){i j':Nat}{p p':Cc}{X:Nat->Prop}(hp:Ps[i]?=some p)(e1:p'.X=p.X)(e2:p'.R=p.R)(WI:PA lo p' w')(hk:za X w w')(hX:∀q,X q->lo<=q/\(c q=0\/c q=3+i))(hf:∀q,p'.fp q->p.fp q\/w.heap.size<=q)(hj:j<=j')(hc:p'.L.length<=j'/\0<=p'.st.syncs/\p'.st.syncs<=j'/\0<=p'.st.term/\p'.st.term<=j'):∃c',DI lo Wb Wd wv hv j' c' dv (Ps.set i p') w'/\(∀q,q<w.heap.size->c' q=c q)/\∀q,w.heap.size<=q->¬p'.fp q->c' q=0:=by
 obtain⟨oP,hc0⟩:=h.pa i p hp;have hil:=(List.getElem?_eq_some_iff.1 hp).1
 obtain⟨c',hc1,hc2,hc3⟩:∃c':Nat->Nat,(∀q,q<w.heap.size->c' q=c q)/\(∀q,w.heap.size<=q->p'.fp q->c' q=3+i)/\∀q,w.heap.size<=q->¬p'.fp q->c' q=0:=by
  classical
  refine⟨λq=>if q<w.heap.size then c q else if p'.fp q then 3+i else 0,λq e=>if_pos e,λq e e2=>?_,λq e e2=>?_⟩
  ·show(if q<w.heap.size then c q else if p'.fp q then 3+i else 0)=_;rw[if_neg (by omega),if_pos e2]
  ·show(if q<w.heap.size then c q else if p'.fp q then 3+i else 0)=_;rw[if_neg (by omega),if_neg e2]
 refine⟨c',⟨?_,?_,?_,?_,?_,?_,?_,?_,?_,h.lW⟩,hc1,hc3⟩
 ·exact Mc h.wb hk (λe=>by have:=(hX _ e).2;have:=h.cw;omega)
 ·rw[hc1 _ h.wb.lt];exact h.cw
 ·have:(Ps.set i p').map (λp=>(p.X,p.R))=Ps.map λp=>(p.X,p.R):=by
   rw[List.map_set,e1,e2];refine(List.ext_getElem? (λq=>?_));rw[List.getElem?_set];split
   ·rename_i e
    subst e;rw[if_pos (by simpa using hil),List.getElem?_map,hp];rfl
   ·rfl
  rw[this,List.length_set];exact xc h.row hk (λq e e2=>by have:=(hX _ e2).2;have:=h.cr q e;omega)
 ·intro q e;rw[hc1 _ (h.row.lt q e).2];exact h.cr q e
 ·intro k r hr;rw[List.getElem?_set]at hr;split at hr
  ·rename_i e
   subst e;try rw[if_pos hil]at hr
   simp only[Option.some.injEq]at hr;subst hr;refine⟨WI,λq e=>?_⟩;by_cases hq:q<w.heap.size
   ·rw[hc1 _ hq];rcases hf q e with e5|e5
    ·exact hc0 q e5
    ·omega
   ·exact hc2 q (by omega) e
  ·rename_i hne
   obtain⟨a,b⟩:=h.pa k r hr;refine⟨a.kept hk (λq e e5=>by have:=b q e;have:=(hX q e5).2;omega),λq e=>by rw[hc1 _ (a.lt e).2];exact b q e⟩
 ·rw[List.length_set];exact Nat.le_trans h.len hj
 ·intro r hr;rcases List.mem_or_eq_of_mem_set hr with hr|rfl
  ·obtain⟨a,b,c,d,e⟩:=h.cnt r hr;exact⟨by omega,b,by omega,d,by omega⟩
  ·exact hc
 ·exact h.low.trans (hk.below (λq e=>(hX q e).1) h.big)
 ·exact Nat.le_trans h.big hk.size
theorem DI.turn (h:DI lo Wb Wd wv hv j c dv Ps w){i:Nat}{p:Cc}{s2:Da}(hp:Ps[i]?=some p)(hl:Xm lo p s2 w w')(hs0:0<=s2.syncs)(hs1:s2.syncs<=p.st.syncs+1)(ht0:0<=s2.term)(ht1:s2.term<=p.st.term+1)(hn:s2.n=p.st.n):∃c' ib,DI lo Wb Wd wv hv (j+1) c' dv ib w'/\ib.length=Ps.length/\DF c Ps w c' ib w'/\∃p',ib=Ps.set i p'/\p'.st=s2:=by
 obtain⟨p',⟨e1,eD⟩,e2,e3,e4,WI,hk,hf⟩:=hl;obtain⟨oP,hc0⟩:=h.pa i p hp;have hil:=(List.getElem?_eq_some_iff.1 hp).1;obtain⟨a,b,_,d,e⟩:=h.cnt p (List.mem_of_getElem? hp);obtain⟨c',z1,z2,_⟩:=h.put hp e1 e2 WI hk (λq e=>⟨(oP.lt e).1,.inr (hc0 q e)⟩) hf (Nat.le_succ j) (by rw[e3];exact⟨by omega,hs0,by omega,ht0,by omega⟩);refine⟨c',_,z1,List.length_set ..,⟨z2,λk r hr=>?_,hk.mono (λq _ e=>by have:=hc0 q e;omega)⟩,p',rfl,e3⟩;rw[List.getElem?_set];split
 ·rename_i e
  subst e;try rw[if_pos hil]
  rw[hp]at hr;simp only[Option.some.injEq]at hr;subst hr;exact⟨p',rfl,eD,e2,by rw[e3];exact hn⟩
 ·exact⟨r,hr,rfl,rfl,rfl⟩
theorem DI.add (h:DI lo Wb Wd wv hv j c dv Ps w){V:World}{n X D R g cc:Nat}{F:Nat->Prop}(hb:Below w.heap.size w V)(hd:Rf lo X D (Ij n) V F)(hF:∀k,F k->w.heap.size<=k)(hR:ma V R (Af n (slice none 0 0) 0 0 0) 293)(hR2:w.heap.size<=R)(hW:ma w' Wb (Rk (slice none 0 0) (slice none 0 0) (slice none 0 0) wv (slice (some ⟨g,0,none⟩) (Ps.length+1) cc) hv) 89)(hr:w'.ownsRow lo 152 2 (slice (some ⟨g,0,none⟩) (Ps.length+1) cc) (Ps.length+1) (yl ((Ps.map λp=>(p.X,p.R))++[(X,R)])))(hk:za (λq=>q=Wb\/dv.ownBlock=some q) V w')(hg:dv.ownBlock=some g\/V.heap.size<=g):∃c' Yj ib,DI lo Wb Wd wv hv (j+1) c' Yj ib w'/\ib.length=Ps.length+1/\DF c Ps w c' ib w'/\∃p',ib=Ps++[p']/\p'.st=Ij n:=by
 have hV:=h.below hb;have fQ:PA lo ⟨X,D,R,Ij n,[],F,slice none 0 0⟩ V:=⟨hd,hR,World.ownsRow_nil _ _ _ _,Rl.new n,Nat.le_trans h.big hR2⟩
 have hfp:∀q,(Cc.fp ⟨X,D,R,Ij n,[],F,slice none 0 0⟩) q->w.heap.size<=q/\q<V.heap.size:=by
  intro q e;refine⟨?_,(fQ.lt e).2⟩;rcases e with e|rfl|e
  ·exact hF q e
  ·exact hR2
  ·simp[Value.ownBlock]at e
 have hzz:=hb.size;have hwl:=h.wb.lt;have hkc:∀{q v},q<w.heap.size->c q=v->(if q<w.heap.size then c q else if q<V.heap.size then 3+Ps.length else 2)=v:=λ{q v} hq e=>by rw[if_pos hq];exact e
 refine⟨λq=>if q<w.heap.size then c q else if q<V.heap.size then 3+Ps.length else 2,_,Ps++[⟨X,D,R,Ij n,[],F,slice none 0 0⟩],⟨hW,hkc hwl h.cw,?_,?_,?_,?_,?_,?_,?_,h.lW⟩,by rw[List.length_append];rfl,⟨λq e=>if_pos e,λk r hr=>⟨r,by rw[List.getElem?_append_left (List.getElem?_eq_some_iff.1 hr).1];exact hr,rfl,rfl,rfl⟩,((za.of_below hb).trans hk (λq e=>.inl e)).mono (λq _ e=>?_)⟩,_,rfl,rfl⟩
 ·rw[List.length_append,List.map_append];exact hr
 ·intro q e;have e':g=q:=by simpa[Value.ownBlock]using e
  subst e';rcases hg with e5|e5
  ·exact hkc (h.row.lt _ e5).2 (h.cr _ e5)
  ·show(if g<w.heap.size then c g else if g<V.heap.size then 3+Ps.length else 2)=2;rw[if_neg (by omega),if_neg (by omega)]
 ·intro k r hr2;rw[List.getElem?_append]at hr2;split at hr2
  ·obtain⟨a,b⟩:=h.pa k r hr2;obtain⟨a2,_⟩:=hV.pa k r hr2;refine⟨a2.kept hk (λq e e5=>?_),λq e=>hkc (a.lt e).2 (b q e)⟩;have:=b q e;rcases e5 with rfl|e5
   ·have:=h.cw;omega
   ·have:=h.cr q e5;omega
  ·rename_i hkl
   have hk0:k=Ps.length:=by
    have:=(List.getElem?_eq_some_iff.1 hr2).1;simp at this;omega
   subst hk0;rw[Nat.sub_self]at hr2;simp only[Oa,Option.some.injEq]at hr2;subst hr2;refine⟨fQ.kept hk (λq e e5=>?_),λq e=>?_⟩
   ·have:=(hfp q e).1;rcases e5 with rfl|e5
    ·omega
    ·have:=(h.row.lt q e5).2;omega
   ·have:=hfp q e;show(if q<w.heap.size then c q else if q<V.heap.size then 3+Ps.length else 2)=3+Ps.length;rw[if_neg (by omega),if_pos (by omega)]
 ·rw[List.length_append];exact Nat.succ_le_succ h.len
 ·intro r hr2;rcases List.mem_append.1 hr2 with hr2|hr2
  ·obtain⟨a,b,c,d,e⟩:=h.cnt r hr2;exact⟨by omega,b,by omega,d,by omega⟩
  ·rw[List.mem_singleton.1 hr2];exact⟨Nat.zero_le _,by show(0:Int)<=0;omega,by show(0:Int)<=_;omega,by show(0:Int)<=0;omega,by show(0:Int)<=_;omega⟩
 ·refine h.low.trans ((hb.mono h.big).trans (hk.below (λq e=>?_) (Nat.le_trans h.big hb.size)));rcases e with rfl|e
  ·exact h.lW
  ·exact(h.row.lt q e).1
 ·exact Nat.le_trans h.big (Nat.le_trans hb.size hk.size)
 ·rcases e with rfl|e
  ·have:=h.cw;omega
  ·have:=h.cr q e;omega
theorem D6 {d:Fe}(ok:ym Wd d)(hlo:lo=Wd.heap.size)(hb:Below lo Wd w):Wm lo w d.k1 d.k2 d.k3 d.K:=by
 rcases ok.k with h|⟨a,h1,h2,h3⟩
 ·exact .inl h
 ·refine .inr ⟨a,h1,h2,h3.imp id ?_⟩
  rintro⟨bk,o,e1,e2,e3,e4⟩
  exact⟨bk,o,e1,e2,by omega,λj y hy=>(hb.cell (p:=⟨bk,o+j,none⟩) (by show bk<lo;omega)).trans (e4 j y hy)⟩
def Ui (d:Fe)(st:Da):Da:=if d.kd=31 then Sb st d.a else if d.kd=32 then Jb st d.a d.s else if d.kd=33 then Cb st else if d.kd=34 then(if d.a<0 then st else{st with trouble:=d.a})else if d.kd=35 then yn st d.K else st
theorem TY (h:DI lo Wb Wd wv hv j c dv Ps w)(hj:j<=2199023255551)(hlo:lo=Wd.heap.size){i:Nat}{p:Cc}(hp:Ps[i]?=some p)(d:Fe)(ok:ym Wd d)(h1:30<d.kd)(h2:d.kd<37):Calls prog 78 #[.agg #[pointer (some ⟨p.X,0,none⟩),pointer (some ⟨p.R,0,none⟩)],Be d] w λe w'=>e=.returned (.bool true)/\za p.fp w w'/\∃c' ib,DI lo Wb Wd wv hv (j+1) c' dv ib w'/\ib.length=Ps.length/\DF c Ps w c' ib w'/\∃p',ib=Ps.set i p'/\p'.st=Ui d p.st:=by
 obtain⟨hP,_⟩:=h.pa i p hp;obtain⟨q1,q2,q3,q4,q5⟩:=h.cnt p (List.mem_of_getElem? hp)
 have fin:∀{s2:Da} {w':World},Xm lo p s2 w w'->0<=s2.syncs->s2.syncs<=p.st.syncs+1->0<=s2.term->s2.term<=p.st.term+1->s2.n=p.st.n->s2=Ui d p.st->za p.fp w w'/\∃c' ib,DI lo Wb Wd wv hv (j+1) c' dv ib w'/\ib.length=Ps.length/\DF c Ps w c' ib w'/\∃p',ib=Ps.set i p'/\p'.st=Ui d p.st:=λ{s2 w'} hl a b c d e f=>by
  subst f;have hk:=hl;obtain⟨_,_,_,_,_,_,hk,_⟩:=hk;exact⟨hk,h.turn hp hl a b c d e⟩
 have hcase:d.kd=31\/d.kd=32\/d.kd=33\/d.kd=34\/d.kd=35\/d.kd=36:=by omega
 rcases hcase with e|e|e|e|e|e
 ·have ft:Sb p.st d.a=Ui d p.st:=by simp[Ui,e]
  refine(Lf0 hP d e (by omega)).mono ?_
  rintro e w' ⟨rfl,hl⟩
  refine⟨rfl,fin hl ?_ ?_ ?_ ?_ ?_ ft⟩<;>(unfold Sb;split<;>(try dsimp only)<;>(first|rfl|omega))
 ·have ft:Jb p.st d.a d.s=Ui d p.st:=by simp[Ui,e]
  refine(Of0 hP d e ok.s (by omega) h.big).mono ?_
  rintro e w' ⟨rfl,hl⟩
  refine⟨rfl,fin hl ?_ ?_ ?_ ?_ ?_ ft⟩<;>(unfold Jb;split<;>(try split)<;>(try split)<;>(try dsimp only)<;>(first|rfl|omega))
 ·have ft:Cb p.st=Ui d p.st:=by simp[Ui,e]
  refine(Mf0 hP d e (by omega) q2 (by omega)).mono ?_
  rintro e w' ⟨rfl,hl⟩
  refine⟨rfl,fin hl ?_ ?_ ?_ ?_ ?_ ft⟩<;>(unfold Cb;split<;>(try dsimp only)<;>(first|rfl|omega))
 ·have ft:(if d.a<0 then p.st else{p.st with trouble:=d.a})=Ui d p.st:=by simp[Ui,e]
  refine(Nf0 hP d e ok.a).mono ?_
  rintro e w' ⟨rfl,hl⟩
  refine⟨rfl,fin hl ?_ ?_ ?_ ?_ ?_ ft⟩<;>(split<;>(try dsimp only)<;>(first|rfl|omega))
 ·have ft:yn p.st d.K=Ui d p.st:=by simp[Ui,e]
  refine(If0 hP d e (by omega) h.big (D6 ok hlo h.low) ok.kn q4 (by omega)).mono ?_
  rintro e w' ⟨rfl,hl⟩
  refine⟨rfl,fin hl ?_ ?_ ?_ ?_ ?_ ft⟩<;>(unfold yn;first|rfl|omega|(dsimp only;omega))
 ·have ft:p.st=Ui d p.st:=by simp[Ui,e]
  refine(Hf0 hP d e (by omega)).mono ?_
  rintro e w' ⟨rfl,hl⟩
  exact⟨rfl,fin hl (by omega) (by omega) (by omega) (by omega) rfl ft⟩
def jE (d:Fe)(Ps ib:List Cc):Prop:=(d.kd=30/\((∃p',ib=Ps++[p']/\p'.st=Ij d.a.toNat)\/ib=Ps))\/(d.kd≠30/\((Ps=[]/\ib=Ps)\/∃i p p',Ps[i]?=some p/\ib=Ps.set i p'/\p'.st=Ui d p.st))
theorem SY (h:DI lo Wb Wd wv hv j c dv Ps w)(hj:j<=2199023255551)(hlo:lo=Wd.heap.size)(d:Fe)(ok:ym Wd d)(h1:30<=d.kd)(h2:d.kd<37):Calls prog 34 #[pointer (some ⟨Wb,0,none⟩),Be d] w λe w'=>e=.returned (.bool true)/\∃c' Yj ib,DI lo Wb Wd wv hv (j+1) c' Yj ib w'/\ib.length=Ps.length+(if d.kd=30/\1<=d.a/\d.a<=8 then 1 else 0)/\DF c Ps w c' ib w'/\jE d Ps ib:=by
 have hlen:=h.len;by_cases hk:d.kd=30
 ·unfold Be Fh;rw[hk];refine Z7 Wb d.on d.a d.b d.s d.t d.u d.l1 d.l2 d.l3 d.k1 d.k2 d.k3 d.c0 d.c1 d.c2 d.c3 d.c4 d.d0 d.d1 d.d2 d.p0 d.p1 d.p2 d.p3 _ _ _ wv dv hv _ w h.wb (λV hb=>?_);have hV:=h.below hb;by_cases hn:1<=d.a/\d.a<=8
  ·obtain⟨n,hn2⟩:=Int.eq_ofNat_of_zero_le (show 0<=d.a by omega);obtain⟨da,dc,hdv⟩:=qi hV.row;have hwb:=hV.wb;have hrow:=hV.row;rw[hdv]at hwb hrow;rw[hn2];refine(OY lo Wb n _ _ _ wv hv da Ps.length dc _ V (by omega) (by omega) hwb hrow (by omega) hV.big).mono ?_
   rintro e w' ⟨rfl,X,D,R,F,g,cc,V2,y1,y2,y3,y4,y5,_,y7,y8,y9,Mv⟩
   rw[<-hdv]at y9 Mv;obtain⟨c',Yj,ib,z1,z2,z3,z4⟩:=hV.add y1 y2 y3 y4 y5 y7 y8 y9 Mv;exact⟨rfl,c',Yj,ib,z1,by rw[z2,if_pos ⟨rfl,by omega,by omega⟩],z3.of hb,.inl ⟨hk,.inl (by rw[hn2,Int.toNat_natCast];exact z4)⟩⟩
  ·refine(NY Wb d.a V (by omega)).mono ?_
   rintro e w' ⟨rfl,rfl⟩
   exact⟨rfl,c,dv,Ps,hV.next,by rw[if_neg (λe=>hn e.2)];rfl,DF.below hb,.inl ⟨hk,.inr rfl⟩⟩
 ·rw[if_neg (λe=>hk e.1)];by_cases hp:0<Ps.length
  ·obtain⟨g,dc,hdv,_,_⟩:=h.row.form hp;have hwb:=h.wb;have hrow:=h.row;rw[hdv]at hwb hrow;have hpz:=QF d.on Ps.length (by omega);obtain⟨i,hi⟩:=Int.eq_ofNat_of_zero_le hpz.1;obtain⟨p,Zd⟩:∃p,Ps[i]?=some p:=⟨_,List.getElem?_eq_getElem (by omega)⟩;obtain⟨hP,hcp⟩:=h.pa i p Zd
   have hcap:Ps.length<=dc:=by
    rcases hrow.2 with⟨e,_⟩|⟨g',cap',cur,e,_,_,h5,_⟩
    ·simp at e
    ·simp only[Value.slice.injEq]at e;omega
   unfold Be Fh;refine(LQ lo Wb d.kd d.on d.a d.b d.s d.t d.u d.l1 d.l2 d.l3 d.k1 d.k2 d.k3 d.c0 d.c1 d.c2 d.c3 d.c4 d.d0 d.d1 d.d2 d.p0 d.p1 d.p2 d.p3 _ _ _ wv hv g Ps.length dc i p.X p.R _ p.fp (λw'=>∃c' ib,DI lo Wb Wd wv hv (j+1) c' dv ib w'/\ib.length=Ps.length/\DF c Ps w c' ib w'/\jE d Ps ib) w (λq e=>?_) hwb hrow (by omega) (by omega) (by omega) ok.on.1 ok.on.2 hi (by omega) (by rw[List.getElem?_map,Zd];rfl) hcap (λV hb=>(TY (h.below hb) hj hlo Zd d ok (by omega) h2).mono λe w' ⟨a,b,c',ib,z1,z2,z3,p',z4,z5⟩=>⟨a,b,c',ib,z1,z2,z3.of hb,.inr ⟨hk,.inr ⟨i,p,p',Zd,z4,z5⟩⟩⟩)).mono ?_
   ·refine⟨(hP.lt e).2,λe2=>?_,λe2=>?_⟩
    ·have:=hcp q e;rw[e2,h.cw]at this;omega
    ·have:=hcp q e;rw[e2,h.cr g (by rw[hdv];rfl)]at this;omega
   ·rintro e w' ⟨rfl,c',ib,z1,z2,z3,z4⟩
    exact⟨rfl,c',dv,ib,z1,z2,z3,z4⟩
  ·have h0:Ps.length=0:=by omega
   obtain⟨da,dc,hdv⟩:=qi h.row;have hwb:=h.wb;rw[hdv,h0]at hwb;unfold Be Fh;refine(KQ Wb d.kd d.on d.a d.b d.s d.t d.u d.l1 d.l2 d.l3 d.k1 d.k2 d.k3 d.c0 d.c1 d.c2 d.c3 d.c4 d.d0 d.d1 d.d2 d.p0 d.p1 d.p2 d.p3 _ _ _ wv hv da dc w hwb (by omega) (by omega)).mono ?_
   rintro e w' ⟨rfl,hb⟩
   exact⟨rfl,c,dv,Ps,(h.below hb).next,rfl,DF.below hb,.inr ⟨hk,.inl ⟨List.eq_nil_of_length_eq_zero h0,rfl⟩⟩⟩
end
theorem F6 (w:World)(R:Nat)(a b c d e:Value):za (λi=>i=R) w (((((w.setCell ⟨R,0,none⟩ a).setCell ⟨R,1,none⟩ b).setCell ⟨R,2,none⟩ c).setCell ⟨R,3,none⟩ d).setCell ⟨R,4,none⟩ e):=((((Jc w ⟨R,0,none⟩ a).trans (Jc _ ⟨R,1,none⟩ b) (λ_ h=>.inl h)).trans (Jc _ ⟨R,2,none⟩ c) (λ_ h=>.inl h)).trans (Jc _ ⟨R,3,none⟩ d) (λ_ h=>.inl h)).trans (Jc _ ⟨R,4,none⟩ e) (λ_ h=>.inl h)
theorem NT (lo S D:Nat)(en:Int)(ov:Bool)(k b x l:Int)(T:Nat)(sec rnd pub:ByteArray)(bat:Int)(key id:ByteArray)(nx bd q:Int)(ra:Option Addr)(rc:Nat)(Ks:List Ig)(Za:Int->Int->Nat->Nat->ByteArray)(ly n:Int)(w:World)(hS:ma w S (Oc D en ov k b x (T:Int) l sec rnd pub bat key id nx bd q (slice ra Ks.length rc)) 302)(hT:Nf lo w (slice ra Ks.length rc) Ks T Za)(hl:Ks.length<=1000000)(hlo:lo<=w.heap.size)
  (hG:∀V:World,Calls prog 214 #[.agg #[int i64 k,int i64 b,int i64 x,int i64 (T:Int),int i64 l],.agg #[string sec,string rnd,string pub],.agg #[int i64 ly,int i64 n,int i64 0,int i64 0]] V λe w'=>∃ra rc vs,e=.returned (.agg #[int i64 ly,int i64 n,int i64 0,int i64 0,slice ra (T+1) rc])/\Zc V.heap.size w' (slice ra (T+1) rc) vs (T+1) T (Za ly n)/\Below V.heap.size V w'):Calls prog 277 #[pointer (some ⟨S,0,none⟩),int i64 ly,int i64 n] w λe w'=>∃K Bt Rt rc',e=.returned (.agg #[int i64 K.l,int i64 K.n,int i64 0,int i64 0,K.v T])/\K.l=ly/\K.n=n/\K∈Bt/\Bt.length<=Ks.length+1/\ma w' S (Oc D en ov k b x (T:Int) l sec rnd pub bat key id nx bd q (slice Rt Bt.length rc')) 302/\Nf lo w' (slice Rt Bt.length rc') Bt T Za/\za (λi=>i=S\/(slice ra Ks.length rc).ownBlock=some i) w w'/\∀i,og T (slice Rt Bt.length rc') Bt i->og T (slice ra Ks.length rc) Ks i\/w.heap.size<=i:=by
 obtain⟨m,hm⟩:=Ca (Ks.length);obtain⟨W0,e1⟩:∃X,w.alloc (.cells #[int i64 0,int i64 0,int i64 0,int i64 0,slice none 0 0] 285)=X:=⟨_,rfl⟩;obtain⟨R,e2⟩:∃X,w.heap.size=X:=⟨_,rfl⟩;have HB0:=Xd e1;have Tc:=aa (show ma W0 R [int i64 0,int i64 0,int i64 0,int i64 0,slice none 0 0] 285 by rw[<-e1,<-e2];exact ma.new w _ _);have Mf:=aa (hS.on HB0.out);have HT0:=aa (hT.on HB0.out);have Hl:=aa (λi (h:og T (slice ra Ks.length rc) Ks i)=>(hT.lt h).2);have Vd:=aa hS.lt;have HM:=aa hm;have mM:=aa (show m<=1000000 by omega);have qj:=aa (λ(V:World) (hb:Below w.heap.size w V)=>hS.on hb);have Mi:=aa (λ(V:World) (hb:Below w.heap.size w V)=>hT.on hb);have yh:=aa hlo;have HG:=aa hG;have qm:=aa e2;have M0:(m:Int)<=1000000:=by omega
 have c17:W0.cell? ⟨S,17,none⟩=some (slice ra m rc):=by rw[<-hm];exact Mf.out.cell 17
 have Ea:=aa e1;clear hS hT hl hlo hG hm e1 e2;go_enter func277,ntmps277;go_wp2_with fail;rw[Ea.out,qm.out];clear Ea;go_loopw [7] (λi wr=>∃j:Nat,j<=m/\i=int i64 (j:Int)/\wr=W0) (λi _=>m-(intOf i).toNat)
 case atStart=>exact⟨0,Nat.zero_le _,rfl,rfl⟩
 case round=>
  obtain⟨j,hj,rfl,rfl⟩:=hrel;by_cases hlt:j<m
  ·have hji:(j:Int)<(m:Int):=by omega
   have hw:IntKind.i64.wrap ((j:Int)+1)=(j:Int)+1:=by rw[IntKind.wrap_i64]<;>omega
   obtain⟨K,hK⟩:∃K,Ks[j]?=some K:=⟨_,List.getElem?_eq_getElem (by rw[HM.out];omega)⟩;obtain⟨g,cap,hgv,_,_⟩:=HT0.out.row.form (by rw[HM.out];omega);simp only[Value.slice.injEq]at hgv;obtain⟨rfl,_,rfl⟩:=hgv;have HY:=aa (λi (hi:i<5)=>(HT0.out.row.cellAt (j*5+i) (by rw[HM.out];omega)).trans (L6 hK i hi));have y0:wr.cell? ⟨g,j*5,none⟩=some (int i64 K.l):=HY.out 0 (by decide);have y1:wr.cell? ⟨g,j*5+1,none⟩=some (int i64 K.n):=HY.out 1 (by decide);have y2:wr.cell? ⟨g,j*5+2,none⟩=some (int i64 0):=HY.out 2 (by decide);have y3:wr.cell? ⟨g,j*5+3,none⟩=some (int i64 0):=HY.out 3 (by decide);have y4:wr.cell? ⟨g,j*5+4,none⟩=some (slice K.ra (T+1) K.rc):=HY.out 4 (by decide);have HK:=aa hK;clear hK;by_cases ha:K.l=ly
   ·have a1:(K.l==ly)=true:=by simp[ha]
    by_cases hb:K.n=n
    ·have b1:(K.n==n)=true:=by simp[hb]
     have yL:=aa (And.intro ha hb);clear ha hb;have r0:=Fa Tc.out;have r1:=Ja Tc.out;have r2:=Ha Tc.out;have r3:=Xa Tc.out;have r4:=Ya Tc.out;have f0:=Tc.out.free 0;have f1:=Tc.out.free 1;have f2:=Tc.out.free 2;have f3:=Tc.out.free 3;have f4:=Tc.out.free 4;have Sm:=aa (show w.heap.size<=R by rw[qm.out];exact Aa);have sw:=aa (show S≠R by have:=Vd.out;rw[qm.out]at this;omega);go_wp2_with fail;refine bodyPost_ret (v:=.agg #[int i64 K.l,int i64 K.n,int i64 0,int i64 0,slice K.ra (T+1) K.rc]) (by simp[results,results277,go_sem,r0,r1,r2,r3,r4]) rfl ?_;have Qi:=(((((Below.refl w.heap.size wr).setCell (p:=⟨R,0,none⟩) Sm.out (int i64 K.l)).setCell (p:=⟨R,1,none⟩) Sm.out (int i64 K.n)).setCell (p:=⟨R,2,none⟩) Sm.out (int i64 0)).setCell (p:=⟨R,3,none⟩) Sm.out (int i64 0)).setCell (p:=⟨R,4,none⟩) Sm.out (slice K.ra (T+1) K.rc);have PI:=HB0.out.trans Qi;exact⟨K,Ks,_,_,rfl,yL.out.1,yL.out.2,List.mem_of_getElem? HK.out,Nat.le_succ _,qj.out _ PI,Mi.out _ PI,za.of_below PI,λi h=>.inl h⟩
    ·have b1:(K.n==n)=false:=by simpa using hb
     clear ha hb;go_wp2;go_roundw
     case rel=>exact⟨j+1,by omega,by go_num,by trivial⟩
     case measure=>first|(simp[intOf];done)|(simp[intOf];omega)
   ·have a1:(K.l==ly)=false:=by simpa using ha
    clear ha;go_wp2;go_roundw
    case rel=>exact⟨j+1,by omega,by go_num,by trivial⟩
    case measure=>first|(simp[intOf];done)|(simp[intOf];omega)
  ·obtain rfl:j=m:=by omega
   clear hlt hj c17 M0;have ow:=aa (λ(V:World) (hb:Below wr.heap.size wr V)=>(have h:=Mf.out.on hb;Ul (Xa h) (Ya h) (Ee h) (jf h) (Ch h) (bn h) (dn h) (qo h)));have PG:=aa (show wr.cell? ⟨S,17,none⟩=some (slice ra j rc) by rw[<-HM.out];exact Mf.out.cell 17);have c17:=PG.out;go_upto_region 6 with fail;clear c17;go_cut [8]from 49 to 60 (λx8 wx=>∃G Vf Xf vs2,x8=pointer (some ⟨G,0,none⟩)/\Hid (ma wx G [int i64 ly,int i64 n,int i64 0,int i64 0,slice Vf (T+1) Xf] 285/\Zc wr.heap.size wx (slice Vf (T+1) Xf) vs2 (T+1) T (Za ly n)/\Below wr.heap.size wr wx/\wr.heap.size<=G))
   case first=>
    refine wp_region_held_drew (S:=λV=>V.cell? ⟨S,3,none⟩=some (int i64 k)/\V.cell? ⟨S,4,none⟩=some (int i64 b)/\V.cell? ⟨S,5,none⟩=some (int i64 x)/\V.cell? ⟨S,6,none⟩=some (int i64 (T:Int))/\V.cell? ⟨S,7,none⟩=some (int i64 l)/\V.cell? ⟨S,8,none⟩=some (string sec)/\V.cell? ⟨S,9,none⟩=some (string rnd)/\V.cell? ⟨S,10,none⟩=some (string pub)) (by kernel_rfl) (ow.out _ (Below.refl wr.heap.size wr).drew) (λja=>?_);have HD0:=aa ((Below.refl wr.heap.size wr).drew);generalize World.drew wr=V2 at HD0 ja⊢;refine tk 0 ja ?_;refine tk 1 ja ?_;refine tk 2 ja ?_;refine tk 3 ja ?_;refine tk 4 ja ?_;refine tk 5 ja ?_;refine tk 6 ja ?_;refine tk 7 ja ?_;refine tk 8 ja ?_;refine tk 9 ja ?_;refine tk 10 ja ?_;refine wpAnyH_ready (rs:=[11,12]) (by kernel_rfl) (by simp) ?_;refine(AllReadyH.cons (o:=?o1) ?h1 (λK hK=>?s1) (AllReadyH.cons (o:=?o2) ?h2 (λK hK=>?s2) AllReadyH.nil))
    case h1=>(simp only[jb,Na,Oa];rfl)
    case h2=>(simp only[jb,Na,Oa];rfl)
    case s1=>
     go_simp;go_at_call 214;refine(HG.out V2).mono ?_
     rintro e w3 ⟨Vf,Xf,vs2,rfl,hg3,hb3⟩
     have HB3:=aa (HD0.out.trans (hb3.mono HD0.out.size));have HY3:=aa hb3;have HI3:=aa (hg3.low' (lo':=wr.heap.size) HD0.out.size);have dM:=aa hg3;clear hb3 hg3;try go_wp2_with fail
     refine hK.out _ _ (ow.out _ HB3.out) (λja=>?_);clear hK K;try simp only[Act.put,Bb,Ka,Ma]
     refine wpAnyH_ready (rs:=[12]) (by kernel_rfl) (by simp) ?_;refine(AllReadyH.cons (o:=?o4) ?h4 (λK hK=>?s4) AllReadyH.nil)
     case h4=>(simp only[jb,Na,Oa];rfl)
     case s4=>
      go_simp;obtain⟨G,hG⟩:∃X,w3.heap.size=X:=⟨_,rfl⟩;obtain⟨U5,hU⟩:∃Wk,w3.alloc (.cells #[int i64 0,int i64 0,int i64 0,int i64 0,slice none 0 0] 285)=Wk:=⟨_,rfl⟩;have je:=aa (show Below wr.heap.size wr U5 by rw[<-hU];exact HB3.out.alloc HB3.out.size _);have mW:=Xd hU;have Ck:=aa (show ma U5 G [int i64 0,int i64 0,int i64 0,int i64 0,slice none 0 0] 285 by rw[<-hU,<-hG];exact ma.new w3 _ _);have Zi:=aa (show wr.heap.size<=G by have:=HB3.out.size;omega);have Zl:=aa hG;rw[hU,hG];clear hU hG;refine hK.out _ _ (ow.out _ je.out) (λja=>?_);clear hK K;try simp only[Act.put,Bb,Ka,Ma]
      have Vz:=aa (show(∀i,(slice Vf (T+1) Xf).ownBlock=some i->i=G->False)/\∀v∈vs2,∀i,v.ownBlock=some i->i=G->False from⟨λi hi e=>by have:=(dM.out.lt.1 i hi).2;have:=Zl.out;omega,λv hv i hi e=>by have:=(dM.out.lt.2 v hv i hi).2;have:=Zl.out;omega⟩);have jV:=aa (HI3.out.on mW.out);refine wpAnyH_ready (rs:=[13]) (by kernel_rfl) (by simp) ?_;refine(AllReadyH.cons (o:=?o6) ?h6 (λK hK=>?s6) AllReadyH.nil)
      case h6=>(simp only[jb,Na,Oa];rfl)
      case s6=>
       have q0:=Fa Ck.out;have f0:=Ck.out.free 0;have q1:=Ja Ck.out;have f1:=Ck.out.free 1;have q2:=Ha Ck.out;have f2:=Ck.out.free 2;have q3:=Xa Ck.out;have f3:=Ck.out.free 3;have q4:=Ya Ck.out;have f4:=Ck.out.free 4;go_simp;clear q0 q1 q2 q3 q4 f0 f1 f2 f3 f4;have Qi:=((((je.out.setCell (p:=⟨G,0,none⟩) Zi.out (int i64 ly)).setCell (p:=⟨G,1,none⟩) Zi.out (int i64 n)).setCell (p:=⟨G,2,none⟩) Zi.out (int i64 0)).setCell (p:=⟨G,3,none⟩) Zi.out (int i64 0)).setCell (p:=⟨G,4,none⟩) Zi.out (slice Vf (T+1) Xf);have Qe:=aa Qi;clear Qi
       have ZG:=aa (show Zc wr.heap.size (((((U5.setCell ⟨G,0,none⟩ (int i64 ly)).setCell ⟨G,1,none⟩ (int i64 n)).setCell ⟨G,2,none⟩ (int i64 0)).setCell ⟨G,3,none⟩ (int i64 0)).setCell ⟨G,4,none⟩ (slice Vf (T+1) Xf)) (slice Vf (T+1) Xf) vs2 (T+1) T (Za ly n) by
        iterate 5 refine Zc.kept ?_ (Jc _ _ _) (λi hi e=>by simp only at e;subst e;exact Vz.out.1 _ hi rfl) (λv hv i hi e=>by simp only at e;subst e;exact Vz.out.2 v hv _ hi rfl)
        exact jV.out)
       refine hK.out _ _ (ow.out _ Qe.out) (λja=>?_);clear hK K;try simp only[Act.put,Bb,Ka,Ma]
       refine wpAnyH_done (by kernel_rfl) ?_ _;clear ja;go_wp2_with fail;go_meet;exact⟨G,Vf,Xf,vs2,rfl,((((Ck.out.set 0 _).set 1 _).set 2 _).set 3 _).set 4 _,ZG.out,Qe.out,Zi.out⟩
    case s2=>
     go_simp;obtain⟨G,hG⟩:∃X,V2.heap.size=X:=⟨_,rfl⟩;obtain⟨U7,hU⟩:∃Wk,V2.alloc (.cells #[int i64 0,int i64 0,int i64 0,int i64 0,slice none 0 0] 285)=Wk:=⟨_,rfl⟩;have Pe:=aa (show Below wr.heap.size wr U7 by rw[<-hU];exact HD0.out.alloc HD0.out.size _);have HY7:=Xd hU;have uy:=aa (show ma U7 G [int i64 0,int i64 0,int i64 0,int i64 0,slice none 0 0] 285 by rw[<-hU,<-hG];exact ma.new V2 _ _);have Zi:=aa (show wr.heap.size<=G by have:=HD0.out.size;omega);have Zl:=aa hG;rw[hU,hG];clear hU hG;refine hK.out _ _ (ow.out _ Pe.out) (λja=>?_);clear hK K;try simp only[Act.put,Bb,Ka,Ma]
     refine wpAnyH_ready (rs:=[11]) (by kernel_rfl) (by simp) ?_;refine(AllReadyH.cons (o:=?o8) ?h8 (λK hK=>?s8) AllReadyH.nil)
     case h8=>(simp only[jb,Na,Oa];rfl)
     case s8=>
      go_simp;go_at_call 214;refine(HG.out U7).mono ?_
      rintro e w9 ⟨Vf,Xf,vs2,rfl,sJ,Sl⟩
      have Td:=aa (Pe.out.trans (Sl.mono Pe.out.size));have nW:=aa Sl;have gV:=aa (sJ.low' (lo':=wr.heap.size) Pe.out.size);have fM:=aa sJ;clear Sl sJ;try go_wp2_with fail
      refine hK.out _ _ (ow.out _ Td.out) (λja=>?_);clear hK K;try simp only[Act.put,Bb,Ka,Ma]
      have Vp:=aa (uy.out.on nW.out);have Vz:=aa (show(∀i,(slice Vf (T+1) Xf).ownBlock=some i->i=G->False)/\∀v∈vs2,∀i,v.ownBlock=some i->i=G->False from⟨λi hi e=>by have:=(fM.out.lt.1 i hi).1;have:=uy.out.lt;omega,λv hv i hi e=>by have:=(fM.out.lt.2 v hv i hi).1;have:=uy.out.lt;omega⟩);refine wpAnyH_ready (rs:=[13]) (by kernel_rfl) (by simp) ?_;refine(AllReadyH.cons (o:=?o10) ?h10 (λK hK=>?s10) AllReadyH.nil)
      case h10=>(simp only[jb,Na,Oa];rfl)
      case s10=>
       have q0:=Fa Vp.out;have f0:=Vp.out.free 0;have q1:=Ja Vp.out;have f1:=Vp.out.free 1;have q2:=Ha Vp.out;have f2:=Vp.out.free 2;have q3:=Xa Vp.out;have f3:=Vp.out.free 3;have q4:=Ya Vp.out;have f4:=Vp.out.free 4;go_simp;clear q0 q1 q2 q3 q4 f0 f1 f2 f3 f4;have Qi:=((((Td.out.setCell (p:=⟨G,0,none⟩) Zi.out (int i64 ly)).setCell (p:=⟨G,1,none⟩) Zi.out (int i64 n)).setCell (p:=⟨G,2,none⟩) Zi.out (int i64 0)).setCell (p:=⟨G,3,none⟩) Zi.out (int i64 0)).setCell (p:=⟨G,4,none⟩) Zi.out (slice Vf (T+1) Xf);have Qe:=aa Qi;clear Qi
       have ZG:=aa (show Zc wr.heap.size (((((w9.setCell ⟨G,0,none⟩ (int i64 ly)).setCell ⟨G,1,none⟩ (int i64 n)).setCell ⟨G,2,none⟩ (int i64 0)).setCell ⟨G,3,none⟩ (int i64 0)).setCell ⟨G,4,none⟩ (slice Vf (T+1) Xf)) (slice Vf (T+1) Xf) vs2 (T+1) T (Za ly n) by
        iterate 5 refine Zc.kept ?_ (Jc _ _ _) (λi hi e=>by simp only at e;subst e;exact Vz.out.1 _ hi rfl) (λv hv i hi e=>by simp only at e;subst e;exact Vz.out.2 v hv _ hi rfl)
        exact gV.out)
       refine hK.out _ _ (ow.out _ Qe.out) (λja=>?_);clear hK K;try simp only[Act.put,Bb,Ka,Ma]
       refine wpAnyH_done (by kernel_rfl) ?_ _;clear ja;go_wp2_with fail;go_meet;exact⟨G,Vf,Xf,vs2,rfl,((((Vp.out.set 0 _).set 1 _).set 2 _).set 3 _).set 4 _,ZG.out,Qe.out,Zi.out⟩
   case rest=>
    obtain⟨G,Vf,Xf,vs2,rfl,HC⟩:=hcut;generalize wc=V6 at HC⊢;have rf:=aa (Mf.out.on HC.out.2.2.1);have PM:=aa (HT0.out.on HC.out.2.2.1);have Rm:=aa (Tc.out.on HC.out.2.2.1);have Sq:=aa (show G≠S by have h1:=HC.out.2.2.2;have h2:=Mf.out.lt;omega);have qM:=aa (show G≠R by have h1:=HC.out.2.2.2;have h2:=Tc.out.lt;omega);have Ai:=aa (show R≠S by have h1:=Vd.out;have h2:=qm.out;omega);have Lf:=aa (λi (h:(slice ra Ks.length rc).ownBlock=some i)=>(show i<R by have h1:=Hl.out i (.inl h);have h2:=qm.out;omega));have HRW:=aa (show R<wr.heap.size from Tc.out.lt);go_wp2_with fail;go_cut []from 61 to 70 (λwx=>Hid (∃Rt rc',ma wx S (Oc D en ov k b x (T:Int) l sec rnd pub bat key id nx bd q (slice Rt (j+1) rc')) 302/\World.ownsRow wx lo 285 5 (slice Rt (j+1) rc') (j+1) (Ot T Ks++[int i64 ly,int i64 n,int i64 0,int i64 0,slice Vf (T+1) Xf])/\za (λi=>i=S\/(slice ra Ks.length rc).ownBlock=some i) V6 wx/\∀i,(slice Rt (j+1) rc').ownBlock=some i->(slice ra Ks.length rc).ownBlock=some i\/V6.heap.size<=i))
    case first=>
     have zi:=aa (show V6.ownsRow lo 285 5 (slice ra j rc) j (Ot T Ks) by have h:=PM.out.row;rw[HM.out]at h;exact h);have UD:=aa (show ma V6 S (Oc D en ov k b x (T:Int) l sec rnd pub bat key id nx bd q (slice ra j rc)) 302 by have h:=rf.out;rw[HM.out]at h;exact h);have Xz:=aa (show(slice ra Ks.length rc)=(slice ra j rc) by rw[HM.out]);have N1:Hid (j+1<=maxLen):=by show _<=_;have:=mM.out;unfold maxLen;omega
     have N2:Hid ((j+1)*56<=140737488355328):=by show _<=_;have:=mM.out;omega
     have lM:=aa (show lo<=V6.heap.size from Nat.le_trans yh.out (Nat.le_trans HB0.out.size HC.out.2.2.1.size));have Yv:=aa (λi (h:(slice ra j rc).ownBlock=some i)=>(show i≠S/\i<R from⟨λe=>by subst e;obtain⟨-,-,us,hB⟩:=dh zi.out h;exact xe hB UD.out (by decide),Lf.out i (by rw[Xz.out];exact h)⟩));have Um:=aa (λ(V:World) (h:ma V G [int i64 ly,int i64 n,int i64 0,int i64 0,slice Vf (T+1) Xf] 285)=>(jv (Fa h) (Ja h) (Ha h) (Xa h) (Ya h)));have zD:=aa (λ(V:World) (hk:za (λi=>(slice ra j rc).ownBlock=some i) V6 V)=>Cu HC.out.1 hk (λe=>by have h1:=(Yv.out _ e).2;have h2:=HC.out.2.2.2;have h3:=HRW.out;omega));have nu:=aa (λ(V:World) (hk:za (λi=>(slice ra j rc).ownBlock=some i) V6 V)=>Cu UD.out hk (λe=>(Yv.out _ e).1 rfl));obtain⟨i1,hi1,hy0,hy1,hy2⟩:=info_parts U4;refine wp_region_held_drew (S:=λV=>V.cell? ⟨G,0,none⟩=some (int i64 ly)/\V.cell? ⟨G,1,none⟩=some (int i64 n)/\V.cell? ⟨G,2,none⟩=some (int i64 0)/\V.cell? ⟨G,3,none⟩=some (int i64 0)/\V.cell? ⟨G,4,none⟩=some (slice Vf (T+1) Xf)) (by kernel_rfl) (Um.out _ (HC.out.1.on (Below.refl V6.heap.size V6).drew)) (λja=>?_);have Ub:=aa ((Below.refl V6.heap.size V6).drew);generalize World.drew V6=V2 at Ub ja⊢;refine tk 0 ja ?_;refine tk 1 ja ?_;refine tk 2 ja ?_;refine tk 3 ja ?_;refine tk 5 ja ?_;refine wpAnyH_ready (rs:=[4,6]) (by kernel_rfl) (by simp) ?_;refine(AllReadyH.cons (o:=?o11) ?h11 (λK hK=>?s11) (AllReadyH.cons (o:=?o12) ?h12 (λK hK=>?s12) AllReadyH.nil))
     case h11=>(simp only[jb,Na,Oa];rfl)
     case h12=>(simp only[jb,Na,Oa];rfl)
     case s11=>
      have c0:=Du ((UD.out.on Ub.out));go_simp;clear c0;refine hK.out _ _ (Um.out _ (HC.out.1.on Ub.out)) (λja=>?_);clear hK K;try simp only[Act.put,Bb,Ka,Ma]
      refine wpAnyH_ready (rs:=[6]) (by kernel_rfl) (by simp) ?_;refine(AllReadyH.cons (o:=?o13) ?h13 (λK hK=>?s13) AllReadyH.nil)
      case h13=>(simp only[jb,Na,Oa];rfl)
      case s13=>
       go_simp;obtain⟨X,hX⟩:=Ca (V2.heap.size);obtain⟨dI,hU⟩:∃Wk,V2.alloc (.cells #[int i64 ly,int i64 n,int i64 0,int i64 0,slice Vf (T+1) Xf] 285)=Wk:=⟨_,rfl⟩;have vD:=aa (show Below V6.heap.size V6 dI by rw[<-hU];exact Ub.out.alloc Ub.out.size _);have HX:=aa (show ma dI X [int i64 ly,int i64 n,int i64 0,int i64 0,slice Vf (T+1) Xf] 285 by rw[<-hU,<-hX];exact ma.new V2 _ _);have Xv:=aa (show V6.heap.size<=X/\dI.heap.size=X+1 by have:=Ub.out.size;rw[<-hU,World.size_alloc];omega);rw[hU,hX];clear hU hX;refine hK.out _ _ (Um.out _ (HC.out.1.on vD.out)) (λja=>?_);clear hK K;try simp only[Act.put,Bb,Ka,Ma]
       refine wpAnyH_ready (rs:=[7]) (by kernel_rfl) (by simp) ?_;refine(AllReadyH.cons (o:=?o15) ?h15 (λK hK=>?s15) AllReadyH.nil)
       case h15=>(simp only[jb,Na,Oa];rfl)
       case s15=>
        refine step_append_lies _ (by rfl) (.tmp 65) (.tmp 67) 300 (by rfl) lo 285 i1 (.agg #[int i64 0,int i64 0,int i64 0,int i64 0,slice none 0 0]) 5 56 underlying300 hi1 hy0 hy1 hy2 (by rfl) (by decide) (slice ra j rc) j (Ot T Ks) (by rfl) (xc zi.out (za.of_below (F:=λ_=>False) vD.out) (λ_ _ e=>e)) ⟨X,0,none⟩ 1 1 [int i64 ly,int i64 n,int i64 0,int i64 0,slice Vf (T+1) Xf] (by rfl) (by rfl) (λi u h=>by rw[Addr.add_mid,Nat.zero_add];exact(HX.out.cell i).trans h) (λu hu=>by simp at hu;rcases hu with rfl|rfl|rfl|rfl<;>rfl) (by decide) N1.out N2.out (Nat.le_trans lM.out vD.out.size) (X+1) Xv.out.2 ?_;intro g2 cap w8 hown hgrow hat hlt;have Lh:=aa (za.grown (F:=λi=>(slice ra j rc).ownBlock=some i) (za.of_below vD.out) hgrow (λi e=>.inl e))
        have HAT:=aa (show∀i,(slice (some ⟨g2,0,none⟩) (j+1) cap).ownBlock=some i->(slice ra j rc).ownBlock=some i\/V6.heap.size<=i by
         intro i e;have e':g2=i:=by simpa[Value.ownBlock]using e
         subst e';rcases hat with e|e
         ·exact .inl e
         ·have:=Xv.out;exact .inr (by omega))
        have HOW:=aa hown;clear hown hgrow hat hlt;refine hK.out _ _ (Um.out _ (zD.out _ Lh.out)) (λja=>?_);clear hK K;try simp only[Act.put,Bb,Ka,Ma]
        refine tk 8 ja ?_;refine tk 9 ja ?_;have c1:=Du ((nu.out _ Lh.out));have f1:=(nu.out _ Lh.out).free 17;refine wpAnyH_ready (rs:=[10]) (by kernel_rfl) (by simp) ?_;refine(AllReadyH.cons (o:=?o16) ?h16 (λK hK=>?s16) AllReadyH.nil)
        case h16=>(simp only[jb,Na,Oa];rfl)
        case s16=>
         go_simp;clear c1 f1;refine hK.out _ _ (Um.out _ ((zD.out _ Lh.out).other _ Sq.out)) (λja=>?_);clear hK K;try simp only[Act.put,Bb,Ka,Ma]
         refine wpAnyH_done (by kernel_rfl) ?_ _;clear ja;go_wp2_with fail;go_meet;refine⟨_,_,(nu.out _ Lh.out).set 17 _,?_,?_,?_⟩
         ·refine xc HOW.out (Jc _ _ _) (λi hi e=>?_);simp only at e;subst e;obtain⟨-,-,us,hB⟩:=dh HOW.out hi;exact xe hB (nu.out _ Lh.out) (by decide)
         ·rw[Xz.out];exact(Lh.out.mono (λi _ h=>.inr h)).trans (Jc _ _ _) (λi h=>.inl (.inl h))
         ·rw[Xz.out];exact HAT.out
     case s12=>
      go_simp;obtain⟨X,hX⟩:=Ca (V2.heap.size);obtain⟨fI,hU⟩:∃Wk,V2.alloc (.cells #[int i64 ly,int i64 n,int i64 0,int i64 0,slice Vf (T+1) Xf] 285)=Wk:=⟨_,rfl⟩;have Yt:=aa (show Below V6.heap.size V6 fI by rw[<-hU];exact Ub.out.alloc Ub.out.size _);have HX:=aa (show ma fI X [int i64 ly,int i64 n,int i64 0,int i64 0,slice Vf (T+1) Xf] 285 by rw[<-hU,<-hX];exact ma.new V2 _ _);have Xv:=aa (show V6.heap.size<=X/\fI.heap.size=X+1 by have:=Ub.out.size;rw[<-hU,World.size_alloc];omega);rw[hU,hX];clear hU hX;refine hK.out _ _ (Um.out _ (HC.out.1.on Yt.out)) (λja=>?_);clear hK K;try simp only[Act.put,Bb,Ka,Ma]
      refine wpAnyH_ready (rs:=[4]) (by kernel_rfl) (by simp) ?_;refine(AllReadyH.cons (o:=?o18) ?h18 (λK hK=>?s18) AllReadyH.nil)
      case h18=>(simp only[jb,Na,Oa];rfl)
      case s18=>
       have c0:=Du ((UD.out.on Yt.out));go_simp;clear c0;refine hK.out _ _ (Um.out _ (HC.out.1.on Yt.out)) (λja=>?_);clear hK K;try simp only[Act.put,Bb,Ka,Ma]
       refine wpAnyH_ready (rs:=[7]) (by kernel_rfl) (by simp) ?_;refine(AllReadyH.cons (o:=?o19) ?h19 (λK hK=>?s19) AllReadyH.nil)
       case h19=>(simp only[jb,Na,Oa];rfl)
       case s19=>
        refine step_append_lies _ (by rfl) (.tmp 65) (.tmp 67) 300 (by rfl) lo 285 i1 (.agg #[int i64 0,int i64 0,int i64 0,int i64 0,slice none 0 0]) 5 56 underlying300 hi1 hy0 hy1 hy2 (by rfl) (by decide) (slice ra j rc) j (Ot T Ks) (by rfl) (xc zi.out (za.of_below (F:=λ_=>False) Yt.out) (λ_ _ e=>e)) ⟨X,0,none⟩ 1 1 [int i64 ly,int i64 n,int i64 0,int i64 0,slice Vf (T+1) Xf] (by rfl) (by rfl) (λi u h=>by rw[Addr.add_mid,Nat.zero_add];exact(HX.out.cell i).trans h) (λu hu=>by simp at hu;rcases hu with rfl|rfl|rfl|rfl<;>rfl) (by decide) N1.out N2.out (Nat.le_trans lM.out Yt.out.size) (X+1) Xv.out.2 ?_;intro g2 cap w8 hown hgrow hat hlt;have Lh:=aa (za.grown (F:=λi=>(slice ra j rc).ownBlock=some i) (za.of_below Yt.out) hgrow (λi e=>.inl e))
        have HAT:=aa (show∀i,(slice (some ⟨g2,0,none⟩) (j+1) cap).ownBlock=some i->(slice ra j rc).ownBlock=some i\/V6.heap.size<=i by
         intro i e;have e':g2=i:=by simpa[Value.ownBlock]using e
         subst e';rcases hat with e|e
         ·exact .inl e
         ·have:=Xv.out;exact .inr (by omega))
        have HOW:=aa hown;clear hown hgrow hat hlt;refine hK.out _ _ (Um.out _ (zD.out _ Lh.out)) (λja=>?_);clear hK K;try simp only[Act.put,Bb,Ka,Ma]
        refine tk 8 ja ?_;refine tk 9 ja ?_;have c1:=Du ((nu.out _ Lh.out));have f1:=(nu.out _ Lh.out).free 17;refine wpAnyH_ready (rs:=[10]) (by kernel_rfl) (by simp) ?_;refine(AllReadyH.cons (o:=?o20) ?h20 (λK hK=>?s20) AllReadyH.nil)
        case h20=>(simp only[jb,Na,Oa];rfl)
        case s20=>
         go_simp;clear c1 f1;refine hK.out _ _ (Um.out _ ((zD.out _ Lh.out).other _ Sq.out)) (λja=>?_);clear hK K;try simp only[Act.put,Bb,Ka,Ma]
         refine wpAnyH_done (by kernel_rfl) ?_ _;clear ja;go_wp2_with fail;go_meet;refine⟨_,_,(nu.out _ Lh.out).set 17 _,?_,?_,?_⟩
         ·refine xc HOW.out (Jc _ _ _) (λi hi e=>?_);simp only at e;subst e;obtain⟨-,-,us,hB⟩:=dh HOW.out hi;exact xe hB (nu.out _ Lh.out) (by decide)
         ·rw[Xz.out];exact(Lh.out.mono (λi _ h=>.inr h)).trans (Jc _ _ _) (λi h=>.inl (.inl h))
         ·rw[Xz.out];exact HAT.out
    case rest=>
     obtain⟨TF,UF,xP,wP,eP,nP⟩:=hcut.out;have HB3:=aa xP;have QV:=aa wP;have Rz:=aa eP;have FV:=aa nP;clear xP wP eP nP hcut;have ui:=aa (Cu HC.out.1 Rz.out (λe=>by rcases e with e|e;exact Sq.out e;have h1:=Lf.out _ e;have h2:=HC.out.2.2.2;have h3:=HRW.out;omega));have HR3:=aa (Cu Rm.out Rz.out (λe=>by rcases e with e|e;exact Ai.out e;have h1:=Lf.out _ e;omega));have g0:=Fa ui.out;have g1:=Ja ui.out;have g2:=Ha ui.out;have g3:=Xa ui.out;have g4:=Ya ui.out;have r0:=Fa HR3.out;have f0:=HR3.out.free 0;have r1:=Ja HR3.out;have f1:=HR3.out.free 1;have r2:=Ha HR3.out;have f2:=HR3.out.free 2;have r3:=Xa HR3.out;have f3:=HR3.out.free 3;have r4:=Ya HR3.out;have f4:=HR3.out.free 4;go_wp2_with fail;refine bodyPost_ret (v:=.agg #[int i64 ly,int i64 n,int i64 0,int i64 0,slice Vf (T+1) Xf]) (by simp[results,results277,go_sem,r0,r1,r2,r3,r4]) rfl ?_;have hk5:=F6 wc R (int i64 ly) (int i64 n) (int i64 0) (int i64 0) (slice Vf (T+1) Xf);have hlen:(Ks++[(⟨ly,n,Vf,Xf,vs2⟩:Ig)]).length=j+1:=by simp[HM.out]
     have hTr:Nf lo wc (slice TF (j+1) UF) (Ks++[(⟨ly,n,Vf,Xf,vs2⟩:Ig)]) T Za:=by
      refine⟨by rw[hlen,M6];exact QV.out,λK hK=>?_⟩;rcases List.mem_append.1 hK with h|h
      ·exact PM.out.grows rf.out Rz.out K h
      ·obtain rfl:=List.mem_singleton.1 h;have hw:wr.heap.size<=R+1->True:=λ_=>trivial;refine(HC.out.2.1.low' (Nat.le_trans yh.out HB0.out.size)).kept Rz.out (λi hi e=>?_) (λv hv i hi e=>?_)
       ·have h1:=(HC.out.2.1.lt.1 i hi).1;rcases e with e|e
        ·have h2:=Mf.out.lt;omega
        ·have h2:=Lf.out _ e;have h3:=HRW.out;omega
       ·have h1:=(HC.out.2.1.lt.2 v hv i hi).1;rcases e with e|e
        ·have h2:=Mf.out.lt;omega
        ·have h2:=Lf.out _ e;have h3:=HRW.out;omega
     have XO:∀i,og T (slice TF (j+1) UF) (Ks++[(⟨ly,n,Vf,Xf,vs2⟩:Ig)]) i->og T (slice ra Ks.length rc) Ks i\/wr.heap.size<=i:=by
      rintro i (e|⟨K,hK,e⟩)
      ·rcases FV.out i e with h|h
       ·exact .inl (.inl h)
       ·have h1:=HC.out.2.2.1.size;exact .inr (by omega)
      ·rcases List.mem_append.1 hK with h|h
       ·exact .inl (.inr ⟨K,h,e⟩)
       ·obtain rfl:=List.mem_singleton.1 h;rcases e with e|⟨v,hv,e⟩
        ·exact .inr (HC.out.2.1.lt.1 i e).1
        ·exact .inr (HC.out.2.1.lt.2 v hv i e).1
     have xZ:∀i,og T (slice TF (j+1) UF) (Ks++[(⟨ly,n,Vf,Xf,vs2⟩:Ig)]) i->¬i=R:=by
      intro i h e;rcases XO i h with h1|h1
      ·have h2:=Hl.out i h1;have h3:=qm.out;omega
      ·have h3:=HRW.out;omega
     refine⟨⟨ly,n,Vf,Xf,vs2⟩,Ks++[(⟨ly,n,Vf,Xf,vs2⟩:Ig)],TF,UF,rfl,rfl,rfl,List.mem_append_right _ (List.mem_singleton.2 rfl),by simp,?_,?_,?_,?_⟩
     ·rw[hlen];exact Cu HB3.out hk5 (λe=>Ai.out e.symm)
     ·rw[hlen];exact hTr.kept hk5 xZ
     ·refine((za.of_below (HB0.out.trans (HC.out.2.2.1.mono HB0.out.size))).trans Rz.out (λi h=>.inl h)).trans hk5 (λi h=>.inr ?_);have h3:=qm.out;omega
     ·rw[hlen];intro i h;rcases XO i h with h1|h1
      ·exact .inl h1
      ·have h2:=HB0.out.size;exact .inr (by omega)
theorem KI (lo:Nat)(p0 p1 p2 p3:Int)(ra:Option Addr)(rc T:Nat)(vs:List Value)(tv:Nat->Nat->ByteArray)(w:World)(hT:T<=4)(hg:Zc lo w (slice ra (T+1) rc) vs (T+1) T tv):Calls prog 278 #[.agg #[int i64 p0,int i64 p1,int i64 p2,int i64 p3,slice ra (T+1) rc]] w λe w'=>e=.returned (string (tv T 0))/\Below w.heap.size w w':=by
 obtain⟨gr,rfl,hgr,WB⟩:=hg.node (by omega);obtain⟨gi,ci,y0,hgi,hy1⟩:=WB T (by omega);have y1:=hy1 0 Nat.one_le_two_pow;rw[Nat.sub_self,Nat.pow_zero]at y0;obtain⟨W0,hW⟩:=Ca (w.alloc (.cells #[int i64 p0,int i64 p1,int i64 p2,int i64 p3,slice (some ⟨gr,0,none⟩) (T+1) rc] 285));have HB0:=Xd hW;have x4:W0.cell? ⟨w.heap.size,4,none⟩=some (slice (some ⟨gr,0,none⟩) (T+1) rc):=by subst hW;exact(ma.new w [int i64 p0,int i64 p1,int i64 p2,int i64 p3,slice (some ⟨gr,0,none⟩) (T+1) rc] 285).cell 4
 have z0:=(HB0.out.cell (p:=⟨gr,T,none⟩) hgr).trans y0;have z1:=(HB0.out.cell (p:=⟨gi,0,none⟩) hgi).trans y1;generalize tv T 0=rv at z1⊢;have hw:IntKind.i64.wrap ((T:Int)+1-1)=(T:Int):=by rw[IntKind.wrap_i64]<;>omega
 have hw2:wrap64 ((T:Int)+1-1)=(T:Int):=by rw[Yo]<;>omega
 have hti:(T:Int)<(T:Int)+1:=by omega
 have Ea:=aa hW;clear hg WB y0 y1 hy1 hgi hgr hW;go_enter func278,ntmps278;go_upto_region 1 with fail;rw[Ea.out];clear Ea;go_wp2;go_ret;exact⟨rfl,HB0.out⟩
theorem eU (a:Nat):((a:Int)).tmod 2=((a% 2:Nat):Int):=by
 rw[Int.tmod_eq_emod_of_nonneg (by omega)];omega
theorem bd0 {S D:Nat}{en:Int}{ov:Bool}{k b x t l:Int}{sec rnd pub:ByteArray}{bat:Int}{key id:ByteArray}{nx bd q:Int}{tr:Value}{w:World}(sq:Nat)(bb:Int)(z:ByteArray)(c1 c2:Int)(Q1 Q2:World->Prop)(hS:ma w S (Oc D en ov k b x t l sec rnd pub bat key id nx bd q tr) 302)
  (yP:Calls prog 205 #[.agg #[int i64 (sq:Int),int i64 bb,string id]] w λe w'=>∃c:Int,e=.returned (.tuple #[string z,int i64 c])/\Below w.heap.size w w')
  (IP:∀V:World,Below w.heap.size w V->Calls prog 142 #[pointer (some ⟨D,0,none⟩),int i64 ((sq% 2:Nat):Int),string z] V λe w'=>e=.returned (int i64 c1)/\Q1 w'/\w'.cell? ⟨S,0,none⟩=some (pointer (some ⟨D,0,none⟩)))
  (zP:c1=0->∀V:World,Q1 V->Calls prog 143 #[pointer (some ⟨D,0,none⟩)] V λe w'=>e=.returned (int i64 c2)/\Q2 w'):Calls prog 226 #[pointer (some ⟨S,0,none⟩),int i64 (sq:Int),int i64 bb] w λe w'=>(c1≠0->e=.returned (int i64 c1)/\Q1 w')/\(c1=0->e=.returned (int i64 c2)/\Q2 w'):=by
 have c13:=Dt hS;have Qb:=aa (λ(V:World) (hb:Below w.heap.size w V)=>show V.cell? ⟨S,0,none⟩=some (pointer (some ⟨D,0,none⟩))from(hS.on hb).cell 0);have wm:=aa yP;have ZM:=aa IP;have fo:=aa zP;have t1:=eU sq;have t2:IntKind.i64.wrap ((sq:Int).tmod 2)=((sq% 2:Nat):Int):=by rw[t1,IntKind.wrap_i64]<;>omega
 clear hS yP IP zP;by_cases hc:c1=0
 ·subst hc;go_enter func226,ntmps226;go_wp2_with fail;refine wm.out.mono ?_
  rintro e w1 ⟨c,rfl,hb⟩
  have c0:=Qb.out _ hb;have HB:=aa hb;clear hb;go_wp2_with fail;refine(ZM.out _ HB.out).mono ?_
  rintro e w2 ⟨rfl,h1,d0⟩
  have HQ:=aa h1;clear h1;go_wp2_with fail;refine(fo.out (by trivial) _ HQ.out).mono ?_
  rintro e w3 ⟨rfl,h2⟩
  have Sc:=aa h2;clear h2;go_wp2;go_ret;exact⟨λh=>absurd rfl h,λ_=>⟨rfl,Sc.out⟩⟩
 ·have e1:(c1==0)=false:=by simpa using hc
  have e2:(c1 !=0)=true:=by simpa using hc
  have HC:=aa hc;clear hc;go_enter func226,ntmps226;go_wp2_with fail;refine wm.out.mono ?_
  rintro e w1 ⟨c,rfl,hb⟩
  have c0:=Qb.out _ hb;have HB:=aa hb;clear hb;go_wp2_with fail;refine(ZM.out _ HB.out).mono ?_
  rintro e w2 ⟨rfl,h1,d0⟩
  have HQ:=aa h1;clear h1;go_wp2;go_ret;exact⟨λ_=>⟨rfl,HQ.out⟩,λh=>absurd h HC.out⟩
def Jm (kd a:Int)(s:ByteArray):Fe:=⟨kd,0,a,0,s,⟨#[]⟩,⟨#[]⟩,none,0,0,[],none,0,0,[],0,0,0,0,0,⟨#[]⟩,⟨#[]⟩,⟨#[]⟩,0,0,0,0⟩
theorem BF (w:World)(kd a:Int)(s:ByteArray)(h1:mg kd)(h2:mg a)(h3:s.size<=maxLen):ym w (Jm kd a s):=by
 have z:mg 0:=⟨by decide,by decide⟩;have e:(⟨#[]⟩:ByteArray).size<=maxLen:=by decide
 exact⟨h1,z,h2,z,h3,e,e,.inl ⟨rfl,rfl,rfl,rfl⟩,Nat.zero_le _,λy hy=>by simp[Jm]at hy,.inl ⟨rfl,rfl,rfl,rfl⟩,Nat.zero_le _,z,z,z,z,z,e,e,e,z,z,z,z⟩
def ek:ByteArray:=⟨#[97,32,116,101,120,116,32,111,102,32,116,104,105,114,116,121,45,116,119,111,32,98,121,116,101,115,32,104,101,114,101,46]⟩
end Go.Proofs.YtgaoeoijdpdjiabGreatDoor
