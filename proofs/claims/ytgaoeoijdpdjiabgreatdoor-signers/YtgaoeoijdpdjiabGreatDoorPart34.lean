import Derived.Test.YtgaoeoijdpdjiabGreatDoorPart29
open Go.Value (int string slice)
open Go.IntKind (i64)
open Go.Proofs.Tryz
set_option maxRecDepth 20000
set_option maxHeartbeats 8000000
namespace Go.Proofs.YtgaoeoijdpdjiabGreatDoor
open Go.RowKit
theorem D5:(prog.info? 27).map (λi=>(i.zero,i.size,i.bytes))=some (some (slice none 0 0),1,24):=by kernel_rfl
def Ev (tv:Nat->Nat->ByteArray)(T h:Nat):List Value:=(List.range (2^(T-h))).map λj=>string (tv h j)
structure Zc (lo:Nat)(w:World)(rv:Value)(vs:List Value)(m T:Nat)(tv:Nat->Nat->ByteArray):Prop where
 row:w.ownsRow lo 27 1 rv m vs
 each:∀h,h<m->∃v,vs[h]?=some v/\w.ownsRow lo 9 1 v (2^(T-h)) (Ev tv T h)
variable {lo:Nat}{w w':World}{rv:Value}{vs:List Value}{m T:Nat}{tv:Nat->Nat->ByteArray}
theorem Zc.kept {F:Nat->Prop}(h:Zc lo w rv vs m T tv)(hk:za F w w')(h1:∀q,rv.ownBlock=some q->¬F q)(h2:∀v∈vs,∀q,v.ownBlock=some q->¬F q):Zc lo w' rv vs m T tv:=⟨xc h.row hk h1,λi hi=>by
  obtain⟨v,hv,hr⟩:=h.each i hi;exact⟨v,hv,xc hr hk (h2 v (List.mem_of_getElem? hv))⟩⟩
theorem Zc.on (h:Zc lo w rv vs m T tv)(hb:Below w.heap.size w w'):Zc lo w' rv vs m T tv:=h.kept (za.of_below (F:=λ_=>False) hb) (λ_ _ e=>e) (λ_ _ _ _ e=>e)
theorem dh {w:World}{lo:Nat}{e:TypeId}{sz:Nat}{v:Value}{n:Nat}{xs:List Value}{q:Nat}(h:w.ownsRow lo e sz v n xs)(hq:v.ownBlock=some q):lo<=q/\q<w.heap.size/\∃us,ma w q us e:=by
 rcases h.2 with⟨rfl,-⟩|⟨g,cap,cur,rfl,hg,hB,-⟩
 ·simp[Value.ownBlock]at hq
 ·simp only[Value.ownBlock,Option.some.injEq]at hq;subst hq;exact⟨hg,lt_of_block hB,cur.toList,by unfold ma;rw[hB,Array.toArray_toList]⟩
theorem xe {w:World}{b:Nat}{vs us:List Value}{A B:TypeId}(h:ma w b vs A)(k:ma w b us B)(hne:A≠B):False:=by
 unfold ma at h k;rw[h]at k;simp only[Option.some.injEq,Obj.cells.injEq]at k;exact hne k.2.1
theorem Zc.lt (h:Zc lo w rv vs m T tv):(∀q,rv.ownBlock=some q->lo<=q/\q<w.heap.size)/\∀v∈vs,∀q,v.ownBlock=some q->lo<=q/\q<w.heap.size:=by
 refine⟨λq hq=>⟨(dh h.row hq).1,(dh h.row hq).2.1⟩,λv hv q hq=>?_⟩;obtain⟨i,hi⟩:=List.getElem?_of_mem hv;have hl:i<m:=by have:=(List.getElem?_eq_some_iff.1 hi).1;have:=h.row.1;omega
 obtain⟨u,hu,hr⟩:=h.each i hl;rw[hi]at hu
 cases hu
 exact⟨(dh hr hq).1,(dh hr hq).2.1⟩
theorem Zc.blk (h:Zc lo w rv vs m T tv){v:Value}(hv:v∈vs){q:Nat}(hq:v.ownBlock=some q):∃us,ma w q us 9:=by
 obtain⟨i,hi⟩:=List.getElem?_of_mem hv;have hl:i<m:=by have:=(List.getElem?_eq_some_iff.1 hi).1;have:=h.row.1;omega
 obtain⟨u,hu,hr⟩:=h.each i hl;rw[hi]at hu
 cases hu
 exact(dh hr hq).2.2
theorem KF {w:World}{lo lo':Nat}{e:TypeId}{sz:Nat}{v:Value}{n:Nat}{xs:List Value}(h:w.ownsRow lo e sz v n xs)(hl:lo'<=lo):w.ownsRow lo' e sz v n xs:=⟨h.1,h.2.elim Or.inl (λ⟨g,cap,cur,hv,hb,r⟩=>Or.inr ⟨g,cap,cur,hv,Nat.le_trans hl hb,r⟩)⟩
theorem Zc.low' {lo':Nat}(h:Zc lo w rv vs m T tv)(hl:lo'<=lo):Zc lo' w rv vs m T tv:=⟨KF h.row hl,λi hi=>by
  obtain⟨v,hv,hr⟩:=h.each i hi;exact⟨v,hv,KF hr hl⟩⟩
theorem Zc.more {W:World}{rv' v:Value}(h:Zc lo w rv vs m T tv)(hr:w.ownsRow lo 9 1 v (2^(T-m)) (Ev tv T m))(hg:(w.alloc (.cells #[v] 27)).grownBy W rv.ownBlock)(ho:W.ownsRow lo 27 1 rv' (m+1) (vs++[v])):Zc lo W rv' (vs++[v]) (m+1) T tv:=by
 have hal:Below w.heap.size w (w.alloc (.cells #[v] 27)):=Va _;have hk:=xQ hg
 have hne:∀{u:Value} {n:Nat} {xs:List Value},w.ownsRow lo 9 1 u n xs->∀q,u.ownBlock=some q->¬rv.ownBlock=some q:=λhu q hq e=>by
  obtain⟨-,-,us,b1⟩:=dh hu hq;obtain⟨-,-,zG,b2⟩:=dh h.row e;exact xe b1 b2 (by decide)
 have hkeep:∀{u:Value} {n:Nat} {xs:List Value},w.ownsRow lo 9 1 u n xs->W.ownsRow lo 9 1 u n xs:=λhu=>
  xc (xc hu (za.of_below (F:=λ_=>False) hal) (λ_ _ e=>e)) hk (hne hu)
 have hl:=h.row.1;refine⟨ho,λi hi=>?_⟩;by_cases hm:i<m
 ·obtain⟨u,hu,hr2⟩:=h.each i hm;exact⟨u,by rw[List.getElem?_append_left (by omega)];exact hu,hkeep hr2⟩
 ·obtain rfl:i=m:=by omega
  exact⟨v,by rw[List.getElem?_append_right (by omega),show i-vs.length=0 by omega];rfl,hkeep hr⟩
structure Ji (w:World)(B:Nat)(S U P R G:List Value):Prop where
 s:ma w B S 26
 u:ma w (B+1) U 42
 p:ma w (B+1+1) P 91
 r:ma w (B+1+1+1) R 285
 g:ma w (B+1+1+1+1) G 285
theorem Ji.below {w V:World}{B n:Nat}{S U P R G:List Value}(h:Ji w B S U P R G)(hb:Below n w V)(hn:B+5<=n):Ji V B S U P R G:=⟨h.s.below hb (by omega),h.u.below hb (by omega),h.p.below hb (by omega),h.r.below hb (by omega),h.g.below hb (by omega)⟩
theorem Ji.size {w:World}{B:Nat}{S U P R G:List Value}(h:Ji w B S U P R G):B+5<=w.heap.size:=by have:=h.g.lt;omega
theorem Ji.setP {w:World}{B:Nat}{S U P R G:List Value}(h:Ji w B S U P R G)(i:Nat)(v:Value):Ji (w.setCell ⟨B+1+1,i,none⟩ v) B S U (P.set i v) R G:=⟨h.s.other _ (by simp<;>omega),h.u.other _ (by simp<;>omega),h.p.set i v,h.r.other _ (by simp<;>omega),h.g.other _ (by simp<;>omega)⟩
theorem Ji.setG {w:World}{B:Nat}{S U P R G:List Value}(h:Ji w B S U P R G)(i:Nat)(v:Value):Ji (w.setCell ⟨B+1+1+1+1,i,none⟩ v) B S U P R (G.set i v):=⟨h.s.other _ (by simp<;>omega),h.u.other _ (by simp<;>omega),h.p.other _ (by simp<;>omega),h.r.other _ (by simp<;>omega),h.g.set i v⟩
theorem nZ (k b x l p0 p1 p2 p3:Int)(T n:Nat)(sec rnd pub:ByteArray)(tv:Nat->Nat->ByteArray)(w:World)(hT:T<=4)(hn:2^T=n)
  (wB:∀V:World,Calls prog 92 #[.agg #[int i64 k,int i64 b,int i64 x,int i64 (T:Int),int i64 l]] V λe w'=>e=.returned (int i64 (n:Int))/\Below V.heap.size V w')
  (fP:∀(i:Nat) (V:World),i<n->Calls prog 272 #[.agg #[int i64 k,int i64 b,int i64 x,int i64 (T:Int),int i64 l],.agg #[string sec,string rnd,string pub],.agg #[int i64 p0,int i64 p1,int i64 (i:Int),int i64 p3]] V λe w'=>e=.returned (string (tv 0 i))/\Below V.heap.size V w')
  (bP:∀(h j:Nat) (V:World),h<T->j<2^(T-(h+1))->Calls prog 168 #[.agg #[int i64 k,int i64 b,int i64 x,int i64 (T:Int),int i64 l],string pub,.agg #[int i64 p0,int i64 p1,int i64 p2,int i64 p3],int i64 ((h+1:Nat):Int),int i64 (j:Int),string (tv h (2*j)),string (tv h (2*j+1))] V λe w'=>e=.returned (string (tv (h+1) j))/\Below V.heap.size V w'):Calls prog 214 #[.agg #[int i64 k,int i64 b,int i64 x,int i64 (T:Int),int i64 l],.agg #[string sec,string rnd,string pub],.agg #[int i64 p0,int i64 p1,int i64 p2,int i64 p3]] w λe w'=>∃ra rc vs,e=.returned (.agg #[int i64 p0,int i64 p1,int i64 p2,int i64 p3,slice ra (T+1) rc])/\Zc w.heap.size w' (slice ra (T+1) rc) vs (T+1) T tv/\Below w.heap.size w w':=by
 obtain⟨i0,hi,hz0,hz1,hz2⟩:=info_parts sQ;obtain⟨i1,hi',hz0',hz1',hz2'⟩:=info_parts D5;have hn16:n<=16:=by rw[<-hn];exact Nat.le_trans (Nat.pow_le_pow_right (by decide) hT) (by decide)
 have h1n:1<=n:=by rw[<-hn];exact Nat.one_le_two_pow
 have Xn:=aa wB;have dH:=aa fP;have mV:=aa bP;have HN:=aa hn;clear wB fP bP hn;obtain⟨W0,hW⟩:=Ca (((((w.alloc (.cells #[int i64 k,int i64 b,int i64 x,int i64 (T:Int),int i64 l] 26)).alloc (.cells #[string sec,string rnd,string pub] 42)).alloc (.cells #[int i64 p0,int i64 p1,int i64 p2,int i64 p3] 91)).alloc (.cells #[int i64 0,int i64 0,int i64 0,int i64 0,slice none 0 0] 285)).alloc (.cells #[int i64 p0,int i64 p1,int i64 p2,int i64 p3,slice none 0 0] 285))
 have HX0:=aa (show Ji W0 w.heap.size [int i64 k,int i64 b,int i64 x,int i64 (T:Int),int i64 l] [string sec,string rnd,string pub] [int i64 p0,int i64 p1,int i64 p2,int i64 p3] [int i64 0,int i64 0,int i64 0,int i64 0,slice none 0 0] [int i64 p0,int i64 p1,int i64 p2,int i64 p3,slice none 0 0] by
  subst hW;refine⟨?_,?_,?_,?_,?_⟩
  ·exact((((ma.new w _ _).alloc _).alloc _).alloc _).alloc _
  ·have h:=((((ma.new (w.alloc (.cells #[int i64 k,int i64 b,int i64 x,int i64 (T:Int),int i64 l] 26)) [string sec,string rnd,string pub] 42).alloc (.cells #[int i64 p0,int i64 p1,int i64 p2,int i64 p3] 91)).alloc (.cells #[int i64 0,int i64 0,int i64 0,int i64 0,slice none 0 0] 285)).alloc (.cells #[int i64 p0,int i64 p1,int i64 p2,int i64 p3,slice none 0 0] 285));simp only[World.size_alloc]at h;exact h
  ·have h:=(((ma.new ((w.alloc (.cells #[int i64 k,int i64 b,int i64 x,int i64 (T:Int),int i64 l] 26)).alloc (.cells #[string sec,string rnd,string pub] 42)) [int i64 p0,int i64 p1,int i64 p2,int i64 p3] 91).alloc (.cells #[int i64 0,int i64 0,int i64 0,int i64 0,slice none 0 0] 285)).alloc (.cells #[int i64 p0,int i64 p1,int i64 p2,int i64 p3,slice none 0 0] 285));simp only[World.size_alloc]at h;exact h
  ·have h:=((ma.new (((w.alloc (.cells #[int i64 k,int i64 b,int i64 x,int i64 (T:Int),int i64 l] 26)).alloc (.cells #[string sec,string rnd,string pub] 42)).alloc (.cells #[int i64 p0,int i64 p1,int i64 p2,int i64 p3] 91)) [int i64 0,int i64 0,int i64 0,int i64 0,slice none 0 0] 285).alloc (.cells #[int i64 p0,int i64 p1,int i64 p2,int i64 p3,slice none 0 0] 285));simp only[World.size_alloc]at h;exact h
  ·have h:=(ma.new ((((w.alloc (.cells #[int i64 k,int i64 b,int i64 x,int i64 (T:Int),int i64 l] 26)).alloc (.cells #[string sec,string rnd,string pub] 42)).alloc (.cells #[int i64 p0,int i64 p1,int i64 p2,int i64 p3] 91)).alloc (.cells #[int i64 0,int i64 0,int i64 0,int i64 0,slice none 0 0] 285)) [int i64 p0,int i64 p1,int i64 p2,int i64 p3,slice none 0 0] 285);simp only[World.size_alloc]at h;exact h)
 have HB0:=aa (show Below w.heap.size w W0 by
  subst hW;exact((((Va _).alloc (by simp) _).alloc (by simp;omega) _).alloc (by simp;omega) _).alloc (by simp;omega) _)
 obtain⟨B,hB⟩:=Ca (w.heap.size+5);have ed:=aa (λ(V:World) (z:Int) (rv:Value) (h:Ji V w.heap.size [int i64 k,int i64 b,int i64 x,int i64 (T:Int),int i64 l] [string sec,string rnd,string pub] [int i64 p0,int i64 p1,int i64 z,int i64 p3] [int i64 0,int i64 0,int i64 0,int i64 0,slice none 0 0] [int i64 p0,int i64 p1,int i64 p2,int i64 p3,rv])=>(⟨h.s.cell 0,h.s.cell 1,h.s.cell 2,h.s.cell 3,h.s.cell 4,h.u.cell 0,h.u.cell 1,h.u.cell 2,h.p.cell 0,h.p.cell 1,h.p.cell 2,h.p.cell 3,h.g.cell 0,h.g.cell 1,h.g.cell 2,h.g.cell 3,h.g.cell 4⟩:V.cell? ⟨w.heap.size,0,none⟩=some (int i64 k)/\V.cell? ⟨w.heap.size,1,none⟩=some (int i64 b)/\V.cell? ⟨w.heap.size,2,none⟩=some (int i64 x)/\V.cell? ⟨w.heap.size,3,none⟩=some (int i64 (T:Int))/\V.cell? ⟨w.heap.size,4,none⟩=some (int i64 l)/\V.cell? ⟨w.heap.size+1,0,none⟩=some (string sec)/\V.cell? ⟨w.heap.size+1,1,none⟩=some (string rnd)/\V.cell? ⟨w.heap.size+1,2,none⟩=some (string pub)/\V.cell? ⟨w.heap.size+1+1,0,none⟩=some (int i64 p0)/\V.cell? ⟨w.heap.size+1+1,1,none⟩=some (int i64 p1)/\V.cell? ⟨w.heap.size+1+1,2,none⟩=some (int i64 z)/\V.cell? ⟨w.heap.size+1+1,3,none⟩=some (int i64 p3)/\V.cell? ⟨w.heap.size+1+1+1+1,0,none⟩=some (int i64 p0)/\V.cell? ⟨w.heap.size+1+1+1+1,1,none⟩=some (int i64 p1)/\V.cell? ⟨w.heap.size+1+1+1+1,2,none⟩=some (int i64 p2)/\V.cell? ⟨w.heap.size+1+1+1+1,3,none⟩=some (int i64 p3)/\V.cell? ⟨w.heap.size+1+1+1+1,4,none⟩=some rv));have Rc:=aa hB;clear hB;have Ea:=aa hW;clear hW;go_enter func214,ntmps214;go_wp2_with fail;rw[Ea.out];clear Ea;go_loopw [8,9,10] (λr i x' wr=>∃j:Nat,j<=n/\i=int i64 (j:Int)/\Hid (wr.ownsRow B 9 1 r j ((List.range j).map λi=>string (tv 0 i)))/\Hid (∃z,Ji wr w.heap.size [int i64 k,int i64 b,int i64 x,int i64 (T:Int),int i64 l] [string sec,string rnd,string pub] [int i64 p0,int i64 p1,int i64 z,int i64 p3] [int i64 0,int i64 0,int i64 0,int i64 0,slice none 0 0] [int i64 p0,int i64 p1,int i64 p2,int i64 p3,slice none 0 0])/\Hid (Below w.heap.size w wr)) (λ_ i _ _=>n-(intOf i).toNat)
 case atStart=>exact⟨0,Nat.zero_le _,rfl,World.ownsRow_nil _ _ _ _,⟨p2,HX0.out⟩,HB0.out⟩
 case round=>
  clear HX0 HB0;obtain⟨j,hj,rfl,ho,hx,hb⟩:=hrel;obtain⟨z,hx⟩:=hx.out;obtain⟨c0,c1,c2,c3,c4,-⟩:=ed.out _ _ _ hx;have HX:=aa hx;have hsz:=hx.size;clear hx;go_wp2_with fail;refine(Xn.out _).mono ?_
  rintro e w1 ⟨rfl,hb1⟩
  have Ra:=aa (HX.out.below hb1 hsz);have HB1:=aa (Ga hb.out hb1 Aa);have Xe:=aa (xc ho.out (za.of_below (F:=λ_=>False) hb1) (λ_ _ e=>e));clear hb1 hb ho HX hsz c0 c1 c2 c3 c4;by_cases hlt:j<n
  ·have hji:(j:Int)<(n:Int):=by omega
   obtain⟨c0,c1,c2,c3,c4,s0,s1,s2,d0,d1,d2,d3,-⟩:=ed.out _ _ _ Ra.out;have f2:=Ra.out.p.free 2;obtain⟨V1,yt⟩:∃V1,Hid (w1.setCell ⟨w.heap.size+1+1,2,none⟩ (int i64 (j:Int))=V1):=⟨_,rfl⟩
   have Ze:=aa (show Ji V1 w.heap.size [int i64 k,int i64 b,int i64 x,int i64 (T:Int),int i64 l] [string sec,string rnd,string pub] [int i64 p0,int i64 p1,int i64 (j:Int),int i64 p3] [int i64 0,int i64 0,int i64 0,int i64 0,slice none 0 0] [int i64 p0,int i64 p1,int i64 p2,int i64 p3,slice none 0 0] by
    rw[<-yt.out];exact Ra.out.setP 2 _)
   have HZ1:=aa (show Below w.heap.size w V1 by rw[<-yt.out];exact HB1.out.setCell (by simp<;>omega) _)
   have Jd:=aa (show V1.ownsRow B 9 1 _ j ((List.range j).map λi=>string (tv 0 i)) by
    rw[<-yt.out];refine xc Xe.out (Jc w1 ⟨w.heap.size+1+1,2,none⟩ _) (λq hq e=>?_);have h1:=(dh Xe.out hq).1;have h2:=Rc.out;simp only at e;omega)
   clear Ra HB1 Xe;go_wp2_with fail;rw[yt.out];clear f2;refine(dH.out j V1 hlt).mono ?_
   rintro e w2 ⟨rfl,hb2⟩
   have lg:=aa (Ze.out.below hb2 Ze.out.size);have HB2:=aa (Ga HZ1.out hb2 Aa);have Lc:=aa (xc Jd.out (za.of_below (F:=λ_=>False) hb2) (λ_ _ e=>e));clear hb2 Ze HZ1 Jd yt c0 c1 c2 c3 c4 s0 s1 s2 d0 d1 d2 d3;have Ld:=aa (show(List.range (j+1)).map (λi=>string (tv 0 i))=(List.range j).map (λi=>string (tv 0 i))++[string (tv 0 j)] by simp[List.range_succ]);have Zj:B<=w2.heap.size:=by have h1:=lg.out.size;have h2:=Rc.out;omega
   generalize tv 0 j=lv at Ld⊢;go_wp2_with (at_builtin;refine wpList_append_own _ rfl _ _ 27 rfl B 9 i0 (string ⟨#[]⟩) 1 16 underlying27 hi hz0 hz1 hz2 rfl (by decide) _ _ _ rfl (Lc.out.alloc _) ⟨w2.heap.size,0,none⟩ 1 1 [_] rfl rfl (Mo _ _ _) ?c2 ?c3 ?c4 ?c5 ?_)
   case c2=>intro y hy;simp at hy;subst hy;rfl
   case c3=>unfold maxLen;omega
   case c4=>omega
   case c5=>simp;omega
   intro v' w6 Cg hgrow _;have Ip:=aa (λq hq=>(dh Lc.out hq (q:=q)).1);have Ap:=aa (((Below.refl B w2).alloc Zj _).grown hgrow (by simp;omega) (λp hp=>Ip.out p hp));have Vm:=aa (lg.out.below Ap.out (by have:=Rc.out;omega));have Ub:=aa (HB2.out.trans (Ap.out.mono (by have:=Rc.out;omega)))
   have Rj:Hid (w6.ownsRow B 9 1 v' (j+1) ((List.range (j+1)).map λi=>string (tv 0 i))):=by
    show w6.ownsRow B 9 1 v' (j+1) ((List.range (j+1)).map λi=>string (tv 0 i));rw[Ld.out];exact Cg
   clear Cg hgrow Ip Ap lg HB2 Lc Ld Zj;go_wp2;go_roundw
   case rel=>
    have R:∃j':Nat,j'<=n/\int i64 ((j:Int)+1)=int i64 (j':Int)/\Hid (w6.ownsRow B 9 1 v' j' ((List.range j').map λi=>string (tv 0 i)))/\Hid (∃z,Ji w6 w.heap.size [int i64 k,int i64 b,int i64 x,int i64 (T:Int),int i64 l] [string sec,string rnd,string pub] [int i64 p0,int i64 p1,int i64 z,int i64 p3] [int i64 0,int i64 0,int i64 0,int i64 0,slice none 0 0] [int i64 p0,int i64 p1,int i64 p2,int i64 p3,slice none 0 0])/\Hid (Below w.heap.size w w6):=⟨j+1,by omega,by go_num,Rj.out,⟨_,Vm.out⟩,Ub.out⟩;first|exact R|((repeat apply Exists.intro);exact⟨R,rfl⟩)
   case measure=>simp[intOf];omega
  ·obtain rfl:j=n:=by omega
   have HR1:=aa (show w1.ownsRow B 9 1 _ (2^(T-0)) (Ev tv T 0) by
    rw[Nat.sub_zero,HN.out];have h:=Xe.out;rw[Ev,Nat.sub_zero,HN.out];exact h)
   obtain⟨g0,c0',hv0,-,-⟩:=Xe.out.form (by omega);rw[hv0]at HR1⊢;clear hv0 Xe;obtain⟨-,-,-,-,-,-,-,-,-,-,-,-,-,-,-,-,m4⟩:=ed.out _ _ _ Ra.out;have f4:=Ra.out.g.free 4;have Zj:B<=w1.heap.size:=by have h1:=Ra.out.size;have h2:=Rc.out;omega
   have Vx:=aa (show Zc B w1 (slice none 0 0) [] 0 T tv from⟨World.ownsRow_nil _ _ _ _,λh hh=>by omega⟩);go_wp2_with (at_builtin;refine wpList_append_own _ rfl _ _ 32 rfl B 27 i1 (slice none 0 0) 1 24 underlying32 hi' hz0' hz1' hz2' rfl (by decide) _ _ _ rfl (Vx.out.row.alloc _) ⟨w1.heap.size,0,none⟩ 1 1 [_] rfl rfl (Mo _ _ _) ?c2 ?c3 ?c4 ?c5 ?_)
   case c2=>intro y hy;simp at hy;subst hy;rfl
   case c3=>unfold maxLen;omega
   case c4=>omega
   case c5=>simp;omega
   intro v' w6 Cg hgrow _;have Ap:=aa (((Below.refl B w1).alloc Zj _).grown hgrow (by simp;omega) (λp hp=>by simp[Value.ownBlock]at hp));have Vm:=aa (Ra.out.below Ap.out (by have:=Rc.out;omega));have Ub:=aa (HB1.out.trans (Ap.out.mono (by have:=Rc.out;omega)));have Es:=aa (Vx.out.more HR1.out hgrow Cg);clear Cg hgrow Ap Ra HB1 Vx HR1 m4 Zj f4;obtain⟨-,-,-,-,-,-,-,-,-,-,-,-,-,-,-,-,m4⟩:=ed.out _ _ _ Vm.out;have f4:=Vm.out.g.free 4;obtain⟨V6,Rp⟩:∃V6,Hid (w6.setCell ⟨w.heap.size+1+1+1+1,4,none⟩ v'=V6):=⟨_,rfl⟩
   have fE:=aa (show Ji V6 w.heap.size [int i64 k,int i64 b,int i64 x,int i64 (T:Int),int i64 l] [string sec,string rnd,string pub] [int i64 p0,int i64 p1,int i64 z,int i64 p3] [int i64 0,int i64 0,int i64 0,int i64 0,slice none 0 0] [int i64 p0,int i64 p1,int i64 p2,int i64 p3,v'] by
    rw[<-Rp.out];exact Vm.out.setG 4 _)
   have ry:=aa (show Below w.heap.size w V6 by rw[<-Rp.out];exact Ub.out.setCell (by simp<;>omega) _)
   have Xx:=aa (show Zc B V6 v' [slice (some ⟨g0,0,none⟩) j c0'] 1 T tv by
    rw[<-Rp.out];have h2:=Rc.out;refine Es.out.kept (Jc w6 ⟨w.heap.size+1+1+1+1,4,none⟩ _) (λq hq e=>?_) (λv hv q hq e=>?_)
    ·have h1:=(Es.out.lt.1 q hq).1;simp only at e;omega
    ·have h1:=(Es.out.lt.2 v hv q hq).1;simp only at e;omega)
   clear Es Vm Ub;obtain⟨ga,gc,hgv,-,-⟩:=Xx.out.row.form (by omega);subst hgv;go_wp2_with fail;rw[Rp.out];clear Rp m4 f4;go_loopw [8,11,12,13,14] (λr h u' j' x' wr=>∃(m:Nat) (rv:Value) (vs:List Value),m<=T/\h=int i64 ((m:Int)+1)/\Hid (vs[m]?=some r)/\Hid (Zc B wr rv vs (m+1) T tv)/\Hid (∃z,Ji wr w.heap.size [int i64 k,int i64 b,int i64 x,int i64 (T:Int),int i64 l] [string sec,string rnd,string pub] [int i64 p0,int i64 p1,int i64 z,int i64 p3] [int i64 0,int i64 0,int i64 0,int i64 0,slice none 0 0] [int i64 p0,int i64 p1,int i64 p2,int i64 p3,rv])/\Hid (Below w.heap.size w wr)) (λ_ h _ _ _ _=>T+1-(intOf h).toNat)
   case atStart=>exact⟨0,_,[slice (some ⟨g0,0,none⟩) j c0'],Nat.zero_le _,by simp,(show[slice (some ⟨g0,0,none⟩) j c0'][0]?=some (slice (some ⟨g0,0,none⟩) j c0')from rfl),Xx.out,⟨_,fE.out⟩,ry.out⟩
   case round=>
    clear Xx fE ry;obtain⟨m,rv,vs,hm,rfl,hvs,hg,hx,hb⟩:=hrel;obtain⟨z,hx⟩:=hx.out;have HX:=aa hx;clear hx;obtain⟨c0,c1,c2,c3,c4,s0,s1,s2,d0,d1,d2,d3,m0,m1,m2,m3,m4⟩:=ed.out _ _ _ HX.out;by_cases hmt:m<T
    ·have zJ:(m:Int)+1<=(T:Int):=by omega
     obtain⟨r0,hr0,hrow⟩:=hg.out.each m (by omega);rw[hvs.out]at hr0
     cases hr0
     have hpw:2^(T-m)=2*2^(T-(m+1)):=by rw[<-Nat.pow_succ'];congr 1;omega
     obtain⟨M,hM⟩:=Ca (2^(T-(m+1)));have hM1:1<=M:=by rw[<-hM];exact Nat.one_le_two_pow
     have hM8:M<=8:=by rw[<-hM];exact Nat.le_trans (Nat.pow_le_pow_right (by decide) (show T-(m+1)<=3 by omega)) (by decide)
     have nM:=aa hM;rw[hM]at hpw;obtain⟨gr,gcp,Ir,-,hgr⟩:=hrow.form (by omega)
     have Dl:=aa (show∀q,q<2*M->wr.cell? ⟨gr,q,none⟩=some (string (tv m q)) by
      intro q hq;rw[Ir]at hrow;rw[hrow.cellAt q (by omega)];simp[Ev,List.getElem?_range (show q<2^(T-m) by omega)])
     rw[hpw]at Ir;subst Ir;have Oz:=aa hgr;obtain⟨wo,hwo⟩:∃wo:World,wo=wr:=⟨_,rfl⟩;rw[<-hwo]at hg HX hb c3 Dl Oz⊢;clear hrow hgr hM hwo c0 c1 c2 c4 s0 s1 s2 d0 d1 d2 d3 m0 m1 m2 m3 m4;have wZ:B<=wo.heap.size:=by have h1:=HX.out.size;have h2:=Rc.out;omega
     go_wp2_with fail;clear c3;go_loopw [12,13,14] (λu i x' wr=>∃j:Nat,j<=M/\i=int i64 (j:Int)/\Hid (wr.ownsRow wo.heap.size 9 1 u j ((List.range j).map λi=>string (tv (m+1) i)))/\Hid (Below wo.heap.size wo wr)) (λ_ i _ _=>M-(intOf i).toNat)
     case atStart=>exact⟨0,Nat.zero_le _,rfl,World.ownsRow_nil _ _ _ _,Vb⟩
     case round=>
      obtain⟨j,hj,rfl,hu,hb2⟩:=hrel;have q1:IntKind.i64.wrap (2*(j:Int))=((2*j:Nat):Int):=by rw[show 2*(j:Int)=((2*j:Nat):Int) by omega,IntKind.wrap_i64]<;>omega
      by_cases RZ:j<M
      ·obtain⟨R2,hR2⟩:=Ca (2*j);have q3:2*(j:Int)+1<2*(M:Int):=by omega
       have q3':2*(j:Int)<2*(M:Int):=by omega
       have Uv:=aa (λV=>mV.out m j V hmt (by rw[nM.out];exact RZ))
       have HS:=aa (λ(V:World) (hV:Below wr.heap.size wr V)=>(by
        have hk:=Ga hb2.out hV Aa;obtain⟨c0,c1,c2,c3,c4,s0,s1,s2,d0,d1,d2,d3,m0,m1,m2,m3,m4⟩:=ed.out V z rv (HX.out.below hk HX.out.size);exact⟨c0,c1,c2,c3,c4,s2,m0,m1,m2,m3,(hk.cell (p:=⟨gr,2*j,none⟩) Oz.out).trans (Dl.out (2*j) (by omega)),(hk.cell (p:=⟨gr,2*j+1,none⟩) Oz.out).trans (Dl.out (2*j+1) (by omega))⟩:V.cell? ⟨w.heap.size,0,none⟩=some (int i64 k)/\V.cell? ⟨w.heap.size,1,none⟩=some (int i64 b)/\V.cell? ⟨w.heap.size,2,none⟩=some (int i64 x)/\V.cell? ⟨w.heap.size,3,none⟩=some (int i64 (T:Int))/\V.cell? ⟨w.heap.size,4,none⟩=some (int i64 l)/\V.cell? ⟨w.heap.size+1,2,none⟩=some (string pub)/\V.cell? ⟨w.heap.size+1+1+1+1,0,none⟩=some (int i64 p0)/\V.cell? ⟨w.heap.size+1+1+1+1,1,none⟩=some (int i64 p1)/\V.cell? ⟨w.heap.size+1+1+1+1,2,none⟩=some (int i64 p2)/\V.cell? ⟨w.heap.size+1+1+1+1,3,none⟩=some (int i64 p3)/\V.cell? ⟨gr,2*j,none⟩=some (string (tv m (2*j)))/\V.cell? ⟨gr,2*j+1,none⟩=some (string (tv m (2*j+1)))))
       have Ld:=aa (show(List.range (j+1)).map (λi=>string (tv (m+1) i))=(List.range j).map (λi=>string (tv (m+1) i))++[string (tv (m+1) j)] by simp[List.range_succ]);have q2:IntKind.i64.wrap (((2*j:Nat):Int)+1)=((2*j+1:Nat):Int):=by rw[show((2*j:Nat):Int)+1=((2*j+1:Nat):Int) by omega,IntKind.wrap_i64]<;>omega
       have q4:((m+1:Nat):Int)=(m:Int)+1:=by omega
       have HQ4:=aa q4;rw[q4]at Uv;clear q4;obtain⟨R3,Mw⟩:=Ca (2*j+1);have q5:(R3:Int)<2*(M:Int):=by omega
       have q6:(R2:Int)<2*(M:Int):=by omega
       rw[Mw]at q2 Uv HS;rw[hR2]at q1 q2 Uv HS;generalize tv m R2=y0 at Uv HS;generalize tv m R3=y1 at Uv HS;generalize tv (m+1) j=y2 at Uv Ld;have Dg0:=aa (And.intro hR2 Mw);clear hR2 Mw;go_wp2_with fail;go_region_held3 (λV=>V.cell? ⟨w.heap.size,0,none⟩=some (int i64 k)/\V.cell? ⟨w.heap.size,1,none⟩=some (int i64 b)/\V.cell? ⟨w.heap.size,2,none⟩=some (int i64 x)/\V.cell? ⟨w.heap.size,3,none⟩=some (int i64 (T:Int))/\V.cell? ⟨w.heap.size,4,none⟩=some (int i64 l)/\V.cell? ⟨w.heap.size+1,2,none⟩=some (string pub)/\V.cell? ⟨w.heap.size+1+1+1+1,0,none⟩=some (int i64 p0)/\V.cell? ⟨w.heap.size+1+1+1+1,1,none⟩=some (int i64 p1)/\V.cell? ⟨w.heap.size+1+1+1+1,2,none⟩=some (int i64 p2)/\V.cell? ⟨w.heap.size+1+1+1+1,3,none⟩=some (int i64 p3)/\V.cell? ⟨gr,R2,none⟩=some (string y0)/\V.cell? ⟨gr,R3,none⟩=some (string y1)) (first|exact HS.out _ hS1|exact HS.out _ (Below.refl wr.heap.size wr).drew) ((go_at_call 168;refine(Uv.out _).mono ?_;rintro e w4 ⟨rfl,hb4⟩;have hS1:=Ga (Below.refl wr.heap.size wr).drew hb4 Aa));have Db:=aa (Ga hb2.out hS1 Aa);have LH:=aa (xc hu.out (za.of_below (F:=λ_=>False) hS1) (λ_ _ e=>e));clear hS1 hb4 HS hu hb2;have hos:wo.heap.size<=w4.heap.size:=Db.out.size;have ku:=aa hos;clear hos;go_wp2_with (at_builtin;refine wpList_append_own _ rfl _ _ 27 rfl wo.heap.size 9 i0 (string ⟨#[]⟩) 1 16 underlying27 hi hz0 hz1 hz2 rfl (by decide) _ _ _ rfl (LH.out.alloc _) ⟨w4.heap.size,0,none⟩ 1 1 [_] rfl rfl (Mo _ _ _) ?d2 ?d3 ?d4 ?d5 ?_)
       case d2=>intro y hy;simp at hy;subst hy;rfl
       case d3=>unfold maxLen;omega
       case d4=>omega
       case d5=>have:=ku.out;simp;omega
       intro v' w6 Cg hgrow _;have Ip:=aa (λq hq=>(dh LH.out hq (q:=q)).1);have AL:=aa (((Below.refl wo.heap.size w4).alloc ku.out _).grown hgrow (by have:=ku.out;simp;omega) (λp hp=>Ip.out p hp));have Ub:=aa (Db.out.trans AL.out)
       have Rj:Hid (w6.ownsRow wo.heap.size 9 1 v' (j+1) ((List.range (j+1)).map λi=>string (tv (m+1) i))):=by
        show w6.ownsRow wo.heap.size 9 1 v' (j+1) ((List.range (j+1)).map λi=>string (tv (m+1) i));rw[Ld.out];exact Cg
       clear Cg hgrow Ip AL Db LH Ld ku;go_wp2;go_roundw
       case rel=>
        have R:∃j':Nat,j'<=M/\int i64 ((j:Int)+1)=int i64 (j':Int)/\Hid (w6.ownsRow wo.heap.size 9 1 v' j' ((List.range j').map λi=>string (tv (m+1) i)))/\Hid (Below wo.heap.size wo w6):=⟨j+1,by omega,by go_num,Rj.out,Ub.out⟩;first|exact R|((repeat apply Exists.intro);exact⟨R,rfl⟩)
       case measure=>simp[intOf];omega
      ·obtain rfl:j=M:=by omega
       have q3:¬2*(j:Int)+1<2*(j:Int):=by omega
       have Wx:=aa (hg.out.on hb2.out);have Ra:=aa (HX.out.below hb2.out HX.out.size);have HB1:=aa (Ga hb.out hb2.out Aa)
       have HR1:=aa (show wr.ownsRow B 9 1 _ (2^(T-(m+1))) (Ev tv T (m+1)) by
        rw[Ev,nM.out];exact KF hu.out wZ)
       obtain⟨g0,c0',hv0,-,-⟩:=hu.out.form (by omega);rw[hv0]at HR1⊢;clear hv0 hu hg HX hb;obtain⟨-,-,-,-,-,-,-,-,-,-,-,-,-,-,-,-,m4⟩:=ed.out _ _ _ Ra.out;have f4:=Ra.out.g.free 4;have Zj:B<=wr.heap.size:=by have h1:=Ra.out.size;have h2:=Rc.out;omega
       have q2:IntKind.i64.wrap (((2*j:Nat):Int)+1)=2*(j:Int)+1:=by rw[show((2*j:Nat):Int)+1=2*(j:Int)+1 by omega,IntKind.wrap_i64]<;>omega
       obtain⟨ra,rc,Ir,-,-⟩:=Wx.out.row.form (by omega);subst Ir;go_wp2_with (at_builtin;refine wpList_append_own _ rfl _ _ 32 rfl B 27 i1 (slice none 0 0) 1 24 underlying32 hi' hz0' hz1' hz2' rfl (by decide) _ _ _ rfl (Wx.out.row.alloc _) ⟨wr.heap.size,0,none⟩ 1 1 [_] rfl rfl (Mo _ _ _) ?e2 ?e3 ?e4 ?e5 ?_)
       case e2=>first|rfl|(intro y hy;simp at hy;subst hy;rfl)
       case e3=>unfold maxLen;omega
       case e4=>omega
       case e5=>first|omega|(simp;omega)
       intro v' w6 Cg hgrow _;have Ip:=aa (λq hq=>(Wx.out.lt.1 q hq).1);have Ap:=aa (((Below.refl B wr).alloc Zj _).grown hgrow (by simp;omega) (λp hp=>Ip.out p hp));have Vm:=aa (Ra.out.below Ap.out (by have:=Rc.out;omega));have Ub:=aa (HB1.out.trans (Ap.out.mono (by have:=Rc.out;omega)));have Es:=aa (Wx.out.more HR1.out hgrow Cg);have Ll:=aa Wx.out.row.1
       have aW:Hid ((vs++[slice (some ⟨g0,0,none⟩) j c0'])[m+1]?=some (slice (some ⟨g0,0,none⟩) j c0')):=by
        have:=Ll.out;show(vs++[slice (some ⟨g0,0,none⟩) j c0'])[m+1]?=some (slice (some ⟨g0,0,none⟩) j c0');rw[List.getElem?_append_right (by omega),show m+1-vs.length=0 by omega];rfl
       clear Cg hgrow Ap Ra HB1 Wx HR1 m4 Zj f4 Ip q1 q2;obtain⟨-,-,-,-,-,-,-,-,-,-,-,-,-,-,-,-,m4⟩:=ed.out _ _ _ Vm.out;have f4:=Vm.out.g.free 4;obtain⟨V6,Rp⟩:∃V6,Hid (w6.setCell ⟨w.heap.size+1+1+1+1,4,none⟩ v'=V6):=⟨_,rfl⟩
       have fE:=aa (show Ji V6 w.heap.size [int i64 k,int i64 b,int i64 x,int i64 (T:Int),int i64 l] [string sec,string rnd,string pub] [int i64 p0,int i64 p1,int i64 z,int i64 p3] [int i64 0,int i64 0,int i64 0,int i64 0,slice none 0 0] [int i64 p0,int i64 p1,int i64 p2,int i64 p3,v'] by
        rw[<-Rp.out];exact Vm.out.setG 4 _)
       have ry:=aa (show Below w.heap.size w V6 by rw[<-Rp.out];exact Ub.out.setCell (by simp<;>omega) _)
       have Xx:=aa (show Zc B V6 v' (vs++[slice (some ⟨g0,0,none⟩) j c0']) (m+1+1) T tv by
        rw[<-Rp.out];have h2:=Rc.out;refine Es.out.kept (Jc w6 ⟨w.heap.size+1+1+1+1,4,none⟩ _) (λq hq e=>?_) (λv hv q hq e=>?_)
        ·have h1:=(Es.out.lt.1 q hq).1;simp only at e;omega
        ·have h1:=(Es.out.lt.2 v hv q hq).1;simp only at e;omega)
       clear Es Vm Ub;obtain⟨ga,gc,hgv,-,-⟩:=Xx.out.row.form (by omega);subst hgv;go_wp2_with fail;rw[Rp.out];clear Rp m4 f4;go_roundw
       case rel=>
        have R:∃(m':Nat) (rv':Value) (vs':List Value),m'<=T/\int i64 ((m:Int)+1+1)=int i64 ((m':Int)+1)/\Hid (vs'[m']?=some (slice (some ⟨g0,0,none⟩) j c0'))/\Hid (Zc B V6 rv' vs' (m'+1) T tv)/\Hid (∃z,Ji V6 w.heap.size [int i64 k,int i64 b,int i64 x,int i64 (T:Int),int i64 l] [string sec,string rnd,string pub] [int i64 p0,int i64 p1,int i64 z,int i64 p3] [int i64 0,int i64 0,int i64 0,int i64 0,slice none 0 0] [int i64 p0,int i64 p1,int i64 p2,int i64 p3,rv'])/\Hid (Below w.heap.size w V6):=⟨m+1,_,_,by omega,by go_num,aW,Xx.out,⟨_,fE.out⟩,ry.out⟩;first|exact R|((repeat apply Exists.intro);exact⟨R,rfl⟩)
       case measure=>simp[intOf];omega
    ·obtain rfl:m=T:=by omega
     have zJ:¬(m:Int)+1<=(m:Int):=by omega
     obtain⟨ra,rc,Ir,-,-⟩:=hg.out.row.form (by omega);subst Ir;have r0:=HX.out.r.cell 0;have r1:=HX.out.r.cell 1;have r2:=HX.out.r.cell 2;have r3:=HX.out.r.cell 3;have r4:=HX.out.r.cell 4;have f0:=HX.out.r.free 0;have f1:=HX.out.r.free 1;have f2:=HX.out.r.free 2;have f3:=HX.out.r.free 3;have f4:=HX.out.r.free 4;simp only[Oa,Na]at r0 r1 r2 r3 r4;clear c0 c1 c2 c4 s0 s1 s2 d0 d1 d2 d3;go_wp2_with fail;refine bodyPost_ret (v:=.agg #[int i64 p0,int i64 p1,int i64 p2,int i64 p3,slice (some ⟨ra,0,none⟩) (m+1) rc]) (by simp[results,results214,go_sem,r0,r1,r2,r3,r4]) rfl ⟨_,_,rfl,⟨vs,?_⟩,?_⟩
     ·have h2:=Rc.out;have h3:=hg.out;refine Zc.low' (lo:=B) ?_ (by omega);iterate 5 refine Zc.kept ?_ (Jc _ _ _) (λq hq e=>by have h1:=(hg.out.lt.1 q hq).1;simp only at e;omega) (λv hv q hq e=>by have h1:=(hg.out.lt.2 v hv q hq).1;simp only at e;omega)
      exact h3
     ·iterate 5 refine Below.setCell ?_ (by simp<;>omega) _
      exact hb.out
end Go.Proofs.YtgaoeoijdpdjiabGreatDoor
