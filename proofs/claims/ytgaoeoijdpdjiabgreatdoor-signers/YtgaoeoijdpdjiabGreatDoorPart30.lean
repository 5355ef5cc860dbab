import Derived.Test.YtgaoeoijdpdjiabGreatDoorPart24
open Go.Value (int string pointer slice)
open Go.IntKind (i64)
open Go.Proofs.Tryz
set_option maxRecDepth 20000
set_option maxHeartbeats 8000000
namespace Go.Proofs.YtgaoeoijdpdjiabGreatDoor
open Go.RowKit
theorem M9 (k b x t l a0 a1 ch a3 a4 a5:Int)(sec rnd pub:ByteArray)(p0 p1 p2 p3:Int)(w:World)(hC:∀V:World,Calls prog 155 #[.agg #[int i64 k,int i64 b,int i64 x,int i64 t,int i64 l]] V λe w'=>e=.returned (.tuple #[.agg #[int i64 a0,int i64 a1,int i64 ch,int i64 a3,int i64 a4,int i64 a5],int i64 0])/\Below V.heap.size V w')(hV:∀V:World,Calls prog 265 #[.agg #[int i64 k,int i64 b,int i64 x,int i64 t,int i64 l],.agg #[string sec,string rnd,string pub]] V λe w'=>e=.returned (.bool true)/\Below V.heap.size V w')(hI:∀V:World,Calls prog 266 #[.agg #[int i64 k,int i64 b,int i64 x,int i64 t,int i64 l],.agg #[int i64 p0,int i64 p1,int i64 p2,int i64 p3]] V λe w'=>e=.returned (.bool true)/\Below V.heap.size V w'):Calls prog 208 #[.agg #[int i64 k,int i64 b,int i64 x,int i64 t,int i64 l],.agg #[string sec,string rnd,string pub],.agg #[int i64 p0,int i64 p1,int i64 p2,int i64 p3]] w λe w'=>e=.returned (.tuple #[.agg #[int i64 k,int i64 b,int i64 x,int i64 t,int i64 l,string sec,string rnd,string pub,int i64 p0,int i64 p1,int i64 p2,int i64 p3,int i64 ch],int i64 0])/\Below w.heap.size w w':=by
 obtain⟨W0,hW⟩:=Ca ((((w.alloc (.cells #[int i64 k,int i64 b,int i64 x,int i64 t,int i64 l] 26)).alloc (.cells #[string sec,string rnd,string pub] 42)).alloc (.cells #[int i64 p0,int i64 p1,int i64 p2,int i64 p3] 91)).alloc (.cells #[int i64 0,int i64 0,int i64 0,int i64 0,int i64 0,string ⟨#[]⟩,string ⟨#[]⟩,string ⟨#[]⟩,int i64 0,int i64 0,int i64 0,int i64 0,int i64 0] 274));have HF:=aa (show Om w.heap.size W0 k b x t l by subst hW;refine⟨?_,?_,?_,?_,?_⟩<;>simp[go_sem]);have wm:=aa (show W0.cell? ⟨w.heap.size+1,0,none⟩=some (string sec)/\W0.cell? ⟨w.heap.size+1,1,none⟩=some (string rnd)/\W0.cell? ⟨w.heap.size+1,2,none⟩=some (string pub) by subst hW;refine⟨?_,?_,?_⟩<;>simp[go_sem]);have HP:=aa (show Zo (w.heap.size+1+1) W0 p0 p1 p2 p3 by subst hW;refine⟨?_,?_,?_,?_⟩<;>simp[go_sem]);have HB:=aa (show Below w.heap.size w W0 by subst hW;exact(((Va _).alloc (by simp) _).alloc (by simp;omega) _).alloc (by simp;omega) _);have hz:W0.heap.size<=w.heap.size+4:=by subst hW;simp
 have hz':w.heap.size+4<=W0.heap.size:=by subst hW;simp
 have Sk:=aa (show ma W0 (w.heap.size+1+1+1) [int i64 0,int i64 0,int i64 0,int i64 0,int i64 0,string ⟨#[]⟩,string ⟨#[]⟩,string ⟨#[]⟩,int i64 0,int i64 0,int i64 0,int i64 0,int i64 0] 274 by
  subst hW;have h:=ma.new (((w.alloc (.cells #[int i64 k,int i64 b,int i64 x,int i64 t,int i64 l] 26)).alloc (.cells #[string sec,string rnd,string pub] 42)).alloc (.cells #[int i64 p0,int i64 p1,int i64 p2,int i64 p3] 91)) [int i64 0,int i64 0,int i64 0,int i64 0,int i64 0,string ⟨#[]⟩,string ⟨#[]⟩,string ⟨#[]⟩,int i64 0,int i64 0,int i64 0,int i64 0,int i64 0] 274;simp only[World.size_alloc]at h;exact h)
 have HS:=aa (λ(V:World) (h:Below W0.heap.size W0 V)=>(by
  obtain⟨c0,c1,c2,c3,c4⟩:=HF.out.below h (by omega);obtain⟨d0,d1,d2,d3⟩:=HP.out.below h (by omega);exact⟨c0,c1,c2,c3,c4,(h.cell (p:=⟨w.heap.size+1,0,none⟩) (by show w.heap.size+1<_;omega)).trans wm.out.1,(h.cell (p:=⟨w.heap.size+1,1,none⟩) (by show w.heap.size+1<_;omega)).trans wm.out.2.1,(h.cell (p:=⟨w.heap.size+1,2,none⟩) (by show w.heap.size+1<_;omega)).trans wm.out.2.2,d0,d1,d2,d3⟩:V.cell? ⟨w.heap.size,0,none⟩=some (int i64 k)/\V.cell? ⟨w.heap.size,1,none⟩=some (int i64 b)/\V.cell? ⟨w.heap.size,2,none⟩=some (int i64 x)/\V.cell? ⟨w.heap.size,3,none⟩=some (int i64 t)/\V.cell? ⟨w.heap.size,4,none⟩=some (int i64 l)/\V.cell? ⟨w.heap.size+1,0,none⟩=some (string sec)/\V.cell? ⟨w.heap.size+1,1,none⟩=some (string rnd)/\V.cell? ⟨w.heap.size+1,2,none⟩=some (string pub)/\V.cell? ⟨w.heap.size+1+1,0,none⟩=some (int i64 p0)/\V.cell? ⟨w.heap.size+1+1,1,none⟩=some (int i64 p1)/\V.cell? ⟨w.heap.size+1+1,2,none⟩=some (int i64 p2)/\V.cell? ⟨w.heap.size+1+1,3,none⟩=some (int i64 p3)))
 obtain⟨c0,c1,c2,c3,c4,f0,f1,f2,d0,d1,d2,d3⟩:=HS.out W0 Vb;have HC:=aa hC;have HV:=aa hV;have HI:=aa hI;clear hC hV hI;go_enter func208,ntmps208;go_wp2_with fail;try rw[hW]
 refine(HC.out _).mono ?_
 rintro e w1 ⟨rfl,hb1⟩
 have HB1:=aa (hb1.alloc hb1.size (.cells #[int i64 a0,int i64 a1,int i64 ch,int i64 a3,int i64 a4,int i64 a5] 158));have hzz:=hb1.size;have HZ:=aa (ma.new w1 [int i64 a0,int i64 a1,int i64 ch,int i64 a3,int i64 a4,int i64 a5] 158);clear hb1 c0 c1 c2 c3 c4 f0 f1 f2 d0 d1 d2 d3 hW;obtain⟨c0,c1,c2,c3,c4,f0,f1,f2,d0,d1,d2,d3⟩:=HS.out (w1.alloc (.cells #[int i64 a0,int i64 a1,int i64 ch,int i64 a3,int i64 a4,int i64 a5] 158)) HB1.out;go_wp2_with fail;refine(HV.out _).mono ?_
 rintro e w2 ⟨rfl,hb2⟩
 have HB2:=aa (Ga HB1.out hb2 Aa);have HZ2:=aa (HZ.out.on hb2);clear hb2 c0 c1 c2 c3 c4 f0 f1 f2 d0 d1 d2 d3;obtain⟨c0,c1,c2,c3,c4,f0,f1,f2,d0,d1,d2,d3⟩:=HS.out w2 HB2.out;go_wp2_with fail;refine(HI.out _).mono ?_
 rintro e w3 ⟨rfl,hb3⟩
 have HB3:=aa (Ga HB2.out hb3 Aa);have HZ3:=aa (HZ2.out.on hb3);clear hb3 c0 c1 c2 c3 c4 f0 f1 f2 d0 d1 d2 d3;obtain⟨c0,c1,c2,c3,c4,f0,f1,f2,d0,d1,d2,d3⟩:=HS.out w3 HB3.out;have zc:=HZ3.out.cell 2;simp only[Oa,Na]at zc;have bk:=aa (Sk.out.below HB3.out (by omega));have y0:=bk.out.cell 0;have y1:=bk.out.cell 1;have y2:=bk.out.cell 2;have y3:=bk.out.cell 3;have y4:=bk.out.cell 4;have y5:=bk.out.cell 5;have y6:=bk.out.cell 6;have y7:=bk.out.cell 7;have y8:=bk.out.cell 8;have y9:=bk.out.cell 9;have Mv:=bk.out.cell 10;have jD:=bk.out.cell 11;have kD:=bk.out.cell 12;have fz:=bk.out.free;simp only[Oa,Na]at y0 y1 y2 y3 y4 y5 y6 y7 y8 y9 Mv jD kD;have nk:=aa (HB.out.trans (HB3.out.mono (by omega)));clear bk;go_wp2;refine bodyPost_ret (v:=.tuple #[.agg #[int i64 k,int i64 b,int i64 x,int i64 t,int i64 l,string sec,string rnd,string pub,int i64 p0,int i64 p1,int i64 p2,int i64 p3,int i64 ch],int i64 0]) (by simp[results,results208,go_sem,y0,y1,y2,y3,y4,y5,y6,y7,y8,y9,Mv,jD,kD]) rfl ⟨rfl,?_⟩;iterate 13 refine Below.setCell ?_ (show w.heap.size<=_ by simp<;>omega) _
 exact nk.out
def Qu (k b:Int)(pub:ByteArray)(p0 p1 p2 r:Int)(xs:List ByteArray)(q:Nat):List ByteArray:=(List.range q).map (λq=>pv k b pub p0 p1 p2 r xs q q)
theorem LP (k b:Int)(pub:ByteArray)(p0 p1 p2 r:Int)(xs:List ByteArray)(q:Nat):Qu k b pub p0 p1 p2 r xs (q+1)=Qu k b pub p0 p1 p2 r xs q++[pv k b pub p0 p1 p2 r xs q q]:=by simp[Qu,List.range_succ]
theorem KP (k b:Int)(pub:ByteArray)(p0 p1 p2 r:Int)(xs:List ByteArray):Qu k b pub p0 p1 p2 r xs ((xs.length+1)/2)=Gg k b pub p0 p1 p2 r xs:=rfl
theorem Yb0 (k x t l p0 p1 p2 p3:Int)(b:Nat)(pub:ByteArray)(hk:k=1\/k=2)(h1:1<=b)(h2:b<=16)(hs:pub.size<=16)(q0:0<=p0/\p0<=100000)(q1:0<=p1/\p1<=100000)(q2:0<=p2/\p2<=100000):∀(f:Nat) (r:Nat) (g o c:Nat) (xs:List ByteArray) (w:World) (_:r+f<=100) (_:∀(j:Nat) y,xs[j]?=some y->w.cell? ⟨g,o+j,none⟩=some (string y)) (_:g<w.heap.size) (_:xs.length<=c) (_:1<=xs.length) (_:xs.length<=2^f) (_:xs.length<=64) (_:∀y∈xs,(y.size:Int)=b),Calls prog 95 #[.agg #[int i64 k,int i64 b,int i64 x,int i64 t,int i64 l],string pub,.agg #[int i64 p0,int i64 p1,int i64 p2,int i64 p3],int i64 r,slice (some ⟨g,o,none⟩) xs.length c] w λe w'=>e=.returned (string (Qg k b pub p0 p1 p2 f r xs))/\Below w.heap.size w w':=by
 intro f
 induction f with
 |zero=>
  intro r g o c xs w _ hce hg hc hx1 iF _ _;obtain⟨y,rfl⟩:∃y,xs=[y]:=List.length_eq_one_iff.1 (by simp at iF;omega);have c0:∀o1 o2,((w.alloc o1).alloc o2).cell? ⟨g,o,none⟩=some (string y):=λo1 o2=>(World.cell?_alloc_past _ _ _ (by simp;omega)).trans ((World.cell?_alloc_past _ _ _ hg).trans (hce 0 y rfl));go_enter func95,ntmps95;go_wp2;go_ret;exact⟨rfl,(Va _).alloc (by simp) _⟩
 |succ f ih=>
  intro r g o c xs w hr hce hg hc hx1 iF Wg0 hxs;by_cases hone:xs.length=1
  ·obtain⟨y,rfl⟩:∃y,xs=[y]:=List.length_eq_one_iff.1 hone;have c0:∀o1 o2,((w.alloc o1).alloc o2).cell? ⟨g,o,none⟩=some (string y):=λo1 o2=>(World.cell?_alloc_past _ _ _ (by simp;omega)).trans ((World.cell?_alloc_past _ _ _ hg).trans (hce 0 y rfl));clear ih;go_enter func95,ntmps95;go_wp2;go_ret;exact⟨rfl,(Va _).alloc (by simp) _⟩
  ·obtain⟨i0,hi,hz0,hz1,hz2⟩:=info_parts Rw;have HI:=aa ih;have dE:=aa hxs;have lg:=aa (show 2<=xs.length by omega);obtain⟨W0,hW⟩:=Ca ((w.alloc (.cells #[int i64 k,int i64 b,int i64 x,int i64 t,int i64 l] 26)).alloc (.cells #[int i64 p0,int i64 p1,int i64 p2,int i64 p3] 91));have HF:=aa (show Om w.heap.size W0 k b x t l by subst hW;refine⟨?_,?_,?_,?_,?_⟩<;>simp[go_sem]);have HP:=aa (show Zo (w.heap.size+1) W0 p0 p1 p2 p3 by subst hW;refine⟨?_,?_,?_,?_⟩<;>simp[go_sem]);have HB:=Gc hW;have hz:W0.heap.size<=w.heap.size+2:=by subst hW;simp
   have hz':w.heap.size+2<=W0.heap.size:=by subst hW;simp
   have e0:((xs.length:Int)==0)=false:=by rw[beq_eq_false_iff_ne];omega
   have e1:((xs.length:Int)==1)=false:=by rw[beq_eq_false_iff_ne];omega
   have uk:=aa (λ(j:Nat) (y:ByteArray) (hj:xs[j]?=some y)=>(HB.out.cell (p:=⟨g,o+j,none⟩) hg).trans (hce j y hj));have HT:=aa (λV:World=>gG p0 p1 p2 p3 V q0.1 q0.2 q1.1 q1.2);have kg:=aa (λV:World=>Ti 1 p2 V (by decide) q2.1 (by omega));have Il:=aa (λV:World=>Ti 1 r V (by decide) (by omega) (by omega));have Np:=aa (λ(q:Nat) (h:q<=100) (V:World)=>Ti 1 q V (by decide) (by omega) (by omega));have HH:=aa (λ(q:Nat) (y z:ByteArray) (hy:y.size<=16) (hz:z.size<=16) (V:World)=>gz k x t l 3 b (pub++(qa 1 p0++qa 4 p1)++qa 1 p2++qa 1 r++qa 1 q++y++z) V hk h1 h2 (by simp only[ByteArray.size_append,Sa];omega) (by omega) (by omega));have Zz:=aa (λ(q:Nat) (y z:ByteArray)=>(by unfold Bv;simp only[mE]:hv k b (qa 1 3++(pub++(qa 1 p0++qa 4 p1)++qa 1 p2++qa 1 r++qa 1 q++y++z))=Bv k b pub p0 p1 p2 r q y z));have Ai:=aa (EK k b pub p0 p1 p2 r xs hk (by omega) (by omega) hs hxs)
   have Yi:Hid (Qg k b pub p0 p1 p2 (f+1) r xs=Qg k b pub p0 p1 p2 f (r+1) (Gg k b pub p0 p1 p2 r xs)):=by
    show Qg k b pub p0 p1 p2 (f+1) r xs=Qg k b pub p0 p1 p2 f (r+1) (Gg k b pub p0 p1 p2 r xs);rw[Qg,if_neg (by omega)]
   have Wj:=Sd pub (qa 1 p0++qa 4 p1) (by omega) (by simp only[ByteArray.size_append,Sa];omega);have Cj:=Sd (pub++(qa 1 p0++qa 4 p1)) (qa 1 p2) (by simp only[ByteArray.size_append,Sa];omega) (by rw[Sa];omega);have il:=Sd (pub++(qa 1 p0++qa 4 p1)++qa 1 p2) (qa 1 r) (by simp only[ByteArray.size_append,Sa];omega) (by rw[Sa];omega);have oQ:=iF;have VH:=aa oQ;clear ih hce hxs q0 q1 q2 iF oQ;rw[Yi.out];go_enter func95,ntmps95;go_wp2_with fail;try rw[hW]
   clear hW;go_loopw [11,12] (λv i wr=>∃(n q:Nat),Hid (n=2*q)/\n<=xs.length/\i=int i64 n/\Hid (wr.ownsRow W0.heap.size 9 1 v q ((Qu k b pub p0 p1 p2 r xs q).map Value.string))/\Hid (Below W0.heap.size W0 wr)) (λ_ i _=>xs.length-(intOf i).toNat)
   case atStart=>exact⟨0,0,rfl,Nat.zero_le _,rfl,World.ownsRow_nil _ _ _ _,Vb⟩
   case round=>
    obtain⟨n,q,hnq,hn,rfl,ho,hb⟩:=hrel;by_cases hlt:n+1<xs.length
    ·obtain⟨y0,hy0⟩:∃y,xs[n]?=some y:=⟨_,List.getElem?_eq_getElem (by omega)⟩;obtain⟨y1,hy1⟩:∃y,xs[n+1]?=some y:=⟨_,List.getElem?_eq_getElem hlt⟩;have z0:y0.size<=16:=by have:=dE.out y0 (List.mem_of_getElem? hy0);omega
     have z1:y1.size<=16:=by have:=dE.out y1 (List.mem_of_getElem? hy1);omega
     have zk:=aa (show pv k b pub p0 p1 p2 r xs q q=Bv k b pub p0 p1 p2 r q y0 y1 by
      unfold pv;rw[<-hnq.out,if_pos hlt,List.getD_eq_getElem?_getD,List.getD_eq_getElem?_getD,hy0,hy1];rfl)
     have HS:=aa (λ(V:World) (h':Below wr.heap.size wr V)=>(by
      have h:=Ga hb.out h' Aa;obtain⟨c0,c1,c2,c3,c4⟩:=HF.out.below h (by omega);obtain⟨d0,d1,d2,d3⟩:=HP.out.below h (by omega);exact⟨c0,c1,c2,c3,c4,d0,d1,d2,d3,(h.cell (p:=⟨g,o+n,none⟩) (by show g<_;omega)).trans (uk.out n y0 hy0),(h.cell (p:=⟨g,o+(n+1),none⟩) (by show g<_;omega)).trans (uk.out (n+1) y1 hy1),h'⟩:V.cell? ⟨w.heap.size,0,none⟩=some (int i64 k)/\V.cell? ⟨w.heap.size,1,none⟩=some (int i64 b)/\V.cell? ⟨w.heap.size,2,none⟩=some (int i64 x)/\V.cell? ⟨w.heap.size,3,none⟩=some (int i64 t)/\V.cell? ⟨w.heap.size,4,none⟩=some (int i64 l)/\V.cell? ⟨w.heap.size+1,0,none⟩=some (int i64 p0)/\V.cell? ⟨w.heap.size+1,1,none⟩=some (int i64 p1)/\V.cell? ⟨w.heap.size+1,2,none⟩=some (int i64 p2)/\V.cell? ⟨w.heap.size+1,3,none⟩=some (int i64 p3)/\V.cell? ⟨g,o+n,none⟩=some (string y0)/\V.cell? ⟨g,o+(n+1),none⟩=some (string y1)/\Below wr.heap.size wr V))
     have oM:=aa (Np.out q (by have:=hnq.out;omega));have YL:=aa (HH.out q y0 y1 z0 z1);have Yh:=Sd (pub++(qa 1 p0++qa 4 p1)++qa 1 p2++qa 1 r) (qa 1 q) (by simp only[ByteArray.size_append,Sa];omega) (by rw[Sa];omega);have Nl:=Sd (pub++(qa 1 p0++qa 4 p1)++qa 1 p2++qa 1 r++qa 1 q) y0 (by simp only[ByteArray.size_append,Sa];omega) (by omega);have Fu:=Sd (pub++(qa 1 p0++qa 4 p1)++qa 1 p2++qa 1 r++qa 1 q++y0) y1 (by simp only[ByteArray.size_append,Sa];omega) (by omega);have hn0:(0:Int)<=(n:Int):=by omega
     have hn1:(n:Int)<(xs.length:Int):=by omega
     have hn2:(n:Int)+1<(xs.length:Int):=by omega
     have hn3:(0:Int)<=(n:Int)+1:=by omega
     have hw1:IntKind.i64.wrap ((n:Int)+1)=(n:Int)+1:=by rw[IntKind.wrap_i64];omega
     have hdv:Int.tdiv (n:Int) 2=(q:Int):=by rw[Int.tdiv_eq_ediv_of_nonneg hn0];have:=hnq.out;omega
     have hwq:IntKind.i64.wrap (q:Int)=(q:Int):=by rw[IntKind.wrap_i64];have:=hnq.out;omega
     have htn:((n:Int)+1).toNat=n+1:=by omega
     clear hy0 hy1;go_wp2_with fail;go_region_held3 (λV=>V.cell? ⟨w.heap.size,0,none⟩=some (int i64 k)/\V.cell? ⟨w.heap.size,1,none⟩=some (int i64 b)/\V.cell? ⟨w.heap.size,2,none⟩=some (int i64 x)/\V.cell? ⟨w.heap.size,3,none⟩=some (int i64 t)/\V.cell? ⟨w.heap.size,4,none⟩=some (int i64 l)/\V.cell? ⟨w.heap.size+1,0,none⟩=some (int i64 p0)/\V.cell? ⟨w.heap.size+1,1,none⟩=some (int i64 p1)/\V.cell? ⟨w.heap.size+1,2,none⟩=some (int i64 p2)/\V.cell? ⟨w.heap.size+1,3,none⟩=some (int i64 p3)/\V.cell? ⟨g,o+n,none⟩=some (string y0)/\V.cell? ⟨g,o+(n+1),none⟩=some (string y1)/\Below wr.heap.size wr V) (first|exact HS.out _ hS5|exact HS.out _ Bc|exact HS.out _ Uc|exact HS.out _ hS2|exact HS.out _ hS1|exact HS.out _ (Below.refl wr.heap.size wr).drew) (first|(go_at_call 167;refine(HT.out _).mono ?_;rintro e w1 ⟨rfl,hb1⟩;have hS1:=Ga (Below.refl wr.heap.size wr).drew hb1 Aa)|(go_at_call 87;have hx:=Uc;clear hx;refine(oM.out _).mono ?_;rintro e w4 ⟨rfl,hb4⟩;have Bc:=Ga Uc hb4 Aa)|(go_at_call 87;have hx:=hS2;clear hx;refine(Il.out _).mono ?_;rintro e w3 ⟨rfl,hb3⟩;have Uc:=Ga hS2 hb3 Aa)|(go_at_call 87;refine(kg.out _).mono ?_;rintro e w2 ⟨rfl,hb2⟩;have hS2:=Ga hS1 hb2 Aa)|(go_at_call 90;refine(YL.out _).mono ?_;rintro e w5 ⟨rfl,hb5⟩;have hS5:=Ga Bc hb5 Aa));have je:=aa (Ga hb.out hS5 Aa);have Yn:=aa (ho.out.kept (gB hS5) (by cases Value.ownBlock _ with|none=>exact .inl rfl|some _=>exact .inr (by simp)));rw[Zz.out q y0 y1];have Ld:=aa (LP k b pub p0 p1 p2 r xs q);rw[zk.out]at Ld;clear hS1 hS2 Uc Bc hS5 hb1 hb2 hb3 hb4 hb5 ho hb zk HS oM YL Yh Nl Fu;generalize Bv k b pub p0 p1 p2 r q y0 y1=en at Ld⊢;go_wp2_with (at_builtin;refine wpList_append_own _ rfl _ _ 27 rfl W0.heap.size 9 i0 (string ⟨#[]⟩) 1 16 underlying27 hi hz0 hz1 hz2 rfl (by decide) _ _ _ rfl (Yn.out.alloc _) ⟨w5.heap.size,0,none⟩ 1 1 [_] rfl rfl (Mo _ _ _) ?c2 ?c3 ?c4 ?c5 ?_)
     case c2=>intro y hy;simp at hy;subst hy;rfl
     case c3=>unfold maxLen;have:=hnq.out;omega
     case c4=>have:=hnq.out;omega
     case c5=>have:=je.out.size;simp;omega
     intro v' w6 Cg hgrow _;have Ub:=aa ((je.out.alloc je.out.size _).grown hgrow (by have:=je.out.size;simp;omega) (λp hp=>(Mr Yn.out p hp).1))
     have Rj:Hid (w6.ownsRow W0.heap.size 9 1 v' (q+1) ((Qu k b pub p0 p1 p2 r xs (q+1)).map Value.string)):=by
      show w6.ownsRow W0.heap.size 9 1 v' (q+1) ((Qu k b pub p0 p1 p2 r xs (q+1)).map Value.string);rw[Ld.out,List.map_append];exact Cg
     clear Cg hgrow Yn je hdv hwq hw1 htn;go_wp2;go_roundw
     case rel=>
      have R:∃(n' q':Nat),Hid (n'=2*q')/\n'<=xs.length/\int i64 ((n:Int)+2)=int i64 n'/\Hid (w6.ownsRow W0.heap.size 9 1 v' q' ((Qu k b pub p0 p1 p2 r xs q').map Value.string))/\Hid (Below W0.heap.size W0 w6):=⟨n+2,q+1,(by have:=hnq.out;show n+2=2*(q+1);omega),by omega,by go_num,Rj.out,Ub.out⟩;first|exact R|((repeat apply Exists.intro);exact⟨R,rfl⟩)
     case measure=>simp[intOf];omega
    ·have BD:=aa (λ(g' c':Nat) (V:World) (hb':Below W0.heap.size W0 V) (hg':g'<V.heap.size) (hc':(Gg k b pub p0 p1 p2 r xs).length<=c') (Gn:∀(j:Nat) y,(Gg k b pub p0 p1 p2 r xs)[j]?=some y->V.cell? ⟨g',0+j,none⟩=some (string y))=>HI.out (r+1) g' 0 c' (Gg k b pub p0 p1 p2 r xs) V (by omega) Gn hg' hc' (by rw[kz];omega) (by rw[kz];have:=VH.out;rw[Nat.pow_succ]at this;omega) (by rw[kz];omega) Ai.out);have hrl:=kz k b pub p0 p1 p2 r xs;by_cases hev:n=xs.length
     ·have HO:=ho.out;rw[show q=(xs.length+1)/2 by have:=hnq.out;omega,KP,<-hrl]at HO;obtain⟨g',c',rfl,hcc,hg1,hg2,Gn⟩:=xx HO (by omega);have Tv:=aa (BD.out g' c' wr hb.out hg2 hcc Gn);obtain⟨c0,c1,c2,c3,c4⟩:=HF.out.below hb.out (by omega);obtain⟨d0,d1,d2,d3⟩:=HP.out.below hb.out (by omega);have hmo:Int.tmod (xs.length:Int) 2=0:=by rw[Int.tmod_eq_emod_of_nonneg (by omega)];have:=hnq.out;omega
      have Ud:=aa (HB.out.trans (hb.out.mono (by omega)));clear Gn BD hrl HO ho hb;obtain⟨zs,hzs⟩:=Ca (Gg k b pub p0 p1 p2 r xs);rw[hzs]at Tv hcc⊢;have XH:=aa hzs;clear hzs;have hr1:((r+1:Nat):Int)=(r:Int)+1:=by omega
      rw[hr1]at Tv;go_wp2_with fail;refine Tv.out.mono ?_
      rintro e w1 ⟨rfl,hb1⟩
      have HB1:=aa (Ud.out.trans (hb1.mono Ud.out.size));clear hb1 c0 c1 c2 c3 c4 d0 d1 d2 d3;go_wp2;go_ret;exact⟨by rw[XH.out];rfl,HB1.out⟩
     ·have hod:n+1=xs.length:=by omega
      obtain⟨y0,hy0⟩:∃y,xs[n]?=some y:=⟨_,List.getElem?_eq_getElem (by omega)⟩
      have zk:=aa (show pv k b pub p0 p1 p2 r xs q q=y0 by
       unfold pv;rw[<-hnq.out,if_neg (by omega),List.getD_eq_getElem?_getD,hy0];rfl)
      have Ld:=aa (LP k b pub p0 p1 p2 r xs q);rw[zk.out]at Ld;obtain⟨c0,c1,c2,c3,c4⟩:=HF.out.below hb.out (by omega);obtain⟨d0,d1,d2,d3⟩:=HP.out.below hb.out (by omega);have cy:wr.cell? ⟨g,o+n,none⟩=some (string y0):=(hb.out.cell (p:=⟨g,o+n,none⟩) (by show g<_;omega)).trans (uk.out n y0 hy0);have hmo:Int.tmod (xs.length:Int) 2=1:=by rw[Int.tmod_eq_emod_of_nonneg (by omega)];have:=hnq.out;omega
      have htl:((xs.length:Int)-1).toNat=n:=by omega
      have hl0:(0:Int)<=(xs.length:Int)-1:=by omega
      have Ud:=aa (HB.out.trans (hb.out.mono (by omega)));clear hy0 zk;go_wp2_with (at_builtin;refine wpList_append_own _ rfl _ _ 27 rfl W0.heap.size 9 i0 (string ⟨#[]⟩) 1 16 underlying27 hi hz0 hz1 hz2 rfl (by decide) _ _ _ rfl (ho.out.alloc _) ⟨wr.heap.size,0,none⟩ 1 1 [_] rfl rfl (Mo _ _ _) ?c2 ?c3 ?c4 ?c5 ?_)
      case c2=>intro y hy;simp at hy;subst hy;rfl
      case c3=>unfold maxLen;have:=hnq.out;omega
      case c4=>have:=hnq.out;omega
      case c5=>have:=hb.out.size;simp;omega
      intro v' w6 Cg hgrow _;have Ub:=aa ((hb.out.alloc hb.out.size _).grown hgrow (by have:=hb.out.size;simp;omega) (λp hp=>(Mr ho.out p hp).1))
      have Rj:Hid (w6.ownsRow W0.heap.size 9 1 v' (Gg k b pub p0 p1 p2 r xs).length ((Gg k b pub p0 p1 p2 r xs).map Value.string)):=by
       show w6.ownsRow W0.heap.size 9 1 v' (Gg k b pub p0 p1 p2 r xs).length ((Gg k b pub p0 p1 p2 r xs).map Value.string);rw[hrl,<-KP,show(xs.length+1)/2=q+1 by have:=hnq.out;omega,Ld.out,List.map_append];exact Cg
      obtain⟨g',c',rfl,hcc,hg1,hg2,Gn⟩:=xx Rj.out (by omega);have Tv:=aa (BD.out g' c' w6 Ub.out hg2 hcc Gn);clear c0 c1 c2 c3 c4 d0 d1 d2 d3 cy Gn BD Cg hgrow Rj ho hb Ld Ud;obtain⟨c0,c1,c2,c3,c4⟩:=HF.out.below Ub.out (by omega);obtain⟨d0,d1,d2,d3⟩:=HP.out.below Ub.out (by omega);have Ud:=aa (HB.out.trans (Ub.out.mono (by omega)));clear Ub hrl;obtain⟨zs,hzs⟩:=Ca (Gg k b pub p0 p1 p2 r xs);rw[hzs]at Tv hcc⊢;have XH:=aa hzs;clear hzs;have hr1:((r+1:Nat):Int)=(r:Int)+1:=by omega
      rw[hr1]at Tv;go_wp2_with fail;refine Tv.out.mono ?_
      rintro e w1 ⟨rfl,hb1⟩
      have HB1:=aa (Ud.out.trans (hb1.mono Ud.out.size));clear hb1 c0 c1 c2 c3 c4 d0 d1 d2 d3;go_wp2;go_ret;exact⟨by rw[XH.out];rfl,HB1.out⟩
theorem XK (D:Nat)(tm:Int)(w:World)(h5:w.cell? ⟨D,5,none⟩=some (int i64 tm)):Calls prog 181 #[pointer (some ⟨D,0,none⟩)] w λe w'=>e=.returned (int i64 tm)/\Below w.heap.size w w':=by
 go_enter func181,ntmps181;go_wp2;go_ret;exact⟨rfl,Vb⟩
theorem QC (D:Nat)(a:Option Addr)(n c:Nat)(w:World)(h5:w.cell? ⟨D,0,none⟩=some (slice a n c)):Calls prog 177 #[pointer (some ⟨D,0,none⟩)] w λe w'=>e=.returned (int i64 n)/\Below w.heap.size w w':=by
 go_enter func177,ntmps177;go_wp2;go_ret;exact⟨rfl,Vb⟩
theorem zw (m:Int)(w:World)(h1:1<=m)(h2:m<=64):Calls prog 115 #[int i64 m] w λe w'=>e=.returned (.bool true)/\Below w.heap.size w w':=by
 have e1:decide (1<=m)=true:=decide_eq_true h1;have e2:decide (m<=64)=true:=decide_eq_true h2;go_enter func115,ntmps115;go_wp2;go_ret;exact⟨rfl,Vb⟩
theorem Ko (S D:Nat)(tm:Int)(w:World)(hS:S<w.heap.size)(hD:D<w.heap.size)(h0:w.cell? ⟨S,0,none⟩=some (pointer (some ⟨D,0,none⟩)))(h1:w.cell? ⟨S,1,none⟩=some (int i64 tm))(h18:w.cell? ⟨S,18,none⟩=some (.bool false))(h5:w.cell? ⟨D,5,none⟩=some (int i64 tm)):Calls prog 114 #[pointer (some ⟨S,0,none⟩)] w λe w'=>e=.returned (.bool false)/\Below w.heap.size w w':=by
 have HT:=aa (λ(V:World) (hb:Below w.heap.size w V)=>XK D tm V ((hb.cell (p:=⟨D,5,none⟩) hD).trans h5));have HS:=aa (λ(V:World) (hb:Below w.heap.size w V)=>(⟨(hb.cell (p:=⟨S,0,none⟩) hS).trans h0,(hb.cell (p:=⟨S,1,none⟩) hS).trans h1,(hb.cell (p:=⟨S,18,none⟩) hS).trans h18⟩:V.cell? ⟨S,0,none⟩=some (pointer (some ⟨D,0,none⟩))/\V.cell? ⟨S,1,none⟩=some (int i64 tm)/\V.cell? ⟨S,18,none⟩=some (.bool false)));have HB:=aa (Below.refl w.heap.size w).drew;have hS:=(Below.refl w.heap.size w).drew;clear h0 h1 h18 h5 hD;go_enter func114,ntmps114;go_wp2_with fail;go_region_held3 (λV=>V.cell? ⟨S,0,none⟩=some (pointer (some ⟨D,0,none⟩))/\V.cell? ⟨S,1,none⟩=some (int i64 tm)/\V.cell? ⟨S,18,none⟩=some (.bool false)) (exact HS.out _ hS) (first|(go_at_call 181;refine(HT.out _ hS).mono ?_;rintro e wN ⟨rfl,hbN⟩;have hS:=Ga hS hbN Aa));have Td:=aa hS;clear hS;go_wp2;go_ret;exact⟨rfl,Td.out⟩
theorem wO (fs:List Nat)(n O SB:Nat)(I:Nat->World->Prop)(J:Int->World->Prop)(w:World)(hl:fs.length=n)(hn:n<=100)(h0:I 0 w)
  (hen:∀(j f:Nat),fs[j]?=some f->∀(args:Array Value) (V:World),Sem.run prog (callFunc f args) V=.ok (.enter f args) V)
  (hst:∀j f V,I j V->fs[j]?=some f->V.cell? ⟨SB,j,none⟩=some (.func (.func f) #[] #[]))
  (hcall:∀j f V,I j V->fs[j]?=some f->Calls prog f #[pointer (some ⟨O,0,none⟩)] V λe V'=>∃c,e=.returned (int i64 c)/\(c=0->I (j+1) V')/\(c≠0->J c V')):Calls prog 180 #[pointer (some ⟨O,0,none⟩),slice (some ⟨SB,0,none⟩) n n] w λe w'=>∃c,e=.returned (int i64 c)/\(c=0->I n w')/\(c≠0->J c w'):=by
 have HC:=aa hcall;have HST:=aa hst;have SG:=aa hen;have H0:=aa h0;have HL:=aa hl;clear hcall hst h0 hl hen;go_enter func180,ntmps180;go_wp2_with fail;go_loopw [10] (λi wr=>∃m:Nat,m<=n/\i=int i64 m/\Hid (I m wr)) (λi _=>n-(intOf i).toNat)
 case atStart=>exact⟨0,Nat.zero_le _,rfl,H0.out⟩
 case round=>
  obtain⟨m,hm,rfl,hI⟩:=hrel;by_cases hlt:m<n
  ·obtain⟨f,hf⟩:∃f,fs[m]?=some f:=⟨_,List.getElem?_eq_getElem (by rw[HL.out];exact hlt)⟩;have hcell:=HST.out m f wr hI.out hf;have Ux:=aa (HC.out m f wr hI.out hf);have hent:=SG.out m f hf;clear hf;have hms:(m:Int)<(n:Int):=by omega
   go_wp2_with fail;refine Ux.out.mono ?_
   rintro e w1 ⟨c,rfl,hc1,hc2⟩
   by_cases hc:c=0
   ·have HI:=aa (hc1 hc);clear hc1 hc2;subst hc;go_wp2;go_roundw
    case rel=>
     have R:∃m':Nat,m'<=n/\int i64 ((m:Int)+1)=int i64 m'/\Hid (I m' w1):=⟨m+1,by omega,by go_num,HI.out⟩;first|exact R|((repeat apply Exists.intro);exact⟨R,rfl⟩)
    case measure=>simp[intOf];omega
   ·have HJ:=aa (hc2 hc);have e1:(c==0)=false:=by simpa using hc
    have e2:(c !=0)=true:=by simpa using hc
    have Qb:=aa hc;clear hc1 hc2 hc;go_wp2;go_ret;exact⟨c,rfl,λh=>absurd h Qb.out,λ_=>HJ.out⟩
  ·obtain rfl:m=n:=by omega
   go_wp2;go_ret;exact⟨0,rfl,λ_=>hI.out,λh=>absurd rfl h⟩
end Go.Proofs.YtgaoeoijdpdjiabGreatDoor
