import Derived.Test.YtgaoeoijdpdjiabGreatDoorPart21
import Derived.Test.YtgaoeoijdpdjiabGreatDoorPart22
import Derived.Test.YtgaoeoijdpdjiabGreatDoorPart23
open Go.Value (int string pointer slice)
open Go.IntKind (i64)
open Go.Proofs.Tryz
set_option maxRecDepth 20000
set_option maxHeartbeats 8000000
namespace Go.Proofs.YtgaoeoijdpdjiabGreatDoor
open Go.RowKit
theorem Ju {D E:Nat}{pv:Value}{w w':World}(h:za (λk=>k=D) w w'):za (uh D E pv) w w':=h.mono (λ_ _ e=>.inl e)
theorem we0 (n:Int)(w:World)(h:n<1\/8<n):Calls prog 26 #[int i64 n] w λe w'=>e=.returned (.tuple #[pointer none,int i64 2])/\w'=w:=by
 have HN:=Qa (QY n w h);clear h;go_enter func26,ntmps26;go_wp2_with fail;refine HN.out.mono ?_
 rintro e w1 ⟨rfl,rfl⟩
 go_wp2;go_ret2;exact⟨rfl,rfl⟩
def Qc (st:Da):Int:=if st.trouble=1 then 5 else 0
def Cb (st:Da):Da:=if st.trouble=1 then{st with trouble:=Ve st.trouble}else{st with trouble:=Ve st.trouble,dur:=Hm st st.pend.length,pend:=[],syncs:=st.syncs+1}
def yn (st:Da)(K:List Bool):Da:={st with trouble:=0,dur:=jq st K st.pend.length,pend:=[],term:=st.term+1}
abbrev Gb:Type:=Nat×ByteArray×Nat
def uF (p:Gb):List Value:=[int i64 (p.1:Int),string p.2.1,int i64 (p.2.2:Int)]
def Eh (L:List Gb):List Value:=L.flatMap uF
def Af (n:Int)(lv:Value)(due sy en:Int):List Value:=[int i64 n,lv,int i64 due,int i64 sy,int i64 en]
theorem lC {L:List Gb}{j:Nat}{p:Gb}(h:L[j]?=some p)(i:Nat)(hi:i<3):(Eh L)[j*3+i]?=(uF p)[i]?:=Iu uF 3 L j p i (λ_ _=>rfl) h hi
theorem X7 (L:List Gb)(p:Gb):Eh (L++[p])=Eh L++[int i64 (p.1:Int),string p.2.1,int i64 (p.2.2:Int)]:=by simp[Eh,uF]
def zf (L:List Gb):Nat:=(L.filter λp=>p.2.2==0).length
theorem PR {L:List Gb}{j:Nat}{p:Gb}(h:L[j]?=some p):zf (L.take (j+1))=zf (L.take j)+if p.2.2==0 then 1 else 0:=by
 obtain⟨hj,rfl⟩:=List.getElem?_eq_some_iff.1 h;rw[List.take_succ_eq_append_getElem hj];unfold zf;rw[List.filter_append,List.length_append]
 cases hp:(L[j].2.2==0)<;>simp[List.filter,hp]
theorem vK (L:List Gb):zf L<=L.length:=List.length_filter_le _ _
theorem xc0 (n:Int)(w:World)(h:n<1\/8<n):Calls prog 140 #[int i64 n] w λe w'=>e=.returned (.tuple #[pointer none,int i64 2])/\w'=w:=by
 rcases h with h|h
 ·go_enter func140,ntmps140;go_wp2;go_ret2;exact⟨rfl,rfl⟩
 ·have h1:¬n<1:=by omega
  go_enter func140,ntmps140;go_wp2;go_ret2;exact⟨rfl,rfl⟩
theorem yc0 (n:Int)(w:World)(h1:1<=n)(h2:n<=8):Calls prog 140 #[int i64 n] w λe w'=>e=.returned (.tuple #[pointer (some ⟨w.heap.size,0,none⟩),int i64 0])/\ma w' w.heap.size (Af n (slice none 0 0) 0 0 0) 293/\Below w.heap.size w w':=by
 have e1:¬n<1:=by omega
 have e2:¬8<n:=by omega
 go_enter func140,ntmps140;go_wp2;go_ret2;exact⟨rfl,ma.new w _ _,Va _⟩
theorem dz (R:Nat)(n:Int)(lv:Value)(due sy en:Int)(w:World)(hB:ma w R (Af n lv due sy en) 293)(h0:0<=due)(h1:due<=9223372036854775807):Calls prog 221 #[pointer (some ⟨R,0,none⟩)] w λe w'=>e=.returned (.bool (due==1))/\ma w' R (Af n lv (if due=0 then 0 else due-1) sy en) 293/\za (λq=>q=R) w w':=by
 have c2:=Ha hB;have f2:w.frozen? ⟨R,2,none⟩=false:=hB.free 2;have HB:=aa hB;clear hB;by_cases hd:due=0
 ·subst hd;clear f2;go_enter func221,ntmps221;go_wp2;go_ret;exact⟨rfl,HB.out,za.refl _ _⟩
 ·have hp:0<due:=by omega
  have hw:IntKind.i64.wrap (due-1)=due-1:=by rw[IntKind.wrap_i64]<;>omega
  have HS:=aa (HB.out.set 2 (int i64 (due-1)));rw[if_neg hd];clear h0 h1;go_enter func221,ntmps221;go_wp2;go_ret;exact⟨rfl,HS.out,Jc w ⟨R,2,none⟩ _⟩
theorem FK (lo R:Nat)(n:Int)(la:Option Addr)(lc:Nat)(due sy en:Int)(L:List Gb)(w:World)(hB:ma w R (Af n (slice la L.length lc) due sy en) 293)(hr:w.ownsRow lo 295 3 (slice la L.length lc) L.length (Eh L))(hL:L.length<=2199023255552):Calls prog 222 #[pointer (some ⟨R,0,none⟩)] w λe w'=>e=.returned (int i64 (zf L:Int))/\w'=w:=by
 obtain⟨m,hm⟩:=Ca (L.length);rw[hm]at hB hr hL;have HM:=aa hm;have c1:=Ja hB;have HR:=aa hr;have HL:=aa hL;clear hB hm hr hL;go_enter func222,ntmps222;go_wp2_with fail;go_loopw [3,4] (λc i wr=>∃j:Nat,j<=m/\c=int i64 (zf (L.take j):Int)/\i=int i64 j/\wr=w) (λ_ i _=>m-(intOf i).toNat)
 case atStart=>exact⟨0,Nat.zero_le _,rfl,rfl,rfl⟩
 case round=>
  obtain⟨j,hj,rfl,rfl,rfl⟩:=hrel;by_cases hlt:j<m
  ·obtain⟨p,hp⟩:∃p,L[j]?=some p:=⟨_,List.getElem?_eq_getElem (by rw[HM.out];exact hlt)⟩;obtain⟨g,cap,hgv,_,_⟩:=HR.out.form (by omega);simp only[Value.slice.injEq]at hgv;obtain⟨rfl,_,rfl⟩:=hgv
   have y2:wr.cell? ⟨g,j*3+2,none⟩=some (int i64 (p.2.2:Int)):=by
    rw[HR.out.cellAt (j*3+2) (by omega)];exact lC hp 2 (by decide)
   have hpt:=PR hp;have hms:(j:Int)<(m:Int):=by omega
   have hjm:(j:Int)<2199023255552:=by have:=HL.out;omega
   have hpl:zf (L.take j)<=j:=Nat.le_trans (vK _) (by simp;omega);obtain⟨c,hc⟩:=Ca (zf (L.take j));rw[hc]at hpt hpl⊢;have hw:IntKind.i64.wrap ((c:Int)+1)=(c:Int)+1:=by rw[IntKind.wrap_i64]<;>omega
   have dw:=aa hpt;have HC:=aa hc;clear hp hpt hc;by_cases h0:p.2.2=0
   ·have e1:((p.2.2:Int)==0)=true:=by simp[h0]
    have e2:(p.2.2==0)=true:=by simp[h0]
    clear h0;go_wp2;go_roundw
    case rel=>exact⟨j+1,by omega,by rw[dw.out,e2];rfl,by go_num,by trivial⟩
    case measure=>simp[intOf];omega
   ·have e1:((p.2.2:Int)==0)=false:=by simpa using h0
    have e2:(p.2.2==0)=false:=by simpa using h0
    clear h0;go_wp2;go_roundw
    case rel=>exact⟨j+1,by omega,by rw[dw.out,e2];rfl,by go_num,by trivial⟩
    case measure=>simp[intOf];omega
  ·obtain rfl:j=m:=by omega
   have hms:¬(j:Int)<(j:Int):=by omega
   have e:zf (L.take j)=zf L:=by rw[<-HM.out,List.take_length]
   have HE:=aa e;clear e;go_wp2;go_ret;exact⟨congrArg (λq:Nat=>Ending.returned (int i64 (q:Int))) HE.out,rfl⟩
theorem yd0 (R:Nat)(k:Int)(w:World)(h:k<0):Calls prog 144 #[pointer (some ⟨R,0,none⟩),int i64 k] w λe w'=>e=.returned (int i64 2)/\w'=w:=by
 go_enter func144,ntmps144;go_wp2;go_ret;exact⟨rfl,rfl⟩
theorem zd0 (R:Nat)(k:Int)(n:Int)(lv:Value)(due sy en:Int)(w:World)(hB:ma w R (Af n lv due sy en) 293)(h:0<=k):Calls prog 144 #[pointer (some ⟨R,0,none⟩),int i64 k] w λe w'=>e=.returned (int i64 0)/\ma w' R (Af n lv k sy en) 293/\za (λq=>q=R) w w':=by
 have h0:¬k<0:=by omega
 have c2:=Ha hB;have f2:w.frozen? ⟨R,2,none⟩=false:=hB.free 2;have HS:=aa (hB.set 2 (int i64 k));clear hB;go_enter func144,ntmps144;go_wp2;go_ret;exact⟨rfl,HS.out,Jc w ⟨R,2,none⟩ _⟩
theorem L9 (k b x t l a0 a1 ch a3 a4 a5:Int)(sec rnd pub:ByteArray)(p0 p1 p2 p3:Int)(w:World)(hC:∀V:World,Calls prog 155 #[.agg #[int i64 k,int i64 b,int i64 x,int i64 t,int i64 l]] V λe w'=>e=.returned (.tuple #[.agg #[int i64 a0,int i64 a1,int i64 ch,int i64 a3,int i64 a4,int i64 a5],int i64 0])/\Below V.heap.size V w')(hV:∀V:World,Calls prog 265 #[.agg #[int i64 k,int i64 b,int i64 x,int i64 t,int i64 l],.agg #[string sec,string rnd,string pub]] V λe w'=>e=.returned (.bool false)/\Below V.heap.size V w'):Calls prog 208 #[.agg #[int i64 k,int i64 b,int i64 x,int i64 t,int i64 l],.agg #[string sec,string rnd,string pub],.agg #[int i64 p0,int i64 p1,int i64 p2,int i64 p3]] w λe w'=>e=.returned (.tuple #[.agg #[int i64 0,int i64 0,int i64 0,int i64 0,int i64 0,string ⟨#[]⟩,string ⟨#[]⟩,string ⟨#[]⟩,int i64 0,int i64 0,int i64 0,int i64 0,int i64 0],int i64 2])/\Below w.heap.size w w':=by
 obtain⟨W0,hW⟩:=Ca ((((w.alloc (.cells #[int i64 k,int i64 b,int i64 x,int i64 t,int i64 l] 26)).alloc (.cells #[string sec,string rnd,string pub] 42)).alloc (.cells #[int i64 p0,int i64 p1,int i64 p2,int i64 p3] 91)).alloc (.cells #[int i64 0,int i64 0,int i64 0,int i64 0,int i64 0,string ⟨#[]⟩,string ⟨#[]⟩,string ⟨#[]⟩,int i64 0,int i64 0,int i64 0,int i64 0,int i64 0] 274));have HF:=aa (show Om w.heap.size W0 k b x t l by subst hW;refine⟨?_,?_,?_,?_,?_⟩<;>simp[go_sem]);have wm:=aa (show W0.cell? ⟨w.heap.size+1,0,none⟩=some (string sec)/\W0.cell? ⟨w.heap.size+1,1,none⟩=some (string rnd)/\W0.cell? ⟨w.heap.size+1,2,none⟩=some (string pub) by subst hW;refine⟨?_,?_,?_⟩<;>simp[go_sem]);have HP:=aa (show Zo (w.heap.size+1+1) W0 p0 p1 p2 p3 by subst hW;refine⟨?_,?_,?_,?_⟩<;>simp[go_sem]);have HB:=aa (show Below w.heap.size w W0 by subst hW;exact(((Va _).alloc (by simp) _).alloc (by simp;omega) _).alloc (by simp;omega) _);have hz:W0.heap.size<=w.heap.size+4:=by subst hW;simp
 have hz':w.heap.size+4<=W0.heap.size:=by subst hW;simp
 have Sk:=aa (show ma W0 (w.heap.size+1+1+1) [int i64 0,int i64 0,int i64 0,int i64 0,int i64 0,string ⟨#[]⟩,string ⟨#[]⟩,string ⟨#[]⟩,int i64 0,int i64 0,int i64 0,int i64 0,int i64 0] 274 by
  subst hW;have h:=ma.new (((w.alloc (.cells #[int i64 k,int i64 b,int i64 x,int i64 t,int i64 l] 26)).alloc (.cells #[string sec,string rnd,string pub] 42)).alloc (.cells #[int i64 p0,int i64 p1,int i64 p2,int i64 p3] 91)) [int i64 0,int i64 0,int i64 0,int i64 0,int i64 0,string ⟨#[]⟩,string ⟨#[]⟩,string ⟨#[]⟩,int i64 0,int i64 0,int i64 0,int i64 0,int i64 0] 274;simp only[World.size_alloc]at h;exact h)
 have HS:=aa (λ(V:World) (h:Below W0.heap.size W0 V)=>(by
  obtain⟨c0,c1,c2,c3,c4⟩:=HF.out.below h (by omega);obtain⟨d0,d1,d2,d3⟩:=HP.out.below h (by omega);exact⟨c0,c1,c2,c3,c4,(h.cell (p:=⟨w.heap.size+1,0,none⟩) (by show w.heap.size+1<_;omega)).trans wm.out.1,(h.cell (p:=⟨w.heap.size+1,1,none⟩) (by show w.heap.size+1<_;omega)).trans wm.out.2.1,(h.cell (p:=⟨w.heap.size+1,2,none⟩) (by show w.heap.size+1<_;omega)).trans wm.out.2.2,d0,d1,d2,d3⟩:V.cell? ⟨w.heap.size,0,none⟩=some (int i64 k)/\V.cell? ⟨w.heap.size,1,none⟩=some (int i64 b)/\V.cell? ⟨w.heap.size,2,none⟩=some (int i64 x)/\V.cell? ⟨w.heap.size,3,none⟩=some (int i64 t)/\V.cell? ⟨w.heap.size,4,none⟩=some (int i64 l)/\V.cell? ⟨w.heap.size+1,0,none⟩=some (string sec)/\V.cell? ⟨w.heap.size+1,1,none⟩=some (string rnd)/\V.cell? ⟨w.heap.size+1,2,none⟩=some (string pub)/\V.cell? ⟨w.heap.size+1+1,0,none⟩=some (int i64 p0)/\V.cell? ⟨w.heap.size+1+1,1,none⟩=some (int i64 p1)/\V.cell? ⟨w.heap.size+1+1,2,none⟩=some (int i64 p2)/\V.cell? ⟨w.heap.size+1+1,3,none⟩=some (int i64 p3)))
 obtain⟨c0,c1,c2,c3,c4,f0,f1,f2,d0,d1,d2,d3⟩:=HS.out W0 Vb;have HC:=aa hC;have HV:=aa hV;clear hC hV;go_enter func208,ntmps208;go_wp2_with fail;try rw[hW]
 refine(HC.out _).mono ?_
 rintro e w1 ⟨rfl,hb1⟩
 have HB1:=aa (hb1.alloc hb1.size (.cells #[int i64 a0,int i64 a1,int i64 ch,int i64 a3,int i64 a4,int i64 a5] 158));have hzz:=hb1.size;have HZ:=aa (ma.new w1 [int i64 a0,int i64 a1,int i64 ch,int i64 a3,int i64 a4,int i64 a5] 158);clear hb1 c0 c1 c2 c3 c4 f0 f1 f2 d0 d1 d2 d3 hW;obtain⟨c0,c1,c2,c3,c4,f0,f1,f2,d0,d1,d2,d3⟩:=HS.out (w1.alloc (.cells #[int i64 a0,int i64 a1,int i64 ch,int i64 a3,int i64 a4,int i64 a5] 158)) HB1.out;go_wp2_with fail;refine(HV.out _).mono ?_
 rintro e w2 ⟨rfl,hb2⟩
 have HB2:=aa (Ga HB1.out hb2 Aa);have HZ2:=aa (HZ.out.on hb2);clear hb2 c0 c1 c2 c3 c4 f0 f1 f2 d0 d1 d2 d3;have bk:=aa (Sk.out.below HB2.out (by omega));have y0:=bk.out.cell 0;have y1:=bk.out.cell 1;have y2:=bk.out.cell 2;have y3:=bk.out.cell 3;have y4:=bk.out.cell 4;have y5:=bk.out.cell 5;have y6:=bk.out.cell 6;have y7:=bk.out.cell 7;have y8:=bk.out.cell 8;have y9:=bk.out.cell 9;have Mv:=bk.out.cell 10;have jD:=bk.out.cell 11;have kD:=bk.out.cell 12;have fz:=bk.out.free;simp only[Oa,Na]at y0 y1 y2 y3 y4 y5 y6 y7 y8 y9 Mv jD kD;have nk:=aa (HB.out.trans (HB2.out.mono (by omega)));clear bk;go_wp2;refine bodyPost_ret (v:=.tuple #[.agg #[int i64 0,int i64 0,int i64 0,int i64 0,int i64 0,string ⟨#[]⟩,string ⟨#[]⟩,string ⟨#[]⟩,int i64 0,int i64 0,int i64 0,int i64 0,int i64 0],int i64 2]) (by simp[results,results208,go_sem,y0,y1,y2,y3,y4,y5,y6,y7,y8,y9,Mv,jD,kD]) rfl ⟨rfl,?_⟩;iterate 13 refine Below.setCell ?_ (show w.heap.size<=_ by simp<;>omega) _
 exact nk.out
theorem jS (k:Int)(n:Nat)(s:ByteArray)(w:World)(hk:k=1\/k=2)(h1:1<=n)(h2:n<=16)(hs:s.size<=400):Calls prog 165 #[int i64 k,int i64 n,string s] w λe w'=>e=.returned (string (hv k n s))/\Below w.heap.size w w':=by
 rcases hk with rfl|rfl
 ·refine(qY n s w h1 h2 hs).mono ?_
  rintro e w' ⟨rfl,hb⟩
  refine⟨?_,hb⟩;rw[<-dg0 s n h2];unfold hv Bo;rw[if_pos ⟨by simp,by omega,by omega⟩,if_pos hs,if_pos rfl];simp
 ·refine(rY n s w h1 h2 hs).mono ?_
  rintro e w' ⟨rfl,hb⟩
  refine⟨?_,hb⟩;rw[<-fg0 s n (by omega)];unfold hv Bo;rw[if_pos ⟨by simp,by omega,by omega⟩,if_pos hs,if_neg (by decide)];simp
theorem gz (k x t l tag:Int)(b:Nat)(s:ByteArray)(w:World)(hk:k=1\/k=2)(h1:1<=b)(h2:b<=16)(hs:s.size<=399)(ht:0<=tag)(ht2:tag<=100):Calls prog 90 #[.agg #[int i64 k,int i64 b,int i64 x,int i64 t,int i64 l],int i64 tag,string s] w λe w'=>e=.returned (string (hv k b (qa 1 tag++s)))/\Below w.heap.size w w':=by
 obtain⟨W0,hW⟩:=Ca (w.alloc (.cells #[int i64 k,int i64 b,int i64 x,int i64 t,int i64 l] 26));have HF:=aa (show Om w.heap.size W0 k b x t l by subst hW;refine⟨?_,?_,?_,?_,?_⟩<;>simp[go_sem]);have HB:=Xd hW;have hz:W0.heap.size=w.heap.size+1:=by subst hW;simp
 have HS:=aa (λ(V:World) (h:Below W0.heap.size W0 V)=>(by
  obtain⟨c0,c1,_,_,_⟩:=HF.out.below h (by omega);exact⟨c0,c1,h⟩:V.cell? ⟨w.heap.size,0,none⟩=some (int i64 k)/\V.cell? ⟨w.heap.size,1,none⟩=some (int i64 b)/\Below W0.heap.size W0 V))
 have HN:=aa (λV:World=>Ti 1 tag V (by decide) ht (by omega));have HD:=aa (λV:World=>jS k b (qa 1 tag++s) V hk h1 h2 (by rw[ByteArray.size_append,Sa];omega));have hcc:=Sd (qa 1 tag) s (by rw[Sa];omega) (by omega);go_enter func90,ntmps90;go_wp2_with fail;try rw[hW]
 go_region_held3 (λV=>V.cell? ⟨w.heap.size,0,none⟩=some (int i64 k)/\V.cell? ⟨w.heap.size,1,none⟩=some (int i64 b)/\Below W0.heap.size W0 V) (first|exact HS.out _ hS2|exact HS.out _ hS1|exact HS.out _ Vb.drew) (first|(go_at_call 87;refine(HN.out _).mono ?_;rintro e w1 ⟨rfl,hb1⟩;have hS1:=Ga (Below.refl W0.heap.size W0).drew hb1 Aa)|(go_at_call 165;refine(HD.out _).mono ?_;rintro e w2 ⟨rfl,hb2⟩;have hS2:=Ga hS1 hb2 Aa));go_wp2;go_ret;exact⟨rfl,HB.out.trans (hS2.mono (by omega))⟩
theorem gG (p0 p1 p2 p3:Int)(w:World)(h0:0<=p0)(h0':p0<=100000)(h1:0<=p1)(h1':p1<=100000):Calls prog 167 #[.agg #[int i64 p0,int i64 p1,int i64 p2,int i64 p3]] w λe w'=>e=.returned (string (qa 1 p0++qa 4 p1))/\Below w.heap.size w w':=by
 obtain⟨W0,hW⟩:=Ca (w.alloc (.cells #[int i64 p0,int i64 p1,int i64 p2,int i64 p3] 91));have HF:=aa (show Zo w.heap.size W0 p0 p1 p2 p3 by subst hW;refine⟨?_,?_,?_,?_⟩<;>simp[go_sem]);have HB:=Xd hW;have hz:W0.heap.size=w.heap.size+1:=by subst hW;simp
 have HS:=aa (λ(V:World) (h:Below W0.heap.size W0 V)=>(by
  obtain⟨c0,c1,_,_⟩:=HF.out.below h (by omega);exact⟨c0,c1,h⟩:V.cell? ⟨w.heap.size,0,none⟩=some (int i64 p0)/\V.cell? ⟨w.heap.size,1,none⟩=some (int i64 p1)/\Below W0.heap.size W0 V))
 have HN:=aa (λV:World=>Ti 1 p0 V (by decide) h0 (by omega));have Np:=aa (λV:World=>Ti 4 p1 V (by decide) h1 (by omega));have hcc:=Sd (qa 1 p0) (qa 4 p1) (by rw[Sa];omega) (by rw[Sa];omega);clear h0 h0' h1 h1';go_enter func167,ntmps167;go_wp2_with fail;try rw[hW]
 go_region_held3 (λV=>V.cell? ⟨w.heap.size,0,none⟩=some (int i64 p0)/\V.cell? ⟨w.heap.size,1,none⟩=some (int i64 p1)/\Below W0.heap.size W0 V) (first|exact HS.out _ hS2|exact HS.out _ hS1|exact HS.out _ Vb.drew) (first|(go_at_call 87;have hx:=hS1;clear hx;refine(Np.out _).mono ?_;rintro e w2 ⟨rfl,hb2⟩;have hS2:=Ga hS1 hb2 Aa)|(go_at_call 87;refine(HN.out _).mono ?_;rintro e w1 ⟨rfl,hb1⟩;have hS1:=Ga (Below.refl W0.heap.size W0).drew hb1 Aa));go_wp2;go_ret;exact⟨rfl,HB.out.trans (hS2.mono (by omega))⟩
end Go.Proofs.YtgaoeoijdpdjiabGreatDoor
