import Derived.Test.YtgaoeoijdpdjiabGreatDoorPart29
import Derived.Deep.Upon
import Derived.Test.YtgaoeoijdpdjiabGreatDoorPart30
import Derived.Test.YtgaoeoijdpdjiabGreatDoorPart26
open Go.Value (int string pointer slice)
open Go.IntKind (i64)
open Go.Proofs.Tryz
set_option maxRecDepth 20000
set_option maxHeartbeats 8000000
namespace Go.Proofs.YtgaoeoijdpdjiabGreatDoor
open Go.RowKit
theorem Km {w:World}{lo:Nat}{e:TypeId}{sz:Nat}{v:Value}{n:Nat}{xs:List Value}{b:Nat}{vs:List Value}{T:TypeId}(h:w.ownsRow lo e sz v n xs)(hb:ma w b vs T)(hne:e≠T):v.ownBlock≠some b:=by
 intro he;rcases h.2 with⟨rfl,_⟩|⟨g,cap,cur,rfl,_,hg,_⟩
 ·simp[Value.ownBlock]at he
 ·have e':g=b:=by simpa[Value.ownBlock]using he
  subst e';unfold ma at hb;rw[hb]at hg;simp only[Option.some.injEq,Obj.cells.injEq]at hg;exact hne hg.2.1.symm
def Rh (L:List Gb)(i:Nat):Nat->ByteArray
 |0=>qa 32 0
 |k+1=>match L[k]?with
  |some p=>if p.1=i/\p.2.2≠2 then p.2.1 else Rh L i k
  |none=>Rh L i k
theorem XJ {L:List Gb}{i k:Nat}{p:Gb}(h:L[k]?=some p)(h1:p.1=i)(h2:p.2.2≠2):Rh L i (k+1)=p.2.1:=by
 rw[Rh,h];exact if_pos ⟨h1,h2⟩
theorem qF {L:List Gb}{i k:Nat}{p:Gb}(h:L[k]?=some p)(h1:¬(p.1=i/\p.2.2≠2)):Rh L i (k+1)=Rh L i k:=by
 rw[Rh,h];exact if_neg h1
def Un (due:Int):Int:=if due=0 then 0 else due-1
theorem Pc0 (R:Nat)(i n:Int)(lv:Value)(due sy en:Int)(w:World)(hB:ma w R (Af n lv due sy en) 293)(h:i<0\/n<=i):Calls prog 141 #[pointer (some ⟨R,0,none⟩),int i64 i] w λe w'=>e=.returned (.tuple #[string ⟨#[]⟩,int i64 4])/\w'=w:=by
 have c0:=Fa hB;clear hB;by_cases h0:i<0
 ·go_enter func141,ntmps141;go_wp2;go_ret2;exact⟨rfl,rfl⟩
 ·have h1:n<=i:=by omega
  have e1:decide (n<=i)=true:=decide_eq_true h1;go_enter func141,ntmps141;go_wp2;go_ret2;exact⟨rfl,rfl⟩
theorem Oc0 (R:Nat)(i n:Int)(lv:Value)(due sy en:Int)(w:World)(hB:ma w R (Af n lv due sy en) 293)(h0:0<=i)(h1:i<n)(hd:due=1):Calls prog 141 #[pointer (some ⟨R,0,none⟩),int i64 i] w λe w'=>e=.returned (.tuple #[string ⟨#[]⟩,int i64 5])/\ma w' R (Af n lv (Un due) sy en) 293/\za (λq=>q=R) w w':=by
 have c0:=Fa hB;have HF:=aa (dz R n lv due sy en w hB (by omega) (by omega));subst hd;have i0:¬i<0:=by omega
 have i1:¬n<=i:=by omega
 clear hB h0 h1;go_enter func141,ntmps141;go_wp2_with fail;refine HF.out.mono ?_
 rintro e w1 ⟨rfl,hb,hk⟩
 have HQ:=aa (And.intro hb hk);clear hb hk;go_wp2;go_ret2;exact⟨rfl,HQ.out.1,HQ.out.2⟩
theorem Qc0 (lo R i:Nat)(n:Int)(la:Option Addr)(lc:Nat)(due sy en:Int)(L:List Gb)(w:World)(hB:ma w R (Af n (slice la L.length lc) due sy en) 293)(hr:w.ownsRow lo 295 3 (slice la L.length lc) L.length (Eh L))(hL:L.length<=2199023255552)(h1:(i:Int)<n)(hd0:0<=due)(hd2:due<=9223372036854775807)(hd:due≠1):Calls prog 141 #[pointer (some ⟨R,0,none⟩),int i64 i] w λe w'=>e=.returned (.tuple #[string (Rh L i L.length),int i64 0])/\ma w' R (Af n (slice la L.length lc) (Un due) sy en) 293/\za (λq=>q=R) w w':=by
 have HF:=aa (dz R n (slice la L.length lc) due sy en w hB hd0 hd2);have hde:(due==1)=false:=by simpa using hd
 have hne:=Km hr hB (by decide);have c0:=Fa hB;obtain⟨m,hm⟩:=Ca (L.length);rw[hm]at hB hr hL HF hne⊢;have HM:=aa hm;have Wq:=aa (λ(V:World) (hk:za (λq=>q=R) w V)=>xc hr hk (λq e e2=>hne (by rw[e,e2])));have HL:=aa hL;have i0:¬(i:Int)<0:=by omega
 have i1:¬n<=(i:Int):=by omega
 clear hB hr hL hm hne h1 hd0 hd2 hd;go_enter func141,ntmps141;go_wp2_with fail;refine HF.out.mono ?_
 rintro e w1 ⟨rfl,hb,hk⟩
 have c1:=Ja hb;have HR:=aa (Wq.out _ hk);have HQ:=aa (And.intro hb hk);have hw:IntKind.i64.wrap ((m:Int)-1)=(m:Int)-1:=by have:=HL.out;rw[IntKind.wrap_i64]<;>omega
 clear hb hk c0;go_wp2_with fail;go_loopw [7] (λk wr=>∃j:Nat,j<=m/\k=int i64 ((j:Int)-1)/\Hid (Rh L i m=Rh L i j)/\wr=w1) (λk _=>(intOf k+1).toNat)
 case atStart=>exact⟨m,Aa,rfl,rfl,rfl⟩
 case round=>
  obtain⟨j,hj,rfl,hla,rfl⟩:=hrel
  cases j with
  |zero=>
   have HN:=aa (Ti 32 0 wr (by decide) (by decide) (by decide));have e0:((0:Nat):Int)-1= -1:=rfl;rw[e0];go_wp2_with fail;refine HN.out.mono ?_
   rintro e w2 ⟨rfl,hb2⟩
   have HB2:=aa hb2;clear hb2;go_wp2;go_ret2;exact⟨by rw[hla.out];rfl,HQ.out.1.on HB2.out,HQ.out.2.after HB2.out⟩
  |succ k=>
   have e0:((k+1:Nat):Int)-1=(k:Int):=by omega
   rw[e0];obtain⟨p,hp⟩:∃p,L[k]?=some p:=⟨_,List.getElem?_eq_getElem (by rw[HM.out];omega)⟩;obtain⟨g,cap,hgv,_,_⟩:=HR.out.form (by omega);simp only[Value.slice.injEq]at hgv;obtain⟨rfl,_,rfl⟩:=hgv
   have y0:wr.cell? ⟨g,k*3,none⟩=some (int i64 (p.1:Int)):=by
    rw[HR.out.cellAt (k*3) (by omega)];exact lC hp 0 (by decide)
   have y1:wr.cell? ⟨g,k*3+1,none⟩=some (string p.2.1):=by
    rw[HR.out.cellAt (k*3+1) (by omega)];exact lC hp 1 (by decide)
   have y2:wr.cell? ⟨g,k*3+2,none⟩=some (int i64 (p.2.2:Int)):=by
    rw[HR.out.cellAt (k*3+2) (by omega)];exact lC hp 2 (by decide)
   have hms:(k:Int)<(m:Int):=by omega
   have hjm:(k:Int)<2199023255552:=by have:=HL.out;omega
   have hk0:0<=(k:Int):=by omega
   have hw2:IntKind.i64.wrap ((k:Int)-1)=(k:Int)-1:=by rw[IntKind.wrap_i64]<;>omega
   have HP:=aa hp;obtain⟨ps,pt,pz⟩:=p;dsimp only at y0 y1 y2;clear hp;by_cases ha:ps=i
   ·have a1:((ps:Int)==(i:Int))=true:=by simp[ha]
    by_cases hb:pz=2
    ·have b1:((pz:Int) !=2)=false:=by simp[hb]
     have HE:=aa (qF HP.out (i:=i) (by rintro⟨_,h⟩;exact h hb));clear ha hb;go_wp2;go_roundw
     case rel=>exact⟨k,by omega,by go_num,by show _=_;rw[hla.out,HE.out],by trivial⟩
     case measure=>first|(simp[intOf];done)|(simp[intOf];omega)
    ·have b1:((pz:Int) !=2)=true:=by
      have:(pz:Int)≠2:=by omega
      simpa using this
     have HE:=aa (XJ HP.out ha hb);clear ha hb;go_wp2;go_ret2;exact⟨congrArg (λq=>Ending.returned (Value.tuple #[string q,int i64 0])) (hla.out.trans HE.out).symm,HQ.out.1,HQ.out.2⟩
   ·have a1:((ps:Int)==(i:Int))=false:=by
     have:(ps:Int)≠i:=by omega
     simpa using this
    have HE:=aa (qF HP.out (i:=i) (by rintro⟨h,_⟩;exact ha h));clear ha;go_wp2;go_roundw
    case rel=>exact⟨k,by omega,by go_num,by show _=_;rw[hla.out,HE.out],by trivial⟩
    case measure=>first|(simp[intOf];done)|(simp[intOf];omega)
theorem ob0 (lo R:Nat)(n:Int)(la:Option Addr)(lc:Nat)(due sy en:Int)(L:List Gb)(w:World)(hB:ma w R (Af n (slice la L.length lc) due sy en) 293)(hr:w.ownsRow lo 295 3 (slice la L.length lc) L.length (Eh L))(hL:L.length<=2199023255552):Calls prog 148 #[pointer (some ⟨R,0,none⟩)] w λe w'=>e=.returned (.agg #[int i64 L.length,int i64 sy,int i64 (zf L:Int)])/\Below w.heap.size w w':=by
 have HW:=aa (λ(V:World) (hb:Below w.heap.size w V)=>FK lo R n la lc due sy en L V (hB.on hb) (xc hr (za.of_below (F:=λ_=>False) hb) (λ_ _ e=>e)) hL);obtain⟨m,hm⟩:=Ca (L.length)
 have HS:=aa (λ(V:World) (hb:Below w.heap.size w V)=>(by
  have h':=hB.on hb;rw[hm]at h';exact⟨h'.cell 1,h'.cell 3,hb⟩:V.cell? ⟨R,1,none⟩=some (slice la m lc)/\V.cell? ⟨R,3,none⟩=some (int i64 sy)/\Below w.heap.size w V))
 rw[hm]at hL⊢;generalize zf L=pn at HW⊢;clear hB hr hm;go_enter func148,ntmps148;go_wp2_with fail;refine(HW.out _ (Va _)).mono ?_
 rintro e w1 ⟨rfl,hw1⟩
 subst w1;go_wp2_with fail;go_region_held3 (λV=>V.cell? ⟨R,1,none⟩=some (slice la m lc)/\V.cell? ⟨R,3,none⟩=some (int i64 sy)/\Below w.heap.size w V) (exact HS.out _ (Va _).drew) (fail);go_wp2;refine bodyPost_ret (v:=.agg #[int i64 m,int i64 sy,int i64 pn]) (by simp[results,results148,go_sem]) rfl ⟨rfl,(Va _).drew⟩
theorem G5:(prog.info? 295).map (λi=>(i.zero,i.size,i.bytes))=some (some (.agg #[int i64 0,string ⟨#[]⟩,int i64 0]),3,32):=by kernel_rfl
theorem MJ {o:Option TypeInfo}{z:Option Value}{s b:Nat}(h:o.map (λi=>(i.zero,i.size,i.bytes))=some (z,s,b)):∃i,o=some i/\i.zero=z/\i.size=s/\i.bytes=b:=by
 cases o with
 |none=>simp at h
 |some i=>simp at h;exact⟨i,rfl,h.1,h.2.1,h.2.2⟩
theorem Ia0 {w:World}{lo:Nat}{e:TypeId}{sz g n cap:Nat}{xs:List Value}(h:w.ownsRow lo e sz (slice (some ⟨g,0,none⟩) n cap) n xs)(i:Nat)(u:Value):(w.setCell ⟨g,i,none⟩ u).ownsRow lo e sz (slice (some ⟨g,0,none⟩) n cap) n (xs.set i u):=by
 refine⟨by rw[List.length_set];exact h.1,.inr ?_⟩;rcases h.2 with⟨e1,_⟩|⟨g',cap',cur,e1,h1,h2,h3,h4,h5,h6⟩
 ·simp at e1
 ·simp only[Value.slice.injEq,Option.some.injEq,Addr.mk.injEq,and_true,true_and]at e1;obtain⟨rfl,rfl⟩:=e1;have hb:ma w g cur.toList e:=by unfold ma;rw[h2]
  have hs:=hb.set i u;exact⟨g,cap,(cur.toList.set i u).toArray,rfl,h1,hs,h3,h4,by simp[h5],by simp[List.take_set,h6]⟩
theorem Ga0 {w:World}{lo:Nat}{e:TypeId}{sz g n cap:Nat}{xs:List Value}(h:w.ownsRow lo e sz (slice (some ⟨g,0,none⟩) n cap) n xs)(i:Nat):w.frozen? ⟨g,i,none⟩=false:=by
 rcases h.2 with⟨e1,_⟩|⟨g',cap',cur,e1,_,h2,_⟩
 ·simp at e1
 ·simp only[Value.slice.injEq,Option.some.injEq,Addr.mk.injEq,and_true,true_and]at e1;obtain⟨rfl,rfl⟩:=e1;simp[World.frozen?,h2]
theorem JQ {z:Nat}:∀{L:List Gb} {j:Nat} {p:Gb},L[j]?=some p->(Eh L).set (j*3+2) (int i64 (z:Int))=Eh (L.set j (p.1,p.2.1,z))
 |[],j,p,h=>by simp at h
 |q::L,0,p,h=>by
  simp at h;subst h;rfl
 |q::L,j+1,p,h=>by
  have h':L[j]?=some p:=by simpa using h
  have ih:=JQ (z:=z) h';have e1:(j+1)*3+2=j*3+2+1+1+1:=by omega
  rw[e1];show[int i64 (q.1:Int),string q.2.1,int i64 (q.2.2:Int)]++(Eh L).set (j*3+2) _=[int i64 (q.1:Int),string q.2.1,int i64 (q.2.2:Int)]++Eh (L.set j _);rw[ih]
def Vo (κ:Nat->Bool)(c:Nat)(p:Gb):Gb:=if p.2.2=0 then(p.1,p.2.1,if κ c then 1 else 2)else p
def Pf (κ:Nat->Bool):Nat->List Gb->List Gb
 |_,[]=>[]
 |c,p::L=>Vo κ c p::Pf κ (if p.2.2=0 then c+1 else c) L
def Kg (κ:Nat->Bool)(L:List Gb)(j:Nat):List Gb:=Pf κ 0 (L.take j)++L.drop j
theorem Gu (κ:Nat->Bool):∀(c:Nat) (L:List Gb),(Pf κ c L).length=L.length
 |_,[]=>rfl
 |c,p::L=>by rw[Pf,List.length_cons,List.length_cons,Gu κ _ L]
theorem xI (κ:Nat->Bool)(p:Gb):∀(c:Nat) (L:List Gb),Pf κ c (L++[p])=Pf κ c L++[Vo κ (c+zf L) p]
 |c,[]=>by simp[Pf,zf]
 |c,q::L=>by
  rw[List.cons_append,Pf,xI κ p _ L,Pf,List.cons_append];congr 4;unfold zf;by_cases hq:q.2.2=0
  ·rw[if_pos hq,List.filter_cons_of_pos (by simpa using hq),List.length_cons];omega
  ·rw[if_neg hq,List.filter_cons_of_neg (by simpa using hq)]
theorem dO (κ:Nat->Bool)(L:List Gb)(j:Nat):(Kg κ L j).length=L.length:=by
 unfold Kg;rw[List.length_append,Gu,<-List.length_append,List.take_append_drop]
theorem iO (κ:Nat->Bool)(L:List Gb):Kg κ L 0=L:=by simp[Kg,Pf]
theorem cO (κ:Nat->Bool)(L:List Gb):Kg κ L L.length=Pf κ 0 L:=by simp[Kg]
theorem wI {κ:Nat->Bool}{L:List Gb}{j:Nat}{p:Gb}(h:L[j]?=some p):Kg κ L j=Pf κ 0 (L.take j)++p::L.drop (j+1)/\Kg κ L (j+1)=Pf κ 0 (L.take j)++Vo κ (zf (L.take j)) p::L.drop (j+1)/\(Pf κ 0 (L.take j)).length=j:=by
 obtain⟨hj,rfl⟩:=List.getElem?_eq_some_iff.1 h;refine⟨?_,?_,?_⟩
 ·rw[Kg,List.drop_eq_getElem_cons hj]
 ·rw[Kg,List.take_succ_eq_append_getElem hj,xI,List.append_assoc,Nat.zero_add];rfl
 ·rw[Gu,List.length_take];omega
theorem wE {κ:Nat->Bool}{L:List Gb}{j:Nat}{p:Gb}(h:L[j]?=some p):(Kg κ L j)[j]?=some p:=by
 obtain⟨a,_,c⟩:=wI (κ:=κ) h;rw[a,List.getElem?_append_right (by omega),c,Nat.sub_self];rfl
theorem fO {κ:Nat->Bool}{L:List Gb}{j:Nat}{p:Gb}(h:L[j]?=some p):Kg κ L (j+1)=(Kg κ L j).set j (Vo κ (zf (L.take j)) p):=by
 obtain⟨a,b,c⟩:=wI (κ:=κ) h;rw[a,b,List.set_append_right _ _ (by omega),c,Nat.sub_self];rfl
theorem eO {κ:Nat->Bool}{L:List Gb}{j:Nat}{p:Gb}(h:L[j]?=some p)(hp:p.2.2≠0):Kg κ L (j+1)=Kg κ L j:=by
 obtain⟨a,b,c⟩:=wI (κ:=κ) h;rw[a,b];unfold Vo;rw[if_neg hp]
theorem Ed0 (R:Nat)(i n:Int)(t:ByteArray)(lv:Value)(due sy en:Int)(w:World)(hB:ma w R (Af n lv due sy en) 293)(h:i<0\/n<=i):Calls prog 142 #[pointer (some ⟨R,0,none⟩),int i64 i,string t] w λe w'=>e=.returned (int i64 4)/\w'=w:=by
 have c0:=Fa hB;clear hB;by_cases h0:i<0
 ·go_enter func142,ntmps142;go_wp2;go_ret;exact⟨rfl,rfl⟩
 ·have h1:n<=i:=by omega
  have e1:decide (n<=i)=true:=decide_eq_true h1;go_enter func142,ntmps142;go_wp2;go_ret;exact⟨rfl,rfl⟩
theorem Dd0 (R:Nat)(i n:Int)(t:ByteArray)(lv:Value)(due sy en:Int)(w:World)(hB:ma w R (Af n lv due sy en) 293)(h0:0<=i)(h1:i<n)(ht:t.size≠32)(_hm:t.size<=maxLen):Calls prog 142 #[pointer (some ⟨R,0,none⟩),int i64 i,string t] w λe w'=>e=.returned (int i64 2)/\w'=w:=by
 have c0:=Fa hB;have i0:¬i<0:=by omega
 have i1:¬n<=i:=by omega
 have e1:((t.size:Int) !=32)=true:=by
  have:(t.size:Int)≠32:=by omega
  simpa using this
 clear hB h0 h1;go_enter func142,ntmps142;go_wp2;go_ret;exact⟨rfl,rfl⟩
theorem Cd0 (lo R:Nat)(i n:Int)(t:ByteArray)(la:Option Addr)(lc:Nat)(due sy en:Int)(L:List Gb)(w:World)(hB:ma w R (Af n (slice la L.length lc) due sy en) 293)(hr:w.ownsRow lo 295 3 (slice la L.length lc) L.length (Eh L))(hL:L.length<=2199023255552)(h0:0<=i)(h1:i<n)(ht:t.size=32)(hd0:0<=due)(hd2:due<=9223372036854775807)(hf:due=1\/16<=zf L):Calls prog 142 #[pointer (some ⟨R,0,none⟩),int i64 i,string t] w λe w'=>e=.returned (int i64 5)/\ma w' R (Af n (slice la L.length lc) (Un due) sy en) 293/\za (λq=>q=R) w w':=by
 have HF:=aa (dz R n (slice la L.length lc) due sy en w hB hd0 hd2);have hne:=Km hr hB (by decide);have c0:=Fa hB;have Wq:=aa (λ(V:World) (hb:ma V R (Af n (slice la L.length lc) (Un due) sy en) 293) (hk:za (λq=>q=R) w V)=>FK lo R n la lc (Un due) sy en L V hb (xc hr hk (λq e e2=>hne (by rw[e,e2]))) hL);have hpl:zf L<=2199023255552:=Nat.le_trans (vK L) hL;have i0:¬i<0:=by omega
 have i1:¬n<=i:=by omega
 have e1:((t.size:Int) !=32)=false:=by simp[ht]
 obtain⟨pn,hpn⟩:=Ca (zf L);rw[hpn]at Wq hf hpl;generalize L.length=m at hB HF Wq⊢;clear hB hr hL hne h0 h1 hd0 hd2 ht hpn;by_cases hd:due=1
 ·have hde:(due==1)=true:=by simpa using hd
  clear hf;go_enter func142,ntmps142;go_wp2_with fail;refine HF.out.mono ?_
  rintro e w1 ⟨rfl,hb,hk⟩
  have HQ:=aa (And.intro hb hk);have HW:=aa (Wq.out _ hb hk);clear hb hk c0;go_wp2_with fail;refine HW.out.mono ?_
  rintro e w2 ⟨rfl,hw2⟩
  subst w2;go_wp2;go_ret;exact⟨rfl,HQ.out.1,HQ.out.2⟩
 ·have hde:(due==1)=false:=by simpa using hd
  have hp:(16:Int)<=(pn:Int):=by omega
  clear hf;go_enter func142,ntmps142;go_wp2_with fail;refine HF.out.mono ?_
  rintro e w1 ⟨rfl,hb,hk⟩
  have HQ:=aa (And.intro hb hk);have HW:=aa (Wq.out _ hb hk);clear hb hk c0;go_wp2_with fail;refine HW.out.mono ?_
  rintro e w2 ⟨rfl,hw2⟩
  subst w2;go_wp2;go_ret;exact⟨rfl,HQ.out.1,HQ.out.2⟩
theorem Fd0 (lo R:Nat)(i n:Nat)(t:ByteArray)(la:Option Addr)(lc:Nat)(due sy en:Int)(L:List Gb)(w:World)(hB:ma w R (Af n (slice la L.length lc) due sy en) 293)(hr:w.ownsRow lo 295 3 (slice la L.length lc) L.length (Eh L))(hL:L.length<=2199023255552)(hlo:lo<=w.heap.size)(h1:i<n)(ht:t.size=32)(hd0:0<=due)(hd2:due<=9223372036854775807)(hd:due≠1)(hf:zf L<16):Calls prog 142 #[pointer (some ⟨R,0,none⟩),int i64 i,string t] w λe w'=>e=.returned (int i64 0)/\∃g c,ma w' R (Af n (slice (some ⟨g,0,none⟩) (L.length+1) c) (Un due) sy en) 293/\w'.ownsRow lo 295 3 (slice (some ⟨g,0,none⟩) (L.length+1) c) (L.length+1) (Eh (L++[(i,t,0)]))/\za (λq=>q=R\/(slice la L.length lc).ownBlock=some q) w w'/\((slice la L.length lc).ownBlock=some g\/w.heap.size<=g):=by
 obtain⟨i0,hi0,hz0,hz1,hz2⟩:=MJ G5;have HF:=aa (dz R n (slice la L.length lc) due sy en w hB hd0 hd2);have hne:=Km hr hB (by decide);have Pm:=aa hne;have c0:=Fa hB;have zi:=aa (λ(V:World) (hk:za (λq=>q=R) w V)=>xc hr hk (λq e e2=>hne (by rw[e,e2])));have Wq:=aa (λ(V:World) (hb:ma V R (Af n (slice la L.length lc) (Un due) sy en) 293) (hk:za (λq=>q=R) w V)=>FK lo R n la lc (Un due) sy en L V hb (zi.out V hk) hL);have i0':¬(i:Int)<0:=by omega
 have i1':¬(n:Int)<=(i:Int):=by omega
 have e1:((t.size:Int) !=32)=false:=by simp[ht]
 have hde:(due==1)=false:=by simpa using hd
 obtain⟨pn,hpn⟩:=Ca (zf L);rw[hpn]at Wq hf;have hp:¬(16:Int)<=(pn:Int):=by omega
 have N1:Hid (L.length+1<=maxLen):=by show _<=_;unfold maxLen;omega
 have N2:Hid ((L.length+1)*32<=140737488355328):=by show _<=_;omega
 have yh:=aa hlo;have SV:=aa (X7 L (i,t,0));generalize L.length=m at hB HF Wq zi Pm N1 N2⊢;clear hB hr hL hne h1 hd0 hd2 ht hpn hd hf hlo;go_enter func142,ntmps142;go_wp2_with fail;refine HF.out.mono ?_
 rintro e w1 ⟨rfl,hb,hk⟩
 have iA:=aa hb;have wH:=aa hk;have HW:=aa (Wq.out _ hb hk);have HR1:=aa (zi.out _ hk);clear hb hk c0;go_wp2_with fail;refine HW.out.mono ?_
 rintro e w2 ⟨rfl,hw2⟩
 subst w2;have Ku:=iA.out.lt;have c1:=Ja iA.out;have c1':∀o,(w1.alloc o).cell? ⟨R,1,none⟩=some (slice la m lc):=λo=>(World.cell?_alloc_lt _ _ _ Ku).trans c1;clear Ku;go_wp2_with (at_builtin;refine wpList_append_lies _ rfl _ _ 291 rfl lo 295 i0 (.agg #[int i64 0,string ⟨#[]⟩,int i64 0]) 3 32 underlying291 hi0 hz0 hz1 hz2 rfl (by decide) (slice la m lc) m (Eh L) rfl (HR1.out.alloc _) ⟨w1.heap.size,0,none⟩ 1 1 [int i64 (i:Int),string t,int i64 0] rfl rfl (World.news_of_block (heap_alloc_new w1 _)) (λu hu=>by simp at hu;rcases hu with rfl|rfl|rfl<;>rfl) (by decide) N1.out N2.out (by rw[World.size_alloc];exact Nat.le_succ_of_le (Nat.le_trans yh.out wH.out.size)) (w1.heap.size+1) (World.size_alloc _ _) ?_);intro g c2 w5 hown hgrow hat xJ;have nR:(slice la m lc).ownBlock≠some R:=Pm.out
 have gR:g≠R:=by
  rcases hat with e|e
  ·intro e2;subst e2;exact nR e
  ·have:=iA.out.lt;omega
 have Tu:=hgrow.block R (by rw[World.size_alloc];exact Nat.lt_succ_of_lt iA.out.lt) (λe=>nR e.symm)
 have Qi:ma w5 R (Af n (slice la m lc) (Un due) sy en) 293:=by
  unfold ma;rw[Tu];exact(iA.out.alloc _:ma (w1.alloc _) R _ _)
 have f1:w5.frozen? ⟨R,1,none⟩=false:=Qi.free 1;have e5:=Ja Qi;have Qe:=aa (Qi.set 1 (slice (some ⟨g,0,none⟩) (m+1) c2))
 have Qm:=aa (xc hown (Jc w5 ⟨R,1,none⟩ (slice (some ⟨g,0,none⟩) (m+1) c2)) (λq e hk=>by
  have e':g=q:=by simpa[Value.ownBlock]using e
  exact gR (e'.trans hk)))
 have Gl:=aa (show za (λq=>q=R\/(slice la m lc).ownBlock=some q) w (w5.setCell ⟨R,1,none⟩ (slice (some ⟨g,0,none⟩) (m+1) c2))from
  (za.grown (w:=w1.alloc _) ((wH.out.mono (λq _ e=>.inl e)).alloc _) hgrow (λq e=>.inl (.inr e))).setCell (.inl (.inl rfl)) _)
 have HAT:=aa (show(slice la m lc).ownBlock=some g\/w.heap.size<=g by
  rcases hat with e|e
  ·exact .inl e
  ·have:=wH.out.size;exact .inr (by omega))
 clear hown hgrow hat xJ Tu Qi gR nR c1 c1';go_wp2;go_ret;exact⟨rfl,g,c2,Qe.out,by rw[SV.out];exact Qm.out,Gl.out,HAT.out⟩
theorem wd0 (R:Nat)(n:Int)(lv:Value)(due sy en:Int)(w:World)(hB:ma w R (Af n lv due sy en) 293)(hd:due=1):Calls prog 143 #[pointer (some ⟨R,0,none⟩)] w λe w'=>e=.returned (int i64 5)/\ma w' R (Af n lv (Un due) sy en) 293/\za (λq=>q=R) w w':=by
 have HF:=aa (dz R n lv due sy en w hB (by omega) (by omega));subst hd;clear hB;go_enter func143,ntmps143;go_wp2_with fail;refine HF.out.mono ?_
 rintro e w1 ⟨rfl,hb,hk⟩
 have HQ:=aa (And.intro hb hk);clear hb hk;go_wp2;go_ret;exact⟨rfl,HQ.out.1,HQ.out.2⟩
theorem WC {w:World}{g:Nat}{xs:List ByteArray}(h:∀(j:Nat) y,xs[j]?=some y->w.cell? ⟨g,j,none⟩=some (string y)):∀j u,(xs.map Value.string)[j]?=some u->w.cell? ((⟨g,0,none⟩:Addr).add j)=some u:=by
 intro j u hj;rw[List.getElem?_map,Option.map_eq_some_iff]at hj;obtain⟨y,hy,rfl⟩:=hj;rw[Addr.add_mid,Nat.zero_add];exact h j y hy
theorem XC (xs:List ByteArray):∀u∈xs.map Value.string,u.oneCell'=true:=by
 intro u hu;rw[List.mem_map]at hu;obtain⟨y,_,rfl⟩:=hu;rfl
theorem oK {w:World}{base:Nat}{e:TypeId}{s:Nat}{v:Value}{n:Nat}{xs:List Value}(h:w.ownsRow base e s v n xs):∃ao cap,v=slice ao n cap/\(ao=none->n=0/\cap=0):=by
 rcases h.2 with⟨rfl,rfl⟩|⟨g,cap,cur,rfl,_⟩
 ·exact⟨none,0,rfl,λ_=>⟨rfl,rfl⟩⟩
 ·exact⟨_,cap,rfl,λh=>by cases h⟩
theorem BC {w:World}{base:Nat}{e:TypeId}{s:Nat}{v:Value}{n:Nat}{xs:List Value}(h:w.ownsRow base e s v n xs):∀k,v.ownBlock=some k->base<=k/\k<w.heap.size:=by
 intro k hk;rcases h.2 with⟨rfl,_⟩|⟨g,cap,cur,rfl,hg,hh,_⟩
 ·simp[Value.ownBlock]at hk
 ·simp only[Value.ownBlock,Option.some.injEq]at hk;subst hk;exact⟨hg,lt_of_block hh⟩
theorem ZX (B g1 n1 c1 g2 n2 c2:Nat)(Ii Nj:List ByteArray)(w:World)(h1:Ii.length=n1)(h2:Nj.length=n2)(m1:1<=n1)(k1:n1<=200)(k2:n2<=200)(b0:B<w.heap.size)(b1:g1<w.heap.size)(b2:g2<w.heap.size)
  (d0:w.cell? ⟨B,0,none⟩=some (slice none 0 0))(d1:w.cell? ⟨B,1,none⟩=some (slice (some ⟨g1,0,none⟩) n1 c1))(d2:w.cell? ⟨B,2,none⟩=some (slice (some ⟨g2,0,none⟩) n2 c2))
  (x1:∀(j:Nat) y,Ii[j]?=some y->w.cell? ⟨g1,j,none⟩=some (string y))(x2:∀(j:Nat) y,Nj[j]?=some y->w.cell? ⟨g2,j,none⟩=some (string y)):Calls prog 251 #[slice (some ⟨B,0,none⟩) 3 3] w λe w'=>∃g c,e=.returned (slice (some ⟨g,0,none⟩) (n1+n2) c)/\w.heap.size<=g/\n1+n2<=c/\g<w'.heap.size/\(∀(j:Nat) y,(Ii++Nj)[j]?=some y->w'.cell? ⟨g,j,none⟩=some (string y))/\Below w.heap.size w w':=by
 obtain⟨i0,hi,hz0,hz1,hz2⟩:=info_parts Rw;have HD:=aa (λ(V:World) (h:Below w.heap.size w V)=>(⟨(h.cell (p:=⟨B,0,none⟩) b0).trans d0,(h.cell (p:=⟨B,1,none⟩) b0).trans d1,(h.cell (p:=⟨B,2,none⟩) b0).trans d2⟩:V.cell? ⟨B,0,none⟩=some (slice none 0 0)/\V.cell? ⟨B,1,none⟩=some (slice (some ⟨g1,0,none⟩) n1 c1)/\V.cell? ⟨B,2,none⟩=some (slice (some ⟨g2,0,none⟩) n2 c2)));have Ra:=aa (λ(V:World) (h:Below w.heap.size w V) (j:Nat) (y:ByteArray) (hj:Ii[j]?=some y)=>(h.cell (p:=⟨g1,j,none⟩) b1).trans (x1 j y hj));have lg:=aa (λ(V:World) (h:Below w.heap.size w V) (j:Nat) (y:ByteArray) (hj:Nj[j]?=some y)=>(h.cell (p:=⟨g2,j,none⟩) b2).trans (x2 j y hj));have HG:=aa (MO (n1+n2) w (by omega) (by omega));have Li:=aa h1;have HL2:=aa h2;clear x1 x2 h1 h2;go_enter func251,ntmps251;go_wp2;refine wp_loop_rounds 4 ?_;rw[rounds_succ];go_wp2;rw[rounds_succ];go_wp2;rw[rounds_succ];go_wp2;rw[rounds_succ];go_wp2_with fail;refine HG.out.mono ?_
 rintro e w1 ⟨g,cap,rfl,ho,hb⟩
 have HO:=aa ho;have HB:=aa hb;clear ho hb HG d0 d1 d2;obtain⟨d0,d1,d2⟩:=HD.out w1 HB.out;go_wp2_with fail;refine wp_loop_rounds 4 ?_;rw[rounds_succ];have hno:=Go.run_append_nothing (P:=prog) w1 27 27 27 9 i0 underlying27 hi (some ⟨g,0,none⟩) 0 cap (Nat.zero_le _) (slice none 0 0) (by rw[hz1];exact⟨.inl ⟨_,underlying27⟩,λ_=>by simp[Builtin.lenOf],by simp[Builtin.firstCells],by simp[Builtin.firstCells],rfl,by simp⟩);have gm:=aa hno;clear hno;go_wp2_with (at_builtin;refine Lib.wpList_append_run _ rfl (.tmp 31) (.tmp 32) 27 27 rfl (slice (some ⟨g,0,none⟩) 0 cap) (slice none 0 0) rfl rfl _ _ gm.out ?_);have jd:=HO;have HB3:=HB;go_wp2_with fail;rw[rounds_succ];go_wp2_with (at_builtin;refine wpList_append_own _ rfl (.tmp 31) (.tmp 32) 27 rfl w.heap.size 9 i0 (string ⟨#[]⟩) 1 16 underlying27 hi hz0 hz1 hz2 rfl (by decide) (slice (some ⟨g,0,none⟩) 0 cap) 0 [] rfl jd.out ⟨g1,0,none⟩ n1 c1 (Ii.map Value.string) rfl ?e1 (WC (Ra.out w1 HB3.out)) (XC Ii) ?e2 ?e3 HB3.out.size ?_)
 case e1=>rw[List.length_map,Li.out,Nat.mul_one]
 case e2=>unfold maxLen;omega
 case e3=>omega
 intro v4 w4 Di hg4 _;try simp only[Nat.zero_add,List.nil_append]at Di
 obtain⟨a4,p4,hv4,_⟩:=oK Di;subst hv4;have Db:=aa (HB3.out.grown hg4 HB3.out.size (λp hp=>(BC jd.out p hp).1));have Wz:=aa Di;clear Di hg4 d0 d1 d2;obtain⟨d0,d1,d2⟩:=HD.out w4 Db.out;go_wp2_with fail;rw[rounds_succ];go_wp2_with (at_builtin;refine wpList_append_own _ rfl (.tmp 31) (.tmp 32) 27 rfl w.heap.size 9 i0 (string ⟨#[]⟩) 1 16 underlying27 hi hz0 hz1 hz2 rfl (by decide) (slice a4 n1 p4) n1 (Ii.map Value.string) rfl Wz.out ⟨g2,0,none⟩ n2 c2 (Nj.map Value.string) rfl ?f1 (WC (lg.out w4 Db.out)) (XC Nj) ?f2 ?f3 Db.out.size ?_)
 case f1=>rw[List.length_map,HL2.out,Nat.mul_one]
 case f2=>unfold maxLen;omega
 case f3=>omega
 intro v5 w5 ho5 hg5 _;have je:=aa (Db.out.grown hg5 Db.out.size (λp hp=>(BC Wz.out p hp).1));have hlen:(Ii++Nj).length=n1+n2:=by simp only[List.length_append,Li.out,HL2.out]
 have Cg:w5.ownsRow w.heap.size 9 1 v5 (n1+n2) ((Ii++Nj).map Value.string):=by
  simp only[List.map_append];try simp only[List.append_assoc]at ho5
  exact ho5
 obtain⟨gg,cc,hv5,lJ,qJ,rJ,MB⟩:=xx (ys:=Ii++Nj) (by rw[hlen];exact Cg) (by rw[hlen];omega);rw[hlen]at hv5 lJ;subst hv5;have uk:=aa MB;have Pq:=aa (And.intro qJ rJ);clear ho5 Cg hg5 MB hlen d0 d1 d2;go_wp2_with fail;rw[rounds_succ];go_wp2;go_ret;refine⟨gg,cc,by simp,Pq.out.1,by omega,Pq.out.2,λj y hj=>?_,je.out⟩;have h:=uk.out j y hj;rw[Nat.zero_add]at h;exact h
theorem aY (B g0 n0 c0 g1 n1 c1 g2 n2 c2:Nat)(Gq:List ByteArray)(Ii Nj:List ByteArray)(w:World)(h0:Gq.length=n0)(h1:Ii.length=n1)(h2:Nj.length=n2)(m1:1<=n1)(k0:n0<=200)(k1:n1<=200)(k2:n2<=200)(b0:B<w.heap.size)(b3:g0<w.heap.size)(b1:g1<w.heap.size)(b2:g2<w.heap.size)
  (d0:w.cell? ⟨B,0,none⟩=some (slice (some ⟨g0,0,none⟩) n0 c0))(d1:w.cell? ⟨B,1,none⟩=some (slice (some ⟨g1,0,none⟩) n1 c1))(d2:w.cell? ⟨B,2,none⟩=some (slice (some ⟨g2,0,none⟩) n2 c2))
  (x0:∀(j:Nat) y,Gq[j]?=some y->w.cell? ⟨g0,j,none⟩=some (string y))
  (x1:∀(j:Nat) y,Ii[j]?=some y->w.cell? ⟨g1,j,none⟩=some (string y))(x2:∀(j:Nat) y,Nj[j]?=some y->w.cell? ⟨g2,j,none⟩=some (string y)):Calls prog 251 #[slice (some ⟨B,0,none⟩) 3 3] w λe w'=>∃g c,e=.returned (slice (some ⟨g,0,none⟩) (n0+n1+n2) c)/\w.heap.size<=g/\n0+n1+n2<=c/\g<w'.heap.size/\(∀(j:Nat) y,(Gq++Ii++Nj)[j]?=some y->w'.cell? ⟨g,j,none⟩=some (string y))/\Below w.heap.size w w':=by
 obtain⟨i0,hi,hz0,hz1,hz2⟩:=info_parts Rw;have HD:=aa (λ(V:World) (h:Below w.heap.size w V)=>(⟨(h.cell (p:=⟨B,0,none⟩) b0).trans d0,(h.cell (p:=⟨B,1,none⟩) b0).trans d1,(h.cell (p:=⟨B,2,none⟩) b0).trans d2⟩:V.cell? ⟨B,0,none⟩=some (slice (some ⟨g0,0,none⟩) n0 c0)/\V.cell? ⟨B,1,none⟩=some (slice (some ⟨g1,0,none⟩) n1 c1)/\V.cell? ⟨B,2,none⟩=some (slice (some ⟨g2,0,none⟩) n2 c2)));have HX0:=aa (λ(V:World) (h:Below w.heap.size w V) (j:Nat) (y:ByteArray) (hj:Gq[j]?=some y)=>(h.cell (p:=⟨g0,j,none⟩) b3).trans (x0 j y hj));have Ra:=aa (λ(V:World) (h:Below w.heap.size w V) (j:Nat) (y:ByteArray) (hj:Ii[j]?=some y)=>(h.cell (p:=⟨g1,j,none⟩) b1).trans (x1 j y hj));have lg:=aa (λ(V:World) (h:Below w.heap.size w V) (j:Nat) (y:ByteArray) (hj:Nj[j]?=some y)=>(h.cell (p:=⟨g2,j,none⟩) b2).trans (x2 j y hj));have HG:=aa (MO (n0+n1+n2) w (by omega) (by omega));have Li:=aa h1;have HL2:=aa h2;have FD:=aa h0;clear x1 x2 h1 h2 x0 h0;go_enter func251,ntmps251;go_wp2;refine wp_loop_rounds 4 ?_;rw[rounds_succ];go_wp2;rw[rounds_succ];go_wp2;rw[rounds_succ];go_wp2;rw[rounds_succ];go_wp2_with fail;refine HG.out.mono ?_
 rintro e w1 ⟨g,cap,rfl,ho,hb⟩
 have HO:=aa ho;have HB:=aa hb;clear ho hb HG d0 d1 d2;obtain⟨d0,d1,d2⟩:=HD.out w1 HB.out;go_wp2_with fail;refine wp_loop_rounds 4 ?_;rw[rounds_succ];go_wp2_with (at_builtin;refine wpList_append_own _ rfl (.tmp 31) (.tmp 32) 27 rfl w.heap.size 9 i0 (string ⟨#[]⟩) 1 16 underlying27 hi hz0 hz1 hz2 rfl (by decide) (slice (some ⟨g,0,none⟩) 0 cap) 0 [] rfl HO.out ⟨g0,0,none⟩ n0 c0 (Gq.map Value.string) rfl ?a1 (WC (HX0.out w1 HB.out)) (XC Gq) ?a2 ?a3 HB.out.size ?_)
 case a1=>rw[List.length_map,FD.out,Nat.mul_one]
 case a2=>unfold maxLen;omega
 case a3=>omega
 intro v3 w3 ho3 hg3 _;try simp only[Nat.zero_add,List.nil_append]at ho3
 obtain⟨a3,p3,hv3,_⟩:=oK ho3;subst hv3;have HB3:=aa (HB.out.grown hg3 HB.out.size (λp hp=>(BC HO.out p hp).1));have jd:=aa ho3;clear ho3 hg3 d0 d1 d2;obtain⟨d0,d1,d2⟩:=HD.out w3 HB3.out;go_wp2_with fail;rw[rounds_succ];go_wp2_with (at_builtin;refine wpList_append_own _ rfl (.tmp 31) (.tmp 32) 27 rfl w.heap.size 9 i0 (string ⟨#[]⟩) 1 16 underlying27 hi hz0 hz1 hz2 rfl (by decide) (slice a3 n0 p3) n0 (Gq.map Value.string) rfl jd.out ⟨g1,0,none⟩ n1 c1 (Ii.map Value.string) rfl ?e1 (WC (Ra.out w3 HB3.out)) (XC Ii) ?e2 ?e3 HB3.out.size ?_)
 case e1=>rw[List.length_map,Li.out,Nat.mul_one]
 case e2=>unfold maxLen;omega
 case e3=>omega
 intro v4 w4 Di hg4 _;try simp only[Nat.zero_add,List.nil_append]at Di
 obtain⟨a4,p4,hv4,_⟩:=oK Di;subst hv4;have Db:=aa (HB3.out.grown hg4 HB3.out.size (λp hp=>(BC jd.out p hp).1));have Wz:=aa Di;clear Di hg4 d0 d1 d2;obtain⟨d0,d1,d2⟩:=HD.out w4 Db.out;go_wp2_with fail;rw[rounds_succ];go_wp2_with (at_builtin;refine wpList_append_own _ rfl (.tmp 31) (.tmp 32) 27 rfl w.heap.size 9 i0 (string ⟨#[]⟩) 1 16 underlying27 hi hz0 hz1 hz2 rfl (by decide) (slice a4 (n0+n1) p4) (n0+n1) (Gq.map Value.string++Ii.map Value.string) rfl Wz.out ⟨g2,0,none⟩ n2 c2 (Nj.map Value.string) rfl ?f1 (WC (lg.out w4 Db.out)) (XC Nj) ?f2 ?f3 Db.out.size ?_)
 case f1=>rw[List.length_map,HL2.out,Nat.mul_one]
 case f2=>unfold maxLen;omega
 case f3=>omega
 intro v5 w5 ho5 hg5 _;have je:=aa (Db.out.grown hg5 Db.out.size (λp hp=>(BC Wz.out p hp).1));have hlen:(Gq++Ii++Nj).length=(n0+n1)+n2:=by simp only[List.length_append,Li.out,HL2.out,FD.out]
 have Cg:w5.ownsRow w.heap.size 9 1 v5 ((n0+n1)+n2) ((Gq++Ii++Nj).map Value.string):=by
  simp only[List.map_append,List.append_assoc];try simp only[List.append_assoc]at ho5
  exact ho5
 obtain⟨gg,cc,hv5,lJ,qJ,rJ,MB⟩:=xx (ys:=Gq++Ii++Nj) (by rw[hlen];exact Cg) (by rw[hlen];omega);rw[hlen]at hv5 lJ;subst hv5;have uk:=aa MB;have Pq:=aa (And.intro qJ rJ);clear ho5 Cg hg5 MB hlen d0 d1 d2;go_wp2_with fail;rw[rounds_succ];go_wp2;go_ret;refine⟨gg,cc,by simp,Pq.out.1,by omega,Pq.out.2,λj y hj=>?_,je.out⟩;have h:=uk.out j y hj;rw[Nat.zero_add]at h;exact h
theorem le0 (k b x l:Int)(t q idx:Nat)(w:World)(h1:1<=t)(h2:t<=4)(hq:q<=3)(hi:idx<=100000):Calls prog 240 #[.agg #[int i64 k,int i64 b,int i64 x,int i64 t,int i64 l],int i64 idx,int i64 q] w λe w'=>e=.returned (.agg #[int i64 q,int i64 ((idx/2^(t*q)/2^t:Nat):Int),int i64 ((idx/2^(t*q)% 2^t:Nat):Int),int i64 0])/\Below w.heap.size w w':=by
 obtain⟨d,hd⟩:=Ca (t*q);have Rg0:d<=12:=by rw[<-hd];exact Nat.le_trans (Nat.mul_le_mul h2 hq) (by decide)
 have hw1:IntKind.i64.wrap ((t:Int)*(q:Int))=(d:Int):=by
  have e:(t:Int)*(q:Int)=(d:Int):=by rw[<-hd,Int.natCast_mul]
  rw[e,IntKind.wrap_i64]<;>omega
 rw[hd];obtain⟨N,hN⟩:=Ca (idx/2^d);have hNb:N<=100000:=by rw[<-hN];exact Nat.le_trans (Nat.div_le_self _ _) hi
 have hsh:(idx:Int)/2^d=(N:Int):=by rw[<-hN,Int.natCast_ediv,Int.natCast_pow];rfl
 rw[hN];have HL:=aa (λV:World=>bT k b x l t V h1 h2);obtain⟨L,hL⟩:∃L:Nat,2^t=L:=⟨_,rfl⟩;have hL1:1<=L:=by rw[<-hL];exact Nat.one_le_two_pow
 rw[hL]at HL⊢;have hL0:L≠0:=by omega
 obtain⟨A,hA⟩:∃A:Nat,N/L=A:=⟨_,rfl⟩;obtain⟨C,hC⟩:∃C:Nat,N% L=C:=⟨_,rfl⟩;have hdv:Int.tdiv (N:Int) (L:Int)=(A:Int):=by rw[<-hA,Int.tdiv_eq_ediv_of_nonneg (by omega)];exact(Int.natCast_ediv _ _).symm
 have hmd:Int.tmod (N:Int) (L:Int)=(C:Int):=by rw[<-hC,Int.tmod_eq_emod_of_nonneg (by omega)];exact(Int.natCast_emod _ _).symm
 have hAb:A<=100000:=by rw[<-hA];exact Nat.le_trans (Nat.div_le_self _ _) hNb
 have hCb:C<=100000:=by rw[<-hC];exact Nat.le_trans (Nat.mod_le _ _) hNb
 have hv1:IntKind.i64.wrap (A:Int)=(A:Int):=by rw[IntKind.wrap_i64]<;>omega
 have hv2:IntKind.i64.wrap (C:Int)=(C:Int):=by rw[IntKind.wrap_i64]<;>omega
 rw[hA,hC];clear hA hC;clear hL hd hN;obtain⟨W0,hW⟩:=Ca ((w.alloc (.cells #[int i64 k,int i64 b,int i64 x,int i64 t,int i64 l] 26)).alloc (.cells #[int i64 0,int i64 0,int i64 0,int i64 0] 91));have HF:=aa (show Om w.heap.size W0 k b x t l by subst hW;refine⟨?_,?_,?_,?_,?_⟩<;>simp[go_sem]);have HB:=Gc hW;have hz:W0.heap.size<=w.heap.size+2:=by subst hW;simp
 have hz':w.heap.size+2<=W0.heap.size:=by subst hW;simp
 have Sk:=aa (show ma W0 (w.heap.size+1) [int i64 0,int i64 0,int i64 0,int i64 0] 91 by
  subst hW;have h:=ma.new (w.alloc (.cells #[int i64 k,int i64 b,int i64 x,int i64 t,int i64 l] 26)) [int i64 0,int i64 0,int i64 0,int i64 0] 91;simp only[World.size_alloc]at h;exact h)
 have qc:=aa (λ(V:World) (h:Below (w.heap.size+1) W0 V)=>(HF.out.below h (by omega):V.cell? ⟨w.heap.size,0,none⟩=some (int i64 k)/\V.cell? ⟨w.heap.size,1,none⟩=some (int i64 b)/\V.cell? ⟨w.heap.size,2,none⟩=some (int i64 x)/\V.cell? ⟨w.heap.size,3,none⟩=some (int i64 t)/\V.cell? ⟨w.heap.size,4,none⟩=some (int i64 l)));have HS:=aa (λ(V:World) (h:Below W0.heap.size W0 V)=>qc.out V (h.mono (by omega)));obtain⟨c0,c1,c2,c3,c4⟩:=HS.out W0 Vb;have Ea:=aa hW;clear hW;go_enter func240,ntmps240;go_wp2_with fail;rw[Ea.out];clear c0 c1 c2 c3 c4;refine wp_region_held_drew (S:=λV=>V.cell? ⟨w.heap.size,0,none⟩=some (int i64 k)/\V.cell? ⟨w.heap.size,1,none⟩=some (int i64 b)/\V.cell? ⟨w.heap.size,2,none⟩=some (int i64 x)/\V.cell? ⟨w.heap.size,3,none⟩=some (int i64 t)/\V.cell? ⟨w.heap.size,4,none⟩=some (int i64 l)) (by kernel_rfl) (HS.out _ ((Below.refl W0.heap.size W0).drew)) (λja=>?_);refine tk 0 ja ?_;refine tk 1 ja ?_;refine tk 2 ja ?_;refine tk 5 ja ?_;refine tk 6 ja ?_;refine wpAnyH_ready (rs:=[3]) (by kernel_rfl) (by simp) ?_;refine AllReadyH.cons (o:=?oa3) ?hoa3 (λK hK=>?hsa3) AllReadyH.nil
 case hoa3=>(simp only[jb,Na,Oa];rfl)
 go_simp;go_at_call 282;refine(HL.out _).mono ?_
 rintro e w1 ⟨rfl,hb1⟩
 have hS1:=Ga (Below.refl W0.heap.size W0).drew hb1 Aa;have HB1:=aa hS1;clear hb1 hS1;try go_wp2_with fail
 refine hK.out _ _ (HS.out _ (HB1.out)) (λja=>?_);clear hK K;try simp only[Act.put,Bb,Ka,Ma]
 refine tk 4 ja ?_;refine wpAnyH_ready (rs:=[7]) (by kernel_rfl) (by simp) ?_;refine AllReadyH.cons (o:=?oa7) ?hoa7 (λK hK=>?hsa7) AllReadyH.nil
 case hoa7=>(simp only[jb,Na,Oa];rfl)
 go_simp;go_at_call 282;refine(HL.out _).mono ?_
 rintro e w2 ⟨rfl,hb2⟩
 have hS2:=Ga HB1.out hb2 Aa;have HB2:=aa hS2;have Gd:=aa (Sk.out.below hS2 (by omega));clear hb2 hS2;try go_wp2_with fail
 refine hK.out _ _ (HS.out _ (HB2.out)) (λja=>?_);clear hK K;try simp only[Act.put,Bb,Ka,Ma]
 refine tk 8 ja ?_;refine tk 9 ja ?_;have r0:=Gd.out.cell 0;have r1:=Gd.out.cell 1;have r2:=Gd.out.cell 2;have r3:=Gd.out.cell 3;have f0:=Gd.out.free 0;have f1:=Gd.out.free 1;have f2:=Gd.out.free 2;have f3:=Gd.out.free 3;simp only[Oa,Na]at r0 r1 r2 r3;refine wpAnyH_ready (rs:=[10]) (by kernel_rfl) (by simp) ?_;refine AllReadyH.cons (o:=?oa10) ?hoa10 (λK hK=>?hsa10) AllReadyH.nil
 case hoa10=>(simp only[jb,Na,Oa];rfl)
 go_simp;refine hK.out _ _ (qc.out _ (((((HB2.out.mono (by omega)).setCell (by simp<;>omega) _).setCell (by simp<;>omega) _).setCell (by simp<;>omega) _).setCell (by simp<;>omega) _)) (λja=>?_);clear hK K;try simp only[Act.put,Bb,Ka,Ma]
 refine wpAnyH_done (by kernel_rfl) ?_ _;go_wp2;refine bodyPost_ret (v:=.agg #[int i64 q,int i64 A,int i64 C,int i64 0]) (by simp[results,results240,go_sem,r0,r1,r2,r3]) rfl ⟨rfl,?_⟩;have Yl:=HB.out.trans (HB2.out.mono (by omega));iterate 4 refine Below.setCell ?_ (by simp<;>omega) _
 exact Yl
theorem u6 (k b x t l a0 a1 a2 a3 a4 a5 idx:Int)(n g c:Nat)(rnd cs:ByteArray)(w:World)(hw1:IntKind.i64.wrap (a2+t)=a2+t)(hw2:IntKind.i64.wrap (l*(a2+t))=(n:Int))(z1:rnd.size<=16)(z2:cs.size<=1000)
  (hM:∀V:World,Calls prog 155 #[.agg #[int i64 k,int i64 b,int i64 x,int i64 t,int i64 l]] V λe w'=>e=.returned (.tuple #[.agg #[int i64 a0,int i64 a1,int i64 a2,int i64 a3,int i64 a4,int i64 a5],int i64 0])/\Below V.heap.size V w')
  (hI:∀V:World,Calls prog 157 #[.agg #[int i64 k,int i64 b,int i64 x,int i64 t,int i64 l],int i64 idx] V λe w'=>e=.returned (.bool true)/\Below V.heap.size V w')
  (hV1:∀(V:World) (B:Nat),B=V.heap.size->Calls prog 159 #[.agg #[int i64 k,int i64 b,int i64 x,int i64 t,int i64 l],slice (some ⟨B,0,none⟩) 1 1] (V.alloc (.cells #[string rnd] 9)) λe w'=>e=.returned (.bool true)/\Below (V.alloc (.cells #[string rnd] 9)).heap.size (V.alloc (.cells #[string rnd] 9)) w')
  (hV2:∀V:World,Below w.heap.size w V->Calls prog 159 #[.agg #[int i64 k,int i64 b,int i64 x,int i64 t,int i64 l],slice (some ⟨g,0,none⟩) n c] V λe w'=>e=.returned (.bool true)/\Below V.heap.size V w')
  (hJ:∀V:World,Below w.heap.size w V->Calls prog 161 #[slice (some ⟨g,0,none⟩) n c,string ⟨#[]⟩] V λe w'=>e=.returned (string cs)/\Below V.heap.size V w'):Calls prog 85 #[.agg #[int i64 k,int i64 b,int i64 x,int i64 t,int i64 l],.agg #[int i64 idx,string rnd,slice (some ⟨g,0,none⟩) n c]] w λr w'=>r=.returned (.tuple #[string (qa 4 idx++rnd++cs),int i64 0])/\Below w.heap.size w w':=by
 have HM:=aa hM;have HI:=aa hI;have yt:=aa hV1;have OH:=aa hV2;have HJ:=aa hJ;have HN:=aa (λV:World=>Kr 4 idx V (by decide));have Wj:=Sd (qa 4 idx) rnd (by rw[Sa];omega) (by omega);have Cj:=Sd (qa 4 idx++rnd) cs (by simp only[ByteArray.size_append,Sa];omega) (by omega);clear hM hI hV1 hV2 hJ;generalize qa 4 idx++rnd++cs=res at Cj⊢;generalize qa 4 idx++rnd=hd at Wj Cj;generalize qa 4 idx=nb at HN Wj;obtain⟨W0,hW⟩:=Ca ((w.alloc (.cells #[int i64 k,int i64 b,int i64 x,int i64 t,int i64 l] 26)).alloc (.cells #[int i64 idx,string rnd,slice (some ⟨g,0,none⟩) n c] 29));have HK:=aa (show ma W0 w.heap.size [int i64 k,int i64 b,int i64 x,int i64 t,int i64 l] 26 by rw[<-hW];exact(ma.new w _ _).alloc _)
 have Us:=aa (show ma W0 (w.heap.size+1) [int i64 idx,string rnd,slice (some ⟨g,0,none⟩) n c] 29 by
  rw[<-hW];have h:=ma.new (w.alloc (.cells #[int i64 k,int i64 b,int i64 x,int i64 t,int i64 l] 26)) [int i64 idx,string rnd,slice (some ⟨g,0,none⟩) n c] 29;simp only[World.size_alloc]at h;exact h)
 have HB:=Gc hW;have HS:=aa (λ(V:World) (h:Below W0.heap.size W0 V)=>(have q1:=HK.out.on h;have q2:=Us.out.on h;Ul (Fa q1) (Ja q1) (Ha q1) (Xa q1) (Ya q1) (Fa q2) (Ja q2) (Ha q2)));obtain⟨c0,c1,c2,c3,c4,d0,d1,d2⟩:=HS.out W0 Vb;have Ea:=aa hW;clear hW;go_enter func85,ntmps85;go_wp2_with fail;rw[Ea.out];refine(HM.out _).mono ?_
 rintro e w1 ⟨rfl,hb1⟩
 have HB1:=aa (Ga (Below.refl W0.heap.size W0) hb1 Aa);clear hb1 c0 c1 c2 c3 c4 d0 d1 d2 Ea;have HB2:=aa (HB1.out.alloc HB1.out.size (.cells #[int i64 a0,int i64 a1,int i64 a2,int i64 a3,int i64 a4,int i64 a5] 158));have HZ2:=aa (ma.new w1 [int i64 a0,int i64 a1,int i64 a2,int i64 a3,int i64 a4,int i64 a5] 158);obtain⟨W2,hW2⟩:=Ca (w1.alloc (.cells #[int i64 a0,int i64 a1,int i64 a2,int i64 a3,int i64 a4,int i64 a5] 158));rw[hW2]at HB2 HZ2;obtain⟨c0,c1,c2,c3,c4,d0,d1,d2⟩:=HS.out W2 HB2.out;go_wp2_with fail;try rw[hW2]
 clear hW2;refine(HI.out _).mono ?_
 rintro e w3 ⟨rfl,hb3⟩
 have HB3:=aa (Ga HB2.out hb3 Aa);have HZ3:=aa (HZ2.out.on hb3);clear hb3 c0 c1 c2 c3 c4 d0 d1 d2 HB2 HZ2;obtain⟨c0,c1,c2,c3,c4,d0,d1,d2⟩:=HS.out w3 HB3.out;have z2':=HZ3.out.cell 2;simp only[Oa,Na]at z2';have TM:=aa (yt.out w3 w3.heap.size rfl);go_wp2_with fail;refine TM.out.mono ?_
 rintro e w4 ⟨rfl,hb4⟩
 have Db:=aa (Ga (HB3.out.alloc HB3.out.size _) hb4 Aa);clear hb4 c0 c1 c2 c3 c4 d0 d1 d2 z2' TM;obtain⟨c0,c1,c2,c3,c4,d0,d1,d2⟩:=HS.out w4 Db.out;have UM:=aa (OH.out w4 (HB.out.trans (Db.out.mono HB.out.size)));go_wp2_with fail;refine UM.out.mono ?_
 rintro e w5 ⟨rfl,hb5⟩
 have je:=aa (Ga Db.out hb5 Aa);clear hb5 c0 c1 c2 c3 c4 d0 d1 d2 UM;go_wp2_with fail;have qj:=aa (λ(V:World) (h:Below w5.heap.size w5 V)=>HS.out V (Ga je.out h Aa));have Ud:=aa (λ(V:World) (h:Below w5.heap.size w5 V)=>HB.out.trans ((Ga je.out h Aa).mono HB.out.size));go_region_held3 (λV=>V.cell? ⟨w.heap.size,0,none⟩=some (int i64 k)/\V.cell? ⟨w.heap.size,1,none⟩=some (int i64 b)/\V.cell? ⟨w.heap.size,2,none⟩=some (int i64 x)/\V.cell? ⟨w.heap.size,3,none⟩=some (int i64 t)/\V.cell? ⟨w.heap.size,4,none⟩=some (int i64 l)/\V.cell? ⟨w.heap.size+1,0,none⟩=some (int i64 idx)/\V.cell? ⟨w.heap.size+1,1,none⟩=some (string rnd)/\V.cell? ⟨w.heap.size+1,2,none⟩=some (slice (some ⟨g,0,none⟩) n c)) (first|exact qj.out _ hS2|exact qj.out _ hS1|exact qj.out _ (Below.refl w5.heap.size w5).drew) (first|(go_at_call 160;refine(HN.out _).mono ?_;rintro e w6 ⟨rfl,hb6⟩;have hS1:=Ga (Below.refl w5.heap.size w5).drew hb6 Aa)|(go_at_call 161;refine(HJ.out _ (Ud.out _ hS1)).mono ?_;rintro e w7 ⟨rfl,En⟩;have hS2:=Ga hS1 En Aa));have Pe:=aa (Ud.out _ hS2);clear hS1 hS2 hb6 En;go_wp2;go_ret2;exact⟨rfl,Pe.out⟩
theorem uc0 (k x t l p0 p1 p2 p3 a0 a1 a3 a4 a5:Int)(b:Nat)(sec rnd pub:ByteArray)(ch wd:Nat)(w:World)(hk:k=1\/k=2)(h1:1<=b)(h2:b<=16)(hs:sec.size<=16)(hp:pub.size<=16)(hc1:1<=ch)(hc2:ch<=64)(hwd:wd<=15)(hx:x=(wd:Int)+1)(q0:0<=p0/\p0<=100000)(q1:0<=p1/\p1<=100000)(q2:0<=p2/\p2<=100000)
  (hsz:∀V:World,Calls prog 83 #[.agg #[int i64 k,int i64 b,int i64 x,int i64 t,int i64 l]] V λr w'=>r=.returned (.agg #[int i64 a0,int i64 a1,int i64 ch,int i64 a3,int i64 a4,int i64 a5])/\Below V.heap.size V w'):Calls prog 272 #[.agg #[int i64 k,int i64 b,int i64 x,int i64 t,int i64 l],.agg #[string sec,string rnd,string pub],.agg #[int i64 p0,int i64 p1,int i64 p2,int i64 p3]] w λe w'=>e=.returned (string (oq k b wd ch sec pub p0 p1 p2))/\Below w.heap.size w w':=by
 obtain⟨i0,hi,hz0,hz1,hz2⟩:=info_parts Rw;have hx1:1<=x:=by omega
 have hx2:x<=16:=by omega
 have jo:=aa hsz;have HST:=aa (λ(m:Nat) (hm:m<=64) (V:World)=>PS k x t l p0 p1 p2 m b sec rnd pub V hk h1 h2 hs q0 q1 q2 (by omega))
 have Qv:=aa (λ(m:Nat) (hm:m<=64) (V:World)=>(by
  have h:=XR k x t l p0 p1 p2 m b pub (si k b sec p0 p1 p2 m) 0 hk h1 h2 hp (UC k b sec p0 p1 p2 m hk (by omega) (by omega) hs) q0 q1 q2 (by omega) wd (by omega) V;rw[show((0+wd:Nat):Int)=x-1 by omega]at h;exact h:Calls prog 94 #[.agg #[int i64 k,int i64 b,int i64 x,int i64 t,int i64 l],string pub,.agg #[int i64 p0,int i64 p1,int i64 p2,int i64 m],int i64 0,int i64 (x-1),string (si k b sec p0 p1 p2 m)] V λe w'=>e=.returned (string (Ew k b wd sec pub p0 p1 p2 m))/\Below V.heap.size V w'))
 have El:=aa (λ(z:Int) (V:World) (g c:Nat) (hg:g<V.heap.size) (hc:(Xg k b wd sec pub p0 p1 p2 ch).length<=c) (hce:∀(j:Nat) y,(Xg k b wd sec pub p0 p1 p2 ch)[j]?=some y->V.cell? ⟨g,0+j,none⟩=some (string y))=>(by
  have h:=Yb0 k x t l p0 p1 p2 z b pub hk h1 h2 hp q0 q1 q2 6 0 g 0 c (Xg k b wd sec pub p0 p1 p2 ch) V (by omega) hce hg hc (by rw[Et];exact hc1) (by rw[Et];omega) (by rw[Et];exact hc2) (zI k b wd sec pub p0 p1 p2 ch hk (by omega) (by omega) hs hp);exact h:Calls prog 95 #[.agg #[int i64 k,int i64 b,int i64 x,int i64 t,int i64 l],string pub,.agg #[int i64 p0,int i64 p1,int i64 p2,int i64 z],int i64 (0:Nat),slice (some ⟨g,0,none⟩) (Xg k b wd sec pub p0 p1 p2 ch).length c] V λe w'=>e=.returned (string (Qg k b pub p0 p1 p2 6 (0:Nat) (Xg k b wd sec pub p0 p1 p2 ch)))/\Below V.heap.size V w'))
 have Kz:=aa (λm=>XY k b wd sec pub p0 p1 p2 m);have Iz:=aa (λm=>Et k b wd sec pub p0 p1 p2 m);clear hsz q0 q1 q2 hx;obtain⟨W0,hW⟩:=Ca ((w.alloc (.cells #[int i64 k,int i64 b,int i64 x,int i64 t,int i64 l] 26)).alloc (.cells #[string sec,string rnd,string pub] 42));have Nt:W0.heap.size<=w.heap.size+2:=by subst hW;simp
 have J4:w.heap.size+2<=W0.heap.size:=by subst hW;simp
 have HF:=aa (show Om w.heap.size W0 k b x t l by subst hW;refine⟨?_,?_,?_,?_,?_⟩<;>simp[go_sem]);have HC:=aa (show W0.cell? ⟨w.heap.size+1,0,none⟩=some (string sec)/\W0.cell? ⟨w.heap.size+1,1,none⟩=some (string rnd)/\W0.cell? ⟨w.heap.size+1,2,none⟩=some (string pub) by subst hW;refine⟨?_,?_,?_⟩<;>simp[go_sem]);have HB:=Gc hW;have Df:=aa (show ma (W0.alloc (.cells #[int i64 p0,int i64 p1,int i64 p2,int i64 p3] 91)) (w.heap.size+2) [int i64 p0,int i64 p1,int i64 p2,int i64 p3] 91 by have h:=ma.new W0 [int i64 p0,int i64 p1,int i64 p2,int i64 p3] 91;rw[show W0.heap.size=w.heap.size+2 by omega]at h;exact h);have Ea:=aa hW;clear hW;go_enter func272,ntmps272;go_wp2_with fail;refine(jo.out _).mono ?_
 rintro e w1 ⟨rfl,hb1⟩
 rw[Ea.out]at hb1;have HB1:=aa (show Below (w.heap.size+2) W0 w1 from((Below.refl _ W0).alloc (by omega) _).trans (hb1.mono (by simp;omega)));have Jd:=aa (Df.out.on hb1);have hz1':w.heap.size+2<w1.heap.size:=Jd.out.lt;clear hb1 Ea;have HZ:=aa (show ma (w1.alloc (.cells #[int i64 a0,int i64 a1,int i64 ch,int i64 a3,int i64 a4,int i64 a5] 158)) w1.heap.size [int i64 a0,int i64 a1,int i64 ch,int i64 a3,int i64 a4,int i64 a5] 158 from ma.new _ _ _);have Ki:=aa (HB1.out.alloc (by omega) (.cells #[int i64 a0,int i64 a1,int i64 ch,int i64 a3,int i64 a4,int i64 a5] 158));have Us:=aa (Jd.out.alloc (.cells #[int i64 a0,int i64 a1,int i64 ch,int i64 a3,int i64 a4,int i64 a5] 158));have I4:(w1.alloc (.cells #[int i64 a0,int i64 a1,int i64 ch,int i64 a3,int i64 a4,int i64 a5] 158)).heap.size=w1.heap.size+1:=by simp
 go_wp2_with fail;obtain⟨WA,FP⟩:=Ca (w1.alloc (.cells #[int i64 a0,int i64 a1,int i64 ch,int i64 a3,int i64 a4,int i64 a5] 158));rw[FP]at HZ Ki Us I4⊢;clear FP HB1 Jd;go_loopw [8,9] (λv i wr=>∃(m:Nat) (z:Int),m<=ch/\i=int i64 m/\Hid (ma wr (w.heap.size+2) [int i64 p0,int i64 p1,int i64 p2,int i64 z] 91)/\Hid (ma wr w1.heap.size [int i64 a0,int i64 a1,int i64 ch,int i64 a3,int i64 a4,int i64 a5] 158)/\Hid (wr.ownsRow (w1.heap.size+1) 9 1 v m ((Xg k b wd sec pub p0 p1 p2 m).map Value.string))/\Hid (Below (w.heap.size+2) W0 wr)/\w1.heap.size+1<=wr.heap.size) (λ_ i _=>ch-(intOf i).toNat)
 case atStart=>exact⟨0,p3,Nat.zero_le _,rfl,Us.out,HZ.out,World.ownsRow_nil _ _ _ _,Ki.out,by omega⟩
 case round=>
  obtain⟨m,z,hm,rfl,hat,hsz,ho,hb,pQ⟩:=hrel;have zc:=hsz.out.cell 2;have a3':=hat.out.cell 3;have fz:=hat.out.free 3;obtain⟨c0,c1,c2,c3,c4⟩:=HF.out.below hb.out (by omega);have s0:=(hb.out.cell (p:=⟨w.heap.size+1,0,none⟩) (by show w.heap.size+1<_;omega)).trans HC.out.1;have s1:=(hb.out.cell (p:=⟨w.heap.size+1,1,none⟩) (by show w.heap.size+1<_;omega)).trans HC.out.2.1;have s2:=(hb.out.cell (p:=⟨w.heap.size+1,2,none⟩) (by show w.heap.size+1<_;omega)).trans HC.out.2.2;have d0:=hat.out.cell 0;have d1:=hat.out.cell 1;have d2:=hat.out.cell 2;simp only[Oa,Na]at zc a3' d0 d1 d2;by_cases hlt:m<ch
  ·have Wi:=aa (hb.out.setCell (p:=⟨w.heap.size+2,3,none⟩) Aa (int i64 m));have Iq:=aa (hat.out.set 3 (int i64 m));have iN:=aa (hsz.out.other (a:=⟨w.heap.size+2,3,none⟩) (int i64 m) (by simp;omega));have qb:=aa (ho.out.kept (oZ wr (w.heap.size+2) 3 (int i64 m)) (Ea0 ho.out (by omega)));have aC:w1.heap.size+1<=(wr.setCell ⟨w.heap.size+2,3,none⟩ (int i64 m)).heap.size:=by simp[World.setCell];omega
   have xm:=aa (HST.out m (by omega) (wr.setCell ⟨w.heap.size+2,3,none⟩ (int i64 m)));go_wp2_with fail;refine xm.out.mono ?_
   rintro e w2 ⟨rfl,hb2⟩
   have HB2:=aa (Ik Wi.out hb2 (by omega));have HA2:=aa (Iq.out.on hb2);have HZ2:=aa (iN.out.on hb2);have Lc:=aa (qb.out.kept (gB hb2) (by cases Value.ownBlock _ with|none=>exact .inl rfl|some _=>exact .inr (by simp)));have hz2':w1.heap.size+1<=w2.heap.size:=Nat.le_trans aC hb2.size;clear hb2 aC Wi Iq iN qb xm zc a3' fz c0 c1 c2 c3 c4 s0 s1 s2 d0 d1 d2 hat hsz ho hb pQ;obtain⟨c0,c1,c2,c3,c4⟩:=HF.out.below HB2.out (by omega);have s2:=(HB2.out.cell (p:=⟨w.heap.size+1,2,none⟩) (by show w.heap.size+1<_;omega)).trans HC.out.2.2;have d0:=HA2.out.cell 0;have d1:=HA2.out.cell 1;have d2:=HA2.out.cell 2;have d3:=HA2.out.cell 3;simp only[Ma,Ka,Oa,Na]at d0 d1 d2 d3;have HCM:=aa (Qv.out m (by omega) w2);go_wp2_with fail;refine HCM.out.mono ?_
   rintro e w3 ⟨rfl,hb3⟩
   have HB3:=aa (Ik HB2.out hb3 (by omega));have Oj:=aa (HA2.out.on hb3);have HZ3:=aa (HZ2.out.on hb3);have jd:=aa (Lc.out.kept (gB hb3) (by cases Value.ownBlock _ with|none=>exact .inl rfl|some _=>exact .inr (by simp)));have U3:w1.heap.size+1<=w3.heap.size:=Nat.le_trans hz2' hb3.size;clear hb3 hz2' HB2 HA2 HZ2 Lc HCM c0 c1 c2 c3 c4 s2 d0 d1 d2 d3;have Ld:=aa (Kz.out m);generalize Ew k b wd sec pub p0 p1 p2 m=en at Ld⊢;go_wp2_with (at_builtin;refine wpList_append_own _ rfl _ _ 27 rfl (w1.heap.size+1) 9 i0 (string ⟨#[]⟩) 1 16 underlying27 hi hz0 hz1 hz2 rfl (by decide) _ _ _ rfl (jd.out.alloc _) ⟨w3.heap.size,0,none⟩ 1 1 [_] rfl rfl (Mo _ _ _) ?c2 ?c3 ?c4 ?c5 ?_)
   case c2=>intro y hy;simp at hy;subst hy;rfl
   case c3=>unfold maxLen;omega
   case c4=>omega
   case c5=>simp;omega
   intro v' w6 Cg hgrow _;have Ub:=aa ((HB3.out.alloc (by omega) _).grown hgrow (by simp;omega) (λp hp=>by have:=(Mr jd.out p hp).1;omega))
   have Rj:Hid (w6.ownsRow (w1.heap.size+1) 9 1 v' (m+1) ((Xg k b wd sec pub p0 p1 p2 (m+1)).map Value.string)):=by
    show w6.ownsRow (w1.heap.size+1) 9 1 v' (m+1) ((Xg k b wd sec pub p0 p1 p2 (m+1)).map Value.string);rw[Ld.out,List.map_append];exact Cg
   have Jh:=aa (MN (Oj.out.alloc _) hgrow (λp hp=>by have:=(Mr jd.out p hp).1;omega));have ry:=aa (MN (HZ3.out.alloc _) hgrow (λp hp=>by have:=(Mr jd.out p hp).1;omega));have F4:w1.heap.size+1<=w6.heap.size:=by have:=hgrow.size;simp at this;omega
   clear Cg hgrow jd HB3 Oj HZ3 U3;go_wp2;go_roundw
   case rel=>
    have R:∃(m':Nat) (z:Int),m'<=ch/\int i64 ((m:Int)+1)=int i64 m'/\Hid (ma w6 (w.heap.size+2) [int i64 p0,int i64 p1,int i64 p2,int i64 z] 91)/\Hid (ma w6 w1.heap.size [int i64 a0,int i64 a1,int i64 ch,int i64 a3,int i64 a4,int i64 a5] 158)/\Hid (w6.ownsRow (w1.heap.size+1) 9 1 v' m' ((Xg k b wd sec pub p0 p1 p2 m').map Value.string))/\Hid (Below (w.heap.size+2) W0 w6)/\w1.heap.size+1<=w6.heap.size:=⟨m+1,m,by omega,by go_num,Jh.out,ry.out,Rj.out,Ub.out,F4⟩;first|exact R|((repeat apply Exists.intro);exact⟨R,rfl⟩)
   case measure=>simp[intOf];omega
  ·obtain rfl:m=ch:=by omega
   have hel:=Iz.out m;have HO:=ho.out;obtain⟨g',c',rfl,hcc,hg1,hg2,Gn⟩:=xx (ys:=Xg k b wd sec pub p0 p1 p2 m) (by rw[hel];exact HO) (by omega);have yD:=aa (El.out z wr g' c' hg2 hcc Gn);rw[hel]at yD;have Rq:Hid (oq k b wd m sec pub p0 p1 p2=Qg k b pub p0 p1 p2 6 (0:Nat) (Xg k b wd sec pub p0 p1 p2 m)):=rfl;rw[<-Rq.out]at yD;have Ud:=aa (HB.out.trans (hb.out.mono (by omega)));clear Gn HO hsz ho hat hb hcc;obtain⟨lf,hlf⟩:=Ca (oq k b wd m sec pub p0 p1 p2);rw[hlf]at yD;have dH:=aa hlf;clear hlf Rq;go_wp2_with fail;refine yD.out.mono ?_
   rintro e w2 ⟨rfl,hb2⟩
   have HB2:=aa (Ud.out.trans (hb2.mono Ud.out.size));clear hb2 zc a3' fz c0 c1 c2 c3 c4 s0 s1 s2 d0 d1 d2;go_wp2;go_ret;exact⟨by rw[dH.out];rfl,HB2.out⟩
def Lg (D:Nat)(id:ByteArray)(tot:Int)(fv:Value)(q b:Int)(d:ByteArray):List Value:=[pointer (some ⟨D,0,none⟩),string id,int i64 tot,fv,int i64 q,int i64 b,string d]
theorem D7 (Q:Int->World->Prop)(O D:Nat)(id i0:ByteArray)(tot s0 b0:Int)(fv:Value)(w W:World)(hO:ma w O (Lg D id tot fv s0 b0 i0) 246)
  (hW:((w.setCell ⟨O,4,none⟩ (int i64 1)).setCell ⟨O,5,none⟩ (int i64 0)).setCell ⟨O,6,none⟩ (string id)=W)
  (hQ:∀c V,Q c V->ma V O (Lg D id tot fv 1 0 id) 246)
  (hL:∀V:World,Below W.heap.size W V->Calls prog 183 #[pointer (some ⟨D,0,none⟩),.agg #[int i64 1,int i64 0,string id]] V λe w'=>∃c,e=.returned (int i64 c)/\Q c w'):Calls prog 111 #[pointer (some ⟨O,0,none⟩)] w λe w'=>∃c,e=.returned (int i64 c)/\Q c w':=by
 have HL:=aa hL;have c0:=Fa hO;have c1:=Ja hO;have c4:=Ya hO;have c5:=Ee hO;have c6:=jf hO;have f4:=hO.free 4;have f5:=hO.free 5;have f6:=hO.free 6;have Ud:=aa (show ma W O (Lg D id tot fv 1 0 id) 246 by rw[<-hW];exact((hO.set 4 _).set 5 _).set 6 _);have HS:=aa (λ(V:World) (h:ma V O (Lg D id tot fv 1 0 id) 246)=>(Vw (Fa h) (Ya h) (Ee h) (jf h)));have HQ:=aa hQ;have Ea:=aa hW;clear hL hQ hW hO;go_enter func111,ntmps111;go_wp2_with fail;rw[Ea.out];clear c0 c1 c4 c5 c6 f4 f5 f6;have hS:ma W.drew O (Lg D id tot fv 1 0 id) 246:=Ud.out;go_region_held3 (λV=>V.cell? ⟨O,0,none⟩=some (pointer (some ⟨D,0,none⟩))/\V.cell? ⟨O,4,none⟩=some (int i64 1)/\V.cell? ⟨O,5,none⟩=some (int i64 0)/\V.cell? ⟨O,6,none⟩=some (string id)) (exact HS.out _ hS) (first|(go_at_call 183;refine(HL.out _ (Below.refl W.heap.size W).drew).mono ?_;rintro e wN ⟨c,rfl,hq⟩;have hS:=HQ.out _ _ hq));have MV:=aa hq;clear hq hS;go_wp2;go_ret;exact⟨c,rfl,MV.out⟩
theorem uf0 (D O c:Nat)(id:ByteArray)(tot:Int)(a:Option Addr)(w:World)(hO:ma w O (Lg D id tot (slice a 0 c) 0 0 ⟨#[]⟩) 246):Calls prog 172 #[pointer (some ⟨O,0,none⟩)] w λe w'=>e=.returned (int i64 8)/\w'=w:=by
 have c3:=Xa hO;have c4:=Ya hO;clear hO;go_enter func172,ntmps172;go_wp2_with fail;refine wp_loop_rounds 1 ?_;rw[rounds_succ];go_wp2;go_ret;exact⟨rfl,rfl⟩
end Go.Proofs.YtgaoeoijdpdjiabGreatDoor
