import Derived.Test.YtgaoeoijdpdjiabGreatDoorPart31
import Derived.Test.YtgaoeoijdpdjiabGreatDoorPart32
import Derived.ProofKit
import Derived.OpenShut
import Derived.ShutString
import Derived.ChangeOld
import Derived.Deep.Grids
import Derived.Deep.Strs
import Derived.SizedLaws
open Go.Value (int pointer slice)
open Go.IntKind (i64)
open Go.Proofs.Tryz
set_option maxRecDepth 100000
set_option maxHeartbeats 4000000
namespace Go.Proofs.YtgaoeoijdpdjiabGreatDoor
open Go.RowKit
structure Ml (lo R:Nat)(n:Int)(lv:Value)(due sy en:Int)(m:Nat)(X:List Gb)(w1 w:World):Prop where
 b:ma w R (Af n lv due sy en) 293
 r:w.ownsRow lo 295 3 lv m (Eh X)
 k:za (λq=>lv.ownBlock=some q) w1 w
theorem Ml.set {lo R g:Nat}{n:Int}{m c:Nat}{due sy en:Int}{X:List Gb}{w1 w:World}(h:Ml lo R n (slice (some ⟨g,0,none⟩) m c) due sy en m X w1 w){j:Nat}{p:Gb}(hp:X[j]?=some p)(z:Nat):Ml lo R n (slice (some ⟨g,0,none⟩) m c) due sy en m (X.set j (p.1,p.2.1,z)) w1 (w.setCell ⟨g,j*3+2,none⟩ (int i64 (z:Int))):=by
 have hne:=Km h.r h.b (by decide);refine⟨h.b.other _ (λe=>hne (by show some g=some R;rw[e])),?_,h.k.setCell (p:=⟨g,j*3+2,none⟩) (.inl rfl) _⟩;rw[<-JQ hp];exact Ia0 h.r _ _
theorem Ml.cells {lo R g:Nat}{n:Int}{m c:Nat}{due sy en:Int}{X:List Gb}{w1 w:World}(h:Ml lo R n (slice (some ⟨g,0,none⟩) m c) due sy en m X w1 w){j:Nat}{p:Gb}(hp:X[j]?=some p)(hj:j<m):w.cell? ⟨g,j*3+2,none⟩=some (int i64 (p.2.2:Int))/\w.frozen? ⟨g,j*3+2,none⟩=false:=by
 refine⟨?_,Ga0 h.r _⟩;rw[h.r.cellAt (j*3+2) (by omega)];exact lC hp 2 (by decide)
theorem xd0 (lo R:Nat)(n:Int)(la:Option Addr)(lc:Nat)(due sy en:Int)(L:List Gb)(w:World)(hB:ma w R (Af n (slice la L.length lc) due sy en) 293)(hr:w.ownsRow lo 295 3 (slice la L.length lc) L.length (Eh L))(hL:L.length<=2199023255552)(hd0:0<=due)(hd2:due<=9223372036854775807)(hd:due≠1)(hs0:0<=sy)(hs1:sy<9223372036854775807):Calls prog 143 #[pointer (some ⟨R,0,none⟩)] w λe w'=>e=.returned (int i64 0)/\ma w' R (Af n (slice la L.length lc) (Un due) (sy+1) en) 293/\w'.ownsRow lo 295 3 (slice la L.length lc) L.length (Eh (Pf (λ_=>true) 0 L))/\za (λq=>q=R\/(slice la L.length lc).ownBlock=some q) w w':=by
 have HF:=aa (dz R n (slice la L.length lc) due sy en w hB hd0 hd2);have hne:=Km hr hB (by decide);have Pm:=aa hne;have zi:=aa (λ(V:World) (hk:za (λq=>q=R) w V)=>xc hr hk (λq e e2=>hne (by rw[e,e2])));have hde:(due==1)=false:=by simpa using hd
 have hsw:IntKind.i64.wrap (sy+1)=sy+1:=by rw[IntKind.wrap_i64]<;>omega
 obtain⟨m,hm⟩:=Ca (L.length);have jk:=aa (cO (λ_=>true) L);rw[hm]at hB hr hL HF hne Pm zi jk⊢;have HM:=aa hm;have HL:=aa hL;clear hB hr hL hm hne hd0 hd2 hd hs0 hs1;go_enter func143,ntmps143;go_wp2_with fail;refine HF.out.mono ?_
 rintro e w1 ⟨rfl,hb,hk⟩
 have Ce:=aa hk;have aH:=aa (show Ml lo R n (slice la m lc) (Un due) sy en m (Kg (λ_=>true) L 0) w1 w1 from⟨hb,by rw[iO];exact zi.out _ hk,za.refl _ _⟩);clear hb hk;go_wp2_with fail;go_loopw [4] (λi wr=>∃j:Nat,j<=m/\i=int i64 j/\Hid (Ml lo R n (slice la m lc) (Un due) sy en m (Kg (λ_=>true) L j) w1 wr)) (λi _=>m-(intOf i).toNat)
 case atStart=>exact⟨0,Nat.zero_le _,rfl,aH.out⟩
 case round=>
  obtain⟨j,hj,rfl,HJ⟩:=hrel;have c1:=Ja HJ.out.b;by_cases hlt:j<m
  ·obtain⟨p,hp⟩:∃p,L[j]?=some p:=⟨_,List.getElem?_eq_getElem (by rw[HM.out];exact hlt)⟩;obtain⟨g,cap,hgv,_,_⟩:=HJ.out.r.form (by omega);simp only[Value.slice.injEq]at hgv;obtain⟨rfl,_,rfl⟩:=hgv;obtain⟨y2,f2⟩:=HJ.out.cells (wE hp) hlt;have hms:(j:Int)<(m:Int):=by omega
   have hjm:(j:Int)<2199023255552:=by have:=HL.out;omega
   have HP:=aa hp;clear hp;by_cases h0:p.2.2=0
   ·have e1:((p.2.2:Int)==0)=true:=by simp[h0]
    have HS:=aa (HJ.out.set (wE HP.out) 1)
    have HE:Hid (Kg (λ_=>true) L (j+1)=(Kg (λ_=>true) L j).set j (p.1,p.2.1,1)):=by
     show _=_;rw[fO HP.out];unfold Vo;rw[if_pos h0];rfl
    clear h0;go_wp2;go_roundw
    case rel=>exact⟨j+1,by omega,by go_num,by show Ml _ _ _ _ _ _ _ _ _ _ _;rw[HE.out];exact HS.out⟩
    case measure=>simp[intOf];omega
   ·have e1:((p.2.2:Int)==0)=false:=by simpa using h0
    have HE:=aa (eO (κ:=λ_=>true) HP.out h0);clear h0;go_wp2;go_roundw
    case rel=>exact⟨j+1,by omega,by go_num,by show Ml _ _ _ _ _ _ _ _ _ _ _;rw[HE.out];exact HJ.out⟩
    case measure=>simp[intOf];omega
  ·obtain rfl:j=m:=by omega
   have hms:¬(j:Int)<(j:Int):=by omega
   have c3:=Xa HJ.out.b;have f3:wr.frozen? ⟨R,3,none⟩=false:=HJ.out.b.free 3;have HS:=aa (HJ.out.b.set 3 (int i64 (sy+1)));have HR2:=aa (xc HJ.out.r (Jc wr ⟨R,3,none⟩ (int i64 (sy+1))) (λq e e2=>Pm.out (by rw[e,e2])));have Gl:=aa (show za (λq=>q=R\/(slice la j lc).ownBlock=some q) w (wr.setCell ⟨R,3,none⟩ (int i64 (sy+1)))from((Ce.out.mono (λq _ e=>.inl e)).trans HJ.out.k (λq e=>.inl (.inr e))).setCell (.inl (.inl rfl)) _);rw[jk.out]at HR2;clear HJ;go_wp2;go_ret;exact⟨rfl,HS.out,HR2.out,Gl.out⟩
theorem pb0 (lo R:Nat)(n:Int)(la:Option Addr)(lc:Nat)(due sy en:Int)(L:List Gb)(kv:Value)(K:List Bool)(w:World)(hB:ma w R (Af n (slice la L.length lc) due sy en) 293)(hr:w.ownsRow lo 295 3 (slice la L.length lc) L.length (Eh L))(hL:L.length<=2199023255552)(hK:Qx w kv K)(Lu:K.length<=maxLen)(Gr:∀b o l c,kv=slice (some ⟨b,o,none⟩) l c->0<l->b<w.heap.size/\(slice la L.length lc).ownBlock≠some b)(he0:0<=en)(he1:en<9223372036854775807):Calls prog 146 #[pointer (some ⟨R,0,none⟩),kv] w λe w'=>e=.returned (.tuple #[])/\ma w' R (Af n (slice la L.length lc) 0 sy (en+1)) 293/\w'.ownsRow lo 295 3 (slice la L.length lc) L.length (Eh (Pf (λc=>K.getD c false) 0 L))/\za (λq=>q=R\/(slice la L.length lc).ownBlock=some q) w w':=by
 have hne:=Km hr hB (by decide);have Pm:=aa hne;have hsw:IntKind.i64.wrap (en+1)=en+1:=by rw[IntKind.wrap_i64]<;>omega
 obtain⟨κ,hκ⟩:∃κ:Nat->Bool,(λc=>K.getD c false)=κ:=⟨_,rfl⟩;have iM:=aa hκ;rw[hκ];obtain⟨m,hm⟩:=Ca (L.length);have jk:=aa (cO κ L);rw[hm]at hB hr hL hne Pm jk Gr⊢;have HM:=aa hm;have HL:=aa hL;have aH:=aa (show Ml lo R n (slice la m lc) due sy en m (Kg κ L 0) w w from⟨hB,by rw[iO];exact hr,za.refl _ _⟩);obtain⟨ka,kc,Jn⟩:=hK.len;have Qz:=aa hK;have Gl:=aa Gr;obtain⟨kl,hkl⟩:=Ca (K.length);rw[hkl]at Jn Lu;have bH:=aa hkl;have oV:=aa Lu;subst Jn;clear hB hr hL hm hne he0 he1 hκ hK Gr Lu hkl;go_enter func146,ntmps146;go_wp2_with fail;go_loopw [4,5] (λc i wr=>∃j:Nat,j<=m/\c=int i64 (zf (L.take j):Int)/\i=int i64 j/\Hid (Ml lo R n (slice la m lc) due sy en m (Kg κ L j) w wr)) (λ_ i _=>m-(intOf i).toNat)
 case atStart=>exact⟨0,Nat.zero_le _,rfl,rfl,aH.out⟩
 case round=>
  obtain⟨j,hj,rfl,rfl,HJ⟩:=hrel;have c1:=Ja HJ.out.b;by_cases hlt:j<m
  ·obtain⟨p,hp⟩:∃p,L[j]?=some p:=⟨_,List.getElem?_eq_getElem (by rw[HM.out];exact hlt)⟩;obtain⟨g,cap,hgv,_,_⟩:=HJ.out.r.form (by omega);simp only[Value.slice.injEq]at hgv;obtain⟨rfl,_,rfl⟩:=hgv;obtain⟨y2,f2⟩:=HJ.out.cells (wE hp) hlt;have hpt:=PR hp;have hms:(j:Int)<(m:Int):=by omega
   have hjm:(j:Int)<2199023255552:=by have:=HL.out;omega
   have hpl:zf (L.take j)<=j:=Nat.le_trans (vK _) (by simp;omega);have HP:=aa hp;have Ld:=aa (fO (κ:=κ) hp);obtain⟨c,hc⟩:=Ca (zf (L.take j));rw[hc]at hpt hpl Ld⊢;have hcw:IntKind.i64.wrap ((c:Int)+1)=(c:Int)+1:=by rw[IntKind.wrap_i64]<;>omega
   have dw:=aa hpt;clear hp hpt hc;by_cases h0:p.2.2=0
   ·have e1:((p.2.2:Int) !=0)=false:=by simp[h0]
    have e2:(p.2.2==0)=true:=by simp[h0]
    have HS:=aa (HJ.out.set (wE HP.out) 2);obtain⟨W2,hW2⟩:=Ca (wr.setCell ⟨g,j*3+2,none⟩ (int i64 ((2:Nat):Int)));rw[hW2]at HS;have HW2:=aa hW2
    have b1:(wr.setCell ⟨g,j*3+2,none⟩ (int i64 2)).cell? ⟨R,1,none⟩=some (slice (some ⟨g,0,none⟩) m lc):=by
     have:=HS.out.b.cell 1;rw[<-hW2]at this;exact this
    have iJ:((Kg κ L j).set j (p.1,p.2.1,2))[j]?=some (p.1,p.2.1,2):=List.getElem?_set_self (by rw[dO,HM.out];exact hlt);obtain⟨y3,f3⟩:=HS.out.cells iJ hlt
    have y3':(wr.setCell ⟨g,j*3+2,none⟩ (int i64 2)).cell? ⟨g,j*3+2,none⟩=some (int i64 2):=by
     rw[<-hW2]at y3;exact y3
    have f3':(wr.setCell ⟨g,j*3+2,none⟩ (int i64 2)).frozen? ⟨g,j*3+2,none⟩=false:=by
     rw[<-hW2]at f3;exact f3
    by_cases hkc:c<kl
    ·obtain⟨y,hy⟩:∃y,K[c]?=some y:=⟨_,List.getElem?_eq_getElem (by rw[bH.out];exact hkc)⟩
     obtain⟨kb,ko,TZ,hcap2,Tg0⟩:∃kb ko,ka=some ⟨kb,ko,none⟩/\kl<=kc/\(wr.setCell ⟨g,j*3+2,none⟩ (int i64 2)).cell? ⟨kb,ko+c,none⟩=some (.bool y):=by
      rcases Qz.out with⟨_,e0⟩|⟨kb,ko,cap,e0,hcp,hall⟩
      ·rw[e0]at hy;simp at hy
      ·simp only[Value.slice.injEq]at e0;obtain⟨q1,q2⟩:=Gl.out kb ko kl kc (by rw[e0.1]) (by omega);have hk:=HS.out.k;rw[<-hW2]at hk;exact⟨kb,ko,e0.1,by rw[<-bH.out,e0.2.2];exact hcp,(hk.cell (p:=⟨kb,ko+c,none⟩) q1 q2).trans (hall c y hy)⟩
     subst TZ;have HY:=aa hy;have UZ:(c:Int)<(kl:Int):=by omega
     have hkm:(kl:Int)<=9223372036854775807:=by have:=oV.out;unfold maxLen at this;omega
     have Qj:Hid (κ c=y):=by
      show κ c=y;rw[<-iM.out];show K.getD c false=y;rw[List.getD_eq_getElem?_getD,HY.out];rfl
     clear hy hW2 iJ y3 f3
     cases y with
     |true=>
      have HS2:=aa (HS.out.set (p:=(p.1,p.2.1,2)) (List.getElem?_set_self (by rw[dO,HM.out];exact hlt)) 1)
      have HE:Hid (Kg κ L (j+1)=((Kg κ L j).set j (p.1,p.2.1,2)).set j (p.1,p.2.1,1)):=by
       show _=_;rw[Ld.out,List.set_set];unfold Vo;rw[if_pos h0,Qj.out];rfl
      rw[<-HW2.out]at HS2;clear h0 HW2 HS;go_wp2;go_roundw
      case rel=>exact⟨j+1,by omega,by rw[dw.out,e2];rfl,by go_num,by show Ml _ _ _ _ _ _ _ _ _ _ _;rw[HE.out];exact HS2.out⟩
      case measure=>simp[intOf];omega
     |false=>
      have HE:Hid (Kg κ L (j+1)=(Kg κ L j).set j (p.1,p.2.1,2)):=by
       show _=_;rw[Ld.out];unfold Vo;rw[if_pos h0,Qj.out];rfl
      rw[<-HW2.out]at HS;clear h0 HW2;go_wp2;go_roundw
      case rel=>exact⟨j+1,by omega,by rw[dw.out,e2];rfl,by go_num,by show Ml _ _ _ _ _ _ _ _ _ _ _;rw[HE.out];exact HS.out⟩
      case measure=>simp[intOf];omega
    ·have UZ:¬(c:Int)<(kl:Int):=by omega
     have Qj:Hid (κ c=false):=by
      show κ c=false;rw[<-iM.out];show K.getD c false=false;rw[List.getD_eq_getElem?_getD,List.getElem?_eq_none (by rw[bH.out];omega)];rfl
     have HE:Hid (Kg κ L (j+1)=(Kg κ L j).set j (p.1,p.2.1,2)):=by
      show _=_;rw[Ld.out];unfold Vo;rw[if_pos h0,Qj.out];rfl
     rw[<-HW2.out]at HS;clear h0 HW2 hW2 iJ y3 f3;go_wp2;go_roundw
     case rel=>exact⟨j+1,by omega,by rw[dw.out,e2];rfl,by go_num,by show Ml _ _ _ _ _ _ _ _ _ _ _;rw[HE.out];exact HS.out⟩
     case measure=>simp[intOf];omega
   ·have e1:((p.2.2:Int) !=0)=true:=by
     have:(p.2.2:Int)≠0:=by omega
     simpa using this
    have e2:(p.2.2==0)=false:=by simpa using h0
    have HE:=aa (eO (κ:=κ) HP.out h0);clear h0;go_wp2;go_roundw
    case rel=>exact⟨j+1,by omega,by rw[dw.out,e2];rfl,by go_num,by show Ml _ _ _ _ _ _ _ _ _ _ _;rw[HE.out];exact HJ.out⟩
    case measure=>simp[intOf];omega
  ·obtain rfl:j=m:=by omega
   have hms:¬(j:Int)<(j:Int):=by omega
   have c2:=Ha HJ.out.b;have f2:wr.frozen? ⟨R,2,none⟩=false:=HJ.out.b.free 2;have hB2:=HJ.out.b.set 2 (int i64 0);have c4:(wr.setCell ⟨R,2,none⟩ (int i64 0)).cell? ⟨R,4,none⟩=some (int i64 en):=hB2.cell 4;have f4:(wr.setCell ⟨R,2,none⟩ (int i64 0)).frozen? ⟨R,4,none⟩=false:=hB2.free 4;have HS:=aa (hB2.set 4 (int i64 (en+1)));have HR2:=aa (xc (xc HJ.out.r (Jc wr ⟨R,2,none⟩ (int i64 0)) (λq e e2=>Pm.out (by rw[e,e2]))) (Jc _ ⟨R,4,none⟩ (int i64 (en+1))) (λq e e2=>Pm.out (by rw[e,e2])));have nV:=aa (show za (λq=>q=R\/(slice la j lc).ownBlock=some q) w ((wr.setCell ⟨R,2,none⟩ (int i64 0)).setCell ⟨R,4,none⟩ (int i64 (en+1)))from((HJ.out.k.mono (λq _ e=>.inr e)).setCell (.inl (.inl rfl)) _).setCell (.inl (.inl rfl)) _);rw[jk.out]at HR2;clear HJ hB2;go_wp2;go_end0;exact⟨rfl,HS.out,HR2.out,nV.out⟩
theorem WJ (i:Nat):∀(X Y:List Gb) (k:Nat),k<=X.length->Rh (X++Y) i k=Rh X i k
 |_,_,0,_=>rfl
 |X,Y,k+1,h=>by
  rw[Rh,Rh,List.getElem?_append_left (by omega),WJ i X Y k (by omega)]
theorem Y6 (i:Nat)(X:List Gb)(q:Gb):Rh (X++[q]) i (X++[q]).length=if q.1=i/\q.2.2≠2 then q.2.1 else Rh X i X.length:=by
 have h:(X++[q])[X.length]?=some q:=by simp
 rw[List.length_append,List.length_singleton];by_cases hq:q.1=i/\q.2.2≠2
 ·rw[XJ h hq.1 hq.2,if_pos hq]
 ·rw[qF h hq,if_neg hq,WJ i X [q] _ Aa]
theorem Qa0 (A B:List Gb):zf (A++B)=zf A+zf B:=by
 unfold zf;rw[List.filter_append,List.length_append]
theorem Ra0 {A:List Gb}(h:∀p∈A,p.2.2≠0):zf A=0:=by
 unfold zf;rw[List.filter_eq_nil_iff.2 (λp hp=>by simpa using h p hp)];rfl
theorem NR {A:List Gb}(h:∀p∈A,p.2.2=0):zf A=A.length:=by
 unfold zf;rw[List.filter_eq_self.2 (λp hp=>by simpa using h p hp)]
theorem mO (κ:Nat->Bool):∀(c:Nat) (A B:List Gb),(∀p∈A,p.2.2≠0)->Pf κ c (A++B)=A++Pf κ c B
 |_,[],_,_=>rfl
 |c,p::A,B,h=>by
  have hp:=h p (by simp);rw[List.cons_append,Pf,if_neg hp,mO κ c A B (λq hq=>h q (by simp[hq]))];unfold Vo;rw[if_neg hp];rfl
theorem jO (κ:Nat->Bool):∀(c:Nat) (B:List Gb),(∀p∈B,p.2.2=0)->∀p∈Pf κ c B,p.2.2≠0
 |_,[],_,p,hp=>by simp[Pf]at hp
 |c,q::B,h,p,hp=>by
  have hq:=h q (by simp);rw[Pf,List.mem_cons]at hp;rcases hp with rfl|hp
  ·unfold Vo;rw[if_pos hq];dsimp only;split<;>decide
  ·exact jO κ _ B (λr hr=>h r (by simp[hr])) p hp
structure Rl (st:Da)(L:List Gb):Prop where
 wr:st.writes=L.length
 ex:∃A Pn:List Gb,L=A++Pn/\(∀p∈A,p.2.2≠0)/\(∀p∈Pn,p.2.2=0)/\st.pend=Pn.map (λp=>(p.1,p.2.1))/\∀i,i<st.n->st.dur[i]?=some (Rh A i A.length)
theorem Ag0:qa 32 0=ig:=by decide+kernel
theorem Rl.new (n:Nat):Rl (Ij n) []:=⟨rfl,[],[],rfl,by simp,by simp,rfl,λi hi=>by
 have hi':i<n:=hi;show(List.replicate n ig)[i]?=some (qa 32 0);rw[List.getElem?_replicate,if_pos hi',Ag0]⟩
section
variable {st:Da}{L:List Gb}
theorem Rl.count (h:Rl st L):zf L=st.pend.length:=by
 obtain⟨A,Pn,rfl,h1,h2,h3,_⟩:=h.ex;rw[Qa0,Ra0 h1,NR h2,h3,List.length_map,Nat.zero_add]
theorem Rl.same {s2:Da}(h:Rl st L)(h1:s2.writes=st.writes)(h2:s2.pend=st.pend)(h3:s2.dur=st.dur)(h4:s2.n=st.n):Rl s2 L:=⟨h1.trans h.wr,by rw[h2,h3,h4];exact h.ex⟩
theorem Rl.read (h:Rl st L){i:Nat}(hi:i<st.n):ak st i=Rh L i L.length:=by
 obtain⟨A,Pn,rfl,h1,h2,h3,h4⟩:=h.ex;have hd:st.dur.getD i ⟨#[]⟩=Rh A i A.length:=by rw[List.getD_eq_getElem?_getD,h4 i hi];rfl
 unfold ak;rw[hd,h3,List.length_map]
 have key:∀k,k<=Pn.length->Rh (A++Pn) i (A.length+k)=(Ym (Pn.map λp=>(p.1,p.2.1)) i k).getD (Rh A i A.length):=by
  intro k
  induction k with
  |zero=>intro _;rw[Nat.add_zero,WJ i A Pn _ Aa];rfl
  |succ k ih=>
   intro hk;obtain⟨p,hp⟩:∃p,Pn[k]?=some p:=⟨_,List.getElem?_eq_getElem (by omega)⟩;have hg:(A++Pn)[A.length+k]?=some p:=by rw[List.getElem?_append_right (by omega),Nat.add_sub_cancel_left];exact hp
   have hz:=h2 p (List.mem_of_getElem? hp);have hm:(Pn.map λp=>(p.1,p.2.1)).getD k (0,⟨#[]⟩)=(p.1,p.2.1):=by rw[List.getD_eq_getElem?_getD,List.getElem?_map,hp];rfl
   rw[<-Nat.add_assoc,Ym,hm];dsimp only;by_cases hpi:p.1=i
   ·rw[if_pos hpi,XJ hg hpi (by rw[hz];decide)];rfl
   ·rw[if_neg hpi,qF hg (λe=>hpi e.1),ih (by omega)]
 rw[List.length_append,key Pn.length Aa]
theorem Rl.write (h:Rl st L)(i:Nat)(t:ByteArray)(tr:Int):Rl {st with trouble:=tr,pend:=st.pend++[(i,t)],writes:=st.writes+1} (L++[(i,t,0)]):=by
 obtain⟨A,Pn,rfl,h1,h2,h3,h4⟩:=h.ex;refine⟨?_,A,Pn++[(i,t,0)],(List.append_assoc ..),h1,?_,?_,h4⟩
 ·show st.writes+1=_;rw[h.wr,List.length_append (bs:=[_])];simp
 ·intro p hp;rcases List.mem_append.1 hp with hp|hp
  ·exact h2 p hp
  ·rw[List.mem_singleton.1 hp]
 ·show st.pend++[(i,t)]=_;rw[h3,List.map_append];rfl
theorem Rl.lay (h:Rl st L)(ok:qf st)(κ:Nat->Bool)(D:Nat->List ByteArray)(h0:D 0=st.dur)(hs:∀(k:Nat) (p:Nat×ByteArray),st.pend[k]?=some p->D (k+1)=if κ k then(D k).set p.1 p.2 else D k){s2:Da}(w2:s2.writes=st.writes)(p2:s2.pend=[])(d2:s2.dur=D st.pend.length)(n2:s2.n=st.n):Rl s2 (Pf κ 0 L):=by
 obtain⟨A,Pn,rfl,h1,h2,h3,h4⟩:=h.ex;have hlen:st.pend.length=Pn.length:=by rw[h3,List.length_map]
 have key:∀k,k<=Pn.length->(D k).length=st.n/\∀i,i<st.n->(D k)[i]?=some (Rh (A++Pf κ 0 (Pn.take k)) i (A++Pf κ 0 (Pn.take k)).length):=by
  intro k
  induction k with
  |zero=>
   intro _;rw[h0];refine⟨ok.len,λi hi=>?_⟩;rw[h4 i hi];simp[Pf]
  |succ k ih=>
   intro hk;obtain⟨ih1,ih2⟩:=ih (by omega);obtain⟨p,hp⟩:∃p,Pn[k]?=some p:=⟨_,List.getElem?_eq_getElem (by omega)⟩;have hz:=h2 p (List.mem_of_getElem? hp);have Zd:st.pend[k]?=some (p.1,p.2.1):=by rw[h3,List.getElem?_map,hp];rfl
   have hpn:=(ok.pen _ (List.mem_of_getElem? Zd)).1
   have hps:zf (Pn.take k)=k:=by
    rw[NR (λq hq=>h2 q (List.mem_of_mem_take hq)),List.length_take];omega
   obtain⟨hj,rfl⟩:=List.getElem?_eq_some_iff.1 hp;rw[hs k _ Zd,List.take_succ_eq_append_getElem hj,xI,hps,Nat.zero_add,<-List.append_assoc];refine⟨by split<;>simp[ih1],λi hi=>?_⟩;rw[Y6];unfold Vo;rw[if_pos hz];dsimp only
   cases hκ:κ k
   ·rw[if_neg (by decide),if_neg (by simp)];exact ih2 i hi
   ·rw[if_pos rfl,List.getElem?_set];dsimp only at hpn;by_cases hpi:Pn[k].1=i
    ·rw[if_pos hpi,if_pos (by omega),if_pos ⟨hpi,by simp⟩]
    ·rw[if_neg hpi,if_neg (λe=>hpi e.1)];exact ih2 i hi
 have hc:Pf κ 0 (A++Pn)=A++Pf κ 0 Pn:=mO κ 0 A Pn h1;refine⟨?_,A++Pf κ 0 Pn,[],by rw[hc,List.append_nil],?_,by simp,p2,λi hi=>?_⟩
 ·rw[w2,h.wr,Gu]
 ·intro p hp;rcases List.mem_append.1 hp with hp|hp
  ·exact h1 p hp
  ·exact jO κ 0 Pn h2 p hp
 ·have:=(key Pn.length Aa).2 i (by rw[<-n2];exact hi);rw[List.take_length]at this;rw[d2,hlen];exact this
theorem Rl.sync (h:Rl st L)(ok:qf st){s2:Da}(w2:s2.writes=st.writes)(p2:s2.pend=[])(d2:s2.dur=Hm st st.pend.length)(n2:s2.n=st.n):Rl s2 (Pf (λ_=>true) 0 L):=h.lay ok (λ_=>true) (Hm st) (P6 st) (λk p hp=>by rw[UJ st k p hp];rfl) w2 p2 d2 n2
theorem Rl.crash (h:Rl st L)(ok:qf st)(K:List Bool){s2:Da}(w2:s2.writes=st.writes)(p2:s2.pend=[])(d2:s2.dur=jq st K st.pend.length)(n2:s2.n=st.n):Rl s2 (Pf (λc=>K.getD c false) 0 L):=h.lay ok (λc=>K.getD c false) (jq st K) (by simp[jq]) (λk p hp=>wQ st K k p hp) w2 p2 d2 n2
end
theorem BX {t l ch:Nat}{p0 p1 p2 p3:Int}(h:vE t l ch p0 p1 p2 p3=true)(h2:t<=4)(h4:l<=3)(hc:ch<=64):(0<=p0/\p0<=100000)/\(0<=p1/\p1<=100000)/\(0<=p2/\p2<=100000)/\(0<=p3/\p3<=100000):=by
 unfold vE Im at h;simp only[Bool.and_eq_true,decide_eq_true_eq]at h;obtain⟨⟨⟨a0,a1⟩,⟨b0,b1⟩,⟨c0,c1⟩⟩,d0,d1⟩:=h;have e1:2^(t*(l-1-p0.toNat))<=2^8:=Nat.pow_le_pow_right (by decide) (Nat.le_trans (Nat.mul_le_mul h2 (show l-1-p0.toNat<=2 by omega)) (by decide));have e2:2^t<=2^4:=Nat.pow_le_pow_right (by decide) h2;have e3:(2:Nat)^8=256:=by decide
 have e4:(2:Nat)^4=16:=by decide
 rw[e3]at e1;rw[e4]at e2;generalize 2^(t*(l-1-p0.toNat))=u at e1 b1;generalize 2^t=v at e2 c1;omega
theorem uq {b x e f:Nat}(h:Bi b x e f):1<=b/\b<=16/\1<=b*e+f/\b*e+f<=64/\1<=x/\x<=16:=by
 rcases h with⟨rfl,rfl,rfl,rfl⟩|⟨rfl,rfl,rfl,rfl⟩|⟨rfl,rfl,rfl,rfl⟩|⟨rfl,rfl,rfl,rfl⟩<;>decide
structure Wp (k:Int)(b x e f t l:Nat):Prop where
 pr:Bi b x e f
 kk:k=1\/k=2
 t1:1<=t
 t2:t<=4
 l1:1<=l
 l2:l<=3
 r:Yb k b x t l=true
theorem KR {b x e f:Nat}(h:Bi b x e f):(b=4\/b=8)/\(x=4\/x=16):=by
 unfold Bi at h;omega
theorem Kd0 {b:Int}{sec rnd pub:ByteArray}(h:Wl b sec rnd pub=true):(sec.size:Int)=b/\(rnd.size:Int)=b/\(pub.size:Int)=b:=by
 unfold Wl at h;have:=(IA b _).1 h;exact⟨this sec (by simp),this rnd (by simp),this pub (by simp)⟩
theorem Q5 (k b x:Int)(t l:Nat)(p0 p1 p2 p3:Int)(w:World)(h1:1<=t)(h2:t<=4)(h4:l<=3):Calls prog 266 #[.agg #[int i64 k,int i64 b,int i64 x,int i64 t,int i64 l],.agg #[int i64 p0,int i64 p1,int i64 p2,int i64 p3]] w λe w'=>e=.returned (.bool ((Im t l p0 p1 p2&&p3==0)&&p2==0))/\Below w.heap.size w w':=by
 have HL:=aa (P5 k b x t l p0 p1 p2 p3 ((w.alloc (.cells #[int i64 k,int i64 b,int i64 x,int i64 t,int i64 l] 26)).alloc (.cells #[int i64 p0,int i64 p1,int i64 p2,int i64 p3] 91)) h1 h2 h4);generalize(Im t l p0 p1 p2&&p3==0)=r at HL⊢
 cases r with
 |false=>
  go_enter func266,ntmps266;go_wp2_with fail;refine HL.out.mono ?_
  rintro e w1 ⟨rfl,hb1⟩
  have HB1:=aa ((((Below.refl w.heap.size w).alloc Aa _).alloc (by simp) _).trans (hb1.mono (by simp;omega)));clear hb1;go_wp2;go_ret;exact⟨rfl,HB1.out⟩
 |true=>
  generalize hr:(p2==0)=r;go_enter func266,ntmps266;go_wp2_with fail;refine HL.out.mono ?_
  rintro e w1 ⟨rfl,hb1⟩
  have d2:w1.cell? ⟨w.heap.size+1,2,none⟩=some (int i64 p2):=(hb1.cell (p:=⟨w.heap.size+1,2,none⟩) (by simp)).trans (by simp[go_sem]);have HB1:=aa ((((Below.refl w.heap.size w).alloc Aa _).alloc (by simp) _).trans (hb1.mono (by simp;omega)));clear hb1;go_wp2;go_ret;exact⟨by simp,HB1.out⟩
end Go.Proofs.YtgaoeoijdpdjiabGreatDoor
namespace Go.Proofs.YtgaoeoijdpdjiabGreatDoor
open Go.ChangeShapes Go.WideShapes Go.ChangeAt Go.RowKit Go.Deep
open Go.ChangeMaps (open_string shut_string)
theorem zX:prog.cellsOf 93=21:=by kernel_rfl
theorem Ci:prog.cellsOf 3=1:=by kernel_rfl
theorem jl:prog.cellsOf 9=1:=by kernel_rfl
theorem xX:prog.cellsOf 4=1:=by kernel_rfl
theorem uo:prog.cellsOf 51=1:=by kernel_rfl
theorem Ao:prog.cellsOf 27=1:=by kernel_rfl
theorem zo:prog.cellsOf 26=5:=by kernel_rfl
theorem yo:prog.cellsOf 42=3:=by kernel_rfl
theorem vo:prog.cellsOf 91=4:=by kernel_rfl
theorem mX:prog.bytesOf 4=1:=by kernel_rfl
theorem qX:prog.bytesOf 9=16:=by kernel_rfl
theorem M4 {x:Int}(h:(Lit.int .i64 x).wf=true):mg x:=by
 simp[Lit.wf,IntKind.min,IntKind.max,IntKind.signed,IntKind.bits]at h;exact⟨by omega,by omega⟩
theorem zK:reachBytes<=140737488355328:=by decide
def Rx {H:Type}(t:TypeId)(d:DataW H):Prop:=∀n∈d.weights prog t,n<=reachBytes
section
variable {H:Type}{enc:TypeId×Value->H}{W:World}{base:Nat}{held:Bool}
theorem ma0 {fuel:Nat}{c:Value}{x:DataW H×List MemPlace}(h:DataW.trod enc prog W base (λ_=>true) held fuel 51 [c]=some x)(hz:Rx 51 x.1):∃sp n cp K,c=.slice sp n cp/\jN W sp n cp K/\K.length<=140737488355328:=by
 have hr:=zK;rcases open_bools underlying51 underlying4 xX h with⟨h0,_⟩|⟨a,len,cap,B,hc,_,hl,hm,hx,hcell⟩
 ·simp at h0;exact⟨none,0,0,[],h0,.inl ⟨rfl,rfl,rfl,rfl⟩,by simp⟩
 ·simp at hc
  have hw:(len+(cap-len))*1<=reachBytes:=by
   refine hz _ ?_;rw[hx];simp[boolRow,DataW.weights,underlying51,mX]
  by_cases h0:len=0
  ·subst h0;exact⟨some a,0,cap,[],hc,.inr ⟨a,rfl,rfl,.inl rfl⟩,by simp⟩
  ·have hs:a.spot=none:=by
    have:=World.cell?_spot (hcell 0 (by omega));simpa[Addr.add]using this
   obtain⟨ab,ao,asp⟩:=a;simp only at hs;subst hs
   have hcell':∀i,i<cap->W.cell? ⟨ab,ao+i,none⟩=some (.bool (B i)):=λi hi=>by
    have:=hcell i hi
    rwa [Addr.add_mid]at this
   refine⟨some ⟨ab,ao,none⟩,len,cap,(List.range len).map B,hc,.inr ⟨_,rfl,by simp,.inr ⟨ab,ao,rfl,by simpa using hl,World.block_lt_of_cell? W _ (hcell' 0 (by omega)),λj y hy=>?_⟩⟩,by simp;omega⟩;obtain⟨hj,e⟩:=List.getElem?_eq_some_iff.1 hy;simp at hj e;subst e;exact hcell' j (by omega)
theorem sa0 {fuel:Nat}{c:Value}{x:DataW H×List MemPlace}(h:DataW.trod enc prog W base (λ_=>true) held fuel 27 [c]=some x)(hz:Rx 27 x.1):∃sp n cp xs,c=.slice sp n cp/\lN W sp n cp xs/\xs.length<=8796093022208/\∀y∈xs,y.size<=maxLen:=by
 have hr:=zK;rcases open_strs underlying27 underlying9 jl h with⟨h0,_⟩|⟨a,len,cap,m,Sx,hc,_,hl,_,hmm,hx,hcell⟩
 ·simp at h0;exact⟨none,0,0,[],h0,.inl ⟨rfl,rfl,rfl,rfl⟩,by simp,by simp⟩
 ·simp at hc;simp only[if_true]at hmm;subst hmm
  have hw:(len+(m-len))*16<=reachBytes:=by
   refine hz _ ?_;rw[hx];simp[DataW.weights,underlying27,qX]
  by_cases h0:len=0
  ·subst h0;exact⟨some a,0,m,[],hc,.inr (.inl ⟨a,rfl,rfl,rfl⟩),by simp,by simp⟩
  ·have hs:a.spot=none:=by
    have:=World.cell?_spot (hcell 0 (by omega)).1;simpa[Addr.add]using this
   obtain⟨ab,ao,asp⟩:=a;simp only at hs;subst hs
   have hcell':∀i,i<m->W.cell? ⟨ab,ao+i,none⟩=some (.string (Sx i)):=λi hi=>by
    have:=(hcell i hi).1
    rwa [Addr.add_mid]at this
   refine⟨some ⟨ab,ao,none⟩,len,m,(List.range len).map Sx,hc,.inr (.inr ⟨ab,ao,rfl,by simp,by simpa using hl,World.block_lt_of_cell? W _ (hcell' 0 (by omega)),λj y hy=>?_⟩),by simp;omega,λy hy=>?_⟩
   ·obtain⟨hj,e⟩:=List.getElem?_eq_some_iff.1 hy;simp at hj e;subst e;exact hcell' j (by omega)
   ·obtain⟨i,hi,rfl⟩:=List.mem_map.1 hy;exact(hcell i (by have:=List.mem_range.1 hi;omega)).2
theorem Qn {fuel:Nat}{c:Value}{x:DataW H×List MemPlace}(h:DataW.trod enc prog W base (λ_=>true) held fuel 3 [c]=some x):∃k,c=.int .i64 k/\mg k:=by
 obtain⟨k,e0,_,w0⟩:=DataW.trod_int underlying3 h;simp at e0;exact⟨k,e0,M4 w0⟩
theorem Xy {fuel:Nat}{c:Value}{x:DataW H×List MemPlace}(h:DataW.trod enc prog W base (λ_=>true) held fuel 9 [c]=some x):∃s,c=.string s/\s.size<=maxLen:=by
 obtain⟨t,e3,ht⟩:=DataW.trod_string underlying9 h;simp at e3;exact⟨t,e3,ht.2⟩
theorem ra0 {fuel:Nat}{c0 c1 c2 c3 c4:Value}{x:DataW H×List MemPlace}(h:DataW.trod enc prog W base (λ_=>true) held fuel 26 [c0,c1,c2,c3,c4]=some x):∃k0 k1 k2 k3 k4,c0=.int .i64 k0/\mg k0/\c1=.int .i64 k1/\mg k1/\c2=.int .i64 k2/\mg k2/\c3=.int .i64 k3/\mg k3/\c4=.int .i64 k4/\mg k4:=by
 obtain⟨xs,n,_,_,_,hlen,hfs⟩:=DataW.trod_struct underlying26 h;simp at hlen;have g0:DataW.trod enc prog W base (λ_=>true) held n 3 [c0]=xs[0]?:=by simpa[Ci]using hfs 0 _ rfl
 have g1:DataW.trod enc prog W base (λ_=>true) held n 3 [c1]=xs[1]?:=by simpa[Ci]using hfs 1 _ rfl
 have g2:DataW.trod enc prog W base (λ_=>true) held n 3 [c2]=xs[2]?:=by simpa[Ci]using hfs 2 _ rfl
 have g3:DataW.trod enc prog W base (λ_=>true) held n 3 [c3]=xs[3]?:=by simpa[Ci]using hfs 3 _ rfl
 have g4:DataW.trod enc prog W base (λ_=>true) held n 3 [c4]=xs[4]?:=by simpa[Ci]using hfs 4 _ rfl
 rw[List.getElem?_eq_getElem (by omega)]at g0 g1 g2 g3 g4;obtain⟨k0,e0,w0⟩:=Qn g0;obtain⟨k1,e1,w1⟩:=Qn g1;obtain⟨k2,e2,w2⟩:=Qn g2;obtain⟨k3,e3,w3⟩:=Qn g3;obtain⟨k4,e4,w4⟩:=Qn g4;exact⟨k0,k1,k2,k3,k4,e0,w0,e1,w1,e2,w2,e3,w3,e4,w4⟩
theorem qa0 {fuel:Nat}{c0 c1 c2:Value}{x:DataW H×List MemPlace}(h:DataW.trod enc prog W base (λ_=>true) held fuel 42 [c0,c1,c2]=some x):∃k0 k1 k2,c0=.string k0/\k0.size<=maxLen/\c1=.string k1/\k1.size<=maxLen/\c2=.string k2/\k2.size<=maxLen:=by
 obtain⟨xs,n,_,_,_,hlen,hfs⟩:=DataW.trod_struct underlying42 h;simp at hlen;have g0:DataW.trod enc prog W base (λ_=>true) held n 9 [c0]=xs[0]?:=by simpa[jl]using hfs 0 _ rfl
 have g1:DataW.trod enc prog W base (λ_=>true) held n 9 [c1]=xs[1]?:=by simpa[jl]using hfs 1 _ rfl
 have g2:DataW.trod enc prog W base (λ_=>true) held n 9 [c2]=xs[2]?:=by simpa[jl]using hfs 2 _ rfl
 rw[List.getElem?_eq_getElem (by omega)]at g0 g1 g2;obtain⟨k0,e0,w0⟩:=Xy g0;obtain⟨k1,e1,w1⟩:=Xy g1;obtain⟨k2,e2,w2⟩:=Xy g2;exact⟨k0,k1,k2,e0,w0,e1,w1,e2,w2⟩
theorem oa0 {fuel:Nat}{c0 c1 c2 c3:Value}{x:DataW H×List MemPlace}(h:DataW.trod enc prog W base (λ_=>true) held fuel 91 [c0,c1,c2,c3]=some x):∃k0 k1 k2 k3,c0=.int .i64 k0/\mg k0/\c1=.int .i64 k1/\mg k1/\c2=.int .i64 k2/\mg k2/\c3=.int .i64 k3/\mg k3:=by
 obtain⟨xs,n,_,_,_,hlen,hfs⟩:=DataW.trod_struct underlying91 h;simp at hlen;have g0:DataW.trod enc prog W base (λ_=>true) held n 3 [c0]=xs[0]?:=by simpa[Ci]using hfs 0 _ rfl
 have g1:DataW.trod enc prog W base (λ_=>true) held n 3 [c1]=xs[1]?:=by simpa[Ci]using hfs 1 _ rfl
 have g2:DataW.trod enc prog W base (λ_=>true) held n 3 [c2]=xs[2]?:=by simpa[Ci]using hfs 2 _ rfl
 have g3:DataW.trod enc prog W base (λ_=>true) held n 3 [c3]=xs[3]?:=by simpa[Ci]using hfs 3 _ rfl
 rw[List.getElem?_eq_getElem (by omega)]at g0 g1 g2 g3;obtain⟨k0,e0,w0⟩:=Qn g0;obtain⟨k1,e1,w1⟩:=Qn g1;obtain⟨k2,e2,w2⟩:=Qn g2;obtain⟨k3,e3,w3⟩:=Qn g3;exact⟨k0,k1,k2,k3,e0,w0,e1,w1,e2,w2,e3,w3⟩
theorem Q7 {l:List Value}(h:l.length=21):∃v0 v1 v2 v3 v4 v5 v6 v7 v8 v9 v10 v11 v12 v13 v14 v15 v16 v17 v18 v19 v20,l=[v0,v1,v2,v3,v4,v5,v6,v7,v8,v9,v10,v11,v12,v13,v14,v15,v16,v17,v18,v19,v20]:=by
 match l,h with
 |[v0,v1,v2,v3,v4,v5,v6,v7,v8,v9,v10,v11,v12,v13,v14,v15,v16,v17,v18,v19,v20],_=>exact⟨v0,v1,v2,v3,v4,v5,v6,v7,v8,v9,v10,v11,v12,v13,v14,v15,v16,v17,v18,v19,v20,rfl⟩
theorem na0 {fuel:Nat}{cs:List Value}{x:DataW H×List MemPlace}(hl:cs.length=21)(h:DataW.trod enc prog W base (λ_=>true) held fuel 93 cs=some x)(hz:Rx 93 x.1):∃d:Fe,ym W d/\cs=Fh d:=by
 obtain⟨v0,v1,v2,v3,v4,v5,v6,v7,v8,v9,v10,v11,v12,v13,v14,v15,v16,v17,v18,v19,v20,rfl⟩:=Q7 hl;obtain⟨xs,n,_,hx,_,hlen,hfs⟩:=DataW.trod_struct underlying93 h;simp at hlen;have g0:DataW.trod enc prog W base (λ_=>true) held n 3 [v0]=xs[0]?:=by simpa[Ci,jl,uo,Ao,zo,yo,vo]using hfs 0 _ rfl
 have g1:DataW.trod enc prog W base (λ_=>true) held n 3 [v1]=xs[1]?:=by simpa[Ci,jl,uo,Ao,zo,yo,vo]using hfs 1 _ rfl
 have g2:DataW.trod enc prog W base (λ_=>true) held n 3 [v2]=xs[2]?:=by simpa[Ci,jl,uo,Ao,zo,yo,vo]using hfs 2 _ rfl
 have g3:DataW.trod enc prog W base (λ_=>true) held n 3 [v3]=xs[3]?:=by simpa[Ci,jl,uo,Ao,zo,yo,vo]using hfs 3 _ rfl
 have g4:DataW.trod enc prog W base (λ_=>true) held n 9 [v4]=xs[4]?:=by simpa[Ci,jl,uo,Ao,zo,yo,vo]using hfs 4 _ rfl
 have g5:DataW.trod enc prog W base (λ_=>true) held n 9 [v5]=xs[5]?:=by simpa[Ci,jl,uo,Ao,zo,yo,vo]using hfs 5 _ rfl
 have g6:DataW.trod enc prog W base (λ_=>true) held n 9 [v6]=xs[6]?:=by simpa[Ci,jl,uo,Ao,zo,yo,vo]using hfs 6 _ rfl
 have g7:DataW.trod enc prog W base (λ_=>true) held n 27 [v7]=xs[7]?:=by simpa[Ci,jl,uo,Ao,zo,yo,vo]using hfs 7 _ rfl
 have g8:DataW.trod enc prog W base (λ_=>true) held n 51 [v8]=xs[8]?:=by simpa[Ci,jl,uo,Ao,zo,yo,vo]using hfs 8 _ rfl
 have g9:DataW.trod enc prog W base (λ_=>true) held n 26 [v9,v10,v11,v12,v13]=xs[9]?:=by simpa[Ci,jl,uo,Ao,zo,yo,vo]using hfs 9 _ rfl
 have g10:DataW.trod enc prog W base (λ_=>true) held n 42 [v14,v15,v16]=xs[10]?:=by simpa[Ci,jl,uo,Ao,zo,yo,vo]using hfs 10 _ rfl
 have g11:DataW.trod enc prog W base (λ_=>true) held n 91 [v17,v18,v19,v20]=xs[11]?:=by simpa[Ci,jl,uo,Ao,zo,yo,vo]using hfs 11 _ rfl
 have hzz:∀(i:Nat) (t:TypeId) (y:DataW H×List MemPlace),([3,3,3,3,9,9,9,27,51,26,42,91]:List TypeId)[i]?=some t->xs[i]?=some y->Rx t y.1:=λi t y ht hy m hm=>by
  refine hz m ?_;rw[hx];have:=DataW.weights_mem_each (P:=prog) (ts:=[3,3,3,3,9,9,9,27,51,26,42,91]) (ds:=xs.map (·.1)) ht (by rw[List.getElem?_map,hy];rfl) m hm;simpa[DataW.weights,underlying93]using this
 have f7:=hzz 7 27 (xs[7]'(by omega)) rfl (List.getElem?_eq_getElem (by omega));have f8:=hzz 8 51 (xs[8]'(by omega)) rfl (List.getElem?_eq_getElem (by omega));rw[List.getElem?_eq_getElem (by omega)]at g0 g1 g2 g3 g4 g5 g6 g7 g8 g9 g10 g11;obtain⟨k0,e0,w0⟩:=Qn g0;obtain⟨k1,e1,w1⟩:=Qn g1;obtain⟨k2,e2,w2⟩:=Qn g2;obtain⟨k3,e3,w3⟩:=Qn g3;obtain⟨k4,e4,w4⟩:=Xy g4;obtain⟨k5,e5,w5⟩:=Xy g5;obtain⟨k6,e6,w6⟩:=Xy g6;obtain⟨l1,l2,l3,X,e7,hX,Qf,CZ⟩:=sa0 g7 f7;obtain⟨s1,s2,s3,K,e8,hK,PE⟩:=ma0 g8 f8;obtain⟨q0,q1,q2,q3,q4,a0,b0,a1,b1,a2,b2,a3,b3,a4,b4⟩:=ra0 g9;obtain⟨r0,r1,r2,c0,d0,c1,d1,c2,d2⟩:=qa0 g10;obtain⟨p0,p1,p2,p3,x0,y0,x1,y1,x2,y2,x3,y3⟩:=oa0 g11;subst e0 e1 e2 e3 e4 e5 e6 e7 e8 a0 a1 a2 a3 a4 c0 c1 c2 x0 x1 x2 x3;exact⟨⟨k0,k1,k2,k3,k4,k5,k6,l1,l2,l3,X,s1,s2,s3,K,q0,q1,q2,q3,q4,r0,r1,r2,p0,p1,p2,p3⟩,⟨w0,w1,w2,w3,w4,w5,w6,hX,Qf,CZ,hK,PE,b0,b1,b2,b3,b4,d0,d1,d2,y0,y1,y2,y3⟩,rfl⟩
theorem qU {P:Program}{e:TypeId}{n:Nat}:∀{l:List (DataW H)} {d:DataW H},d∈l->n∈d.weights P e->n∈DataW.weightsAll P e l
 |d0::l,d,hd,hn=>by
  rw[DataW.weightsAll,List.mem_append];rcases List.mem_cons.1 hd with rfl|hd
  ·exact .inl hn
  ·exact .inr (qU hd hn)
theorem pa0 {b0:Nat}{r:Reach}{v:Value}{d:DataW H}{p:List MemPlace}(hv:Value.okWide prog W r b0 22 v)(h:DataW.Trod enc prog W base (λ_=>true) held 22 v d p)(hz:Rx 22 d):∃l,xy W v l/\l.length<=1099511627776:=by
 have hr:=zK;have GZ:prog.bytesOf 93=248:=by kernel_rfl
 obtain⟨va,vl,vc,rfl⟩:=okWide_slice underlying22 hv;obtain⟨fuel,hf⟩:=h;rcases open_slice underlying22 hf with⟨h0,_⟩|⟨a,len,cap,m,n,D,Pl,hc,hb,hl,hm,hmm,J3,hx⟩
 ·simp[Value.cells]at h0;obtain⟨rfl,rfl,rfl⟩:=h0;exact⟨[],.inl ⟨⟨_,_,rfl⟩,rfl⟩,by simp⟩
 ·simp[Value.cells]at hc;obtain⟨rfl,rfl,rfl⟩:=hc;simp only[if_true]at hmm;subst hmm;have hd:d=.slice ((List.range vl).map D) ((List.range (m-vl)).map λj=>D (vl+j)):=congrArg Prod.fst J3
  have hw:(vl+(m-vl))*248<=reachBytes:=by
   refine hz _ ?_;rw[hd];simp[DataW.weights,underlying22,GZ]
  by_cases h0:vl=0
  ·subst h0;exact⟨[],.inl ⟨⟨_,_,rfl⟩,rfl⟩,by simp⟩
  ·have each:∀i,i<vl->∃d:Fe,ym W d/\∀(k:Nat) u,(Fh d)[k]?=some u->W.cell? (a.add (i*21+k))=some u:=by
    intro i hi;obtain⟨cs',h1,h2⟩:=hx i (by omega);rw[zX]at h1;obtain⟨_,hlen,hcell⟩:=World.cells?_some h1
    obtain⟨d,hd2,rfl⟩:=na0 hlen h2 (λq hq=>hz q (by
     rw[hd];simp only[DataW.weights,underlying22,List.mem_cons,List.mem_append];exact .inr (.inl (qU (List.mem_map.2 ⟨i,List.mem_range.2 hi,rfl⟩) hq))))
    refine⟨d,hd2,λk u hu=>?_⟩;have hk:=(List.getElem?_eq_some_iff.1 hu);have:=hcell k (by rw[<-hlen];exact hk.1);rw[add_add]at this;rw[this,hu]
   have:Inhabited Fe:=⟨⟨0,0,0,0,⟨#[]⟩,⟨#[]⟩,⟨#[]⟩,none,0,0,[],none,0,0,[],0,0,0,0,0,⟨#[]⟩,⟨#[]⟩,⟨#[]⟩,0,0,0,0⟩⟩;obtain⟨q,hq⟩:=choose_lt each
   have hs:a.spot=none:=by
    have:=World.cell?_spot ((hq 0 (by omega)).2 0 _ rfl);simpa[Addr.add]using this
   obtain⟨ab,ao,asp⟩:=a;simp only at hs;subst hs;simp only[Addr.add_mid]at hq;refine⟨(List.range vl).map q,.inr ⟨ab,ao,_,by simp;rfl,by simpa using hl,World.block_lt_of_cell? W _ ((hq 0 (by omega)).2 0 _ rfl),λj d hj=>?_⟩,by simp;omega⟩;obtain⟨hj1,e⟩:=List.getElem?_eq_some_iff.1 hj;simp at hj1 e;subst e;obtain⟨a1,a2⟩:=hq j hj1;exact⟨a1,λi u h=>by rw[Nat.add_assoc];exact a2 i u h⟩
end
end Go.Proofs.YtgaoeoijdpdjiabGreatDoor
