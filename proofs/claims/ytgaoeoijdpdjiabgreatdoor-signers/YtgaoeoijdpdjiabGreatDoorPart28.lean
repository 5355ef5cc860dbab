import Derived.Test.YtgaoeoijdpdjiabGreatDoorPart18
import Derived.Laws.StructEq
import Derived.MapKept
import Derived.Test.YtgaoeoijdpdjiabGreatDoorPart13
open Go.Value (int string)
open Go.IntKind (i64)
open Go.Proofs.Tryz
set_option maxRecDepth 20000
set_option maxHeartbeats 2000000
namespace Go.Proofs.YtgaoeoijdpdjiabGreatDoor
open Go.RowKit
theorem Gv (s:ByteArray)(a b:Nat)(h1:a<=b)(h2:b<=s.size)(w:World):(Instr.slice 9 (string s) (some (int i64 (a:Int))) (some (int i64 (b:Int))) none).run prog w=.ok (string (s.extract a b)) w:=by
 have a1:(0:Int)<=(a:Int):=by omega
 have a2:(a:Int)<=(b:Int):=by omega
 have a3:(b:Int)<=(s.size:Int):=by omega
 simp[go_sem,underlying9,a1,a2,a3]<;>omega
theorem Fq (s:ByteArray)(b:Nat)(h2:b<=s.size)(w:World):(Instr.slice 9 (string s) none (some (int i64 (b:Int))) none).run prog w=.ok (string (s.extract 0 b)) w:=by
 have a2:(0:Int)<=(b:Int):=by omega
 have a3:(b:Int)<=(s.size:Int):=by omega
 simp[go_sem,underlying9,a2,a3]<;>omega
def nv (t:ByteArray):Int:=((Bd t 0 4:Nat):Int)
theorem mI {W w1:World}(hb:Below W.heap.size W w1):(∀b o,b<W.heap.size->w1.cell? ⟨b,o,none⟩=W.cell? ⟨b,o,none⟩)/\(∀b o,b<W.heap.size->w1.frozen? ⟨b,o,none⟩=W.frozen? ⟨b,o,none⟩):=⟨λb o h=>hb.cell (p:=⟨b,o,none⟩) h,λb o h=>hb.frozen (p:=⟨b,o,none⟩) h⟩
theorem xG {a b:ByteArray}(h:a≠b):(a.toList==b.toList)=false:=by
 rw[<-beq_toListBytes,Bool.eq_false_iff];exactλe=>h ((Go.MapKept.bytes_beq a b).1 e)
theorem Zf0 (s:ByteArray)(w:World)(h:s.size≠32):Calls prog 255 #[string s] w λe w'=>e=.returned (Og s)/\Below w.heap.size w w':=by
 have HE:=aa (Sr (vQ h));have hd:(((s.size:Nat):Int)==32)=false:=by simp;omega
 have hd2:(((s.size:Nat):Int) !=32)=true:=by simp;omega
 clear h;generalize Og s=z at HE⊢;go_enter func255,ntmps255;go_wp2;refine bodyPost_ret (v:=.tuple #[.agg #[int i64 0,int i64 0,string ⟨#[]⟩],int i64 6]) (by simp[results,results255,go_sem]) rfl ⟨by rw[HE.out],?_⟩;exact Va _
theorem Yf0 (s:ByteArray)(w:World)(h:s.size=32):Calls prog 255 #[string s] w λe w'=>e=.returned (Og s)/\Below w.heap.size w w':=by
 have hd:(((s.size:Nat):Int)==32)=true:=by rw[h];rfl
 have hd2:(((s.size:Nat):Int) !=32)=false:=by rw[h];rfl
 have e1:=Gv s 4 8 (by omega) (by omega);have e2:=Gv s 16 20 (by omega) (by omega);have e3:=Gv s 8 16 (by omega) (by omega);simp only[Int.cast_ofNat_Int]at e1 e2 e3;have HN:=aa (λ(V:World) (t:ByteArray) (ht:Hid (t.size=4))=>S9 t V (by rw[ht.out];omega) (by rw[ht.out];omega));have Z1:Hid ((s.extract 4 8).size=4):=by show _=_;rw[ByteArray.size_extract];omega
 have Z2:Hid ((s.extract 16 20).size=4):=by show _=_;rw[ByteArray.size_extract];omega
 have hq:Hg s=nv (s.extract 4 8):=by rw[nv,lU s 4 8 4 (by omega) (by omega)];rfl
 have hb:qg s=nv (s.extract 16 20):=by rw[nv,lU s 16 20 4 (by omega) (by omega)];rfl
 change Hid (∀(V:World) (t:ByteArray) (ht:Hid (t.size=4)),Calls _ _ _ _ (λe w'=>e=.returned (int i64 (nv t))/\w'=V))at HN;change∀w:World,_=Result.ok (string (Qd s)) w at e3;have HZ:=aa h;clear h;by_cases hR:Oh (Hg s) (qg s) (Qd s)
 ·by_cases hS:Ua (Hg s) (qg s) (Qd s)=s
  ·have HE:=aa (bL ((Sw s).2 ⟨HZ.out,hR,hS⟩));have HL:=aa (λV:World=>JK _ _ _ V hR);rw[hS,hq,hb]at HL;rw[hq,hb]at HE;clear hq hb hR hS;generalize Qd s=d at*;generalize Og s=z at HE⊢;generalize s.extract 4 8=s1 at*;generalize s.extract 16 20=s2 at*;go_enter func255,ntmps255;go_wp2_with fail;go_region_held3 (λV=>True) (trivial) ((go_at_call 156;refine(HN.out _ _ (by first|exact Z1|exact Z2)).mono ?_;rintro e w1 ⟨rfl,rfl⟩))
   all_goals
    go_wp2_with fail
    refine(HL.out _).mono ?_
    rintro e w2 ⟨rfl,hb2⟩
    have B2:=aa ((((Below.refl w.heap.size w).alloc Aa _).alloc (by simp) _).drew.trans (hb2.mono (by simp;omega)));have c0:w2.cell? ⟨w.heap.size,0,none⟩=some (int i64 0):=(hb2.cell (p:=⟨w.heap.size,0,none⟩) (by simp;omega)).trans (by simp[go_sem]);have c1:w2.cell? ⟨w.heap.size,1,none⟩=some (int i64 0):=(hb2.cell (p:=⟨w.heap.size,1,none⟩) (by simp;omega)).trans (by simp[go_sem]);have c2:w2.cell? ⟨w.heap.size,2,none⟩=some (string ⟨#[]⟩):=(hb2.cell (p:=⟨w.heap.size,2,none⟩) (by simp;omega)).trans (by simp[go_sem]);obtain⟨hc,hf⟩:=mI hb2;have hz:w.heap.size+2<=w2.heap.size:=by have:=hb2.size;simp at this;omega
    clear hb2;go_wp2;refine bodyPost_ret (v:=.tuple #[.agg #[int i64 (nv s1),int i64 (nv s2),string d],int i64 0]) (by simp[results,results255,go_sem,c0,c1,c2]) rfl ⟨by rw[HE.out],?_⟩;iterate 3 refine Below.setCell ?_ (by simp) _
    exact B2.out
  ·have HE:=aa (Sr (s:=s) (by rw[Le,decide_eq_false (λh=>hS h.2.2)]));have HL:=aa (λV:World=>JK _ _ _ V hR);have hn1:=xG hS;generalize Ua (Hg s) (qg s) (Qd s)=y at*;rw[hq,hb]at HL;clear hq hb hR hS;generalize Qd s=d at*;generalize Og s=z at HE⊢;generalize s.extract 4 8=s1 at*;generalize s.extract 16 20=s2 at*;go_enter func255,ntmps255;go_wp2_with fail;go_region_held3 (λV=>True) (trivial) ((go_at_call 156;refine(HN.out _ _ (by first|exact Z1|exact Z2)).mono ?_;rintro e w1 ⟨rfl,rfl⟩))
   all_goals
    go_wp2_with fail
    refine(HL.out _).mono ?_
    rintro e w2 ⟨rfl,hb2⟩
    have B2:=aa ((((Below.refl w.heap.size w).alloc Aa _).alloc (by simp) _).drew.trans (hb2.mono (by simp;omega)));have c0:w2.cell? ⟨w.heap.size,0,none⟩=some (int i64 0):=(hb2.cell (p:=⟨w.heap.size,0,none⟩) (by simp;omega)).trans (by simp[go_sem]);have c1:w2.cell? ⟨w.heap.size,1,none⟩=some (int i64 0):=(hb2.cell (p:=⟨w.heap.size,1,none⟩) (by simp;omega)).trans (by simp[go_sem]);have c2:w2.cell? ⟨w.heap.size,2,none⟩=some (string ⟨#[]⟩):=(hb2.cell (p:=⟨w.heap.size,2,none⟩) (by simp;omega)).trans (by simp[go_sem]);obtain⟨hc,hf⟩:=mI hb2;have hz:w.heap.size+2<=w2.heap.size:=by have:=hb2.size;simp at this;omega
    clear hb2;go_wp2;refine bodyPost_ret (v:=.tuple #[.agg #[int i64 0,int i64 0,string ⟨#[]⟩],int i64 6]) (by simp[results,results255,go_sem,c0,c1,c2]) rfl ⟨by rw[HE.out],?_⟩;iterate 3 refine Below.setCell ?_ (by simp) _
    exact B2.out
 ·have HE:=aa (Sr (s:=s) (by rw[Le,decide_eq_false (λh=>hR h.2.1)]));have HL:=aa (λV:World=>Id0 _ _ _ V hR);clear hR;rw[hq,hb]at HL;clear hq hb;generalize Qd s=d at*;generalize Og s=z at HE⊢;generalize s.extract 4 8=s1 at*;generalize s.extract 16 20=s2 at*;go_enter func255,ntmps255;go_wp2_with fail;go_region_held3 (λV=>True) (trivial) ((go_at_call 156;refine(HN.out _ _ (by first|exact Z1|exact Z2)).mono ?_;rintro e w1 ⟨rfl,rfl⟩))
  all_goals
   go_wp2_with fail
   refine(HL.out _).mono ?_
   rintro e w2 ⟨rfl,hb2⟩
   have B2:=aa ((((Below.refl w.heap.size w).alloc Aa _).alloc (by simp) _).drew.trans (hb2.mono (by simp;omega)));have c0:w2.cell? ⟨w.heap.size,0,none⟩=some (int i64 0):=(hb2.cell (p:=⟨w.heap.size,0,none⟩) (by simp;omega)).trans (by simp[go_sem]);have c1:w2.cell? ⟨w.heap.size,1,none⟩=some (int i64 0):=(hb2.cell (p:=⟨w.heap.size,1,none⟩) (by simp;omega)).trans (by simp[go_sem]);have c2:w2.cell? ⟨w.heap.size,2,none⟩=some (string ⟨#[]⟩):=(hb2.cell (p:=⟨w.heap.size,2,none⟩) (by simp;omega)).trans (by simp[go_sem]);obtain⟨hc,hf⟩:=mI hb2;have hz:w.heap.size+2<=w2.heap.size:=by have:=hb2.size;simp at this;omega
   clear hb2;go_wp2;refine bodyPost_ret (v:=.tuple #[.agg #[int i64 0,int i64 0,string ⟨#[]⟩],int i64 6]) (by simp[results,results255,go_sem,c0,c1,c2]) rfl ⟨by rw[HE.out],?_⟩;iterate 3 refine Below.setCell ?_ (by simp) _
   exact B2.out
theorem kU (s:ByteArray)(w:World):Calls prog 255 #[string s] w λe w'=>e=.returned (Og s)/\Below w.heap.size w w':=by
 by_cases h:s.size=32
 ·exact Yf0 s w h
 ·exact Zf0 s w h
theorem bz (s:ByteArray)(w:World)(hs:s.size<=1000):Calls prog 187 #[string s] w λe w'=>e=.returned (int i64 (jh s))/\w'=w:=yb0 s w (by unfold maxLen;omega)
theorem wb0 (q b:Int)(d:ByteArray)(w:World)(h:Oh q b d):Calls prog 205 #[.agg #[int i64 q,int i64 b,string d]] w λe w'=>e=.returned (.tuple #[string (Ua q b d),int i64 0])/\Below w.heap.size w w':=by
 obtain⟨g1,g2,g3,g4,hd⟩:=h;have hd1:(((d.size:Nat):Int)==8)=true:=by rw[hd];rfl
 have hd2:(((d.size:Nat):Int) !=8)=false:=by rw[hd];rfl
 have hm:Gf.size=4:=rfl;have Wj:=mr Gf (qa 4 q) (by omega) (by rw[Sa];omega);have Cj:=mr (Gf++qa 4 q) d (by simp only[ByteArray.size_append,Sa];omega) (by omega);have il:=mr (Gf++qa 4 q++d) (qa 4 b) (by simp only[ByteArray.size_append,Sa];omega) (by simp only[Sa];omega);have Yh:=mr (Gf++qa 4 q++d++qa 4 b) (qa 8 0) (by simp only[ByteArray.size_append,Sa];omega) (by decide);have Nl:=mr (qh q b d) (qa 4 (jh (qh q b d))) (by rw[nz _ _ _ hd];omega) (by simp only[Sa];omega);have Lp:=aa (λV:World=>Ti 4 q V (by decide) (by omega) (by omega));have kg:=aa (λV:World=>Ti 4 b V (by decide) (by omega) (by omega));have Il:=aa (λV:World=>Ti 8 0 V (by decide) (by omega) (by omega));have Np:=aa (λV:World=>Ti 4 (jh (qh q b d)) V (by decide) (QT _) (by have:=PT (qh q b d);omega));have HM:=aa (λV:World=>bz (qh q b d) V (by rw[nz _ _ _ hd];omega));have HE:Hid (Ua q b d=qh q b d++qa 4 (jh (qh q b d))):=rfl;have HT:Hid (Gf++qa 4 q++d++qa 4 b++Cr=qh q b d):=rfl;rw[KN,HT.out]at Yh;rw[KN]at Il;change∀w,(Op.stringOp .add ⟨#[115,103,110,116]⟩ (qa 4 q)).run prog w=_ at Wj;generalize Cr=bl at Yh Il HT;generalize Gf++qa 4 q++d++qa 4 b=t3 at il Yh HT;generalize Gf++qa 4 q++d=t2 at Cj il;generalize Gf++qa 4 q=t1 at Wj Cj;generalize Ua q b d=z at HE⊢;generalize qh q b d=t4 at Yh Nl HM Np HE HT;generalize jh t4=s4 at Nl HM Np HE;obtain⟨W0,hW⟩:=Ca (w.alloc (.cells #[int i64 q,int i64 b,string d] 186));have HC:=aa (show W0.cell? ⟨w.heap.size,0,none⟩=some (int i64 q)/\W0.cell? ⟨w.heap.size,1,none⟩=some (int i64 b)/\W0.cell? ⟨w.heap.size,2,none⟩=some (string d) by subst hW;refine⟨?_,?_,?_⟩<;>simp[go_sem]);have HB:=Xd hW;have hz:W0.heap.size=w.heap.size+1:=by subst hW;simp
 have HS:=aa (λ(V:World) (h:Below W0.heap.size W0 V)=>(⟨(h.cell (p:=⟨w.heap.size,0,none⟩) (by show w.heap.size<_;omega)).trans HC.out.1,(h.cell (p:=⟨w.heap.size,1,none⟩) (by show w.heap.size<_;omega)).trans HC.out.2.1,(h.cell (p:=⟨w.heap.size,2,none⟩) (by show w.heap.size<_;omega)).trans HC.out.2.2,h⟩:V.cell? ⟨w.heap.size,0,none⟩=some (int i64 q)/\V.cell? ⟨w.heap.size,1,none⟩=some (int i64 b)/\V.cell? ⟨w.heap.size,2,none⟩=some (string d)/\Below W0.heap.size W0 V));have hS0:Below W0.heap.size W0 W0:=Vb;clear hd hm HT;have e0:=HC.out.1;have e1:=HC.out.2.1;have e2:=HC.out.2.2;go_enter func205,ntmps205;go_wp2_with fail;try rw[hW]
 clear hW;go_wp2_with fail;go_region_held3 (λV=>V.cell? ⟨w.heap.size,0,none⟩=some (int i64 q)/\V.cell? ⟨w.heap.size,1,none⟩=some (int i64 b)/\V.cell? ⟨w.heap.size,2,none⟩=some (string d)/\Below W0.heap.size W0 V) (first|exact HS.out _ Uc|exact HS.out _ hS2|exact HS.out _ hS1|exact HS.out _ hS0.drew) (first|(go_at_call 87;have hx:=hS2;clear hx;refine(Il.out _).mono ?_;rintro e w3 ⟨rfl,hb3⟩;have Uc:=Ga hS2 hb3 Aa)|(go_at_call 87;have hx:=hS1;clear hx;refine(kg.out _).mono ?_;rintro e w3 ⟨rfl,hb3⟩;have hS2:=Ga hS1 hb3 Aa)|(go_at_call 87;refine(Lp.out _).mono ?_;rintro e w2 ⟨rfl,hb2⟩;have hS1:=Ga hS0.drew hb2 Aa));go_wp2_with fail;refine(HM.out _).mono ?_
 rintro e w4 ⟨rfl,rfl⟩
 go_wp2_with fail;refine(Np.out _).mono ?_
 rintro e w5 ⟨rfl,hb5⟩
 have B5:=aa hb5;clear hb5;go_wp2;go_ret2;exact⟨congrArg (λx=>Ending.returned (Value.tuple #[string x,int i64 0])) HE.out.symm,HB.out.trans ((Ga Uc B5.out Aa).mono (by omega))⟩
def rv (s:ByteArray)(a:Int):Int:=((Bd s a.toNat 4:Nat):Int)
theorem OC (s:ByteArray)(a:Int)(w:World)(h1:s.size=32)(h2:Hid (0<=a/\a<=28)):Calls prog 84 #[string s,int i64 a,int i64 4] w λe w'=>e=.returned (int i64 (rv s a))/\w'=w:=by
 have h2:=h2.out;have h:=Gb0 s a.toNat w (by omega) (by omega);rw[Int.toNat_of_nonneg h2.1]at h;exact h
theorem Eb0 (s:ByteArray)(w:World)(h:s.size≠32):Calls prog 207 #[string s] w λe w'=>e=.returned (Og s)/\Below w.heap.size w w':=by
 have HE:=aa (Sr (vQ h));have hd:(((s.size:Nat):Int)==32)=false:=by simp;omega
 have hd2:(((s.size:Nat):Int) !=32)=true:=by simp;omega
 clear h;generalize Og s=z at HE⊢;go_enter func207,ntmps207;go_wp2;refine bodyPost_ret (v:=.tuple #[.agg #[int i64 0,int i64 0,string ⟨#[]⟩],int i64 6]) (by simp[results,results207,go_sem]) rfl ⟨by rw[HE.out],?_⟩;exact Va _
theorem Bb0 (s:ByteArray)(w:World)(h:s.size=32)(hm:s.extract 0 4≠Gf):Calls prog 207 #[string s] w λe w'=>e=.returned (Og s)/\Below w.heap.size w w':=by
 have HE:=aa (Sr (s:=s) (by rw[Bool.eq_false_iff];exactλe=>hm ((lF s h).1 e).1));have hd:(((s.size:Nat):Int)==32)=true:=by rw[h];rfl
 have hd2:(((s.size:Nat):Int) !=32)=false:=by rw[h];rfl
 have e1:=Fq s 4 (by omega);simp only[Int.cast_ofNat_Int]at e1;have hn:=xG hm;rw[show Gf.toList=[115,103,110,116]from by first|(unfold Gf;simp[go_sem];done)|rfl|(rw[ByteArray.toList_eq_toList_data];rfl)]at hn;clear h hm;generalize s.extract 0 4=s0 at*;generalize Og s=z at HE⊢;go_enter func207,ntmps207;go_wp2;refine bodyPost_ret (v:=.tuple #[.agg #[int i64 0,int i64 0,string ⟨#[]⟩],int i64 6]) (by simp[results,results207,go_sem]) rfl ⟨by rw[HE.out],?_⟩;exact Va _
theorem Fb0 (s:ByteArray)(w:World)(hZ:s.size=32)(hI:Le s=true):Calls prog 207 #[string s] w λe w'=>e=.returned (Og s)/\Below w.heap.size w w':=by
 have HE:=aa (bL hI);obtain⟨hm,q1,q2,b1,⟨b20,vN⟩,hs⟩:=(lF s hZ).1 hI;have hd:(((s.size:Nat):Int)==32)=true:=by rw[hZ];rfl
 have hd2:(((s.size:Nat):Int) !=32)=false:=by rw[hZ];rfl
 have e1:=Fq s 4 (by omega);have e2:=Gv s 8 16 (by omega) (by omega);have e3:=Fq s 28 (by omega);rw[hm]at e1;change∀w:World,_=Result.ok (string ⟨#[115,103,110,116]⟩) w at e1;change∀w:World,_=Result.ok (string (Qd s)) w at e2;simp only[Int.cast_ofNat_Int]at e1 e2 e3;have HV:=aa (λ(V:World) (a:Int) (h:Hid (0<=a/\a<=28))=>OC s a V hZ h);have HM:=aa (λV:World=>bz (s.extract 0 28) V (by rw[ByteArray.size_extract];omega));have g20:(rv s 20==0)=true:=by simp only[rv];change(((Bd s 20 4:Nat):Int)==0)=true;rw[b20];rfl
 have g24:(rv s 24==0)=true:=by simp only[rv];change(((Bd s 24 4:Nat):Int)==0)=true;rw[vN];rfl
 have HQ:Hid (rv s 28=jh (s.extract 0 28)):=hs.symm;have gZ:(rv s 28==jh (s.extract 0 28))=true:=by rw[HQ.out];exact beq_self_eq_true _
 have Ig0:(rv s 28 !=jh (s.extract 0 28))=false:=by rw[bne,gZ];rfl
 change 1<=rv s 4 at q1;change rv s 4<=_ at q2;change rv s 16<=_ at b1;have hq:Hg s=rv s 4:=rfl;have hb:qg s=rv s 16:=rfl;rw[hq,hb]at HE;clear hZ hI hm b20 vN hs HQ hq hb;generalize Qd s=d at*;generalize s.extract 0 28=Tt at*;generalize jh Tt=m at*;generalize Og s=z at HE⊢;go_enter func207,ntmps207;go_wp2_with fail;go_region_held3 (λV=>True) (trivial) ((go_at_call 84;refine(HV.out _ _ (by constructor<;>decide)).mono ?_;rintro e w1 ⟨rfl,rfl⟩))
 all_goals
  generalize rv s 4=q at*
  generalize rv s 16=b at*;go_wp2_with (first|(go_at_call 187;refine(HM.out _).mono ?_;rintro e w1 ⟨rfl,rfl⟩)|(go_at_call 84;refine(HV.out _ _ (by constructor<;>decide)).mono ?_;rintro e w1 ⟨rfl,rfl⟩));refine bodyPost_ret (v:=.tuple #[.agg #[int i64 q,int i64 b,string d],int i64 0]) (by simp[results,results207,go_sem]) rfl ⟨by rw[HE.out],?_⟩;exact((Va _).alloc (by simp) _).drew
end Go.Proofs.YtgaoeoijdpdjiabGreatDoor
