import Derived.Test.YtgaoeoijdpdjiabGreatDoorPart44
import Derived.Test.YtgaoeoijdpdjiabGreatDoorPart45
open Go.Value (int string pointer slice)
open Go.IntKind (i64)
open Go.Proofs.Tryz
set_option maxRecDepth 20000
set_option maxHeartbeats 16000000
namespace Go.Proofs.YtgaoeoijdpdjiabGreatDoor
open Go.RowKit
theorem od0 (lo S R:Nat)(en:Int)(ov:Bool)(k:Int)(b x t l ch idx Lv N:Nat)(sec rnd pub:ByteArray)(bat:Int)(key id:ByteArray)(nx bd q0:Int)(F0:Nat->Prop)(Za:Int->Int->Nat->Nat->ByteArray)(msg rv:ByteArray)(M:Nat->ByteArray)(DL:Nat->List Nat)(PW A Q1 Q2:Nat->Nat)(sv cv sg sp:Nat->Nat->ByteArray)(w0 w:World)(hI:Yk lo S t (λtr=>Oc R en ov k b x (t:Int) l sec rnd pub bat key id nx bd q0 tr) w0 F0 Za (N) w)(hl1:1<=l)(hl:l<=3)(ht1:1<=t)(ht:t<=4)(hN:N<=900000)(hlo:lo<=w.heap.size)(hc1:1<=ch)(hc:ch<=64)(hi:idx<=100000)(hm:msg.size<=200)(z1:rnd.size<=16)(z2:pub.size<=16)(z3:(Za ((l:Int)-1) 0 t 0).size<=16)(z4:rv.size<=16)(QO:∀q,q<l->(DL q).length=ch)
  (hL1:1<=Lv)(hP1:∀q,q<=l->1<=PW q)(hA:∀q,q<l->idx/PW q=A q)(rP:∀q,q<l->A q% Lv=Q2 q)(hQ1:∀q,q<l->idx/PW (q+1)=Q1 q)(uP:∀q,q<l->Q2 q<2^t)
  (hs0:sg 0 0=qa 4 idx++rv)(hs1:∀q,q<l->sp q 0=sg q ch)(hs2:∀q,q<l->sg (q+1) 0=sp q t)(hM:∀q:Nat,q<l->Za q (Q1 q:Nat) t 0=M (q+1))
  (hsg:∀q m,q<l->m<ch->∀wx,(Op.stringOp .add (sg q m) (cv q m)).run prog wx=.ok (string (sg q (m+1))) wx)
  (hsp:∀q m:Nat,q<l->m<t->∀wx,(Op.stringOp .add (sp q m) (Za q (Q1 q:Nat) m (Kj (Q2 q) m))).run prog wx=.ok (string (sp q (m+1))) wx)
  (hGt:∀V:World,Calls prog 214 #[.agg #[int i64 k,int i64 b,int i64 x,int i64 t,int i64 l],.agg #[string sec,string rnd,string pub],.agg #[int i64 ((l:Int)-1),int i64 0,int i64 0,int i64 0]] V λe w'=>∃ra rc vs,e=.returned (.agg #[int i64 ((l:Int)-1),int i64 0,int i64 0,int i64 0,slice ra (t+1) rc])/\Zc V.heap.size w' (slice ra (t+1) rc) vs (t+1) t (Za ((l:Int)-1) 0)/\Below V.heap.size V w')
  (hGq:∀q:Nat,q<l->∀V:World,Calls prog 214 #[.agg #[int i64 k,int i64 b,int i64 x,int i64 t,int i64 l],.agg #[string sec,string rnd,string pub],.agg #[int i64 q,int i64 (Q1 q:Nat),int i64 0,int i64 0]] V λe w'=>∃ra rc vs,e=.returned (.agg #[int i64 q,int i64 (Q1 q:Nat),int i64 0,int i64 0,slice ra (t+1) rc])/\Zc V.heap.size w' (slice ra (t+1) rc) vs (t+1) t (Za q (Q1 q:Nat))/\Below V.heap.size V w')
  (hNu:∀V:World,Calls prog 87 #[int i64 idx,int i64 4] V λe w'=>e=.returned (string (qa 4 idx))/\Below V.heap.size V w')
  (hH5:∀V:World,Calls prog 90 #[.agg #[int i64 k,int i64 b,int i64 x,int i64 t,int i64 l],int i64 5,string (rnd++qa 4 idx)] V λe w'=>e=.returned (string rv)/\Below V.heap.size V w')
  (hH6:∀V:World,Calls prog 90 #[.agg #[int i64 k,int i64 b,int i64 x,int i64 t,int i64 l],int i64 6,string (rv++Za ((l:Int)-1) 0 t 0++pub++qa 4 idx++msg)] V λe w'=>e=.returned (string (M 0))/\Below V.heap.size V w')
  (wB:∀V:World,Calls prog 92 #[.agg #[int i64 k,int i64 b,int i64 x,int i64 t,int i64 l]] V λe w'=>e=.returned (int i64 Lv)/\Below V.heap.size V w')
  (hPw:∀(q:Nat),q<=l->∀V:World,Calls prog 91 #[int i64 Lv,int i64 q] V λe w'=>e=.returned (int i64 (PW q:Nat))/\w'=V)
  (hD:∀q,q<l->∀V:World,Calls prog 93 #[.agg #[int i64 k,int i64 b,int i64 x,int i64 t,int i64 l],string (M q)] V λr w'=>∃v,r=.returned v/\w'.ownsRow V.heap.size 3 1 v ch (Dk (DL q))/\Below V.heap.size V w')
  (hSt:∀q m:Nat,q<l->m<ch->∀V:World,Calls prog 259 #[.agg #[int i64 k,int i64 b,int i64 x,int i64 t,int i64 l],.agg #[string sec,string rnd,string pub],.agg #[int i64 q,int i64 (Q1 q:Nat),int i64 (Q2 q:Nat),int i64 m]] V λe w'=>e=.returned (string (sv q m))/\Below V.heap.size V w')
  (hCh:∀q m d:Nat,q<l->(DL q)[m]?=some d->∀V:World,Calls prog 94 #[.agg #[int i64 k,int i64 b,int i64 x,int i64 t,int i64 l],string pub,.agg #[int i64 q,int i64 (Q1 q:Nat),int i64 (Q2 q:Nat),int i64 m],int i64 0,int i64 d,string (sv q m)] V λe w'=>e=.returned (string (cv q m))/\Below V.heap.size V w'):Calls prog 230 #[pointer (some ⟨S,0,none⟩),int i64 idx,string msg] w λe w'=>e=.returned (string (sg l 0))/\Yk lo S t (λtr=>Oc R en ov k b x (t:Int) l sec rnd pub bat key id nx bd q0 tr) w0 F0 Za (N+1+l) w':=by
 obtain⟨C,hC⟩:=Ca (w.heap.size);obtain⟨W0,hW⟩:=Ca (w.alloc (.cells #[int i64 k,int i64 b,int i64 x,int i64 t,int i64 l] 26));have HB0:=Xd hW;have Qb:=aa (show ma W0 C [int i64 k,int i64 b,int i64 x,int i64 t,int i64 l] 26 by rw[<-hW,<-hC];exact ma.new w _ _);have HI0:=aa (hI.on HB0.out);have c3:w.cell? ⟨S,3,none⟩=some (int i64 k):=hI.cell 3 (λ_=>rfl);have c4:w.cell? ⟨S,4,none⟩=some (int i64 b):=hI.cell 4 (λ_=>rfl);have c5:w.cell? ⟨S,5,none⟩=some (int i64 x):=hI.cell 5 (λ_=>rfl);have c6:w.cell? ⟨S,6,none⟩=some (int i64 t):=hI.cell 6 (λ_=>rfl);have c7:w.cell? ⟨S,7,none⟩=some (int i64 l):=hI.cell 7 (λ_=>rfl);have HW0:=aa (show w0.heap.size<=C by rw[<-hC];obtain⟨_,_,_,h⟩:=hI;exact h.k.size);have sj:=aa (OT HI0.out (by omega) (Nat.le_trans hlo HB0.out.size) ((l:Int)-1) 0 hGt);have yh:=aa (show lo<=C by rw[<-hC];exact hlo);have wl:IntKind.i64.wrap ((l:Int)-1)=(l:Int)-1:=by rw[IntKind.wrap_i64]<;>omega
 have vU:wrap64 ((l:Int)-1)=(l:Int)-1:=by rw[Yo]<;>omega
 have hnz:=Sa 4 (idx:Int);generalize hrt:Za ((l:Int)-1) 0 t 0=root at*;have Wj:=Sd rnd (qa 4 idx) (by omega) (by omega);have Cj:=Sd rv root (by omega) (by omega);have il:=Sd (rv++root) pub (by rw[ByteArray.size_append];omega) (by omega);have Yh:=Sd (rv++root++pub) (qa 4 idx) (by rw[ByteArray.size_append,ByteArray.size_append];omega) (by omega);have Nl:=Sd (rv++root++pub++qa 4 idx) msg (by rw[ByteArray.size_append,ByteArray.size_append,ByteArray.size_append];omega) (by omega);have Fu:=Sd (qa 4 idx) rv (by omega) (by omega);rw[<-hs0]at Fu;generalize rv++root++pub++qa 4 idx++msg=t5 at*;generalize rv++root++pub++qa 4 idx=t4 at*;generalize rv++root++pub=t3 at*;generalize rv++root=t2 at*;generalize rnd++qa 4 idx=t1 at*;generalize qa 4 (idx:Int)=ni at*;have Ns:=aa hNu;have WL:=aa hH5;have XL:=aa hH6;have Xn:=aa wB;have aA:=aa hPw;have HD:=aa hD;have HST:=aa hSt;have Qv:=aa hCh;have ZU:=aa hGq;have TU:=aa QO;have Ak:=aa hsg;have Zq:=aa hsp;have IM:=aa (And.intro hs1 hs2);have HM:=aa hM;have Tm:=aa hrt;have ru:=aa ht;have HT1:=aa ht1;have lH:=aa hN;have MU:=aa hc;have Nc:=aa hc1;have iw:=aa uP
 have JU:=aa (λq (hq:q<l)=>(show((idx:Int).tdiv (PW q:Nat)=(A q:Nat))/\((A q:Nat):Int).tmod (Lv:Nat)=(Q2 q:Nat)/\(idx:Int).tdiv (PW (q+1):Nat)=(Q1 q:Nat)/\A q<=100000/\Q2 q<=100000/\Q1 q<=100000/\1<=PW q/\1<=PW (q+1)from by
  have a1:=hA q hq;have a2:=rP q hq;have a3:=hQ1 q hq;refine⟨by rw[<-a1];exact(Int.ofNat_tdiv idx (PW q)).symm,by rw[<-a2];exact(Int.ofNat_tmod (A q) Lv).symm,by rw[<-a3];exact(Int.ofNat_tdiv idx (PW (q+1))).symm,by rw[<-a1];exact Nat.le_trans (Nat.div_le_self _ _) hi,by rw[<-a2];exact Nat.le_trans (Nat.mod_le _ _) (by rw[<-a1];exact Nat.le_trans (Nat.div_le_self _ _) hi),by rw[<-a3];exact Nat.le_trans (Nat.div_le_self _ _) hi,hP1 q (by omega),hP1 (q+1) (by omega)⟩))
 have Ea:=aa hW;have uk:=aa hC;clear hI hl1 ht1 ht hN hlo hc hc1 hm z1 z2 z3 z4 QO hP1 hA rP hQ1 uP hs0 hs1 hs2 hM hsg hsp hGt hGq hNu hH5 hH6 wB hPw hD hSt hCh hW hC hrt hnz;go_enter func230,ntmps230;go_upto_region 2 with fail;rw[Ea.out,uk.out];clear Ea c3 c4 c5 c6 c7;have b4:=Ya Qb.out;go_wp2_with fail;refine sj.out.mono ?_
 rintro e w2 ⟨ga,gc,vs,rfl,hg2,hI2,hz2,hkp⟩
 have HG2:=aa hg2;have HI2:=aa hI2;have Ag:=aa (hkp C _ _ Qb.out (by decide) (by decide));clear hg2 hI2 hkp b4 sj HI0;obtain⟨TP,YI⟩:=Ca (w2.heap.size);obtain⟨W2,hW2⟩:=Ca (w2.alloc (.cells #[int i64 ((l:Int)-1),int i64 0,int i64 0,int i64 0,slice ga (t+1) gc] 285));have Sc:=Xd hW2;have QM:=aa (show ma W2 TP (#[int i64 ((l:Int)-1),int i64 0,int i64 0,int i64 0,slice ga (t+1) gc]).toList 285 by rw[<-hW2,<-YI];exact ma.new w2 _ _);have HI3:=aa (HI2.out.on Sc.out);have We:=aa (Ag.out.on Sc.out);have ui:=aa (HG2.out.on Sc.out);have vV:=aa (show C<=W2.heap.size from Nat.le_of_lt We.out.lt);clear HI2 Ag HG2 Qb hz2;go_upto_region 3 with fail
 (try rw[hW2])
 (try rw[YI])
 clear hW2 YI wl vU;have HF:=aa (λ(V:World) (h:Below W2.heap.size W2 V)=>(have q1:=We.out.on h;have q2:=QM.out.on h;have q3:=HI3.out.on h;Ul (⟨q1.cell 0,q1.cell 1,q1.cell 2,q1.cell 3,q1.cell 4⟩:(V.cell? ⟨C,0,none⟩=some (int i64 k)/\V.cell? ⟨C,1,none⟩=some (int i64 b)/\V.cell? ⟨C,2,none⟩=some (int i64 x)/\V.cell? ⟨C,3,none⟩=some (int i64 t)/\V.cell? ⟨C,4,none⟩=some (int i64 l))) (q3.cell 9 (λ_=>rfl):V.cell? ⟨S,9,none⟩=some (string rnd)) (q3.cell 10 (λ_=>rfl):V.cell? ⟨S,10,none⟩=some (string pub)) (Fa q2) (Ja q2) (Ha q2) (Xa q2) (Ya q2)));have zi:=aa (λ(V:World) (h:Below W2.heap.size W2 V)=>KI lo ((l:Int)-1) 0 0 0 ga gc t vs (Za ((l:Int)-1) 0) V ru.out (ui.out.on h));rw[Tm.out]at zi;have hS:=(Below.refl W2.heap.size W2).drew;go_region_held3 (λV=>(V.cell? ⟨C,0,none⟩=some (int i64 k)/\V.cell? ⟨C,1,none⟩=some (int i64 b)/\V.cell? ⟨C,2,none⟩=some (int i64 x)/\V.cell? ⟨C,3,none⟩=some (int i64 t)/\V.cell? ⟨C,4,none⟩=some (int i64 l))/\V.cell? ⟨S,9,none⟩=some (string rnd)) (exact⟨(HF.out _ hS).1,(HF.out _ hS).2.1⟩) (first|(go_at_call 87;refine(Ns.out _).mono ?_;rintro e wN ⟨rfl,hbN⟩;have hS:=Ga hS hbN Aa)|(go_at_call 90;refine(WL.out _).mono ?_;rintro e wN ⟨rfl,hbN⟩;have hS:=Ga hS hbN Aa));go_upto_region 4 with fail;have hS:=hS.drew;go_region_held3 (λV=>(V.cell? ⟨C,0,none⟩=some (int i64 k)/\V.cell? ⟨C,1,none⟩=some (int i64 b)/\V.cell? ⟨C,2,none⟩=some (int i64 x)/\V.cell? ⟨C,3,none⟩=some (int i64 t)/\V.cell? ⟨C,4,none⟩=some (int i64 l))/\V.cell? ⟨S,10,none⟩=some (string pub)/\V.cell? ⟨TP,0,none⟩=some (int i64 ((l:Int)-1))/\V.cell? ⟨TP,1,none⟩=some (int i64 0)/\V.cell? ⟨TP,2,none⟩=some (int i64 0)/\V.cell? ⟨TP,3,none⟩=some (int i64 0)/\V.cell? ⟨TP,4,none⟩=some (slice ga (t+1) gc)) (exact⟨(HF.out _ hS).1,(HF.out _ hS).2.2⟩) (first|(go_at_call 278;refine(zi.out _ hS).mono ?_;rintro e wN ⟨rfl,hbN⟩;have hS:=Ga hS hbN Aa)|(go_at_call 87;refine(Ns.out _).mono ?_;rintro e wN ⟨rfl,hbN⟩;have hS:=Ga hS hbN Aa)|(go_at_call 90;refine(XL.out _).mono ?_;rintro e wN ⟨rfl,hbN⟩;have hS:=Ga hS hbN Aa));have Ed:=aa hS;clear hS;go_wp2_with fail;refine(Ns.out _).mono ?_
 rintro e w5 ⟨rfl,hb5⟩
 have qc:=aa (Ga Ed.out hb5 Aa);have Pz:=aa (HI3.out.on qc.out);have Jq:=aa (We.out.on qc.out);have Uk:=aa (show lo<=w5.heap.size from Nat.le_trans yh.out (Nat.le_trans vV.out qc.out.size));clear hb5 Ed qc zi HF ui QM HI3 We Sc WL XL Ns Wj Cj il Yh Nl;go_wp2_with fail;clear Fu;go_loopw [10,11,12] (λu s i wr=>∃q:Nat,q<=l/\i=int i64 q/\u=string (M q)/\s=string (sg q 0)/\Hid (Yk lo S t (λtr=>Oc R en ov k b x (t:Int) l sec rnd pub bat key id nx bd q0 tr) w0 F0 Za (N+1+q) wr)/\Hid (ma wr C [int i64 k,int i64 b,int i64 x,int i64 t,int i64 l] 26)) (λ_ _ i _=>l-(intOf i).toNat)
 case atStart=>exact⟨0,Nat.zero_le _,rfl,rfl,rfl,Pz.out,Jq.out⟩
 case round=>
  obtain⟨wo,rfl⟩:∃wo:World,wo=wr:=⟨_,rfl⟩;obtain⟨q,hq,rfl,rfl,rfl,aP,OE⟩:=hrel;by_cases hlt:q<l
  ·obtain⟨hd1,hd2,hd3,bA,bQ2,bQ1,hp1,hp2⟩:=JU.out q hlt;have BM:=aa (aA.out q (by omega));have tH:=aa (aA.out (q+1) (by omega));rw[show(((q+1:Nat)):Int)=(q:Int)+1 from rfl]at tH;have HD1:=aa (HD.out q hlt);have WV:=aa (λm (hm:m<ch)=>HST.out q m hlt hm);have PU:=aa (λm d (h:(DL q)[m]?=some d)=>Qv.out q m d hlt h);have aV:=aa (ZU.out q hlt);have PL:=aa (TU.out q hlt);have zA:=aa (λm (hm:m<ch)=>Ak.out q m hlt hm);have TV:=aa (λm (hm:m<t)=>Zq.out q m hlt hm);have vk:=aa (IM.out.1 q hlt);have HE2:=aa (IM.out.2 q hlt);have Uz:=aa (HM.out q hlt);have NV:=aa (iw.out q hlt);have v5:IntKind.i64.wrap ((q:Int)+1)=(q:Int)+1:=by rw[IntKind.wrap_i64]<;>omega
   generalize PW q=P1 at*;generalize PW (q+1)=P2 at*;generalize A q=A1 at*;generalize Q2 q=Q2 at*;generalize Q1 q=Q1 at*;generalize DL q=ds at*;have v6:IntKind.i64.wrap (A1:Int)=(A1:Int):=by rw[IntKind.wrap_i64]<;>omega
   have v7:IntKind.i64.wrap (Q2:Int)=(Q2:Int):=by rw[IntKind.wrap_i64]<;>omega
   have v8:IntKind.i64.wrap (Q1:Int)=(Q1:Int):=by rw[IntKind.wrap_i64]<;>omega
   have hL0:Lv≠0:=by omega
   have Lg0:P1≠0:=by omega
   have Mg0:P2≠0:=by omega
   have Jo:(q:Int)<(l:Int):=by omega
   have b4:=Ya OE.out;obtain⟨AT,OI⟩:=Ca (wo.heap.size);obtain⟨V0,Co⟩:=Ca (wo.alloc (.cells #[int i64 q,int i64 0,int i64 0,int i64 0] 91));have dA:=Xd Co;have Iq:=aa (show ma V0 AT [int i64 q,int i64 0,int i64 0,int i64 0] 91 by rw[<-Co,<-OI];exact ma.new wo _ _);have gM:=aa (aP.out.on dA.out);have Mq:=aa (OE.out.on dA.out);have Fz:=aa (show C<AT by have:=OE.out.lt;omega);have qy:=aa (show w0.heap.size<=AT by have h1:=HW0.out;have h2:=Fz.out;omega);have wu:=aa Co;have Xt:=aa OI;clear Co OI;go_upto_region 10 with fail;rw[wu.out,Xt.out];clear wu Xt b4 dA;have HS:=aa (λ(V:World) (h:ma V C [int i64 k,int i64 b,int i64 x,int i64 t,int i64 l] 26)=>(jv (Fa h) (Ja h) (Ha h) (Xa h) (Ya h)));refine wp_region_held_drew (S:=λV=>V.cell? ⟨C,0,none⟩=some (int i64 k)/\V.cell? ⟨C,1,none⟩=some (int i64 b)/\V.cell? ⟨C,2,none⟩=some (int i64 x)/\V.cell? ⟨C,3,none⟩=some (int i64 t)/\V.cell? ⟨C,4,none⟩=some (int i64 l)) (by kernel_rfl) (HS.out _ (Mq.out.on (Below.refl V0.heap.size V0).drew)) (λja=>?_);have HD0:=aa ((Below.refl V0.heap.size V0).drew);generalize World.drew V0=V1 at HD0 ja⊢;refine tk 0 ja ?_;refine tk 1 ja ?_;refine tk 3 ja ?_;refine tk 6 ja ?_;refine wpAnyH_ready (rs:=[2]) (by kernel_rfl) (by simp) ?_;refine(AllReadyH.cons (o:=?oa2) ?ha2 (λK hK=>?sa2) AllReadyH.nil)
   case ha2=>(simp only[jb,Na,Oa];rfl)
   go_simp;go_at_call 92;refine(Xn.out _).mono ?_
   rintro e w3 ⟨rfl,hb3⟩
   have HB3:=aa (HD0.out.trans (hb3.mono HD0.out.size));clear hb3;try go_wp2_with fail
   refine hK.out _ _ (HS.out _ (Mq.out.on HB3.out)) (λja=>?_);clear hK K;try simp only[Act.put,Bb,Ka,Ma]
   refine wpAnyH_ready (rs:=[4]) (by kernel_rfl) (by simp) ?_;refine(AllReadyH.cons (o:=?oa4) ?ha4 (λK hK=>?sa4) AllReadyH.nil)
   case ha4=>(simp only[jb,Na,Oa];rfl)
   go_simp;go_at_call 91;refine(BM.out _).mono ?_
   rintro e wq ⟨rfl,hwq⟩
   obtain rfl:=hwq.symm;clear hwq;try go_wp2_with fail
   refine hK.out _ _ (HS.out _ (Mq.out.on HB3.out)) (λja=>?_);clear hK K;try simp only[Act.put,Bb,Ka,Ma]
   refine tk 5 ja ?_;refine wpAnyH_ready (rs:=[7]) (by kernel_rfl) (by simp) ?_;refine(AllReadyH.cons (o:=?oa7) ?ha7 (λK hK=>?sa7) AllReadyH.nil)
   case ha7=>(simp only[jb,Na,Oa];rfl)
   go_simp;go_at_call 92;refine(Xn.out _).mono ?_
   rintro e w4 ⟨rfl,hb4⟩
   have Db:=aa (HB3.out.trans (hb4.mono HB3.out.size));clear hb4;try go_wp2_with fail
   refine hK.out _ _ (HS.out _ (Mq.out.on Db.out)) (λja=>?_);clear hK K;try simp only[Act.put,Bb,Ka,Ma]
   refine tk 8 ja ?_;refine tk 9 ja ?_;have Vi:=aa (Iq.out.on Db.out);have r2:=Ha Vi.out;have f2:=Vi.out.free 2;refine wpAnyH_ready (rs:=[10]) (by kernel_rfl) (by simp) ?_;refine(AllReadyH.cons (o:=?oaA) ?haA (λK hK=>?saA) AllReadyH.nil)
   case haA=>(simp only[jb,Na,Oa];rfl)
   go_simp;refine hK.out _ _ (HS.out _ ((Mq.out.on Db.out).other _ (show C≠AT by have:=Fz.out;omega))) (λja=>?_);clear hK K;try simp only[Act.put,Bb,Ka,Ma]
   refine wpAnyH_done (by kernel_rfl) ?_ _;clear ja r2 f2;have Pz:=aa ((gM.out.on Db.out).set Vi.out qy.out 2 (int i64 Q2));have Jq:=aa ((Mq.out.on Db.out).other (a:=⟨AT,2,none⟩) (int i64 Q2) (show C≠AT by have:=Fz.out;omega));have Hq:=aa (Vi.out.set 2 (int i64 Q2));obtain⟨V5,CP⟩:=Ca (w4.setCell ⟨AT,2,none⟩ (int i64 Q2));rw[CP]at Pz Jq Hq⊢;clear CP Vi Db HB3 HD0 gM Mq Iq BM hd1 hd2 v6 v7;have c0:=Fa Jq.out;have c1:=Ja Jq.out;have c2:=Ha Jq.out;have c3:=Xa Jq.out;have c4:=Ya Jq.out;go_wp2_with fail;refine(Xn.out _).mono ?_
   rintro e w6 ⟨rfl,hb6⟩
   have bM:=aa (Pz.out.on hb6);have Kq:=aa (Jq.out.on hb6);have Jh:=aa (Hq.out.on hb6);clear hb6 c0 c1 c2 c3 c4 Pz Jq Hq;have r1:=Ja Jh.out;have f1:=Jh.out.free 1;go_wp2_with fail;refine(tH.out _).mono ?_
   rintro e wq ⟨rfl,hwq⟩
   obtain rfl:=hwq.symm;clear hwq;have WG:=aa (bM.out.set Jh.out qy.out 1 (int i64 Q1));have Zt:=aa (Kq.out.other (a:=⟨AT,1,none⟩) (int i64 Q1) (show C≠AT by have:=Fz.out;omega));have Pj:=aa (show ma (w6.setCell ⟨AT,1,none⟩ (int i64 Q1)) AT [int i64 q,int i64 Q1,int i64 Q2,int i64 0] 91 from Jh.out.set 1 (int i64 Q1));obtain⟨V7,aJ⟩:=Ca (w6.setCell ⟨AT,1,none⟩ (int i64 Q1));rw[aJ]at WG Zt Pj;go_upto_region 12 with fail
   (try rw[aJ])
   clear aJ r1 f1 bM Kq Jh tH hd3 v8 hp1 hp2;have HD2:=aa (HD1.out V7);have c0:=Fa Zt.out;have c1:=Ja Zt.out;have c2:=Ha Zt.out;have c3:=Xa Zt.out;have c4:=Ya Zt.out;go_wp2_with fail;refine HD2.out.mono ?_
   rintro e pU ⟨dv,rfl,hod,YE⟩
   have XG:=aa (WG.out.on YE);have NU:=aa (Zt.out.on YE);have Az:=aa (Pj.out.on YE);have vZ:=Pj.out.lt;clear c0 c1 c2 c3 c4 WG Zt Pj HD2 HD1;have hch:=Nc.out
   obtain⟨gd,cd,cur,rfl,hgd,hhd,Qg0,_,JZ,QP⟩:∃gd cd cur,dv=slice (some ⟨gd,0,none⟩) ch cd/\V7.heap.size<=gd/\pU.heap[gd]?=some (.cells cur 3 (0,0))/\ch<=cd/\cd<=maxLen/\cur.size=cd*1/\cur.toList.take (ch*1)=Dk ds:=by
    rcases hod.2 with⟨_,h⟩|h
    ·omega
    ·exact h
   have KL:=aa (show ma pU gd cur.toList 3 by unfold ma;simpa using hhd)
   have Nq:=aa (λ(m d:Nat) (hmd:ds[m]?=some d)=>(show cur.toList[m]?=some (int i64 (d:Nat)) by
    have hml:m<ch:=by rw[<-PL.out];exact(List.getElem?_eq_some_iff.1 hmd).1
    have h1:(cur.toList.take (ch*1))[m]?=(Dk ds)[m]?:=by rw[QP]
    rw[List.getElem?_take_of_lt (by omega)]at h1;rw[h1];simp[Dk,hmd]))
   have hAg:AT<gd:=by omega
   clear YE hod hhd JZ QP hgd vZ hch;generalize hcl:cur.toList=CL at KL Nq;clear hcl;go_wp2_with fail;go_loopw [11,15] (λs i wr=>∃(m:Nat) (z:Int),m<=ch/\i=int i64 m/\s=string (sg q m)/\Hid (Yk lo S t (λtr=>Oc R en ov k b x (t:Int) l sec rnd pub bat key id nx bd q0 tr) w0 F0 Za (N+1+q) wr)/\Hid (ma wr C [int i64 k,int i64 b,int i64 x,int i64 t,int i64 l] 26)/\Hid (ma wr AT [int i64 q,int i64 Q1,int i64 Q2,int i64 z] 91)/\Hid (ma wr gd CL 3)) (λ_ i _=>ch-(intOf i).toNat)
   case atStart=>exact⟨0,0,Nat.zero_le _,rfl,rfl,XG.out,NU.out,Az.out,KL.out⟩
   case round=>
    obtain⟨m,z,hm',rfl,rfl,hii,hci,hai,hdi⟩:=hrel;by_cases hlt2:m<ch
    ·obtain⟨dd,hdd⟩:∃dd,ds[m]?=some dd:=⟨_,List.getElem?_eq_getElem (by rw[PL.out];exact hlt2)⟩;have AA:=aa (WV.out m hlt2);have QU:=aa (PU.out m dd hdd);have LZ:=Nq.out m dd hdd;have ccg:=zA.out m hlt2;have zJ:(m:Int)<(ch:Int):=by omega
     have hmw:IntKind.i64.wrap ((m:Int)+1)=(m:Int)+1:=by have:=MU.out;rw[IntKind.wrap_i64]<;>omega
     have r3:=Xa hai.out;have f3:=hai.out.free 3;obtain⟨V3,ZI⟩:=Ca (wr.setCell ⟨AT,3,none⟩ (int i64 m));have HI3:=aa (hii.out.set hai.out qy.out 3 (int i64 m));have We:=aa (hci.out.other (a:=⟨AT,3,none⟩) (int i64 m) (show C≠AT by have:=Fz.out;omega));have Oj:=aa (show ma (wr.setCell ⟨AT,3,none⟩ (int i64 m)) AT [int i64 q,int i64 Q1,int i64 Q2,int i64 m] 91 from hai.out.set 3 (int i64 m));have HD3:=aa (hdi.out.other (a:=⟨AT,3,none⟩) (int i64 m) (show gd≠AT by omega));rw[ZI]at HI3 We Oj HD3;go_upto_region 17 with fail
     (try rw[ZI])
     clear ZI r3 f3 hii hci hai hdi
     have HF:=aa (λ(V:World) (h:Below V3.heap.size V3 V)=>(by
      have q1:=We.out.on h;have q2:=Oj.out.on h;have q3:=HI3.out.on h;exact⟨⟨q1.cell 0,q1.cell 1,q1.cell 2,q1.cell 3,q1.cell 4⟩,⟨q3.cell 8 (λ_=>rfl),q3.cell 9 (λ_=>rfl),q3.cell 10 (λ_=>rfl)⟩,⟨q2.cell 0,q2.cell 1,q2.cell 2,q2.cell 3⟩,((HD3.out.on h).cell m).trans LZ⟩:(V.cell? ⟨C,0,none⟩=some (int i64 k)/\V.cell? ⟨C,1,none⟩=some (int i64 b)/\V.cell? ⟨C,2,none⟩=some (int i64 x)/\V.cell? ⟨C,3,none⟩=some (int i64 t)/\V.cell? ⟨C,4,none⟩=some (int i64 l))/\(V.cell? ⟨S,8,none⟩=some (string sec)/\V.cell? ⟨S,9,none⟩=some (string rnd)/\V.cell? ⟨S,10,none⟩=some (string pub))/\(V.cell? ⟨AT,0,none⟩=some (int i64 q)/\V.cell? ⟨AT,1,none⟩=some (int i64 Q1)/\V.cell? ⟨AT,2,none⟩=some (int i64 Q2)/\V.cell? ⟨AT,3,none⟩=some (int i64 m))/\V.cell? ⟨gd,m,none⟩=some (int i64 (dd:Nat))))
     have hS:=(Below.refl V3.heap.size V3).drew;go_region_held3 (λV=>(V.cell? ⟨C,0,none⟩=some (int i64 k)/\V.cell? ⟨C,1,none⟩=some (int i64 b)/\V.cell? ⟨C,2,none⟩=some (int i64 x)/\V.cell? ⟨C,3,none⟩=some (int i64 t)/\V.cell? ⟨C,4,none⟩=some (int i64 l))/\(V.cell? ⟨S,8,none⟩=some (string sec)/\V.cell? ⟨S,9,none⟩=some (string rnd)/\V.cell? ⟨S,10,none⟩=some (string pub))/\(V.cell? ⟨AT,0,none⟩=some (int i64 q)/\V.cell? ⟨AT,1,none⟩=some (int i64 Q1)/\V.cell? ⟨AT,2,none⟩=some (int i64 Q2)/\V.cell? ⟨AT,3,none⟩=some (int i64 m))) (exact⟨(HF.out _ hS).1,(HF.out _ hS).2.1,(HF.out _ hS).2.2.1⟩) ((go_at_call 259;refine(AA.out _).mono ?_;rintro e wN ⟨rfl,hbN⟩;have hS:=Ga hS hbN Aa));go_upto_region 18 with fail;have hS:=hS.drew;go_region_held3 (λV=>(V.cell? ⟨C,0,none⟩=some (int i64 k)/\V.cell? ⟨C,1,none⟩=some (int i64 b)/\V.cell? ⟨C,2,none⟩=some (int i64 x)/\V.cell? ⟨C,3,none⟩=some (int i64 t)/\V.cell? ⟨C,4,none⟩=some (int i64 l))/\V.cell? ⟨S,10,none⟩=some (string pub)/\(V.cell? ⟨AT,0,none⟩=some (int i64 q)/\V.cell? ⟨AT,1,none⟩=some (int i64 Q1)/\V.cell? ⟨AT,2,none⟩=some (int i64 Q2)/\V.cell? ⟨AT,3,none⟩=some (int i64 m))/\V.cell? ⟨gd,m,none⟩=some (int i64 (dd:Nat))) (exact⟨(HF.out _ hS).1,(HF.out _ hS).2.1.2.2,(HF.out _ hS).2.2⟩) ((go_at_call 94;refine(QU.out _).mono ?_;rintro e wN ⟨rfl,hbN⟩;have hS:=Ga hS hbN Aa));have Ed:=aa hS;clear hS;go_wp2;go_roundw
     case rel=>exact⟨m+1,m,by omega,by go_num,rfl,HI3.out.on Ed.out,We.out.on Ed.out,Oj.out.on Ed.out,HD3.out.on Ed.out⟩
     case measure=>simp[intOf];omega
    ·obtain rfl:m=ch:=by omega
     have r1:=Ja hai.out;have Zx:=aa (show lo<=wr.heap.size by have h1:=yh.out;have h2:=hci.out.lt;omega);have sj:=aa (OT hii.out (by have:=lH.out;omega) Zx.out (q:Int) (Q1:Int) aV.out);go_wp2_with fail;refine sj.out.mono ?_
     rintro e uz ⟨ga,gc,vs,rfl,XP,ZO,M3,hkp⟩
     have Vx:=aa XP;have ZL:=aa ZO;have FL:=aa (hkp C _ _ hci.out (by decide) (by decide));have nD:=aa (hkp AT _ _ hai.out (by decide) (by decide));clear XP ZO hkp M3 r1 sj hii hci hai hdi;obtain⟨G,Jw⟩:=Ca (uz.heap.size);obtain⟨oN,VE⟩:=Ca (uz.alloc (.cells #[int i64 q,int i64 Q1,int i64 0,int i64 0,slice ga (t+1) gc] 285));have fw:=Xd VE;have Fs:=aa (show ma oN G (#[int i64 q,int i64 Q1,int i64 0,int i64 0,slice ga (t+1) gc]).toList 285 by rw[<-VE,<-Jw];exact ma.new uz _ _);have aM:=aa (ZL.out.on fw.out);have GL:=aa (FL.out.on fw.out);have Ur:=aa (nD.out.on fw.out);have UG:=aa (Vx.out.on fw.out);have Ea:=aa VE;have Zl:=aa Jw;clear VE Jw ZL FL nD Vx fw;go_upto_region 20 with fail;rw[Ea.out,Zl.out];clear Ea Zl;have g0:=Fa Fs.out;have g1:=Ja Fs.out;have g2:=Ha Fs.out;have g3:=Xa Fs.out;have g4:=Ya Fs.out;have a2:=Ha Ur.out;have Us:=aa (Nc0 lo q Q1 0 0 ga gc t Q2 vs (Za q Q1) oN ru.out NV.out UG.out);go_wp2_with fail;refine Us.out.mono ?_
     rintro e w16 ⟨pv,rfl,hop,JB⟩
     have hpl:(Px (Za q Q1) t Q2).length=t:=by simp[Px]
     obtain⟨gp,cp,hpv,hpc,_,U0,hpe⟩:=xx (ys:=Px (Za q Q1) t Q2) (by rw[hpl];exact hop) (by rw[hpl];exact HT1.out);rw[hpl]at hpv hpc;subst hpv;have ay:=aa (λm (hm:m<t)=>(show w16.cell? ⟨gp,0+m,none⟩=some (string (Za q Q1 m (Kj Q2 m)))from hpe m _ (by simp[Px,hm])));have bV:=aa (aM.out.on JB);have PG:=aa (GL.out.on JB);have XU:=aa (UG.out.on JB);have Nz:=aa (Fs.out.on JB);clear hop JB hpl U0 hpe g0 g1 g2 g3 g4 a2 Us aM GL Ur UG Fs;have QL:=vk.out;rw[<-QL];clear QL;go_wp2_with fail;go_loopw [11,19] (λs i wr=>∃(m:Nat),m<=t/\i=int i64 m/\s=string (sp q m)/\wr=w16) (λ_ i _=>t-(intOf i).toNat)
     case atStart=>exact⟨0,Nat.zero_le _,rfl,rfl,rfl⟩
     case round=>
      obtain⟨n,hn',rfl,rfl,rfl⟩:=hrel;by_cases hlt3:n<t
      ·have hpn:=ay.out n hlt3;rw[Nat.zero_add]at hpn;have ccp:=TV.out n hlt3;have hni:(n:Int)<(t:Int):=by omega
       have hnw:IntKind.i64.wrap ((n:Int)+1)=(n:Int)+1:=by have:=ru.out;rw[IntKind.wrap_i64]<;>omega
       go_wp2;go_roundw
       case rel=>exact⟨n+1,by omega,by go_num,rfl,by trivial⟩
       case measure=>simp[intOf];omega
      ·obtain rfl:n=t:=by omega
       have g0:=Fa Nz.out;have g1:=Ja Nz.out;have g2:=Ha Nz.out;have g3:=Xa Nz.out;have g4:=Ya Nz.out;have zi:=aa (KI lo q Q1 0 0 ga gc n vs (Za q Q1) wr ru.out XU.out);rw[Uz.out]at zi;go_wp2_with fail;refine zi.out.mono ?_
       rintro e w18 ⟨rfl,kJ⟩
       have dV:=aa (bV.out.on kJ);have LU:=aa (PG.out.on kJ);clear kJ g0 g1 g2 g3 g4 zi;rw[<-HE2.out];go_wp2;go_roundw
       case rel=>exact⟨q+1,by omega,by go_num,rfl,rfl,dV.out,LU.out⟩
       case measure=>simp[intOf];omega
  ·obtain rfl:q=l:=by omega
   have b4:=Ya OE.out;go_wp2;go_ret;exact⟨rfl,aP.out⟩
def lh (k:Int)(b x e f:Nat)(sec pub:ByteArray)(ly n:Int):Nat->Nat->ByteArray:=Zg k b (x-1) (b*e+f) sec pub ly n
theorem JE (k:Int)(b x e f t l:Nat)(R:Wp k b x e f t l)(sec rnd pub:ByteArray)(s1:sec.size=b)(s3:pub.size=b)(p0 p1:Int)(hl:Im t l p0 p1 0=true)(V:World):Calls prog 214 #[.agg #[int i64 k,int i64 b,int i64 x,int i64 t,int i64 l],.agg #[string sec,string rnd,string pub],.agg #[int i64 p0,int i64 p1,int i64 0,int i64 0]] V λe' w'=>∃ra rc vs,e'=.returned (.agg #[int i64 p0,int i64 p1,int i64 0,int i64 0,slice ra (t+1) rc])/\Zc V.heap.size w' (slice ra (t+1) rc) vs (t+1) t (lh k b x e f sec pub p0 p1)/\Below V.heap.size V w':=by
 obtain⟨g1,g2,g3,g4,g5,g6⟩:=uq R.pr;have h2:=R.t2;have h4:=R.l2;have HZ:=λV:World=>VF b x e f t l R.pr k V R.t1 R.t2 R.l1 R.l2
 have hc:vE t l (b*e+f) p0 p1 0 0=true:=by
  unfold vE;rw[hl];simp;omega
 obtain⟨q0,q1,-,-⟩:=BX hc h2 h4 g4;have hwd:(x:Int)=((x-1:Nat):Int)+1:=by omega
 have qR:=Wy k b (x-1) (b*e+f) sec pub p0 p1 R.kk (by omega) (by omega) (by omega) (by omega) g3;have hn16:2^t<=16:=Nat.le_trans (Nat.pow_le_pow_right (by decide) h2) (by decide);refine nZ k b x l p0 p1 0 0 t (2^t) sec rnd pub (lh k b x e f sec pub p0 p1) V h2 rfl (λV=>Sy t k b x l V h2) (λi V hi=>?_) (λh j V hh hj=>?_)
 ·exact uc0 k x t l p0 p1 i 0 _ _ _ _ _ b sec rnd pub (b*e+f) (x-1) V R.kk (by omega) (by omega) (by omega) (by omega) g3 g4 (by omega) hwd q0 q1 ⟨by omega,by omega⟩ HZ
 ·have hj2:j<=16:=by
   have:2^(t-(h+1))<=2^t:=Nat.pow_le_pow_right (by decide) (by omega);omega
  exact tc0 k x t l p0 p1 0 0 ((h+1:Nat):Int) j b pub _ _ V R.kk (by omega) (by omega) (by omega) (show(Zg k b (x-1) (b*e+f) sec pub p0 p1 h (2*j)).size<=16 by have:=qR h (2*j);omega) (show(Zg k b (x-1) (b*e+f) sec pub p0 p1 h (2*j+1)).size<=16 by have:=qR h (2*j+1);omega) q0 q1 ⟨by omega,by omega⟩ ⟨by omega,by omega⟩
theorem ZK {t l:Nat}(h1:1<=l):Im t l ((l:Int)-1) 0 0=true:=by
 have h:=yG t l (l-1) 0 (by omega) (Nat.two_pow_pos _);rw[Nat.zero_div,Nat.zero_div]at h;rw[show(l:Int)-1=((l-1:Nat):Int) by omega];exact h
theorem Za0 (a i:Nat):Kj a i=a/2^i^^^1:=by
 rw[uL];unfold Kj;by_cases h:a/2^i% 2=0
 ·rw[if_neg (by omega),if_pos h]
 ·rw[if_pos (by omega),if_neg h]
theorem VY (s:ByteArray):(⟨#[]⟩:ByteArray)++s=s:=by
 apply ByteArray.ext;rw[ByteArray.data_append];simp
theorem yF (a:Nat)(h:a<=100000):0<=(a:Int)/\(a:Int)<=100000:=by omega
theorem RN:∀a b:List ByteArray,Dc (a++b)=Dc a++Dc b
 |[],b=>by rw[List.nil_append,Dc];exact(VY _).symm
 |x::a,b=>by rw[List.cons_append,Dc,Dc,RN a b,ByteArray.append_assoc]
theorem vX (y:ByteArray):Dc [y]=y:=by rw[Dc,Dc,Ar]
theorem XT {α:Type}(L:List α)(m:Nat)(y:α)(h:L[m]?=some y):L.take (m+1)=L.take m++[y]:=by
 obtain⟨hj,rfl⟩:=List.getElem?_eq_some_iff.1 h;exact List.take_succ_eq_append_getElem hj
theorem xb0 (lo S Rd:Nat)(en:Int)(ov:Bool)(k:Int)(b x e f t l:Nat)(R:Wp k b x e f t l)(sec rnd pub msg:ByteArray)(bat:Int)(key id:ByteArray)(nx bd q0:Int)(F0:Nat->Prop)(N idx:Nat)(s1:sec.size=b)(s2:rnd.size=b)(s3:pub.size=b)(s4:msg.size<=200)(hi:idx<2^(t*l))(w0 w:World)(hN:N<=900000)(hlo:lo<=w.heap.size)
  (hI:Yk lo S t (λtr=>Oc Rd en ov k b x (t:Int) l sec rnd pub bat key id nx bd q0 tr) w0 F0 (lh k b x e f sec pub) N w):Calls prog 230 #[pointer (some ⟨S,0,none⟩),int i64 idx,string msg] w λe' w'=>e'=.returned (string (oz k b x e f t l sec rnd pub msg idx))/\Yk lo S t (λtr=>Oc Rd en ov k b x (t:Int) l sec rnd pub bat key id nx bd q0 tr) w0 F0 (lh k b x e f sec pub) (N+1+l) w':=by
 obtain⟨g1,g2,g3,g4,g5,g6⟩:=uq R.pr;obtain⟨hb,hx⟩:=KR R.pr;have r1:=R.t1;have r2:=R.t2;have r3:=R.l1;have r4:=R.l2;have hk:=R.kk;have hpw:2^(t*l)<=4096:=Nat.le_trans (Nat.pow_le_pow_right (by decide) (Nat.mul_le_mul r2 r4)) (by decide);have Ir:=QS k b rnd idx hk g1 g2 (by omega);have I1:=MC k b x t (b*e+f) l sec pub hk g1 g2 (by omega) (by omega) g3;have hm0:=XQ k b (Ad k b rnd idx) (Ie k b x t (b*e+f) l sec pub) pub idx msg hk (by omega) (by omega) (by omega) (by omega) (by omega) s4
 have hmx:Eg k b (Ad k b rnd idx) (Ie k b x t (b*e+f) l sec pub) pub idx msg=hv k b (qa 1 6++(Ad k b rnd idx++Ie k b x t (b*e+f) l sec pub++pub++qa 4 idx++msg)):=by
  unfold Eg;simp only[ByteArray.append_assoc]
 generalize YZ:Eg k b (Ad k b rnd idx) (Ie k b x t (b*e+f) l sec pub) pub idx msg=m0 at hm0 hmx;have hF:=GK k b x e f t (b*e+f) sec pub idx m0 R.pr rfl hk (by omega) (by omega) hm0;have hvl:=SS k b x e f t (b*e+f) sec pub idx m0 R.pr rfl hk (by omega) (by omega) hm0;have hpl:=RS k b x t (b*e+f) sec pub idx;have hsz:=IK k b x e f t (b*e+f) sec pub idx m0 R.pr rfl hk (by omega) (by omega);have hps:=WR k b x e f t (b*e+f) sec pub idx m0 R.pr rfl hk (by omega) (by omega);have Jo:=SF _ _ _ _ hvl hpl;have Su:∀q,∀d∈sD k b x e f t (b*e+f) sec pub idx m0 q,d<x:=λq=>rO x e f _ (by omega);have hq1:∀q,idx/2^(t*q)/2^t<=100000:=λq=>Nat.le_trans (Nat.div_le_self _ _) (Nat.le_trans (Nat.div_le_self _ _) (by omega));have hq2:∀q,idx/2^(t*q)% 2^t<2^t:=λq=>Nat.mod_lt _ (Nat.two_pow_pos t);have h16:2^t<=16:=Nat.le_trans (Nat.pow_le_pow_right (by decide) r2) (by decide)
 have lY:∀L:List ByteArray,(∀y∈L,(y.size:Int)=b)->L.length<=1000->((qa 4 idx++Ad k b rnd idx++Dc L).size:Int)<=8388608:=λL h1 h2=>by
  have h3:=rE b L h1;have h4:L.length*b<=1000*16:=Nat.mul_le_mul h2 g2;rw[ByteArray.size_append,ByteArray.size_append,Sa,h3];omega
 have hlen:∀q,q<l->(Oe (sV k b x e f t (b*e+f) sec pub idx m0) (sP k b x t (b*e+f) sec pub idx) q).length<=300:=λq hq=>by
  rw[Jo q];exact Nat.le_trans (Nat.mul_le_mul (show q<=3 by omega) (show b*e+f+t<=68 by omega)) (by decide)
 have hsv:∀q m,m<b*e+f->(sV k b x e f t (b*e+f) sec pub idx m0 q)[m]?=some (bg k b pub q ((idx/2^(t*q)/2^t:Nat):Int) ((idx/2^(t*q)% 2^t:Nat):Int) m 0 ((sD k b x e f t (b*e+f) sec pub idx m0 q)[m]?.getD 0) (si k b sec q ((idx/2^(t*q)/2^t:Nat):Int) ((idx/2^(t*q)% 2^t:Nat):Int) m)):=λq m hm=>by
  have hd:=(hF q).2;unfold sV Ih;rw[List.getElem?_map,List.getElem?_range (by rw[hd];exact hm)];rfl
 have hsp:∀q m,m<t->(sP k b x t (b*e+f) sec pub idx q)[m]?=some (lh k b x e f sec pub q ((idx/2^(t*q)/2^t:Nat):Int) m (Kj (idx/2^(t*q)% 2^t) m)):=λq m hm=>by
  unfold sP Si;rw[List.getElem?_map,List.getElem?_range hm,Za0];rfl
 have hAdd:∀(L:List ByteArray) (y:ByteArray),(∀y∈L,(y.size:Int)=b)->L.length<=1000->y.size<=1000->∀wx,(Op.stringOp .add (qa 4 idx++Ad k b rnd idx++Dc L) y).run prog wx=.ok (string (qa 4 idx++Ad k b rnd idx++Dc (L++[y]))) wx:=λL y h1 h2 h3 wx=>by
  rw[run_string_add wx _ _ (lY L h1 h2) (by omega),RN,vX,<-ByteArray.append_assoc]
 have hmem:∀q m,∀y∈Oe (sV k b x e f t (b*e+f) sec pub idx m0) (sP k b x t (b*e+f) sec pub idx) q++(sV k b x e f t (b*e+f) sec pub idx m0 q).take m,(y.size:Int)=b:=λq m y hy=>by
  rcases List.mem_append.1 hy with h|h
  ·exact hps q y h
  ·exact(hsz q).1 y (List.mem_of_mem_take h)
 have O0:∀q m,∀y∈Oe (sV k b x e f t (b*e+f) sec pub idx m0) (sP k b x t (b*e+f) sec pub idx) q++sV k b x e f t (b*e+f) sec pub idx m0 q++(sP k b x t (b*e+f) sec pub idx q).take m,(y.size:Int)=b:=λq m y hy=>by
  rcases List.mem_append.1 hy with h|h
  ·rcases List.mem_append.1 h with h|h
   ·exact hps q y h
   ·exact(hsz q).1 y h
  ·exact(hsz q).2 y (List.mem_of_mem_take h)
 have hend:qa 4 idx++Ad k b rnd idx++Dc (Oe (sV k b x e f t (b*e+f) sec pub idx m0) (sP k b x t (b*e+f) sec pub idx) l++(sV k b x e f t (b*e+f) sec pub idx m0 l).take 0)=oz k b x e f t l sec rnd pub msg idx:=by
  rw[List.take_zero,List.append_nil];unfold oz;rw[YZ]
 rw[<-hend];refine od0 lo S Rd en ov k b x t l (b*e+f) idx (2^t) N sec rnd pub bat key id nx bd q0 F0 (lh k b x e f sec pub) msg (Ad k b rnd idx) (sM k b x e f t (b*e+f) sec pub idx m0) (sD k b x e f t (b*e+f) sec pub idx m0) (λq=>(2^t)^q) (λq=>idx/2^(t*q)) (λq=>idx/2^(t*q)/2^t) (λq=>idx/2^(t*q)% 2^t) (λq m=>si k b sec q ((idx/2^(t*q)/2^t:Nat):Int) ((idx/2^(t*q)% 2^t:Nat):Int) m) (λq m=>bg k b pub q ((idx/2^(t*q)/2^t:Nat):Int) ((idx/2^(t*q)% 2^t:Nat):Int) m 0 ((sD k b x e f t (b*e+f) sec pub idx m0 q)[m]?.getD 0) (si k b sec q ((idx/2^(t*q)/2^t:Nat):Int) ((idx/2^(t*q)% 2^t:Nat):Int) m)) (λq m=>qa 4 idx++Ad k b rnd idx++Dc (Oe (sV k b x e f t (b*e+f) sec pub idx m0) (sP k b x t (b*e+f) sec pub idx) q++(sV k b x e f t (b*e+f) sec pub idx m0 q).take m)) (λq m=>qa 4 idx++Ad k b rnd idx++Dc (Oe (sV k b x e f t (b*e+f) sec pub idx m0) (sP k b x t (b*e+f) sec pub idx) q++sV k b x e f t (b*e+f) sec pub idx m0 q++(sP k b x t (b*e+f) sec pub idx q).take m)) w0 w hI r3 r4 r1 r2 hN hlo g3 g4 (by omega) s4 (by omega) (by omega) ?z3 (by omega) (λq _=>(hF q).2) Nat.one_le_two_pow (λq _=>Nat.one_le_pow _ _ (Nat.two_pow_pos t)) ?hA (λq _=>rfl) ?hQ1 (λq _=>hq2 q) ?hs0 ?hs1 ?hs2 ?hM ?hsg ?hsp ?hGt ?hGq ?hNu ?hH5 ?hH6 (λV=>Sy t k b x l V r2) ?hPw ?hD ?hSt ?hCh
 case z3=>
  have:(Ie k b x t (b*e+f) l sec pub).size<=16:=by omega
  exact this
 case hA=>
  intro q _;show idx/(2^t)^q=idx/2^(t*q);rw[Nat.pow_mul]
 case hQ1=>
  intro q _;show idx/(2^t)^(q+1)=idx/2^(t*q)/2^t;rw[Nat.pow_succ,<-Nat.pow_mul,Nat.div_div_eq_div_mul]
 case hs0=>
  simp[Oe,Dc,Ar]
 case hs1=>
  intro q _;show qa 4 idx++Ad k b rnd idx++Dc _=qa 4 idx++Ad k b rnd idx++Dc _;rw[List.take_zero,List.append_nil,List.take_of_length_le (Nat.le_of_eq (hvl q))]
 case hs2=>
  intro q _;show qa 4 idx++Ad k b rnd idx++Dc _=qa 4 idx++Ad k b rnd idx++Dc _;rw[List.take_zero,List.append_nil,List.take_of_length_le (Nat.le_of_eq (hpl q))];rfl
 case hM=>
  intro q _;exact(Bc0 k b x t (b*e+f) sec pub q _ _ _ (Su q) (hF q).2 (hq2 q)).symm
 case hsg=>
  intro q m hq hm wx;have h1:=hsv q m hm;rw[show Oe (sV k b x e f t (b*e+f) sec pub idx m0) (sP k b x t (b*e+f) sec pub idx) q++(sV k b x e f t (b*e+f) sec pub idx m0 q).take (m+1)=Oe (sV k b x e f t (b*e+f) sec pub idx m0) (sP k b x t (b*e+f) sec pub idx) q++(sV k b x e f t (b*e+f) sec pub idx m0 q).take m++[_] by rw[XT _ m _ h1,List.append_assoc]];refine hAdd _ _ (hmem q m) ?_ ?_ wx
  ·have:=hlen q hq;rw[List.length_append,List.length_take];omega
  ·have:=(hsz q).1 _ (List.mem_of_getElem? h1);omega
 case hsp=>
  intro q m hq hm wx;have h1:=hsp q m hm;rw[show Oe (sV k b x e f t (b*e+f) sec pub idx m0) (sP k b x t (b*e+f) sec pub idx) q++sV k b x e f t (b*e+f) sec pub idx m0 q++(sP k b x t (b*e+f) sec pub idx q).take (m+1)=Oe (sV k b x e f t (b*e+f) sec pub idx m0) (sP k b x t (b*e+f) sec pub idx) q++sV k b x e f t (b*e+f) sec pub idx m0 q++(sP k b x t (b*e+f) sec pub idx q).take m++[_] by rw[XT _ m _ h1,List.append_assoc (_++_)]];refine hAdd _ _ (O0 q m) ?_ ?_ wx
  ·have h2:=hlen q hq;have h3:=hvl q;rw[List.length_append,List.length_append,List.length_take];omega
  ·have:=(hsz q).2 _ (List.mem_of_getElem? h1);omega
 case hGt=>exactλV=>JE k b x e f t l R sec rnd pub s1 s3 _ _ (ZK r3) V
 case hGq=>exactλq hq V=>JE k b x e f t l R sec rnd pub s1 s3 _ _ (yG t l q idx hq hi) V
 case hNu=>exactλV=>Ti 4 idx V (by decide) (by omega) (by omega)
 case hH5=>exactλV=>gz k x t l 5 b _ V hk g1 g2 (by rw[ByteArray.size_append,Sa];omega) (by decide) (by decide)
 case hH6=>
  intro V;show Calls _ _ _ _ λe w'=>e=.returned (string m0)/\_;rw[hmx];refine gz k x t l 6 b _ V hk g1 g2 ?_ (by decide) (by decide)
  have:(lh k b x e f sec pub ((l:Int)-1) 0 t 0).size<=16:=by
   have:(Ie k b x t (b*e+f) l sec pub).size<=16:=by omega
   exact this
  simp only[ByteArray.size_append,Sa];omega
 case hPw=>
  intro q hq V
  have hp:(2^t)^q<=65536:=by
   rw[<-Nat.pow_mul];exact Nat.le_trans (Nat.pow_le_pow_right (by decide) (Nat.mul_le_mul r2 (Nat.le_trans hq r4))) (by decide)
  exact Cx (2^t) q V h16 (by omega) hp Nat.one_le_two_pow
 case hD=>
  intro q hq V;have:=(hF q).1;exact ub0 b x e f R.pr k t l _ V r1 r2 r3 r4 (by omega)
 case hSt=>
  intro q m hq hm V;exact PS k x t l q _ _ m b sec rnd pub V hk g1 g2 (by omega) ⟨by omega,by omega⟩ (yF _ (hq1 q)) (yF _ (Nat.le_trans (Nat.le_of_lt (hq2 q)) (by omega))) ⟨by omega,by omega⟩
 case hCh=>
  intro q m d hq hd V;have hdl:=Su q d (List.mem_of_getElem? hd)
  have hm:m<b*e+f:=by
   have:=(List.getElem?_eq_some_iff.1 hd).1;rw[(hF q).2]at this;exact this
  have h:=XR k x t l q ((idx/2^(t*q)/2^t:Nat):Int) ((idx/2^(t*q)% 2^t:Nat):Int) m b pub (si k b sec q ((idx/2^(t*q)/2^t:Nat):Int) ((idx/2^(t*q)% 2^t:Nat):Int) m) 0 hk g1 g2 (by omega) (UC k b sec _ _ _ _ hk (by omega) (by omega) (by omega)) ⟨by omega,by omega⟩ (yF _ (hq1 q)) (yF _ (Nat.le_trans (Nat.le_of_lt (hq2 q)) (by omega))) ⟨by omega,by omega⟩ d (by omega) V;rw[Nat.zero_add]at h;rw[hd];exact h
structure Hd where
 i:Nat
 G:Nat
 S:Nat
 Rs:Nat
 k:Int
 b:Nat
 x:Nat
 e:Nat
 f:Nat
 t:Nat
 l:Nat
 sec:ByteArray
 rnd:ByteArray
 pub:ByteArray
 bat:Int
 tm:Int
 nx:Nat
 bd:Nat
 q:Nat
 ov:Bool
 ra:Option Addr
 rc:Nat
 Ks:List Ig
def Hd.root (h:Hd):ByteArray:=Ie h.k h.b h.x h.t (h.b*h.e+h.f) h.l h.sec h.pub
def Hd.id (h:Hd):ByteArray:=Xu h.k h.b h.x h.t h.l h.root h.pub
def Hd.key (h:Hd):ByteArray:=Yd h.k h.b h.x h.t h.l++h.root++h.pub
def Hd.tot (h:Hd):Nat:=2^(h.t*h.l)
def Hd.sc (h:Hd)(D:Nat):List Value:=Zb D h.tm h.k h.b h.x h.t h.l h.root h.pub h.sec h.rnd (h.tot:Nat) h.bat h.nx h.q h.bd h.id h.ov
def Hd.tr (h:Hd):Value:=slice h.ra h.Ks.length h.rc
def Hd.rs (h:Hd)(R:Nat)(tr:Value):List Value:=Oc R h.tm h.ov h.k h.b h.x (h.t:Int) h.l h.sec h.rnd h.pub h.bat h.key h.id h.nx h.bd h.q tr
def Hd.fp (h:Hd)(q:Nat):Prop:=q=h.G\/q=h.S\/q=h.Rs\/og h.t h.tr h.Ks q
structure uj (h:Hd):Prop where
 R:Wp h.k h.b h.x h.e h.f h.t h.l
 s1:h.sec.size=h.b
 s2:h.rnd.size=h.b
 s3:h.pub.size=h.b
 b1:1<=h.bat
 b2:h.bat<=64
 nb:h.nx<=h.bd
 bt:h.bd<=h.tot
 q1:1<=h.q
 q2:h.q<=2147483647
 kn:h.Ks.length<=1+5*h.nx
structure HA (lo D R:Nat)(h:Hd)(w:World):Prop where
 ok:uj h
 g:ma w h.G [pointer (some ⟨h.S,0,none⟩)] 142
 s:ma w h.S (h.sc D) 188
 r:ma w h.Rs (h.rs R h.tr) 302
 t:Nf lo w h.tr h.Ks h.t (lh h.k h.b h.x h.e h.f h.sec h.pub)
 lG:lo<=h.G
 lS:lo<=h.S
 lR:lo<=h.Rs
theorem uj.tot4 {h:Hd}(ok:uj h):h.tot<=4096:=Nat.le_trans (Nat.pow_le_pow_right (by decide) (Nat.mul_le_mul ok.R.t2 ok.R.l2)) (by decide)
theorem uj.rsz {h:Hd}(ok:uj h):h.root.size=h.b:=by
 obtain⟨g1,g2,g3,_⟩:=uq ok.R.pr;have h1:=ok.s1;have h3:=ok.s3;exact MC h.k h.b h.x h.t _ h.l h.sec h.pub ok.R.kk g1 g2 (by omega) (by omega) g3
theorem uj.id8 {h:Hd}(ok:uj h):h.id.size=8:=by
 have h1:=ok.rsz;have h3:=ok.s3;have h2:=(uq ok.R.pr).2.1;exact KJ h.k h.b h.x h.t h.l h.root h.pub ok.R.kk (by omega) (by omega)
section
variable {lo D R:Nat}{h:Hd}{w w':World}
theorem HA.lt (k:HA lo D R h w){q:Nat}(hq:h.fp q):lo<=q/\q<w.heap.size:=by
 rcases hq with rfl|rfl|rfl|e
 ·exact⟨k.lG,k.g.lt⟩
 ·exact⟨k.lS,k.s.lt⟩
 ·exact⟨k.lR,k.r.lt⟩
 ·exact k.t.lt e
theorem HA.kept {X:Nat->Prop}(k:HA lo D R h w)(hk:za X w w')(hn:∀q,h.fp q->¬X q):HA lo D R h w':=⟨k.ok,Mc k.g hk (hn _ (.inl rfl)),Mc k.s hk (hn _ (.inr (.inl rfl))),Mc k.r hk (hn _ (.inr (.inr (.inl rfl)))),k.t.kept hk (λq e=>hn q (.inr (.inr (.inr e)))),k.lG,k.lS,k.lR⟩
theorem HA.below (k:HA lo D R h w)(hb:Below w.heap.size w w'):HA lo D R h w':=k.kept (za.of_below (F:=λ_=>False) hb) (λ_ _ e=>e)
end
theorem Rf.dsk {lo X D:Nat}{st:Da}{w:World}{F:Nat->Prop}(h:Rf lo X D st w F):∃F',Fb lo D st w F'/\(F=λk=>k=X\/F' k)/\¬F' X/\ma w X [pointer (some ⟨D,0,none⟩)] 135/\lo<=X:=by
 obtain⟨E,pv,hb,hd,h1,h2,h3,h4,rfl⟩:=h;refine⟨uh D E pv,⟨E,pv,hd,rfl⟩,rfl,?_,hb,h4⟩
 rintro(e|e|e)
 ·exact h1 e
 ·exact h2 e
 ·exact h3 e
theorem WS {lo X D:Nat}{st:Da}{w:World}{F:Nat->Prop}(h:Fb lo D st w F)(hX:ma w X [pointer (some ⟨D,0,none⟩)] 135)(hn:¬F X)(hl:lo<=X):Rf lo X D st w (λk=>k=X\/F k):=by
 obtain⟨E,pv,hd,rfl⟩:=h;exact⟨E,pv,hX,hd,λe=>hn (.inl e),λe=>hn (.inr (.inl e)),λe=>hn (.inr (.inr e)),hl,rfl⟩
theorem Nf.blk {lo T:Nat}{w:World}{rv:Value}{Ks:List Ig}{Za:Int->Int->Nat->Nat->ByteArray}(h:Nf lo w rv Ks T Za){q:Nat}(hq:og T rv Ks q):∃us Ty,ma w q us Ty/\(Ty=285\/Ty=27\/Ty=9):=by
 rcases hq with e|⟨K,hK,e|⟨v,hv,e⟩⟩
 ·obtain⟨-,-,us,hB⟩:=dh h.row e;exact⟨us,_,hB,.inl rfl⟩
 ·obtain⟨-,-,us,hB⟩:=dh (h.each K hK).row e;exact⟨us,_,hB,.inr (.inl rfl)⟩
 ·obtain⟨us,hB⟩:=(h.each K hK).blk hv e;exact⟨us,_,hB,.inr (.inr rfl)⟩
def JL (lo:Nat)(p:Cc)(h:Hd)(w w':World):Prop:=∃(p':Cc) (h':Hd),(p'.X=p.X/\p'.D=p.D/\p'.R=p.R/\p'.st.n=p.st.n/\p'.st.term=p.st.term/\p'.L.length<=p.L.length+1/\p.st.syncs<=p'.st.syncs/\p'.st.syncs<=p.st.syncs+2)/\(h'.i=h.i/\h'.G=h.G/\h'.Rs=h.Rs)/\PA lo p' w'/\HA lo p.D p.R h' w'/\za (λq=>p.fp q\/h.fp q) w w'/\(∀q,p'.fp q->p.fp q\/w.heap.size<=q)/\∀q,h'.fp q->h.fp q\/w.heap.size<=q/\¬p'.fp q
structure ic (lo:Nat)(p:Cc)(h h1:Hd)(st2:Da)(w w1:World):Prop where
 s:ma w1 h.S (h1.sc p.D) 188
 d:∃F2,Rf lo p.X p.D st2 w1 F2/\∀q,F2 q->p.F q\/w.heap.size<=q
 rd:RD lo p.R p.st p.lv p.L w1
 g:ma w1 h.G [pointer (some ⟨h.S,0,none⟩)] 142
 r:ma w1 h.Rs (h.rs p.R h.tr) 302
 t:Nf lo w1 h.tr h.Ks h.t (lh h.k h.b h.x h.e h.f h.sec h.pub)
 k:za (λq=>p.fp q\/h.fp q) w w1
section
variable {lo:Nat}{p:Cc}{h h1:Hd}{st2:Da}{w V w1 w2:World}
theorem IB (kh:HA lo p.D p.R h w)(kp:PA lo p w)(hd:∀q,h.fp q->¬p.fp q)(hb:Below w.heap.size w V){F':Nat->Prop}(hF:p.F=λk=>k=p.X\/F' k)(hX:¬F' p.X)(XE:ma V p.X [pointer (some ⟨p.D,0,none⟩)] 135)(hl:lo<=p.X)(hs:ng lo h.S p.D st2 (h1.sc p.D) F' V w1):za (λq=>p.fp q\/h.fp q) V w1/\ic lo p h h1 st2 w w1:=by
 obtain⟨s1,F2,s2,s3,s4⟩:=hs;have kV:=kp.below hb;have hV:=kh.below hb;have jF:∀q,F' q->p.fp q:=λq e=>.inl (by rw[hF];exact .inr e);have hk:za (λq=>p.fp q\/h.fp q) V w1:=s3.mono (λq _ e=>e.elim (λe=>.inr (.inr (.inl e))) (λe=>.inl (jF q e)));have nS:∀q,p.fp q->q≠h.S:=λq e e2=>hd q (.inr (.inl e2)) e;have hX1:ma w1 p.X [pointer (some ⟨p.D,0,none⟩)] 135:=Mc XE s3 (λe=>e.elim (nS _ (.inl (by rw[hF];exact .inl rfl))) hX);have Qf:p.X<V.heap.size:=XE.lt
 have hrd:RD lo p.R p.st p.lv p.L w1:=kV.rd.kept s3 (λq e e2=>by
  have hq:p.fp q:=e.elim (λe=>.inr (.inl e)) (λe=>.inr (.inr e));rcases e2 with e2|e2
  ·exact nS q hq e2
  ·have qB:p.F q:=by rw[hF];exact .inr e2
   rcases e with rfl|e
   ·exact kV.nR qB
   ·exact kV.nL e qB)
 have nF:∀q,h.fp q->¬F' q:=λq e e2=>hd q e (jF q e2);refine⟨hk,s1,⟨_,WS s2 hX1 (λe=>(s4 _ e).elim hX (λe=>by omega)) hl,λq e=>?_⟩,hrd,Mc hV.g s3 (λe=>e.elim (λe=>?_) (nF _ (.inl rfl))),Mc hV.r s3 (λe=>e.elim (λe=>?_) (nF _ (.inr (.inr (.inl rfl))))),hV.t.kept s3 (λq e e2=>e2.elim (λe2=>?_) (nF q (.inr (.inr (.inr e))))),(za.of_below hb).trans hk (λ_ e=>.inl e)⟩
 ·rcases e with e|e
  ·exact .inl (by rw[hF];exact .inl e)
  ·rcases s4 q e with e|e
   ·exact .inl (by rw[hF];exact .inr e)
   ·exact .inr (Nat.le_trans hb.size e)
 ·exact xe (show ma V h.S _ _ from e▸hV.g) hV.s (by decide)
 ·exact xe (show ma V h.S _ _ from e▸hV.r) hV.s (by decide)
 ·subst e2;obtain⟨us,Ty,hB,e3⟩:=hV.t.blk e;rcases e3 with rfl|rfl|rfl<;>exact xe hB hV.s (by decide)
theorem uU (hh:ic lo p h h1 st2 w w1)(hl:lo<=h.G/\lo<=h.S/\lo<=h.Rs)(e1:h1.G=h.G/\h1.S=h.S/\h1.Rs=h.Rs/\h1.i=h.i)(ok:uj h1)
  (hn:st2.n=p.st.n)(jc:st2.term=p.st.term)(hy1:p.st.syncs<=st2.syncs)(hy2:st2.syncs<=p.st.syncs+2){lv2:Value}{L2:List Gb}(hk:za (λq=>q=h.Rs\/og h.t h.tr h.Ks q\/Wh p.R p.lv q) w1 w2)(hrd:RD lo p.R st2 lv2 L2 w2)(hL:L2.length<=p.L.length+1)(hlv:∀q,lv2.ownBlock=some q->p.lv.ownBlock=some q\/w1.heap.size<=q)(hr:ma w2 h.Rs (h1.rs p.R h1.tr) 302)(ht:Nf lo w2 h1.tr h1.Ks h1.t (lh h1.k h1.b h1.x h1.e h1.f h1.sec h1.pub))(hf:∀q,og h1.t h1.tr h1.Ks q->og h.t h.tr h.Ks q\/w1.heap.size<=q):za (λq=>p.fp q\/h.fp q) w1 w2/\JL lo p h w w2:=by
 obtain⟨F2,d1,d2⟩:=hh.d;obtain⟨eG,eS,eR,ei⟩:=e1
 have hk2:za (λq=>p.fp q\/h.fp q) w1 w2:=hk.mono (λq _ e=>by
  rcases e with e|e|e|e
  ·exact .inr (.inr (.inr (.inl e)))
  ·exact .inr (.inr (.inr (.inr e)))
  ·exact .inl (.inr (.inl e))
  ·exact .inl (.inr (.inr e)))
 have nT:∀{V:World} {F:Nat->Prop} {st:Da},Rf lo p.X p.D st V F->∀{q us Ty},ma V q us Ty->(Ty=285\/Ty=27\/Ty=9)->¬F q:=λ{_ _ _} hs {_ _ _} hB e=>by
  rcases e with rfl|rfl|rfl<;>exact Ro hs hB (by decide) (by decide) (by decide) (by decide)
 have hd2:Rf lo p.X p.D st2 w2 F2:=d1.kept hk (λq e e5=>by
  rcases e5 with rfl|e5|rfl|e5
  ·exact Ro d1 hh.r (by decide) (by decide) (by decide) (by decide) e
  ·obtain⟨us,Ty,hB,e6⟩:=hh.t.blk e5;exact nT d1 hB e6 e
  ·exact Ro d1 hh.rd.b (by decide) (by decide) (by decide) (by decide) e
  ·obtain⟨vs,hv⟩:=Cq hh.rd.r e5;exact Ro d1 hv (by decide) (by decide) (by decide) (by decide) e)
 have nb:∀{q us Ty},ma w1 q us Ty->Ty≠302->Ty≠285->Ty≠27->Ty≠9->Ty≠293->Ty≠295->ma w2 q us Ty:=λ{q us Ty} hB n1 n2 n3 n4 n5 n6=>Mc hB hk (λe=>by
  rcases e with rfl|e|rfl|e
  ·exact xe hB hh.r n1
  ·obtain⟨zG,Ty2,hB2,e6⟩:=hh.t.blk e;rcases e6 with rfl|rfl|rfl
   ·exact xe hB hB2 n2
   ·exact xe hB hB2 n3
   ·exact xe hB hB2 n4
  ·exact xe hB hh.rd.b n5
  ·obtain⟨vs,hv⟩:=Cq hh.rd.r e;exact xe hB hv n6)
 have hg2:=nb hh.g (by decide) (by decide) (by decide) (by decide) (by decide) (by decide);have hs2:=nb hh.s (by decide) (by decide) (by decide) (by decide) (by decide) (by decide);refine⟨hk2,⟨p.X,p.D,p.R,st2,L2,F2,lv2⟩,h1,⟨rfl,rfl,rfl,hn,jc,hL,hy1,hy2⟩,⟨ei,eG,eR⟩,⟨hd2,hrd.b,hrd.r,hrd.rl,hrd.lR⟩,⟨ok,by rw[eG,eS];exact hg2,by rw[eS];exact hs2,by rw[eR];exact hr,ht,by rw[eG];exact hl.1,by rw[eS];exact hl.2.1,by rw[eR];exact hl.2.2⟩,hh.k.trans hk2 (λ_ e=>.inl e),λq e=>?_,λq e=>?_⟩
 ·rcases e with e|e|e
  ·exact(d2 q e).imp .inl (λh=>h)
  ·exact .inl (.inr (.inl e))
  ·rcases hlv q e with e|e
   ·exact .inl (.inr (.inr e))
   ·exact .inr (Nat.le_trans hh.k.size e)
 ·rcases e with e|e|e|e
  ·exact .inl (.inl (e.trans eG))
  ·exact .inl (.inr (.inl (e.trans eS)))
  ·exact .inl (.inr (.inr (.inl (e.trans eR))))
  ·rcases hf q e with e5|e5
   ·exact .inl (.inr (.inr (.inr e5)))
   ·refine .inr ⟨Nat.le_trans hh.k.size e5,?_⟩;obtain⟨us,Ty,hB,e6⟩:=ht.blk e
    rintro(e7|rfl|e7)
    ·exact nT hd2 hB e6 e7
    ·rcases e6 with rfl|rfl|rfl<;>exact xe hB hrd.b (by decide)
    ·obtain⟨vs,hv⟩:=Cq hrd.r e7;rcases e6 with rfl|rfl|rfl<;>exact xe hB hv (by decide)
end
theorem jd0 {S R:Nat}{en:Int}{ov:Bool}{k b x t l:Int}{sec rnd pub:ByteArray}{bat:Int}{key id:ByteArray}{nx bd:Int}{tr:Value}{w:World}(q:Int)(m:Int)(m0 m1 m2 tot m4 m5:Int)(hZ:∀V:World,Calls prog 83 #[.agg #[int i64 k,int i64 b,int i64 x,int i64 t,int i64 l]] V λe w'=>e=.returned (.agg #[int i64 m0,int i64 m1,int i64 m2,int i64 tot,int i64 m4,int i64 m5])/\Below V.heap.size V w')(hS:ma w S (Oc R en ov k b x t l sec rnd pub bat key id nx bd q tr) 302)(Md:Int)(hD:R<w.heap.size)(h4:w.cell? ⟨R,4,none⟩=some (int i64 Md))(hO:Gh ov en Md=true):Calls prog 153 #[pointer (some ⟨S,0,none⟩),int i64 m] w λe w'=>e=.returned (.tuple #[int i64 0,int i64 9])/\Below w.heap.size w w':=by
 have HD:=aa hD;have H4:=aa h4;have HO:=aa hO;clear hD h4 hO;have c3:=Xa hS;have c4:=Ya hS;have c5:=Ee hS;have c6:=jf hS;have c7:=Ch hS;have HS:=aa hS;have HZ:=aa hZ;clear hS hZ;go_enter func153,ntmps153;go_wp2_with fail;refine(HZ.out _).mono ?_
 rintro e w1 ⟨rfl,hb1⟩
 obtain⟨Z,Pd⟩:=Ca (w1.heap.size);obtain⟨W1,hW1⟩:=Ca (w1.alloc (.cells #[int i64 m0,int i64 m1,int i64 m2,int i64 tot,int i64 m4,int i64 m5] 158));have HB1:=aa (show Below w.heap.size w W1 by rw[<-hW1];exact hb1.alloc hb1.size _);have Ze:=aa (show ma W1 Z (#[int i64 m0,int i64 m1,int i64 m2,int i64 tot,int i64 m4,int i64 m5]).toList 158 by rw[<-hW1,<-Pd];exact ma.new w1 _ _);have ic:=aa (HS.out.on HB1.out);clear c3 c4 c5 c6 c7 hb1;go_upto_region 2 with fail
 (try rw[hW1])
 (try rw[Pd])
 clear hW1 Pd;have qb:=aa (Dq ic.out ((HB1.out.cell (p:=⟨R,4,none⟩) HD.out).trans H4.out));rw[HO.out]at qb;go_wp2_with fail;refine qb.out.mono ?_
 rintro e w2 ⟨rfl,hb2⟩
 have HB2:=aa (HB1.out.trans (hb2.mono HB1.out.size));have HS2:=aa (ic.out.on hb2);have y3:=Xa ((Ze.out.on hb2));clear hb2 qb;clear y3;go_wp2;go_ret2;exact⟨rfl,HB2.out⟩
theorem id0 {S R:Nat}{en:Int}{ov:Bool}{k b x t l:Int}{sec rnd pub:ByteArray}{bat:Int}{key id:ByteArray}{nx bd:Int}{tr:Value}{w:World}(q:Int)(m:Int)(m0 m1 m2 tot m4 m5:Int)(hZ:∀V:World,Calls prog 83 #[.agg #[int i64 k,int i64 b,int i64 x,int i64 t,int i64 l]] V λe w'=>e=.returned (.agg #[int i64 m0,int i64 m1,int i64 m2,int i64 tot,int i64 m4,int i64 m5])/\Below V.heap.size V w')(hS:ma w S (Oc R en ov k b x t l sec rnd pub bat key id nx bd q tr) 302)(Md:Int)(hD:R<w.heap.size)(h4:w.cell? ⟨R,4,none⟩=some (int i64 Md))(hO:Gh ov en Md=false)(hm:m<1\/64<m):Calls prog 153 #[pointer (some ⟨S,0,none⟩),int i64 m] w λe w'=>e=.returned (.tuple #[int i64 0,int i64 2])/\Below w.heap.size w w':=by
 have HD:=aa hD;have H4:=aa h4;have HO:=aa hO;clear hD h4 hO;have c3:=Xa hS;have c4:=Ya hS;have c5:=Ee hS;have c6:=jf hS;have c7:=Ch hS;have HS:=aa hS;have HZ:=aa hZ;clear hS hZ;go_enter func153,ntmps153;go_wp2_with fail;refine(HZ.out _).mono ?_
 rintro e w1 ⟨rfl,hb1⟩
 obtain⟨Z,Pd⟩:=Ca (w1.heap.size);obtain⟨W1,hW1⟩:=Ca (w1.alloc (.cells #[int i64 m0,int i64 m1,int i64 m2,int i64 tot,int i64 m4,int i64 m5] 158));have HB1:=aa (show Below w.heap.size w W1 by rw[<-hW1];exact hb1.alloc hb1.size _);have Ze:=aa (show ma W1 Z (#[int i64 m0,int i64 m1,int i64 m2,int i64 tot,int i64 m4,int i64 m5]).toList 158 by rw[<-hW1,<-Pd];exact ma.new w1 _ _);have ic:=aa (HS.out.on HB1.out);clear c3 c4 c5 c6 c7 hb1;go_upto_region 2 with fail
 (try rw[hW1])
 (try rw[Pd])
 clear hW1 Pd;have qb:=aa (Dq ic.out ((HB1.out.cell (p:=⟨R,4,none⟩) HD.out).trans H4.out));rw[HO.out]at qb;go_wp2_with fail;refine qb.out.mono ?_
 rintro e w2 ⟨rfl,hb2⟩
 have HB2:=aa (HB1.out.trans (hb2.mono HB1.out.size));have HS2:=aa (ic.out.on hb2);have y3:=Xa ((Ze.out.on hb2));clear hb2 qb;clear y3;by_cases h1:m<1
 ·have d1:decide (m<1)=true:=decide_eq_true h1;clear h1 hm;go_wp2;go_ret2;exact⟨rfl,HB2.out⟩
 ·have d1:decide (m<1)=false:=decide_eq_false h1;have d2:decide (64<m)=true:=decide_eq_true (hm.resolve_left h1);clear h1 hm;go_wp2;go_ret2;exact⟨rfl,HB2.out⟩
theorem kd0 {S R:Nat}{en:Int}{ov:Bool}{k b x t l:Int}{sec rnd pub:ByteArray}{bat:Int}{key id:ByteArray}{nx bd:Int}{tr:Value}{w:World}(q:Int)(m:Int)(m0 m1 m2 tot m4 m5:Int)(hZ:∀V:World,Calls prog 83 #[.agg #[int i64 k,int i64 b,int i64 x,int i64 t,int i64 l]] V λe w'=>e=.returned (.agg #[int i64 m0,int i64 m1,int i64 m2,int i64 tot,int i64 m4,int i64 m5])/\Below V.heap.size V w')(hS:ma w S (Oc R en ov k b x t l sec rnd pub bat key id nx bd q tr) 302)(Md:Int)(hD:R<w.heap.size)(h4:w.cell? ⟨R,4,none⟩=some (int i64 Md))(hO:Gh ov en Md=false)(h1:1<=m)(h2:m<=64)(hs:tot<=bd\/2147483647<=q):Calls prog 153 #[pointer (some ⟨S,0,none⟩),int i64 m] w λe w'=>e=.returned (.tuple #[int i64 0,int i64 10])/\Below w.heap.size w w':=by
 have d1:decide (m<1)=false:=decide_eq_false (by omega);have d2:decide (64<m)=false:=decide_eq_false (by omega);clear h1 h2;have HD:=aa hD;have H4:=aa h4;have HO:=aa hO;clear hD h4 hO;have c3:=Xa hS;have c4:=Ya hS;have c5:=Ee hS;have c6:=jf hS;have c7:=Ch hS;have HS:=aa hS;have HZ:=aa hZ;clear hS hZ;go_enter func153,ntmps153;go_wp2_with fail;refine(HZ.out _).mono ?_
 rintro e w1 ⟨rfl,hb1⟩
 obtain⟨Z,Pd⟩:=Ca (w1.heap.size);obtain⟨W1,hW1⟩:=Ca (w1.alloc (.cells #[int i64 m0,int i64 m1,int i64 m2,int i64 tot,int i64 m4,int i64 m5] 158));have HB1:=aa (show Below w.heap.size w W1 by rw[<-hW1];exact hb1.alloc hb1.size _);have Ze:=aa (show ma W1 Z (#[int i64 m0,int i64 m1,int i64 m2,int i64 tot,int i64 m4,int i64 m5]).toList 158 by rw[<-hW1,<-Pd];exact ma.new w1 _ _);have ic:=aa (HS.out.on HB1.out);clear c3 c4 c5 c6 c7 hb1;go_upto_region 2 with fail
 (try rw[hW1])
 (try rw[Pd])
 clear hW1 Pd;have qb:=aa (Dq ic.out ((HB1.out.cell (p:=⟨R,4,none⟩) HD.out).trans H4.out));rw[HO.out]at qb;go_wp2_with fail;refine qb.out.mono ?_
 rintro e w2 ⟨rfl,hb2⟩
 have HB2:=aa (HB1.out.trans (hb2.mono HB1.out.size));have HS2:=aa (ic.out.on hb2);have y3:=Xa ((Ze.out.on hb2));clear hb2 qb;have c15:=pg HS2.out;have c16:=ag HS2.out;by_cases h1:tot<=bd
 ·have d3:decide (tot<=bd)=true:=decide_eq_true h1;clear h1 hs;go_wp2_with fail;go_quiet (fail);go_wp2;go_ret2;exact⟨rfl,⟨HB2.out.os,HB2.out.tape,HB2.out.output,HB2.out.size,HB2.out.block⟩⟩
 ·have d3:decide (tot<=bd)=false:=decide_eq_false h1;have d4:decide (2147483647<=q)=true:=decide_eq_true (hs.resolve_left h1);clear h1 hs;go_wp2_with fail;go_quiet (fail);go_wp2;go_ret2;exact⟨rfl,⟨HB2.out.os,HB2.out.tape,HB2.out.output,HB2.out.size,HB2.out.block⟩⟩
theorem NS {S R:Nat}{en:Int}{ov:Bool}{k b x t l:Int}{sec rnd pub:ByteArray}{bat:Int}{key id:ByteArray}{nx bd:Int}{tr:Value}{w:World}(q:Int)(m c nb a:Int)(ha:c=0/\a=nb\/c≠0/\a=0)(Q:World->Prop)(m0 m1 m2 tot m4 m5:Int)(hZ:∀V:World,Calls prog 83 #[.agg #[int i64 k,int i64 b,int i64 x,int i64 t,int i64 l]] V λe w'=>e=.returned (.agg #[int i64 m0,int i64 m1,int i64 m2,int i64 tot,int i64 m4,int i64 m5])/\Below V.heap.size V w')(hS:ma w S (Oc R en ov k b x t l sec rnd pub bat key id nx bd q tr) 302)(Md:Int)(hD:R<w.heap.size)(h4:w.cell? ⟨R,4,none⟩=some (int i64 Md))(hO:Gh ov en Md=false)(h1:1<=m)(h2:m<=64)(hs:bd<tot)(hq:q<2147483647)
  (Ri:∀V:World,Below w.heap.size w V->Calls prog 229 #[pointer (some ⟨S,0,none⟩),int i64 m] V λe w'=>e=.returned (int i64 c)/\Q w'/\(c=0->w'.cell? ⟨S,15,none⟩=some (int i64 nb))):Calls prog 153 #[pointer (some ⟨S,0,none⟩),int i64 m] w λe w'=>e=.returned (.tuple #[int i64 a,int i64 c])/\Q w':=by
 have d1:decide (m<1)=false:=decide_eq_false (by omega);have d2:decide (64<m)=false:=decide_eq_false (by omega);have d3:decide (tot<=bd)=false:=decide_eq_false (by omega);have d4:decide (2147483647<=q)=false:=decide_eq_false (by omega);have Ai:=aa Ri;clear h1 h2 hs hq Ri;have HD:=aa hD;have H4:=aa h4;have HO:=aa hO;clear hD h4 hO;have c3:=Xa hS;have c4:=Ya hS;have c5:=Ee hS;have c6:=jf hS;have c7:=Ch hS;have HS:=aa hS;have HZ:=aa hZ;clear hS hZ;go_enter func153,ntmps153;go_wp2_with fail;refine(HZ.out _).mono ?_
 rintro e w1 ⟨rfl,hb1⟩
 obtain⟨Z,Pd⟩:=Ca (w1.heap.size);obtain⟨W1,hW1⟩:=Ca (w1.alloc (.cells #[int i64 m0,int i64 m1,int i64 m2,int i64 tot,int i64 m4,int i64 m5] 158));have HB1:=aa (show Below w.heap.size w W1 by rw[<-hW1];exact hb1.alloc hb1.size _);have Ze:=aa (show ma W1 Z (#[int i64 m0,int i64 m1,int i64 m2,int i64 tot,int i64 m4,int i64 m5]).toList 158 by rw[<-hW1,<-Pd];exact ma.new w1 _ _);have ic:=aa (HS.out.on HB1.out);clear c3 c4 c5 c6 c7 hb1;go_upto_region 2 with fail
 (try rw[hW1])
 (try rw[Pd])
 clear hW1 Pd;have qb:=aa (Dq ic.out ((HB1.out.cell (p:=⟨R,4,none⟩) HD.out).trans H4.out));rw[HO.out]at qb;go_wp2_with fail;refine qb.out.mono ?_
 rintro e w2 ⟨rfl,hb2⟩
 have HB2:=aa (HB1.out.trans (hb2.mono HB1.out.size));have HS2:=aa (ic.out.on hb2);have y3:=Xa ((Ze.out.on hb2));clear hb2 qb;have c15:=pg HS2.out;have c16:=ag HS2.out;rcases ha with⟨rfl,rfl⟩|⟨hc,rfl⟩
 ·go_wp2_with fail;go_quiet (fail);go_wp2_with fail;refine(Ai.out (World.drewN w2 _) ⟨HB2.out.os,HB2.out.tape,HB2.out.output,HB2.out.size,HB2.out.block⟩).mono ?_
  rintro e w5 ⟨rfl,hQ,h15⟩
  have s15:=h15 (by trivial);have HQ:=aa hQ;clear hQ h15;go_wp2_with fail;go_ret2;exact⟨rfl,HQ.out⟩
 ·have e1:(c==0)=false:=by simpa using hc
  have e2:(c !=0)=true:=by simpa using hc
  clear hc;go_wp2_with fail;go_quiet (fail);go_wp2_with fail;refine(Ai.out (World.drewN w2 _) ⟨HB2.out.os,HB2.out.tape,HB2.out.output,HB2.out.size,HB2.out.block⟩).mono ?_
  rintro e w5 ⟨rfl,hQ,_⟩
  have HQ:=aa hQ;clear hQ;go_wp2_with fail;go_ret2;exact⟨rfl,HQ.out⟩
theorem Fe0 (lo S D:Nat)(st:Da)(F:Nat->Prop)(tm k b x t l:Int)(root pub sec rnd:ByteArray)(tot bat nx q bd:Int)(id:ByteArray)(m c:Int)(s2:Da)(hc:c≠0)(w:World)(hB:ma w S (Zb D tm k b x t l root pub sec rnd tot bat nx q bd id false) 188)(hD:Fb lo D st w F)(_hSF:¬F S)(jc:st.term=tm)(h1:1<=m)(h2:m<=64)(hsp:bd≠tot)(hq:q≠2147483647)
  (Ri:∀V:World,Below w.heap.size w V->Calls prog 116 #[pointer (some ⟨S,0,none⟩),int i64 m] V λe w'=>e=.returned (int i64 c)/\ng lo S D s2 (Zb D tm k b x t l root pub sec rnd tot bat nx q bd id true) F V w'):Calls prog 72 #[pointer (some ⟨S,0,none⟩),int i64 m] w λe w'=>e=.returned (.tuple #[int i64 0,int i64 c])/\ng lo S D s2 (Zb D tm k b x t l root pub sec rnd tot bat nx q bd id true) F w w':=by
 have ze:=hB.lt;have qb:=aa (Ko S D tm w ze hD.ltD (hB.cell 0) (hB.cell 1) (hB.cell 18) (by rw[<-jc];exact hD.term));have Ki:=aa (λV:World=>zw m V h1 h2);have e1:(bd==tot)=false:=by simpa using hsp
 have e2:(q==2147483647)=false:=by simpa using hq
 have Ai:=aa Ri;have e8:(c==0)=false:=by simpa using hc
 have e9:(c !=0)=true:=by simpa using hc
 have HS:=aa (λ(V:World) (h:Below w.heap.size w V)=>(have q1:=hB.on h;Uw (Bh q1) (pg q1) (ag q1)));clear hB hD _hSF jc h1 h2 hsp hq Ri hc;go_enter func72,ntmps72;go_wp2_with fail;refine qb.out.mono ?_
 rintro e w1 ⟨rfl,hb1⟩
 have HB1:=aa hb1;clear hb1;go_wp2_with fail;refine(Ki.out _).mono ?_
 rintro e w2 ⟨rfl,hb2⟩
 have HB2:=aa (Ga HB1.out hb2 Aa);clear hb2;go_wp2_with fail;refine wp_region_held_drew (S:=λV=>V.cell? ⟨S,12,none⟩=some (int i64 tot)/\V.cell? ⟨S,15,none⟩=some (int i64 q)/\V.cell? ⟨S,16,none⟩=some (int i64 bd)) (by kernel_rfl) (HS.out _ (HB2.out.drew)) (λja=>?_);refine tk 0 ja ?_;refine tk 1 ja ?_;refine tk 2 ja ?_;refine tk 3 ja ?_;refine tk 4 ja ?_;refine tk 5 ja ?_;refine tk 6 ja ?_;refine tk 7 ja ?_;refine tk 8 ja ?_;refine tk 9 ja ?_;refine tk 10 ja ?_;refine tk 11 ja ?_;refine tk 12 ja ?_;refine tk 13 ja ?_;refine tk 14 ja ?_;refine tk 15 ja ?_;refine tk 16 ja ?_;refine tk 17 ja ?_;refine wpAnyH_done (by kernel_rfl) ?_ _;have HB3:=aa HB2.out.drew;go_wp2_with fail;refine(Ai.out _ HB3.out).mono ?_
 rintro e w4 ⟨rfl,hl⟩
 have HL:=aa (hl.of_below HB3.out);clear hl;go_wp2;go_ret2;exact⟨rfl,HL.out⟩
theorem Ke0 (lo S D:Nat)(st:Da)(F:Nat->Prop)(tm k b x t l:Int)(root pub sec rnd:ByteArray)(tot bat nx q bd:Int)(id:ByteArray)(msg:ByteArray)(c:Int)(s2:Da)(hc:c≠0)(w:World)(hB:ma w S (Zb D tm k b x t l root pub sec rnd tot bat nx q bd id false) 188)(hD:Fb lo D st w F)(_hSF:¬F S)(jc:st.term=tm)(hsp:nx≠tot)(hnb:nx=bd)(hq:q≠2147483647)(hm:msg.size<=200)
  (Ri:∀V:World,Below w.heap.size w V->Calls prog 116 #[pointer (some ⟨S,0,none⟩),int i64 bat] V λe w'=>e=.returned (int i64 c)/\ng lo S D s2 (Zb D tm k b x t l root pub sec rnd tot bat nx q bd id true) F V w'):Calls prog 99 #[pointer (some ⟨S,0,none⟩),string msg] w λe w'=>e=.returned (.tuple #[string ⟨#[]⟩,int i64 c])/\ng lo S D s2 (Zb D tm k b x t l root pub sec rnd tot bat nx q bd id true) F w w':=by
 have ze:=hB.lt;have qb:=aa (Ko S D tm w ze hD.ltD (hB.cell 0) (hB.cell 1) (hB.cell 18) (by rw[<-jc];exact hD.term));have e1:(nx==tot)=false:=by simpa using hsp
 have e2:(nx==bd)=true:=by simpa using hnb
 have e3:(q==2147483647)=false:=by simpa using hq
 have hm2:(msg.size:Int)<=200:=by omega
 have HS:=aa (λ(V:World) (h:Below w.heap.size w V)=>(have q1:=hB.on h;Vw (Bh q1) (Aj q1) (pg q1) (ag q1)));have Ai:=aa Ri;have e8:(c==0)=false:=by simpa using hc
 have e9:(c !=0)=true:=by simpa using hc
 have Sk:=aa hB;clear hB hD _hSF jc hm hsp hnb ze Ri hq hc;go_enter func99,ntmps99;go_wp2_with fail;refine qb.out.mono ?_
 rintro e w1 ⟨rfl,hb1⟩
 have HB1:=aa hb1;clear hb1;go_wp2_with fail;refine wp_region_held_drew (S:=λV=>V.cell? ⟨S,12,none⟩=some (int i64 tot)/\V.cell? ⟨S,14,none⟩=some (int i64 nx)/\V.cell? ⟨S,15,none⟩=some (int i64 q)/\V.cell? ⟨S,16,none⟩=some (int i64 bd)) (by kernel_rfl) (HS.out _ (HB1.out.drew)) (λja=>?_);refine tk 0 ja ?_;refine tk 1 ja ?_;refine tk 2 ja ?_;refine tk 3 ja ?_;refine tk 4 ja ?_;refine tk 5 ja ?_;refine tk 6 ja ?_;refine tk 7 ja ?_;refine tk 8 ja ?_;refine tk 9 ja ?_;refine tk 10 ja ?_;refine wpAnyH_done (by kernel_rfl) ?_ _;go_wp2_with fail;refine wp_region_held_drew (S:=λV=>V.cell? ⟨S,12,none⟩=some (int i64 tot)/\V.cell? ⟨S,14,none⟩=some (int i64 nx)/\V.cell? ⟨S,15,none⟩=some (int i64 q)/\V.cell? ⟨S,16,none⟩=some (int i64 bd)) (by kernel_rfl) (HS.out _ (HB1.out.drew.drew)) (λja=>?_);refine tk 0 ja ?_;refine tk 1 ja ?_;refine tk 2 ja ?_;refine tk 3 ja ?_;refine tk 4 ja ?_;refine tk 5 ja ?_;refine tk 6 ja ?_;refine tk 7 ja ?_;refine tk 8 ja ?_;refine tk 9 ja ?_;refine tk 10 ja ?_;refine tk 11 ja ?_;refine tk 12 ja ?_;refine tk 13 ja ?_;refine tk 14 ja ?_;refine tk 15 ja ?_;refine tk 16 ja ?_;refine tk 17 ja ?_;refine tk 18 ja ?_;refine tk 19 ja ?_;refine wpAnyH_done (by kernel_rfl) ?_ _;have HB2:=aa HB1.out.drew.drew;have c13:w1.drew.drew.cell? ⟨S,13,none⟩=some (int i64 bat):=(Sk.out.on HB2.out).cell 13;clear HS HB1;generalize w1.drew.drew=w2 at HB2 c13⊢;go_wp2_with fail;refine(Ai.out _ HB2.out).mono ?_
 rintro e w4 ⟨rfl,hl⟩
 have Li:=aa (hl.of_below HB2.out);clear hl c13;go_wp2;go_ret2;exact⟨rfl,Li.out⟩
end Go.Proofs.YtgaoeoijdpdjiabGreatDoor
