import Derived.Test.YtgaoeoijdpdjiabGreatDoorPart31
import Derived.Test.YtgaoeoijdpdjiabGreatDoorPart32
open Go.Value (int string pointer slice)
open Go.IntKind (i64)
open Go.Proofs.Tryz
set_option maxRecDepth 20000
set_option maxHeartbeats 8000000
namespace Go.Proofs.YtgaoeoijdpdjiabGreatDoor
open Go.RowKit
def Rk (b0 b1 b2 wv dv hv:Value):List Value:=[b0,b1,b2,wv,dv,hv]
def RF (p:Nat×Nat):List Value:=[pointer (some ⟨p.1,0,none⟩),pointer (some ⟨p.2,0,none⟩)]
def yl (P:List (Nat×Nat)):List Value:=P.flatMap RF
theorem Zy {P:List (Nat×Nat)}{j:Nat}{p:Nat×Nat}(h:P[j]?=some p)(i:Nat)(hi:i<2):(yl P)[j*2+i]?=(RF p)[i]?:=Iu RF 2 P j p i (λ_ _=>rfl) h hi
theorem VR (P:List (Nat×Nat))(p:Nat×Nat):yl (P++[p])=yl P++[pointer (some ⟨p.1,0,none⟩),pointer (some ⟨p.2,0,none⟩)]:=by simp[yl,RF]
theorem Y4:(prog.info? 152).map (λi=>(i.zero,i.size,i.bytes))=some (some (.agg #[pointer none,pointer none]),2,16):=by kernel_rfl
theorem zO {ev:Operand->Value}{x:Operand}{d:Option Nat}{ty:TypeId}{ps:String}{af:Array Edge}{g:Option (Nat×Bool)}{b o:Nat}{C:List Value}{V:World}(hx:ev x=pointer (some ⟨b,o,none⟩))(h:Zh V b o 21=some C):(execOp ev {dst:=d,op:=.load 93 x,type:=ty,pos:=ps,after:=af,guard:=g}).run prog V=.ok (.value (.agg C.toArray)) V:=by
 obtain⟨hl,hr⟩:=uI 21 C V b o h;have hv:=run_loadVar_mid (P:=prog) V b o 93 C _ hr underlying93 rfl (by rw[hl];exact PK);unfold execOp;simp only[hx,Instr.loadAt,Instr.sureAddr,Sem.run_bind,Sem.run_pure,Result.andThen_ok,hv]
theorem oI {w:World}{b:Nat}{C:List Value}{T:TypeId}(h:ma w b C T):Zh w b 0 C.length=some C:=Po C C.length w b 0 rfl (λi u hu=>by rw[Nat.zero_add];exact(h.cell i).trans hu)
theorem wK (c n:Int)(w:World)(h1:1<=n)(h2:n<=9223372036854775807)(hc: -9223372036854775808<=c)(hc2:c<=9223372036854775807):Calls prog 76 #[int i64 c,int i64 n] w λe w'=>e=.returned (int i64 (Qt c n))/\w'=w:=by
 by_cases h:c<0
 ·go_enter func76,ntmps76;go_wp2;go_ret;refine⟨congrArg (λq=>Ending.returned (int i64 q)) ?_,rfl⟩;unfold Qt;rw[if_pos h,<-Int.neg_tmod,Int.tmod_eq_emod_of_nonneg (by omega)]
 ·go_enter func76,ntmps76;go_wp2;go_ret;refine⟨congrArg (λq=>Ending.returned (int i64 q)) ?_,rfl⟩;unfold Qt;rw[if_neg (by omega)]
theorem Y7 (Wb:Nat)(wv dv hv:Value)(w:World)(hB:ma w Wb (Rk (slice none 0 0) (slice none 0 0) (slice none 0 0) wv dv hv) 89):Calls prog 13 #[pointer (some ⟨Wb,0,none⟩)] w λe w'=>e=.returned (.bool true)/\w'=w:=by
 have k0:=Fa hB;have k1:=Ja hB;have k2:=Ha hB;clear hB;go_enter func13,ntmps13;go_wp2_with fail;go_rounds 1;go_rounds 1;go_rounds 1;go_wp2;go_ret;exact⟨rfl,rfl⟩
theorem NY (Wb:Nat)(n:Int)(w:World)(h:n<1\/8<n):Calls prog 77 #[pointer (some ⟨Wb,0,none⟩),int i64 n] w λe w'=>e=.returned (.bool true)/\w'=w:=by
 have HX:=aa (we0 n w h);have HR:=aa (xc0 n w h);clear h;go_enter func77,ntmps77;go_wp2_with fail;refine HX.out.mono ?_
 rintro e w1 ⟨rfl,hw1⟩
 subst w1;go_wp2_with fail;refine HR.out.mono ?_
 rintro e w1 ⟨rfl,hw1⟩
 subst w1;go_wp2_with fail;refine(Jr 2 _).mono ?_
 rintro e w1 ⟨rfl,hw1⟩
 subst w1;go_wp2;go_ret;exact⟨rfl,rfl⟩
theorem OY (lo Wb:Nat)(n:Nat)(b0 b1 b2 wv hv:Value)(da:Option Addr)(m dc:Nat)(P:List (Nat×Nat))(w:World)(h1:1<=n)(h2:n<=8)(hB:ma w Wb (Rk b0 b1 b2 wv (slice da m dc) hv) 89)(hr:w.ownsRow lo 152 2 (slice da m dc) m (yl P))(hm:m<=2199023255552)(hlo:lo<=w.heap.size):Calls prog 77 #[pointer (some ⟨Wb,0,none⟩),int i64 n] w λe w'=>e=.returned (.bool true)/\∃X D R F g c V,Below w.heap.size w V/\Rf lo X D (Ij n) V F/\(∀k,F k->w.heap.size<=k)/\ma V R (Af n (slice none 0 0) 0 0 0) 293/\w.heap.size<=R/\¬F R/\ma w' Wb (Rk b0 b1 b2 wv (slice (some ⟨g,0,none⟩) (m+1) c) hv) 89/\w'.ownsRow lo 152 2 (slice (some ⟨g,0,none⟩) (m+1) c) (m+1) (yl (P++[(X,R)]))/\za (λq=>q=Wb\/(slice da m dc).ownBlock=some q) V w'/\((slice da m dc).ownBlock=some g\/V.heap.size<=g):=by
 obtain⟨i0,hi0,hz0,hz1,hz2⟩:=MJ Y4;have HX:=aa (ve0 n w lo h1 h2 hlo);have HR:=aa (λV=>yc0 (n:Int) V (by omega) (by omega));have Pm:=aa (Km hr hB (by decide));have N1:Hid (m+1<=maxLen):=by show _<=_;unfold maxLen;omega
 have N2:Hid ((m+1)*16<=140737488355328):=by show _<=_;omega
 have yh:=aa hlo;have HB0:=aa hB;have Tc:=aa hr;clear hB hr hm hlo h1 h2;go_enter func77,ntmps77;go_wp2_with fail;refine HX.out.mono ?_
 rintro e w1 ⟨X,D,F,rfl,hs1,hf1,hb1⟩
 have ic:=aa hs1;have Cs:=aa hf1;have nk:=aa hb1;clear hs1 hf1 hb1;go_wp2_with fail;refine(HR.out _).mono ?_
 rintro e w2 ⟨rfl,hq,hb2⟩
 have HQ:=aa hq;have HS2:=aa (ic.out.below hb2);have HB2:=aa (nk.out.trans (hb2.mono nk.out.size));have HZ1:=aa (nk.out.size);obtain⟨Rr,hRr⟩:=Ca (w1.heap.size);rw[hRr]at HQ;have qm:=aa hRr;clear hq hb2;have HW2:=aa (HB0.out.on HB2.out);have Lc:=aa (xc Tc.out (za.of_below (F:=λ_=>False) HB2.out) (λ_ _ e=>e));go_wp2_with fail;refine(Jr 0 _).mono ?_
 rintro e w3 ⟨rfl,hw3⟩
 subst w3;clear hRr;have Ku:=HW2.out.lt;have c4:=Ya HW2.out;have rX:∀o,(w2.alloc o).cell? ⟨Wb,4,none⟩=some (slice da m dc):=λo=>(World.cell?_alloc_lt _ _ _ Ku).trans c4;clear Ku;go_wp2_with (at_builtin;refine wpList_append_lies _ rfl _ _ 86 rfl lo 152 i0 (.agg #[pointer none,pointer none]) 2 16 underlying86 hi0 hz0 hz1 hz2 rfl (by decide) (slice da m dc) m (yl P) rfl (Lc.out.alloc _) ⟨w2.heap.size,0,none⟩ 1 1 [pointer (some ⟨X,0,none⟩),pointer (some ⟨Rr,0,none⟩)] rfl rfl (World.news_of_block (heap_alloc_new w2 _)) (λu hu=>by simp at hu;rcases hu with rfl|rfl<;>rfl) (by decide) N1.out N2.out (by rw[World.size_alloc];exact Nat.le_succ_of_le (Nat.le_trans yh.out HB2.out.size)) (w2.heap.size+1) (World.size_alloc _ _) ?_);intro g c2 w5 hown hgrow hat xJ;have nR:(slice da m dc).ownBlock≠some Wb:=Pm.out
 have gR:g≠Wb:=by
  rcases hat with e|e
  ·intro e2;subst e2;exact nR e
  ·have:=HW2.out.lt;omega
 have Tu:=hgrow.block Wb (by rw[World.size_alloc];exact Nat.lt_succ_of_lt HW2.out.lt) (λe=>nR e.symm)
 have Qi:ma w5 Wb (Rk b0 b1 b2 wv (slice da m dc) hv) 89:=by
  unfold ma;rw[Tu];exact(HW2.out.alloc _:ma (w2.alloc _) Wb _ _)
 have f4:w5.frozen? ⟨Wb,4,none⟩=false:=Qi.free 4;have e5:=Ya Qi;have Qe:=aa (Qi.set 4 (slice (some ⟨g,0,none⟩) (m+1) c2))
 have Qm:=aa (xc hown (Jc w5 ⟨Wb,4,none⟩ (slice (some ⟨g,0,none⟩) (m+1) c2)) (λq e hk=>by
  have e':g=q:=by simpa[Value.ownBlock]using e
  exact gR (e'.trans hk)))
 have Gl:=aa (show za (λq=>q=Wb\/(slice da m dc).ownBlock=some q) w2 (w5.setCell ⟨Wb,4,none⟩ (slice (some ⟨g,0,none⟩) (m+1) c2))from
  (za.grown (w:=w2.alloc _) ((za.refl _ _).alloc _) hgrow (λq e=>.inl (.inr e))).setCell (.inl (.inl rfl)) _)
 have HAT:=aa (show(slice da m dc).ownBlock=some g\/w2.heap.size<=g by
  rcases hat with e|e
  ·exact .inl e
  ·exact .inr (by omega))
 clear hown hgrow hat xJ Tu Qi gR nR c4 rX;go_wp2;go_ret;refine⟨rfl,X,D,Rr,F,g,c2,w2,HB2.out,HS2.out,Cs.out,HQ.out,?_,?_,Qe.out,?_,Gl.out,HAT.out⟩
 ·rw[<-qm.out];exact HZ1.out
 ·intro hf;have:=(ic.out.lt _ hf).2;have:=qm.out;omega
 ·rw[VR];exact Qm.out
theorem Z7 (Wb:Nat)(on a b:Int)(s t u:ByteArray)(l1:Option Addr)(l2 l3:Nat)(ka:Option Addr)(kn kc:Nat)(c0 c1 c2 c3 c4:Int)(d0 d1 d2:ByteArray)(p0 p1 p2 p3:Int)(b0 b1 b2 wv dv hv:Value)(Q:World->Prop)(w:World)(_hB:ma w Wb (Rk b0 b1 b2 wv dv hv) 89)
  (hD:∀V,Below w.heap.size w V->Calls prog 77 #[pointer (some ⟨Wb,0,none⟩),int i64 a] V λe w'=>e=.returned (.bool true)/\Q w'):Calls prog 34 #[pointer (some ⟨Wb,0,none⟩),.agg #[int i64 30,int i64 on,int i64 a,int i64 b,string s,string t,string u,slice l1 l2 l3,slice ka kn kc,int i64 c0,int i64 c1,int i64 c2,int i64 c3,int i64 c4,string d0,string d1,string d2,int i64 p0,int i64 p1,int i64 p2,int i64 p3]] w λe w'=>e=.returned (.bool true)/\Q w':=by
 obtain⟨W0,hW⟩:=Ca (w.alloc (.cells #[int i64 30,int i64 on,int i64 a,int i64 b,string s,string t,string u,slice l1 l2 l3,slice ka kn kc,int i64 c0,int i64 c1,int i64 c2,int i64 c3,int i64 c4,string d0,string d1,string d2,int i64 p0,int i64 p1,int i64 p2,int i64 p3] 93));have HB:=Xd hW;have Nb:=Ph hW;have Ea:=aa hW;have HD:=aa (hD _ HB.out);have yf:=Fa Nb.out;have mh:=Ha Nb.out;clear hW _hB hD;go_enter func34,ntmps34;go_wp2_with fail;rw[Ea.out];refine HD.out.mono ?_
 rintro e w1 ⟨rfl,hq⟩
 have HQ:=aa hq;clear hq yf mh;go_wp2;go_ret;exact⟨rfl,HQ.out⟩
theorem KQ (Wb:Nat)(kd on a b:Int)(s t u:ByteArray)(l1:Option Addr)(l2 l3:Nat)(ka:Option Addr)(kn kc:Nat)(c0 c1 c2 c3 c4:Int)(d0 d1 d2:ByteArray)(p0 p1 p2 p3:Int)(b0 b1 b2 wv hv:Value)(da:Option Addr)(dc:Nat)(w:World)(hB:ma w Wb (Rk b0 b1 b2 wv (slice da 0 dc) hv) 89)(h1:30<kd)(h2:kd<40):Calls prog 34 #[pointer (some ⟨Wb,0,none⟩),.agg #[int i64 kd,int i64 on,int i64 a,int i64 b,string s,string t,string u,slice l1 l2 l3,slice ka kn kc,int i64 c0,int i64 c1,int i64 c2,int i64 c3,int i64 c4,string d0,string d1,string d2,int i64 p0,int i64 p1,int i64 p2,int i64 p3]] w λe w'=>e=.returned (.bool true)/\Below w.heap.size w w':=by
 obtain⟨W0,hW⟩:=Ca (w.alloc (.cells #[int i64 kd,int i64 on,int i64 a,int i64 b,string s,string t,string u,slice l1 l2 l3,slice ka kn kc,int i64 c0,int i64 c1,int i64 c2,int i64 c3,int i64 c4,string d0,string d1,string d2,int i64 p0,int i64 p1,int i64 p2,int i64 p3] 93));have HB:=Xd hW;have Nb:=Ph hW;have Ea:=aa hW;have HW0:=aa (hB.on HB.out);have yf:=Fa Nb.out;have fq:=hB.lt;have hB4:=Ya hB;have kL:∀o,(w.alloc o).cell? ⟨Wb,4,none⟩=some (slice da 0 dc):=λo=>(World.cell?_alloc_lt _ _ _ fq).trans hB4;have e1:¬kd<20:=by omega
 have e2:(kd==20)=false:=by
  have:kd≠20:=by omega
  simpa using this
 have e3:¬kd<30:=by omega
 have e4:(kd==30)=false:=by
  have:kd≠30:=by omega
  simpa using this
 have e5:(kd==40)=false:=by
  have:kd≠40:=by omega
  simpa using this
 have e6:(kd==41)=false:=by
  have:kd≠41:=by omega
  simpa using this
 have e7:¬41<kd:=by omega
 have q1:decide (kd<20)=false:=decide_eq_false e1;have q3:decide (kd<30)=false:=decide_eq_false e3;have q7:decide (41<kd)=false:=decide_eq_false e7;have q8:decide (30<kd)=true:=decide_eq_true h1;have q9:decide (kd<40)=true:=decide_eq_true h2;clear hW hB e1 e3 e7 h1 h2 fq hB4 yf;go_enter func34,ntmps34;go_wp2_with fail;try rw[Ea.out]
 try go_wp2
 go_ret;exact⟨rfl,by first|exact HB.out|(rw[Ea.out];exact HB.out)⟩
theorem LQ (lo Wb:Nat)(kd on a b:Int)(s t u:ByteArray)(l1:Option Addr)(l2 l3:Nat)(ka:Option Addr)(kn kc:Nat)(c0 c1 c2 c3 c4:Int)(d0 d1 d2:ByteArray)(p0 p1 p2 p3:Int)(b0 b1 b2 wv hv:Value)(g m dc i X Rr:Nat)(P:List (Nat×Nat))(Z:Nat->Prop)(Q:World->Prop)(w:World)(hZ:∀q,Z q->q<w.heap.size/\q≠Wb/\q≠g)(hB:ma w Wb (Rk b0 b1 b2 wv (slice (some ⟨g,0,none⟩) m dc) hv) 89)(hr:w.ownsRow lo 152 2 (slice (some ⟨g,0,none⟩) m dc) m (yl P))(hm:m<=2199023255552)(h1:30<kd)(h2:kd<40)(ho1: -9223372036854775808<=on)(ho2:on<=9223372036854775807)(hi:Qt on m=i)(him:i<m)(hp:P[i]?=some (X,Rr))(_hcap:m<=dc)
  (hT:∀V,Below w.heap.size w V->Calls prog 78 #[.agg #[pointer (some ⟨X,0,none⟩),pointer (some ⟨Rr,0,none⟩)],.agg #[int i64 kd,int i64 on,int i64 a,int i64 b,string s,string t,string u,slice l1 l2 l3,slice ka kn kc,int i64 c0,int i64 c1,int i64 c2,int i64 c3,int i64 c4,string d0,string d1,string d2,int i64 p0,int i64 p1,int i64 p2,int i64 p3]] V λe w'=>e=.returned (.bool true)/\za Z V w'/\Q w'):Calls prog 34 #[pointer (some ⟨Wb,0,none⟩),.agg #[int i64 kd,int i64 on,int i64 a,int i64 b,string s,string t,string u,slice l1 l2 l3,slice ka kn kc,int i64 c0,int i64 c1,int i64 c2,int i64 c3,int i64 c4,string d0,string d1,string d2,int i64 p0,int i64 p1,int i64 p2,int i64 p3]] w λe w'=>e=.returned (.bool true)/\Q w':=by
 obtain⟨W0,hW⟩:=Ca (w.alloc (.cells #[int i64 kd,int i64 on,int i64 a,int i64 b,string s,string t,string u,slice l1 l2 l3,slice ka kn kc,int i64 c0,int i64 c1,int i64 c2,int i64 c3,int i64 c4,string d0,string d1,string d2,int i64 p0,int i64 p1,int i64 p2,int i64 p3] 93));have HB:=Xd hW;have Nb:=Ph hW;have Ea:=aa hW;have HW0:=aa (hB.on HB.out);have Tc:=aa (xc hr (za.of_below (F:=λ_=>False) HB.out) (λ_ _ e=>e));have lu:=aa (λV:World=>wK on m V (by omega) (by omega) ho1 ho2);rw[hi]at lu
 have y0:W0.cell? ⟨g,i*2,none⟩=some (pointer (some ⟨X,0,none⟩)):=by
  rw[Tc.out.cellAt (i*2) (by omega)];exact Zy hp 0 (by decide)
 have y1:W0.cell? ⟨g,i*2+1,none⟩=some (pointer (some ⟨Rr,0,none⟩)):=by
  rw[Tc.out.cellAt (i*2+1) (by omega)];exact Zy hp 1 (by decide)
 have HS:=aa (λ(V:World) (h:∀q,q=Wb\/q=g\/q=w.heap.size->V.heap[q]?=W0.heap[q]?)=>(by
  have hc:∀p:Addr,(p.block=Wb\/p.block=g\/p.block=w.heap.size)->V.cell? p=W0.cell? p:=λp hp=>World.cell?_of_block (w:=W0) (h p.block hp);exact⟨(hc _ (.inl rfl)).trans (HW0.out.cell 4),(hc _ (.inr (.inl rfl))).trans y0,(hc _ (.inr (.inl rfl))).trans y1,(hc _ (.inr (.inr rfl))).trans (Nb.out.cell 1),oI (w:=V) (T:=93) (by unfold ma;rw[h _ (.inr (.inr rfl))];exact Nb.out)⟩:V.cell? ⟨Wb,4,none⟩=some (slice (some ⟨g,0,none⟩) m dc)/\V.cell? ⟨g,i*2,none⟩=some (pointer (some ⟨X,0,none⟩))/\V.cell? ⟨g,i*2+1,none⟩=some (pointer (some ⟨Rr,0,none⟩))/\V.cell? ⟨w.heap.size,1,none⟩=some (int i64 on)/\Zh V w.heap.size 0 21=some [int i64 kd,int i64 on,int i64 a,int i64 b,string s,string t,string u,slice l1 l2 l3,slice ka kn kc,int i64 c0,int i64 c1,int i64 c2,int i64 c3,int i64 c4,string d0,string d1,string d2,int i64 p0,int i64 p1,int i64 p2,int i64 p3]))
 have HT:=aa hT
 have HZ:=aa (show∀(V V2:World),V.heap=W0.heap->za Z V V2->∀q,q=Wb\/q=g\/q=w.heap.size->V2.heap[q]?=W0.heap[q]?fromλV V2 hV hk q hq=>by
  have hgl:g<W0.heap.size:=(Tc.out.lt g rfl).2;have hwl:=HW0.out.lt;have hol:=Nb.out.lt;rw[<-hV]at hgl hwl hol⊢;refine hk.block q (by rcases hq with rfl|rfl|rfl<;>assumption) (λhz=>?_);obtain⟨z1,z2,z3⟩:=hZ q hz;rcases hq with rfl|rfl|rfl
  ·exact z2 rfl
  ·exact z3 rfl
  ·omega)
 have yf:=Fa Nb.out;have fq:=hB.lt;have hB4:=Ya hB;have kL:∀o,(w.alloc o).cell? ⟨Wb,4,none⟩=some (slice (some ⟨g,0,none⟩) m dc):=λo=>(World.cell?_alloc_lt _ _ _ fq).trans hB4;have e1:¬kd<20:=by omega
 have e2:(kd==20)=false:=by
  have:kd≠20:=by omega
  simpa using this
 have e3:¬kd<30:=by omega
 have e4:(kd==30)=false:=by
  have:kd≠30:=by omega
  simpa using this
 have q1:decide (kd<20)=false:=decide_eq_false e1;have q3:decide (kd<30)=false:=decide_eq_false e3;have q8:decide (30<kd)=true:=decide_eq_true h1;have q9:decide (kd<40)=true:=decide_eq_true h2;have dm:decide ((0:Int)<(m:Int))=true:=decide_eq_true (by omega);have vO:(0:Int)<(m:Int):=by omega
 have uO:(i:Int)<(m:Int):=by omega
 have qO:0<=(i:Int):=by omega
 clear hZ hW hB hr hT e1 e3 hi hp ho1 ho2 y0 y1 fq hB4 yf;go_enter func34,ntmps34;go_wp2_with fail;rw[Ea.out];refine wp_region_held_drew (S:=λV=>V.cell? ⟨Wb,4,none⟩=some (slice (some ⟨g,0,none⟩) m dc)/\V.cell? ⟨g,i*2,none⟩=some (pointer (some ⟨X,0,none⟩))/\V.cell? ⟨g,i*2+1,none⟩=some (pointer (some ⟨Rr,0,none⟩))/\V.cell? ⟨w.heap.size,1,none⟩=some (int i64 on)/\Zh V w.heap.size 0 21=some [int i64 kd,int i64 on,int i64 a,int i64 b,string s,string t,string u,slice l1 l2 l3,slice ka kn kc,int i64 c0,int i64 c1,int i64 c2,int i64 c3,int i64 c4,string d0,string d1,string d2,int i64 p0,int i64 p1,int i64 p2,int i64 p3]) (by kernel_rfl) (HS.out _ (λ_ _=>rfl)) (λja=>?_);refine tk 0 ja ?_;refine tk 1 ja ?_;refine tk 2 ja ?_;refine tk 3 ja ?_;refine tk 4 ja ?_;refine tk 5 ja ?_;refine tk 6 ja ?_;refine tk 7 ja ?_;refine tk 8 ja ?_;refine tk 9 ja ?_;refine tk 10 ja ?_;refine tk 14 ja (hy:=λV AB=>zO rfl AB.2.2.2.2) (h:=?_);refine wpAnyH_ready (rs:=[11]) (by kernel_rfl) (by simp) ?_;refine AllReadyH.cons (o:=?ot11) ?hot11 (λK hK=>?hst11) AllReadyH.nil
 case hot11=>(simp only[jb,Na,Oa];rfl)
 go_simp;go_at_call 76;refine(lu.out _).mono ?_
 rintro e w1 ⟨rfl,hw1⟩
 subst w1;try go_wp2_with fail
 refine hK.out _ _ (HS.out _ (λ_ _=>rfl)) (λja=>?_);clear hK K;try simp only[Act.put,Bb,Ka,Ma]
 refine tk 12 ja ?_;refine tk 13 ja ?_;refine wpAnyH_ready (rs:=[15]) (by kernel_rfl) (by simp) ?_;refine AllReadyH.cons (o:=?ot15) ?hot15 (λK hK=>?hst15) AllReadyH.nil
 case hot15=>(simp only[jb,Na,Oa];rfl)
 go_simp;go_at_call 78;refine(HT.out W0.drew HB.out.drew).mono ?_
 rintro e w2 ⟨rfl,hk2,hq2⟩
 have Sc:=aa hq2;have HZ2:=aa (HZ.out W0.drew w2 rfl hk2);clear hk2 hq2;try go_wp2_with fail
 refine hK.out _ _ (HS.out _ (HZ2.out)) (λja=>?_);clear hK K;try simp only[Act.put,Bb,Ka,Ma]
 refine tk 16 ja ?_;refine wpAnyH_done (by kernel_rfl) ?_ _;clear HS ja;go_wp2;go_ret;exact⟨rfl,Sc.out⟩
def zl (x:Option Nat):Option Addr:=x.map λb=>⟨b,0,none⟩
theorem X4:(prog.info? 156).map (λi=>(i.zero,i.size,i.bytes))=some (some (.agg #[pointer none,pointer none]),2,16):=by kernel_rfl
def rW (w:World)(on b:Int)(da:Option Addr)(m:Nat)(xv rv:Option Addr):Prop:=((m=0\/b=1)/\xv=none/\rv=none)\/(b≠1/\0<m/\∃g i:Nat,da=some ⟨g,0,none⟩/\Qt on m=i/\i<m/\g<w.heap.size/\w.cell? ⟨g,i*2,none⟩=some (pointer xv)/\w.cell? ⟨g,i*2+1,none⟩=some (pointer rv))
theorem jT (lo Wb:Nat)(kd on a b:Int)(s t u:ByteArray)(l1:Option Addr)(l2 l3:Nat)(ka:Option Addr)(kn kc:Nat)(c0 c1 c2 c3 c4:Int)(d0 d1 d2:ByteArray)(p0 p1 p2 p3:Int)(b0 b1 b2 wv:Value)(da:Option Addr)(m dc:Nat)(ha:Option Addr)(n hc:Nat)(xv rv:Option Addr)(H:List (Nat×Nat))(Z:Nat->Prop)(Q1:Option Nat->Int->World->Prop)(Q2:Option Nat->Option Nat->World->Prop)(w:World)(hk:kd=40\/kd=41)(hB:ma w Wb (Rk b0 b1 b2 wv (slice da m dc) (slice ha n hc)) 89)(hr:w.ownsRow lo 156 2 (slice ha n hc) n (yl H))(hn:n<=2199023255552)(hm:m<=2199023255552)(hcap:m<=dc)(hlo:lo<=w.heap.size)(hP:rW w on b da m xv rv)(ho1: -9223372036854775808<=on)(ho2:on<=9223372036854775807)(hZ:∀q,Z q->q<w.heap.size/\q≠Wb/\(slice ha n hc).ownBlock≠some q)
  (hX:∀V,Below w.heap.size w V->Calls prog (if kd=40 then 23 else 55) #[pointer xv,.agg #[int i64 c0,int i64 c1,int i64 c2,int i64 c3,int i64 c4],.agg #[string d0,string d1,string d2],int i64 a] V λe w'=>∃x c,e=.returned (.tuple #[pointer (zl x),int i64 c])/\za Z V w'/\Q1 x c w')
  (hR:∀x c V,Q1 x c V->Calls prog (if kd=40 then 149 else 150) #[pointer rv,.agg #[int i64 c0,int i64 c1,int i64 c2,int i64 c3,int i64 c4],.agg #[string d0,string d1,string d2],int i64 a] V λe w'=>∃r,e=.returned (.tuple #[pointer (zl r),int i64 c])/\(x.isSome=r.isSome)/\za Z V w'/\Q2 x r w'):Calls prog 79 #[pointer (some ⟨Wb,0,none⟩),.agg #[int i64 kd,int i64 on,int i64 a,int i64 b,string s,string t,string u,slice l1 l2 l3,slice ka kn kc,int i64 c0,int i64 c1,int i64 c2,int i64 c3,int i64 c4,string d0,string d1,string d2,int i64 p0,int i64 p1,int i64 p2,int i64 p3]] w λe w'=>e=.returned (.bool true)/\(Q2 none none w'\/∃X R g c V,Q2 (some X) (some R) V/\ma w' Wb (Rk b0 b1 b2 wv (slice da m dc) (slice (some ⟨g,0,none⟩) (n+1) c)) 89/\w'.ownsRow lo 156 2 (slice (some ⟨g,0,none⟩) (n+1) c) (n+1) (yl (H++[(X,R)]))/\za (λq=>q=Wb\/(slice ha n hc).ownBlock=some q) V w'/\((slice ha n hc).ownBlock=some g\/V.heap.size<=g)):=by
 obtain⟨i0,hi0,hz0,hz1,hz2⟩:=MJ X4;obtain⟨B,ME⟩:=Ca (w.heap.size);obtain⟨W0,hW⟩:=Ca ((w.alloc (.cells #[int i64 kd,int i64 on,int i64 a,int i64 b,string s,string t,string u,slice l1 l2 l3,slice ka kn kc,int i64 c0,int i64 c1,int i64 c2,int i64 c3,int i64 c4,string d0,string d1,string d2,int i64 p0,int i64 p1,int i64 p2,int i64 p3] 93)).alloc (.cells #[pointer none,pointer none] 152));have HB:=Gc hW;have Nb:=aa (show ma W0 B [int i64 kd,int i64 on,int i64 a,int i64 b,string s,string t,string u,slice l1 l2 l3,slice ka kn kc,int i64 c0,int i64 c1,int i64 c2,int i64 c3,int i64 c4,string d0,string d1,string d2,int i64 p0,int i64 p1,int i64 p2,int i64 p3] 93 by rw[<-hW,<-ME];exact(ma.new w _ _).alloc _)
 have Df:=aa (show ma W0 (B+1) [pointer none,pointer none] 152 by
  rw[<-hW,<-ME];have h:=ma.new (w.alloc (.cells #[int i64 kd,int i64 on,int i64 a,int i64 b,string s,string t,string u,slice l1 l2 l3,slice ka kn kc,int i64 c0,int i64 c1,int i64 c2,int i64 c3,int i64 c4,string d0,string d1,string d2,int i64 p0,int i64 p1,int i64 p2,int i64 p3] 93)) [pointer none,pointer none] 152;simp only[World.size_alloc]at h;exact h)
 have BA:=aa hB;have HRW:=aa hr;have Pm:=aa (Km hr hB (by decide));have N1:Hid (n+1<=maxLen):=by show _<=_;unfold maxLen;omega
 have N2:Hid ((n+1)*16<=140737488355328):=by show _<=_;omega
 have yh:=aa hlo;have HX:=aa hX;have HR:=aa hR;have HZ:=aa hZ;have HCAP:=aa hcap;have lu:=aa (λ(V:World) (h0:0<m)=>wK on m V (by omega) (by omega) ho1 ho2);have Jl:=aa hP;have Ea:=aa hW;have Rc:=aa ME;have HK:=aa hk;clear hX hR hZ hB hr hn hm hlo hP ho1 ho2 hW ME hcap hk;go_enter func79,ntmps79;go_upto_region 2 with fail;rw[Ea.out,Rc.out];clear Ea;have HW0:=aa (BA.out.on HB.out);have w4:=Ya HW0.out;have T9:=Xa Nb.out;go_cut [20]from 10 to 19 (λx20 wx=>x20=.bool (decide (0<m)&& !(b==1))/\wx=W0)
 case first=>
  by_cases h0:0<m
  ·have d0:decide ((0:Int)<(m:Int))=true:=decide_eq_true (by omega);have d1:(0:Int)<(m:Int):=by omega
   have d2:decide (0<m)=true:=decide_eq_true h0;go_wp2_with fail;go_meet;exact⟨by rw[d2,Bool.true_and];rfl,rfl⟩
  ·have d0:decide ((0:Int)<(m:Int))=false:=decide_eq_false (by omega);have d1:¬(0:Int)<(m:Int):=by omega
   have d2:decide (0<m)=false:=decide_eq_false h0;go_wp2_with fail;go_meet;exact⟨by rw[d2];rfl,rfl⟩
 case rest=>
 obtain⟨rfl,hwc⟩:=hcut;rw[hwc];clear T9 w4 hwc wc;go_upto_if 20 with fail;go_cut [20]from 21 to 34 (λ_ wx=>Hid (ma wx (B+1) [pointer xv,pointer rv] 152/\ma wx B [int i64 kd,int i64 on,int i64 a,int i64 b,string s,string t,string u,slice l1 l2 l3,slice ka kn kc,int i64 c0,int i64 c1,int i64 c2,int i64 c3,int i64 c4,string d0,string d1,string d2,int i64 p0,int i64 p1,int i64 p2,int i64 p3] 93/\Below w.heap.size w wx))
 case first=>
  rcases Jl.out with⟨hn,rfl,rfl⟩|⟨hb,hm0,g,i,rfl,hi,him,hgl,y0,y1⟩
  ·have hf:(decide (0<m)&& !(b==1))=false:=by
    rcases hn with h|h
    ·subst h;rfl
    ·subst h;simp
   rw[hf];clear hn hf;go_wp2_with fail;go_meet;exact⟨Df.out,Nb.out,HB.out⟩
  ·have hf:(decide (0<m)&& !(b==1))=true:=by
    rw[decide_eq_true hm0];simpa using hb
   rw[hf];have xM:=aa (λV:World=>lu.out V hm0);rw[hi]at xM;have Yi:=aa (λ(V:World) (h1:ma V Wb (Rk b0 b1 b2 wv (slice (some ⟨g,0,none⟩) m dc) (slice ha n hc)) 89) (h2:∀o,V.cell? ⟨g,o,none⟩=w.cell? ⟨g,o,none⟩) (h3:V.cell? ⟨B,1,none⟩=some (int i64 on))=>(⟨h1.cell 4,(h2 _).trans y0,(h2 _).trans y1,h3⟩:V.cell? ⟨Wb,4,none⟩=some (slice (some ⟨g,0,none⟩) m dc)/\V.cell? ⟨g,i*2,none⟩=some (pointer xv)/\V.cell? ⟨g,i*2+1,none⟩=some (pointer rv)/\V.cell? ⟨B,1,none⟩=some (int i64 on)));have VG:=aa (λ(V:World) (hb:Below w.heap.size w V) (o:Nat)=>hb.cell (p:=⟨g,o,none⟩) hgl);have Fs:=aa (show g≠B+1 by have:=Rc.out;omega);have uO:(i:Int)<(m:Int):=by omega
   have qO:0<=(i:Int):=by omega
   have vO:(0:Int)<(m:Int):=by omega
   clear hb hf y0 y1 hgl hi Jl;go_upto_region 3 with fail;refine wp_region_held_drew (S:=λV=>V.cell? ⟨Wb,4,none⟩=some (slice (some ⟨g,0,none⟩) m dc)/\V.cell? ⟨g,i*2,none⟩=some (pointer xv)/\V.cell? ⟨g,i*2+1,none⟩=some (pointer rv)/\V.cell? ⟨B,1,none⟩=some (int i64 on)) (by kernel_rfl) (Yi.out _ (HW0.out.on (Below.refl W0.heap.size W0).drew) (VG.out _ (HB.out.trans ((Below.refl W0.heap.size W0).drew.mono HB.out.size))) (Nb.out.cell 1)) (λja=>?_);have HD0:=aa ((Below.refl W0.heap.size W0).drew);have HB1:=aa (HB.out.trans (HD0.out.mono HB.out.size));generalize World.drew W0=V1 at HD0 HB1 ja⊢;refine tk 0 ja ?_;refine tk 1 ja ?_;refine tk 2 ja ?_;refine tk 3 ja ?_;refine tk 4 ja ?_;refine tk 5 ja ?_;refine tk 6 ja ?_;refine tk 7 ja ?_;refine tk 8 ja ?_;refine tk 9 ja ?_;refine tk 10 ja ?_;refine wpAnyH_ready (rs:=[11]) (by kernel_rfl) (by simp) ?_;refine(AllReadyH.cons (o:=?ot) ?hot (λK hK=>?hst) AllReadyH.nil)
   case hot=>(simp only[jb,Na,Oa];rfl)
   go_simp;go_at_call 76;refine(xM.out _).mono ?_
   rintro e wq ⟨rfl,hwq⟩
   obtain rfl:=hwq.symm;clear hwq;try go_wp2_with fail
   refine hK.out _ _ (Yi.out _ (HW0.out.on HD0.out) (VG.out _ HB1.out) ((Nb.out.on HD0.out).cell 1)) (λja=>?_);clear hK K;try simp only[Act.put,Bb,Ka,Ma]
   refine tk 12 ja ?_;refine tk 13 ja ?_;have Jd:=aa (Df.out.on HD0.out);have r0:=Fa Jd.out;have r1:=Ja Jd.out;have f0:=Jd.out.free 0;have f1:=Jd.out.free 1;have Uq:=aa (show Wb≠B+1 by have h1:=BA.out.lt;have h2:=Rc.out;omega);have HB2:=aa ((HB1.out.setCell (p:=⟨B+1,0,none⟩) (show w.heap.size<=B+1 by have:=Rc.out;omega) (pointer xv)).setCell (p:=⟨B+1,1,none⟩) (show w.heap.size<=B+1 by have:=Rc.out;omega) (pointer rv));refine wpAnyH_ready (rs:=[14]) (by kernel_rfl) (by simp) ?_;refine(AllReadyH.cons (o:=?ou) ?hou (λK hK=>?hsu) AllReadyH.nil)
   case hou=>(simp only[jb,Na,Oa];rfl)
   go_simp;refine hK.out _ _ (Yi.out _ (((HW0.out.on HD0.out).other _ Uq.out).other _ Uq.out) (VG.out _ HB2.out) ((((Nb.out.on HD0.out).other _ (show B≠B+1 by omega)).other _ (show B≠B+1 by omega)).cell 1)) (λja=>?_);clear hK K;try simp only[Act.put,Bb,Ka,Ma]
   refine wpAnyH_done (by kernel_rfl) ?_ _;clear ja r0 r1 f0 f1;go_wp2_with fail;go_meet;exact⟨(Jd.out.set 0 _).set 1 _,((Nb.out.on HD0.out).other _ (show B≠B+1 by omega)).other _ (show B≠B+1 by omega),HB2.out⟩
 case rest=>
 have HC:=hcut;generalize wc=W1 at HC⊢;clear hcut lu Jl Df Nb HW0 HB;have yf:=Fa HC.out.2.1;go_upto_if 37 with fail;go_cut [6,7,8,9,37]from 38 to 85 (λx6 x7 x8 x9 _ wx=>∃(x r:Option Nat) (c:Int),x6=pointer (zl x)/\x7=pointer (zl r)/\x8=int i64 c/\x9=int i64 c/\x.isSome=r.isSome/\Hid (Q2 x r wx/\za Z W1 wx))
 case first=>
  clear yf;rcases HK.out with hk|hk
  ·have e1:(kd==40)=true:=by rw[hk];rfl
   rw[if_pos hk]at HX HR;clear hk;have Uh:=Fa HC.out.1;have mh:=Ha HC.out.2.1;have qx:=dn HC.out.2.1;have Ww:=qo HC.out.2.1;have oc11:=Zm HC.out.2.1;have oc12:=Bh HC.out.2.1;have Xw:=Dt HC.out.2.1;have Yw:=Aj HC.out.2.1;have Zw:=pg HC.out.2.1;have ax:=ag HC.out.2.1;go_wp2_with fail;refine(HX.out _ HC.out.2.2).mono ?_
   rintro e w2 ⟨x,c,rfl,hk2,hq2⟩
   have Ef:=aa hq2;have Gd:=aa hk2;have Vk:=aa (Mc HC.out.1 hk2 (λe=>by have h1:=(HZ.out _ e).1;have h2:=Rc.out;omega));have Lc:=aa (Mc HC.out.2.1 hk2 (λe=>by have h1:=(HZ.out _ e).1;have h2:=Rc.out;omega));clear mh qx Ww oc11 oc12 Xw Yw Zw ax hk2 hq2 Uh;have Vh:=Ja Vk.out;have mh:=Ha Lc.out;have qx:=dn Lc.out;have Ww:=qo Lc.out;have oc11:=Zm Lc.out;have oc12:=Bh Lc.out;have Xw:=Dt Lc.out;have Yw:=Aj Lc.out;have Zw:=pg Lc.out;have ax:=ag Lc.out;go_wp2_with fail;refine(HR.out _ _ _ Ef.out).mono ?_
   rintro e w3 ⟨r,rfl,Wu,hk3,hq3⟩
   have fA:=aa (And.intro hq3 (Gd.out.trans hk3 (λ_ e=>.inl e)));clear mh qx Ww oc11 oc12 Xw Yw Zw ax hk3 hq3 Vh;go_wp2_with fail;go_meet;exact⟨x,r,c,rfl,rfl,rfl,rfl,Wu,fA.out⟩
  ·have e1:(kd==40)=false:=by rw[hk];rfl
   rw[if_neg (by rw[hk];decide)]at HX HR;clear hk;have Uh:=Fa HC.out.1;have mh:=Ha HC.out.2.1;have qx:=dn HC.out.2.1;have Ww:=qo HC.out.2.1;have oc11:=Zm HC.out.2.1;have oc12:=Bh HC.out.2.1;have Xw:=Dt HC.out.2.1;have Yw:=Aj HC.out.2.1;have Zw:=pg HC.out.2.1;have ax:=ag HC.out.2.1;go_wp2_with fail;refine(HX.out _ HC.out.2.2).mono ?_
   rintro e w2 ⟨x,c,rfl,hk2,hq2⟩
   have Ef:=aa hq2;have Gd:=aa hk2;have Vk:=aa (Mc HC.out.1 hk2 (λe=>by have h1:=(HZ.out _ e).1;have h2:=Rc.out;omega));have Lc:=aa (Mc HC.out.2.1 hk2 (λe=>by have h1:=(HZ.out _ e).1;have h2:=Rc.out;omega));clear mh qx Ww oc11 oc12 Xw Yw Zw ax hk2 hq2 Uh;have Vh:=Ja Vk.out;have mh:=Ha Lc.out;have qx:=dn Lc.out;have Ww:=qo Lc.out;have oc11:=Zm Lc.out;have oc12:=Bh Lc.out;have Xw:=Dt Lc.out;have Yw:=Aj Lc.out;have Zw:=pg Lc.out;have ax:=ag Lc.out;go_wp2_with fail;refine(HR.out _ _ _ Ef.out).mono ?_
   rintro e w3 ⟨r,rfl,Wu,hk3,hq3⟩
   have fA:=aa (And.intro hq3 (Gd.out.trans hk3 (λ_ e=>.inl e)));clear mh qx Ww oc11 oc12 Xw Yw Zw ax hk3 hq3 Vh;go_wp2_with fail;go_meet;exact⟨x,r,c,rfl,rfl,rfl,rfl,Wu,fA.out⟩
 case rest=>
 obtain⟨x,r,c,rfl,rfl,rfl,rfl,Wu,HQ⟩:=hcut;generalize wc=W5 at HQ⊢;have ec:(c !=c)=false:=by simp
 have ec2:(c==c)=true:=by simp
 cases x with
 |none=>
  cases r with
  |some R=>simp at Wu
  |none=>
   clear Wu;unfold zl;simp only[Option.map_none];go_wp2_with fail;refine(Jr c _).mono ?_
   rintro e w6 ⟨rfl,U2⟩
   subst w6;go_wp2;go_ret;exact⟨rfl,.inl HQ.out.1⟩
 |some X=>
  cases r with
  |none=>simp at Wu
  |some R=>
   clear Wu;unfold zl;simp only[Option.map_some];have xu:=aa (Mc (BA.out.on HC.out.2.2) HQ.out.2 (λe=>(HZ.out _ e).2.1 rfl));have Yn:=aa (xc (xc HRW.out (za.of_below (F:=λ_=>False) HC.out.2.2) (λ_ _ e=>e)) HQ.out.2 (λq e e2=>(HZ.out q e2).2.2 e));have Uk:=aa (show lo<=W5.heap.size from Nat.le_trans yh.out (Nat.le_trans HC.out.2.2.size HQ.out.2.size));go_wp2_with fail;refine(Jr c _).mono ?_
   rintro e w6 ⟨rfl,U2⟩
   subst w6;have Ku:=xu.out.lt;have c5:=Ee xu.out;have tX:∀o,(W5.alloc o).cell? ⟨Wb,5,none⟩=some (slice ha n hc):=λo=>(World.cell?_alloc_lt _ _ _ Ku).trans c5;clear Ku;go_wp2_with (at_builtin;refine wpList_append_lies _ rfl _ _ 87 rfl lo 156 i0 (.agg #[pointer none,pointer none]) 2 16 underlying87 hi0 hz0 hz1 hz2 rfl (by decide) (slice ha n hc) n (yl H) rfl (Yn.out.alloc _) ⟨W5.heap.size,0,none⟩ 1 1 [pointer (some ⟨X,0,none⟩),pointer (some ⟨R,0,none⟩)] rfl rfl (World.news_of_block (heap_alloc_new W5 _)) (λu hu=>by simp at hu;rcases hu with rfl|rfl<;>rfl) (by decide) N1.out N2.out (by rw[World.size_alloc];exact Nat.le_succ_of_le Uk.out) (W5.heap.size+1) (World.size_alloc _ _) ?_);intro g c2 w7 hown hgrow hat XZ;have nR:(slice ha n hc).ownBlock≠some Wb:=Pm.out
   have gR:g≠Wb:=by
    rcases hat with e|e
    ·intro e2;subst e2;exact nR e
    ·have:=xu.out.lt;omega
   have Tu:=hgrow.block Wb (by rw[World.size_alloc];exact Nat.lt_succ_of_lt xu.out.lt) (λe=>nR e.symm)
   have KE:ma w7 Wb (Rk b0 b1 b2 wv (slice da m dc) (slice ha n hc)) 89:=by
    unfold ma;rw[Tu];exact(xu.out.alloc _:ma (W5.alloc _) Wb _ _)
   have f5:w7.frozen? ⟨Wb,5,none⟩=false:=KE.free 5;have e7:=Ee KE;have Qe:=aa (KE.set 5 (slice (some ⟨g,0,none⟩) (n+1) c2))
   have Qm:=aa (xc hown (Jc w7 ⟨Wb,5,none⟩ (slice (some ⟨g,0,none⟩) (n+1) c2)) (λq e hk=>by
    have e':g=q:=by simpa[Value.ownBlock]using e
    exact gR (e'.trans hk)))
   have Gl:=aa (show za (λq=>q=Wb\/(slice ha n hc).ownBlock=some q) W5 (w7.setCell ⟨Wb,5,none⟩ (slice (some ⟨g,0,none⟩) (n+1) c2))from
    (za.grown (w:=W5.alloc _) ((za.refl _ _).alloc _) hgrow (λq e=>.inl (.inr e))).setCell (.inl (.inl rfl)) _)
   have HAT:=aa (show(slice ha n hc).ownBlock=some g\/W5.heap.size<=g by
    rcases hat with e|e
    ·exact .inl e
    ·exact .inr (by omega))
   clear hown hgrow hat XZ Tu KE gR nR c5 tX;go_wp2;go_ret;exact⟨rfl,.inr ⟨X,R,g,c2,W5,HQ.out.1,Qe.out,by rw[VR];exact Qm.out,Gl.out,HAT.out⟩⟩
theorem l8 (lo Wb:Nat)(kd on a b:Int)(s t u:ByteArray)(l1:Option Addr)(l2 l3:Nat)(ka:Option Addr)(kn kc:Nat)(c0 c1 c2 c3 c4:Int)(d0 d1 d2:ByteArray)(p0 p1 p2 p3:Int)(b0 b1 b2 wv hv:Value)(g m dc i X Rr:Nat)(P:List (Nat×Nat))(Z:Nat->Prop)(Q:World->Prop)(w:World)(hZ:∀q,Z q->q<w.heap.size/\q≠Wb/\q≠g)(hB:ma w Wb (Rk b0 b1 b2 wv hv (slice (some ⟨g,0,none⟩) m dc)) 89)(hr:w.ownsRow lo 156 2 (slice (some ⟨g,0,none⟩) m dc) m (yl P))(hm:m<=2199023255552)(h1:41<kd)(ho1: -9223372036854775808<=on)(ho2:on<=9223372036854775807)(hi:Qt on m=i)(him:i<m)(hp:P[i]?=some (X,Rr))(_hcap:m<=dc)
  (hT:∀V,Below w.heap.size w V->Calls prog 80 #[.agg #[pointer (some ⟨X,0,none⟩),pointer (some ⟨Rr,0,none⟩)],.agg #[int i64 kd,int i64 on,int i64 a,int i64 b,string s,string t,string u,slice l1 l2 l3,slice ka kn kc,int i64 c0,int i64 c1,int i64 c2,int i64 c3,int i64 c4,string d0,string d1,string d2,int i64 p0,int i64 p1,int i64 p2,int i64 p3]] V λe w'=>e=.returned (.bool true)/\za Z V w'/\Q w'):Calls prog 34 #[pointer (some ⟨Wb,0,none⟩),.agg #[int i64 kd,int i64 on,int i64 a,int i64 b,string s,string t,string u,slice l1 l2 l3,slice ka kn kc,int i64 c0,int i64 c1,int i64 c2,int i64 c3,int i64 c4,string d0,string d1,string d2,int i64 p0,int i64 p1,int i64 p2,int i64 p3]] w λe w'=>e=.returned (.bool true)/\Q w':=by
 obtain⟨W0,hW⟩:=Ca (w.alloc (.cells #[int i64 kd,int i64 on,int i64 a,int i64 b,string s,string t,string u,slice l1 l2 l3,slice ka kn kc,int i64 c0,int i64 c1,int i64 c2,int i64 c3,int i64 c4,string d0,string d1,string d2,int i64 p0,int i64 p1,int i64 p2,int i64 p3] 93));have HB:=Xd hW;have Nb:=Ph hW;have Ea:=aa hW;have HW0:=aa (hB.on HB.out);have Tc:=aa (xc hr (za.of_below (F:=λ_=>False) HB.out) (λ_ _ e=>e));have lu:=aa (λV:World=>wK on m V (by omega) (by omega) ho1 ho2);rw[hi]at lu
 have y0:W0.cell? ⟨g,i*2,none⟩=some (pointer (some ⟨X,0,none⟩)):=by
  rw[Tc.out.cellAt (i*2) (by omega)];exact Zy hp 0 (by decide)
 have y1:W0.cell? ⟨g,i*2+1,none⟩=some (pointer (some ⟨Rr,0,none⟩)):=by
  rw[Tc.out.cellAt (i*2+1) (by omega)];exact Zy hp 1 (by decide)
 have HS:=aa (λ(V:World) (h:∀q,q=Wb\/q=g\/q=w.heap.size->V.heap[q]?=W0.heap[q]?)=>(by
  have hc:∀p:Addr,(p.block=Wb\/p.block=g\/p.block=w.heap.size)->V.cell? p=W0.cell? p:=λp hp=>World.cell?_of_block (w:=W0) (h p.block hp);exact⟨(hc _ (.inl rfl)).trans (HW0.out.cell 5),(hc _ (.inr (.inl rfl))).trans y0,(hc _ (.inr (.inl rfl))).trans y1,(hc _ (.inr (.inr rfl))).trans (Nb.out.cell 1),oI (w:=V) (T:=93) (by unfold ma;rw[h _ (.inr (.inr rfl))];exact Nb.out)⟩:V.cell? ⟨Wb,5,none⟩=some (slice (some ⟨g,0,none⟩) m dc)/\V.cell? ⟨g,i*2,none⟩=some (pointer (some ⟨X,0,none⟩))/\V.cell? ⟨g,i*2+1,none⟩=some (pointer (some ⟨Rr,0,none⟩))/\V.cell? ⟨w.heap.size,1,none⟩=some (int i64 on)/\Zh V w.heap.size 0 21=some [int i64 kd,int i64 on,int i64 a,int i64 b,string s,string t,string u,slice l1 l2 l3,slice ka kn kc,int i64 c0,int i64 c1,int i64 c2,int i64 c3,int i64 c4,string d0,string d1,string d2,int i64 p0,int i64 p1,int i64 p2,int i64 p3]))
 have HT:=aa hT
 have HZ:=aa (show∀(V V2:World),V.heap=W0.heap->za Z V V2->∀q,q=Wb\/q=g\/q=w.heap.size->V2.heap[q]?=W0.heap[q]?fromλV V2 hV hk q hq=>by
  have hgl:g<W0.heap.size:=(Tc.out.lt g rfl).2;have hwl:=HW0.out.lt;have hol:=Nb.out.lt;rw[<-hV]at hgl hwl hol⊢;refine hk.block q (by rcases hq with rfl|rfl|rfl<;>assumption) (λhz=>?_);obtain⟨z1,z2,z3⟩:=hZ q hz;rcases hq with rfl|rfl|rfl
  ·exact z2 rfl
  ·exact z3 rfl
  ·omega)
 have yf:=Fa Nb.out;have fq:=hB.lt;have hB4:=Ee hB;have kL:∀o,(w.alloc o).cell? ⟨Wb,5,none⟩=some (slice (some ⟨g,0,none⟩) m dc):=λo=>(World.cell?_alloc_lt _ _ _ fq).trans hB4;have e1:¬kd<20:=by omega
 have e2:(kd==20)=false:=by
  have:kd≠20:=by omega
  simpa using this
 have e3:¬kd<30:=by omega
 have e4:(kd==30)=false:=by
  have:kd≠30:=by omega
  simpa using this
 have q1:decide (kd<20)=false:=decide_eq_false e1;have q3:decide (kd<30)=false:=decide_eq_false e3
 have e5:(kd==40)=false:=by
  have:kd≠40:=by omega
  simpa using this
 have e6:(kd==41)=false:=by
  have:kd≠41:=by omega
  simpa using this
 have q7:decide (41<kd)=true:=decide_eq_true h1;have q8:decide (30<kd)=true:=decide_eq_true (by omega);have q9:decide (kd<40)=false:=decide_eq_false (by omega);have dm:decide ((0:Int)<(m:Int))=true:=decide_eq_true (by omega);have vO:(0:Int)<(m:Int):=by omega
 have uO:(i:Int)<(m:Int):=by omega
 have qO:0<=(i:Int):=by omega
 clear hZ hW hB hr hT e1 e3 hi hp ho1 ho2 y0 y1 fq hB4 yf;go_enter func34,ntmps34;go_wp2_with fail;rw[Ea.out];refine wp_region_held_drew (S:=λV=>V.cell? ⟨Wb,5,none⟩=some (slice (some ⟨g,0,none⟩) m dc)/\V.cell? ⟨g,i*2,none⟩=some (pointer (some ⟨X,0,none⟩))/\V.cell? ⟨g,i*2+1,none⟩=some (pointer (some ⟨Rr,0,none⟩))/\V.cell? ⟨w.heap.size,1,none⟩=some (int i64 on)/\Zh V w.heap.size 0 21=some [int i64 kd,int i64 on,int i64 a,int i64 b,string s,string t,string u,slice l1 l2 l3,slice ka kn kc,int i64 c0,int i64 c1,int i64 c2,int i64 c3,int i64 c4,string d0,string d1,string d2,int i64 p0,int i64 p1,int i64 p2,int i64 p3]) (by kernel_rfl) (HS.out _ (λ_ _=>rfl)) (λja=>?_);refine tk 0 ja ?_;refine tk 1 ja ?_;refine tk 2 ja ?_;refine tk 3 ja ?_;refine tk 4 ja ?_;refine tk 5 ja ?_;refine tk 6 ja ?_;refine tk 7 ja ?_;refine tk 8 ja ?_;refine tk 9 ja ?_;refine tk 10 ja ?_;refine tk 14 ja (hy:=λV AB=>zO rfl AB.2.2.2.2) (h:=?_);refine wpAnyH_ready (rs:=[11]) (by kernel_rfl) (by simp) ?_;refine AllReadyH.cons (o:=?ot11) ?hot11 (λK hK=>?hst11) AllReadyH.nil
 case hot11=>(simp only[jb,Na,Oa];rfl)
 go_simp;go_at_call 76;refine(lu.out _).mono ?_
 rintro e w1 ⟨rfl,hw1⟩
 subst w1;try go_wp2_with fail
 refine hK.out _ _ (HS.out _ (λ_ _=>rfl)) (λja=>?_);clear hK K;try simp only[Act.put,Bb,Ka,Ma]
 refine tk 12 ja ?_;refine tk 13 ja ?_;refine wpAnyH_ready (rs:=[15]) (by kernel_rfl) (by simp) ?_;refine AllReadyH.cons (o:=?ot15) ?hot15 (λK hK=>?hst15) AllReadyH.nil
 case hot15=>(simp only[jb,Na,Oa];rfl)
 go_simp;go_at_call 80;refine(HT.out W0.drew HB.out.drew).mono ?_
 rintro e w2 ⟨rfl,hk2,hq2⟩
 have Sc:=aa hq2;have HZ2:=aa (HZ.out W0.drew w2 rfl hk2);clear hk2 hq2;try go_wp2_with fail
 refine hK.out _ _ (HS.out _ (HZ2.out)) (λja=>?_);clear hK K;try simp only[Act.put,Bb,Ka,Ma]
 refine tk 16 ja ?_;refine wpAnyH_done (by kernel_rfl) ?_ _;clear HS ja;go_wp2;go_ret;exact⟨rfl,Sc.out⟩
theorem C8 (Wb:Nat)(kd on a b:Int)(s t u:ByteArray)(l1:Option Addr)(l2 l3:Nat)(ka:Option Addr)(kn kc:Nat)(c0 c1 c2 c3 c4:Int)(d0 d1 d2:ByteArray)(p0 p1 p2 p3:Int)(b0 b1 b2 wv hv:Value)(da:Option Addr)(dc:Nat)(w:World)(hB:ma w Wb (Rk b0 b1 b2 wv hv (slice da 0 dc)) 89)(h1:41<kd):Calls prog 34 #[pointer (some ⟨Wb,0,none⟩),.agg #[int i64 kd,int i64 on,int i64 a,int i64 b,string s,string t,string u,slice l1 l2 l3,slice ka kn kc,int i64 c0,int i64 c1,int i64 c2,int i64 c3,int i64 c4,string d0,string d1,string d2,int i64 p0,int i64 p1,int i64 p2,int i64 p3]] w λe w'=>e=.returned (.bool true)/\Below w.heap.size w w':=by
 obtain⟨W0,hW⟩:=Ca (w.alloc (.cells #[int i64 kd,int i64 on,int i64 a,int i64 b,string s,string t,string u,slice l1 l2 l3,slice ka kn kc,int i64 c0,int i64 c1,int i64 c2,int i64 c3,int i64 c4,string d0,string d1,string d2,int i64 p0,int i64 p1,int i64 p2,int i64 p3] 93));have HB:=Xd hW;have Nb:=Ph hW;have Ea:=aa hW;have HW0:=aa (hB.on HB.out);have yf:=Fa Nb.out;have fq:=hB.lt;have hB4:=Ee hB;have kL:∀o,(w.alloc o).cell? ⟨Wb,5,none⟩=some (slice da 0 dc):=λo=>(World.cell?_alloc_lt _ _ _ fq).trans hB4;have e1:¬kd<20:=by omega
 have e2:(kd==20)=false:=by
  have:kd≠20:=by omega
  simpa using this
 have e3:¬kd<30:=by omega
 have e4:(kd==30)=false:=by
  have:kd≠30:=by omega
  simpa using this
 have e5:(kd==40)=false:=by
  have:kd≠40:=by omega
  simpa using this
 have e6:(kd==41)=false:=by
  have:kd≠41:=by omega
  simpa using this
 have q1:decide (kd<20)=false:=decide_eq_false e1;have q3:decide (kd<30)=false:=decide_eq_false e3;have q7:decide (41<kd)=true:=decide_eq_true h1;have q8:decide (30<kd)=true:=decide_eq_true (by omega);have q9:decide (kd<40)=false:=decide_eq_false (by omega);clear hW hB e1 e3 h1 fq hB4 yf;go_enter func34,ntmps34;go_wp2_with fail;try rw[Ea.out]
 try go_wp2
 go_ret;exact⟨rfl,by first|exact HB.out|(rw[Ea.out];exact HB.out)⟩
section
attribute [local go_sem] Dv
attribute [local go_sem ↓] AU
theorem A8 (Wb:Nat)(kd on a b:Int)(hk:kd=40\/kd=41)(s t u:ByteArray)(l1:Option Addr)(l2 l3:Nat)(ka:Option Addr)(kn kc:Nat)(c0 c1 c2 c3 c4:Int)(d0 d1 d2:ByteArray)(p0 p1 p2 p3:Int)(b0 b1 b2 wv dv hv:Value)(Q:World->Prop)(w:World)(_hB:ma w Wb (Rk b0 b1 b2 wv dv hv) 89)
  (hD:∀V,Below w.heap.size w V->Calls prog 79 #[pointer (some ⟨Wb,0,none⟩),.agg #[int i64 kd,int i64 on,int i64 a,int i64 b,string s,string t,string u,slice l1 l2 l3,slice ka kn kc,int i64 c0,int i64 c1,int i64 c2,int i64 c3,int i64 c4,string d0,string d1,string d2,int i64 p0,int i64 p1,int i64 p2,int i64 p3]] V λe w'=>e=.returned (.bool true)/\Q w'):Calls prog 34 #[pointer (some ⟨Wb,0,none⟩),.agg #[int i64 kd,int i64 on,int i64 a,int i64 b,string s,string t,string u,slice l1 l2 l3,slice ka kn kc,int i64 c0,int i64 c1,int i64 c2,int i64 c3,int i64 c4,string d0,string d1,string d2,int i64 p0,int i64 p1,int i64 p2,int i64 p3]] w λe w'=>e=.returned (.bool true)/\Q w':=by
 obtain⟨W0,hW⟩:=Ca (w.alloc (.cells #[int i64 kd,int i64 on,int i64 a,int i64 b,string s,string t,string u,slice l1 l2 l3,slice ka kn kc,int i64 c0,int i64 c1,int i64 c2,int i64 c3,int i64 c4,string d0,string d1,string d2,int i64 p0,int i64 p1,int i64 p2,int i64 p3] 93));have HB:=Xd hW;have Nb:=Ph hW;have Ea:=aa hW;have HD:=aa (hD _ HB.out);have yf:=Fa Nb.out;have OP:Zh (w.alloc (.cells #[int i64 kd,int i64 on,int i64 a,int i64 b,string s,string t,string u,slice l1 l2 l3,slice ka kn kc,int i64 c0,int i64 c1,int i64 c2,int i64 c3,int i64 c4,string d0,string d1,string d2,int i64 p0,int i64 p1,int i64 p2,int i64 p3] 93)) w.heap.size 0 21=some [int i64 kd,int i64 on,int i64 a,int i64 b,string s,string t,string u,slice l1 l2 l3,slice ka kn kc,int i64 c0,int i64 c1,int i64 c2,int i64 c3,int i64 c4,string d0,string d1,string d2,int i64 p0,int i64 p1,int i64 p2,int i64 p3]:=oI (ma.new w [int i64 kd,int i64 on,int i64 a,int i64 b,string s,string t,string u,slice l1 l2 l3,slice ka kn kc,int i64 c0,int i64 c1,int i64 c2,int i64 c3,int i64 c4,string d0,string d1,string d2,int i64 p0,int i64 p1,int i64 p2,int i64 p3] 93);clear hW _hB hD
 have e1:(kd==20)=false:=by
  have:kd≠20:=by omega
  simpa using this
 have e2:(kd==30)=false:=by
  have:kd≠30:=by omega
  simpa using this
 have q1:decide (kd<20)=false:=decide_eq_false (by omega);have q3:decide (kd<30)=false:=decide_eq_false (by omega);have q8:decide (30<kd)=true:=decide_eq_true (by omega);have q9:decide (kd<40)=false:=decide_eq_false (by omega);rcases hk with hk|hk
 ·have e5:(kd==40)=true:=by rw[hk];rfl
  clear hk;go_enter func34,ntmps34;go_wp2_with fail;rw[Ea.out];refine HD.out.mono ?_
  rintro e w1 ⟨rfl,hq⟩
  have HQ:=aa hq;clear hq yf OP;go_wp2;go_ret;exact⟨rfl,HQ.out⟩
 ·have e5:(kd==40)=false:=by rw[hk];rfl
  have e6:(kd==41)=true:=by rw[hk];rfl
  clear hk;go_enter func34,ntmps34;go_wp2_with fail;rw[Ea.out];refine HD.out.mono ?_
  rintro e w1 ⟨rfl,hq⟩
  have HQ:=aa hq;clear hq yf OP;go_wp2;go_ret;exact⟨rfl,HQ.out⟩
end
end Go.Proofs.YtgaoeoijdpdjiabGreatDoor
