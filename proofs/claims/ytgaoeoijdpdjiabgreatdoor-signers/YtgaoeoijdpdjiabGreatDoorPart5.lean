import Derived.Test.YtgaoeoijdpdjiabGreatDoorPart4
import Derived.Deep.WholeRow
import Derived.Laws.Tables
import Derived.Lib.ConvBytes
import Derived.Deep.RegionLaw
open Go.Value (int string pointer slice)
open Go.IntKind (i64)
open Go.Proofs.Tryz
set_option maxRecDepth 20000
set_option maxHeartbeats 2000000
namespace Go.Proofs.YtgaoeoijdpdjiabGreatDoor
open Go.RowKit
theorem IQ {l:List Value}(h:l.length=32):∃c0 c1 c2 c3 c4 c5 c6 c7 c8 c9 c10 c11 c12 c13 c14 c15 c16 c17 c18 c19 c20 c21 OA c23 c24 Ey QA RA c28 SA Zp c31,l=[c0,c1,c2,c3,c4,c5,c6,c7,c8,c9,c10,c11,c12,c13,c14,c15,c16,c17,c18,c19,c20,c21,OA,c23,c24,Ey,QA,RA,c28,SA,Zp,c31]:=by
 match l,h with
 |[c0,c1,c2,c3,c4,c5,c6,c7,c8,c9,c10,c11,c12,c13,c14,c15,c16,c17,c18,c19,c20,c21,OA,c23,c24,Ey,QA,RA,c28,SA,Zp,c31],_=>exact⟨c0,c1,c2,c3,c4,c5,c6,c7,c8,c9,c10,c11,c12,c13,c14,c15,c16,c17,c18,c19,c20,c21,OA,c23,c24,Ey,QA,RA,c28,SA,Zp,c31,rfl⟩
theorem TC:(prog.info? 239).map (·.size)=some 32:=by kernel_rfl
theorem nG:(prog.info? 241).map (·.size)=some 33:=by kernel_rfl
theorem Xj {s:ByteArray}(h:s.size=32):(Ac s).length=32:=by rw[vI,h]
theorem Nr {p:Nat×ByteArray}(h:p.2.size=32):(qd p).length=33:=by rw[Pa0,h]
def Zh (w:World)(b o:Nat):Nat->Option (List Value)
 |0=>some []
 |n+1=>(w.cell? ⟨b,o,none⟩).bind (λv=>(Zh w b (o+1) n).map (λl=>v::l))
theorem uI:∀(n:Nat) (cs:List Value) (w:World) (b o:Nat),Zh w b o n=some cs->cs.length=n/\w.rangeAt b o cs
 |0,cs,w,b,o,h=>by
  simp only[Zh,Option.some.injEq]at h;subst h;exact⟨rfl,λj v hv=>by simp at hv⟩
 |n+1,cs,w,b,o,h=>by
  simp only[Zh]at h
  cases hc:w.cell? ⟨b,o,none⟩with
  |none=>simp[hc]at h
  |some v=>
   cases hr:Zh w b (o+1) n with
   |none=>simp[hc,hr]at h
   |some l=>
    simp only[hc,hr,Option.bind_some,Option.map_some,Option.some.injEq]at h;subst h;obtain⟨h1,h2⟩:=uI n l w b (o+1) hr;refine⟨by simp[h1],?_⟩;intro j u hu
    cases j with
    |zero=>simp at hu;subst hu;exact hc
    |succ j=>rw[show o+(j+1)=o+1+j by omega];exact h2 j u (by simpa using hu)
theorem Po:∀(cs:List Value) (n:Nat) (w:World) (b o:Nat),cs.length=n->w.rangeAt b o cs->Zh w b o n=some cs
 |[],n,w,b,o,hn,h=>by subst hn;rfl
 |v::l,n,w,b,o,hn,h=>by
  subst hn;have h0:w.cell? ⟨b,o,none⟩=some v:=h 0 v rfl;have hr:=Po l l.length w b (o+1) rfl (λj u hu=>by rw[show o+1+j=o+(j+1) by omega];exact h (j+1) u (by simpa using hu));simp[Zh,h0,hr]
def Sn (w:World)(n:Nat):Value->Option (List Value)
 |pointer (some ⟨b,o,none⟩)=>Zh w b o n
 |_=>none
theorem Dv (w:World)(n b o:Nat):Sn w n (pointer (some ⟨b,o,none⟩))=Zh w b o n:=rfl
theorem EC {w:World}{n:Nat}{v:Value}(h:(Sn w n v).isSome=true):∃b o cs,v=pointer (some ⟨b,o,none⟩)/\Sn w n v=some cs/\cs.length=n/\w.rangeAt b o cs:=by
 obtain⟨cs,hcs⟩:=Option.isSome_iff_exists.1 h
 match v,hcs with
 |pointer (some ⟨b,o,none⟩),hcs=>
  obtain⟨h1,h2⟩:=uI n cs w b o hcs;exact⟨b,o,cs,rfl,hcs,h1,h2⟩
theorem fD {x:Operand}{d:Option Nat}{ty:TypeId}{ps:String}{af:Array Edge}{g:Option (Nat×Bool)}{a:Act}{w:World}{K:Act->World->Prop}{Q:Exit->Act->World->Prop}(h:(Sn w 32 (a.eval x)).isSome=true):Oper.wp prog {dst:=d,op:=.load 239 x,type:=ty,pos:=ps,after:=af,guard:=g} a w K Q=K (a.put d (.agg ((Sn w 32 (a.eval x)).getD []).toArray)) w:=by
 obtain⟨b,o,cs,hx,hcs,hl,hr⟩:=EC h;have hv:=run_loadVar_mid (P:=prog) w b o 239 cs _ hr underlying239 rfl (by rw[hl];exact TC);rw[hcs];unfold Oper.wp execOp;simp only[hx,Instr.loadAt,Instr.sureAddr,Sem.run_bind,Sem.run_pure,Result.andThen_ok,hv];rfl
theorem oL {x:Operand}{d:Option Nat}{ty:TypeId}{ps:String}{af:Array Edge}{g:Option (Nat×Bool)}{a:Act}{w:World}{K:Act->World->Prop}{Q:Exit->Act->World->Prop}(h:(Sn w 33 (a.eval x)).isSome=true):Oper.wp prog {dst:=d,op:=.load 241 x,type:=ty,pos:=ps,after:=af,guard:=g} a w K Q=K (a.put d (.agg ((Sn w 33 (a.eval x)).getD []).toArray)) w:=by
 obtain⟨b,o,cs,hx,hcs,hl,hr⟩:=EC h;have hv:=run_loadVar_mid (P:=prog) w b o 241 cs _ hr underlying241 rfl (by rw[hl];exact nG);rw[hcs];unfold Oper.wp execOp;simp only[hx,Instr.loadAt,Instr.sureAddr,Sem.run_bind,Sem.run_pure,Result.andThen_ok,hv];rfl
def iI:Value->List Value
 |.agg cs=>cs.toList
 |_=>[]
def Yu (n:Nat):Value->Bool
 |.agg cs=>cs.size==n
 |_=>false
def NJ:Value->Bool
 |int i64 _=>true
 |_=>false
theorem jI (l:List Value):iI (.agg l.toArray)=l:=rfl
theorem tQ (n:Nat)(l:List Value):Yu n (.agg l.toArray)=(l.length==n):=rfl
theorem K5 (n:Int):NJ (int i64 n)=true:=rfl
theorem uQ {n:Nat}{v:Value}(h:Yu n v=true):∃l:List Value,v=.agg l.toArray/\l.length=n:=by
 cases v with
 |agg cs=>exact⟨cs.toList,by simp,by simpa[Yu]using h⟩
 |_=>simp[Yu]at h
theorem M5 {v:Value}(h:NJ v=true):∃n,v=int i64 n:=by
 match v,h with
 |int i64 n,_=>exact⟨n,rfl⟩
theorem kX (w:World)(n:Int)(l:List Value)(h:l.length=32):(Instr.build 241 #[(0,int i64 n),(1,.agg l.toArray)]).run prog w=.ok (.agg (int i64 n::l).toArray) w:=by
 obtain⟨c0,c1,c2,c3,c4,c5,c6,c7,c8,c9,c10,c11,c12,c13,c14,c15,c16,c17,c18,c19,c20,c21,OA,c23,c24,Ey,QA,RA,c28,SA,Zp,c31,rfl⟩:=IQ h;refine run_build w 241 _ _ ?_;first|(show _=_;kernel_rfl)|rfl
theorem ne0 (w:World)(l:List Value)(h:l.length=33):(Instr.buildSlice 180 1 #[(0,.agg l.toArray)]).run prog w=.ok (slice (some ⟨w.heap.size,0,none⟩) 1 1) (w.alloc (.cells l.toArray 241)):=by
 cases l with
 |nil=>simp at h
 |cons z l=>
  obtain⟨c0,c1,c2,c3,c4,c5,c6,c7,c8,c9,c10,c11,c12,c13,c14,c15,c16,c17,c18,c19,c20,c21,OA,c23,c24,Ey,QA,RA,c28,SA,Zp,c31,rfl⟩:=IQ (l:=l) (by simpa using h);first|(show _=_;kernel_rfl)|rfl
theorem ng0 {x y:Operand}{d:Option Nat}{ty:TypeId}{ps:String}{af:Array Edge}{g:Option (Nat×Bool)}{a:Act}{w:World}{K:Act->World->Prop}{Q:Exit->Act->World->Prop}(hx:NJ (a.eval x)=true)(hy:Yu 32 (a.eval y)=true):Oper.wp prog {dst:=d,op:=.build 241 #[(0,x),(1,y)],type:=ty,pos:=ps,after:=af,guard:=g} a w K Q=K (a.put d (.agg (a.eval x::iI (a.eval y)).toArray)) w:=by
 obtain⟨n,hn⟩:=M5 hx;obtain⟨l,hl,hl2⟩:=uQ hy;have hb:=kX w n l hl2;rw[hn,hl,jI];unfold Oper.wp execOp;simp only[List.map_toArray,List.map_cons,List.map_nil,hn,hl,Sem.run_bind,Sem.run_pure,Result.andThen_ok,hb];rfl
theorem og0 {x:Operand}{d:Option Nat}{ty:TypeId}{ps:String}{af:Array Edge}{g:Option (Nat×Bool)}{a:Act}{w:World}{K:Act->World->Prop}{Q:Exit->Act->World->Prop}(hy:Yu 33 (a.eval x)=true):Oper.wp prog {dst:=d,op:=.buildSlice 180 1 #[(0,x)],type:=ty,pos:=ps,after:=af,guard:=g} a w K Q=K (a.put d (slice (some ⟨w.heap.size,0,none⟩) 1 1)) (w.alloc (.cells (iI (a.eval x)).toArray 241)):=by
 obtain⟨l,hl,hl2⟩:=uQ hy;have hb:=ne0 w l hl2;rw[hl,jI];unfold Oper.wp execOp;simp only[List.map_toArray,List.map_cons,List.map_nil,hl,Sem.run_bind,Sem.run_pure,Result.andThen_ok,hb];rfl
end Go.Proofs.YtgaoeoijdpdjiabGreatDoor
namespace Go.Proofs.YtgaoeoijdpdjiabGreatDoor
open Go.RowKit
attribute [local go_sem ↓] fD oL ng0 og0 Go.wp_at_zero Go.wp_at_succ
attribute [local go_sem] Dv jI K5
theorem pX (t:ByteArray)(w:World):∃cap V,(convert 9 170 (string t)).run prog w=.ok (slice (some ⟨w.heap.size,0,none⟩) t.size cap) V/\Below w.heap.size w V/\V.heap.size=w.heap.size+1/\V.rangeAt w.heap.size 0 (Ac t):=by
 refine⟨grownCap w t.size 0 5,Lib.bytesWorld w 5 t,Lib.run_convert_string_bytes w 9 170 5 t underlying9 underlying170 underlying5,?_,Lib.bytesWorld_size _ _ _,?_⟩
 ·exact⟨rfl,rfl,rfl,by rw[Lib.bytesWorld_size];omega,λk hk=>Lib.bytesWorld_at_old w _ t k hk⟩
 ·intro j v hv;have hj:j<t.size:=by rw[<-vI];exact(List.getElem?_eq_some_iff.1 hv).1
  have h:j<t.data.toList.length:=hj;rw[Nat.zero_add,Lib.bytesWorld_cell w _ t j hj,List.getD_eq_getElem?_getD,List.getElem?_eq_getElem h];rw[Ac,List.getElem?_map,List.getElem?_eq_getElem h]at hv;exact hv
theorem FW (W:World)(B cap:Nat):(Instr.arrayAt 239 (slice (some ⟨B,0,none⟩) 32 cap)).run prog W=.ok (pointer (some ⟨B,0,none⟩)) W:=by kernel_rfl
theorem I5:(prog.info? 241).map (λi=>(i.zero,i.size,i.bytes))=some (some (.agg (int i64 0::List.replicate 32 (Value.int .u8 0)).toArray),33,40):=by kernel_rfl
theorem Sa0 (l:List (Nat×ByteArray))(p:Nat×ByteArray):Cv l++qd p=Cv (l++[p]):=by simp[Cv]
def Kc (s:Da)(i:Int)(t:ByteArray):Int:=if¬(0<=i/\i<s.n)then 4 else if t.size≠32 then 2 else if s.trouble=1\/s.pend.length=16 then 5 else 0
def Jb (s:Da)(i:Int)(t:ByteArray):Da:=if¬(0<=i/\i<s.n)then s else if t.size≠32 then s else if s.trouble=1\/s.pend.length=16 then{s with trouble:=Ve s.trouble}else{s with trouble:=Ve s.trouble,pend:=s.pend++[(i.toNat,t)],writes:=s.writes+1}
theorem GU (lo D E:Nat)(pv:Value)(s:Da)(i:Int)(t:ByteArray)(w:World)(h:Ta lo D E pv s w)(hi:¬(0<=i/\i<s.n)):Calls prog 104 #[pointer (some ⟨D,0,none⟩),int i64 i,string t] w λe w'=>e=.returned (int i64 4)/\w'=w:=by
 have HH:=Qa (ZA lo D E pv s i w h);rw[decide_eq_false hi]at HH;clear h hi;go_enter func104,ntmps104;go_wp2_with fail;refine HH.out.mono ?_
 rintro e w1 ⟨rfl,rfl⟩
 go_wp2;go_ret;exact⟨rfl,rfl⟩
theorem DU (lo D E:Nat)(pv:Value)(s:Da)(i:Int)(t:ByteArray)(w:World)(h:Ta lo D E pv s w)(hi:0<=i/\i<s.n)(ht:t.size≠32):Calls prog 104 #[pointer (some ⟨D,0,none⟩),int i64 i,string t] w λe w'=>e=.returned (int i64 2)/\w'=w:=by
 have HH:=Qa (ZA lo D E pv s i w h);rw[decide_eq_true hi]at HH;have hd:(((t.size:Nat):Int)==32)=false:=by simp;omega
 have hd2:(((t.size:Nat):Int) !=32)=true:=by simp;omega
 clear h hi ht;go_enter func104,ntmps104;go_wp2_with fail;refine HH.out.mono ?_
 rintro e w1 ⟨rfl,rfl⟩
 go_wp2;go_ret;exact⟨rfl,rfl⟩
theorem EU (lo D E:Nat)(pv:Value)(s:Da)(i:Int)(t:ByteArray)(w:World)(h:Ta lo D E pv s w)(hi:0<=i/\i<s.n)(ht:t.size=32)(hf:s.trouble=1\/s.pend.length=16):Calls prog 104 #[pointer (some ⟨D,0,none⟩),int i64 i,string t] w λe w'=>e=.returned (int i64 5)/\Ta lo D E pv {s with trouble:=Ve s.trouble} w'/\za (λk=>k=D) w w':=by
 have HH:=Qa (ZA lo D E pv s i w h);rw[decide_eq_true hi]at HH;have HF:=Qa (aB lo D E pv s w h);have hd:(((t.size:Nat):Int)==32)=true:=by rw[ht];rfl
 have hd2:(((t.size:Nat):Int) !=32)=false:=by rw[ht];rfl
 obtain⟨a,c,rfl⟩:=qi h.pending;have hm:=h.ok.most;clear h hi ht;by_cases h1:s.trouble=1
 ·rw[decide_eq_true h1]at HF;clear hf h1;go_enter func104,ntmps104;go_wp2_with fail;refine HH.out.mono ?_
  rintro e w1 ⟨rfl,rfl⟩
  go_wp2_with fail;refine HF.out.mono ?_
  rintro e w2 ⟨rfl,hd2,hk2⟩
  have HD2:=Qa hd2;have Gd:=Qa hk2;clear hd2 hk2;go_wp2;go_ret;exact⟨rfl,HD2.out,Gd.out⟩
 ·have h2:s.pend.length=16:=by rcases hf with h|h<;>first|exact absurd h h1|exact h
  have hl:(((s.pend.length:Nat):Int)==16)=true:=by rw[h2];rfl
  rw[decide_eq_false h1]at HF;clear hf h1 h2;go_enter func104,ntmps104;go_wp2_with fail;refine HH.out.mono ?_
  rintro e w1 ⟨rfl,rfl⟩
  go_wp2_with fail;refine HF.out.mono ?_
  rintro e w2 ⟨rfl,hd2,hk2⟩
  have c1:=hd2.c1;have HD2:=Qa hd2;have Gd:=Qa hk2;clear hd2 hk2;go_wp2;go_ret;exact⟨rfl,HD2.out,Gd.out⟩
theorem Ta.appended {lo D E g cap H:Nat}{pv:Value}{s:Da}{V w3:World}{o:Obj}{i:Nat}{t:ByteArray}(h:Ta lo D E pv s V)(hown:w3.ownsRow lo 241 33 (slice (some ⟨g,0,none⟩) (s.pend.length+1) cap) (s.pend.length+1) (Cv s.pend++qd (i,t)))(hgrow:(V.alloc o).grownBy w3 pv.ownBlock)(hat:pv.ownBlock=some g\/g=H)(hH:(V.alloc o).heap.size=H)(hi:i<s.n)(ht:t.size=32)(hm:s.pend.length<16):Ta lo D E (slice (some ⟨g,0,none⟩) (s.pend.length+1) cap) {s with pend:=s.pend++[(i,t)]} (w3.setCell ⟨D,1,none⟩ (slice (some ⟨g,0,none⟩) (s.pend.length+1) cap)):=by
 have hD:=h.ltD;have hE:=h.ltE;have hz:(V.alloc o).heap.size=V.heap.size+1:=World.size_alloc _ _
 have gD:g≠D:=by
  rcases hat with e|e
  ·intro e2;subst e2;exact h.pd e
  ·omega
 have gE:g≠E:=by
  rcases hat with e|e
  ·intro e2;subst e2;exact h.pe e
  ·omega
 have bD:w3.heap[D]?=V.heap[D]?:=(hgrow.block D (by omega) (λe=>h.pd e.symm)).trans (heap_alloc_old V o hD);have bE:w3.heap[E]?=V.heap[E]?:=(hgrow.block E (by omega) (λe=>h.pe e.symm)).trans (heap_alloc_old V o hE);refine⟨?_,?_,?_,⟨h.ok.len,h.ok.sec,?_,h.ok.lo,h.ok.hi,by simp;omega,h.ok.tr,h.ok.tr2⟩,h.de,by simpa[Value.ownBlock]using gD,by simpa[Value.ownBlock]using gE,h.loD,h.loE⟩
 ·have:=Aw (o:=1) (bD.trans h.disk) (slice (some ⟨g,0,none⟩) (s.pend.length+1) cap);exact this
 ·rw[(Jc w3 ⟨D,1,none⟩ _).block E (Nat.lt_of_lt_of_le (by omega) hgrow.size) (λe=>h.de e.symm)];exact bE.trans h.durable
 ·have:=xc hown (Jc w3 ⟨D,1,none⟩ (slice (some ⟨g,0,none⟩) (s.pend.length+1) cap)) (λk e hk=>by
   have e':g=k:=by simpa[Value.ownBlock]using e
   exact gD (e'.trans hk))
  rw[Sa0]at this;simpa using this
 ·intro p hp;rcases List.mem_append.1 hp with hp|hp
  ·exact h.ok.pen p hp
  ·rw[List.mem_singleton.1 hp];exact⟨hi,ht⟩
theorem FU (lo D E:Nat)(pv:Value)(s:Da)(i:Nat)(t:ByteArray)(w:World)(h:Ta lo D E pv s w)(hlo:lo<=w.heap.size)(hi:i<s.n)(ht:t.size=32)(h1:s.trouble≠1)(h2:s.pend.length≠16)(hw:0<=s.writes)(hw2:s.writes<9223372036854775807):Calls prog 104 #[pointer (some ⟨D,0,none⟩),int i64 i,string t] w λe w'=>e=.returned (int i64 0)/\∃pv',Ta lo D E pv' {s with trouble:=Ve s.trouble,pend:=s.pend++[(i,t)],writes:=s.writes+1} w'/\za (uh D E pv) w w'/\(∀k,pv'.ownBlock=some k->pv.ownBlock=some k\/w.heap.size<=k):=by
 have HH:=Qa (ZA lo D E pv s i w h);rw[decide_eq_true (show 0<=(i:Int)/\(i:Int)<s.n by omega)]at HH;have HF:=Qa (aB lo D E pv s w h);rw[decide_eq_false h1]at HF;have hd:(((t.size:Nat):Int)==32)=true:=by rw[ht];rfl
 have hd2:(((t.size:Nat):Int) !=32)=false:=by rw[ht];rfl
 obtain⟨a,c,hpv⟩:=qi h.pending;have hm:=h.ok.most;have hl:(((s.pend.length:Nat):Int)==16)=false:=by rw[beq_eq_false_iff_ne];omega
 obtain⟨i0,hi0,hz0,hz1,hz2⟩:=info_parts I5;have HT:=Qa ht;have wV:=Qa (show s.pend.length<16 by omega);have HI:=Qa hi;have yh:=Qa hlo;have HZ:=Qa h.ltD;subst hpv;clear h hi ht h1 h2 hlo;go_enter func104,ntmps104;go_wp2_with fail;refine HH.out.mono ?_
 rintro e w1 ⟨rfl,rfl⟩
 go_wp2_with fail;refine HF.out.mono ?_
 rintro e w2 ⟨rfl,mJ,hk2⟩
 have c1:=mJ.c1;have HD2:=Qa mJ;have Gd:=Qa hk2;clear mJ hk2 HF HH;go_wp2_with fail;obtain⟨cap,V,hcv,gq,aC,jQ⟩:=pX t w2.drew;rw[HT.out]at hcv;change(convert _ _ _).run _ _=Result.ok (slice (some ⟨w2.heap.size,0,none⟩) 32 cap) V at hcv;have hag:Yu 32 (Value.agg (Ac t).toArray)=true:=by rw[tQ,Xj HT.out];rfl
 have Og0:Yu 33 (Value.agg (int i64 ((i:Nat):Int)::Ac t).toArray)=true:=by rw[tQ,List.length_cons,Xj HT.out];rfl
 have hld:=Po (Ac t) 32 V w2.heap.size 0 (Xj HT.out) jQ;have d1:V.cell? ⟨D,1,none⟩=some (slice a s.pend.length c):=(HD2.out.drew.below gq).c1;have Tk:=Qa (HD2.out.drew.below gq);have hst:∀o,(V.alloc o).cell? ⟨D,1,none⟩=V.cell? ⟨D,1,none⟩:=λo=>by have:=Tk.out.ltD;simp[go_sem,this]
 have har:=λW:World=>FW W w2.heap.size cap;have JJ:V.heap.size=w2.heap.size+1:=aC;have wM:=Qa (Ne.symm Tk.out.pd);have Gp:=Qa Tk.out.ltD;have WU:=Qa (Tk.out.free 1);have Xn:=Qa (show lo<=V.heap.size by have h1:=yh.out;have h2:=Gd.out.size;rw[JJ];omega);clear jQ aC
 have Uq:Hid (∀j u,(qd (i,t))[j]?=some u->(V.alloc (.cells (int i64 ((i:Nat):Int)::Ac t).toArray 241)).cell? ((⟨w2.heap.size+1,0,none⟩:Addr).add j)=some u):=by
  show∀j u,_->_;rw[<-JJ];exact World.news_of_block (heap_alloc_new V _)
 have tV:=Qa (Nr (p:=(i,t)) HT.out);have N1:Hid (s.pend.length+1<=maxLen):=by show _<=_;unfold maxLen;omega
 have N2:Hid ((s.pend.length+1)*40<=140737488355328):=by show _<=_;omega
 have N3:Hid (∀o,lo<=(V.alloc o).heap.size):=λo=>by have h:=Xn.out;rw[World.size_alloc];omega
 have N4:Hid (∀o,(V.alloc o).heap.size=w2.heap.size+1+1):=λo=>by rw[World.size_alloc,JJ]
 have N5:Hid (∀o,D<(V.alloc o).heap.size):=λo=>by have h:=Gp.out;rw[World.size_alloc];omega
 have N6:Hid (∀o,(V.alloc o).frozen? ⟨D,1,none⟩=false):=λo=>(World.frozen?_alloc_past _ _ _ Gp.out).trans WU.out;have N7:Hid (∀o,(V.alloc o).cell? ⟨D,1,none⟩=some (slice a s.pend.length c)):=λo=>(hst o).trans d1;have N8:Hid (∀u∈qd (i,t),u.oneCell'=true):=LF _;have N9:Hid ((Value.agg (int i64 0::List.replicate 32 (Value.int .u8 0)).toArray).cells.size=33):=rfl;have ZH:Hid (∀o,(V.alloc o).ownsRow lo 241 33 (slice a s.pend.length c) s.pend.length (Cv s.pend)):=λo=>Tk.out.pending.alloc o;go_region_law ((refine step_append_lies _ (by rfl) (.tmp 28) (.tmp 35) 180 (by rfl) lo 241 i0 (.agg (int i64 0::List.replicate 32 (Value.int .u8 0)).toArray) 33 40 underlying180 hi0 hz0 hz1 hz2 N9.out (by decide) (slice a s.pend.length c) s.pend.length (Cv s.pend) (by rfl) (ZH.out _) ⟨w2.heap.size+1,0,none⟩ 1 1 (qd (i,t)) (by rfl) tV.out Uq.out N8.out (by decide) N1.out N2.out (N3.out _) (w2.heap.size+1+1) (N4.out _) ?_;intro g cap' w3 hown hgrow hat hlt;have e1:w3.cell? ⟨D,1,none⟩=some (slice a s.pend.length c):=(hgrow.cell_far ⟨D,1,none⟩ (N5.out _) wM.out).trans (N7.out _);have e2:w3.frozen? ⟨D,1,none⟩=false:=(hgrow.frozen_far ⟨D,1,none⟩ (N5.out _) wM.out).trans (N6.out _)))
 all_goals
  have hX:=Tk.out.appended (i:=i) (t:=t) hown hgrow hat (N4.out _) HI.out HT.out wV.out
  have dP:za (uh D E (slice a s.pend.length c)) w1 (w3.setCell ⟨D,1,none⟩ (slice (some ⟨g,0,none⟩) (s.pend.length+1) cap')):=by
   refine za.setCell ?_ (.inl (.inl rfl)) _;refine za.grown (w:=V.alloc _) ?_ hgrow (λk e=>.inl (.inr (.inr e)));exact((Gd.out.mono (λk _ e=>.inl e)).drew.after gq).alloc _
  have mP:∀k,(slice (some ⟨g,0,none⟩) (s.pend.length+1) cap').ownBlock=some k->(slice a s.pend.length c).ownBlock=some k\/w1.heap.size<=k:=by
   intro k e;have e':g=k:=by simpa[Value.ownBlock]using e
   subst e';rcases hat with e|e
   ·exact .inl e
   ·have:=Gd.out.size;exact .inr (by omega)
  have HX:=Qa hX;have Fp:=Qa dP;have DV:=Qa mP;have x2:=hX.c2;have xf:=hX.free 2;clear hX dP mP hown hgrow hat hlt e1 e2;generalize World.setCell w3 {block:=D,off:=1} _=W4 at*;go_wp2;go_ret;exact⟨rfl,_,HX.out.setWrites _,Fp.out.setCell (.inl (.inl rfl)) _,DV.out⟩
end Go.Proofs.YtgaoeoijdpdjiabGreatDoor
namespace Go.Proofs.YtgaoeoijdpdjiabGreatDoor
open Go.RowKit
def xg (BL:List Nat)(o:Nat)(L:List Nat):Nat->List Nat
 |0=>L
 |j+1=>(xg BL o L j).set j (Ba (xg BL o L j) j^^^yc BL (o+j*4) 4)
theorem YC (BL:List Nat)(o:Nat)(L:List Nat)(j:Nat):(xg BL o L j).length=L.length:=by
 induction j with
 |zero=>rfl
 |succ j ih=>simp only[xg,List.length_set,ih]
theorem vG (BL:List Nat)(o:Nat)(L:List Nat)(j:Nat)(h:ve 32 L)(hB:∀i,Ba BL i<256):ve 32 (xg BL o L j):=by
 induction j with
 |zero=>exact h
 |succ j ih=>exact ih.set j _ (Nat.xor_lt_two_pow (ih.at j) (by have:=Br BL (o+j*4) 4 hB;simpa using this))
theorem se0 (h o cap j:Nat)(hj:j<4)(hc:16<=cap)(wx:World):(Instr.slice 170 (slice (some ⟨h,o,none⟩) 16 cap) (some (int i64 ((j:Int)*4))) (some (int i64 (((j:Int)+1)*4))) none).run prog wx=.ok (slice (some ⟨h,o+j*4,none⟩) 4 (cap-j*4)) wx:=by
 have h0:(0:Int)<=(j:Int)*4:=by omega
 have h2:((j:Int)+1)*4<=(cap:Int):=by omega
 have h3:((j:Int)*4).toNat=j*4:=by omega
 have h4:(((j:Int)+1)*4).toNat=j*4+4:=by omega
 have h5:j*4+4-j*4=4:=by omega
 have h7:¬cap=j*4:=by omega
 simp[go_sem,h0,h2,h3,h4,h5,h7];rw[if_pos (by omega),if_pos (by omega)]
theorem vf0 (g h o cap:Nat)(L BL:List Nat)(w:World)(hr:Lb w g .u32 358 L)(hL:L.length=8)(hW:ve 32 L)(hb:Lb w h .u8 5 BL)(hbl:o+16<=BL.length)(hB:∀i,Ba BL i<256)(hc:16<=cap)(hgh:h≠g):Calls prog 292 #[pointer (some ⟨g,0,none⟩),slice (some ⟨h,o,none⟩) 16 cap] w λe w'=>e=.returned (.tuple #[])/\Lb w' g .u32 358 (xg BL o L 4)/\Ob g w w':=by
 have HR:=aa hr;have HL:=aa hL;have HW:=aa hW;have HB:=aa hb;have nk:=aa hbl;have Yl:=aa hB;clear hr hL hW hb hbl hB;go_enter func292,ntmps292;go_wp2_with fail;refine(Ex _).mono ?_
 rintro e w1 ⟨rfl,rfl⟩
 go_wp2;go_loopw [7] (λi wr=>∃j:Nat,j<=4/\i=int i64 j/\Hid (Lb wr g .u32 358 (xg BL o L j))/\Hid (Ob g w1 wr)) (λi _=>4-(intOf i).toNat)
 case atStart=>exact⟨0,by omega,rfl,HR,Ob.refl _ _⟩
 case round=>
  obtain⟨j,hj,rfl,hr,ho⟩:=hrel;by_cases hlt:j<4
  ·have hlen:(xg BL o L j).length=8:=by rw[YC];exact HL.out
   have hwd:=vG BL o L j HW.out Yl.out;have HS:Hid (xg BL o L (j+1)=(xg BL o L j).set j (Ba (xg BL o L j) j^^^yc BL (o+j*4) 4)):=rfl;generalize xg BL o L j=K at hr hlen hwd HS;have d1:=hr.out.cell (i:=j) (by omega);have f1:=hr.out.free j;have x1:Ba K j<4294967296:=by have:=hwd.at j;simpa using this
   have om:=aa (λn':Nat=>qb0 h (o+j*4) (cap-j*4) BL (wr.drewN n') ((ho.out.row HB.out hgh).drewN n') (by have:=nk.out;omega) Yl.out);have y1:yc BL (o+j*4) 4<4294967296:=by have:=Br BL (o+j*4) 4 Yl.out;simpa using this
   have Te:=aa (u32_xor_nat (Ba K j) (yc BL (o+j*4) 4) x1 y1);have hsl:=se0 h o cap j hlt hc;generalize yc BL (o+j*4) 4=v at HS om y1 Te;generalize hq:Ba K j=u at d1 x1 Te HS;have v1:IntKind.i64.wrap ((j:Int)*4)=(j:Int)*4:=by rw[IntKind.wrap_i64];omega
   have v2:IntKind.i64.wrap ((j:Int)+1)=(j:Int)+1:=by rw[IntKind.wrap_i64];omega
   have v3:IntKind.i64.wrap (((j:Int)+1)*4)=((j:Int)+1)*4:=by rw[IntKind.wrap_i64];omega
   have q0:(0:Int)<=(j:Int):=by omega
   have q1:(j:Int)<8:=by omega
   clear hlen hwd hq x1 y1;go_wp2;go_region_with ((go_at_call 319;refine(om.out _).mono ?_;rintro e w' ⟨rfl,rfl⟩))
   all_goals
    go_wp2
    try rw[Te.out]
    go_roundw
    case rel=>
     refine⟨j+1,by omega,by go_num,?_,?_⟩
     ·have h:=hr.out.set j (u^^^v);rw[<-HS.out]at h;exact h
     ·unfold Hid;first|exact(ho.out.drewN _).setCell j _|(repeat(first|refine Ob.drew ?_|refine Ob.setCell ?_ _ _);exact ho.out)
    case measure=>simp[intOf];omega
  ·obtain rfl:j=4:=by omega
   go_wp2;go_end0;exact⟨rfl,hr.out,ho.out⟩
theorem LK (k b x t l:Int)(sec rnd pub:ByteArray)(w:World):Calls prog 212 #[.agg #[int i64 k,int i64 b,int i64 x,int i64 t,int i64 l],.agg #[string sec,string rnd,string pub]] w λe w'=>e=.returned (.bool (Wl b sec rnd pub))/\Below w.heap.size w w':=by
 have e:Wl b sec rnd pub=(((sec.size:Int)==b)&&(((rnd.size:Int)==b)&&((pub.size:Int)==b))):=by
  unfold Wl Ah Ah Ah Ah;simp[Bool.beq_eq_decide_eq]
 rw[e]
 cases a0:((sec.size:Int)==b)with
 |false=>
  go_enter func212,ntmps212;go_wp2;go_ret;exact⟨rfl,(Va _).alloc (by simp) _⟩
 |true=>
  cases a1:((rnd.size:Int)==b)with
  |false=>
   go_enter func212,ntmps212;go_wp2;go_ret;exact⟨rfl,(Va _).alloc (by simp) _⟩
  |true=>
   cases a2:((pub.size:Int)==b)with
   |false=>
    go_enter func212,ntmps212;go_wp2;go_ret;exact⟨rfl,(Va _).alloc (by simp) _⟩
   |true=>
    go_enter func212,ntmps212;go_wp2;go_ret;exact⟨rfl,(Va _).alloc (by simp) _⟩
end Go.Proofs.YtgaoeoijdpdjiabGreatDoor
