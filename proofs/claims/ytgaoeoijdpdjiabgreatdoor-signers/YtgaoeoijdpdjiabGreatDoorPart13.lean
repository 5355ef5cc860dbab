import Derived.Test.YtgaoeoijdpdjiabGreatDoorPart5
import Derived.Test.YtgaoeoijdpdjiabGreatDoorPart10
import Derived.Test.YtgaoeoijdpdjiabGreatDoorPart11
import Derived.Test.YtgaoeoijdpdjiabGreatDoorPart12
open Go.Value (int string pointer slice)
open Go.IntKind (i64)
open Go.Proofs.Tryz
set_option maxRecDepth 20000
set_option maxHeartbeats 2000000
namespace Go.Proofs.YtgaoeoijdpdjiabGreatDoor
open Go.RowKit
def Am (w:World)(n:Nat)(v u:Value):Prop:=∃b o l,v=pointer (some ⟨b,o,none⟩)/\u=.agg (List.toArray l)/\l.length=n/\(∀c∈l,c.oneCell'=true)/\w.there b o n
def Gx (w:World):Value->Value->World
 |pointer (some ⟨b,o,none⟩),.agg cs=>w.setCells b o cs.toList
 |_,_=>w
theorem Wo (w:World)(b o:Nat)(l:List Value):Gx w (pointer (some ⟨b,o,none⟩)) (.agg l.toArray)=w.setCells b o l:=rfl
theorem EG {x y:Operand}{d:Option Nat}{ty:TypeId}{ps:String}{af:Array Edge}{g:Option (Nat×Bool)}{a:Act}{w:World}{K:Act->World->Prop}{Q:Exit->Act->World->Prop}(h:Am w 32 (a.eval x) (a.eval y)):Oper.wp prog {dst:=d,op:=.store 239 x y,type:=ty,pos:=ps,after:=af,guard:=g} a w K Q=K (a.put d undef) (Gx w (a.eval x) (a.eval y)):=by
 obtain⟨b,o,l,hx,hy,hl,h1,ht⟩:=h;have hv:=run_storeVar_mid (P:=prog) w b o 239 l.toArray (by rw[List.size_toArray,hl];exact ht) (by rw[List.size_toArray,hl];exact TC) (all_oneCell_toArray h1);rw[hx,hy,Wo];unfold Oper.wp execOp;simp only[hx,hy,Instr.storeAt,Instr.sureAddr,Sem.run_bind,Sem.run_pure,Result.andThen_ok,hv];rfl
theorem BU {x y:Operand}{d:Option Nat}{ty:TypeId}{ps:String}{af:Array Edge}{g:Option (Nat×Bool)}{a:Act}{w:World}{K:Act->World->Prop}{Q:Exit->Act->World->Prop}(h:Am w 33 (a.eval x) (a.eval y)):Oper.wp prog {dst:=d,op:=.store 241 x y,type:=ty,pos:=ps,after:=af,guard:=g} a w K Q=K (a.put d undef) (Gx w (a.eval x) (a.eval y)):=by
 obtain⟨b,o,l,hx,hy,hl,h1,ht⟩:=h;have hv:=run_storeVar_mid (P:=prog) w b o 241 l.toArray (by rw[List.size_toArray,hl];exact ht) (by rw[List.size_toArray,hl];exact nG) (all_oneCell_toArray h1);rw[hx,hy,Wo];unfold Oper.wp execOp;simp only[hx,hy,Instr.storeAt,Instr.sureAddr,Sem.run_bind,Sem.run_pure,Result.andThen_ok,hv];rfl
theorem aD (w:World)(c:Array Value)(t:TypeId)(n:Nat)(hn:c.size=n):(w.alloc (.cells c t)).there w.heap.size 0 n:=by
 subst hn;intro j hj;have hb:(w.alloc (.cells c t)).heap[w.heap.size]?=some (.cells c t):=heap_alloc_new w _;refine⟨?_,?_⟩
 ·rw[Nat.zero_add,cell_of_row _ _ j c t _ hb,Array.getElem?_eq_getElem hj];rfl
 ·unfold World.frozen?;rw[show(w.alloc (.cells c t)).heap[(⟨w.heap.size,0+j,none⟩:Addr).block]?=some (.cells c t)from hb];simp
theorem kG (w:World)(c:Array Value)(t:TypeId)(l:List Value)(h:c.size=l.length):(w.alloc (.cells c t)).setCells w.heap.size 0 l=w.alloc (.cells l.toArray t):=by
 have e:∀(l:List Value) (o:Nat) (c:List Value),o+l.length<=c.length->(w.alloc (.cells c.toArray t)).setCells w.heap.size o l=w.alloc (.cells (Lr c o l).toArray t):=by
  intro l
  induction l with
  |nil=>intro o c _;rfl
  |cons v r ih=>
   intro o c hc;simp only[List.length_cons]at hc;rw[World.setCells,Lr]
   have e1:(w.alloc (.cells c.toArray t)).setCell ⟨w.heap.size,o,none⟩ v=w.alloc (.cells (c.set o v).toArray t):=by
    rw[setCell_eq_setRow _ _ _ _ _ _ _ (heap_alloc_new w _),World.setRow_alloc_new];simp
   rw[e1];exact ih (o+1) (c.set o v) (by rw[List.length_set];omega)
 obtain⟨c⟩:=c;simp only[List.size_toArray]at h;rw[e l 0 c (by omega)];congr 3;apply List.ext_getElem?;intro k;rw[JF _ _ _ _ (by omega)];by_cases hk:k<l.length
 ·rw[if_pos ⟨Nat.zero_le _,by omega⟩,Nat.sub_zero]
 ·rw[if_neg (by omega),List.getElem?_eq_none (by omega),List.getElem?_eq_none (by omega)]
section
variable {lo D E:Nat}{pv:Value}{s:Da}{w w':World}
theorem Ta.secLen (h:Ta lo D E pv s w):∀x∈s.dur,(Ac x).length=32:=λx hx=>Xj (h.ok.sec x hx)
theorem Ta.penLen (h:Ta lo D E pv s w):∀p∈s.pend,(qd p).length=33:=λp hp=>Nr (h.ok.pen p hp).2
theorem Ta.thereE (h:Ta lo D E pv s w)(k:Nat)(hk:k<s.n):w.there E (k*32) 32:=by
 intro j hj;have hl:=dB Ac 32 s.dur h.secLen;rw[h.ok.len]at hl;have hb:k*32+32<=s.n*32:=by rw[<-Nat.succ_mul];exact Nat.mul_le_mul_right 32 hk
 refine⟨?_,EE h.durable _⟩;rw[cell_of_row w E _ _ _ _ h.durable,jb,List.getElem?_eq_getElem (by rw[Uo,hl];omega)];rfl
theorem Ta.rangeE (h:Ta lo D E pv s w)(k:Nat)(x:ByteArray)(hx:s.dur[k]?=some x):w.rangeAt E (k*32) (Ac x):=FI Ac 32 s.dur k x h.secLen hx h.durable (by
  rw[List.take_of_length_le (by rw[Uo,dB Ac 32 s.dur h.secLen];exact Aa)];rfl)
theorem Ta.stored (h:Ta lo D E pv s w)(k:Nat)(t:ByteArray)(hk:k<s.n)(ht:t.size=32):Ta lo D E pv {s with dur:=s.dur.set k t} (w.setCells E (k*32) (Ac t)):=by
 have hK:=Zu E (Ac t) (k*32) w;refine⟨?_,?_,xc h.pending hK (λj e hj=>h.pe (by rw[e];exact congrArg some hj)),⟨by simp[h.ok.len],?_,h.ok.pen,h.ok.lo,h.ok.hi,h.ok.most,h.ok.tr,h.ok.tr2⟩,h.de,h.pd,h.pe,h.loD,h.loE⟩
 ·rw[hK.block D h.ltD h.de];exact h.disk
 ·have:=qE E (Ac t) (k*32) (Uo s.dur) w h.durable;rw[Uo,Ca0 Ac 32 s.dur k t h.secLen (Xj ht) (by rw[h.ok.len];exact hk)]at this;exact this
 ·intro x hx;rcases List.mem_or_eq_of_mem_set hx with hx|hx
  ·exact h.ok.sec x hx
  ·rw[hx];exact ht
theorem Ta.row (h:Ta lo D E pv s w)(hp:0<s.pend.length):∃P cap,pv=slice (some ⟨P,0,none⟩) s.pend.length cap/\s.pend.length<=cap/\P<w.heap.size/\∀j p,s.pend[j]?=some p->w.rangeAt P (j*33) (qd p):=by
 rcases h.pending.2 with⟨_,h0⟩|⟨g,cap,cur,hv,hb,hg,hc,_,hs,ht⟩
 ·omega
 ·refine⟨g,cap,hv,hc,(Array.getElem?_eq_some_iff.1 hg).1,λj p hj=>?_⟩;have hg':w.heap[g]?=some (.cells cur.toList.toArray 241 (0,0)):=by simpa using hg
  exact FI qd 33 s.pend j p h.penLen hj hg' ht
end
def Hm (s:Da)(j:Nat):List ByteArray:=(s.pend.take j).foldl (λd p=>d.set p.1 p.2) s.dur
theorem P6 (s:Da):Hm s 0=s.dur:=rfl
theorem UJ (s:Da)(j:Nat)(p:Nat×ByteArray)(h:s.pend[j]?=some p):Hm s (j+1)=(Hm s j).set p.1 p.2:=by
 obtain⟨hj,rfl⟩:=List.getElem?_eq_some_iff.1 h;rw[Hm,List.take_succ_eq_append_getElem hj,List.foldl_append];rfl
end Go.Proofs.YtgaoeoijdpdjiabGreatDoor
namespace Go.Proofs.YtgaoeoijdpdjiabGreatDoor
open Go.RowKit
attribute [local go_sem ↓] fD oL EG BU Go.wp_at_zero Go.wp_at_succ
attribute [local go_sem] Dv Wo
theorem TT (lo D E:Nat)(pv:Value)(s:Da)(w:World)(h:Ta lo D E pv s w)(h1:s.trouble=1):Calls prog 105 #[pointer (some ⟨D,0,none⟩)] w λe w'=>e=.returned (int i64 5)/\Ta lo D E pv {s with trouble:=Ve s.trouble} w'/\za (λk=>k=D) w w':=by
 have HF:=Qa (aB lo D E pv s w h);rw[decide_eq_true h1]at HF;clear h h1;go_enter func105,ntmps105;go_wp2_with fail;refine HF.out.mono ?_
 rintro e w2 ⟨rfl,hd2,hk2⟩
 have HD2:=Qa hd2;have Gd:=Qa hk2;clear hd2 hk2;go_wp2;go_ret;exact⟨rfl,HD2.out,Gd.out⟩
theorem UT (lo D E:Nat)(pv:Value)(s:Da)(w:World)(h:Ta lo D E pv s w)(h1:s.trouble≠1)(hw:0<=s.syncs)(hw2:s.syncs<9223372036854775807):Calls prog 105 #[pointer (some ⟨D,0,none⟩)] w λe w'=>e=.returned (int i64 0)/\Ta lo D E (slice none 0 0) {s with trouble:=Ve s.trouble,dur:=Hm s s.pend.length,pend:=[],syncs:=s.syncs+1} w'/\za (uh D E pv) w w':=by
 have HF:=Qa (aB lo D E pv s w h);rw[decide_eq_false h1]at HF;obtain⟨a,c,hpv⟩:=qi h.pending;have hm:=h.ok.most;have Vq:=Qa h.ok;subst hpv;clear h h1;go_enter func105,ntmps105;go_wp2_with fail;refine HF.out.mono ?_
 rintro e w2 ⟨rfl,hd2,hk2⟩
 have c1:=hd2.c1;have HD2:=Qa hd2;have Gd:=Qa (hk2.mono (G:=uh D E (slice a s.pend.length c)) (λk _ e=>.inl e));clear hd2 hk2 HF;go_wp2;clear c1;go_loopw [12] (λi wr=>∃j:Nat,j<=s.pend.length/\i=int i64 j/\Hid (Ta lo D E (slice a s.pend.length c) {s with trouble:=Ve s.trouble,dur:=Hm s j} wr)/\Hid (za (uh D E (slice a s.pend.length c)) w wr)) (λi _=>s.pend.length-(intOf i).toNat)
 case atStart=>exact⟨0,Nat.zero_le _,rfl,HD2.out,Gd.out⟩
 case round=>
  obtain⟨j,hj,rfl,hd,hk⟩:=hrel;by_cases hlt:j<s.pend.length
  ·obtain⟨p,hp⟩:∃p,s.pend[j]?=some p:=⟨_,List.getElem?_eq_getElem hlt⟩;obtain⟨P,cap,hpv,hcap,yB,hrow⟩:=hd.out.row (Nat.lt_of_le_of_lt (Nat.zero_le _) hlt);simp only[Value.slice.injEq]at hpv;obtain⟨rfl,_,rfl⟩:=hpv;have Zd:=Vq.out.pen p (List.mem_of_getElem? hp);have Jl:=Qa Zd.2;have hpn:p.1<s.n:=Zd.1;have dQ:=Vq.out.hi;have l1:=Po (qd p) 33 wr P (j*33) (Nr Zd.2) (hrow j p hp);have Ms:=Qa (UJ s j p hp);have hag:∀cc:Array Value,cc.size=33->Am (wr.alloc (.cells cc 241)) 33 (pointer (some ⟨wr.heap.size,0,none⟩)) (.agg (qd p).toArray):=λcc hcc=>⟨_,_,_,rfl,rfl,Nr Jl.out,LF p,aD wr cc _ 33 hcc⟩;have hsn:∀cc:Array Value,cc.size=33->(wr.alloc (.cells cc 241)).setCells wr.heap.size 0 (qd p)=wr.alloc (.cells (qd p).toArray 241):=λcc hcc=>kG wr cc _ _ (by rw[hcc,Nr Jl.out]);clear hrow Zd;go_wp2_with fail;clear hag hsn l1;generalize hV:wr.alloc (.cells (qd p).toArray 241)=V;have gq:Below wr.heap.size wr V:=by subst hV;exact Va _
   have hnew:V.heap[wr.heap.size]?=some (.cells (qd p).toArray 241 (0,0)):=by subst hV;exact heap_alloc_new wr _
   have Tk:=Qa (hd.out.below gq);have Qj:=Qa (hk.out.after gq);have d0:=Tk.out.c0;have b0:V.cell? ⟨wr.heap.size,0,none⟩=some (int i64 ((p.1:Nat):Int)):=Qh hnew rfl
   have l2:Zh V.drew wr.heap.size 1 32=some (Ac p.2):=Po _ _ _ _ _ (Xj Jl.out) (λq v hv=>by
    refine Qh (w:=V) hnew ?_;rw[show 1+q=q+1 by omega,qd,Na];exact hv)
   have so:Am V.drew 32 (pointer (some ⟨E,p.1*32,none⟩)) (.agg (Ac p.2).toArray):=⟨_,_,_,rfl,rfl,Xj Jl.out,Fy _,Tk.out.drew.thereE p.1 hpn⟩;have q0:(0:Int)<=(p.1:Int):=by omega
   have q1:(p.1:Int)<(s.n:Int):=by omega
   clear hV hnew gq;go_region_law (fail)
   all_goals
    go_wp2
    go_roundw
    case rel=>
     refine⟨j+1,by omega,by go_num,?_,?_⟩
     ·have:=Tk.out.drew.stored p.1 p.2 hpn Jl.out;show Ta _ _ _ _ _ _;rw[Ms.out];exact this
     ·exact Qj.out.drew.setCells (.inl (.inr (.inl rfl))) _ _
    case measure=>simp[intOf];omega
  ·obtain rfl:j=s.pend.length:=by omega
   have d1:=hd.out.c1;have d3:=hd.out.c3;have df:=hd.out.free;have HX:=Qa (hd.out.clear.setSyncs (s.syncs+1));have Fp:=Qa ((hk.out.setCell (p:=⟨D,1,none⟩) (.inl (.inl rfl)) (slice none 0 0)).setCell (p:=⟨D,3,none⟩) (.inl (.inl rfl)) (int i64 (s.syncs+1)));go_wp2;go_ret;exact⟨rfl,HX.out,Fp.out⟩
end Go.Proofs.YtgaoeoijdpdjiabGreatDoor
namespace Go.Proofs.YtgaoeoijdpdjiabGreatDoor
open Go.RowKit
attribute [local go_sem ↓] fD oL EG BU Go.wp_at_zero Go.wp_at_succ
attribute [local go_sem] Dv Wo
def jq (s:Da)(K:List Bool)(j:Nat):List ByteArray:=((s.pend.take j).zipIdx).foldl (λd q=>if K.getD q.2 false then d.set q.1.1 q.1.2 else d) s.dur
theorem wQ (s:Da)(K:List Bool)(j:Nat)(p:Nat×ByteArray)(h:s.pend[j]?=some p):jq s K (j+1)=if K.getD j false then(jq s K j).set p.1 p.2 else jq s K j:=by
 obtain⟨hj,rfl⟩:=List.getElem?_eq_some_iff.1 h;rw[jq,List.take_succ_eq_append_getElem hj,List.zipIdx_append,List.foldl_append];have:(List.take j s.pend).length=j:=by simp;omega
 simp[this,jq]
def Qx (w:World)(v:Value)(K:List Bool):Prop:=((∃a c,v=slice a 0 c)/\K=[])\/∃b o cap,v=slice (some ⟨b,o,none⟩) K.length cap/\K.length<=cap/\∀j x,K[j]?=some x->w.cell? ⟨b,o+j,none⟩=some (.bool x)
theorem Qx.len {w:World}{v:Value}{K:List Bool}(h:Qx w v K):∃a c,v=slice a K.length c:=by
 rcases h with⟨⟨a,c,rfl⟩,rfl⟩|⟨b,o,cap,rfl,_⟩
 ·exact⟨a,c,rfl⟩
 ·exact⟨_,_,rfl⟩
theorem jR (D:Nat)(tm:Int)(w:World)(h5:w.cell? ⟨D,5,none⟩=some (int i64 tm))(hf:w.frozen? ⟨D,5,none⟩=false)(hv:IntKind.i64.wrap (tm+1)=tm+1):Calls prog 173 #[pointer (some ⟨D,0,none⟩)] w λe w'=>e=.returned (.tuple #[])/\w'=w.setCell ⟨D,5,none⟩ (int i64 (tm+1)):=by
 go_enter func173,ntmps173;go_wp2;go_end0;exact⟨rfl,rfl⟩
theorem jY (lo D E:Nat)(pv:Value)(s:Da)(kv:Value)(K:List Bool)(w:World)(h:Ta lo D E pv s w)(hK:Qx w kv K)(Lu:K.length<=maxLen)(Gr:∀b o l c,kv=slice (some ⟨b,o,none⟩) l c->0<l->b<w.heap.size/\¬uh D E pv b)(hw:0<=s.term)(hw2:s.term<9223372036854775807):Calls prog 102 #[pointer (some ⟨D,0,none⟩),kv] w λe w'=>e=.returned (.tuple #[])/\Ta lo D E (slice none 0 0) {s with trouble:=0,dur:=jq s K s.pend.length,pend:=[],term:=s.term+1} w'/\za (uh D E pv) w w':=by
 obtain⟨a,c,hpv⟩:=qi h.pending;obtain⟨ka,kc,Jn⟩:=hK.len;have hm:=h.ok.most;have Vq:=Qa h.ok;subst hpv;have c1:=h.c1;have HD:=Qa h;have Qz:=Qa hK;have Gl:=Qa Gr;unfold maxLen at Lu;subst Jn;clear h hK Gr;go_enter func102,ntmps102;go_wp2;clear c1;go_loopw [11] (λi wr=>∃j:Nat,j<=s.pend.length/\i=int i64 j/\Hid (Ta lo D E (slice a s.pend.length c) {s with dur:=jq s K j} wr)/\Hid (za (uh D E (slice a s.pend.length c)) w wr)) (λi _=>s.pend.length-(intOf i).toNat)
 case atStart=>exact⟨0,Nat.zero_le _,rfl,HD.out,za.refl _ _⟩
 case round=>
  obtain⟨j,hj,rfl,hd,hk⟩:=hrel;by_cases hlt:j<s.pend.length
  ·obtain⟨p,hp⟩:∃p,s.pend[j]?=some p:=⟨_,List.getElem?_eq_getElem hlt⟩;obtain⟨P,cap,hpv,hcap,yB,hrow⟩:=hd.out.row (Nat.lt_of_le_of_lt (Nat.zero_le _) hlt);simp only[Value.slice.injEq]at hpv;obtain⟨rfl,_,rfl⟩:=hpv;have Zd:=Vq.out.pen p (List.mem_of_getElem? hp);have Jl:=Qa Zd.2;have hpn:p.1<s.n:=Zd.1;have dQ:=Vq.out.hi;have l1:=Po (qd p) 33 wr P (j*33) (Nr Zd.2) (hrow j p hp);have Ms:=Qa (wQ s K j p hp);have hag:∀cc:Array Value,cc.size=33->Am (wr.alloc (.cells cc 241)) 33 (pointer (some ⟨wr.heap.size,0,none⟩)) (.agg (qd p).toArray):=λcc hcc=>⟨_,_,_,rfl,rfl,Nr Jl.out,LF p,aD wr cc _ 33 hcc⟩;have hsn:∀cc:Array Value,cc.size=33->(wr.alloc (.cells cc 241)).setCells wr.heap.size 0 (qd p)=wr.alloc (.cells (qd p).toArray 241):=λcc hcc=>kG wr cc _ _ (by rw[hcc,Nr Jl.out]);have gq:Below wr.heap.size wr (wr.alloc (.cells (qd p).toArray 241)):=Va _;have hnew:(wr.alloc (.cells (qd p).toArray 241)).heap[wr.heap.size]?=some (.cells (qd p).toArray 241 (0,0)):=heap_alloc_new wr _;have Tk:=Qa (hd.out.below gq);have Qj:=Qa (hk.out.after gq);have pM:=Qa hnew;clear hrow Zd gq hnew;by_cases hjk:j<K.length
   ·obtain⟨x,hx⟩:∃x,K[j]?=some x:=⟨_,List.getElem?_eq_getElem hjk⟩
    obtain⟨kb,ko,hka,Sg0,hcell⟩:∃kb ko,ka=some ⟨kb,ko,none⟩/\K.length<=kc/\(wr.alloc (.cells (qd p).toArray 241)).cell? ⟨kb,ko+j,none⟩=some (.bool x):=by
     rcases Qz.out with⟨e,e2⟩|⟨b,o,cp,e,hc2,hcl⟩
     ·rw[e2]at hjk;simp at hjk
     ·simp only[Value.slice.injEq]at e;obtain⟨e1,_,e3⟩:=e;have hf:=Gl.out b o _ _ (by rw[e1]) (Nat.lt_of_le_of_lt (Nat.zero_le _) hjk);refine⟨b,o,e1,by rw[e3];exact hc2,?_⟩;exact(Qj.out.cell (p:=⟨b,o+j,none⟩) hf.1 hf.2).trans (hcl j x hx)
    subst hka;have Fp:Hid (K.getD j false=x):=by show _=_;rw[List.getD_eq_getElem?_getD,hx];rfl
    rw[Fp.out]at Ms;generalize hV:wr.alloc (.cells (qd p).toArray 241)=V at*
    cases x
    ·rw[if_neg (by decide)]at Ms;go_wp2;go_roundw
     case rel=>exact⟨j+1,by omega,by go_num,by show Ta _ _ _ _ _ _;rw[Ms.out];exact Tk.out,Qj.out⟩
     case measure=>simp[intOf];omega
    ·rw[if_pos rfl]at Ms;go_wp2_with fail;clear hag hsn l1;have d0:=Tk.out.c0;have b0:V.cell? ⟨wr.heap.size,0,none⟩=some (int i64 ((p.1:Nat):Int)):=Qh pM.out rfl
     have l2:Zh V.drew wr.heap.size 1 32=some (Ac p.2):=Po _ _ _ _ _ (Xj Jl.out) (λq v hv=>by
      refine Qh (w:=V) pM.out ?_;rw[show 1+q=q+1 by omega,qd,Na];exact hv)
     have so:Am V.drew 32 (pointer (some ⟨E,p.1*32,none⟩)) (.agg (Ac p.2).toArray):=⟨_,_,_,rfl,rfl,Xj Jl.out,Fy _,Tk.out.drew.thereE p.1 hpn⟩;have q0:(0:Int)<=(p.1:Int):=by omega
     have q1:(p.1:Int)<(s.n:Int):=by omega
     clear hV hcell;go_region_law (fail)
     all_goals
      go_wp2
      go_roundw
      case rel=>
       refine⟨j+1,by omega,by go_num,?_,?_⟩
       ·have:=Tk.out.drew.stored p.1 p.2 hpn Jl.out;show Ta _ _ _ _ _ _;rw[Ms.out];exact this
       ·exact Qj.out.drew.setCells (.inl (.inr (.inl rfl))) _ _
      case measure=>simp[intOf];omega
   ·have Fp:Hid (K.getD j false=false):=by show _=_;rw[List.getD_eq_getElem?_getD,List.getElem?_eq_none (by omega)];rfl
    rw[Fp.out,if_neg (by decide)]at Ms;generalize hV:wr.alloc (.cells (qd p).toArray 241)=V at*;go_wp2;go_roundw
    case rel=>exact⟨j+1,by omega,by go_num,by show Ta _ _ _ _ _ _;rw[Ms.out];exact Tk.out,Qj.out⟩
    case measure=>simp[intOf];omega
  ·obtain rfl:j=s.pend.length:=by omega
   have d1:=hd.out.c1;have d4:=hd.out.c4;have d5:=hd.out.c5;have df:=hd.out.free;have HX:=Qa ((hd.out.clear.setTrouble 0 (by omega) (by omega)).setTerm (s.term+1));have Fp:=Qa (((hk.out.setCell (p:=⟨D,1,none⟩) (.inl (.inl rfl)) (slice none 0 0)).setCell (p:=⟨D,4,none⟩) (.inl (.inl rfl)) (int i64 0)).setCell (p:=⟨D,5,none⟩) (.inl (.inl rfl)) (int i64 (s.term+1)));have e5:((wr.setCell ⟨D,1,none⟩ (slice none 0 0)).setCell ⟨D,4,none⟩ (int i64 0)).cell? ⟨D,5,none⟩=some (int i64 s.term):=(World.cell?_setCell_other _ _ _ _ (by simp)).trans ((World.cell?_setCell_other _ _ _ _ (by simp)).trans d5);have f5:((wr.setCell ⟨D,1,none⟩ (slice none 0 0)).setCell ⟨D,4,none⟩ (int i64 0)).frozen? ⟨D,5,none⟩=false:=(hd.out.clear.setTrouble 0 (by omega) (by omega)).free 5;have hv5:IntKind.i64.wrap (s.term+1)=s.term+1:=by rw[IntKind.wrap_i64]<;>omega
   have Tq:=Qa (jR D s.term ((wr.setCell ⟨D,1,none⟩ (slice none 0 0)).setCell ⟨D,4,none⟩ (int i64 0)) e5 f5 hv5);clear e5 f5;go_wp2_with fail;refine Tq.out.mono ?_
   rintro e w9 ⟨rfl,Y2⟩
   obtain rfl:=Y2;go_wp2;go_end0;exact⟨rfl,HX.out,Fp.out⟩
end Go.Proofs.YtgaoeoijdpdjiabGreatDoor
namespace Go.Proofs.YtgaoeoijdpdjiabGreatDoor
open Go.RowKit
theorem VF (b x e f t l:Nat)(hp:Bi b x e f)(k:Int)(w:World)(h1:1<=t)(h2:t<=4)(h3:1<=l)(h4:l<=3):Calls prog 83 #[.agg #[int i64 k,int i64 b,int i64 x,int i64 t,int i64 l]] w λr w'=>
   r=.returned (.agg #[int i64 ((b*e:Nat):Int),int i64 f,int i64 ((b*e+f:Nat):Int),int i64 (Yc t l),int i64 (Xc b x t l),int i64 ((5+2*b:Nat):Int)])/\Below w.heap.size w w':=by
 rcases hp with⟨rfl,rfl,rfl,rfl⟩|⟨rfl,rfl,rfl,rfl⟩|⟨rfl,rfl,rfl,rfl⟩|⟨rfl,rfl,rfl,rfl⟩
 ·exact JC k t l w h1 h2 h3 h4
 ·exact KC k t l w h1 h2 h3 h4
 ·exact BK k t l w h1 h2 h3 h4
 ·exact CK k t l w h1 h2 h3 h4
theorem Pd0 (b x e f:Nat)(hp:Bi b x e f)(k t l:Int)(m:ByteArray)(w:World)(hk:k=1\/k=2)(h1:1<=t)(h2:t<=4)(h3:1<=l)(h4:l<=3)(hm:m.size=b):Calls prog 241 #[.agg #[int i64 k,int i64 b,int i64 x,int i64 t,int i64 l],string m] w λr w'=>
   ∃g,r=.returned (.tuple #[slice (some ⟨g,0,none⟩) (b*e+f) (b*e+f),int i64 0])/\w.heap.size<=g/\Ic w' g ((Fj x e f (Eb m)).map Int.ofNat)/\Below w.heap.size w w':=by
 rcases hp with⟨rfl,rfl,rfl,rfl⟩|⟨rfl,rfl,rfl,rfl⟩|⟨rfl,rfl,rfl,rfl⟩|⟨rfl,rfl,rfl,rfl⟩
 ·exact JY k t l m w hk h1 h2 h3 h4 hm
 ·exact LY k t l m w hk h1 h2 h3 h4 hm
 ·exact IY k t l m w hk h1 h2 h3 h4 hm
 ·exact KY k t l m w hk h1 h2 h3 h4 hm
theorem be0 {b x e f:Nat}(hp:Bi b x e f)(t l:Nat):Xc b x t l=((4+b+l*(b*e+f+t)*b:Nat):Int):=by
 have hc:Gy (b:Int) (x:Int)=((b*e+f:Nat):Int):=by
  rcases hp with⟨rfl,rfl,rfl,rfl⟩|⟨rfl,rfl,rfl,rfl⟩|⟨rfl,rfl,rfl,rfl⟩|⟨rfl,rfl,rfl,rfl⟩<;>rfl
 rw[Xc,hc];simp only[Int.natCast_add,Int.natCast_mul];rfl
theorem aL (t l:Nat):Yc t l=((2^(t*l):Nat):Int):=by
 rw[Yc,show((t:Int)*(l:Int))=((t*l:Nat):Int) by rw[Int.natCast_mul],Int.toNat_natCast,Int.natCast_pow];rfl
theorem Gb0 (s:ByteArray)(a:Nat)(w:World)(h1:s.size<=32)(h2:a+4<=s.size):Calls prog 84 #[string s,int i64 a,int i64 4] w λe w'=>e=.returned (int i64 ((Bd s a 4:Nat):Int))/\w'=w:=by
 go_enter func84,ntmps84;go_wp2;go_loop [7,8] (λv i=>∃j:Nat,j<=4/\i=int i64 ((a+j:Nat):Int)/\v=int i64 ((Bd s a j:Nat):Int)) (λ_ i=>a+4-(intOf i).toNat)
 case atStart=>exact⟨0,by omega,rfl,rfl⟩
 case round=>
  obtain⟨j,hj,rfl,rfl⟩:=hrel;by_cases hlt:j<4
  ·have hv:Bd s a j<16777216:=mU s a j (by omega);have hlt2:a+j<s.size:=by omega
   have hby:Vg s (a+j)=(s[a+j]'hlt2).toNat:=Dy s (a+j) hlt2;have HS:Hid (Bd s a (j+1)=Bd s a j*256+Vg s (a+j)):=rfl;generalize Bd s a j=v at hv HS⊢;have hc:=xn s (a+j);rw[hby]at HS hc;have hwb:wrap64 ((s[a+j]'hlt2).toNat:Int)=((s[a+j]'hlt2).toNat:Int):=IntWalk.wrap64_in _ ⟨by omega,by omega⟩;clear hby;go_wp2;go_round
   case rel=>exact⟨j+1,by omega,by go_num,by rw[HS.out];go_num⟩
   case measure=>simp[intOf];omega
  ·obtain rfl:j=4:=by omega
   go_wp2;go_ret;exact⟨rfl,rfl⟩
end Go.Proofs.YtgaoeoijdpdjiabGreatDoor
