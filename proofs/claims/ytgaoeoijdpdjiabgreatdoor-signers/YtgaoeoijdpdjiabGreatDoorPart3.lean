import Derived.Test.YtgaoeoijdpdjiabGreatDoorPart1
import Derived.Laws.MakeOwn
import Derived.Deep.RegionHeld3
import Derived.Deep.DrawnRows
import Derived.Test.YtgaoeoijdpdjiabGreatDoorPart2
import Derived.RangeFuncNested
import Derived.OwnWalkIn
import Derived.BigQuiet
import Derived.Deep.QuietTactic
import Derived.Shelf.Strings.OnBuilder
import Derived.Test.YtgaoeoijdpdjiabGreatDoorProg
open Go.Value (int string pointer slice)
open Go.IntKind (i64)
open Go.Proofs.Tryz
set_option maxRecDepth 100000
set_option maxHeartbeats 1000000
namespace Go.Proofs.YtgaoeoijdpdjiabGreatDoor
open Go.RowKit
theorem Qa {p:Prop}(h:p):Hid p:=h
structure Da where
 n:Nat
 dur:List ByteArray
 pend:List (Nat×ByteArray)
 writes:Int
 syncs:Int
 trouble:Int
 term:Int
structure qf (s:Da):Prop where
 len:s.dur.length=s.n
 sec:∀x∈s.dur,x.size=32
 pen:∀p∈s.pend,p.1<s.n/\p.2.size=32
 lo:1<=s.n
 hi:s.n<=8
 most:s.pend.length<=16
 tr:0<=s.trouble
 tr2:s.trouble<=9223372036854775807
def Ac (s:ByteArray):List Value:=s.data.toList.map (λu=>Value.int .u8 ((u.toNat:Nat):Int))
theorem vI (s:ByteArray):(Ac s).length=s.size:=by simp[Ac]
theorem Fy (s:ByteArray):∀v∈Ac s,v.oneCell'=true:=by
 intro v hv;obtain⟨u,_,rfl⟩:=List.mem_map.1 hv;rfl
def qd (p:Nat×ByteArray):List Value:=int i64 ((p.1:Nat):Int)::Ac p.2
theorem Pa0 (p:Nat×ByteArray):(qd p).length=p.2.size+1:=by simp[qd,vI]
theorem LF (p:Nat×ByteArray):∀v∈qd p,v.oneCell'=true:=by
 intro v hv;rcases List.mem_cons.1 hv with rfl|hv
 ·rfl
 ·exact Fy _ v hv
def Uo (l:List ByteArray):List Value:=l.flatMap Ac
def Cv (l:List (Nat×ByteArray)):List Value:=l.flatMap qd
structure Ta (lo D E:Nat)(pv:Value)(s:Da)(w:World):Prop where
 disk:w.heap[D]?=some (.cells (List.toArray [slice (some ⟨E,0,none⟩) s.n s.n,pv,int i64 s.writes,int i64 s.syncs,int i64 s.trouble,int i64 s.term]) 182 (0,0))
 durable:w.heap[E]?=some (.cells (Uo s.dur).toArray 239 (0,0))
 pending:w.ownsRow lo 241 33 pv s.pend.length (Cv s.pend)
 ok:qf s
 de:D≠E
 pd:pv.ownBlock≠some D
 pe:pv.ownBlock≠some E
 loD:lo<=D
 loE:lo<=E
def uh (D E:Nat)(pv:Value):Nat->Prop:=λk=>k=D\/k=E\/pv.ownBlock=some k
section
variable {lo D E:Nat}{pv:Value}{s:Da}{w w':World}
theorem Ta.ltD (h:Ta lo D E pv s w):D<w.heap.size:=(Array.getElem?_eq_some_iff.1 h.disk).1
theorem Ta.ltE (h:Ta lo D E pv s w):E<w.heap.size:=(Array.getElem?_eq_some_iff.1 h.durable).1
theorem Ta.lt (h:Ta lo D E pv s w):∀k,uh D E pv k->lo<=k/\k<w.heap.size:=by
 rintro k (rfl|rfl|hk)
 ·exact⟨h.loD,h.ltD⟩
 ·exact⟨h.loE,h.ltE⟩
 ·exact h.pending.lt k hk
theorem Ta.kept {F:Nat->Prop}(h:Ta lo D E pv s w)(hk:za F w w')(hn:∀k,uh D E pv k->¬F k):Ta lo D E pv s w':=⟨by rw[hk.block D h.ltD (hn D (.inl rfl))];exact h.disk,by rw[hk.block E h.ltE (hn E (.inr (.inl rfl)))];exact h.durable,xc h.pending hk (λk e=>hn k (.inr (.inr e))),h.ok,h.de,h.pd,h.pe,h.loD,h.loE⟩
theorem Ta.below (h:Ta lo D E pv s w)(hb:Below w.heap.size w w'):Ta lo D E pv s w':=h.kept (za.of_below (F:=λ_=>False) hb) (λ_ _ hf=>hf)
theorem Ta.drew (h:Ta lo D E pv s w):Ta lo D E pv s w.drew:=⟨h.disk,h.durable,h.pending,h.ok,h.de,h.pd,h.pe,h.loD,h.loE⟩
theorem Qh {w:World}{b i:Nat}{L:List Value}{t:TypeId}{fr:Nat×Nat}{v:Value}(h:w.heap[b]?=some (.cells L.toArray t fr))(hv:L[i]?=some v):w.cell? ⟨b,i,none⟩=some v:=by
 rw[cell_of_row w b i L.toArray t fr h,jb,hv]
theorem EE {w:World}{b:Nat}{L:List Value}{t:TypeId}(h:w.heap[b]?=some (.cells L.toArray t (0,0)))(i:Nat):w.frozen? ⟨b,i,none⟩=false:=by
 simp[World.frozen?,h]
theorem Ta.c0 (h:Ta lo D E pv s w):w.cell? ⟨D,0,none⟩=some (slice (some ⟨E,0,none⟩) s.n s.n):=Qh h.disk rfl
theorem Ta.c1 (h:Ta lo D E pv s w):w.cell? ⟨D,1,none⟩=some pv:=Qh h.disk rfl
theorem Ta.c2 (h:Ta lo D E pv s w):w.cell? ⟨D,2,none⟩=some (int i64 s.writes):=Qh h.disk rfl
theorem Ta.c3 (h:Ta lo D E pv s w):w.cell? ⟨D,3,none⟩=some (int i64 s.syncs):=Qh h.disk rfl
theorem Ta.c4 (h:Ta lo D E pv s w):w.cell? ⟨D,4,none⟩=some (int i64 s.trouble):=Qh h.disk rfl
theorem Ta.c5 (h:Ta lo D E pv s w):w.cell? ⟨D,5,none⟩=some (int i64 s.term):=Qh h.disk rfl
theorem Ta.free (h:Ta lo D E pv s w)(i:Nat):w.frozen? ⟨D,i,none⟩=false:=EE h.disk i
theorem Ta.sets (h:Ta lo D E pv s w)(i:Nat)(v:Value):(w.setCell ⟨D,i,none⟩ v).heap[E]?=some (.cells (Uo s.dur).toArray 239 (0,0))/\(w.setCell ⟨D,i,none⟩ v).ownsRow lo 241 33 pv s.pend.length (Cv s.pend):=⟨by rw[(Jc w ⟨D,i,none⟩ v).block E h.ltE (λe=>h.de e.symm)];exact h.durable,xc h.pending (Jc w _ v) (λk e hk=>h.pd (by rw[e];exact congrArg some hk))⟩
theorem Ta.setTrouble (h:Ta lo D E pv s w)(t:Int)(ht:0<=t)(ht2:t<=9223372036854775807):Ta lo D E pv {s with trouble:=t} (w.setCell ⟨D,4,none⟩ (int i64 t)):=⟨Aw h.disk _,(h.sets 4 _).1,(h.sets 4 _).2,⟨h.ok.len,h.ok.sec,h.ok.pen,h.ok.lo,h.ok.hi,h.ok.most,ht,ht2⟩,h.de,h.pd,h.pe,h.loD,h.loE⟩
theorem Ta.setTerm (h:Ta lo D E pv s w)(t:Int):Ta lo D E pv {s with term:=t} (w.setCell ⟨D,5,none⟩ (int i64 t)):=⟨Aw h.disk _,(h.sets 5 _).1,(h.sets 5 _).2,⟨h.ok.len,h.ok.sec,h.ok.pen,h.ok.lo,h.ok.hi,h.ok.most,h.ok.tr,h.ok.tr2⟩,h.de,h.pd,h.pe,h.loD,h.loE⟩
theorem Ta.setWrites (h:Ta lo D E pv s w)(t:Int):Ta lo D E pv {s with writes:=t} (w.setCell ⟨D,2,none⟩ (int i64 t)):=⟨Aw h.disk _,(h.sets 2 _).1,(h.sets 2 _).2,⟨h.ok.len,h.ok.sec,h.ok.pen,h.ok.lo,h.ok.hi,h.ok.most,h.ok.tr,h.ok.tr2⟩,h.de,h.pd,h.pe,h.loD,h.loE⟩
theorem Ta.setSyncs (h:Ta lo D E pv s w)(t:Int):Ta lo D E pv {s with syncs:=t} (w.setCell ⟨D,3,none⟩ (int i64 t)):=⟨Aw h.disk _,(h.sets 3 _).1,(h.sets 3 _).2,⟨h.ok.len,h.ok.sec,h.ok.pen,h.ok.lo,h.ok.hi,h.ok.most,h.ok.tr,h.ok.tr2⟩,h.de,h.pd,h.pe,h.loD,h.loE⟩
theorem Ta.clear (h:Ta lo D E pv s w):Ta lo D E (slice none 0 0) {s with pend:=[]} (w.setCell ⟨D,1,none⟩ (slice none 0 0)):=⟨Aw h.disk _,(h.sets 1 _).1,World.ownsRow_nil _ _ _ _,⟨h.ok.len,h.ok.sec,λp hp=>by simp at hp,h.ok.lo,h.ok.hi,by simp,h.ok.tr,h.ok.tr2⟩,h.de,by simp[Value.ownBlock],by simp[Value.ownBlock],h.loD,h.loE⟩
end
def Ve (t:Int):Int:=if t=0 then 0 else t-1
theorem ZA (lo D E:Nat)(pv:Value)(s:Da)(i:Int)(w:World)(h:Ta lo D E pv s w):Calls prog 174 #[pointer (some ⟨D,0,none⟩),int i64 i] w λe w'=>e=.returned (.bool (decide (0<=i/\i<s.n)))/\w'=w:=by
 have c0:=h.c0;have hn:=h.ok.hi;clear h;by_cases h0:0<=i
 ·by_cases h1:i<s.n
  ·rw[decide_eq_true (show 0<=i/\i<s.n from⟨h0,h1⟩)];go_enter func174,ntmps174;go_wp2;go_ret;exact⟨rfl,rfl⟩
  ·rw[decide_eq_false (show¬(0<=i/\i<s.n)fromλh=>h1 h.2)];go_enter func174,ntmps174;go_wp2;go_ret;exact⟨rfl,rfl⟩
 ·rw[decide_eq_false (show¬(0<=i/\i<s.n)fromλh=>h0 h.1)];go_enter func174,ntmps174;go_wp2;go_ret;exact⟨rfl,rfl⟩
theorem aB (lo D E:Nat)(pv:Value)(s:Da)(w:World)(h:Ta lo D E pv s w):Calls prog 175 #[pointer (some ⟨D,0,none⟩)] w λe w'=>e=.returned (.bool (decide (s.trouble=1)))/\Ta lo D E pv {s with trouble:=Ve s.trouble} w'/\za (λk=>k=D) w w':=by
 have c4:=h.c4;have f4:=h.free 4;have t0:=h.ok.tr;have t1:=h.ok.tr2;have HD:=Qa h;clear h;by_cases h0:s.trouble=0
 ·have hb:(s.trouble==0)=true:=by rw[h0];rfl
  rw[decide_eq_false (show¬s.trouble=1 by omega)];have HE:Hid (Ve s.trouble=s.trouble):=by show _=_;rw[Ve,if_pos h0,h0]
  clear h0;go_enter func175,ntmps175;go_wp2;go_ret;exact⟨rfl,by rw[HE.out];exact HD.out,za.refl _ _⟩
 ·have hb:(s.trouble==0)=false:=by simpa using h0
  have HE:Hid (Ve s.trouble=s.trouble-1):=by show _=_;rw[Ve,if_neg h0]
  have HX:=Qa (HD.out.setTrouble (s.trouble-1) (by omega) (by omega));by_cases h1:s.trouble=1
  ·rw[decide_eq_true h1];have hb2:(s.trouble-1==0)=true:=by rw[h1];rfl
   clear h0 h1;go_enter func175,ntmps175;go_wp2;go_ret;exact⟨rfl,by rw[HE.out];exact HX.out,Jc _ ⟨D,4,none⟩ _⟩
  ·rw[decide_eq_false h1];have hb2:(s.trouble-1==0)=false:=by rw[beq_eq_false_iff_ne];omega
   clear h0 h1;go_enter func175,ntmps175;go_wp2;go_ret;exact⟨rfl,by rw[HE.out];exact HX.out,Jc _ ⟨D,4,none⟩ _⟩
theorem Gf0 (lo D E:Nat)(pv:Value)(s:Da)(k:Int)(w:World)(h:Ta lo D E pv s w)(hk:k<=9223372036854775807):Calls prog 113 #[pointer (some ⟨D,0,none⟩),int i64 k] w λe w'=>e=.returned (int i64 (if k<0 then 2 else 0))/\Ta lo D E pv (if k<0 then s else{s with trouble:=k}) w'/\za (λk=>k=D) w w':=by
 have c4:=h.c4;have f4:=h.free 4;have HD:=Qa h;clear h;by_cases h0:k<0
 ·rw[if_pos h0,if_pos h0];go_enter func113,ntmps113;go_wp2;go_ret;exact⟨rfl,HD.out,za.refl _ _⟩
 ·rw[if_neg h0,if_neg h0];have HX:=Qa (HD.out.setTrouble k (by omega) hk);go_enter func113,ntmps113;go_wp2;go_ret;exact⟨rfl,HX.out,Jc _ ⟨D,4,none⟩ _⟩
theorem Ga {n:Nat}{w W V:World}(h:Below n w W)(hb:Below W.heap.size W V)(hn:n<=w.heap.size):Below n w V:=h.trans (hb.mono (by have:=h.size;omega))
theorem VP {n:Nat}{w W V:World}{a:Addr}{v:Value}(h:Below n w W)(hb:Below W.heap.size W V)(hn:n<=w.heap.size)(ha:a.block<n)(hc:W.cell? a=some v):V.cell? a=some v:=(hb.cell (p:=a) (by have:=h.size;omega)).trans hc
theorem NZ {n:Nat}{w W V:World}{a0:Addr}{v0:Value}(h:W.cell? a0=some v0/\Below n w W)(hb:Below W.heap.size W V)(hn:n<=w.heap.size)(h0:a0.block<n):V.cell? a0=some v0/\Below n w V:=⟨VP h.2 hb hn h0 h.1,Ga h.2 hb hn⟩
theorem pJ {n:Nat}{w W V:World}{a0 a1:Addr}{v0 v1:Value}(h:W.cell? a0=some v0/\W.cell? a1=some v1/\Below n w W)(hb:Below W.heap.size W V)(hn:n<=w.heap.size)(h0:a0.block<n)(h1:a1.block<n):V.cell? a0=some v0/\V.cell? a1=some v1/\Below n w V:=⟨VP h.2.2 hb hn h0 h.1,NZ h.2 hb hn h1⟩
def Xp (B:Nat)(w:World)(k b x t l:Int)(s:ByteArray)(p0 p1 p2 p3:Int):Prop:=w.cell? ⟨B,0,none⟩=some (int i64 k)/\w.cell? ⟨B,1,none⟩=some (int i64 b)/\w.cell? ⟨B,2,none⟩=some (int i64 x)/\w.cell? ⟨B,3,none⟩=some (int i64 t)/\w.cell? ⟨B,4,none⟩=some (int i64 l)/\w.cell? ⟨B,5,none⟩=some (string s)/\w.cell? ⟨B,6,none⟩=some (int i64 p0)/\w.cell? ⟨B,7,none⟩=some (int i64 p1)/\w.cell? ⟨B,8,none⟩=some (int i64 p2)/\w.cell? ⟨B,9,none⟩=some (int i64 p3)
theorem Xp.below {B n:Nat}{w w':World}{k b x t l p0 p1 p2 p3:Int}{s:ByteArray}(h:Xp B w k b x t l s p0 p1 p2 p3)(hb:Below n w w')(hB:B<n):Xp B w' k b x t l s p0 p1 p2 p3:=by
 obtain⟨c0,c1,c2,c3,c4,c5,c6,c7,c8,c9⟩:=h;exact⟨(hb.cell (p:=⟨B,0,none⟩) hB).trans c0,(hb.cell (p:=⟨B,1,none⟩) hB).trans c1,(hb.cell (p:=⟨B,2,none⟩) hB).trans c2,(hb.cell (p:=⟨B,3,none⟩) hB).trans c3,(hb.cell (p:=⟨B,4,none⟩) hB).trans c4,(hb.cell (p:=⟨B,5,none⟩) hB).trans c5,(hb.cell (p:=⟨B,6,none⟩) hB).trans c6,(hb.cell (p:=⟨B,7,none⟩) hB).trans c7,(hb.cell (p:=⟨B,8,none⟩) hB).trans c8,(hb.cell (p:=⟨B,9,none⟩) hB).trans c9⟩
theorem ca0 {l n:Nat}{P:Program}{ops:Array Oper}{Q:Exit->Act->World->Prop}{i:Nat}{K K':Act->World->Prop}{a:Act}{w:World}
  (hd:∀o,ops[i]?=some o->∀c,o.op≠ .defer c)(hQ:¬LetsOut Q)(hK:∀a w,K a w->K' a w)(h:wpOp P ops Q i K a w):wpOpIn (Fence.wide.inRound l) n P ops Q i K' a w:=by
 unfold wpOp at h;unfold wpOpIn
 cases ho:ops[i]?with
 |none=>rw[ho]at h;exact hK _ _ h
 |some o=>
  rw[ho]at h;dsimp only at h⊢;by_cases hw:Region.wanted o (yielded ops a.tmps)=true
  ·rw[if_pos hw]at h⊢;rcases h with h|⟨_,h⟩
   ·refine⟨λ_ _=>trivial,?_⟩;rw[Oper.semAt_plain _ _ _ (hd o ho)];unfold Oper.wp at h;generalize(execOp a.eval o).run P w=r at h⊢
    cases r with
    |ok nx w'=>
     cases nx with
     |value v=>exact hK _ _ h
     |skip=>exact hK _ _ h
     |defer d=>exact hK _ _ h
     |enter f args=>
      refine⟨λhh=>by simp[Fence.wide]at hh,?_⟩;refine CallsIn.inRound l (callsIn_wide.2 ?_);refine Calls.mono h ?_;intro e w'' he
      cases e with
      |returned v=>exact hK _ _ he
      |panicked c=>exact he
      |outgrown=>exact he
     |row rw' args=>
      refine⟨λhh=>by simp[Fence.wide]at hh,?_⟩;intro c cs _;obtain⟨v,w'',r,s⟩:=h c cs;exact⟨v,w'',hK _ _ r,stepsIn_wide.2 s⟩
     |round _ _ _ _ _=>exact h.elim
     |_=>exact h.elim
    |halt st w'=>
     cases st with
     |panic v=>exact h
     |_=>exact h.elim
   ·exact absurd h hQ
  ·rw[if_neg hw]at h⊢;exact⟨λ_ _=>trivial,hK _ _ h⟩
theorem qN {l n:Nat}{P:Program}{md:Region.Mode}{ops:Array Oper}{Q:Exit->Act->World->Prop}(hd:∀(i:Nat) o,ops[i]?=some o->∀c,o.op≠ .defer c)(hQ:¬LetsOut Q):∀(fuel:Nat) (listed:Array Bool) (a:Act) (w:World),wpAny P md ops Q fuel listed a w->wpAnyIn (Fence.wide.inRound l) n P md ops Q fuel listed a w
 |0,_,_,_,h=>h
 |fuel+1,_,_,_,h=>⟨h.1,λi hi=>ca0 (hd i) hQ (λa w hk=>qN hd hQ fuel _ a w hk) (h.2 i hi)⟩
theorem Ob0 {l n id:Nat}{P:Program}{ops:Array Oper}{Q:Exit->Act->World->Prop}{S:World->Prop}{a:Act}{w:World}(hm:P.follows .mixedOrders=true)(hd:∀o∈ops.toList,∀c,o.op≠ .defer c)(hQ:¬LetsOut Q)(hS:S w.drew)
  (h:S w.drew->wpAnyH P .any ops Q S ops.size (Array.replicate ops.size false) a w.drew):(Code.region id ops true).wpIn (Fence.wide.inRound l) n P Q a w:=wpIn_region_any hm (qN (λi o ho=>hd o (by rw[Array.mem_toList_iff];exact Array.mem_of_getElem? ho)) hQ _ _ _ _ (wpAny_of_held _ _ _ _ (h hS)))
def Ba (l:List Nat)(i:Nat):Nat:=l.getD i 0
theorem uN (l:List Nat)(i z:Nat)(h:i<l.length):Ba (l.set i z) i=z:=by simp[Ba,h]
theorem tN (l:List Nat)(i j z:Nat)(h:i≠j):Ba (l.set i z) j=Ba l j:=by simp[Ba,List.getElem?_set_ne h]
def Lb (w:World)(g:Nat)(k:IntKind)(T:TypeId)(L:List Nat):Prop:=w.heap[g]?=some (.cells (L.map (λn=>Value.int k ((n:Nat):Int))).toArray T (0,0))
theorem Lb.cell {w:World}{g:Nat}{k:IntKind}{T:TypeId}{L:List Nat}(h:Lb w g k T L){i:Nat}(hi:i<L.length):w.cell? ⟨g,i,none⟩=some (.int k ((Ba L i:Nat):Int)):=by
 unfold Lb at h;simp[World.cell?,h,hi,Ba]
theorem Lb.free {w:World}{g:Nat}{k:IntKind}{T:TypeId}{L:List Nat}(h:Lb w g k T L)(i:Nat):w.frozen? ⟨g,i,none⟩=false:=by
 unfold Lb at h;simp[World.frozen?,h]
theorem Lb.lt {w:World}{g:Nat}{k:IntKind}{T:TypeId}{L:List Nat}(h:Lb w g k T L):g<w.heap.size:=lt_of_block h
theorem Lb.set {w:World}{g:Nat}{k:IntKind}{T:TypeId}{L:List Nat}(h:Lb w g k T L)(i z:Nat):Lb (w.setCell ⟨g,i,none⟩ (.int k ((z:Nat):Int))) g k T (L.set i z):=by
 have hlt:=h.lt;unfold Lb at h⊢;have h':w.heap[g]=.cells (L.map (λn=>Value.int k ((n:Nat):Int))).toArray T (0,0):=by simpa[Array.getElem?_eq_getElem hlt]using h
 show(w.heap.modify g _)[g]?=_;rw[Array.getElem?_eq_getElem (by simpa using hlt),Array.getElem_modify_self,h'];simp
theorem Lb.below {w w':World}{g B:Nat}{k:IntKind}{T:TypeId}{L:List Nat}(h:Lb w g k T L)(hb:Below B w w')(hg:g<B):Lb w' g k T L:=by
 unfold Lb at h⊢;rw[hb.block g hg];exact h
theorem Lb.drewN {w:World}{g:Nat}{k:IntKind}{T:TypeId}{L:List Nat}(h:Lb w g k T L)(n:Nat):Lb (w.drewN n) g k T L:=h
structure Ob (g:Nat)(w w':World):Prop where
 os:w'.os=w.os
 tape:w'.tape=w.tape
 output:w'.output=w.output
 size:w'.heap.size=w.heap.size
 block:∀k,k≠g->w'.heap[k]?=w.heap[k]?
theorem Ob.refl (g:Nat)(w:World):Ob g w w:=⟨rfl,rfl,rfl,rfl,λ_ _=>rfl⟩
theorem Ob.trans {g:Nat}{a b c:World}(h:Ob g a b)(k:Ob g b c):Ob g a c:=⟨k.os.trans h.os,k.tape.trans h.tape,k.output.trans h.output,k.size.trans h.size,λi hi=>(k.block i hi).trans (h.block i hi)⟩
theorem Ob.setCell {g:Nat}{a w:World}(h:Ob g a w)(i:Nat)(u:Value):Ob g a (w.setCell ⟨g,i,none⟩ u):=h.trans ⟨rfl,rfl,rfl,by simp[World.setCell],λ_ hk=>Below.heap_setCell _ _ _ _ hk⟩
theorem Ob.drew {g:Nat}{a w:World}(h:Ob g a w):Ob g a w.drew:=⟨h.os,h.tape,h.output,h.size,h.block⟩
theorem Ob.drewN {g:Nat}{a w:World}(h:Ob g a w)(n:Nat):Ob g a (w.drewN n):=⟨h.os,h.tape,h.output,h.size,h.block⟩
theorem Ob.below {g B:Nat}{a w w':World}(h:Below B a w)(k:Ob g w w')(hg:B<=g):Below B a w':=h.trans ⟨k.os,k.tape,k.output,by rw[k.size];exact Aa,λi hi=>k.block i (by omega)⟩
theorem Ob.cell {g:Nat}{w w':World}(h:Ob g w w'){p:Addr}(hp:p.block≠g):w'.cell? p=w.cell? p:=World.cell?_of_block (w:=w) (h.block p.block hp)
theorem Ob.row {g q:Nat}{w w':World}{k:IntKind}{T:TypeId}{L:List Nat}(h:Ob g w w')(r:Lb w q k T L)(hk:q≠g):Lb w' q k T L:=by
 unfold Lb at r⊢;rw[h.block q hk];exact r
def La (b x y:Nat):Nat:=(x+y)% 2^b
def Kb (b x k:Nat):Nat:=(x*2^k% 2^b)|||(x/2^(b-k))
def Ab (i:Nat):Nat:=if i=0 then 5 else if i=1 then 11 else if i=2 then 19 else 26
theorem Ay (b x y:Nat):La b x y<2^b:=Nat.mod_lt _ (Nat.two_pow_pos b)
theorem NC (b x k:Nat)(hx:x<2^b):Kb b x k<2^b:=Nat.or_lt_two_pow (Nat.mod_lt _ (Nat.two_pow_pos b)) (Nat.lt_of_le_of_lt (Nat.div_le_self _ _) hx)
def Pb (b i j:Nat)(L:List Nat):List Nat:=(L.set i (La b (Ba L i) (Ba L j))).set j (Kb b (Ba L j) (Ab i)^^^La b (Ba L i) (Ba L j))
theorem WN (b i j:Nat)(L:List Nat):(Pb b i j L).length=L.length:=by simp[Pb]
def ve (b:Nat)(L:List Nat):Prop:=∀x∈L,x<2^b
theorem ve.at {b:Nat}{L:List Nat}(h:ve b L)(i:Nat):Ba L i<2^b:=by
 by_cases hi:i<L.length
 ·simp only[Ba,List.getD_eq_getElem?_getD,List.getElem?_eq_getElem hi,Option.getD_some];exact h _ (List.getElem_mem hi)
 ·simp only[Ba,List.getD_eq_getElem?_getD,List.getElem?_eq_none (by omega:L.length<=i),Option.getD_none];exact Nat.two_pow_pos b
theorem ve.set {b:Nat}{L:List Nat}(h:ve b L)(i z:Nat)(hz:z<2^b):ve b (L.set i z):=by
 intro x hx;rcases List.mem_or_eq_of_mem_set hx with hx|rfl
 ·exact h x hx
 ·exact hz
theorem ve.col {b:Nat}{L:List Nat}(h:ve b L)(i j:Nat):ve b (Pb b i j L):=(h.set i _ (Ay _ _ _)).set j _ (Nat.xor_lt_two_pow (NC _ _ _ (h.at j)) (Ay _ _ _))
def Fg (b:Nat)(L:List Nat):Nat->List Nat
 |0=>L
 |k+1=>Pb b k (k+4) (Fg b L k)
theorem Vy (b:Nat)(L:List Nat)(k:Nat):(Fg b L k).length=L.length:=by
 induction k with
 |zero=>rfl
 |succ k ih=>simp only[Fg,WN,ih]
theorem tC (b:Nat)(L:List Nat)(k:Nat)(h:ve b L):ve b (Fg b L k):=by
 induction k with
 |zero=>exact h
 |succ k ih=>exact ih.col _ _
end Go.Proofs.YtgaoeoijdpdjiabGreatDoor
namespace Go.Proofs.YtgaoeoijdpdjiabGreatDoor
open Go.Shelf Go.Proofs
def GQ:Go.Shelf.Ren:=⟨λ |156=>161|165=>235|166=>236|169=>237|240=>280|241=>281|276=>315|277=>316|n=>n,λ |31=>27|9=>9|3=>3|4=>4|0=>0|20=>20|72=>307|76=>311|70=>305|37=>170|75=>310|127=>351|164=>372|5=>5|80=>115|n=>n,λ |n=>n⟩
theorem G7:Go.Proofs.Lays.n156 prog GQ:={
 mixed:=by kernel_rfl
 f156:=func161.trans (congrArg some (by kernel_rfl))
 f165:=func235.trans (congrArg some (by kernel_rfl))
 f166:=func236.trans (congrArg some (by kernel_rfl))
 f169:=func237.trans (congrArg some (by kernel_rfl))
 f240:=func280.trans (congrArg some (by kernel_rfl))
 f241:=func281.trans (congrArg some (by kernel_rfl))
 f276:=func315.trans (congrArg some (by kernel_rfl))
 f277:=func316.trans (congrArg some (by kernel_rfl))
 t0:=underlying0
 a0:=isAgg0
 z0:=sizeOf0
 v0:=zeroValue0
 t3:=underlying3
 a3:=isAgg3
 z3:=sizeOf3
 v3:=zeroValue3
 t4:=underlying4
 a4:=isAgg4
 z4:=sizeOf4
 v4:=zeroValue4
 t9:=underlying9
 a9:=isAgg9
 z9:=sizeOf9
 v9:=zeroValue9
 t20:=underlying20
 a20:=isAgg20
 z20:=sizeOf20
 v20:=zeroValue20
 t31:=underlying27
 a31:=isAgg27
 z31:=sizeOf27
 v31:=zeroValue27
 t37:=underlying170
 a37:=isAgg170
 z37:=sizeOf170
 v37:=zeroValue170
 t70:=underlying305
 a70:=isAgg305
 z70:=sizeOf305
 v70:=zeroValue305
 t72:=underlying307
 a72:=isAgg307
 z72:=sizeOf307
 v72:=zeroValue307
 t75:=underlying310
 a75:=isAgg310
 z75:=sizeOf310
 v75:=zeroValue310
 t76:=underlying311
 a76:=isAgg311
 z76:=sizeOf311
 v76:=zeroValue311
 t127:=underlying351
 a127:=isAgg351
 z127:=sizeOf351
 v127:=zeroValue351
 t164:=underlying372
 a164:=isAgg372
 z164:=sizeOf372
 v164:=zeroValue372}
theorem IU:Builder.Extra prog GQ:={
 sizeBuilder:=by kernel_rfl
 liesBuilder:=by kernel_rfl
 t5:=underlying5
 a5:=isAgg5
 z5:=sizeOf5
 v5:=zeroValue5
 infoByte:=by kernel_rfl
 cellsByte:=by kernel_rfl
 sizeByte:=by kernel_rfl
 neB5:=by decide}
open Go.RowKit in
theorem strings_Join (bk o c:Nat)(xs:List ByteArray)(sep:ByteArray)(w:World)(hcells:∀(j:Nat) x,xs[j]?=some x->w.cell? ⟨bk,o+j,none⟩=some (string x))(hbk:bk<w.heap.size)(hN:xs.length<=140737488355328)(hcap:xs.length<=c)(hlen:(Lib.join (xs.map (·.data.toList)) sep.data.toList).length<=140737488355328):Calls prog 161 #[slice (some ⟨bk,o,none⟩) xs.length c,string sep] w λe w'=>e=.returned (string ⟨(Lib.join (xs.map (·.data.toList)) sep.data.toList).toArray⟩)/\Below w.heap.size w w':=Any.strings_Join G7 IU bk o c xs sep w hcells hbk hN hcap hlen
end Go.Proofs.YtgaoeoijdpdjiabGreatDoor
namespace Go.Proofs.YtgaoeoijdpdjiabGreatDoor
open Go.RowKit
theorem J7 (w:World):Calls prog 318 #[.int .u64 4294967295] w λe w'=>e=.returned (int i64 32)/\w'=w:=by
 go_enter func318,ntmps318;go_wp2;go_ret;exact⟨by kernel_rfl,rfl⟩
theorem K7 (w:World):Calls prog 318 #[.int .u64 18446744073709551615] w λe w'=>e=.returned (int i64 64)/\w'=w:=by
 go_enter func318,ntmps318;go_wp2;go_ret;exact⟨by kernel_rfl,rfl⟩
theorem Ex (w:World):Calls prog 290 #[] w λe w'=>e=.returned (int i64 4)/\w'=w:=by
 go_enter func290,ntmps290;go_wp2_with fail;refine(J7 _).mono ?_
 rintro e w1 ⟨rfl,rfl⟩
 go_wp2;go_ret;exact⟨rfl,rfl⟩
theorem Hc0 (x:Nat)(hx:x<4294967296):bits BinOp.or IntKind.u32 ((x:Int)*32% 4294967296) ((x:Int)/134217728)=((Kb 32 x 5:Nat):Int):=by
 have h:=u32_or_nat (x*32% 4294967296) (x/134217728) (Nat.mod_lt _ (by decide)) (by omega);rw[Int.natCast_emod,Int.natCast_mul,Int.natCast_ediv]at h;exact h
theorem Ec0 (x:Nat)(hx:x<4294967296):bits BinOp.or IntKind.u32 ((x:Int)*2048% 4294967296) ((x:Int)/2097152)=((Kb 32 x 11:Nat):Int):=by
 have h:=u32_or_nat (x*2048% 4294967296) (x/2097152) (Nat.mod_lt _ (by decide)) (by omega);rw[Int.natCast_emod,Int.natCast_mul,Int.natCast_ediv]at h;exact h
theorem Fc0 (x:Nat)(hx:x<4294967296):bits BinOp.or IntKind.u32 ((x:Int)*524288% 4294967296) ((x:Int)/8192)=((Kb 32 x 19:Nat):Int):=by
 have h:=u32_or_nat (x*524288% 4294967296) (x/8192) (Nat.mod_lt _ (by decide)) (by omega);rw[Int.natCast_emod,Int.natCast_mul,Int.natCast_ediv]at h;exact h
theorem Gc0 (x:Nat)(hx:x<4294967296):bits BinOp.or IntKind.u32 ((x:Int)*67108864% 4294967296) ((x:Int)/64)=((Kb 32 x 26:Nat):Int):=by
 have h:=u32_or_nat (x*67108864% 4294967296) (x/64) (Nat.mod_lt _ (by decide)) (by omega);rw[Int.natCast_emod,Int.natCast_mul,Int.natCast_ediv]at h;exact h
theorem Pf0 (x k:Nat)(w:World)(hx:x<4294967296)(hk:k=5\/k=11\/k=19\/k=26):Calls prog 327 #[.int .u32 x,int i64 k] w λe w'=>e=.returned (.int .u32 ((Kb 32 x k:Nat):Int))/\∃n,w'=w.drewN n:=by
 rcases hk with rfl|rfl|rfl|rfl
 ·go_enter func327,ntmps327;go_wp2;go_quiet ((go_at_call 290;exact Calls.quiet_of_same (Ex _)));go_wp2;go_ret;exact⟨congrArg (λz:Int=>Ending.returned (.int .u32 z)) (Hc0 x hx),_,rfl⟩
 ·go_enter func327,ntmps327;go_wp2;go_quiet ((go_at_call 290;exact Calls.quiet_of_same (Ex _)));go_wp2;go_ret;exact⟨congrArg (λz:Int=>Ending.returned (.int .u32 z)) (Ec0 x hx),_,rfl⟩
 ·go_enter func327,ntmps327;go_wp2;go_quiet ((go_at_call 290;exact Calls.quiet_of_same (Ex _)));go_wp2;go_ret;exact⟨congrArg (λz:Int=>Ending.returned (.int .u32 z)) (Fc0 x hx),_,rfl⟩
 ·go_enter func327,ntmps327;go_wp2;go_quiet ((go_at_call 290;exact Calls.quiet_of_same (Ex _)));go_wp2;go_ret;exact⟨congrArg (λz:Int=>Ending.returned (.int .u32 z)) (Gc0 x hx),_,rfl⟩
theorem Fx (w:World):Calls prog 295 #[] w λe w'=>e=.returned (int i64 8)/\w'=w:=by
 go_enter func295,ntmps295;go_wp2_with fail;refine(K7 _).mono ?_
 rintro e w1 ⟨rfl,rfl⟩
 go_wp2;go_ret;exact⟨rfl,rfl⟩
theorem Lc0 (x:Nat)(hx:x<18446744073709551616):bits BinOp.or IntKind.u64 ((x:Int)*32% 18446744073709551616) ((x:Int)/576460752303423488)=((Kb 64 x 5:Nat):Int):=by
 have h:=u64_or_nat (x*32% 18446744073709551616) (x/576460752303423488) (Nat.mod_lt _ (by decide)) (by omega);rw[Int.natCast_emod,Int.natCast_mul,Int.natCast_ediv]at h;exact h
theorem Ic0 (x:Nat)(hx:x<18446744073709551616):bits BinOp.or IntKind.u64 ((x:Int)*2048% 18446744073709551616) ((x:Int)/9007199254740992)=((Kb 64 x 11:Nat):Int):=by
 have h:=u64_or_nat (x*2048% 18446744073709551616) (x/9007199254740992) (Nat.mod_lt _ (by decide)) (by omega);rw[Int.natCast_emod,Int.natCast_mul,Int.natCast_ediv]at h;exact h
theorem Jc0 (x:Nat)(hx:x<18446744073709551616):bits BinOp.or IntKind.u64 ((x:Int)*524288% 18446744073709551616) ((x:Int)/35184372088832)=((Kb 64 x 19:Nat):Int):=by
 have h:=u64_or_nat (x*524288% 18446744073709551616) (x/35184372088832) (Nat.mod_lt _ (by decide)) (by omega);rw[Int.natCast_emod,Int.natCast_mul,Int.natCast_ediv]at h;exact h
theorem Kc0 (x:Nat)(hx:x<18446744073709551616):bits BinOp.or IntKind.u64 ((x:Int)*67108864% 18446744073709551616) ((x:Int)/274877906944)=((Kb 64 x 26:Nat):Int):=by
 have h:=u64_or_nat (x*67108864% 18446744073709551616) (x/274877906944) (Nat.mod_lt _ (by decide)) (by omega);rw[Int.natCast_emod,Int.natCast_mul,Int.natCast_ediv]at h;exact h
theorem Qf0 (x k:Nat)(w:World)(hx:x<18446744073709551616)(hk:k=5\/k=11\/k=19\/k=26):Calls prog 328 #[.int .u64 x,int i64 k] w λe w'=>e=.returned (.int .u64 ((Kb 64 x k:Nat):Int))/\∃n,w'=w.drewN n:=by
 rcases hk with rfl|rfl|rfl|rfl
 ·go_enter func328,ntmps328;go_wp2;go_quiet ((go_at_call 295;exact Calls.quiet_of_same (Fx _)));go_wp2;go_ret;exact⟨congrArg (λz:Int=>Ending.returned (.int .u64 z)) (Lc0 x hx),_,rfl⟩
 ·go_enter func328,ntmps328;go_wp2;go_quiet ((go_at_call 295;exact Calls.quiet_of_same (Fx _)));go_wp2;go_ret;exact⟨congrArg (λz:Int=>Ending.returned (.int .u64 z)) (Ic0 x hx),_,rfl⟩
 ·go_enter func328,ntmps328;go_wp2;go_quiet ((go_at_call 295;exact Calls.quiet_of_same (Fx _)));go_wp2;go_ret;exact⟨congrArg (λz:Int=>Ending.returned (.int .u64 z)) (Jc0 x hx),_,rfl⟩
 ·go_enter func328,ntmps328;go_wp2;go_quiet ((go_at_call 295;exact Calls.quiet_of_same (Fx _)));go_wp2;go_ret;exact⟨congrArg (λz:Int=>Ending.returned (.int .u64 z)) (Kc0 x hx),_,rfl⟩
end Go.Proofs.YtgaoeoijdpdjiabGreatDoor
namespace Go.Proofs.YtgaoeoijdpdjiabGreatDoor
def Bi (b x e f:Nat):Prop:=(b=4/\x=4/\e=4/\f=3)\/(b=8/\x=4/\e=4/\f=4)\/(b=4/\x=16/\e=2/\f=2)\/(b=8/\x=16/\e=2/\f=2)
theorem MR {k b x t l:Int}(h:Yb k b x t l=true):∃b' x' e f t' l':Nat,Bi b' x' e f/\(k=1\/k=2)/\b=(b':Int)/\x=(x':Int)/\t=(t':Int)/\l=(l':Int)/\1<=t'/\t'<=4/\1<=l'/\l'<=3:=by
 simp only[Yb,decide_eq_true_eq]at h;obtain⟨hk,hb,hx,⟨h1,h2⟩,h3,h4⟩:=h;have et:t=((t.toNat:Nat):Int):=by omega
 have el:l=((l.toNat:Nat):Int):=by omega
 rcases hb with rfl|rfl<;>rcases hx with rfl|rfl
 ·exact⟨4,4,4,3,t.toNat,l.toNat,by unfold Bi;omega,hk,rfl,rfl,et,el,by omega,by omega,by omega,by omega⟩
 ·exact⟨4,16,2,2,t.toNat,l.toNat,by unfold Bi;omega,hk,rfl,rfl,et,el,by omega,by omega,by omega,by omega⟩
 ·exact⟨8,4,4,4,t.toNat,l.toNat,by unfold Bi;omega,hk,rfl,rfl,et,el,by omega,by omega,by omega,by omega⟩
 ·exact⟨8,16,2,2,t.toNat,l.toNat,by unfold Bi;omega,hk,rfl,rfl,et,el,by omega,by omega,by omega,by omega⟩
end Go.Proofs.YtgaoeoijdpdjiabGreatDoor
namespace Go.Proofs.YtgaoeoijdpdjiabGreatDoor
open Go.RowKit
def Ah (b:Int):List ByteArray->Bool
 |[]=>true
 |x::r=>decide ((x.size:Int)=b)&&Ah b r
theorem IA (b:Int)(xs:List ByteArray):Ah b xs=true↔∀y∈xs,(y.size:Int)=b:=by
 induction xs with
 |nil=>simp[Ah]
 |cons x r ih=>simp[Ah,ih]
theorem DW (b:Int)(xs:List ByteArray)(k:Nat)(h:Ah b (xs.take k)=true)(hk:k<xs.length):Ah b (xs.take (k+1))=decide ((xs[k].size:Int)=b):=by
 have e:∀l m,Ah b (l++m)=(Ah b l&&Ah b m):=by
  intro l m
  induction l with
  |nil=>simp[Ah]
  |cons x r ih=>simp[Ah,ih,Bool.and_assoc]
 rw[List.take_succ_eq_append_getElem hk,e,h];simp[Ah]
theorem CW (b:Int)(xs:List ByteArray)(k:Nat)(hk:k<xs.length)(h:(xs[k].size:Int)≠b):Ah b xs=false:=by
 rw[Bool.eq_false_iff];intro e;exact h ((IA b xs).1 e _ (List.getElem_mem hk))
theorem iL (k b x t l:Int)(bk o c:Nat)(xs:List ByteArray)(w:World)(hcells:∀(j:Nat) y,xs[j]?=some y->w.cell? ⟨bk,o+j,none⟩=some (string y))(hbk:bk<w.heap.size)(hN:xs.length<=9223372036854775807):Calls prog 159 #[.agg #[int i64 k,int i64 b,int i64 x,int i64 t,int i64 l],slice (some ⟨bk,o,none⟩) xs.length c] w λe w'=>e=.returned (.bool (Ah b xs))/\Below w.heap.size w w':=by
 have HC:=aa hcells;clear hcells;have HB:=aa hbk;go_enter func159,ntmps159;go_wp2;go_loop [9] (λi=>∃j:Nat,j<=xs.length/\i=int i64 j/\Hid (Ah b (xs.take j)=true)) (λi=>xs.length-(intOf i).toNat)
 case atStart=>exact⟨0,Nat.zero_le _,rfl,rfl⟩
 case round=>
  obtain⟨j,hj,rfl,ha⟩:=hrel;by_cases hlt:j<xs.length
  ·have c0:∀o,(w.alloc o).cell? ⟨bk,_,none⟩=_:=λo=>(World.cell?_alloc_past _ _ _ HB.out).trans (HC.out j xs[j] (List.getElem?_eq_getElem hlt));have HT:=aa (DW b xs j ha.out hlt);have gm:=aa (CW b xs j hlt);generalize xs[j]=y at c0 HT gm;by_cases hy:(y.size:Int)=b
   ·have hys:((y.size:Int)==b)=true:=by simpa using hy
    go_wp2;go_round
    case rel=>exact⟨j+1,by omega,by go_num,show Ah b (xs.take (j+1))=true by rw[HT.out];simpa using hy⟩
    case measure=>simp[intOf];omega
   ·have hys:((y.size:Int)==b)=false:=by simpa using hy
    have HF:=aa (gm.out hy);clear hy gm;go_wp2;go_ret;exact⟨congrArg (λz=>Ending.returned (Value.bool z)) HF.out.symm,Va _⟩
  ·obtain rfl:j=xs.length:=by omega
   go_wp2;go_ret;have hz:=ha.out;rw[List.take_of_length_le Aa]at hz;exact⟨congrArg (λz=>Ending.returned (Value.bool z)) hz.symm,Va _⟩
def each (x:Int):Int:=if x=4 then 4 else 2
theorem QR (x:Int)(w:World)(hx:x=4\/x=16):Calls prog 232 #[int i64 x] w λe w'=>e=.returned (int i64 (each x))/\w'=w:=by
 rcases hx with rfl|rfl
 ·go_enter func232,ntmps232;go_wp2_with (go_at_call 233;refine(Hy 255 4 8 _ (by decide) (by decide) (by decide) (by decide)).mono ?_;rintro e w' ⟨rfl,rfl⟩);go_ret;exact⟨rfl,rfl⟩
 ·go_enter func232,ntmps232;go_wp2_with (go_at_call 233;refine(Hy 255 16 8 _ (by decide) (by decide) (by decide) (by decide)).mono ?_;rintro e w' ⟨rfl,rfl⟩);go_ret;exact⟨rfl,rfl⟩
theorem NF (w:World):Calls prog 232 #[int i64 4] w λe w'=>e=.returned (int i64 4)/\w'=w:=QR 4 w (Or.inl rfl)
theorem MF (w:World):Calls prog 232 #[int i64 16] w λe w'=>e=.returned (int i64 2)/\w'=w:=QR 16 w (Or.inr rfl)
theorem gY (w:World):Calls prog 233 #[int i64 48,int i64 4] w λe w'=>e=.returned (int i64 3)/\w'=w:=Hy 48 4 6 w (by decide) (by decide) (by decide) (by decide)
theorem iY (w:World):Calls prog 233 #[int i64 96,int i64 4] w λe w'=>e=.returned (int i64 4)/\w'=w:=Hy 96 4 7 w (by decide) (by decide) (by decide) (by decide)
theorem dY (w:World):Calls prog 233 #[int i64 120,int i64 16] w λe w'=>e=.returned (int i64 2)/\w'=w:=Hy 120 16 7 w (by decide) (by decide) (by decide) (by decide)
theorem eY (w:World):Calls prog 233 #[int i64 240,int i64 16] w λe w'=>e=.returned (int i64 2)/\w'=w:=Hy 240 16 8 w (by decide) (by decide) (by decide) (by decide)
theorem Cx (a n:Nat)(w:World)(ha:a<=16)(hn:n<=12)(hp:a^n<=65536)(ha1:1<=a):Calls prog 91 #[int i64 a,int i64 n] w λe w'=>e=.returned (int i64 ((a^n:Nat):Int))/\w'=w:=by
 have HP:=Ia hp;clear hp;go_enter func91,ntmps91;go_wp2;go_loop [5,6] (λp i=>∃j:Nat,j<=n/\i=int i64 j/\p=int i64 ((a^j:Nat):Int)) (λ_ i=>n-(intOf i).toNat)
 case atStart=>exact⟨0,by omega,rfl,rfl⟩
 case round=>
  obtain⟨j,hj,rfl,rfl⟩:=hrel;by_cases hlt:j<n
  ·have hb:a^(j+1)<=65536:=Nat.le_trans (Nat.pow_le_pow_right ha1 (by omega)) HP.out;have HS:Hid (a^(j+1)=a^j*a):=Nat.pow_succ a j;have hb2:((a^j:Nat):Int)*(a:Int)<=65536:=by have h:=HS.out;have e:((a^j*a:Nat):Int)=((a^j:Nat):Int)*(a:Int):=Int.natCast_mul _ _;omega
   have hb0:0<=((a^j:Nat):Int)*(a:Int):=Int.mul_nonneg (by omega) (by omega);clear hb;generalize hq:a^j=q at HS hb2 hb0⊢;have HQ:=Ia hq;clear hq;go_wp2;go_round
   case rel=>exact⟨j+1,by omega,by go_num,by rw[HS.out,Int.natCast_mul]⟩
   case measure=>simp[intOf];omega
  ·obtain rfl:j=n:=by omega
   go_wp2;go_ret;exact⟨rfl,rfl⟩
theorem Sy (t:Nat)(k b x l:Int)(w:World)(ht:t<=4):Calls prog 92 #[.agg #[int i64 k,int i64 b,int i64 x,int i64 t,int i64 l]] w λe w'=>e=.returned (int i64 ((2^t:Nat):Int))/\Below w.heap.size w w':=by
 have hp:2^t<=65536:=Nat.le_trans (Nat.pow_le_pow_right (by decide) ht) (by decide);have HC:=Ia (λw':World=>Cx 2 t w' (by decide) (by omega) hp (by decide));clear hp;go_enter func92,ntmps92;go_wp2_with fail;refine(HC.out _).mono ?_
 rintro e w1 ⟨rfl,rfl⟩
 go_wp2;go_ret;exact⟨rfl,Va _⟩
end Go.Proofs.YtgaoeoijdpdjiabGreatDoor
namespace Go.Proofs.YtgaoeoijdpdjiabGreatDoor
def Tf (x:Nat):Nat->Nat->List Nat
 |0,_=>[]
 |n+1,v=>Tf x n (v/x)++[v% x]
theorem bq (x n v:Nat):(Tf x n v).length=n:=by
 induction n generalizing v with
 |zero=>rfl
 |succ n ih=>simp[Tf,ih]
theorem tO (x n v:Nat)(hx:0<x):∀d∈Tf x n v,d<x:=by
 induction n generalizing v with
 |zero=>simp[Tf]
 |succ n ih=>
  intro d hd;simp only[Tf,List.mem_append,List.mem_singleton]at hd;rcases hd with hd|rfl
  ·exact ih _ d hd
  ·exact Nat.mod_lt _ hx
def De (l:List Nat)(i:Nat):Nat:=l.getD i 0
theorem IW (a b:List Nat)(i:Nat)(h:i<a.length):De (a++b) i=De a i:=by
 simp[De,List.getElem?_append_left h]
theorem JW (a b:List Nat)(i:Nat):De (a++b) (a.length+i)=De b i:=by
 simp[De,List.getElem?_append_right]
theorem LW (a:List Nat)(i:Nat)(h:a.length<=i):De a i=0:=by
 simp[De,List.getElem?_eq_none h]
theorem sN (l:List Nat)(x i:Nat)(hx:0<x)(h:∀d∈l,d<x):De l i<x:=by
 by_cases hi:i<l.length
 ·simp only[De,List.getD_eq_getElem?_getD,List.getElem?_eq_getElem hi,Option.getD_some];exact h _ (List.getElem_mem hi)
 ·rw[LW _ _ (by omega)];exact hx
def fe (x:Nat):List Nat->Nat
 |[]=>0
 |d::r=>(x-1-d)+fe x r
theorem O6 (x:Nat)(a b:List Nat):fe x (a++b)=fe x a+fe x b:=by
 induction a with
 |nil=>simp[fe]
 |cons d r ih=>simp only[List.cons_append,fe,ih];omega
theorem Tw (x:Nat)(l:List Nat):fe x l<=l.length*(x-1):=by
 induction l with
 |nil=>simp[fe]
 |cons d r ih=>
  simp only[fe,List.length_cons,Nat.succ_mul];omega
def Od (x e:Nat):List Nat->List Nat
 |[]=>[]
 |c::r=>Tf x e c++Od x e r
theorem Ql (x e:Nat)(l:List Nat):(Od x e l).length=l.length*e:=by
 induction l with
 |nil=>simp[Od]
 |cons c r ih=>simp only[Od,List.length_append,bq,ih,List.length_cons,Nat.succ_mul];omega
theorem Jy (x e:Nat)(l:List Nat)(hx:0<x):∀d∈Od x e l,d<x:=by
 induction l with
 |nil=>simp[Od]
 |cons c r ih=>
  intro d hd;simp only[Od,List.mem_append]at hd;rcases hd with hd|hd
  ·exact tO _ _ _ hx _ hd
  ·exact ih _ hd
def Fj (x e f:Nat)(a:List Nat):List Nat:=Od x e a++Tf x f (fe x (Od x e a))
theorem GY (x e f:Nat)(a:List Nat):(Fj x e f a).length=a.length*e+f:=by
 simp[Fj,Ql,bq]
theorem rO (x e f:Nat)(a:List Nat)(hx:0<x):∀d∈Fj x e f a,d<x:=by
 intro d hd;simp only[Fj,List.mem_append]at hd;rcases hd with hd|hd
 ·exact Jy _ _ _ hx _ hd
 ·exact tO _ _ _ hx _ hd
end Go.Proofs.YtgaoeoijdpdjiabGreatDoor
namespace Go.Proofs.YtgaoeoijdpdjiabGreatDoor
open Go.RowKit
theorem sO (x n v k:Nat)(h:k<n):(Tf x n v)[k]?.getD 0=v/x^(n-(k+1))% x:=by
 induction n generalizing v with
 |zero=>omega
 |succ n ih=>
  simp only[Tf];by_cases e:k<n
  ·rw[List.getElem?_append_left (by rw[bq];exact e),ih _ e,Nat.div_div_eq_div_mul,<-Nat.pow_succ',show n+1-(k+1)=(n-(k+1)).succ by omega]
  ·obtain rfl:k=n:=by omega
   rw[List.getElem?_append_right (by rw[bq];exact Aa)];simp[bq]
theorem PY (x n v k:Nat)(h:k+1<=n):v/x^(n-(k+1))/x=v/x^(n-k):=by
 rw[Nat.div_div_eq_div_mul,<-Nat.pow_succ,show(n-(k+1)).succ=n-k by omega]
theorem av (g off n cap v x:Nat)(L:List Int)(w:World)(hrow:Ic w g L)(hlen:off+n<=L.length)(hL:L.length<=1000)(hx:2<=x)(hx2:x<=16)(hv:v<=4096):Calls prog 283 #[slice (some ⟨g,off,none⟩) n cap,int i64 v,int i64 x] w λe w'=>e=.returned (.tuple #[])/\Ic w' g (Nn L off n (Tf x n v) 0)/\zh g w w':=by
 have HR:Hid (Ic w g L):=hrow;clear hrow;go_enter func283,ntmps283;go_wp2;go_loopw [1,6] (λt i wr=>∃k:Nat,k<=n/\i=int i64 ((k:Int)-1)/\t=int i64 ((v/x^(n-k):Nat):Int)/\Hid (Ic wr g (Nn L off n (Tf x n v) k))/\Hid (zh g w wr)) (λ_ i _=>(intOf i+1).toNat)
 case atStart=>exact⟨n,Aa,rfl,by simp,by rw[R6 _ _ _ _ (bq _ _ _)];exact HR,zh.refl _ _⟩
 case round=>
  obtain⟨k,hk,rfl,rfl,hr,ho⟩:=hrel;by_cases h0:0<k
  ·obtain⟨k,rfl⟩:∃j,k=j+1:=⟨k-1,by omega⟩;have HD:Hid ((Tf x n v)[k]?.getD 0=v/x^(n-(k+1))% x):=sO x n v k (by omega);have HS:Hid (v/x^(n-(k+1))/x=v/x^(n-k)):=PY x n v k hk;have hu:v/x^(n-(k+1))<=4096:=Nat.le_trans (Nat.div_le_self _ _) hv;generalize hq:v/x^(n-(k+1))=q at HD HS hu⊢;have HQ:Hid (v/x^(n-(k+1))=q):=hq;clear hq;have hlen':=Q6 L off n (Tf x n v) (k+1) (bq _ _ _) hlen hk;have hc:=hr.out.cell (i:=off+k) (by omega);have hf:=hr.out.free (off+k);have d0:(0:Int)<=(q:Int)/(x:Int):=Int.ediv_nonneg (by omega) (by omega);have d1:(q:Int)/(x:Int)<=4096:=by have:=Nat.div_le_self q x;have e:((q/x:Nat):Int)=(q:Int)/(x:Int):=Int.natCast_ediv q x;omega
   go_wp2;go_roundw
   case rel=>
    refine⟨k,by omega,by go_num,?_,?_,?_⟩
    ·rw[<-HS.out,Int.natCast_ediv]
    ·have:=hr.out.set (off+k) (((Tf x n v)[k]?.getD 0:Nat):Int);rw[U6 L off n _ k (bq _ _ _) hlen (by omega),HD.out,Int.natCast_emod]at this;exact this
    ·exact ho.out.setCell _ _
   case measure=>simp[intOf]
  ·obtain rfl:k=0:=by omega
   go_wp2;go_end0;exact⟨rfl,hr.out,ho.out⟩
theorem BQ (x:Nat)(l:List Nat)(d:Nat):fe x (l++[d])=fe x l+(x-1-d):=by
 rw[O6];simp[fe]
theorem pF (g n cap x:Nat)(L:List Int)(D:List Nat)(w:World)(hrow:Ic w g L)(hD:L.take n=D.map Int.ofNat)(hn:D.length=n)(hL:n<=1000)(hx:2<=x)(hx2:x<=16)(hd:∀d∈D,d<x):Calls prog 284 #[slice (some ⟨g,0,none⟩) n cap,int i64 x] w λe w'=>e=.returned (int i64 (fe x D))/\w'=w:=by
 have hnL:n<=L.length:=by
  have:=congrArg List.length hD;simp at this;omega
 have hcell:∀i,i<n->w.cell? ⟨g,i,none⟩=some (int i64 ((De D i:Nat):Int)):=by
  intro i hi;rw[hrow.cell (by omega)];have e:L[i]?=(L.take n)[i]?:=by rw[List.getElem?_take_of_lt hi]
  rw[e,hD];simp[De,List.getElem?_map,List.getElem?_eq_getElem (show i<D.length by omega)]
 have HC:Hid (∀i,i<n->w.cell? ⟨g,i,none⟩=some (int i64 ((De D i:Nat):Int))):=hcell;have HD:Hid (∀d∈D,d<x):=hd;clear hrow hD hd hcell;go_enter func284,ntmps284;go_wp2;go_loop [5,10] (λs i=>∃k:Nat,k<=n/\i=int i64 k/\s=int i64 ((fe x (D.take k):Nat):Int)) (λ_ i=>n-(intOf i).toNat)
 case atStart=>exact⟨0,Nat.zero_le _,rfl,rfl⟩
 case round=>
  obtain⟨k,hk,rfl,rfl⟩:=hrel;by_cases hlt:k<n
  ·have c:=HC.out k hlt;have hb:=sN D x k (by omega) HD.out;have hs:fe x (D.take k)<=k*(x-1):=by have:=Tw x (D.take k);rwa [List.length_take_of_le (by omega)]at this
   have hs2:fe x (D.take k)<=1000*15:=Nat.le_trans hs (Nat.mul_le_mul (by omega) (by omega))
   have HS:Hid (fe x (D.take (k+1))=fe x (D.take k)+(x-1-De D k)):=by
    show fe x (D.take (k+1))=_;rw[List.take_succ_eq_append_getElem (show k<D.length by omega),BQ];simp[De,show k<D.length by omega]
   clear hs;generalize fe x (D.take k)=s at HS hs2⊢;generalize De D k=d at c hb HS⊢;go_wp2;go_round
   case rel=>exact⟨k+1,by omega,by go_num,by rw[HS.out];go_num⟩
   case measure=>simp[intOf];omega
  ·obtain rfl:k=n:=by omega
   go_wp2;go_ret;exact⟨congrArg (λz:Nat=>Ending.returned (int i64 (z:Int))) (by rw[List.take_of_length_le (by omega)]),rfl⟩
end Go.Proofs.YtgaoeoijdpdjiabGreatDoor
