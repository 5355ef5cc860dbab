import Derived.Test.YtgaoeoijdpdjiabGreatDoorRows
import Derived.WalkKit
import Derived.Deep.MidRow
import Derived.Deep.AppendLies
import Derived.WalkSpells
import Derived.WalkLawsBesides
open Go.Value (int)
open Go.IntKind (i64)
open Go.Proofs.Tryz
set_option maxHeartbeats 400000
namespace Go.Proofs.YtgaoeoijdpdjiabGreatDoor
open Go.RowKit
structure za (F:Nat->Prop)(w w':World):Prop where
 os:w'.os=w.os
 tape:w'.tape=w.tape
 output:w'.output=w.output
 size:w.heap.size<=w'.heap.size
 block:∀k,k<w.heap.size->¬F k->w'.heap[k]?=w.heap[k]?
theorem za.refl (F:Nat->Prop)(w:World):za F w w:=⟨rfl,rfl,rfl,Nat.le_refl _,λ_ _ _=>rfl⟩
theorem za.mono {F G:Nat->Prop}{w w':World}(h:za F w w')(hg:∀k,k<w.heap.size->F k->G k):za G w w':=⟨h.os,h.tape,h.output,h.size,λk hk hn=>h.block k hk (λhf=>hn (hg k hk hf))⟩
theorem za.trans {F G:Nat->Prop}{a b c:World}(h:za F a b)(k:za G b c)(hg:∀i,G i->F i\/a.heap.size<=i):za F a c:=⟨k.os.trans h.os,k.tape.trans h.tape,k.output.trans h.output,Nat.le_trans h.size k.size,λi hi hn=>(k.block i (Nat.lt_of_lt_of_le hi h.size) (λhf=>by rcases hg i hf with h1|h1<;>first|exact hn h1|omega)).trans (h.block i hi hn)⟩
theorem za.of_below {F:Nat->Prop}{w w':World}(h:Below w.heap.size w w'):za F w w':=⟨h.os,h.tape,h.output,h.size,λk hk _=>h.block k hk⟩
theorem za.below {F:Nat->Prop}{w w':World}{B:Nat}(h:za F w w')(hF:∀k,F k->B<=k)(hB:B<=w.heap.size):Below B w w':=⟨h.os,h.tape,h.output,h.size,λk hk=>h.block k (by omega) (λhf=>by have:=hF k hf;omega)⟩
theorem za.after {F:Nat->Prop}{a w w':World}(h:za F a w)(hb:Below w.heap.size w w'):za F a w':=h.trans (za.of_below (F:=λ_=>False) hb) (λ_ hf=>hf.elim)
theorem za.drew {F:Nat->Prop}{a w:World}(h:za F a w):za F a w.drew:=⟨h.os,h.tape,h.output,h.size,h.block⟩
theorem za.alloc {F:Nat->Prop}{a w:World}(h:za F a w)(o:Obj):za F a (w.alloc o):=h.after ((Below.refl _ _).alloc (Nat.le_refl _) _)
theorem Jc (w:World)(p:Addr)(u:Value):za (λk=>k=p.block) w (w.setCell p u):=⟨rfl,rfl,rfl,by simp[World.setCell],λk _ hn=>Below.heap_setCell _ _ _ _ hn⟩
theorem za.setCell {F:Nat->Prop}{a w:World}(h:za F a w){p:Addr}(hp:F p.block\/a.heap.size<=p.block)(u:Value):za F a (w.setCell p u):=h.trans (Jc w p u) (λi hi=>by rw[hi];exact hp)
theorem Zu (b:Nat):∀(vs:List Value) (o:Nat) (w:World),za (λk=>k=b) w (w.setCells b o vs)
 |[],_,w=>za.refl _ w
 |v::r,o,w=>by
  rw[World.setCells];exact(Jc w ⟨b,o,none⟩ v).trans (Zu b r (o+1) _) (λi hi=>.inl hi)
theorem za.setCells {F:Nat->Prop}{a w:World}(h:za F a w){b:Nat}(hp:F b\/a.heap.size<=b)(o:Nat)(vs:List Value):za F a (w.setCells b o vs):=h.trans (Zu b vs o w) (λi hi=>by rw[hi];exact hp)
theorem xQ {w w':World}{row:Option Nat}(hg:w.grownBy w' row):za (λk=>row=some k) w w':=⟨hg.os,hg.tape,hg.output,hg.size,λk hk hn=>hg.block k hk (λe=>hn e.symm)⟩
theorem za.grown {F:Nat->Prop}{a w w':World}{row:Option Nat}(h:za F a w)(hg:w.grownBy w' row)(hr:∀k,row=some k->F k\/a.heap.size<=k):za F a w':=h.trans (xQ hg) hr
theorem za.cell {F:Nat->Prop}{w w':World}(h:za F w w'){p:Addr}(hp:p.block<w.heap.size)(hn:¬F p.block):w'.cell? p=w.cell? p:=World.cell?_of_block (w:=w) (h.block p.block hp hn)
theorem xc {F:Nat->Prop}{w w':World}{base:Nat}{e:TypeId}{size:Nat}{v:Value}{n:Nat}{xs:List Value}(h:w.ownsRow base e size v n xs)(hk:za F w w')(hn:∀k,v.ownBlock=some k->¬F k):w'.ownsRow base e size v n xs:=by
 refine⟨h.1,?_⟩;rcases h.2 with hn0|⟨g,cap,cur,rfl,hb,hgg,rest⟩
 ·exact .inl hn0
 ·refine .inr ⟨g,cap,cur,rfl,hb,?_,rest⟩;rw[hk.block g (Array.getElem?_eq_some_iff.1 hgg).1 (hn g rfl)];exact hgg
theorem dB {α:Type}(f:α->List Value)(m:Nat):∀l:List α,(∀x∈l,(f x).length=m)->(l.flatMap f).length=l.length*m
 |[],_=>by simp
 |x::l,h=>by
  rw[List.flatMap_cons,List.length_append,h x (by simp),dB f m l (λy hy=>h y (by simp[hy])),List.length_cons,Nat.succ_mul,Nat.add_comm]
theorem Iu {α:Type}(f:α->List Value)(m:Nat):∀(l:List α) (i:Nat) (x:α) (j:Nat),(∀x∈l,(f x).length=m)->l[i]?=some x->j<m->(l.flatMap f)[i*m+j]?=(f x)[j]?
 |[],i,x,j,_,h,_=>by simp at h
 |y::l,0,x,j,hl,h,hj=>by
  simp at h;subst h;rw[List.flatMap_cons,Nat.zero_mul,Nat.zero_add,List.getElem?_append_left (by rw[hl y (by simp)];exact hj)]
 |y::l,i+1,x,j,hl,h,hj=>by
  have hy:=hl y (by simp);rw[List.flatMap_cons,List.getElem?_append_right (by rw[hy,Nat.succ_mul];omega),hy,show(i+1)*m+j-m=i*m+j by rw[Nat.succ_mul];omega];exact Iu f m l i x j (λz hz=>hl z (by simp[hz])) (by simpa using h) hj
def Lr (L:List Value):Nat->List Value->List Value
 |_,[]=>L
 |o,v::r=>Lr (L.set o v) (o+1) r
theorem JF:∀(vs:List Value) (o:Nat) (L:List Value) (k:Nat),o+vs.length<=L.length->(Lr L o vs)[k]?=if o<=k/\k<o+vs.length then vs[k-o]?else L[k]?
 |[],o,L,k,_=>by
  rw[Lr,if_neg (by simp only[List.length_nil];omega)]
 |v::r,o,L,k,h=>by
  simp only[List.length_cons]at h;rw[Lr,JF r (o+1) (L.set o v) k (by rw[List.length_set];omega)];by_cases h1:o+1<=k/\k<o+1+r.length
  ·rw[if_pos h1,if_pos (by simp only[List.length_cons];omega),show k-o=(k-(o+1))+1 by omega,List.getElem?_cons_succ]
  ·rw[if_neg h1];by_cases h2:o=k
   ·subst h2;rw[if_pos (by simp only[List.length_cons];omega),Nat.sub_self,List.getElem?_cons_zero,List.getElem?_set_self (by omega)]
   ·rw[if_neg (by simp only[List.length_cons];omega),List.getElem?_set_ne h2]
theorem Aw {w:World}{b o:Nat}{L:List Value}{t:TypeId}{fr:Nat×Nat}(h:w.heap[b]?=some (.cells L.toArray t fr))(v:Value):(w.setCell ⟨b,o,none⟩ v).heap[b]?=some (.cells (L.set o v).toArray t fr):=by
 have hlt:b<w.heap.size:=(Array.getElem?_eq_some_iff.1 h).1;have h':w.heap[b]=.cells L.toArray t fr:=by simpa[Array.getElem?_eq_getElem hlt]using h
 show(w.heap.modify b _)[b]?=_;rw[Array.getElem?_eq_getElem (by simpa using hlt),Array.getElem_modify_self,h'];simp
theorem qE (b:Nat){t:TypeId}{fr:Nat×Nat}:∀(vs:List Value) (o:Nat) (L:List Value) (w:World),w.heap[b]?=some (.cells L.toArray t fr)->(w.setCells b o vs).heap[b]?=some (.cells (Lr L o vs).toArray t fr)
 |[],_,_,_,h=>h
 |v::r,o,L,w,h=>by
  rw[World.setCells,Lr];exact qE b r (o+1) (L.set o v) _ (Aw h v)
theorem Ca0 {α:Type}(f:α->List Value)(m:Nat)(l:List α)(i:Nat)(x:α)(hl:∀x∈l,(f x).length=m)(hx:(f x).length=m)(hi:i<l.length):Lr (l.flatMap f) (i*m) (f x)=(l.set i x).flatMap f:=by
 have hl2:∀y∈l.set i x,(f y).length=m:=λy hy=>by
  rcases List.mem_or_eq_of_mem_set hy with h|h
  ·exact hl y h
  ·rw[h];exact hx
 have hlen:=dB f m l hl;have ZP:=dB f m (l.set i x) hl2;rw[List.length_set]at ZP;have hbound:i*m+m<=l.length*m:=by rw[<-Nat.succ_mul];exact Nat.mul_le_mul_right m hi
 apply List.ext_getElem?;intro k;rw[JF _ _ _ _ (by rw[hx,hlen];exact hbound),hx];by_cases hk:k<l.length*m
 ·have hm:0<m:=Nat.pos_of_ne_zero (λe=>by subst e;simp at hk);have hq:k/m<l.length:=Nat.div_lt_of_lt_mul (by rw[Nat.mul_comm];exact hk);have hr:k% m<m:=Nat.mod_lt _ hm;have hkq:k/m*m+k% m=k:=by rw[Nat.mul_comm];exact Nat.div_add_mod k m
  by_cases h:k/m=i
  ·have h1:i*m<=k/\k<i*m+m:=by subst h;omega
   rw[if_pos h1];have:=Iu f m (l.set i x) i x (k-i*m) hl2 (by rw[List.getElem?_set_self hi]) (by omega);rw[show i*m+(k-i*m)=k by omega]at this;exact this.symm
  ·have h1:¬(i*m<=k/\k<i*m+m):=by
    rintro⟨a,b⟩
    apply h;rw[<-Nat.succ_mul]at b;exact Nat.le_antisymm (Nat.le_of_lt_succ (Nat.div_lt_of_lt_mul (by rw[Nat.mul_comm];exact b))) ((Nat.le_div_iff_mul_le hm).2 a)
   rw[if_neg h1];have e1:=Iu f m l (k/m) l[k/m] (k% m) hl (List.getElem?_eq_getElem hq) hr;have e2:=Iu f m (l.set i x) (k/m) l[k/m] (k% m) hl2 (by rw[List.getElem?_set_ne (λe=>h e.symm),List.getElem?_eq_getElem hq]) hr;rw[hkq]at e1 e2;rw[e1,e2]
 ·rw[if_neg (by omega),List.getElem?_eq_none (by rw[hlen];omega),List.getElem?_eq_none (by rw[ZP];omega)]
theorem FI {α:Type}(f:α->List Value)(m:Nat)(l:List α)(i:Nat)(x:α)(hl:∀x∈l,(f x).length=m)(h:l[i]?=some x){w:World}{b:Nat}{C:List Value}{t:TypeId}{fr:Nat×Nat}(hb:w.heap[b]?=some (.cells C.toArray t fr))(hC:C.take (l.length*m)=l.flatMap f):w.rangeAt b (i*m) (f x):=by
 intro j v hv;have hx:(f x).length=m:=hl x (List.mem_of_getElem? h);have hj:j<m:=by rw[<-hx];exact(List.getElem?_eq_some_iff.1 hv).1
 have hi:i<l.length:=(List.getElem?_eq_some_iff.1 h).1;have hbound:i*m+m<=l.length*m:=by rw[<-Nat.succ_mul];exact Nat.mul_le_mul_right m hi
 rw[cell_of_row w b (i*m+j) C.toArray t fr hb];have e:=Iu f m l i x j hl h hj;rw[<-hC,List.getElem?_take_of_lt (by omega)]at e;rw[List.getElem?_toArray,e,hv]
def Qt (c n:Int):Int:=if c<0 then(-(c+1))% n else c% n
theorem QF (c n:Int)(h:1<=n):0<=Qt c n/\Qt c n<n:=by
 unfold Qt;split
 ·exact⟨Int.emod_nonneg _ (by omega),Int.emod_lt_of_pos _ (by omega)⟩
 ·exact⟨Int.emod_nonneg _ (by omega),Int.emod_lt_of_pos _ (by omega)⟩
theorem Vb0 {k:IntKind}{a b:Int}(h:a=b):Ending.returned (.int k a)=.returned (.int k b):=by rw[h]
def cnt:Nat->Nat->Nat->Nat
 |0,_,_=>0
 |f+1,v,b=>if v=0 then 0 else cnt f (v/b) b+1
theorem KX (f b:Nat):cnt f 0 b=0:=by cases f<;>simp[cnt]
theorem JX (f v b:Nat)(h:0<v):cnt (f+1) v b=cnt f (v/b) b+1:=by simp[cnt];omega
theorem Hy (v b f:Nat)(w:World)(hb:2<=b)(hb2:b<=16)(hv:v<2^f)(hf:f<=32):Calls prog 233 #[int i64 v,int i64 b] w λe w'=>e=.returned (int i64 (cnt f v b))/\w'=w:=by
 have H:Hid (v<2^f):=hv;have hv2:v<4294967296:=Nat.lt_of_lt_of_le hv (by have:=Nat.pow_le_pow_right (n:=2) (by omega) hf;simpa using this);clear hv;go_enter func233,ntmps233;go_wp2;go_loop [0,5] (λt n=>∃(u k g:Nat),u<=v/\k<=32/\k+g=f/\Hid (u<2^g/\cnt f v b=k+cnt g u b)/\t=int i64 u/\n=int i64 k) (λt _=>(intOf t).toNat)
 case atStart=>exact⟨v,0,f,Nat.le_refl _,by omega,by omega,⟨H,by simp⟩,rfl,rfl⟩
 case round=>
  obtain⟨u,k,g,hu,hk,hg,hh,rfl,rfl⟩:=hrel;by_cases h0:0<u
  ·have hg0:0<g:=by
    rcases Nat.eq_zero_or_pos g with h|h
    ·have:=hh.out.1;subst h;simp at this;omega
    ·exact h
   have hdv:u/b<u:=Nat.div_lt_self h0 (by omega);have hkk:k<32:=by omega
   have d0:(0:Int)<=(u:Int)/(b:Int):=Int.ediv_nonneg (by omega) (by omega);have d1:(u:Int)/(b:Int)<(u:Int):=by exact_mod_cast hdv
   go_wp2;go_round
   case rel=>
    obtain⟨g,rfl⟩:∃g',g=g'+1:=⟨g-1,by omega⟩;refine⟨u/b,k+1,g,by omega,by omega,by omega,⟨?_,?_⟩,by go_num,by go_num⟩
    ·have:=hh.out.1;refine Nat.div_lt_of_lt_mul ?_;refine Nat.lt_of_lt_of_le this ?_;rw[Nat.pow_succ,Nat.mul_comm];exact Nat.mul_le_mul_right _ hb
    ·rw[hh.out.2,JX _ _ _ h0];omega
   case measure=>simp[intOf];omega
  ·go_wp2;go_ret;have hz:u=0:=by omega
   refine⟨Vb0 ?_,rfl⟩;rw[hh.out.2,hz,KX];rfl
end Go.Proofs.YtgaoeoijdpdjiabGreatDoor
namespace Go.Proofs.YtgaoeoijdpdjiabGreatDoor
def Yb (k b x t l:Int):Bool:=decide ((k=1\/k=2)/\(b=4\/b=8)/\(x=4\/x=16)/\(1<=t/\t<=4)/\(1<=l/\l<=3))
end Go.Proofs.YtgaoeoijdpdjiabGreatDoor
namespace Go.Proofs.YtgaoeoijdpdjiabGreatDoor
open Go.RowKit
theorem Ia {p:Prop}(h:p):Hid p:=h
def Ic (w:World)(g:Nat)(L:List Int):Prop:=w.heap[g]?=some (.cells (L.map (Value.int .i64)).toArray 3 (0,0))
theorem Ic.cell {w:World}{g:Nat}{L:List Int}(h:Ic w g L){i:Nat}(hi:i<L.length):w.cell? ⟨g,i,none⟩=some (int i64 (L[i]?.getD 0)):=by
 unfold Ic at h;simp[World.cell?,h,hi]
theorem Ic.free {w:World}{g:Nat}{L:List Int}(h:Ic w g L)(i:Nat):w.frozen? ⟨g,i,none⟩=false:=by
 unfold Ic at h;simp[World.frozen?,h]
theorem Ic.lt {w:World}{g:Nat}{L:List Int}(h:Ic w g L):g<w.heap.size:=lt_of_block h
theorem Ic.set {w:World}{g:Nat}{L:List Int}(h:Ic w g L)(i:Nat)(z:Int):Ic (w.setCell ⟨g,i,none⟩ (int i64 z)) g (L.set i z):=by
 have hlt:=h.lt;unfold Ic at h⊢;have h':w.heap[g]=.cells (L.map (Value.int .i64)).toArray 3 (0,0):=by simpa[Array.getElem?_eq_getElem hlt]using h
 show(w.heap.modify g _)[g]?=_;rw[Array.getElem?_eq_getElem (by simpa using hlt),Array.getElem_modify_self,h'];simp
theorem Ic.below {w w':World}{g B:Nat}{L:List Int}(h:Ic w g L)(hb:Below B w w')(hg:g<B):Ic w' g L:=by
 unfold Ic at h⊢;rw[hb.block g hg];exact h
theorem Ic.drew {w:World}{g:Nat}{L:List Int}(h:Ic w g L):Ic w.drew g L:=h
theorem Ic.other {w:World}{g:Nat}{L:List Int}(h:Ic w g L){a:Addr}(u:Value)(hne:g≠a.block):Ic (w.setCell a u) g L:=by
 unfold Ic at h⊢;rw[Below.heap_setCell _ _ _ _ hne];exact h
structure zh (g:Nat)(w w':World):Prop where
 os:w'.os=w.os
 tape:w'.tape=w.tape
 output:w'.output=w.output
 size:w'.heap.size=w.heap.size
 block:∀k,k≠g->w'.heap[k]?=w.heap[k]?
theorem zh.refl (g:Nat)(w:World):zh g w w:=⟨rfl,rfl,rfl,rfl,λ_ _=>rfl⟩
theorem zh.trans {g:Nat}{a b c:World}(h:zh g a b)(k:zh g b c):zh g a c:=⟨k.os.trans h.os,k.tape.trans h.tape,k.output.trans h.output,k.size.trans h.size,λi hi=>(k.block i hi).trans (h.block i hi)⟩
theorem zh.setCell {g:Nat}{a w:World}(h:zh g a w)(i:Nat)(u:Value):zh g a (w.setCell ⟨g,i,none⟩ u):=h.trans ⟨rfl,rfl,rfl,by simp[World.setCell],λ_ hk=>Below.heap_setCell _ _ _ _ hk⟩
theorem zh.below {g B:Nat}{a w w':World}(h:Below B a w)(k:zh g w w')(hg:B<=g):Below B a w':=h.trans ⟨k.os,k.tape,k.output,by rw[k.size];exact Nat.le_refl _,λi hi=>k.block i (by omega)⟩
theorem zh.cell {g:Nat}{w w':World}(h:zh g w w'){p:Addr}(hp:p.block≠g):w'.cell? p=w.cell? p:=World.cell?_of_block (w:=w) (h.block p.block hp)
def Xl (w:World)(B:Nat)(k b x t l:Int):Prop:=w.cell? ⟨B,0,none⟩=some (int i64 k)/\w.cell? ⟨B,1,none⟩=some (int i64 b)/\w.cell? ⟨B,2,none⟩=some (int i64 x)/\w.cell? ⟨B,3,none⟩=some (int i64 t)/\w.cell? ⟨B,4,none⟩=some (int i64 l)
def Vj (w:World)(B:Nat)(a b c d e f:Int):Prop:=w.cell? ⟨B,0,none⟩=some (int i64 a)/\w.cell? ⟨B,1,none⟩=some (int i64 b)/\w.cell? ⟨B,2,none⟩=some (int i64 c)/\w.cell? ⟨B,3,none⟩=some (int i64 d)/\w.cell? ⟨B,4,none⟩=some (int i64 e)/\w.cell? ⟨B,5,none⟩=some (int i64 f)
theorem Gw {w w':World}{B C:Nat}{k b x t l:Int}(h:Xl w B k b x t l)(hb:Below C w w')(hB:B<C):Xl w' B k b x t l:=⟨(hb.cell hB).trans h.1,(hb.cell hB).trans h.2.1,(hb.cell hB).trans h.2.2.1,(hb.cell hB).trans h.2.2.2.1,(hb.cell hB).trans h.2.2.2.2⟩
theorem Fv {w w':World}{B C:Nat}{k b x t l m:Int}(h:Vj w B k b x t l m)(hb:Below C w w')(hB:B<C):Vj w' B k b x t l m:=⟨(hb.cell hB).trans h.1,(hb.cell hB).trans h.2.1,(hb.cell hB).trans h.2.2.1,(hb.cell hB).trans h.2.2.2.1,(hb.cell hB).trans h.2.2.2.2.1,(hb.cell hB).trans h.2.2.2.2.2⟩
def Nn (L:List Int)(off n:Nat)(D:List Nat)(k:Nat):List Int:=L.take (off+k)++((D.drop k).map Int.ofNat)++L.drop (off+n)
theorem R6 (L:List Int)(off n:Nat)(D:List Nat)(hD:D.length=n):Nn L off n D n=L:=by
 simp[Nn,List.drop_of_length_le (Nat.le_of_eq hD)]
theorem Q6 (L:List Int)(off n:Nat)(D:List Nat)(k:Nat)(hD:D.length=n)(hL:off+n<=L.length)(hk:k<=n):(Nn L off n D k).length=L.length:=by
 simp[Nn];omega
theorem U6 (L:List Int)(off n:Nat)(D:List Nat)(k:Nat)(hD:D.length=n)(hL:off+n<=L.length)(hk:k<n):(Nn L off n D (k+1)).set (off+k) ((D[k]?.getD 0:Nat):Int)=Nn L off n D k:=by
 have hk':k<D.length:=by omega
 have e1:L.take (off+(k+1))=L.take (off+k)++[L[off+k]'(by omega)]:=by
  rw[show off+(k+1)=(off+k)+1 by omega,List.take_succ_eq_append_getElem (by omega)]
 have e2:D.drop k=D[k]::D.drop (k+1):=List.drop_eq_getElem_cons hk';unfold Nn;rw[e1,e2,List.append_assoc,List.append_assoc,List.set_append_right _ _ (by simp;omega)];have e3:off+k-(L.take (off+k)).length=0:=by simp;omega
 rw[e3];simp only[List.cons_append,List.nil_append,List.set_cons_zero,List.map_cons,List.getElem?_eq_getElem hk',Option.getD_some,List.append_assoc];rfl
end Go.Proofs.YtgaoeoijdpdjiabGreatDoor
