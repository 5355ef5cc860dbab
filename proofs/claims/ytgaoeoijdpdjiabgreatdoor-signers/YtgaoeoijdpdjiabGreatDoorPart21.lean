import Derived.Test.YtgaoeoijdpdjiabGreatDoorPart13
import Derived.RangeFuncWrites
import Derived.Test.YtgaoeoijdpdjiabGreatDoorPart20
open Go.Value (int string pointer slice)
open Go.IntKind (i64)
open Go.Proofs.Tryz
set_option maxRecDepth 100000
set_option maxHeartbeats 4000000
namespace Go.Proofs.YtgaoeoijdpdjiabGreatDoor
open Go.RowKit
theorem wU {F:Fence}{m:Nat}{x:Operand}{d:Option Nat}{ty:TypeId}{ps:String}{af:Array Edge}{g:Option (Nat×Bool)}{a:Act}{w:World}{K:Act->World->Prop}{Q:Exit->Act->World->Prop}(h:(Sn w 32 (a.eval x)).isSome=true):Oper.wpIn F m prog {dst:=d,op:=.load 239 x,type:=ty,pos:=ps,after:=af,guard:=g} a w K Q=K (a.put d (.agg ((Sn w 32 (a.eval x)).getD []).toArray)) w:=by
 obtain⟨b,o,cs,hx,hcs,hl,hr⟩:=EC h;have hv:=run_loadVar_mid (P:=prog) w b o 239 cs _ hr underlying239 rfl (by rw[hl];exact TC);rw[hcs];unfold Oper.wpIn;rw[Oper.semAt_plain _ _ _ (λc=>by simp)];unfold execOp;simp only[hx,Instr.loadAt,Instr.sureAddr,Sem.run_bind,Sem.run_pure,Result.andThen_ok,hv];exact propext ⟨λh=>h.2,λh=>⟨λf hf=>by simp[Oper.about]at hf,h⟩⟩
theorem zU {F:Fence}{m:Nat}{x:Operand}{d:Option Nat}{ty:TypeId}{ps:String}{af:Array Edge}{g:Option (Nat×Bool)}{a:Act}{w:World}{K:Act->World->Prop}{Q:Exit->Act->World->Prop}(h:(Sn w 33 (a.eval x)).isSome=true):Oper.wpIn F m prog {dst:=d,op:=.load 241 x,type:=ty,pos:=ps,after:=af,guard:=g} a w K Q=K (a.put d (.agg ((Sn w 33 (a.eval x)).getD []).toArray)) w:=by
 obtain⟨b,o,cs,hx,hcs,hl,hr⟩:=EC h;have hv:=run_loadVar_mid (P:=prog) w b o 241 cs _ hr underlying241 rfl (by rw[hl];exact nG);rw[hcs];unfold Oper.wpIn;rw[Oper.semAt_plain _ _ _ (λc=>by simp)];unfold execOp;simp only[hx,Instr.loadAt,Instr.sureAddr,Sem.run_bind,Sem.run_pure,Result.andThen_ok,hv];exact propext ⟨λh=>h.2,λh=>⟨λf hf=>by simp[Oper.about]at hf,h⟩⟩
theorem xU {F:Fence}{m:Nat}{x y:Operand}{d:Option Nat}{ty:TypeId}{ps:String}{af:Array Edge}{g:Option (Nat×Bool)}{a:Act}{w:World}{K:Act->World->Prop}{Q:Exit->Act->World->Prop}(h:Am w 32 (a.eval x) (a.eval y)):Oper.wpIn F m prog {dst:=d,op:=.store 239 x y,type:=ty,pos:=ps,after:=af,guard:=g} a w K Q=K (a.put d undef) (Gx w (a.eval x) (a.eval y)):=by
 obtain⟨b,o,l,hx,hy,hl,h1,ht⟩:=h;have hv:=run_storeVar_mid (P:=prog) w b o 239 l.toArray (by rw[List.size_toArray,hl];exact ht) (by rw[List.size_toArray,hl];exact TC) (all_oneCell_toArray h1);rw[hx,hy,Wo];unfold Oper.wpIn;rw[Oper.semAt_plain _ _ _ (λc=>by simp)];unfold execOp;simp only[hx,hy,Instr.storeAt,Instr.sureAddr,Sem.run_bind,Sem.run_pure,Result.andThen_ok,hv];exact propext ⟨λh=>h.2,λh=>⟨λf hf=>by simp[Oper.about]at hf,h⟩⟩
theorem yU {F:Fence}{m:Nat}{x y:Operand}{d:Option Nat}{ty:TypeId}{ps:String}{af:Array Edge}{g:Option (Nat×Bool)}{a:Act}{w:World}{K:Act->World->Prop}{Q:Exit->Act->World->Prop}(h:Am w 33 (a.eval x) (a.eval y)):Oper.wpIn F m prog {dst:=d,op:=.store 241 x y,type:=ty,pos:=ps,after:=af,guard:=g} a w K Q=K (a.put d undef) (Gx w (a.eval x) (a.eval y)):=by
 obtain⟨b,o,l,hx,hy,hl,h1,ht⟩:=h;have hv:=run_storeVar_mid (P:=prog) w b o 241 l.toArray (by rw[List.size_toArray,hl];exact ht) (by rw[List.size_toArray,hl];exact nG) (all_oneCell_toArray h1);rw[hx,hy,Wo];unfold Oper.wpIn;rw[Oper.semAt_plain _ _ _ (λc=>by simp)];unfold execOp;simp only[hx,hy,Instr.storeAt,Instr.sureAddr,Sem.run_bind,Sem.run_pure,Result.andThen_ok,hv];exact propext ⟨λh=>h.2,λh=>⟨λf hf=>by simp[Oper.about]at hf,h⟩⟩
attribute [local go_sem] Oper.semAt_some Dv Wo
attribute [local go_sem ↓] wU zU xU yU
def xq (N m:Nat):List Nat:=(List.range m).map (λj=>N-1-j)
theorem LC (N m:Nat):xq N (m+1)=xq N m++[N-1-m]:=by simp[xq,List.range_succ]
abbrev wz (N:Nat):={q:Nat//q<N}
def Gt (l:List (Nat×ByteArray))(q:Nat):Value:=.agg (qd (l.getD q (0,⟨#[]⟩))).toArray
def yj (Bs P:Nat)(A B:World):Prop:=(∀i,B.cell? ⟨Bs,i,none⟩=A.cell? ⟨Bs,i,none⟩)/\(∀i,B.cell? ⟨P,i,none⟩=A.cell? ⟨P,i,none⟩)
theorem yj.refl (Bs P:Nat)(A:World):yj Bs P A A:=⟨λ_=>rfl,λ_=>rfl⟩
theorem yj.trans {Bs P:Nat}{A B C:World}(h:yj Bs P A B)(k:yj Bs P B C):yj Bs P A C:=⟨λi=>(k.1 i).trans (h.1 i),λi=>(k.2 i).trans (h.2 i)⟩
theorem yj.of_below {Bs P n:Nat}{A B:World}(h:Below n A B)(hs:Bs<n)(hn:P<n):yj Bs P A B:=⟨λi=>h.cell (p:=⟨Bs,i,none⟩) hs,λi=>h.cell (p:=⟨P,i,none⟩) hn⟩
theorem yj.range {Bs P:Nat}{A B:World}(h:yj Bs P A B){o:Nat}{cs:List Value}(hr:A.rangeAt P o cs):B.rangeAt P o cs:=λj v hv=>(h.2 (o+j)).trans (hr j v hv)
theorem OW (a:Option Addr)(n c:Nat)(w:World):Calls prog 253 #[slice a n c] w λe w'=>e=.returned (.func (.func 302) #[] #[pointer (some ⟨w.heap.size,0,none⟩)])/\w'=w.alloc (.cells #[slice a n c] 180):=by
 go_enter func253,ntmps253;go_wp2;go_ret;exact⟨rfl,rfl⟩
theorem NW (n:Nat)(hn:1<=n)(lp Bs P N c:Nat)(a:Option Addr)(ha:0<N->a=some ⟨P,0,none⟩)(l:List (Nat×ByteArray))(hN:l.length=N)(Lt:N<=1000)(hc:N<=c)(hl:∀p∈l,(qd p).length=33)(J Jx:List (wz N)->World->Prop)
  (hY:∀pre x W,J pre W->pre.length<N->YieldAt Fence.wide (n-1) prog lp #[int i64 (x.1:Nat),Gt l x.1] W λe W'=>
   (e=.returned (.bool true)/\J (pre++[x]) W'/\yj Bs P W W')\/(e=.returned (.bool false)/\Jx (pre++[x]) W'))
  (W:World)(Zj:W.cell? ⟨Bs,0,none⟩=some (slice a N c))(hrow:∀(j:Nat) p,l[j]?=some p->W.rangeAt P (j*33) (qd p))(h0:J [] W):CallsIn Fence.wide n prog 302 #[.func (.yield lp) #[] #[],pointer (some ⟨Bs,0,none⟩)] W λe W'=>(∃v,e=.returned v)/\((∃ys:List (wz N),ys.map (·.1)=xq N N/\J ys W')\/(∃pre:List (wz N),(∃m,m<=N/\pre.map (·.1)=xq N m)/\Jx pre W')):=by
 refine callsIn_of_wp func302 rfl trivial ?_ rfl;simp only[ntmps302,List.size_toArray,List.length_cons,List.length_nil,Nat.reduceAdd,Nat.reduceSub,Array.replicate_succ,Array.replicate_zero,List.push_toArray,List.append_toArray,List.nil_append,List.cons_append]
 gi_wp2
 gi_loopw [3] (λi wr=>∃(m:Nat) (pre:List (wz N)),m<=N/\i=int i64 ((N:Int)-1-m)/\pre.map (·.1)=xq N m/\J pre wr/\yj Bs P W wr)
  (λi _=>(intOf i+1).toNat)
 case atStart=>exact⟨0,[],Nat.zero_le _,by simp,rfl,h0,yj.refl _ _ _⟩
 case round=>
  obtain⟨m,pre,hm,rfl,hpre,hJs,hnx⟩:=hrel;have cs:wr.cell? ⟨Bs,0,none⟩=some (slice a N c):=(hnx.1 0).trans Zj;by_cases hlt:m<N
  ·obtain rfl:=ha (by omega);obtain⟨q,hq⟩:∃q:Nat,q+m+1=N:=⟨N-1-m,by omega⟩;have hqi:((N:Int)-1-m)=(q:Int):=by omega
   have gQ:N-1-m=q:=by omega
   have Jo:q<N:=by omega
   obtain⟨p,hp⟩:∃p,l[q]?=some p:=⟨_,List.getElem?_eq_getElem (by omega)⟩;have l1:=Po (qd p) 33 wr P (q*33) (hl p (List.mem_of_getElem? hp)) (hnx.range (hrow q p hp));have hen:Gt l q=.agg (qd p).toArray:=by rw[Gt,List.getD_eq_getElem?_getD,hp];rfl
   have gF:pre.length<N:=by
    have h:=congrArg List.length hpre;simp[xq]at h;omega
   have Tp:=Qa (λV hV=>hY pre ⟨q,Jo⟩ V hV gF);dsimp only at Tp;rw[hen]at Tp;have zM:=Qa hpre;have FM:=Qa gQ;have i0:(0:Int)<=(q:Int):=by omega
   have i1:(q:Int)<(N:Int):=by omega
   rw[hqi];clear hY hen hpre gQ hqi;obtain⟨fn,tmps,assign,body,hy,hR⟩:=Tp.out wr hJs
   gi_wp2
   refine hR.mono ?_
   rintro e W3 (⟨rfl,hJ3,hk3⟩|⟨rfl,hJx3⟩)
   ·gi_wp2
    go_roundw
    case rel=>exact⟨m+1,pre++[⟨q,Jo⟩],by omega,by congr 1;omega,by rw[List.map_append,zM.out,LC,FM.out];rfl,hJ3,hnx.trans hk3⟩
    case measure=>simp[intOf]
   ·gi_wp2
    refine bodyPost_ret (results_none rfl _ _ _) rfl ?_;exact⟨⟨_,rfl⟩,.inr ⟨_,⟨m+1,by omega,by rw[List.map_append,zM.out,LC,FM.out];rfl⟩,hJx3⟩⟩
  ·obtain rfl:m=N:=by omega
   have hneg:((m:Int)-1-m)= -1:=by omega
   rw[hneg];clear hneg
   gi_wp2
   go_end0;exact⟨⟨_,rfl⟩,.inl ⟨pre,hpre,hJs⟩⟩
theorem QW (n:Nat)(hn:1<=n)(Bs P N c:Nat)(a:Option Addr)(ha:0<N->a=some ⟨P,0,none⟩)(l:List (Nat×ByteArray))(hN:l.length=N)(Lt:N<=1000)(hc:N<=c)(hl:∀p∈l,(qd p).length=33)(w:World)(hs:Bs<w.heap.size)(hP:P<w.heap.size)(Zj:w.cell? ⟨Bs,0,none⟩=some (slice a N c))(hrow:∀(j:Nat) p,l[j]?=some p->w.rangeAt P (j*33) (qd p)):SeqStopsK Fence.wide n prog 302 #[pointer (some ⟨Bs,0,none⟩)] (λq:wz N=>#[int i64 (q.1:Nat),Gt l q.1]) (yj Bs P) (λys=>ys.map (·.1)=xq N N) (λys=>∃m,m<=N/\ys.map (·.1)=xq N m) N w:=λlp J Jx W hW _ _ hY h0=>
 NW n hn lp Bs P N c a ha l hN Lt hc hl J Jx hY W ((hW.cell (p:=⟨Bs,0,none⟩) hs).trans Zj) (λj p hp=>(yj.of_below hW hs hP).range (hrow j p hp)) h0
end Go.Proofs.YtgaoeoijdpdjiabGreatDoor
namespace Go.Proofs.YtgaoeoijdpdjiabGreatDoor
open Go.RowKit Go.Shelf
attribute [local go_sem] Oper.semAt_some Dv Wo
attribute [local go_sem ↓] wU zU xU yU fD EG Go.wp_at_zero Go.wp_at_succ
def Ym (l:List (Nat×ByteArray))(i:Nat):Nat->Option ByteArray
 |0=>none
 |m+1=>if(l.getD m (0,⟨#[]⟩)).1=i then some (l.getD m (0,⟨#[]⟩)).2 else Ym l i m
def ak (s:Da)(i:Nat):ByteArray:=(Ym s.pend i s.pend.length).getD (s.dur.getD i ⟨#[]⟩)
theorem xN (l:List (Nat×ByteArray))(i m N:Nat)(hN:m<=N)(h:∀q∈xq N m,(l.getD q (0,⟨#[]⟩)).1≠i):Ym l i N=Ym l i (N-m):=by
 induction m with
 |zero=>rfl
 |succ m ih=>
  rw[ih (by omega) (λq hq=>h q (by rw[LC];exact List.mem_append.2 (.inl hq)))];have hl:=h (N-1-m) (by rw[LC];simp);rw[show N-m=(N-1-m)+1 by omega,Ym,if_neg hl];congr 1;omega
theorem vS (tmps:Array Value)(w:World)(R:Nat)(x:ByteArray)(hx:x.size=32)(ht:tmps.getD 4 undef=pointer (some ⟨R,0,none⟩)){fr:Nat×Nat}{t:TypeId}(hr:w.heap[R]?=some (.cells (Ac x).toArray t fr)):(results f176 tmps).run prog w=.ok (.agg (Ac x).toArray) w:=by
 have hv:=run_loadVar_mid (P:=prog) w R 0 239 (Ac x) _ (λj v hv=>by rw[Nat.zero_add];exact Qh hr hv) underlying239 rfl (by rw[Xj hx];exact TC);unfold results;rw[results176];have ht':tmps[4]?.getD undef=pointer (some ⟨R,0,none⟩):=by simpa using ht
 simp[ht',asAddr,hv]
theorem CR (L vs:List Value)(h:vs.length=L.length):Lr L 0 vs=vs:=by
 apply List.ext_getElem?;intro k;rw[JF _ _ _ _ (by omega)];by_cases hk:k<vs.length
 ·rw[if_pos ⟨Nat.zero_le _,by omega⟩,Nat.sub_zero]
 ·rw[if_neg (by omega),List.getElem?_eq_none (by omega),List.getElem?_eq_none (by omega)]
theorem JA {β:Type}(b:Nat)(cs:Array Value)(t:TypeId)(fr:Nat×Nat):Own (λ(_:β) W=>W.heap[b]?=some (.cells cs t fr)):=λ_ _ _ _ hs hg hr=>
 (grownBy_keeps_cells hg hr hs rfl).trans hs
theorem u7 (lo D E:Nat)(pv:Value)(s:Da)(i:Nat)(w:World)(h:Ta lo D E pv s w)(hi:i<s.n):Calls prog 176 #[pointer (some ⟨D,0,none⟩),int i64 i] w λe w'=>e=.returned (.agg (Ac (ak s i)).toArray)/\Below w.heap.size w w':=by
 obtain⟨a,c,hpv⟩:=qi h.pending;have hm:=h.ok.most;have hDlt:=h.ltD
 obtain⟨P,yB,DZ,hcap,hrow⟩:∃P,P<w.heap.size/\(0<s.pend.length->a=some ⟨P,0,none⟩)/\s.pend.length<=c/\∀(j:Nat) p,s.pend[j]?=some p->w.rangeAt P (j*33) (qd p):=by
  by_cases h0:0<s.pend.length
  ·obtain⟨P,cap,e,hc,hP,hr⟩:=h.row h0;rw[hpv]at e;simp only[Value.slice.injEq]at e;exact⟨P,hP,λ_=>e.1,by rw[e.2.2];exact hc,hr⟩
  ·refine⟨D,hDlt,λh=>absurd h h0,by omega,λj p hp=>?_⟩;have:j<s.pend.length:=(List.getElem?_eq_some_iff.1 hp).1;omega
 subst hpv;have Zn:=Qa h.penLen;have Pp:=Qa h.ok.pen;have HD:=Qa h;have Qp:=Qa hrow;clear hrow;have c1:=h.c1;clear h;refine(callsIn_wide (n:=6)).1 ?_;refine callsIn_of_wp_marks func176 rfl trivial ?_ rfl;simp only[ntmps176,List.size_toArray,List.length_cons,List.length_nil,Nat.reduceAdd,Nat.reduceSub,Array.replicate_succ,Array.replicate_zero,List.push_toArray,List.append_toArray,List.nil_append,List.cons_append]
 gi_wp2_with (refine⟨trivial,?_⟩;gi_at_call 253;refine(callsIn_wide.2 (OW _ _ _ _)).mono ?_;rintro e w' ⟨rfl,rfl⟩)
 obtain⟨W3,hW3⟩:=Ca (((w.alloc (.cells #[int i64 ((i:Nat):Int)] 3)).alloc (.cells (List.replicate 32 (Value.int .u8 0)).toArray 239)).alloc (.cells #[slice a s.pend.length c] 180));have hz3:W3.heap.size=w.heap.size+3:=by subst hW3;simp
 have hB3:Below w.heap.size w W3:=by subst hW3;exact(((Va _).alloc (by simp) _).alloc (by simp;omega) _)
 have k0:W3.heap[w.heap.size]?=some (.cells #[int i64 ((i:Nat):Int)] 3 (0,0)):=by
  subst hW3;rw[heap_alloc_old _ _ (by simp;omega),heap_alloc_old _ _ (by simp)];exact heap_alloc_new w _
 have k1:W3.heap[w.heap.size+1]?=some (.cells (List.replicate 32 (Value.int .u8 0)).toArray 239 (0,0)):=by
  subst hW3;rw[heap_alloc_old _ _ (by simp)];have:=heap_alloc_new (w.alloc (.cells #[int i64 ((i:Nat):Int)] 3)) (.cells (List.replicate 32 (Value.int .u8 0)).toArray 239)
  rwa [World.size_alloc]at this
 have k2:W3.heap[w.heap.size+2]?=some (.cells #[slice a s.pend.length c] 180 (0,0)):=by
  subst hW3;have:=heap_alloc_new ((w.alloc (.cells #[int i64 ((i:Nat):Int)] 3)).alloc (.cells (List.replicate 32 (Value.int .u8 0)).toArray 239)) (.cells #[slice a s.pend.length c] 180)
  rwa [World.size_alloc,World.size_alloc]at this
 change Code.wpIn _ _ _ _ _ _ (((w.alloc (.cells #[int i64 ((i:Nat):Int)] 3)).alloc (.cells (List.replicate 32 (Value.int .u8 0)).toArray 239)).alloc (.cells #[slice a s.pend.length c] 180));rw[hW3];clear hW3;have Zj:W3.cell? ⟨w.heap.size+1+1,0,none⟩=some (slice a s.pend.length c):=Qh (L:=[_]) k2 rfl
 refine wpIn_rangeFunc_ownH rfl (by omega) (gf:=302) (lb:=#[pointer (some ⟨w.heap.size+1+1,0,none⟩)]) rfl trivial (enters_of func302 (by kernel_rfl) rfl)
  (QW (6-1) (by omega) (w.heap.size+1+1) P s.pend.length c a DZ s.pend rfl (by omega) hcap Zn.out W3 (by omega) (by omega) Zj (λj p hp=>λq v hv=>(hB3.cell (p:=⟨P,j*33+q,none⟩) yB).trans (Qp.out j p hp q v hv)))
  yj.trans (λV lv ov nK hl h h' h''=>yj.of_below (belowK_b (w:=W3) Aa V lv ov nK hl h h' h'') (by omega) (by omega)) Vb (λ_=>rfl)
  (λpre W=>(∀q∈pre,(s.pend.getD q.1 (0,⟨#[]⟩)).1≠i)/\W.heap[w.heap.size]?=some (.cells #[int i64 ((i:Nat):Int)] 3 (0,0))/\W.heap[w.heap.size+1]?=some (.cells (List.replicate 32 (Value.int .u8 0)).toArray 239 (0,0))/\W.heap[w.heap.size+2]?=some (.cells #[slice a s.pend.length c] 180 (0,0))/\Below w.heap.size w W)
  (λcd ys W=>cd=.ret/\(∃pre x,ys=pre++[x]/\(∀q∈pre,(s.pend.getD q.1 (0,⟨#[]⟩)).1≠i)/\(s.pend.getD x.1 (0,⟨#[]⟩)).1=i/\W.heap[w.heap.size+1]?=some (.cells (Ac (s.pend.getD x.1 (0,⟨#[]⟩)).2).toArray 239 (0,0)))/\Below w.heap.size w W)
  (λys A B row hs hg hr=>⟨hs.1,JA _ _ _ _ () A B row hs.2.1 hg (λr e=>(hr r e).2),JA _ _ _ _ () A B row hs.2.2.1 hg (λr e=>(hr r e).2),JA _ _ _ _ () A B row hs.2.2.2.1 hg (λr e=>(hr r e).2),ownFrom_below (β:=Unit) (n₀:=w.heap.size) (B:=W3.heap.size) (w₀:=w) Aa (by omega) () A B row hs.2.2.2.2 hg hr⟩)
  (λcd ys A B row hs hg hr=>by
   obtain⟨e,⟨pre,x,h1,h2,h3,h4⟩,h5⟩:=hs;exact⟨e,⟨pre,x,h1,h2,h3,JA _ _ _ _ () A B row h4 hg (λr e=>(hr r e).2)⟩,ownFrom_below (β:=Unit) (n₀:=w.heap.size) (B:=W3.heap.size) (w₀:=w) Aa (by omega) () A B row h5 hg hr⟩)
  ⟨by simp,k0,k1,k2,hB3⟩
  (λq a' W=>∃T,W3.heap.size<=T/\W.heap[T]?=some (.cells (qd (s.pend.getD q.1 (0,⟨#[]⟩))).toArray 241 (0,0))/\a'={tmps:=#[pointer (some ⟨D,0,none⟩),int i64 ((i:Nat):Int),undef,pointer (some ⟨w.heap.size,0,none⟩),pointer (some ⟨w.heap.size+1,0,none⟩),undef,pointer (some ⟨T,0,none⟩),pointer (some ⟨D,0,none⟩),pointer (some ⟨D,0,none⟩),pointer (some ⟨D,1,none⟩),slice a s.pend.length c,.func (.func 302) #[] #[pointer (some ⟨w.heap.size+1+1,0,none⟩)],int i64 ((q.1:Nat):Int),Gt s.pend q.1,undef,undef,undef,undef,undef,undef,undef,undef,undef,undef,undef,undef,undef],defers:=[]})
  (λq a' u A B row hs hg hr=>by
   obtain⟨T,h1,h2,h3⟩:=hs;exact⟨T,h1,JA _ _ _ _ () A B row h2 hg (λr e=>(hr r e).2),h3⟩)
  ?assign ?body ?done ?stop
 case assign=>
  rintro l pre ⟨q,hq⟩ W K hI hK
  obtain⟨hp1,hp2,hp3,Jk,iq⟩:=hI;have hp:s.pend[q]?=some (s.pend.getD q (0,⟨#[]⟩)):=by rw[List.getD_eq_getElem?_getD,List.getElem?_eq_getElem hq];rfl
  have Zd:=Pp.out _ (List.mem_of_getElem? hp);have hen:Gt s.pend q=.agg (qd (s.pend.getD q (0,⟨#[]⟩))).toArray:=rfl;have hag:∀cc:Array Value,cc.size=33->Am (W.alloc (.cells cc 241)) 33 (pointer (some ⟨W.heap.size,0,none⟩)) (Gt s.pend q):=λcc hcc=>⟨_,_,_,rfl,hen,Nr Zd.2,LF _,aD W cc _ 33 hcc⟩
  have hsn:∀cc:Array Value,cc.size=33->Gx (W.alloc (.cells cc 241)) (pointer (some ⟨W.heap.size,0,none⟩)) (Gt s.pend q)=W.alloc (.cells (qd (s.pend.getD q (0,⟨#[]⟩))).toArray 241):=λcc hcc=>by
   rw[hen,Wo];exact kG W cc _ _ (by rw[hcc,Nr Zd.2])
  have Py:Below W.heap.size W (W.alloc (.cells (qd (s.pend.getD q (0,⟨#[]⟩))).toArray 241)):=Va _;have gJ:w.heap.size+2<W.heap.size:=(Array.getElem?_eq_some_iff.1 Jk).1
  have Vn:=Qa (hK {tmps:=#[pointer (some ⟨D,0,none⟩),int i64 ((i:Nat):Int),undef,pointer (some ⟨w.heap.size,0,none⟩),pointer (some ⟨w.heap.size+1,0,none⟩),undef,pointer (some ⟨W.heap.size,0,none⟩),pointer (some ⟨D,0,none⟩),pointer (some ⟨D,0,none⟩),pointer (some ⟨D,1,none⟩),slice a s.pend.length c,.func (.func 302) #[] #[pointer (some ⟨w.heap.size+1+1,0,none⟩)],int i64 ((q:Nat):Int),Gt s.pend q,undef,undef,undef,undef,undef,undef,undef,undef,undef,undef,undef,undef,undef],defers:=[]} (W.alloc (.cells (qd (s.pend.getD q (0,⟨#[]⟩))).toArray 241)) ((KeepsOthers.alloc W _).from _) (yj.of_below Py (by omega) (by omega))
   ⟨hp1,by rw[Py.block _ (by omega)];exact hp2,by rw[Py.block _ (by omega)];exact hp3,by rw[Py.block _ (by omega)];exact Jk,iq.trans (Py.mono (by omega))⟩ ⟨W.heap.size,by omega,heap_alloc_new W _,rfl⟩)
  clear hK Py hp hen Zd;generalize s.pend.getD q (0,⟨#[]⟩)=p at*
  gi_wp2
  exact Vn.out
 case body=>
  rintro l pre ⟨q,hq⟩ a' W hl hr ⟨hp1,hp2,hp3,Jk,iq⟩ ⟨T,hT,SE,rfl⟩ hlt
  have hp:s.pend[q]?=some (s.pend.getD q (0,⟨#[]⟩)):=by rw[List.getD_eq_getElem?_getD,List.getElem?_eq_getElem hq];rfl
  have Zd:=(Pp.out _ (List.mem_of_getElem? hp)).2
  have HI:Hid ((s.pend.getD q (0,⟨#[]⟩)).1≠i->∀q'∈pre++[⟨q,hq⟩],(s.pend.getD q'.1 (0,⟨#[]⟩)).1≠i):=by
   intro h q' hq';rcases List.mem_append.1 hq' with h'|h'
   ·exact hp1 q' h'
   ·rw[List.mem_singleton.1 h'];exact h
  have HX:Hid (∀W':World,(s.pend.getD q (0,⟨#[]⟩)).1=i->W'.heap[w.heap.size+1]?=some (.cells (Ac (s.pend.getD q (0,⟨#[]⟩)).2).toArray 239 (0,0))->∃pre' x,pre++[⟨q,hq⟩]=pre'++[x]/\(∀q∈pre',(s.pend.getD q.1 (0,⟨#[]⟩)).1≠i)/\(s.pend.getD x.1 (0,⟨#[]⟩)).1=i/\W'.heap[w.heap.size+1]?=some (.cells (Ac (s.pend.getD x.1 (0,⟨#[]⟩)).2).toArray 239 (0,0))):=λW' h1 h2=>⟨pre,⟨q,hq⟩,rfl,hp1,h1,h2⟩;generalize hpe:s.pend.getD q (0,⟨#[]⟩)=p at*;clear hpe hp;have t0:W.cell? ⟨T,0,none⟩=some (int i64 ((p.1:Nat):Int)):=Qh SE rfl;have i0:W.cell? ⟨w.heap.size,0,none⟩=some (int i64 ((i:Nat):Int)):=Qh (L:=[_]) hp2 rfl;have gJ:w.heap.size+2<W.heap.size:=(Array.getElem?_eq_some_iff.1 Jk).1;by_cases he:p.1=i
  ·have hb:(((p.1:Nat):Int)==((i:Nat):Int))=true:=by rw[he];exact beq_self_eq_true _
   have l2:Zh W T 1 32=some (Ac p.2):=Po _ _ _ _ _ (Xj Zd) (λq v hv=>by
    refine Qh SE ?_;rw[show 1+q=q+1 by omega,qd,Na];exact hv)
   have so:Am W 32 (pointer (some ⟨w.heap.size+1,0,none⟩)) (.agg (Ac p.2).toArray):=⟨_,_,_,rfl,rfl,Xj Zd,Fy _,λj hj=>⟨by rw[cell_of_row W _ _ _ _ _ hp3,jb,List.getElem?_eq_getElem (by simp;omega)];rfl,EE hp3 _⟩⟩;have HB1:=Qa (qE (w.heap.size+1) (Ac p.2) 0 (List.replicate 32 (Value.int .u8 0)) W hp3);rw[CR _ _ (by rw[Xj Zd];simp)]at HB1;have HE:=Qa he;have Ud:=Qa (show Below w.heap.size w (W.setCells (w.heap.size+1) 0 (Ac p.2))from iq.trans ((Zu (w.heap.size+1) (Ac p.2) 0 W).below (λk e=>by omega) (by omega)));have Gl:=Qa (show KeepsFrom W3.heap.size W (W.setCells (w.heap.size+1) 0 (Ac p.2))from⟨(Zu _ _ _ _).size,λk o hk ho _=>by rw[(Zu (w.heap.size+1) (Ac p.2) 0 W).block k (Array.getElem?_eq_some_iff.1 ho).1 (λe=>by omega)];exact ho⟩);clear he hp1 hp2 hp3 Jk iq SE Zd
   gi_wp2
   exact⟨Gl.out,rfl,HX.out _ HE.out HB1.out,Ud.out⟩
  ·have hb:(((p.1:Nat):Int)==((i:Nat):Int))=false:=by rw[beq_eq_false_iff_ne];omega
   have lV:=Qa (HI.out he);clear he;have oD:=Qa (And.intro hp2 (And.intro hp3 (And.intro Jk iq)));clear hp2 hp3 Jk iq SE
   gi_wp2
   exact⟨KeepsFrom.refl _ _,yj.refl _ _ _,lV.out,oD.out.1,oD.out.2.1,oD.out.2.2.1,oD.out.2.2.2⟩
 case done=>
  rintro Dd ys W hD hys ⟨hp1,hp2,hp3,Jk,iq⟩ hK
  have uV:Hid (Ym s.pend i s.pend.length=none):=by
   show _=_
   rw[xN s.pend i s.pend.length s.pend.length Aa (λq hq=>by
    rw[<-hys]at hq;obtain⟨y,hy,rfl⟩:=List.mem_map.1 hq;exact hp1 y hy),Nat.sub_self]
   rfl
  obtain⟨xs,hxs⟩:∃xs,s.dur[i]?=some xs:=⟨_,List.getElem?_eq_getElem (by rw[HD.out.ok.len];exact hi)⟩;have hx32:=HD.out.ok.sec xs (List.mem_of_getElem? hxs);have Xv:Hid (ak s i=xs):=by show _=_;rw[ak,uV.out,List.getD_eq_getElem?_getD,hxs];rfl
  have RG:=Qa (HD.out.below iq);have d0:=RG.out.c0;have dQ:=RG.out.ok.hi;have i0:W.cell? ⟨w.heap.size,0,none⟩=some (int i64 ((i:Nat):Int)):=Qh (L:=[_]) hp2 rfl;have l2:Zh W.drew E (i*32) 32=some (Ac xs):=Po _ _ _ _ _ (Xj hx32) (RG.out.drew.rangeE i xs hxs);have so:Am W.drew 32 (pointer (some ⟨w.heap.size+1,0,none⟩)) (.agg (Ac xs).toArray):=⟨_,_,_,rfl,rfl,Xj hx32,Fy _,λj hj=>⟨by show(W.cell? _).isSome=true;rw[cell_of_row W _ _ _ _ _ hp3,jb,List.getElem?_eq_getElem (by simp;omega)];rfl,EE hp3 _⟩⟩;have HB1:=Qa (qE (w.heap.size+1) (Ac xs) 0 (List.replicate 32 (Value.int .u8 0)) W.drew hp3);rw[CR _ _ (by rw[Xj hx32];simp)]at HB1;have Ud:=Qa (show Below w.heap.size w (W.drew.setCells (w.heap.size+1) 0 (Ac xs))from iq.drew.trans ((Zu (w.heap.size+1) (Ac xs) 0 W.drew).below (λk e=>by omega) iq.size))
  have Qq:Hid ((W.drew.setCells (w.heap.size+1) 0 (Ac xs)).heap[Dd]?=some (.deferred (some []))):=by
   show _=_;rw[(Zu (w.heap.size+1) (Ac xs) 0 W.drew).block Dd (Array.getElem?_eq_some_iff.1 hK).1 (λe=>by omega)];exact hK
  have UH:=Qa hx32;have q0:(0:Int)<=(i:Int):=by omega
  have q1:(i:Int)<(s.n:Int):=by omega
  clear hx32 hxs hp1 hp2 hp3 Jk iq hys
  gi_wp2
  refine wpIn_wide.2 ?_;refine wp_region_noPanic ?_;go_region_law (fail)
  all_goals
   refine NoPanic.normal ?_
   gi_wp2
   refine⟨by simp,.inl ⟨_,_,rfl,run_takeDeferred Qq.out,?_⟩⟩;refine⟨_,vS _ _ (w.heap.size+1) xs UH.out rfl (fr:=(0,0)) (t:=239) ?_,?_,?_⟩
   ·rw[World.putObj_heap_other (by omega)];exact HB1.out
   ·rw[Xv.out]
   ·exact Ud.out.trans (belowK_b (w:=w) Aa _ Dd _ _ (by omega) Qq.out rfl rfl)
 case stop=>
  rintro Dd cd ys W hD ⟨m,hm1,hm2⟩ ⟨rfl,⟨pre,x,rfl,h2,h3,h4⟩,h5⟩ hK
  have hlen:=congrArg List.length hm2;simp[xq]at hlen;have ZZ:m=pre.length+1:=by omega
  rw[ZZ,LC,List.map_append]at hm2;obtain⟨e1,e2⟩:=List.append_inj' hm2 rfl;have e3:x.1=s.pend.length-1-pre.length:=by simpa using e2
  have hlat:ak s i=(s.pend.getD x.1 (0,⟨#[]⟩)).2:=by
   rw[ak,xN s.pend i pre.length s.pend.length (by omega) (λq hq=>by
    rw[<-e1]at hq;obtain⟨y,hy,rfl⟩:=List.mem_map.1 hq;exact h2 y hy)]
   rw[show s.pend.length-pre.length=x.1+1 by omega,Ym,if_pos h3];rfl
  have hx32:(ak s i).size=32:=by
   rw[hlat];have hp:s.pend[x.1]?=some (s.pend.getD x.1 (0,⟨#[]⟩)):=by rw[List.getD_eq_getElem?_getD,List.getElem?_eq_getElem x.2];rfl
   exact(Pp.out _ (List.mem_of_getElem? hp)).2
  rw[<-hlat]at h4;have H4:=Qa h4;have H5:=Qa h5;have UH:=Qa hx32;clear h4 h5 h2 h3 hm2 hlen e1 e2 e3 hlat hx32
  gi_wp2
  refine⟨by simp,.inl ⟨_,_,rfl,run_takeDeferred hK,?_⟩⟩;refine⟨_,vS _ _ (w.heap.size+1) (ak s i) UH.out rfl (fr:=(0,0)) (t:=239) ?_,rfl,?_⟩
  ·rw[World.putObj_heap_other (by omega)];exact H4.out
  ·exact H5.out.trans (belowK_b (w:=w) Aa _ Dd _ _ (by omega) hK rfl rfl)
end Go.Proofs.YtgaoeoijdpdjiabGreatDoor
namespace Go.Proofs.YtgaoeoijdpdjiabGreatDoor
open Go.RowKit
attribute [local go_sem ↓] fD EG Go.wp_at_zero Go.wp_at_succ
attribute [local go_sem] Dv Wo
theorem ef0 (w:World)(g cap:Nat)(x:ByteArray)(hr:w.rangeAt g 0 (Ac x)):(convert 170 9 (slice (some ⟨g,0,none⟩) x.size cap)).run prog w=.ok (string x) w:=by
 have:=run_convert_bytes_back (P:=prog) w 170 9 5 ⟨g,0,none⟩ cap x.data.toList underlying170 underlying5 underlying9 (by
  intro j hj;rw[Addr.add_mid];refine hr j _ ?_;rw[Ac,List.getElem?_map,List.getElem?_eq_getElem hj];rfl)
 simpa using this
theorem A7 {lo D E:Nat}{pv:Value}{s:Da}{w:World}(h:Ta lo D E pv s w)(i:Nat)(hi:i<s.n):(ak s i).size=32:=by
 have hb:∀m,m<=s.pend.length->∀x,Ym s.pend i m=some x->x.size=32:=by
  intro m
  induction m with
  |zero=>intro _ x hx;simp[Ym]at hx
  |succ m ih=>
   intro hm x hx;rw[Ym]at hx;by_cases he:(s.pend.getD m (0,⟨#[]⟩)).1=i
   ·rw[if_pos he]at hx
    cases hx
    have hp:s.pend[m]?=some (s.pend.getD m (0,⟨#[]⟩)):=by rw[List.getD_eq_getElem?_getD,List.getElem?_eq_getElem (by omega)];rfl
    exact(h.ok.pen _ (List.mem_of_getElem? hp)).2
   ·rw[if_neg he]at hx;exact ih (by omega) x hx
 unfold ak
 cases hx:Ym s.pend i s.pend.length with
 |some x=>exact hb _ Aa x hx
 |none=>
  have hl:i<s.dur.length:=by rw[h.ok.len];exact hi
  show(s.dur.getD i ⟨#[]⟩).size=32;rw[List.getD_eq_getElem?_getD,List.getElem?_eq_getElem hl];exact h.ok.sec _ (List.getElem_mem hl)
def Ec (s:Da)(i:Int):ByteArray×Int:=if¬(0<=i/\i<s.n)then(⟨#[]⟩,4)else if s.trouble=1 then(⟨#[]⟩,5)else(ak s i.toNat,0)
def Sb (s:Da)(i:Int):Da:=if¬(0<=i/\i<s.n)then s else{s with trouble:=Ve s.trouble}
theorem dS (lo D E:Nat)(pv:Value)(s:Da)(i:Int)(w:World)(h:Ta lo D E pv s w):Calls prog 103 #[pointer (some ⟨D,0,none⟩),int i64 i] w λe w'=>e=.returned (.tuple #[string (Ec s i).1,int i64 (Ec s i).2])/\Ta lo D E pv (Sb s i) w'/\za (λk=>k=D) w w':=by
 have HH:=Qa (ZA lo D E pv s i w h);have HD:=Qa h;by_cases hi:0<=i/\i<s.n
 ·have HF:=Qa (aB lo D E pv s w h);rw[decide_eq_true hi]at HH;by_cases h1:s.trouble=1
  ·rw[show Ec s i=(⟨#[]⟩,5) by rw[Ec,if_neg (λhn=>hn hi),if_pos h1],show Sb s i={s with trouble:=Ve s.trouble} by rw[Sb,if_neg (λhn=>hn hi)]];rw[decide_eq_true h1]at HF;clear h hi h1;go_enter func103,ntmps103;go_wp2_with fail;refine HH.out.mono ?_
   rintro e w1 ⟨rfl,rfl⟩
   go_wp2_with fail;refine HF.out.mono ?_
   rintro e w2 ⟨rfl,hd2,hk2⟩
   have HD2:=Qa hd2;have Gd:=Qa hk2;clear hd2 hk2;go_wp2;go_ret2;exact⟨rfl,HD2.out,Gd.out⟩
  ·rw[show Ec s i=(ak s i.toNat,0) by rw[Ec,if_neg (λhn=>hn hi),if_neg h1],show Sb s i={s with trouble:=Ve s.trouble} by rw[Sb,if_neg (λhn=>hn hi)]];rw[decide_eq_false h1]at HF;obtain⟨k,rfl⟩:=Int.eq_ofNat_of_zero_le hi.1;have hk:k<s.n:=by omega
   have Rq:=Qa (A7 h k hk);have jg:=Qa (λ(V:World) (hV:Ta lo D E pv {s with trouble:=Ve s.trouble} V)=>u7 lo D E pv {s with trouble:=Ve s.trouble} k V hV hk);have Jz:Hid (ak {s with trouble:=Ve s.trouble} k=ak s k):=rfl;rw[Jz.out]at jg;simp only[Int.toNat_natCast];clear h hi h1 hk Jz;generalize ak s k=x at*;go_enter func103,ntmps103;go_wp2_with fail;refine HH.out.mono ?_
   rintro e w1 ⟨rfl,rfl⟩
   go_wp2_with fail;refine HF.out.mono ?_
   rintro e w2 ⟨rfl,hd2,hk2⟩
   have HD2:=Qa hd2;have Gd:=Qa hk2;clear hd2 hk2 HF HH;go_wp2_with fail;refine(jg.out _ HD2.out).mono ?_
   rintro e w3 ⟨rfl,hb3⟩
   have HD3:=Qa (HD2.out.below hb3);have Dp:=Qa (Gd.out.after hb3);have hag:∀cc:Array Value,cc.size=32->Am (w3.alloc (.cells cc 239)) 32 (pointer (some ⟨w3.heap.size,0,none⟩)) (.agg (Ac x).toArray):=λcc hcc=>⟨_,_,_,rfl,rfl,Xj Rq.out,Fy x,aD w3 cc _ 32 hcc⟩;have hsn:∀cc:Array Value,cc.size=32->(w3.alloc (.cells cc 239)).setCells w3.heap.size 0 (Ac x)=w3.alloc (.cells (Ac x).toArray 239):=λcc hcc=>kG w3 cc _ _ (by rw[hcc,Xj Rq.out]);have hcv:=ef0 (w3.alloc (.cells (Ac x).toArray 239)) w3.heap.size 32 x (λj v hv=>by rw[Nat.zero_add];exact Qh (heap_alloc_new w3 _) hv);rw[Rq.out]at hcv;clear hb3 HD2 Gd;go_wp2;go_ret2;exact⟨rfl,HD3.out.below (Va _),Dp.out.alloc _⟩
 ·rw[Ec,Sb,if_pos hi,if_pos hi];rw[decide_eq_false hi]at HH;clear h hi;go_enter func103,ntmps103;go_wp2_with fail;refine HH.out.mono ?_
  rintro e w1 ⟨rfl,rfl⟩
  go_wp2;go_ret2;exact⟨rfl,HD.out,za.refl _ _⟩
end Go.Proofs.YtgaoeoijdpdjiabGreatDoor
namespace Go.Proofs.YtgaoeoijdpdjiabGreatDoor
open Go.RowKit
theorem Sd (y z:ByteArray)(hy:y.size<=1000)(hz:z.size<=1000)(w:World):(Op.stringOp .add y z).run prog w=.ok (string (y++z)) w:=run_string_add w _ _ (by omega) (by omega)
def Om (B:Nat)(w:World)(k b x t l:Int):Prop:=w.cell? ⟨B,0,none⟩=some (int i64 k)/\w.cell? ⟨B,1,none⟩=some (int i64 b)/\w.cell? ⟨B,2,none⟩=some (int i64 x)/\w.cell? ⟨B,3,none⟩=some (int i64 t)/\w.cell? ⟨B,4,none⟩=some (int i64 l)
theorem Om.below {B n:Nat}{w w':World}{k b x t l:Int}(h:Om B w k b x t l)(hb:Below n w w')(hB:B<n):Om B w' k b x t l:=by
 obtain⟨c0,c1,c2,c3,c4⟩:=h;exact⟨(hb.cell (p:=⟨B,0,none⟩) hB).trans c0,(hb.cell (p:=⟨B,1,none⟩) hB).trans c1,(hb.cell (p:=⟨B,2,none⟩) hB).trans c2,(hb.cell (p:=⟨B,3,none⟩) hB).trans c3,(hb.cell (p:=⟨B,4,none⟩) hB).trans c4⟩
def Zo (B:Nat)(w:World)(p0 p1 p2 p3:Int):Prop:=w.cell? ⟨B,0,none⟩=some (int i64 p0)/\w.cell? ⟨B,1,none⟩=some (int i64 p1)/\w.cell? ⟨B,2,none⟩=some (int i64 p2)/\w.cell? ⟨B,3,none⟩=some (int i64 p3)
theorem Zo.below {B n:Nat}{w w':World}{p0 p1 p2 p3:Int}(h:Zo B w p0 p1 p2 p3)(hb:Below n w w')(hB:B<n):Zo B w' p0 p1 p2 p3:=by
 obtain⟨c0,c1,c2,c3⟩:=h;exact⟨(hb.cell (p:=⟨B,0,none⟩) hB).trans c0,(hb.cell (p:=⟨B,1,none⟩) hB).trans c1,(hb.cell (p:=⟨B,2,none⟩) hB).trans c2,(hb.cell (p:=⟨B,3,none⟩) hB).trans c3⟩
theorem Te0 (k b x t l:Int)(seed:ByteArray)(p0 p1 p2 p3:Int)(w:World)(hk:k=1\/k=2)(h1:1<=b)(h2:b<=16)(hs:seed.size<=16)(hT:Tn w):Calls prog 299 #[.agg #[int i64 k,int i64 b,int i64 x,int i64 t,int i64 l,string seed,int i64 p0,int i64 p1,int i64 p2,int i64 p3]] w λe w'=>e=.returned (string (si k b seed p0 p1 p2 p3))/\Below w.heap.size w w':=by
 obtain⟨W0,hW⟩:=Ca (w.alloc (.cells #[int i64 k,int i64 b,int i64 x,int i64 t,int i64 l,string seed,int i64 p0,int i64 p1,int i64 p2,int i64 p3] 344));have HF:=aa (show Xp w.heap.size W0 k b x t l seed p0 p1 p2 p3 by subst hW;refine⟨?_,?_,?_,?_,?_,?_,?_,?_,?_,?_⟩<;>simp[go_sem]);have HB:=Xd hW;have hz:W0.heap.size=w.heap.size+1:=by subst hW;simp
 have HT:=aa (hT.on HB.out)
 have HS:=aa (λ(V:World) (h:Below W0.heap.size W0 V)=>(by
  obtain⟨c0,c1,c2,c3,c4,c5,c6,c7,c8,c9⟩:=HF.out.below h (by omega);exact⟨c0,c1,c2,c3,c4,c5,c6,c7,c8,c9,h⟩:V.cell? ⟨w.heap.size,0,none⟩=some (int i64 k)/\V.cell? ⟨w.heap.size,1,none⟩=some (int i64 b)/\V.cell? ⟨w.heap.size,2,none⟩=some (int i64 x)/\V.cell? ⟨w.heap.size,3,none⟩=some (int i64 t)/\V.cell? ⟨w.heap.size,4,none⟩=some (int i64 l)/\V.cell? ⟨w.heap.size,5,none⟩=some (string seed)/\V.cell? ⟨w.heap.size,6,none⟩=some (int i64 p0)/\V.cell? ⟨w.heap.size,7,none⟩=some (int i64 p1)/\V.cell? ⟨w.heap.size,8,none⟩=some (int i64 p2)/\V.cell? ⟨w.heap.size,9,none⟩=some (int i64 p3)/\Below W0.heap.size W0 V))
 have Xe:=aa (λV:World=>Pt p3 V)
 have HV:=aa (λ(V:World) (h:Below W0.heap.size W0 V)=>jK k b x t l 1 seed p0 p1 p2 p3 V.heap.size 0 1 [qa 1 p3] (V.alloc (.cells #[string (qa 1 p3)] 9)) (by
  intro j y hj
  match j,hj with
  |0,hj=>simp at hj;subst hj;simp[go_sem]) (by simp) (by simp) (by simp) hk h1 h2 (by rw[Eu];simp[Sa];omega) ((HT.out.on h).alloc _))
 simp only[Dc,Ar,List.length_cons,List.length_nil,Nat.reduceAdd]at HV;clear hT;go_enter func299,ntmps299;go_wp2_with fail;try rw[hW]
 go_region_held3 (λV=>V.cell? ⟨w.heap.size,0,none⟩=some (int i64 k)/\V.cell? ⟨w.heap.size,1,none⟩=some (int i64 b)/\V.cell? ⟨w.heap.size,2,none⟩=some (int i64 x)/\V.cell? ⟨w.heap.size,3,none⟩=some (int i64 t)/\V.cell? ⟨w.heap.size,4,none⟩=some (int i64 l)/\V.cell? ⟨w.heap.size,5,none⟩=some (string seed)/\V.cell? ⟨w.heap.size,6,none⟩=some (int i64 p0)/\V.cell? ⟨w.heap.size,7,none⟩=some (int i64 p1)/\V.cell? ⟨w.heap.size,8,none⟩=some (int i64 p2)/\V.cell? ⟨w.heap.size,9,none⟩=some (int i64 p3)/\Below W0.heap.size W0 V) (first|exact HS.out _ Bc|exact HS.out _ (hS1.alloc hS1.size _)|exact HS.out _ hS1|exact HS.out _ Vb.drew) (first|(go_at_call 312;refine(Xe.out _).mono ?_;rintro e w1 ⟨rfl,hb1⟩;have hS1:=Ga (Below.refl W0.heap.size W0).drew hb1 Aa)|(go_at_call 317;refine(HV.out _ hS1).mono ?_;rintro e w4 ⟨rfl,hb4⟩;have Bc:=Ga (hS1.alloc hS1.size _) hb4 Aa));go_wp2;go_ret;exact⟨rfl,HB.out.trans (Bc.mono (by omega))⟩
end Go.Proofs.YtgaoeoijdpdjiabGreatDoor
