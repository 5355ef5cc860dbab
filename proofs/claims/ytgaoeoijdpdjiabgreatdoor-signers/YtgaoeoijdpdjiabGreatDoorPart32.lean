import Derived.Test.YtgaoeoijdpdjiabGreatDoorPart29
import Derived.Test.YtgaoeoijdpdjiabGreatDoorPart26
open Go.Value (int string pointer slice)
open Go.IntKind (i64)
open Go.Proofs.Tryz
set_option maxRecDepth 20000
set_option maxHeartbeats 8000000
namespace Go.Proofs.YtgaoeoijdpdjiabGreatDoor
open Go.RowKit
def jN (w:World)(sp:Option Addr)(n c:Nat)(K:List Bool):Prop:=(sp=none/\n=0/\c=0/\K=[])\/∃a:Addr,sp=some a/\n=K.length/\(K=[]\/∃bk o,a=⟨bk,o,none⟩/\K.length<=c/\bk<w.heap.size/\∀(j:Nat) y,K[j]?=some y->w.cell? ⟨bk,o+j,none⟩=some (.bool y))
def ae (K:List Bool)(i:Nat):Bool:=if i<K.length then K.getD i false else true
def ug (n:Nat)(f g:Nat->Bool)(m:Nat):List Value:=(List.range n).map (λi=>Value.bool (if i<m then f i else g i))
theorem VQ (n:Nat)(f g:Nat->Bool)(m i:Nat)(h:i<n):(ug n f g m)[i]?=some (.bool (if i<m then f i else g i)):=by
 simp[ug,List.getElem?_range h]
theorem UQ (n:Nat)(f g:Nat->Bool)(m:Nat)(h:m<n):(ug n f g m)[m]?=some (.bool (g m)):=by
 rw[VQ n f g m m h,if_neg (Nat.lt_irrefl _)]
theorem WQ (n:Nat)(f g:Nat->Bool)(m:Nat):(ug n f g m).set m (.bool (f m))=ug n f g (m+1):=by
 apply List.ext_getElem
 ·simp[ug]
 ·intro i h1 h2;rw[List.getElem_set];simp only[ug,List.getElem_map,List.getElem_range];by_cases e:m=i
  ·subst e;simp
  ·rw[if_neg e];by_cases e2:i<m
   ·rw[if_pos e2,if_pos (by omega)]
   ·rw[if_neg e2,if_neg (by omega)]
theorem X8 (n:Nat)(f g h:Nat->Bool):ug n f g n=ug n h f 0:=by
 apply List.ext_getElem
 ·simp[ug]
 ·intro i h1 h2;have:i<n:=by simpa[ug]using h1
  simp[ug,this]
theorem Ae0 (K:List Bool):splice (List.replicate (K.length+5) (Value.bool false)) 0 (K.map Value.bool)=ug (K.length+5) (ae K) (λ_=>false) K.length:=by
 apply List.ext_getElem
 ·simp[ug,splice]
 ·intro i h1 h2;have hi:i<K.length+5:=by simpa[ug]using h2
  simp only[splice,ug,List.getElem_map,List.getElem_range,List.take_zero,List.nil_append];by_cases e:i<K.length
  ·rw[List.getElem_append_left (by simpa using e),if_pos e];simp[ae,e]
  ·rw[List.getElem_append_right (by simpa using e),if_neg e];simp only[List.getElem_drop,List.getElem_replicate]
theorem qQ:(prog.info? 4).map (λi=>(i.zero,i.size,i.bytes))=some (some (.bool false),1,1):=by kernel_rfl
theorem G8 (n:Nat):madeCells (Value.bool false).cells n=Array.replicate n (Value.bool false):=by
 apply Array.ext
 ·simp[size_madeCells]
 ·intro i h1 h2;simp[madeCells,Value.cells,Nat.mod_one]
theorem O8 (n:Nat)(hn:n<=140737488355328)(w:World):(Instr.makeSlice 51 (int i64 ((n:Int)+5)) (int i64 ((n:Int)+5))).run prog w=.ok (slice (some ⟨w.heap.size,0,none⟩) (n+5) (n+5)) (w.alloc (.cells (Array.replicate (n+5) (Value.bool false)) 4)):=by
 obtain⟨i0,hi,hz0,hz1,hz2⟩:=info_parts qQ;have h:=run_make (P:=prog) w 51 4 i0 (.bool false) underlying51 hi hz0 .i64 .i64 ((n:Int)+5) ((n:Int)+5) (by omega) (by omega) (by rw[hz2];omega) (by omega);rw[hz1,Nat.mul_one,show((n:Int)+5).toNat=n+5 by omega,G8]at h;exact h
theorem RJ {K:List Bool}{m:Nat}{y:Bool}(h:K[m]?=some y):ae K m=y:=by
 have hl:m<K.length:=(List.getElem?_eq_some_iff.1 h).1;unfold ae;rw[if_pos hl,List.getD_eq_getElem?_getD,h];rfl
theorem TJ {K:List Bool}{m:Nat}(h:K.length<=m):ae K m=true:=by unfold ae;rw[if_neg (by omega)]
theorem O7 (a:Addr)(c:Nat)(K:List Bool)(w:World)(hX:K=[]\/∃bk o,a=⟨bk,o,none⟩/\bk<w.heap.size/\∀(j:Nat) y,K[j]?=some y->w.cell? ⟨bk,o+j,none⟩=some (.bool y))(hN:K.length<=140737488355328):Calls prog 145 #[slice (some a) K.length c] w λe w'=>e=.returned (slice (some ⟨w.heap.size,0,none⟩) K.length (K.length+5))/\ma w' w.heap.size (ug (K.length+5) (λi=> !ae K i) (ae K) 0) 4/\Below w.heap.size w w':=by
 obtain⟨i0,hi,hz0,hz1,hz2⟩:=info_parts qQ;have hmk:=O8 K.length hN;have Zq:=aa (Ae0 K);have hsz:(prog.info? 4).map (·.size)=some 1:=by rw[hi];simp[hz1]
 obtain⟨W1,hcp,HB,HR⟩:∃W1,(Builtin.copy_ #[51,51] 3 #[slice (some ⟨w.heap.size,0,none⟩) (K.length+5) (K.length+5),slice (some a) K.length c]).run prog (w.alloc (.cells (Array.replicate (K.length+5) (Value.bool false)) 4))=.ok (int i64 K.length) W1/\Hid (Below w.heap.size w W1)/\Hid (ma W1 w.heap.size (ug (K.length+5) (ae K) (λ_=>false) K.length) 4):=by
  have h0:(w.alloc (.cells (Array.replicate (K.length+5) (Value.bool false)) 4)).heap[w.heap.size]?=some (.cells (Array.replicate (K.length+5) (Value.bool false)) 4 (0,0)):=World.alloc_heap_new w _
  have h:=run_copy_row (P:=prog) (w.alloc (.cells (Array.replicate (K.length+5) (Value.bool false)) 4)) 51 51 3 4 w.heap.size 0 (K.length+5) (K.length+5) a K.length c (Array.replicate (K.length+5) (Value.bool false)) 4 (K.map Value.bool) underlying51 hsz h0 (by simp) (by
   intro j v hj;rw[List.getElem?_map,Option.map_eq_some_iff]at hj;obtain⟨y,hy,rfl⟩:=hj;rcases hX with rfl|⟨bk,o,rfl,hbk,hcells⟩
   ·simp at hy
   ·rw[show Addr.add ⟨bk,o,none⟩ j=⟨bk,o+j,none⟩ by first|rfl|simp[Addr.add]];exact(World.cell?_alloc_past _ _ _ hbk).trans (hcells j y hy)) (by simp) (by intro v hv;rw[List.mem_map]at hv;obtain⟨y,_,rfl⟩:=hv;rfl)
  refine⟨_,h.trans (by rw[show goInt (K.map Value.bool).length=int i64 K.length by rw[List.length_map];rfl]),below_setRow (Va _) Aa _,?_⟩;show ma _ _ _ _;unfold ma;rw[<-Zq.out,splice,<-Array.toList_replicate,<-List.append_assoc];exact setRow_heap _ _ _ _ _ _ h0
 have HE:=aa (X8 (K.length+5) (ae K) (λ_=>false) (λi=> !ae K i));have qw:=aa (λm=>WQ (K.length+5) (ae K) (λ_=>false) m);have HAT:=aa (λm h=>UQ (K.length+5) (ae K) (λ_=>false) m h);have Xn:=aa (λm (h:K.length<=m)=>TJ h);clear hX hi hz0 hz1 hz2 hsz;have heq:=λV:World=>Lib.run_eql_slice_nil (P:=prog) V 51 4 (some a) K.length c 0 0 underlying51;go_enter func145,ntmps145;go_wp2_with fail;clear hmk hcp heq;go_loopw [5] (λi wr=>∃m:Nat,K.length<=m/\m<=K.length+5/\i=int i64 m/\Hid (ma wr w.heap.size (ug (K.length+5) (ae K) (λ_=>false) m) 4)/\Hid (Below w.heap.size w wr)) (λi _=>K.length+5-(intOf i).toNat)
 case atStart=>exact⟨K.length,Aa,by omega,rfl,HR.out,HB.out⟩
 case round=>
  obtain⟨m,hm1,hm2,rfl,hr,hb⟩:=hrel;by_cases hlt:m<K.length+5
  ·have hc:=(hr.out.cell m).trans (HAT.out m hlt);have hf:=hr.out.free m;have HST:=aa (hr.out.set m (.bool (ae K m)));rw[qw.out m,Xn.out m hm1]at HST;have hlt':(m:Int)<(K.length:Int)+5:=by omega
   go_wp2;go_roundw
   case rel=>exact⟨m+1,by omega,by omega,by go_num,HST.out,hb.out.setCell Aa _⟩
   case measure=>simp[intOf];omega
  ·obtain rfl:m=K.length+5:=by omega
   have HL:=aa (show ma wr w.heap.size (ug (K.length+5) (λi=> !ae K i) (ae K) 0) 4 by rw[<-HE.out];exact hr.out);go_wp2;go_ret;exact⟨rfl,HL.out,hb.out⟩
theorem M7 (w:World):Calls prog 145 #[slice none 0 0] w λe w'=>e=.returned (slice none 0 0)/\w'=w:=by
 have heq:=λV:World=>Lib.run_eql_slice_nil (P:=prog) V 51 4 none 0 0 0 0 underlying51;go_enter func145,ntmps145;go_wp2;go_ret;exact⟨rfl,rfl⟩
theorem ig0 (g:Nat)(a:Addr)(c:Nat)(K:List Bool)(w:World)(hX:K=[]\/∃bk o,a=⟨bk,o,none⟩/\K.length<=c/\bk<g/\∀(j:Nat) y,K[j]?=some y->w.cell? ⟨bk,o+j,none⟩=some (.bool y))(hN:K.length<=140737488355328)(hr0:ma w g (ug (K.length+5) (λi=> !ae K i) (ae K) 0) 4):Calls prog 147 #[slice (some ⟨g,0,none⟩) K.length (K.length+5),slice (some a) K.length c] w λe w'=>e=.returned (.bool true)/\za (λq=>q=g) w w':=by
 have HC:=aa (λ(V:World) (h:za (λq=>q=g) w V) (j:Nat) (y:Bool) (hj:K[j]?=some y)=>(by
  rcases hX with rfl|⟨bk,o,rfl,hcap,hbk,hcells⟩
  ·simp at hj
  ·exact⟨bk,o,rfl,hcap,(h.cell (p:=⟨bk,o+j,none⟩) (Nat.lt_trans hbk hr0.lt) (λe=>absurd e (Nat.ne_of_lt hbk))).trans (hcells j y hj)⟩:∃bk o,a=⟨bk,o,none⟩/\K.length<=c/\V.cell? ⟨bk,o+j,none⟩=some (.bool y)))
 have Tc:=aa hr0;have qw:=aa (λm=>WQ (K.length+5) (λi=> !ae K i) (ae K) m);have HAT:=aa (λm h=>UQ (K.length+5) (λi=> !ae K i) (ae K) m h);clear hX hr0;have heq:=λV:World=>Lib.run_eql_slice_nil (P:=prog) V 51 4 (some a) K.length c 0 0 underlying51;go_enter func147,ntmps147;go_wp2_with fail;clear heq;go_loopw [7,8] (λok i wr=>∃m:Nat,m<=K.length+5/\ok=.bool true/\i=int i64 m/\Hid (ma wr g (ug (K.length+5) (λi=> !ae K i) (ae K) m) 4)/\Hid (za (λq=>q=g) w wr)) (λ_ i _=>K.length+5-(intOf i).toNat)
 case atStart=>exact⟨0,Nat.zero_le _,rfl,rfl,Tc.out,za.refl _ _⟩
 case round=>
  obtain⟨m,hm,rfl,rfl,hr,hb⟩:=hrel;by_cases hlt:m<K.length+5
  ·have hc0:=(hr.out.cell m).trans (HAT.out m hlt);have hf:=hr.out.free m;have HST:=aa (hr.out.set m (.bool (!ae K m)));rw[show(ug (K.length+5) (λi=> !ae K i) (ae K) m).set m (.bool (!ae K m))=ug (K.length+5) (λi=> !ae K i) (ae K) (m+1)from qw.out m]at HST;have hlt':(m:Int)<(K.length:Int)+5:=by omega
   by_cases hin:m<K.length
   ·obtain⟨y,hy⟩:∃y,K[m]?=some y:=⟨_,List.getElem?_eq_getElem hin⟩;obtain⟨bk,o,EZ,hcap,cx⟩:=HC.out wr hb.out m y hy;subst EZ;have hc:wr.cell? ⟨g,m,none⟩=some (.bool y):=by rw[hc0,RJ hy]
    rw[RJ hy]at HST;have hin2:decide ((K.length:Int)<=(m:Int))=false:=decide_eq_false (by omega);have PZ:(m:Int)<(K.length:Int):=by omega
    have ZB:(y==y)=true:=by simp
    clear hy hc0;go_wp2_with fail;go_quiet (fail);generalize hV:World.drewN wr _=V;have hc2:V.cell? ⟨g,m,none⟩=some (.bool y):=by rw[<-hV];exact hc
    have hf2:V.frozen? ⟨g,m,none⟩=false:=by rw[<-hV];exact hf
    have AA:=aa (show ma (V.setCell ⟨g,m,none⟩ (.bool !y)) g (ug (K.length+5) (λi=> !ae K i) (ae K) (m+1)) 4 by rw[<-hV];exact HST.out);have HB2:=aa (show za (λq=>q=g) w V by rw[<-hV];exact⟨hb.out.os,hb.out.tape,hb.out.output,hb.out.size,hb.out.block⟩);clear hV hc hf HST hb cx;go_wp2;go_roundw
    case rel=>exact⟨m+1,by omega,by rw[decide_eq_false (by omega:¬K.length<=m)];cases y<;>rfl,by go_num,AA.out,HB2.out.setCell (.inl rfl) _⟩
    case measure=>simp[intOf];omega
   ·have hc:wr.cell? ⟨g,m,none⟩=some (.bool true):=by rw[hc0,TJ (by omega)]
    rw[TJ (by omega)]at HST;have hin2:decide ((K.length:Int)<=(m:Int))=true:=decide_eq_true (by omega);have PZ:(K.length:Int)<=(m:Int):=by omega
    clear hc0;go_wp2_with fail;go_quiet (fail);generalize hV:World.drewN wr _=V;have hc2:V.cell? ⟨g,m,none⟩=some (.bool true):=by rw[<-hV];exact hc
    have hf2:V.frozen? ⟨g,m,none⟩=false:=by rw[<-hV];exact hf
    have AA:=aa (show ma (V.setCell ⟨g,m,none⟩ (.bool !true)) g (ug (K.length+5) (λi=> !ae K i) (ae K) (m+1)) 4 by rw[<-hV];exact HST.out);have HB2:=aa (show za (λq=>q=g) w V by rw[<-hV];exact⟨hb.out.os,hb.out.tape,hb.out.output,hb.out.size,hb.out.block⟩);clear hV hc hf HST hb;go_wp2;go_roundw
    case rel=>exact⟨m+1,by omega,rfl,by go_num,AA.out,HB2.out.setCell (.inl rfl) _⟩
    case measure=>simp[intOf];omega
  ·obtain rfl:m=K.length+5:=by omega
   go_wp2;go_ret;exact⟨rfl,hb.out⟩
theorem gg0 (w:World):Calls prog 147 #[slice none 0 0,slice none 0 0] w λe w'=>e=.returned (.bool true)/\w'=w:=by
 have heq:=λV:World=>Lib.run_eql_slice_nil (P:=prog) V 51 4 none 0 0 0 0 underlying51;go_enter func147,ntmps147;go_wp2;go_ret;exact⟨rfl,rfl⟩
end Go.Proofs.YtgaoeoijdpdjiabGreatDoor
namespace Go.Proofs.YtgaoeoijdpdjiabGreatDoor
open Go.RowKit
structure Fe where
 kd:Int
 on:Int
 a:Int
 b:Int
 s:ByteArray
 t:ByteArray
 u:ByteArray
 l1:Option Addr
 l2:Nat
 l3:Nat
 X:List ByteArray
 k1:Option Addr
 k2:Nat
 k3:Nat
 K:List Bool
 c0:Int
 c1:Int
 c2:Int
 c3:Int
 c4:Int
 d0:ByteArray
 d1:ByteArray
 d2:ByteArray
 p0:Int
 p1:Int
 p2:Int
 p3:Int
def Fh (d:Fe):List Value:=[int i64 d.kd,int i64 d.on,int i64 d.a,int i64 d.b,string d.s,string d.t,string d.u,slice d.l1 d.l2 d.l3,slice d.k1 d.k2 d.k3,int i64 d.c0,int i64 d.c1,int i64 d.c2,int i64 d.c3,int i64 d.c4,string d.d0,string d.d1,string d.d2,int i64 d.p0,int i64 d.p1,int i64 d.p2,int i64 d.p3]
def Be (d:Fe):Value:=.agg (Fh d).toArray
theorem ba0 (d:Fe):∀v∈Fh d,v.oneCell'=true:=by
 intro v hv;simp only[Fh,List.mem_cons,List.not_mem_nil,or_false]at hv;rcases hv with rfl|rfl|rfl|rfl|rfl|rfl|rfl|rfl|rfl|rfl|rfl|rfl|rfl|rfl|rfl|rfl|rfl|rfl|rfl|rfl|rfl<;>rfl
def mg (x:Int):Prop:= -9223372036854775808<=x/\x<=9223372036854775807
def lN (w:World)(sp:Option Addr)(n c:Nat)(xs:List ByteArray):Prop:=(sp=none/\n=0/\c=0/\xs=[])\/(∃a:Addr,sp=some a/\n=0/\xs=[])\/∃bk o,sp=some ⟨bk,o,none⟩/\n=xs.length/\xs.length<=c/\bk<w.heap.size/\∀(j:Nat) y,xs[j]?=some y->w.cell? ⟨bk,o+j,none⟩=some (string y)
structure ym (w:World)(d:Fe):Prop where
 kd:mg d.kd
 on:mg d.on
 a:mg d.a
 b:mg d.b
 s:d.s.size<=maxLen
 t:d.t.size<=maxLen
 u:d.u.size<=maxLen
 l:lN w d.l1 d.l2 d.l3 d.X
 ln:d.X.length<=8796093022208
 lx:∀y∈d.X,y.size<=maxLen
 k:jN w d.k1 d.k2 d.k3 d.K
 kn:d.K.length<=140737488355328
 c0:mg d.c0
 c1:mg d.c1
 c2:mg d.c2
 c3:mg d.c3
 c4:mg d.c4
 d0:d.d0.size<=maxLen
 d1:d.d1.size<=maxLen
 d2:d.d2.size<=maxLen
 p0:mg d.p0
 p1:mg d.p1
 p2:mg d.p2
 p3:mg d.p3
def xy (w:World)(v:Value)(L:List Fe):Prop:=((∃a c,v=slice a 0 c)/\L=[])\/∃sb so cap,v=slice (some ⟨sb,so,none⟩) L.length cap/\L.length<=cap/\sb<w.heap.size/\∀(j:Nat) (d:Fe),L[j]?=some d->ym w d/\∀(i:Nat) u,(Fh d)[i]?=some u->w.cell? ⟨sb,so+j*21+i,none⟩=some u
theorem xy.len {w:World}{v:Value}{L:List Fe}(h:xy w v L):∃a c,v=slice a L.length c:=by
 rcases h with⟨⟨a,c,rfl⟩,rfl⟩|⟨sb,so,cap,rfl,_⟩
 ·exact⟨a,c,rfl⟩
 ·exact⟨_,_,rfl⟩
def dD:List Value:=[slice none 0 0,slice none 0 0,slice none 0 0,slice none 0 0,slice none 0 0,slice none 0 0]
theorem PK:(prog.info? 93).map (·.size)=some 21:=by kernel_rfl
theorem AU {x:Operand}{d:Option Nat}{ty:TypeId}{ps:String}{af:Array Edge}{g:Option (Nat×Bool)}{a:Act}{w:World}{K:Act->World->Prop}{Q:Exit->Act->World->Prop}(h:(Sn w 21 (a.eval x)).isSome=true):Oper.wp prog {dst:=d,op:=.load 93 x,type:=ty,pos:=ps,after:=af,guard:=g} a w K Q=K (a.put d (.agg ((Sn w 21 (a.eval x)).getD []).toArray)) w:=by
 obtain⟨b,o,cs,hx,hcs,hl,hr⟩:=EC h;have hv:=run_loadVar_mid (P:=prog) w b o 93 cs _ hr underlying93 rfl (by rw[hl];exact PK);rw[hcs];unfold Oper.wp execOp;simp only[hx,Instr.loadAt,Instr.sureAddr,Sem.run_bind,Sem.run_pure,Result.andThen_ok,hv];rfl
theorem pg0 {x y:Operand}{d:Option Nat}{ty:TypeId}{ps:String}{af:Array Edge}{g:Option (Nat×Bool)}{a:Act}{w:World}{K:Act->World->Prop}{Q:Exit->Act->World->Prop}(h:Am w 21 (a.eval x) (a.eval y)):Oper.wp prog {dst:=d,op:=.store 93 x y,type:=ty,pos:=ps,after:=af,guard:=g} a w K Q=K (a.put d undef) (Gx w (a.eval x) (a.eval y)):=by
 obtain⟨b,o,l,hx,hy,hl,h1,ht⟩:=h;have hv:=run_storeVar_mid (P:=prog) w b o 93 l.toArray (by rw[List.size_toArray,hl];exact ht) (by rw[List.size_toArray,hl];exact PK) (all_oneCell_toArray h1);rw[hx,hy,Wo];unfold Oper.wp execOp;simp only[hx,hy,Instr.storeAt,Instr.sureAddr,Sem.run_bind,Sem.run_pure,Result.andThen_ok,hv];rfl
theorem Nd0 (w:World)(c:Array Value)(T:TypeId)(C:List Value)(h:c.size=C.length):ma ((w.alloc (.cells c T)).setCells w.heap.size 0 C) w.heap.size C T:=by
 have hb:ma (w.alloc (.cells c T)) w.heap.size c.toList T:=by
  have:=ma.new w c.toList T;simpa using this
 have key:∀(C P R:List Value) (V:World),ma V w.heap.size (P++R) T->R.length=C.length->ma (V.setCells w.heap.size P.length C) w.heap.size (P++C) T:=by
  intro C
  induction C with
  |nil=>intro P R V h hl;cases R with
   |nil=>exact h
   |cons _ _=>simp at hl
  |cons v C ih=>
   intro P R V h hl
   cases R with
   |nil=>simp at hl
   |cons r R=>
    rw[World.setCells];have h2:=h.set P.length v;rw[List.set_append_right _ _ Aa,Nat.sub_self,Ka]at h2;have:=ih (P++[v]) R (V.setCell ⟨w.heap.size,P.length,none⟩ v) (by rw[List.append_assoc];exact h2) (by simpa using hl);rw[List.length_append,List.length_singleton,List.append_assoc]at this;exact this
 have:=key C [] c.toList _ hb (by rw[Array.length_toList,h]);exact this
attribute [local go_sem] Dv Wo
attribute [local go_sem ↓] AU pg0
theorem Va0 (v:Value)(L:List Fe)(lo hi:Int)(INV:Nat->Nat->World->Prop)(w:World)(hv:xy w v L)(hl:L.length<=1099511627776)
  (hB:Calls prog 33 #[int i64 lo,int i64 hi] w λe w'=>e=.returned (.bool true)/\Below w.heap.size w w')
  (xB:∀V Wb V',Below w.heap.size w V->Wb=V.heap.size->ma V' Wb dD 89->Below V.heap.size V V'->INV 0 Wb V')
  (hS:∀(j:Nat) (d:Fe) (Wb:Nat) (V:World),j<L.length->L[j]?=some d->ym w d->lo<=d.kd->d.kd<=hi->INV j Wb V->Calls prog 34 #[pointer (some ⟨Wb,0,none⟩),Be d] V λe w'=>e=.returned (.bool true)/\INV (j+1) Wb w')
  (hK:∀(j Wb:Nat) (V:World),INV j Wb V->Calls prog 13 #[pointer (some ⟨Wb,0,none⟩)] V λe w'=>e=.returned (.bool true)/\Below V.heap.size V w')
  (hU:∀(j Wb:Nat) (V V':World),INV j Wb V->Below V.heap.size V V'->INV j Wb V')(hI:∀(j Wb:Nat) (V:World),INV j Wb V->INV (j+1) Wb V)(gP:∀(j Wb:Nat) (V:World),INV j Wb V->Below w.heap.size w V):Calls prog 9 #[v,int i64 lo,int i64 hi] w λe w'=>e=.returned (.bool true)/\Below w.heap.size w w':=by
 obtain⟨va,vc,hvv⟩:=hv.len;subst hvv;have HV:=aa hv;have HB:=aa hB;have Uq:=aa xB;have HS:=aa hS;have HK:=aa hK;have HU:=aa hU;have iV:=aa hI;have Zx:=aa gP;obtain⟨N,hN⟩:=Ca (L.length);rw[hN]at hl;simp only[hN];rw[hN]at HS;have HN:=aa hN;have Yv:=aa hl;clear hv hB hS hK hU hI gP hN hl xB;go_enter func9,ntmps9;go_wp2_with fail;refine HB.out.mono ?_
 rintro e1 w1 ⟨rfl,hb1⟩
 obtain⟨W1,hW1⟩:=Ca (w1.alloc (.cells #[slice none 0 0,slice none 0 0,slice none 0 0,slice none 0 0,slice none 0 0,slice none 0 0] 89));obtain⟨Wb,WE⟩:=Ca (w1.heap.size);have HI0:=aa (Uq.out w1 Wb W1 hb1 WE.symm (by rw[<-hW1,<-WE];exact ma.new w1 dD _) (by rw[<-hW1];exact Va _));have Ea:=aa hW1;have BA:=aa WE;clear hb1 hW1 WE;go_wp2_with fail;rw[Ea.out,BA.out];go_loopw [9] (λi wr=>∃j:Nat,j<=N/\i=int i64 j/\Hid (INV j Wb wr)) (λi _=>N-(intOf i).toNat)
 case atStart=>exact⟨0,Nat.zero_le _,rfl,HI0.out⟩
 case round=>
  obtain⟨j,hj,rfl,hinv⟩:=hrel;by_cases hlt:j<N
  ·have Ud:=aa (Zx.out j Wb wr hinv.out)
   obtain⟨Vt,C,sb,so,J2,hcap,hA,Qb,Dl,Nc,Zq⟩:∃(Vt:Int) (C:List Value) (sb so:Nat),va=some ⟨sb,so,none⟩/\N<=vc/\Zh wr sb (so+j*21) 21=some C/\Hid (C[0]?=some (int i64 Vt))/\Hid (C.length=21)/\Hid (∀v∈C,v.oneCell'=true)/\Hid (lo<=Vt->Vt<=hi->∀V,Below wr.heap.size wr V->Calls prog 34 #[pointer (some ⟨Wb,0,none⟩),.agg C.toArray] V λe w'=>e=.returned (.bool true)/\INV (j+1) Wb w'):=by
    rcases HV.out with⟨_,e0⟩|⟨sb,so,cap,e0,hcp,hsb,hall⟩
    ·have:=HN.out;rw[e0]at this;simp at this;omega
    ·obtain⟨d,hd⟩:∃d,L[j]?=some d:=⟨_,List.getElem?_eq_getElem (by rw[HN.out];exact hlt)⟩;obtain⟨ok,hcell⟩:=hall j d hd;simp only[Value.slice.injEq]at e0;exact⟨d.kd,Fh d,sb,so,e0.1,by rw[<-HN.out,e0.2.2];exact hcp,Po _ _ _ _ _ rfl (λi u h=>(Ud.out.cell (p:=⟨sb,so+j*21+i,none⟩) hsb).trans (hcell i u h)),rfl,rfl,ba0 d,λh1 h2 V hb=>HS.out j d Wb V hlt hd ok h1 h2 (HU.out j Wb wr V hinv.out hb)⟩
   subst J2;have hms:(j:Int)<(N:Int):=by omega
   have hjb:(j:Int)<1152921504606846976:=by have:=Yv.out;omega
   have hjb2:decide ((j:Int)<1152921504606846976)=true:=decide_eq_true hjb;have GD:=aa (λV (hb:Below wr.heap.size wr V)=>iV.out j Wb V (HU.out j Wb wr V hinv.out hb));have zZ:Am (wr.alloc (.cells #[int i64 0,int i64 0,int i64 0,int i64 0,string ⟨#[]⟩,string ⟨#[]⟩,string ⟨#[]⟩,slice none 0 0,slice none 0 0,int i64 0,int i64 0,int i64 0,int i64 0,int i64 0,string ⟨#[]⟩,string ⟨#[]⟩,string ⟨#[]⟩,int i64 0,int i64 0,int i64 0,int i64 0] 93)) 21 (pointer (some ⟨wr.heap.size,0,none⟩)) (.agg C.toArray):=⟨wr.heap.size,0,C,rfl,rfl,Dl.out,Nc.out,aD wr _ _ 21 rfl⟩;obtain⟨W2,hW2⟩:=Ca ((wr.alloc (.cells #[int i64 0,int i64 0,int i64 0,int i64 0,string ⟨#[]⟩,string ⟨#[]⟩,string ⟨#[]⟩,slice none 0 0,slice none 0 0,int i64 0,int i64 0,int i64 0,int i64 0,int i64 0,string ⟨#[]⟩,string ⟨#[]⟩,string ⟨#[]⟩,int i64 0,int i64 0,int i64 0,int i64 0] 93)).setCells wr.heap.size 0 C)
   have HB2:=aa (show Below wr.heap.size wr W2 by
    rw[<-hW2];exact(((za.refl (λ_=>False) wr).alloc _).setCells (.inr Aa) 0 C).below (λ_ e=>e.elim) Aa)
   have QI:ma W2 wr.heap.size C 93:=by
    rw[<-hW2];exact Nd0 wr _ _ C (by rw[Dl.out];rfl)
   have k0:W2.cell? ⟨wr.heap.size,0,none⟩=some (int i64 Vt):=(QI.cell 0).trans Qb.out;have kA:Zh W2 wr.heap.size 0 21=some C:=Po C 21 W2 wr.heap.size 0 Dl.out (λi u h=>by rw[Nat.zero_add];exact(QI.cell i).trans h);have BZ:=hW2;clear hinv QI;by_cases h1:Vt<lo
   ·go_wp2;go_roundw
    case rel=>exact⟨j+1,by omega,by go_num,GD.out _ HB2.out⟩
    case measure=>simp[intOf];omega
   ·by_cases h2:hi<Vt
    ·go_wp2;go_roundw
     case rel=>exact⟨j+1,by omega,by go_num,GD.out _ HB2.out⟩
     case measure=>simp[intOf];omega
    ·have XV:=aa (Zq.out (by omega) (by omega) W2 HB2.out);have h1':decide (Vt<lo)=false:=decide_eq_false h1;have h2':decide (hi<Vt)=false:=decide_eq_false h2;go_wp2_with fail;refine XV.out.mono ?_
     rintro e1 w7 ⟨rfl,EJ⟩
     have Fp:=aa (HK.out _ _ _ EJ);have KV:=aa EJ;clear EJ hA k0 kA zZ hW2 BZ;go_wp2_with fail;refine Fp.out.mono ?_
     rintro e1 w8 ⟨rfl,Ru⟩
     have LV:=aa (HU.out _ _ _ _ KV.out Ru);clear Ru;go_wp2;go_roundw
     case rel=>exact⟨j+1,by omega,by go_num,LV.out⟩
     case measure=>simp[intOf];omega
  ·have hms:¬(j:Int)<(N:Int):=by omega
   have Ud:=aa (Zx.out j Wb wr hinv.out);clear hinv;go_wp2;go_ret;exact⟨rfl,Ud.out⟩
end Go.Proofs.YtgaoeoijdpdjiabGreatDoor
namespace Go.Proofs.YtgaoeoijdpdjiabGreatDoor
open Go.RowKit
theorem O5 (k b x:Int)(t l:Nat)(p0 p1 p2 p3:Int)(w:World)(h1:1<=t)(h2:t<=4)(h4:l<=3):Calls prog 323 #[.agg #[int i64 k,int i64 b,int i64 x,int i64 t,int i64 l],.agg #[int i64 p0,int i64 p1,int i64 p2,int i64 p3]] w λe w'=>e=.returned (.bool (Im t l p0 p1 p2))/\Below w.heap.size w w':=by
 obtain⟨W0,hW⟩:=Ca ((w.alloc (.cells #[int i64 k,int i64 b,int i64 x,int i64 t,int i64 l] 26)).alloc (.cells #[int i64 p0,int i64 p1,int i64 p2,int i64 p3] 91));have HF:=aa (show Om w.heap.size W0 k b x t l by subst hW;refine⟨?_,?_,?_,?_,?_⟩<;>simp[go_sem]);have HP:=aa (show Zo (w.heap.size+1) W0 p0 p1 p2 p3 by subst hW;refine⟨?_,?_,?_,?_⟩<;>simp[go_sem]);have HB:=Gc hW;have hz:W0.heap.size<=w.heap.size+2:=by subst hW;simp
 have hz':w.heap.size+2<=W0.heap.size:=by subst hW;simp
 have HS:=aa (λ(V:World) (h:Below W0.heap.size W0 V)=>(by
  obtain⟨c0,c1,c2,c3,c4⟩:=HF.out.below h (by omega);obtain⟨d0,d1,d2,d3⟩:=HP.out.below h (by omega);exact⟨c0,c1,c2,c3,c4,d0,d1,d2,d3,h⟩:V.cell? ⟨w.heap.size,0,none⟩=some (int i64 k)/\V.cell? ⟨w.heap.size,1,none⟩=some (int i64 b)/\V.cell? ⟨w.heap.size,2,none⟩=some (int i64 x)/\V.cell? ⟨w.heap.size,3,none⟩=some (int i64 t)/\V.cell? ⟨w.heap.size,4,none⟩=some (int i64 l)/\V.cell? ⟨w.heap.size+1,0,none⟩=some (int i64 p0)/\V.cell? ⟨w.heap.size+1,1,none⟩=some (int i64 p1)/\V.cell? ⟨w.heap.size+1,2,none⟩=some (int i64 p2)/\V.cell? ⟨w.heap.size+1,3,none⟩=some (int i64 p3)/\Below W0.heap.size W0 V))
 have HWI:=aa (λ(v n:Int) (V:World)=>vz v n V);have Xn:=aa (λV:World=>bT k b x l t V h1 h2);unfold Im
 cases e1:decide (0<=p0/\p0<(l:Int))with
 |false=>
  have HW1:=aa (λV:World=>vz p0 l V);rw[e1]at HW1;clear e1;go_enter func323,ntmps323;go_wp2_with fail;try rw[hW]
  refine wp_region_held_drew (S:=λV=>V.cell? ⟨w.heap.size,0,none⟩=some (int i64 k)/\V.cell? ⟨w.heap.size,1,none⟩=some (int i64 b)/\V.cell? ⟨w.heap.size,2,none⟩=some (int i64 x)/\V.cell? ⟨w.heap.size,3,none⟩=some (int i64 t)/\V.cell? ⟨w.heap.size,4,none⟩=some (int i64 l)/\V.cell? ⟨w.heap.size+1,0,none⟩=some (int i64 p0)/\V.cell? ⟨w.heap.size+1,1,none⟩=some (int i64 p1)/\V.cell? ⟨w.heap.size+1,2,none⟩=some (int i64 p2)/\V.cell? ⟨w.heap.size+1,3,none⟩=some (int i64 p3)/\Below W0.heap.size W0 V) (by kernel_rfl) (HS.out _ ((Below.refl W0.heap.size W0).drew)) (λja=>?_);refine tk 0 ja ?_;refine tk 1 ja ?_;refine tk 2 ja ?_;refine tk 3 ja ?_;refine wpAnyH_ready (rs:=[4]) (by kernel_rfl) (by simp) ?_;refine AllReadyH.cons (o:=?oa4) ?hoa4 (λK hK=>?hsa4) AllReadyH.nil
  case hoa4=>(simp only[jb,Na,Oa];rfl)
  go_simp;refine(HW1.out _).mono ?_
  rintro e w1 ⟨rfl,rfl⟩
  try go_wp2_with fail
  refine hK.out _ _ (HS.out _ ((Below.refl W0.heap.size W0).drew)) (λja=>?_);clear hK K;try simp only[Act.put,Bb,Ka,Ma]
  refine tk 5 ja ?_;refine sk 6 ja ?_;refine sk 7 ja ?_;refine sk 8 ja ?_;refine sk 9 ja ?_;refine sk 10 ja ?_;refine sk 11 ja ?_;refine sk 12 ja ?_;refine tk 13 ja ?_;refine tk 14 ja ?_;refine sk 15 ja ?_;refine sk 16 ja ?_;refine sk 17 ja ?_;refine sk 18 ja ?_;refine sk 19 ja ?_;refine tk 20 ja ?_;refine tk 21 ja ?_;refine wpAnyH_done (by kernel_rfl) ?_ _;go_wp2;go_ret;exact⟨rfl,HB.out.trans (((Below.refl W0.heap.size W0).drew).mono (by omega))⟩
 |true=>
  have hp0:0<=p0/\p0<(l:Int):=of_decide_eq_true e1;obtain⟨q,hq⟩:∃q:Nat,p0=(q:Int):=⟨p0.toNat,by omega⟩;have HW1:=aa (λV:World=>vz p0 l V);rw[e1]at HW1;have sj:=aa (λV:World=>Ef0 k b x t l q V h1 h2 h4 (by omega));rw[<-hq]at sj;rw[show p0.toNat=q by omega];clear e1 hp0 hq;have HW2:=aa (λV:World=>vz p1 ((2^(t*(l-1-q)):Nat):Int) V);generalize((2^(t*(l-1-q)):Nat):Int)=tr at sj HW2⊢;generalize decide (0<=p1/\p1<tr)=bt at HW2⊢
  cases bt with
  |false=>
   go_enter func323,ntmps323;go_wp2_with fail;try rw[hW]
   refine wp_region_held_drew (S:=λV=>V.cell? ⟨w.heap.size,0,none⟩=some (int i64 k)/\V.cell? ⟨w.heap.size,1,none⟩=some (int i64 b)/\V.cell? ⟨w.heap.size,2,none⟩=some (int i64 x)/\V.cell? ⟨w.heap.size,3,none⟩=some (int i64 t)/\V.cell? ⟨w.heap.size,4,none⟩=some (int i64 l)/\V.cell? ⟨w.heap.size+1,0,none⟩=some (int i64 p0)/\V.cell? ⟨w.heap.size+1,1,none⟩=some (int i64 p1)/\V.cell? ⟨w.heap.size+1,2,none⟩=some (int i64 p2)/\V.cell? ⟨w.heap.size+1,3,none⟩=some (int i64 p3)/\Below W0.heap.size W0 V) (by kernel_rfl) (HS.out _ ((Below.refl W0.heap.size W0).drew)) (λja=>?_);refine tk 0 ja ?_;refine tk 1 ja ?_;refine tk 2 ja ?_;refine tk 3 ja ?_;refine wpAnyH_ready (rs:=[4]) (by kernel_rfl) (by simp) ?_;refine AllReadyH.cons (o:=?ob4) ?hob4 (λK hK=>?hsb4) AllReadyH.nil
   case hob4=>(simp only[jb,Na,Oa];rfl)
   go_simp;refine(HW1.out _).mono ?_
   rintro e w1 ⟨rfl,rfl⟩
   try go_wp2_with fail
   refine hK.out _ _ (HS.out _ ((Below.refl W0.heap.size W0).drew)) (λja=>?_);clear hK K;try simp only[Act.put,Bb,Ka,Ma]
   refine tk 5 ja ?_;refine tk 6 ja ?_;refine tk 7 ja ?_;refine tk 8 ja ?_;refine tk 9 ja ?_;refine tk 10 ja ?_;refine wpAnyH_ready (rs:=[11]) (by kernel_rfl) (by simp) ?_;refine AllReadyH.cons (o:=?ob11) ?hob11 (λK hK=>?hsb11) AllReadyH.nil
   case hob11=>(simp only[jb,Na,Oa];rfl)
   go_simp;refine(sj.out _).mono ?_
   rintro e w2 ⟨rfl,hb2⟩
   have hS2:=Ga (Below.refl W0.heap.size W0).drew hb2 Aa;try go_wp2_with fail
   refine hK.out _ _ (HS.out _ (hS2)) (λja=>?_);clear hK K;try simp only[Act.put,Bb,Ka,Ma]
   refine wpAnyH_ready (rs:=[12]) (by kernel_rfl) (by simp) ?_;refine AllReadyH.cons (o:=?ob12) ?hob12 (λK hK=>?hsb12) AllReadyH.nil
   case hob12=>(simp only[jb,Na,Oa];rfl)
   go_simp;refine(HW2.out _).mono ?_
   rintro e w3 ⟨rfl,rfl⟩
   try go_wp2_with fail
   refine hK.out _ _ (HS.out _ (hS2)) (λja=>?_);clear hK K;try simp only[Act.put,Bb,Ka,Ma]
   refine tk 13 ja ?_;refine tk 14 ja ?_;refine sk 15 ja ?_;refine sk 16 ja ?_;refine sk 17 ja ?_;refine sk 18 ja ?_;refine sk 19 ja ?_;refine tk 20 ja ?_;refine tk 21 ja ?_;refine wpAnyH_done (by kernel_rfl) ?_ _;go_wp2;go_ret;exact⟨rfl,HB.out.trans ((hS2).mono (by omega))⟩
  |true=>
   have HW3:=aa (λV:World=>vz p2 ((2^t:Nat):Int) V);generalize((2^t:Nat):Int)=lv at Xn HW3⊢;generalize decide (0<=p2/\p2<lv)=bl at HW3⊢;go_enter func323,ntmps323;go_wp2_with fail;try rw[hW]
   refine wp_region_held_drew (S:=λV=>V.cell? ⟨w.heap.size,0,none⟩=some (int i64 k)/\V.cell? ⟨w.heap.size,1,none⟩=some (int i64 b)/\V.cell? ⟨w.heap.size,2,none⟩=some (int i64 x)/\V.cell? ⟨w.heap.size,3,none⟩=some (int i64 t)/\V.cell? ⟨w.heap.size,4,none⟩=some (int i64 l)/\V.cell? ⟨w.heap.size+1,0,none⟩=some (int i64 p0)/\V.cell? ⟨w.heap.size+1,1,none⟩=some (int i64 p1)/\V.cell? ⟨w.heap.size+1,2,none⟩=some (int i64 p2)/\V.cell? ⟨w.heap.size+1,3,none⟩=some (int i64 p3)/\Below W0.heap.size W0 V) (by kernel_rfl) (HS.out _ ((Below.refl W0.heap.size W0).drew)) (λja=>?_);refine tk 0 ja ?_;refine tk 1 ja ?_;refine tk 2 ja ?_;refine tk 3 ja ?_;refine wpAnyH_ready (rs:=[4]) (by kernel_rfl) (by simp) ?_;refine AllReadyH.cons (o:=?oc4) ?hoc4 (λK hK=>?hsc4) AllReadyH.nil
   case hoc4=>(simp only[jb,Na,Oa];rfl)
   go_simp;refine(HW1.out _).mono ?_
   rintro e w1 ⟨rfl,rfl⟩
   try go_wp2_with fail
   refine hK.out _ _ (HS.out _ ((Below.refl W0.heap.size W0).drew)) (λja=>?_);clear hK K;try simp only[Act.put,Bb,Ka,Ma]
   refine tk 5 ja ?_;refine tk 6 ja ?_;refine tk 7 ja ?_;refine tk 8 ja ?_;refine tk 9 ja ?_;refine tk 10 ja ?_;refine wpAnyH_ready (rs:=[11]) (by kernel_rfl) (by simp) ?_;refine AllReadyH.cons (o:=?oc11) ?hoc11 (λK hK=>?hsc11) AllReadyH.nil
   case hoc11=>(simp only[jb,Na,Oa];rfl)
   go_simp;refine(sj.out _).mono ?_
   rintro e w2 ⟨rfl,hb2⟩
   have hS2:=Ga (Below.refl W0.heap.size W0).drew hb2 Aa;try go_wp2_with fail
   refine hK.out _ _ (HS.out _ (hS2)) (λja=>?_);clear hK K;try simp only[Act.put,Bb,Ka,Ma]
   refine wpAnyH_ready (rs:=[12]) (by kernel_rfl) (by simp) ?_;refine AllReadyH.cons (o:=?oc12) ?hoc12 (λK hK=>?hsc12) AllReadyH.nil
   case hoc12=>(simp only[jb,Na,Oa];rfl)
   go_simp;refine(HW2.out _).mono ?_
   rintro e w3 ⟨rfl,rfl⟩
   try go_wp2_with fail
   refine hK.out _ _ (HS.out _ (hS2)) (λja=>?_);clear hK K;try simp only[Act.put,Bb,Ka,Ma]
   refine tk 13 ja ?_;refine tk 14 ja ?_;refine tk 15 ja ?_;refine tk 16 ja ?_;refine tk 17 ja ?_;refine wpAnyH_ready (rs:=[18]) (by kernel_rfl) (by simp) ?_;refine AllReadyH.cons (o:=?oc18) ?hoc18 (λK hK=>?hsc18) AllReadyH.nil
   case hoc18=>(simp only[jb,Na,Oa];rfl)
   go_simp;refine(Xn.out _).mono ?_
   rintro e w4 ⟨rfl,hb4⟩
   have Bc:=Ga hS2 hb4 Aa;try go_wp2_with fail
   refine hK.out _ _ (HS.out _ (Bc)) (λja=>?_);clear hK K;try simp only[Act.put,Bb,Ka,Ma]
   refine wpAnyH_ready (rs:=[19]) (by kernel_rfl) (by simp) ?_;refine AllReadyH.cons (o:=?oc19) ?hoc19 (λK hK=>?hsc19) AllReadyH.nil
   case hoc19=>(simp only[jb,Na,Oa];rfl)
   go_simp;refine(HW3.out _).mono ?_
   rintro e w5 ⟨rfl,rfl⟩
   try go_wp2_with fail
   refine hK.out _ _ (HS.out _ (Bc)) (λja=>?_);clear hK K;try simp only[Act.put,Bb,Ka,Ma]
   refine tk 20 ja ?_;refine tk 21 ja ?_;refine wpAnyH_done (by kernel_rfl) ?_ _;go_wp2;go_ret;exact⟨rfl,HB.out.trans ((Bc).mono (by omega))⟩
theorem P5 (k b x:Int)(t l:Nat)(p0 p1 p2 p3:Int)(w:World)(h1:1<=t)(h2:t<=4)(h4:l<=3):Calls prog 306 #[.agg #[int i64 k,int i64 b,int i64 x,int i64 t,int i64 l],.agg #[int i64 p0,int i64 p1,int i64 p2,int i64 p3]] w λe w'=>e=.returned (.bool (Im t l p0 p1 p2&&p3==0))/\Below w.heap.size w w':=by
 have HL:=aa (O5 k b x t l p0 p1 p2 p3 ((w.alloc (.cells #[int i64 k,int i64 b,int i64 x,int i64 t,int i64 l] 26)).alloc (.cells #[int i64 p0,int i64 p1,int i64 p2,int i64 p3] 91)) h1 h2 h4);generalize Im t l p0 p1 p2=r at HL⊢
 cases r with
 |false=>
  go_enter func306,ntmps306;go_wp2_with fail;refine HL.out.mono ?_
  rintro e w1 ⟨rfl,hb1⟩
  have HB1:=aa ((((Below.refl w.heap.size w).alloc Aa _).alloc (by simp) _).trans (hb1.mono (by simp;omega)));clear hb1;go_wp2;go_ret;exact⟨rfl,HB1.out⟩
 |true=>
  generalize hr:(p3==0)=r;go_enter func306,ntmps306;go_wp2_with fail;refine HL.out.mono ?_
  rintro e w1 ⟨rfl,hb1⟩
  have d3:w1.cell? ⟨w.heap.size+1,3,none⟩=some (int i64 p3):=(hb1.cell (p:=⟨w.heap.size+1,3,none⟩) (by simp)).trans (by simp[go_sem]);have HB1:=aa ((((Below.refl w.heap.size w).alloc Aa _).alloc (by simp) _).trans (hb1.mono (by simp;omega)));clear hb1;go_wp2;go_ret;exact⟨by simp,HB1.out⟩
def vE (t l ch:Nat)(p0 p1 p2 p3:Int):Bool:=Im t l p0 p1 p2&&decide (0<=p3/\p3<(ch:Int))
def Dh (k b:Int)(x:Nat)(pub:ByteArray)(p0 p1 F:Int)(ds:List Nat)(vs:List ByteArray)(n:Nat):List ByteArray:=(List.range n).map λ(i:Nat)=>bg k b pub p0 p1 F i ((ds[i]?.getD 0:Nat):Int) (x-1-ds[i]?.getD 0) (vs[i]?.getD ⟨#[]⟩)
theorem YY (k b:Int)(x:Nat)(pub:ByteArray)(p0 p1 F:Int)(ds:List Nat)(vs:List ByteArray)(n:Nat):Dh k b x pub p0 p1 F ds vs (n+1)=Dh k b x pub p0 p1 F ds vs n++[bg k b pub p0 p1 F n ((ds[n]?.getD 0:Nat):Int) (x-1-ds[n]?.getD 0) (vs[n]?.getD ⟨#[]⟩)]:=by simp[Dh,List.range_succ]
theorem Fw (k b:Int)(x:Nat)(pub:ByteArray)(p0 p1 F:Int)(ds:List Nat)(vs:List ByteArray)(n:Nat):(Dh k b x pub p0 p1 F ds vs n).length=n:=by simp[Dh]
theorem BI (k b:Int)(x:Nat)(pub:ByteArray)(p0 p1 F:Int)(ds:List Nat)(vs:List ByteArray)(hk:k=1\/k=2)(h1:1<=b)(h2:b<=16)(hp:pub.size<=16)(hv:∀y∈vs,(y.size:Int)=b):∀y∈Dh k b x pub p0 p1 F ds vs vs.length,(y.size:Int)=b:=by
 intro y hy;simp only[Dh,List.mem_map,List.mem_range]at hy;obtain⟨i,hi,rfl⟩:=hy;refine UA k b pub p0 p1 F i _ _ _ hk h1 h2 hp ?_;rw[List.getElem?_eq_getElem hi];exact hv _ (List.getElem_mem hi)
def Dx (k b:Int)(x:Nat)(pub:ByteArray)(p0 p1:Int)(F:Nat)(ds:List Nat)(vs path:List ByteArray):ByteArray:=Pg k b pub p0 p1 F path (Qg k b pub p0 p1 F 6 0 (Dh k b x pub p0 p1 F ds vs vs.length)) path.length
theorem Ac0 (k b:Int)(x:Nat)(pub:ByteArray)(p0 p1:Int)(F:Nat)(ds:List Nat)(vs path:List ByteArray)(hk:k=1\/k=2)(h1:1<=b)(h2:b<=16)(hp:pub.size<=16)(hn:1<=vs.length)(hv:∀y∈vs,(y.size:Int)=b)(hq:∀y∈path,(y.size:Int)=b):((Dx k b x pub p0 p1 F ds vs path).size:Int)=b:=VN k b pub p0 p1 F path _ hk h1 h2 hp (GI k b pub p0 p1 F hk h1 h2 hp 6 0 _ (by rw[Fw];exact hn) (BI k b x pub p0 p1 F ds vs hk h1 h2 hp hv)) hq path.length Aa
theorem zc0 (k b t l:Int)(x:Nat)(pub:ByteArray)(p0 p1 p3:Int)(F:Nat)(gd od cd gv ov cv gp op cp:Nat)(ds:List Nat)(vs path:List ByteArray)(w:World)(hk:k=1\/k=2)(h1:1<=b)(h2:b<=16)(hp:pub.size<=16)(hx:x<=16)(hF:F<=1000)
  (hn1:1<=vs.length)(hn:vs.length<=64)(hdn:ds.length=vs.length)(Su:∀d∈ds,d<x)(hvs:∀y∈vs,(y.size:Int)=b)(hpn:path.length<=64)(hps:∀y∈path,(y.size:Int)=b)
  (mZ:gd<w.heap.size)(CO:∀(j:Nat) d,ds[j]?=some d->w.cell? ⟨gd,od+j,none⟩=some (int i64 (d:Nat)))
  (rZ:gv<w.heap.size)(OO:∀(j:Nat) y,vs[j]?=some y->w.cell? ⟨gv,ov+j,none⟩=some (string y))
  (JO:gp<w.heap.size)(KO:∀(j:Nat) y,path[j]?=some y->w.cell? ⟨gp,op+j,none⟩=some (string y))(hT:Tn w):Calls prog 242 #[.agg #[int i64 k,int i64 b,int i64 x,int i64 t,int i64 l],string pub,.agg #[int i64 p0,int i64 p1,int i64 F,int i64 p3],slice (some ⟨gd,od,none⟩) vs.length cd,slice (some ⟨gv,ov,none⟩) vs.length cv,slice (some ⟨gp,op,none⟩) path.length cp] w λe w'=>e=.returned (string (Dx k b x pub p0 p1 F ds vs path))/\Below w.heap.size w w':=by
 have Qv:=aa (λ(m d:Nat) (y:ByteArray) (hd:d<x) (hy:(y.size:Int)=b) (V:World) (hV:Tn V)=>(by
  have h:=TS k b x t l pub p0 p1 F m d (x-1-d) y V hk h1 h2 hp hy (by omega) hV;rw[show((d+(x-1-d):Nat):Int)=(x:Int)-1 by omega]at h;exact h:Calls prog 285 #[.agg #[int i64 k,int i64 b,int i64 x,int i64 t,int i64 l,string pub,int i64 p0,int i64 p1,int i64 F,int i64 m],int i64 d,int i64 ((x:Int)-1),string y] V λe w'=>e=.returned (string (bg k b pub p0 p1 F m d (x-1-d) y))/\Below V.heap.size V w'))
 have El:=aa (λ(V:World) (g:Nat) (hV:Tn V) (hg:ma V g ((Dh k b x pub p0 p1 F ds vs vs.length).map Value.string) 9)=>(by
  have h:=fT k b x t l pub p0 p1 F p3 g 0 vs.length (Dh k b x pub p0 p1 F ds vs vs.length) V (by
   intro j y hj;rw[Nat.zero_add,hg.cell,List.getElem?_map,hj];rfl) hg.lt (by rw[Fw];exact Aa) (by rw[Fw];exact hn) (by rw[Fw];exact hn1) hk h1 h2 hp (BI k b x pub p0 p1 F ds vs hk h1 h2 hp hvs) hV
  rw[Fw]at h;exact h:Calls prog 270 #[.agg #[int i64 k,int i64 b,int i64 x,int i64 t,int i64 l,string pub,int i64 p0,int i64 p1,int i64 F,int i64 p3],slice (some ⟨g,0,none⟩) vs.length vs.length] V λe w'=>e=.returned (string (Qg k b pub p0 p1 F 6 0 (Dh k b x pub p0 p1 F ds vs vs.length)))/\Below V.heap.size V w'))
 have Dl:=aa (λ(V:World) (hV:Tn V) (hb:Below w.heap.size w V)=>Gd0 k b x t l pub p0 p1 p3 F gp op cp path (Qg k b pub p0 p1 F 6 0 (Dh k b x pub p0 p1 F ds vs vs.length)) V (λj z hj=>(hb.cell (p:=⟨gp,op+j,none⟩) JO).trans (KO j z hj)) (Nat.lt_of_lt_of_le JO hb.size) hpn hF hk h1 h2 hp (GI k b pub p0 p1 F hk h1 h2 hp 6 0 _ (by rw[Fw];exact hn1) (BI k b x pub p0 p1 F ds vs hk h1 h2 hp hvs)) hps hV);have Kz:=aa (λm=>YY k b x pub p0 p1 F ds vs m);have Iz:=aa (λm=>Fw k b x pub p0 p1 F ds vs m);have UU:=aa Su;have bW:=aa hvs;have Yx:=aa CO;have xk:=aa OO;unfold Dx;generalize Pg k b pub p0 p1 F path (Qg k b pub p0 p1 F 6 0 (Dh k b x pub p0 p1 F ds vs vs.length)) path.length=rr at Dl⊢;generalize Qg k b pub p0 p1 F 6 0 (Dh k b x pub p0 p1 F ds vs vs.length)=ff at El Dl;obtain⟨N,hN⟩:=Ca (vs.length);obtain⟨M,hM⟩:=Ca (path.length);have hmk:=aK vs.length (by omega);rw[hN]at hmk hn hn1 hdn El⊢;rw[hM]at Dl⊢;have HN:=aa hN;clear hN hM CO OO KO Su hvs hps hpn;obtain⟨WT,Uf⟩:=Ca (((w.alloc (.cells #[int i64 k,int i64 b,int i64 x,int i64 t,int i64 l] 26)).alloc (.cells #[int i64 p0,int i64 p1,int i64 F,int i64 p3] 91)).alloc (.cells #[int i64 k,int i64 b,int i64 x,int i64 t,int i64 l,string pub,int i64 p0,int i64 p1,int i64 F,int i64 p3] 344));have jW:=aa (show ma WT w.heap.size [int i64 k,int i64 b,int i64 x,int i64 t,int i64 l] 26 by rw[<-Uf];exact((ma.new w _ _).alloc _).alloc _)
 have gW:=aa (show ma WT (w.heap.size+1) [int i64 p0,int i64 p1,int i64 F,int i64 p3] 91 by
  rw[<-Uf];have h:=(ma.new (w.alloc (.cells #[int i64 k,int i64 b,int i64 x,int i64 t,int i64 l] 26)) [int i64 p0,int i64 p1,int i64 F,int i64 p3] 91).alloc (.cells #[int i64 k,int i64 b,int i64 x,int i64 t,int i64 l,string pub,int i64 p0,int i64 p1,int i64 F,int i64 p3] 344);simp only[World.size_alloc]at h;exact h)
 have iW:=aa (show ma WT (w.heap.size+1+1) [int i64 k,int i64 b,int i64 x,int i64 t,int i64 l,string pub,int i64 p0,int i64 p1,int i64 F,int i64 p3] 344 by
  rw[<-Uf];have h:=ma.new ((w.alloc (.cells #[int i64 k,int i64 b,int i64 x,int i64 t,int i64 l] 26)).alloc (.cells #[int i64 p0,int i64 p1,int i64 F,int i64 p3] 91)) [int i64 k,int i64 b,int i64 x,int i64 t,int i64 l,string pub,int i64 p0,int i64 p1,int i64 F,int i64 p3] 344;simp only[World.size_alloc]at h;exact h)
 have Nt:WT.heap.size=w.heap.size+1+1+1:=by rw[<-Uf];simp
 have HB:=Bu Uf;have hpos:=hT.pos;have Kl:=aa (hT.on HB.out);have XD:=aa (λ(V:World) (h:Below (w.heap.size+1) WT V)=>Kl.out.below h (by omega))
 have HW3:=aa (show ma (WT.alloc (.cells (Array.replicate N (string ⟨#[]⟩)) 9)) (w.heap.size+1+1+1) (List.replicate N (string ⟨#[]⟩)) 9/\Below (w.heap.size+1) WT (WT.alloc (.cells (Array.replicate N (string ⟨#[]⟩)) 9))/\ma (WT.alloc (.cells (Array.replicate N (string ⟨#[]⟩)) 9)) (w.heap.size+1) [int i64 p0,int i64 p1,int i64 F,int i64 p3] 91/\ma (WT.alloc (.cells (Array.replicate N (string ⟨#[]⟩)) 9)) (w.heap.size+1+1) [int i64 k,int i64 b,int i64 x,int i64 t,int i64 l,string pub,int i64 p0,int i64 p1,int i64 F,int i64 p3] 344 by
  refine⟨?_,Vb.alloc (by omega) _,gW.out.alloc _,iW.out.alloc _⟩;have h:=ma.new WT (List.replicate N (string ⟨#[]⟩)) 9;rw[Nt,List.toArray_replicate]at h;exact h)
 clear hT;have Ea:=aa Uf;clear Uf;go_enter func242,ntmps242;go_wp2_with fail;rw[Ea.out];obtain⟨W3,hW3⟩:=Ca (WT.alloc (.cells (Array.replicate N (string ⟨#[]⟩)) 9));rw[hW3]at HW3⊢;clear hW3 hmk Ea;go_loopw [26] (λi wr=>∃(m:Nat) (z:Int),m<=N/\i=int i64 m/\Hid (ma wr (w.heap.size+1) [int i64 p0,int i64 p1,int i64 F,int i64 z] 91)/\Hid (ma wr (w.heap.size+1+1) [int i64 k,int i64 b,int i64 x,int i64 t,int i64 l,string pub,int i64 p0,int i64 p1,int i64 F,int i64 p3] 344)/\Hid (ma wr (w.heap.size+1+1+1) ((Dh k b x pub p0 p1 F ds vs m).map Value.string++List.replicate (N-m) (string ⟨#[]⟩)) 9)/\Hid (Below (w.heap.size+1) WT wr)) (λi _=>N-(intOf i).toNat)
 case atStart=>exact⟨0,p3,Nat.zero_le _,rfl,HW3.out.2.2.1,HW3.out.2.2.2,show ma _ _ _ _ by simpa[Dh]using HW3.out.1,HW3.out.2.1⟩
 case round=>
  obtain⟨m,z,hm,rfl,hat,hsp,hen,hb⟩:=hrel;by_cases hlt:m<N
  ·obtain⟨dd,hdd⟩:∃dd,ds[m]?=some dd:=⟨_,List.getElem?_eq_getElem (by omega)⟩;obtain⟨yy,ZB⟩:∃yy,vs[m]?=some yy:=⟨_,List.getElem?_eq_getElem (by rw[HN.out];exact hlt)⟩;have oJ:dd<x:=UU.out dd (List.mem_of_getElem? hdd);have hyb:=bW.out yy (List.mem_of_getElem? ZB);have Ud:=aa (HB.out.trans (hb.out.mono (by omega)));have cv:wr.cell? ⟨gv,ov+m,none⟩=some (string yy):=(Ud.out.cell (p:=⟨gv,ov+m,none⟩) rZ).trans (xk.out m yy ZB);have IL:=aa (show wr.cell? ⟨gd,od+m,none⟩=some (int i64 dd)from(Ud.out.cell (p:=⟨gd,od+m,none⟩) mZ).trans (Yx.out m dd hdd));have H4:=aa (Qv.out m dd yy oJ hyb);have Sv:=aa (show Dh k b x pub p0 p1 F ds vs (m+1)=Dh k b x pub p0 p1 F ds vs m++[bg k b pub p0 p1 F m (dd:Nat) (x-1-dd) yy] by rw[Kz.out m,hdd,ZB];rfl);generalize bg k b pub p0 p1 F m (dd:Nat) (x-1-dd) yy=cS at H4 Sv;clear hdd ZB hyb Ud;obtain⟨V0,Co⟩:=Ca (wr.setCell ⟨w.heap.size+1,3,none⟩ (int i64 m));have Wi:=aa (show Below (w.heap.size+1) WT V0 by rw[<-Co];exact hb.out.setCell (p:=⟨w.heap.size+1,3,none⟩) Aa _);have Iq:=aa (show ma V0 (w.heap.size+1) [int i64 p0,int i64 p1,int i64 F,int i64 m] 91 by rw[<-Co];exact hat.out.set 3 _);have zk:=aa (show ma V0 (w.heap.size+1+1) [int i64 k,int i64 b,int i64 x,int i64 t,int i64 l,string pub,int i64 p0,int i64 p1,int i64 F,int i64 p3] 344 by rw[<-Co];exact hsp.out.other _ (by simp));have SL:=aa (show ma V0 (w.heap.size+1+1+1) ((Dh k b x pub p0 p1 F ds vs m).map Value.string++List.replicate (N-m) (string ⟨#[]⟩)) 9 by rw[<-Co];exact hen.out.other _ (by simp<;>omega));have Mq:=aa (show V0.cell? ⟨gd,od+m,none⟩=some (int i64 dd) by rw[<-Co];exact(World.cell?_setCell_other _ _ _ _ (by simp<;>omega)).trans IL.out);have a3':=hat.out.cell 3;have fz:=hat.out.free 3;simp only[Oa,Na]at a3';have NM:=aa (jW.out.below Wi.out (by omega));have dF:gd<V0.heap.size:=by have:=Wi.out.size;omega
   have HS:=aa (λ(V:World) (h:Below V0.heap.size V0 V)=>(have q1:=NM.out.on h;have q2:=Iq.out.on h;vC (Fa q1) (Ja q1) (Ha q1) (Xa q1) (Ya q1) (Fa q2) (Ja q2) (Ha q2) (Xa q2) ((h.cell (p:=⟨gd,od+m,none⟩) dF).trans Mq.out:V.cell? ⟨gd,od+m,none⟩=some (int i64 dd))))
   have qc:=aa (λ(V:World) (h:Below V0.heap.size V0 V)=>(by
    have q1:=(NM.out.on h).other (a:=⟨w.heap.size+1+1+1,m,none⟩) (string cS) (by simp<;>omega);have q2:=(Iq.out.on h).other (a:=⟨w.heap.size+1+1+1,m,none⟩) (string cS) (by simp<;>omega);exact⟨q1.cell 0,q1.cell 1,q1.cell 2,q1.cell 3,q1.cell 4,q2.cell 0,q2.cell 1,q2.cell 2,q2.cell 3,(World.cell?_setCell_other _ _ _ _ (by simp<;>omega)).trans ((h.cell (p:=⟨gd,od+m,none⟩) dF).trans Mq.out)⟩:(V.setCell ⟨w.heap.size+1+1+1,m,none⟩ (string cS)).cell? ⟨w.heap.size,0,none⟩=some (int i64 k)/\(V.setCell ⟨w.heap.size+1+1+1,m,none⟩ (string cS)).cell? ⟨w.heap.size,1,none⟩=some (int i64 b)/\(V.setCell ⟨w.heap.size+1+1+1,m,none⟩ (string cS)).cell? ⟨w.heap.size,2,none⟩=some (int i64 x)/\(V.setCell ⟨w.heap.size+1+1+1,m,none⟩ (string cS)).cell? ⟨w.heap.size,3,none⟩=some (int i64 t)/\(V.setCell ⟨w.heap.size+1+1+1,m,none⟩ (string cS)).cell? ⟨w.heap.size,4,none⟩=some (int i64 l)/\(V.setCell ⟨w.heap.size+1+1+1,m,none⟩ (string cS)).cell? ⟨w.heap.size+1,0,none⟩=some (int i64 p0)/\(V.setCell ⟨w.heap.size+1+1+1,m,none⟩ (string cS)).cell? ⟨w.heap.size+1,1,none⟩=some (int i64 p1)/\(V.setCell ⟨w.heap.size+1+1+1,m,none⟩ (string cS)).cell? ⟨w.heap.size+1,2,none⟩=some (int i64 F)/\(V.setCell ⟨w.heap.size+1+1+1,m,none⟩ (string cS)).cell? ⟨w.heap.size+1,3,none⟩=some (int i64 m)/\(V.setCell ⟨w.heap.size+1+1+1,m,none⟩ (string cS)).cell? ⟨gd,od+m,none⟩=some (int i64 dd)))
   have wu:=aa Co;clear Co IL;have hms:(m:Int)<(N:Int):=by omega
   have vx:IntKind.i64.wrap ((x:Int)-1)=(x:Int)-1:=by rw[IntKind.wrap_i64]<;>omega
   go_wp2_with fail;rw[wu.out];clear wu a3' fz cv;refine wp_region_held_drew (S:=λV=>V.cell? ⟨w.heap.size,0,none⟩=some (int i64 k)/\V.cell? ⟨w.heap.size,1,none⟩=some (int i64 b)/\V.cell? ⟨w.heap.size,2,none⟩=some (int i64 x)/\V.cell? ⟨w.heap.size,3,none⟩=some (int i64 t)/\V.cell? ⟨w.heap.size,4,none⟩=some (int i64 l)/\V.cell? ⟨w.heap.size+1,0,none⟩=some (int i64 p0)/\V.cell? ⟨w.heap.size+1,1,none⟩=some (int i64 p1)/\V.cell? ⟨w.heap.size+1,2,none⟩=some (int i64 F)/\V.cell? ⟨w.heap.size+1,3,none⟩=some (int i64 m)/\V.cell? ⟨gd,od+m,none⟩=some (int i64 dd)) (by kernel_rfl) (HS.out _ ((Below.refl V0.heap.size V0).drew)) (λja=>?_);refine tk 0 ja ?_;refine tk 1 ja ?_;refine tk 2 ja ?_;refine tk 3 ja ?_;refine tk 4 ja ?_;refine tk 5 ja ?_;refine tk 6 ja ?_;refine tk 7 ja ?_;refine tk 8 ja ?_;refine tk 9 ja ?_;refine tk 10 ja ?_;refine tk 11 ja ?_;refine tk 12 ja ?_;refine tk 13 ja ?_;refine wpAnyH_ready (rs:=[14]) (by kernel_rfl) (by simp) ?_;refine AllReadyH.cons (o:=?oa14) ?hoa14 (λK hK=>?hsa14) AllReadyH.nil
   case hoa14=>(simp only[jb,Na,Oa];rfl)
   go_simp;go_at_call 285;refine(H4.out _ (XD.out _ Wi.out.drew)).mono ?_
   rintro e w4 ⟨rfl,hb4⟩
   have Db:=aa (Ik Wi.out.drew hb4 (by omega));have wh:=aa ((SL.out.below (Below.refl V0.heap.size V0).drew SL.out.lt).on hb4);have Vi:=aa ((Iq.out.below (Below.refl V0.heap.size V0).drew Iq.out.lt).on hb4);have Bc:=Ga (Below.refl V0.heap.size V0).drew hb4 Aa;have Ed:=aa Bc;clear hb4 Bc;try go_wp2_with fail
   refine hK.out _ _ (HS.out _ (Ed.out)) (λja=>?_);clear hK K;try simp only[Act.put,Bb,Ka,Ma]
   refine tk 15 ja ?_;have hl:=Iz.out m;have e0:w4.cell? ⟨w.heap.size+1+1+1,m,none⟩=some (string ⟨#[]⟩):=by rw[wh.out.cell,List.getElem?_append_right (by simp[hl]),List.length_map,hl,Nat.sub_self,List.getElem?_replicate,if_pos (by omega)]
   have e1:=wh.out.free m;refine wpAnyH_ready (rs:=[16]) (by kernel_rfl) (by simp) ?_;refine AllReadyH.cons (o:=?oa16) ?hoa16 (λK hK=>?hsa16) AllReadyH.nil
   case hoa16=>(simp only[jb,Na,Oa];rfl)
   go_simp;refine hK.out _ _ (qc.out _ Ed.out) (λja=>?_);clear hK K;try simp only[Act.put,Bb,Ka,Ma]
   refine wpAnyH_done (by kernel_rfl) ?_ _
   have Hz:=aa (show ma (w4.setCell ⟨w.heap.size+1+1+1,m,none⟩ (string cS)) (w.heap.size+1+1+1) ((Dh k b x pub p0 p1 F ds vs (m+1)).map Value.string++List.replicate (N-(m+1)) (string ⟨#[]⟩)) 9 by
    have h:=wh.out.set m (string cS);rw[List.set_append_right _ _ (by simp[hl]),List.length_map,hl,Nat.sub_self,show N-m=(N-(m+1))+1 by omega,List.replicate_succ,Ka]at h;rw[Sv.out,List.map_append,List.append_assoc];exact h)
   have Rc:=aa (Db.out.setCell (p:=⟨w.heap.size+1+1+1,m,none⟩) (by simp<;>omega) (string cS));have Xt:=aa (Vi.out.other (a:=⟨w.heap.size+1+1+1,m,none⟩) (string cS) (by simp<;>omega));have ay:=aa ((zk.out.on Ed.out).other (a:=⟨w.heap.size+1+1+1,m,none⟩) (string cS) (by simp));clear hl Sv e0 e1;go_wp2;go_roundw
   case rel=>
    have R:∃(m':Nat) (z:Int),m'<=N/\int i64 ((m:Int)+1)=int i64 m'/\Hid (ma (w4.setCell ⟨w.heap.size+1+1+1,m,none⟩ (string cS)) (w.heap.size+1) [int i64 p0,int i64 p1,int i64 F,int i64 z] 91)/\Hid (ma (w4.setCell ⟨w.heap.size+1+1+1,m,none⟩ (string cS)) (w.heap.size+1+1) [int i64 k,int i64 b,int i64 x,int i64 t,int i64 l,string pub,int i64 p0,int i64 p1,int i64 F,int i64 p3] 344)/\Hid (ma (w4.setCell ⟨w.heap.size+1+1+1,m,none⟩ (string cS)) (w.heap.size+1+1+1) ((Dh k b x pub p0 p1 F ds vs m').map Value.string++List.replicate (N-m') (string ⟨#[]⟩)) 9)/\Hid (Below (w.heap.size+1) WT (w4.setCell ⟨w.heap.size+1+1+1,m,none⟩ (string cS))):=⟨m+1,m,by omega,by go_num,Xt.out,ay.out,Hz.out,Rc.out⟩;first|exact R|((repeat apply Exists.intro);exact⟨R,rfl⟩)
   case measure=>simp[intOf];omega
  ·obtain rfl:m=N:=by omega
   have SG:=aa (show ma wr (w.heap.size+1+1+1) ((Dh k b x pub p0 p1 F ds vs m).map Value.string) 9 by
    have h:=hen.out;rw[Nat.sub_self,List.replicate_zero,List.append_nil]at h;exact h)
   have Ud:=aa (HB.out.trans (hb.out.mono (by omega)));have HS:=aa (λ(V:World) (h:Below wr.heap.size wr V)=>(have q1:=hsp.out.on h;vC (Fa q1) (Ja q1) (Ha q1) (Xa q1) (Ya q1) (Ee q1) (jf q1) (Ch q1) (bn q1) (dn q1)));have Mi:=aa (XD.out _ hb.out);go_wp2_with fail;go_region_held3 (λV=>V.cell? ⟨w.heap.size+1+1,0,none⟩=some (int i64 k)/\V.cell? ⟨w.heap.size+1+1,1,none⟩=some (int i64 b)/\V.cell? ⟨w.heap.size+1+1,2,none⟩=some (int i64 x)/\V.cell? ⟨w.heap.size+1+1,3,none⟩=some (int i64 t)/\V.cell? ⟨w.heap.size+1+1,4,none⟩=some (int i64 l)/\V.cell? ⟨w.heap.size+1+1,5,none⟩=some (string pub)/\V.cell? ⟨w.heap.size+1+1,6,none⟩=some (int i64 p0)/\V.cell? ⟨w.heap.size+1+1,7,none⟩=some (int i64 p1)/\V.cell? ⟨w.heap.size+1+1,8,none⟩=some (int i64 F)/\V.cell? ⟨w.heap.size+1+1,9,none⟩=some (int i64 p3)) (first|exact HS.out _ hS2|exact HS.out _ hS1|exact HS.out _ (Below.refl wr.heap.size wr).drew) (first|(go_at_call 270;refine(El.out _ (w.heap.size+1+1+1) (Mi.out.on (Below.refl wr.heap.size wr).drew) (SG.out.on (Below.refl wr.heap.size wr).drew)).mono ?_;rintro e w5 ⟨rfl,hb5⟩;have hS1:=Ga (Below.refl wr.heap.size wr).drew hb5 Aa)|(go_at_call 286;refine(Dl.out _ (Mi.out.on hS1) (Ud.out.trans (hS1.mono Ud.out.size))).mono ?_;rintro e w6 ⟨rfl,hb6⟩;have hS2:=Ga hS1 hb6 Aa));have Ub:=aa (Ud.out.trans (hS2.mono Ud.out.size));clear hS1 hS2 hb5 hb6;go_wp2;go_ret;exact⟨rfl,Ub.out⟩
end Go.Proofs.YtgaoeoijdpdjiabGreatDoor
