import Derived.Test.YtgaoeoijdpdjiabGreatDoorPart3
open Go.Value (int string pointer slice)
open Go.IntKind (i64)
open Go.Proofs.Tryz
set_option maxRecDepth 20000
set_option maxHeartbeats 2000000
namespace Go.Proofs.YtgaoeoijdpdjiabGreatDoor
open Go.RowKit
def ig:ByteArray:=⟨(List.replicate 32 (0:UInt8)).toArray⟩
theorem Bg0:ig.size=32:=by simp[ig,ByteArray.size]
theorem wX:Ac ig=List.replicate 32 (.int .u8 0):=by simp[Ac,ig]
def Ij (n:Nat):Da:=⟨n,List.replicate n ig,[],0,0,0,0⟩
theorem K9 (n:Nat)(h1:1<=n)(h2:n<=8):qf (Ij n):=⟨by simp[Ij],λx hx=>by rw[(List.mem_replicate.1 hx).2];exact Bg0,λp hp=>by simp[Ij]at hp,h1,h2,by simp[Ij],by simp[Ij],by simp[Ij]⟩
theorem J8 (m k:Nat)(hm:0<m)(v:Value):madeCells (List.replicate m v).toArray k=(List.replicate k v).toArray:=by
 apply Array.ext
 ·simp[size_madeCells]
 ·intro i h1 h2;have:i% m<m:=Nat.mod_lt _ hm;simp[madeCells,this]
theorem j5:(prog.info? 239).map (λi=>(i.zero,i.size,i.bytes))=some (some (.agg (List.replicate 32 (Value.int .u8 0)).toArray),32,32):=by kernel_rfl
theorem K8 (n:Nat):madeCells (Value.agg (List.replicate 32 (Value.int .u8 0)).toArray).cells (n*32)=(Uo (List.replicate n ig)).toArray:=by
 have e:Uo (List.replicate n ig)=List.replicate (n*32) (.int .u8 0):=by
  induction n with
  |zero=>rfl
  |succ n ih=>
   rw[List.replicate_succ,Uo,List.flatMap_cons,wX];rw[Uo]at ih;rw[ih,Nat.succ_mul,Nat.add_comm,List.replicate_append_replicate]
 rw[e];exact J8 32 (n*32) (by decide) _
theorem Q8 (n:Nat)(hn:n<=8)(w:World):(Instr.makeSlice 179 (int i64 n) (int i64 n)).run prog w=.ok (slice (some ⟨w.heap.size,0,none⟩) n n) (w.alloc (.cells (Uo (List.replicate n ig)).toArray 239)):=by
 obtain⟨i0,hi,hz0,hz1,hz2⟩:=info_parts j5;have h:=run_make (P:=prog) w 179 239 i0 _ underlying179 hi hz0 .i64 .i64 n n (by omega) (by omega) (by rw[hz2];omega) (by omega);rw[hz1,Int.toNat_natCast,K8]at h;exact h
theorem RY (n:Nat)(w:World)(lo:Nat)(h1:1<=n)(h2:n<=8)(hlo:lo<=w.heap.size):Calls prog 68 #[int i64 n] w λe w'=>e=.returned (.tuple #[pointer (some ⟨w.heap.size+1,0,none⟩),int i64 0])/\Ta lo (w.heap.size+1) w.heap.size (slice none 0 0) (Ij n) w'/\Below w.heap.size w w':=by
 have hmk:=Q8 n h2;have HK:=Qa (K9 n h1 h2);go_enter func68,ntmps68;go_wp2;clear hmk;go_ret2;refine⟨rfl,⟨?_,?_,World.ownsRow_nil _ _ _ _,HK.out,by omega,by simp[Value.ownBlock],by simp[Value.ownBlock],by omega,hlo⟩,(Va _).alloc (by simp) _⟩
 ·have:=heap_alloc_new (w.alloc (.cells (Uo (List.replicate n ig)).toArray 239)) (.cells #[slice (some ⟨w.heap.size,0,none⟩) n n,slice none 0 0,int i64 0,int i64 0,int i64 0,int i64 0] 182);rw[World.size_alloc]at this;exact this
 ·rw[heap_alloc_old _ _ (by simp)];exact heap_alloc_new w _
theorem QY (n:Int)(w:World)(h:n<1\/8<n):Calls prog 68 #[int i64 n] w λe w'=>e=.returned (.tuple #[pointer none,int i64 2])/\w'=w:=by
 by_cases h1:n<1
 ·go_enter func68,ntmps68;go_wp2;go_ret2;exact⟨rfl,rfl⟩
 ·have h2:8<n:=by omega
  go_enter func68,ntmps68;go_wp2;go_ret2;exact⟨rfl,rfl⟩
theorem qi {w:World}{base:Nat}{e:TypeId}{size:Nat}{v:Value}{n:Nat}{xs:List Value}(h:w.ownsRow base e size v n xs):∃a c,v=slice a n c:=by
 rcases h.2 with⟨rfl,rfl⟩|⟨g,cap,cur,rfl,_⟩
 ·exact⟨none,0,rfl⟩
 ·exact⟨_,_,rfl⟩
theorem pY (lo D E:Nat)(pv:Value)(s:Da)(w:World)(h:Ta lo D E pv s w):Calls prog 112 #[pointer (some ⟨D,0,none⟩)] w λe w'=>e=.returned (.agg #[int i64 s.writes,int i64 s.syncs,int i64 s.pend.length])/\Below w.heap.size w w':=by
 obtain⟨a,c,rfl⟩:=qi h.pending;have hlt:=h.ltD
 have HS:=Qa (λ(V:World) (hb:Below w.heap.size w V)=>(by
  have h':=h.below hb;exact⟨h'.c1,h'.c2,h'.c3,hb⟩:V.cell? ⟨D,1,none⟩=some (slice a s.pend.length c)/\V.cell? ⟨D,2,none⟩=some (int i64 s.writes)/\V.cell? ⟨D,3,none⟩=some (int i64 s.syncs)/\Below w.heap.size w V))
 have hm:=h.ok.most;clear h;generalize s.writes=wr at*;generalize s.syncs=sy at*;generalize s.pend.length=pl at*;have HL:=Qa hlt;clear hlt;go_enter func112,ntmps112;go_wp2_with fail;go_region_held3 (λV=>V.cell? ⟨D,1,none⟩=some (slice a pl c)/\V.cell? ⟨D,2,none⟩=some (int i64 wr)/\V.cell? ⟨D,3,none⟩=some (int i64 sy)/\Below w.heap.size w V) (exact HS.out _ (Va _).drew) (fail);go_wp2;refine bodyPost_ret (v:=.agg #[int i64 wr,int i64 sy,int i64 pl]) (by simp[results,results112,go_sem]) rfl ⟨rfl,(Va _).drew⟩
section
variable {P:Program}{ops:Array Oper}{Q:Exit->Act->World->Prop}{md:Region.Mode}{S:World->Prop}
theorem tk (i:Nat){oi:Oper}{v:Value}{fuel:Nat}{listed:Array Bool}{a b:Act}{w:World}(hS:S w)(h:wpAnyH P md ops Q S fuel (listed.setIfInBounds i true) b w)
  (hi:ops[i]?=some oi:=by(simp only[jb,Na,Oa];rfl))
  (hs:Region.noSelect ops=true:=by kernel_rfl)(hf:Region.free md ops listed i=true:=by kernel_rfl)(hr:(Region.ready md ops listed).contains i=true:=by kernel_rfl)
  (h1:Region.wanted oi (yielded ops a.tmps)=true:=by rfl)(hy:∀w,S w->(execOp a.eval oi).run P w=.ok (.value v) w:=by intro V AB;(try dsimp only at AB);go_simp;(try with_reducible rfl))
  (hQ:∀c a w,Q (.panic c) (a.put oi.dst v) w->Q (.panic c) a w:=by exactλ_ _ _ h=>h)
  (hb:a.put oi.dst v=b:=by(first|(simp only[Act.put,Bb,Ka,Ma];done)|(simp only[Act.put,Bb,Ka,Ma];rfl)|rfl))
  :wpAnyH P md ops Q S (fuel+1) listed a w:=wpAnyH_take hi hs hf hr hQ (.inl ⟨h1,hy⟩) hS (by rw[hb];exact h)
theorem sk (i:Nat){oi:Oper}{fuel:Nat}{listed:Array Bool}{a b:Act}{w:World}(hS:S w)(h:wpAnyH P md ops Q S fuel (listed.setIfInBounds i true) b w)
  (hi:ops[i]?=some oi:=by(simp only[jb,Na,Oa];rfl))
  (hs:Region.noSelect ops=true:=by kernel_rfl)(hf:Region.free md ops listed i=true:=by kernel_rfl)(hr:(Region.ready md ops listed).contains i=true:=by kernel_rfl)
  (h1:Region.wanted oi (yielded ops a.tmps)=false:=by rfl)
  (hQ:∀c a w,Q (.panic c) (a.put oi.dst undef) w->Q (.panic c) a w:=by exactλ_ _ _ h=>h)
  (hb:a.put oi.dst undef=b:=by(first|(simp only[Act.put,Bb,Ka,Ma];done)|(simp only[Act.put,Bb,Ka,Ma];rfl)|rfl))
  :wpAnyH P md ops Q S (fuel+1) listed a w:=wpAnyH_take hi hs hf hr hQ (.inr ⟨h1,rfl⟩) hS (by rw[hb];exact h)
end
def yc (L:List Nat)(o:Nat):Nat->Nat
 |0=>0
 |k+1=>yc L o k*256+Ba L (o+k)
theorem Br (L:List Nat)(o k:Nat)(h:∀i,Ba L i<256):yc L o k<256^k:=by
 induction k with
 |zero=>simp[yc]
 |succ k ih=>
  have:=h (o+k);simp only[yc,Nat.pow_succ];omega
theorem ua0 (v c:Nat)(hv:v<16777216)(hc:c<256):bits BinOp.or IntKind.u32 ((v:Int)*256) (c:Int)=((v*256+c:Nat):Int):=by
 have h:=u32_or_nat (v*256) c (by omega) (by omega)
 have e:v*256|||c=v*256+c:=by
  have:=Nat.two_pow_add_eq_or_of_lt (i:=8) hc v;rw[Nat.mul_comm];exact this.symm
 rw[e]at h;rw[Int.natCast_mul]at h;exact h
theorem qb0 (g o cap:Nat)(L:List Nat)(w:World)(hr:Lb w g .u8 5 L)(hL:o+4<=L.length)(hB:∀i,Ba L i<256):Calls prog 319 #[slice (some ⟨g,o,none⟩) 4 cap] w λe w'=>e=.returned (.int .u32 ((yc L o 4:Nat):Int))/\w'=w:=by
 have HR:=aa hr;have HL:=aa hL;have HB:=aa hB;clear hr hL hB;go_enter func319,ntmps319;go_wp2;go_loop [3,8] (λt i=>∃j:Nat,j<=4/\i=int i64 j/\t=.int .u32 ((yc L o j:Nat):Int)) (λ_ i=>4-(intOf i).toNat)
 case atStart=>exact⟨0,by omega,rfl,rfl⟩
 case round=>
  obtain⟨j,hj,rfl,rfl⟩:=hrel;by_cases hlt:j<4
  ·have c:=HR.out.cell (i:=o+j) (by have:=HL.out;omega);have hc:=HB.out (o+j);have hv:yc L o j<16777216:=Nat.lt_of_lt_of_le (Br L o j HB.out) (Nat.pow_le_pow_right (by decide) (show j<=3 by omega));have HS:Hid (yc L o (j+1)=yc L o j*256+Ba L (o+j)):=rfl;have HO:=aa (ua0 (yc L o j) (Ba L (o+j)) hv hc);generalize yc L o j=v at hv HS HO⊢;generalize Ba L (o+j)=q at c hc HS HO;go_wp2;go_round
   case rel=>exact⟨j+1,by omega,by go_num,by rw[HS.out,<-HO.out]⟩
   case measure=>simp[intOf];omega
  ·obtain rfl:j=4:=by omega
   go_wp2;go_ret;exact⟨rfl,rfl⟩
theorem va0 (v c:Nat)(hv:v<72057594037927936)(hc:c<256):bits BinOp.or IntKind.u64 ((v:Int)*256) (c:Int)=((v*256+c:Nat):Int):=by
 have h:=u64_or_nat (v*256) c (by omega) (by omega)
 have e:v*256|||c=v*256+c:=by
  have:=Nat.two_pow_add_eq_or_of_lt (i:=8) hc v;rw[Nat.mul_comm];exact this.symm
 rw[e]at h;rw[Int.natCast_mul]at h;exact h
theorem rb0 (g o cap:Nat)(L:List Nat)(w:World)(hr:Lb w g .u8 5 L)(hL:o+8<=L.length)(hB:∀i,Ba L i<256):Calls prog 321 #[slice (some ⟨g,o,none⟩) 8 cap] w λe w'=>e=.returned (.int .u64 ((yc L o 8:Nat):Int))/\w'=w:=by
 have HR:=aa hr;have HL:=aa hL;have HB:=aa hB;clear hr hL hB;go_enter func321,ntmps321;go_wp2;go_loop [3,8] (λt i=>∃j:Nat,j<=8/\i=int i64 j/\t=.int .u64 ((yc L o j:Nat):Int)) (λ_ i=>8-(intOf i).toNat)
 case atStart=>exact⟨0,by omega,rfl,rfl⟩
 case round=>
  obtain⟨j,hj,rfl,rfl⟩:=hrel;by_cases hlt:j<8
  ·have c:=HR.out.cell (i:=o+j) (by have:=HL.out;omega);have hc:=HB.out (o+j);have hv:yc L o j<72057594037927936:=Nat.lt_of_lt_of_le (Br L o j HB.out) (Nat.pow_le_pow_right (by decide) (show j<=7 by omega));have HS:Hid (yc L o (j+1)=yc L o j*256+Ba L (o+j)):=rfl;have HO:=aa (va0 (yc L o j) (Ba L (o+j)) hv hc);generalize yc L o j=v at hv HS HO⊢;generalize Ba L (o+j)=q at c hc HS HO;go_wp2;go_round
   case rel=>exact⟨j+1,by omega,by go_num,by rw[HS.out,<-HO.out]⟩
   case measure=>simp[intOf];omega
  ·obtain rfl:j=8:=by omega
   go_wp2;go_ret;exact⟨rfl,rfl⟩
end Go.Proofs.YtgaoeoijdpdjiabGreatDoor
namespace Go.Proofs.YtgaoeoijdpdjiabGreatDoor
def Qk (r:Nat):List Nat->List Nat
 |[a0,a1,a2,a3,a4,a5,a6,a7]=>[a0^^^r,a1,a2,a3,a5,a6,a7,a4]
 |L=>L
def Je (b:Nat)(L:List Nat):Nat->List Nat
 |0=>L
 |r+1=>Qk (r+1) (Fg b (Je b L r) 4)
theorem Dw {L:List Nat}(h:L.length=8):∃a0 a1 a2 a3 a4 a5 a6 a7,L=[a0,a1,a2,a3,a4,a5,a6,a7]:=by
 match L,h with
 |[a0,a1,a2,a3,a4,a5,a6,a7],_=>exact⟨a0,a1,a2,a3,a4,a5,a6,a7,rfl⟩
theorem Mc0 (r:Nat)(L:List Nat)(h:L.length=8):(Qk r L).length=8:=by
 obtain⟨a0,a1,a2,a3,a4,a5,a6,a7,rfl⟩:=Dw h;rfl
theorem VC (b:Nat)(L:List Nat)(r:Nat)(h:L.length=8):(Je b L r).length=8:=by
 induction r with
 |zero=>exact h
 |succ r ih=>exact Mc0 _ _ (by rw[Vy];exact ih)
theorem rG (b:Nat)(L:List Nat)(r:Nat)(hl:L.length=8)(h:ve b L)(hb:4<=b:=by decide)(hr:r<=8:=by omega):ve b (Je b L r):=by
 induction r with
 |zero=>exact h
 |succ r ih=>
  have hm:=tC b (Je b L r) 4 (ih (by omega));obtain⟨a0,a1,a2,a3,a4,a5,a6,a7,e⟩:=Dw (show(Fg b (Je b L r) 4).length=8 by rw[Vy];exact VC b L r hl);show ve b (Qk (r+1) (Fg b (Je b L r) 4));rw[e]at hm⊢;have h16:2^4<=2^b:=Nat.pow_le_pow_right (by decide) hb;intro x hx;simp only[Qk,List.mem_cons,List.not_mem_nil,or_false]at hx;rcases hx with rfl|rfl|rfl|rfl|rfl|rfl|rfl|rfl
  ·exact Nat.xor_lt_two_pow (hm a0 (by simp)) (by omega)
  all_goals exact hm _ (by simp)
end Go.Proofs.YtgaoeoijdpdjiabGreatDoor
namespace Go.Proofs.YtgaoeoijdpdjiabGreatDoor
open Go.RowKit
def Wt (ch:Nat):Prop:=ch=10\/ch=18\/ch=19\/ch=36
theorem G9 (ch:Nat)(h:Wt ch)(w:World):Calls prog 325 #[.int .u64 1,.int .u64 ch] w λe w'=>e=.returned (.tuple #[.int .u64 0,.int .u64 ch])/\w'=w:=by
 rcases h with rfl|rfl|rfl|rfl
 all_goals
  go_enter func325,ntmps325
  go_wp2;go_ret2;exact⟨rfl,rfl⟩
theorem mul_one (ch:Nat)(h:Wt ch)(w:World):Calls prog 309 #[.int .u64 1,.int .u64 ch] w λe w'=>e=.returned (.tuple #[.int .u64 0,.int .u64 ch])/\w'=w:=by
 have H:=aa (λV:World=>G9 ch h V);rcases h with rfl|rfl|rfl|rfl
 all_goals
  go_enter func309,ntmps309
  go_wp2_with fail;refine(H.out _).mono ?_
  rintro e w1 ⟨rfl,rfl⟩
  go_wp2;go_ret2;exact⟨rfl,rfl⟩
theorem UN {b x e f:Nat}(h:Bi b x e f):Wt (b*e+f):=by
 unfold Bi at h;unfold Wt;rcases h with⟨rfl,rfl,rfl,rfl⟩|⟨rfl,rfl,rfl,rfl⟩|⟨rfl,rfl,rfl,rfl⟩|⟨rfl,rfl,rfl,rfl⟩<;>omega
def Wl (b:Int)(sec rnd pub:ByteArray):Bool:=Ah b [sec,rnd,pub]
theorem aT (k b x t l:Int)(sec rnd pub:ByteArray)(w:World):Calls prog 265 #[.agg #[int i64 k,int i64 b,int i64 x,int i64 t,int i64 l],.agg #[string sec,string rnd,string pub]] w λe w'=>e=.returned (.bool (Wl b sec rnd pub))/\Below w.heap.size w w':=by
 have HV:=aa (iL k b x t l ((w.alloc (.cells #[int i64 k,int i64 b,int i64 x,int i64 t,int i64 l] 26)).alloc (.cells #[string sec,string rnd,string pub] 42)).heap.size 0 3 [sec,rnd,pub] (((w.alloc (.cells #[int i64 k,int i64 b,int i64 x,int i64 t,int i64 l] 26)).alloc (.cells #[string sec,string rnd,string pub] 42)).alloc (.cells #[string sec,string rnd,string pub] 9)) (by
  intro j y hj
  match j,hj with
  |0,hj=>simp at hj;subst hj;simp[go_sem]
  |1,hj=>simp at hj;subst hj;simp[go_sem]
  |2,hj=>simp at hj;subst hj;simp[go_sem]) (by simp) (by simp))
 simp only[List.length_cons,List.length_nil,Nat.reduceAdd]at HV;have hsz:((w.alloc (.cells #[int i64 k,int i64 b,int i64 x,int i64 t,int i64 l] 26)).alloc (.cells #[string sec,string rnd,string pub] 42)).heap.size=w.heap.size+1+1:=by simp
 rw[hsz]at HV;unfold Wl;generalize Ah b [sec,rnd,pub]=r at HV⊢;go_enter func265,ntmps265;go_wp2_with fail;refine HV.out.mono ?_
 rintro e w1 ⟨rfl,hb1⟩
 have HB1:=aa (((((Below.refl w.heap.size w).alloc Aa _).alloc (by simp) _).alloc (by simp;omega) _).trans (hb1.mono (by simp;omega)));clear hsz;clear hb1;go_wp2;go_ret;exact⟨rfl,HB1.out⟩
theorem fU (i:Nat)(w:World)(hi:i<4):Calls prog 289 #[int i64 i] w λe w'=>e=.returned (int i64 ((Ab i:Nat):Int))/\w'=w:=by
 rcases(show i=0\/i=1\/i=2\/i=3 by omega)with rfl|rfl|rfl|rfl
 all_goals
  go_enter func289,ntmps289
  go_wp2;go_ret;exact⟨rfl,rfl⟩
theorem dC (g x:Nat)(w:World)(hc:w.cell? ⟨g,8,none⟩=some (int i64 32))(hx:x<18446744073709551616):Calls prog 287 #[pointer (some ⟨g,0,none⟩),.int .u64 x] w λe w'=>e=.returned (.int .u64 ((x% 4294967296:Nat):Int))/\w'=w:=by
 go_enter func287,ntmps287;go_wp2;go_ret;exact⟨rfl,rfl⟩
theorem Uc0 (x:Nat)(hx:x<4294967296):bits BinOp.or IntKind.u64 (((x*32% 4294967296:Nat)):Int) ((x:Int)/134217728)=((Kb 32 x 5:Nat):Int):=by
 have h:=u64_or_nat (x*32% 4294967296) (x/134217728) (Nat.lt_trans (Nat.mod_lt _ (by decide:0<4294967296)) (by decide)) (by omega);rw[Int.natCast_ediv]at h;exact h
theorem Rc0 (x:Nat)(hx:x<4294967296):bits BinOp.or IntKind.u64 (((x*2048% 4294967296:Nat)):Int) ((x:Int)/2097152)=((Kb 32 x 11:Nat):Int):=by
 have h:=u64_or_nat (x*2048% 4294967296) (x/2097152) (Nat.lt_trans (Nat.mod_lt _ (by decide:0<4294967296)) (by decide)) (by omega);rw[Int.natCast_ediv]at h;exact h
theorem Sc0 (x:Nat)(hx:x<4294967296):bits BinOp.or IntKind.u64 (((x*524288% 4294967296:Nat)):Int) ((x:Int)/8192)=((Kb 32 x 19:Nat):Int):=by
 have h:=u64_or_nat (x*524288% 4294967296) (x/8192) (Nat.lt_trans (Nat.mod_lt _ (by decide:0<4294967296)) (by decide)) (by omega);rw[Int.natCast_ediv]at h;exact h
theorem Tc0 (x:Nat)(hx:x<4294967296):bits BinOp.or IntKind.u64 (((x*67108864% 4294967296:Nat)):Int) ((x:Int)/64)=((Kb 32 x 26:Nat):Int):=by
 have h:=u64_or_nat (x*67108864% 4294967296) (x/64) (Nat.lt_trans (Nat.mod_lt _ (by decide:0<4294967296)) (by decide)) (by omega);rw[Int.natCast_ediv]at h;exact h
theorem Ad0 (g x k:Nat)(w:World)(hc:w.cell? ⟨g,8,none⟩=some (int i64 32))(hx:x<4294967296)(hk:k=5\/k=11\/k=19\/k=26):Calls prog 288 #[pointer (some ⟨g,0,none⟩),.int .u64 x,int i64 k] w λe w'=>e=.returned (.int .u64 ((Kb 32 x k:Nat):Int))/\w'=w:=by
 rcases hk with rfl|rfl|rfl|rfl
 ·go_enter func288,ntmps288;go_wp2_with fail;rw[show((x:Int)*32)=(((x*32):Nat):Int) by omega];refine(dC g (x*32) _ hc (by omega)).mono ?_
  rintro e w1 ⟨rfl,rfl⟩
  go_wp2;go_ret;exact⟨congrArg (λz:Int=>Ending.returned (.int .u64 z)) (Uc0 x hx),rfl⟩
 ·go_enter func288,ntmps288;go_wp2_with fail;rw[show((x:Int)*2048)=(((x*2048):Nat):Int) by omega];refine(dC g (x*2048) _ hc (by omega)).mono ?_
  rintro e w1 ⟨rfl,rfl⟩
  go_wp2;go_ret;exact⟨congrArg (λz:Int=>Ending.returned (.int .u64 z)) (Rc0 x hx),rfl⟩
 ·go_enter func288,ntmps288;go_wp2_with fail;rw[show((x:Int)*524288)=(((x*524288):Nat):Int) by omega];refine(dC g (x*524288) _ hc (by omega)).mono ?_
  rintro e w1 ⟨rfl,rfl⟩
  go_wp2;go_ret;exact⟨congrArg (λz:Int=>Ending.returned (.int .u64 z)) (Sc0 x hx),rfl⟩
 ·go_enter func288,ntmps288;go_wp2_with fail;rw[show((x:Int)*67108864)=(((x*67108864):Nat):Int) by omega];refine(dC g (x*67108864) _ hc (by omega)).mono ?_
  rintro e w1 ⟨rfl,rfl⟩
  go_wp2;go_ret;exact⟨congrArg (λz:Int=>Ending.returned (.int .u64 z)) (Tc0 x hx),rfl⟩
theorem fC (g x:Nat)(w:World)(hc:w.cell? ⟨g,8,none⟩=some (int i64 64))(_hx:x<18446744073709551616):Calls prog 287 #[pointer (some ⟨g,0,none⟩),.int .u64 x] w λe w'=>e=.returned (.int .u64 ((x:Nat):Int))/\w'=w:=by
 go_enter func287,ntmps287;go_wp2;go_ret;exact⟨rfl,rfl⟩
theorem Yc0 (x:Nat)(hx:x<18446744073709551616):bits BinOp.or IntKind.u64 (((x*32% 18446744073709551616:Nat)):Int) ((x:Int)/576460752303423488)=((Kb 64 x 5:Nat):Int):=by
 have h:=u64_or_nat (x*32% 18446744073709551616) (x/576460752303423488) (Nat.mod_lt _ (by decide)) (by omega);rw[Int.natCast_ediv]at h;exact h
theorem Vc0 (x:Nat)(hx:x<18446744073709551616):bits BinOp.or IntKind.u64 (((x*2048% 18446744073709551616:Nat)):Int) ((x:Int)/9007199254740992)=((Kb 64 x 11:Nat):Int):=by
 have h:=u64_or_nat (x*2048% 18446744073709551616) (x/9007199254740992) (Nat.mod_lt _ (by decide)) (by omega);rw[Int.natCast_ediv]at h;exact h
theorem Wc0 (x:Nat)(hx:x<18446744073709551616):bits BinOp.or IntKind.u64 (((x*524288% 18446744073709551616:Nat)):Int) ((x:Int)/35184372088832)=((Kb 64 x 19:Nat):Int):=by
 have h:=u64_or_nat (x*524288% 18446744073709551616) (x/35184372088832) (Nat.mod_lt _ (by decide)) (by omega);rw[Int.natCast_ediv]at h;exact h
theorem Xc0 (x:Nat)(hx:x<18446744073709551616):bits BinOp.or IntKind.u64 (((x*67108864% 18446744073709551616:Nat)):Int) ((x:Int)/274877906944)=((Kb 64 x 26:Nat):Int):=by
 have h:=u64_or_nat (x*67108864% 18446744073709551616) (x/274877906944) (Nat.mod_lt _ (by decide)) (by omega);rw[Int.natCast_ediv]at h;exact h
theorem Bd0 (g x k:Nat)(w:World)(hc:w.cell? ⟨g,8,none⟩=some (int i64 64))(hx:x<18446744073709551616)(hk:k=5\/k=11\/k=19\/k=26):Calls prog 288 #[pointer (some ⟨g,0,none⟩),.int .u64 x,int i64 k] w λe w'=>e=.returned (.int .u64 ((Kb 64 x k:Nat):Int))/\w'=w:=by
 rcases hk with rfl|rfl|rfl|rfl
 ·go_enter func288,ntmps288;go_wp2_with fail;rw[IntKind.wrap_u64];rw[show((x:Int)*32% 18446744073709551616)=(((x*32% 18446744073709551616):Nat):Int) by omega];refine(fC g (x*32% 18446744073709551616) _ hc (by omega)).mono ?_
  rintro e w1 ⟨rfl,rfl⟩
  go_wp2;go_ret;exact⟨congrArg (λz:Int=>Ending.returned (.int .u64 z)) (Yc0 x hx),rfl⟩
 ·go_enter func288,ntmps288;go_wp2_with fail;rw[IntKind.wrap_u64];rw[show((x:Int)*2048% 18446744073709551616)=(((x*2048% 18446744073709551616):Nat):Int) by omega];refine(fC g (x*2048% 18446744073709551616) _ hc (by omega)).mono ?_
  rintro e w1 ⟨rfl,rfl⟩
  go_wp2;go_ret;exact⟨congrArg (λz:Int=>Ending.returned (.int .u64 z)) (Vc0 x hx),rfl⟩
 ·go_enter func288,ntmps288;go_wp2_with fail;rw[IntKind.wrap_u64];rw[show((x:Int)*524288% 18446744073709551616)=(((x*524288% 18446744073709551616):Nat):Int) by omega];refine(fC g (x*524288% 18446744073709551616) _ hc (by omega)).mono ?_
  rintro e w1 ⟨rfl,rfl⟩
  go_wp2;go_ret;exact⟨congrArg (λz:Int=>Ending.returned (.int .u64 z)) (Wc0 x hx),rfl⟩
 ·go_enter func288,ntmps288;go_wp2_with fail;rw[IntKind.wrap_u64];rw[show((x:Int)*67108864% 18446744073709551616)=(((x*67108864% 18446744073709551616):Nat):Int) by omega];refine(fC g (x*67108864% 18446744073709551616) _ hc (by omega)).mono ?_
  rintro e w1 ⟨rfl,rfl⟩
  go_wp2;go_ret;exact⟨congrArg (λz:Int=>Ending.returned (.int .u64 z)) (Xc0 x hx),rfl⟩
end Go.Proofs.YtgaoeoijdpdjiabGreatDoor
