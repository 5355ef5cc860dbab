import Derived.Test.YtgaoeoijdpdjiabGreatDoorPart7
import Derived.Test.YtgaoeoijdpdjiabGreatDoorPart4
import Derived.Lib.BufferWrite
import Derived.Laws.CopyOwn
open Go.Value (int string pointer slice)
open Go.IntKind (i64)
open Go.Proofs.Tryz
set_option maxRecDepth 20000
set_option maxHeartbeats 2000000
namespace Go.Proofs.YtgaoeoijdpdjiabGreatDoor
open Go.RowKit
theorem Pt (v:Int)(w:World):Calls prog 312 #[int i64 v] w λe w'=>e=.returned (string (qa 1 v))/\Below w.heap.size w w':=by
 have HN:=aa (Kr 1 v w (by decide));go_enter func312,ntmps312;go_wp2_with fail;refine HN.out.mono ?_
 rintro e w1 ⟨rfl,hb⟩
 go_wp2;go_ret;exact⟨rfl,hb⟩
def Rn (n:Nat)(L:List Nat)(i:Nat):Nat:=Ba L (i/n)/2^(8*(n-1-i% n))% 256
def Me (n:Nat)(L:List Nat)(m:Nat):List Nat:=(List.range m).map (Rn n L)
theorem vv (n:Nat)(L:List Nat)(m:Nat):(Me n L m).length=m:=by simp[Me]
theorem EF (n:Nat)(L:List Nat)(m:Nat):Me n L (m+1)=Me n L m++[Rn n L m]:=by simp[Me,List.range_succ]
theorem CF (n:Nat)(L:List Nat)(i:Nat):Rn n L i<256:=Nat.mod_lt _ (by decide)
def Jg (D:List Nat):List Value:=D.map (λd=>Value.int .u8 ((d:Nat):Int))
theorem uE (D:List Nat)(d:Nat):Jg (D++[d])=Jg D++[.int .u8 ((d:Nat):Int)]:=by simp[Jg]
theorem infoByte:(prog.info? 5).map (λi=>(i.zero,i.size,i.bytes))=some (some (.int .u8 0),1,1):=by kernel_rfl
theorem Mr {w:World}{base:Nat}{e:TypeId}{s:Nat}{v:Value}{n:Nat}{xs:List Value}(h:w.ownsRow base e s v n xs):∀k,v.ownBlock=some k->base<=k/\k<w.heap.size:=by
 intro k hk;rcases h.2 with⟨rfl,_⟩|⟨g,cap,cur,rfl,hg,hh,_⟩
 ·simp[Value.ownBlock]at hk
 ·simp only[Value.ownBlock,Option.some.injEq]at hk;subst hk;exact⟨hg,lt_of_block hh⟩
theorem Mo (w:World)(v:Value)(t:TypeId):∀j u,[v][j]?=some u->(w.alloc (.cells #[v] t)).cell? ((Addr.mk w.heap.size 0 none).add j)=some u:=by
 intro j u hj
 match j,hj with
 |0,hj=>simp at hj;subst hj;simp[Addr.add]
theorem Ja0 {w:World}{base:Nat}{e:TypeId}{s:Nat}{v:Value}{n:Nat}{xs:List Value}(h:w.ownsRow base e s v n xs)(hn:0<n):∃g cap,v=slice (some ⟨g,0,none⟩) n cap:=by
 rcases h.2 with⟨rfl,rfl⟩|⟨g,cap,cur,rfl,_⟩
 ·omega
 ·exact⟨g,cap,rfl⟩
def ik (D:List Nat):ByteArray:=⟨(D.map UInt8.ofNat).toArray⟩
theorem bU (D:List Nat):(ik D).size=D.length:=by simp[ik,ByteArray.size]
theorem iG (w:World)(base:Nat)(v:Value)(D:List Nat)(hD:∀d∈D,d<256)(h:w.ownsRow base 5 1 v D.length (Jg D))(h0:0<D.length):(convert 170 9 v).run prog w=.ok (string (ik D)) w:=by
 obtain⟨g,cap,rfl⟩:=Ja0 h h0;have hl:(D.map UInt8.ofNat).length=D.length:=by simp
 have hc:=run_convert_bytes_back (P:=prog) w 170 9 5 ⟨g,0,none⟩ cap (D.map UInt8.ofNat) underlying170 underlying5 underlying9 (by
  intro j hj;have hj':j<D.length:=by simpa using hj
  have hadd:(Addr.mk g 0 none).add j=⟨g,j,none⟩:=by unfold Addr.add;split<;>simp_all
  rw[hadd];rcases h.2 with⟨h,_⟩|⟨g',cap',cur,h,_,hh,_,_,_,ht⟩
  ·cases h
  ·simp only[Value.slice.injEq,Option.some.injEq,Addr.mk.injEq,and_true,true_and]at h;obtain⟨rfl,rfl⟩:=h;have h1:(cur.toList.take (D.length*1))[j]?=(Jg D)[j]?:=by rw[ht]
   rw[List.getElem?_take_of_lt (by omega)]at h1;simp only[World.cell?,hh];have hd:=hD D[j] (List.getElem_mem hj');simpa[Jg,hj',Nat.mod_eq_of_lt hd]using h1)
 rw[hl]at hc;exact hc
theorem xf0 (g:Nat)(L:List Nat)(w:World)(hr:Lb w g .u32 358 L)(hL:L.length=8)(hW:ve 32 L):Calls prog 294 #[pointer (some ⟨g,0,none⟩)] w λe w'=>e=.returned (string (ik (Me 4 L 16)))/\Below w.heap.size w w':=by
 have hmk:∀w:World,(Instr.makeSlice 170 (int i64 0) (int i64 16)).run prog w=.ok (slice (some ⟨w.heap.size,0,none⟩) 0 16) (w.alloc (.cells #[.int .u8 0,.int .u8 0,.int .u8 0,.int .u8 0,.int .u8 0,.int .u8 0,.int .u8 0,.int .u8 0,.int .u8 0,.int .u8 0,.int .u8 0,.int .u8 0,.int .u8 0,.int .u8 0,.int .u8 0,.int .u8 0] 5)):=λ_=>by kernel_rfl
 have HR:=aa hr;have HL:=aa hL;have HW:=aa hW;clear hr hL hW;obtain⟨i0,hi,hz0,hz1,hz2⟩:=info_parts infoByte;go_enter func294,ntmps294;go_wp2_with fail;refine(Ex _).mono ?_
 rintro e w1 ⟨rfl,rfl⟩
 go_wp2;have Nb:=aa (show(w1.alloc (.cells #[.int .u8 0,.int .u8 0,.int .u8 0,.int .u8 0,.int .u8 0,.int .u8 0,.int .u8 0,.int .u8 0,.int .u8 0,.int .u8 0,.int .u8 0,.int .u8 0,.int .u8 0,.int .u8 0,.int .u8 0,.int .u8 0] 5)).ownsRow w1.heap.size 5 1 (slice (some ⟨w1.heap.size,0,none⟩) 0 16) 0 []from⟨rfl,Or.inr ⟨w1.heap.size,16,_,rfl,Aa,heap_alloc_new _ _,by omega,by unfold maxLen;omega,rfl,rfl⟩⟩);have HB0:=aa ((Below.refl w1.heap.size w1).alloc Aa (.cells #[.int .u8 0,.int .u8 0,.int .u8 0,.int .u8 0,.int .u8 0,.int .u8 0,.int .u8 0,.int .u8 0,.int .u8 0,.int .u8 0,.int .u8 0,.int .u8 0,.int .u8 0,.int .u8 0,.int .u8 0,.int .u8 0] 5));go_loopw [4,11] (λv i wr=>∃a:Nat,a<=4/\i=int i64 a/\Hid (wr.ownsRow w1.heap.size 5 1 v (a*4) (Jg (Me 4 L (a*4))))/\Hid (Below w1.heap.size w1 wr)) (λ_ i _=>4-(intOf i).toNat)
 case atStart=>exact⟨0,by omega,rfl,Nb,HB0⟩
 case round=>
  obtain⟨a,ha,rfl,ho,hb⟩:=hrel;by_cases hlt:a<4
  ·obtain⟨wo,rfl⟩:∃wo:World,wo=wr:=⟨_,rfl⟩;have nJ:decide ((a:Int)<4)=true:=by simp;omega
   go_wp2;go_loopw [4,6] (λv i wr=>∃q:Nat,q<=4/\i=int i64 ((q:Int)-1)/\Hid (wr.ownsRow w1.heap.size 5 1 v (a*4+(4-q)) (Jg (Me 4 L (a*4+(4-q)))))/\Hid (Below w1.heap.size w1 wr)) (λ_ i _=>(intOf i+1).toNat)
   case atStart=>exact⟨4,by omega,by simp,by simpa using ho,hb⟩
   case round=>
    obtain⟨q,hq,rfl,ho,hb⟩:=hrel;by_cases hq0:0<q
    ·obtain⟨q,rfl⟩:∃p,q=p+1:=⟨q-1,by omega⟩;have c:=(HR.out.below hb.out HR.out.lt).cell (i:=a) (by have:=HL.out;omega);have HX:=aa (HW.out.at a)
     have Lf:Hid (Rn 4 L (a*4+(4-(q+1)))=Ba L a/2^(8*q)% 256):=by
      show Rn 4 L (a*4+(4-(q+1)))=_;unfold Rn;rw[show(a*4+(4-(q+1)))/4=a by omega,show 4-1-(a*4+(4-(q+1)))% 4=q by omega]
     have Ld:=aa (EF 4 L (a*4+(4-(q+1))));generalize Ba L a=u at c HX Lf;go_wp2_with (at_builtin;refine wpList_append_own _ rfl _ _ 170 rfl w1.heap.size 5 i0 (.int .u8 0) 1 1 underlying170 hi hz0 hz1 hz2 rfl (by decide) _ _ _ rfl (ho.out.alloc _) ⟨wr.heap.size,0,none⟩ 1 1 [_] rfl rfl (Mo _ _ _) ?c2 ?c3 ?c4 ?c5 ?_)
     case c2=>intro y hy;simp at hy;subst hy;rfl
     case c3=>unfold maxLen;omega
     case c4=>omega
     case c5=>have:=hb.out.size;simp;omega
     intro v' w3 ho3 hgrow _;have HB3:=aa ((hb.out.alloc hb.out.size _).grown hgrow (by have:=hb.out.size;simp;omega) (λp hp=>(Mr ho.out p hp).1));have jd:=aa ho3;clear ho3 hgrow;go_wp2;go_roundw
     case rel=>
      have hcs:Jg (Me 4 L (a*4+(4-q)))=Jg (Me 4 L (a*4+(4-(q+1))))++[.int .u8 ((u:Int)/2^(8*q)% 256)]:=by
       rw[show a*4+(4-q)=a*4+(4-(q+1))+1 by omega,Ld.out,uE,Lf.out,Int.natCast_emod,Int.natCast_ediv,Int.natCast_pow];rfl
      have R:∃p:Nat,p<=4/\int i64 ((q:Int)-1)=int i64 ((p:Int)-1)/\Hid (w3.ownsRow w1.heap.size 5 1 v' (a*4+(4-p)) (Jg (Me 4 L (a*4+(4-p)))))/\Hid (Below w1.heap.size w1 w3):=⟨q,by omega,rfl,by rw[hcs];have h:=jd.out;rw[show a*4+(3-q)+1=a*4+(4-q) by omega,show a*4+(3-q)=a*4+(4-(q+1)) by omega]at h;exact h,HB3.out⟩;first|exact R|((repeat apply Exists.intro);exact⟨R,rfl⟩)
     case measure=>simp[intOf]
    ·obtain rfl:q=0:=by omega
     go_wp2;go_roundw
     case rel=>exact⟨a+1,by omega,by go_num,by have h:=ho;rw[show a*4+(4-0)=(a+1)*4 by omega]at h;exact h,hb⟩
     case measure=>simp[intOf];omega
  ·obtain rfl:a=4:=by omega
   have HT:=aa (iG wr w1.heap.size _ (Me 4 L 16) (λd hd=>by simp only[Me,List.mem_map]at hd;obtain⟨i,_,rfl⟩:=hd;exact CF _ _ _) (by rw[vv];exact ho.out) (by rw[vv];decide));have hT:=HT.out;go_wp2;go_ret;exact⟨rfl,hb.out⟩
def Ib (s:ByteArray):List Nat:=s.data.toList.map UInt8.toNat++[1]
theorem FR (s:ByteArray):(Ib s).length=s.size+1:=by simp[Ib]
theorem qK (s:ByteArray)(i:Nat)(h:i<s.size):Ba (Ib s) i=(s[i]'h).toNat:=by
 unfold Ib Ba;rw[List.getD_eq_getElem?_getD,List.getElem?_append_left (by simpa using h),List.getElem?_map,List.getElem?_eq_getElem (by simpa using h)];rfl
theorem pK (s:ByteArray):Ba (Ib s) s.size=1:=by
 unfold Ib Ba;rw[List.getD_eq_getElem?_getD,List.getElem?_append_right (by simp)];simp
theorem sK (s:ByteArray)(i:Nat)(h:s.size<i):Ba (Ib s) i=0:=by
 unfold Ba;rw[List.getD_eq_getElem?_getD,List.getElem?_eq_none (by rw[FR];omega)];rfl
theorem yx (s:ByteArray)(i:Nat):Ba (Ib s) i<256:=by
 rcases Nat.lt_trichotomy i s.size with h|h|h
 ·rw[qK s i h];exact UInt8.toNat_lt _
 ·rw[h,pK];decide
 ·rw[sK s i h];decide
def zg (n:Nat):Array Value:=(List.replicate n (Value.int .u8 0)).toArray
theorem vL (n:Nat):(zg n).size=n:=by simp[zg]
theorem OQ (n:Nat):madeCells (Value.int .u8 0).cells n=zg n:=by
 apply Array.ext
 ·simp[size_madeCells,vL]
 ·intro i h1 h2;simp[madeCells,zg,Value.cells,Nat.mod_one]
def Ei (s:ByteArray)(N:Nat):List Nat:=Ib s++List.replicate (N-(s.size+1)) 0
theorem tK (s:ByteArray)(N i:Nat):Ba (Ei s N) i=Ba (Ib s) i:=by
 unfold Ei Ba;by_cases h:i<(Ib s).length
 ·rw[List.getD_eq_getElem?_getD,List.getD_eq_getElem?_getD,List.getElem?_append_left h]
 ·rw[List.getD_eq_getElem?_getD,List.getD_eq_getElem?_getD,List.getElem?_append_right (by omega),List.getElem?_eq_none (by omega:(Ib s).length<=i)];by_cases h2:i-(Ib s).length<N-(s.size+1)
  ·simp[h2]
  ·rw[List.getElem?_eq_none (by simp;omega)]
theorem JR (s:ByteArray)(N i:Nat):Ba (Ei s N) i<256:=by
 rw[tK];exact yx s i
theorem GR (s:ByteArray)(N:Nat)(h:s.size<N):(Ei s N).length=N:=by
 simp[Ei,FR];omega
theorem rQ:(prog.info? 5).map (λi=>(i.zero,i.size,i.bytes))=some (some (.int .u8 0),1,1):=by kernel_rfl
theorem Ka0 (s:ByteArray)(w:World)(hs:s.size<=400):Calls prog 291 #[string s,int i64 16] w λe w'=>e=.returned (slice (some ⟨w.heap.size,0,none⟩) ((s.size/16+1)*16) ((s.size/16+1)*16))/\Lb w' w.heap.size .u8 5 (Ei s ((s.size/16+1)*16))/\Below w.heap.size w w':=by
 obtain⟨i0,hi,hz0,hz1,hz2⟩:=info_parts rQ
 have hmk:∀w:World,(Instr.makeSlice 170 (int i64 (((s.size:Int)/16+1)*16)) (int i64 (((s.size:Int)/16+1)*16))).run prog w=.ok (slice (some ⟨w.heap.size,0,none⟩) ((s.size/16+1)*16) ((s.size/16+1)*16)) (w.alloc (.cells (zg ((s.size/16+1)*16)) 5)):=by
  intro w;have h:=run_make (P:=prog) w 170 5 i0 (.int .u8 0) underlying170 hi hz0 .i64 .i64 (((s.size:Int)/16+1)*16) (((s.size:Int)/16+1)*16) (by omega) (by omega) (by rw[hz2];omega) (by omega);rw[hz1,Nat.mul_one,OQ,show(((s.size:Int)/16+1)*16).toNat=(s.size/16+1)*16 by omega]at h;exact h
 have hN:s.size<(s.size/16+1)*16:=by omega
 have Lt:(s.size/16+1)*16<=1000:=by omega
 have hcp:=Lib.run_copy_row_string (P:=prog) (w.alloc (.cells (zg ((s.size/16+1)*16)) 5)) 170 9 3 5 w.heap.size 0 ((s.size/16+1)*16) ((s.size/16+1)*16) s (zg ((s.size/16+1)*16)) 5 underlying170 (by kernel_rfl) (heap_alloc_new _ _) (by omega) (by rw[vL];omega);generalize hM:(s.size/16+1)*16=N at hmk hN Lt hcp⊢;clear hM
 have Qp:=aa (show Lb ((w.alloc (.cells (zg N) 5)).setRow w.heap.size ((zg N).toList.take 0++Lib.byteCells s.data.toList++(zg N).toList.drop (0+s.size)).toArray) w.heap.size .u8 5 (s.data.toList.map UInt8.toNat++List.replicate (N-s.size) 0) by
  unfold Lb;rw[setRow_heap _ _ _ _ 5 _ (heap_alloc_new _ _)];congr 2;simp[zg,Lib.byteCells])
 have Dz:=aa (below_setRow ((Below.refl w.heap.size w).alloc Aa (.cells (zg N) 5)) (Nat.le_refl w.heap.size) ((zg N).toList.take 0++Lib.byteCells s.data.toList++(zg N).toList.drop (0+s.size)).toArray);generalize(w.alloc (.cells (zg N) 5)).setRow w.heap.size ((zg N).toList.take 0++Lib.byteCells s.data.toList++(zg N).toList.drop (0+s.size)).toArray=V at hcp Qp Dz;have hlen:(s.data.toList.map UInt8.toNat++List.replicate (N-s.size) 0).length=N:=by simp;omega
 have cV:=Qp.out.cell (i:=s.size) (by omega);have fV:=Qp.out.free s.size;have qw:=aa (Qp.out.set s.size 1)
 have rH:=aa (show(s.data.toList.map UInt8.toNat++List.replicate (N-s.size) 0).set s.size 1=Ei s N by
  unfold Ei Ib;rw[List.set_append_right _ _ (by simp),show s.size-(s.data.toList.map UInt8.toNat).length=0 by simp,show N-s.size=(N-(s.size+1))+1 by omega,List.replicate_succ,Ka];simp)
 clear hlen;go_enter func291,ntmps291;go_wp2;go_ret;refine⟨rfl,?_,Dz.out.setCell Aa _⟩;have h:=qw.out;rw[rH.out]at h;exact h
theorem La0 (s:ByteArray)(w:World)(hs:s.size<=400):Calls prog 291 #[string s,int i64 32] w λe w'=>e=.returned (slice (some ⟨w.heap.size,0,none⟩) ((s.size/32+1)*32) ((s.size/32+1)*32))/\Lb w' w.heap.size .u8 5 (Ei s ((s.size/32+1)*32))/\Below w.heap.size w w':=by
 obtain⟨i0,hi,hz0,hz1,hz2⟩:=info_parts rQ
 have hmk:∀w:World,(Instr.makeSlice 170 (int i64 (((s.size:Int)/32+1)*32)) (int i64 (((s.size:Int)/32+1)*32))).run prog w=.ok (slice (some ⟨w.heap.size,0,none⟩) ((s.size/32+1)*32) ((s.size/32+1)*32)) (w.alloc (.cells (zg ((s.size/32+1)*32)) 5)):=by
  intro w;have h:=run_make (P:=prog) w 170 5 i0 (.int .u8 0) underlying170 hi hz0 .i64 .i64 (((s.size:Int)/32+1)*32) (((s.size:Int)/32+1)*32) (by omega) (by omega) (by rw[hz2];omega) (by omega);rw[hz1,Nat.mul_one,OQ,show(((s.size:Int)/32+1)*32).toNat=(s.size/32+1)*32 by omega]at h;exact h
 have hN:s.size<(s.size/32+1)*32:=by omega
 have Lt:(s.size/32+1)*32<=1000:=by omega
 have hcp:=Lib.run_copy_row_string (P:=prog) (w.alloc (.cells (zg ((s.size/32+1)*32)) 5)) 170 9 3 5 w.heap.size 0 ((s.size/32+1)*32) ((s.size/32+1)*32) s (zg ((s.size/32+1)*32)) 5 underlying170 (by kernel_rfl) (heap_alloc_new _ _) (by omega) (by rw[vL];omega);generalize hM:(s.size/32+1)*32=N at hmk hN Lt hcp⊢;clear hM
 have Qp:=aa (show Lb ((w.alloc (.cells (zg N) 5)).setRow w.heap.size ((zg N).toList.take 0++Lib.byteCells s.data.toList++(zg N).toList.drop (0+s.size)).toArray) w.heap.size .u8 5 (s.data.toList.map UInt8.toNat++List.replicate (N-s.size) 0) by
  unfold Lb;rw[setRow_heap _ _ _ _ 5 _ (heap_alloc_new _ _)];congr 2;simp[zg,Lib.byteCells])
 have Dz:=aa (below_setRow ((Below.refl w.heap.size w).alloc Aa (.cells (zg N) 5)) (Nat.le_refl w.heap.size) ((zg N).toList.take 0++Lib.byteCells s.data.toList++(zg N).toList.drop (0+s.size)).toArray);generalize(w.alloc (.cells (zg N) 5)).setRow w.heap.size ((zg N).toList.take 0++Lib.byteCells s.data.toList++(zg N).toList.drop (0+s.size)).toArray=V at hcp Qp Dz;have hlen:(s.data.toList.map UInt8.toNat++List.replicate (N-s.size) 0).length=N:=by simp;omega
 have cV:=Qp.out.cell (i:=s.size) (by omega);have fV:=Qp.out.free s.size;have qw:=aa (Qp.out.set s.size 1)
 have rH:=aa (show(s.data.toList.map UInt8.toNat++List.replicate (N-s.size) 0).set s.size 1=Ei s N by
  unfold Ei Ib;rw[List.set_append_right _ _ (by simp),show s.size-(s.data.toList.map UInt8.toNat).length=0 by simp,show N-s.size=(N-(s.size+1))+1 by omega,List.replicate_succ,Ka];simp)
 clear hlen;go_enter func291,ntmps291;go_wp2;go_ret;refine⟨rfl,?_,Dz.out.setCell Aa _⟩;have h:=qw.out;rw[rH.out]at h;exact h
def yg (BL:List Nat)(o:Nat)(L:List Nat):Nat->List Nat
 |0=>L
 |j+1=>(yg BL o L j).set j (Ba (yg BL o L j) j^^^yc BL (o+j*8) 8)
theorem ZC (BL:List Nat)(o:Nat)(L:List Nat)(j:Nat):(yg BL o L j).length=L.length:=by
 induction j with
 |zero=>rfl
 |succ j ih=>simp only[yg,List.length_set,ih]
theorem wG (BL:List Nat)(o:Nat)(L:List Nat)(j:Nat)(h:ve 64 L)(hB:∀i,Ba BL i<256):ve 64 (yg BL o L j):=by
 induction j with
 |zero=>exact h
 |succ j ih=>exact ih.set j _ (Nat.xor_lt_two_pow (ih.at j) (by have:=Br BL (o+j*8) 8 hB;simpa using this))
theorem te0 (h o cap j:Nat)(hj:j<4)(hc:32<=cap)(wx:World):(Instr.slice 170 (slice (some ⟨h,o,none⟩) 32 cap) (some (int i64 ((j:Int)*8))) (some (int i64 (((j:Int)+1)*8))) none).run prog wx=.ok (slice (some ⟨h,o+j*8,none⟩) 8 (cap-j*8)) wx:=by
 have h0:(0:Int)<=(j:Int)*8:=by omega
 have h2:((j:Int)+1)*8<=(cap:Int):=by omega
 have h3:((j:Int)*8).toNat=j*8:=by omega
 have h4:(((j:Int)+1)*8).toNat=j*8+8:=by omega
 have h5:j*8+8-j*8=8:=by omega
 have h7:¬cap=j*8:=by omega
 simp[go_sem,h0,h2,h3,h4,h5,h7];rw[if_pos (by omega),if_pos (by omega)]
theorem wf0 (g h o cap:Nat)(L BL:List Nat)(w:World)(hr:Lb w g .u64 361 L)(hL:L.length=8)(hW:ve 64 L)(hb:Lb w h .u8 5 BL)(hbl:o+32<=BL.length)(hB:∀i,Ba BL i<256)(hc:32<=cap)(hgh:h≠g):Calls prog 296 #[pointer (some ⟨g,0,none⟩),slice (some ⟨h,o,none⟩) 32 cap] w λe w'=>e=.returned (.tuple #[])/\Lb w' g .u64 361 (yg BL o L 4)/\Ob g w w':=by
 have HR:=aa hr;have HL:=aa hL;have HW:=aa hW;have HB:=aa hb;have nk:=aa hbl;have Yl:=aa hB;clear hr hL hW hb hbl hB;go_enter func296,ntmps296;go_wp2_with fail;refine(Fx _).mono ?_
 rintro e w1 ⟨rfl,rfl⟩
 go_wp2;go_loopw [7] (λi wr=>∃j:Nat,j<=4/\i=int i64 j/\Hid (Lb wr g .u64 361 (yg BL o L j))/\Hid (Ob g w1 wr)) (λi _=>4-(intOf i).toNat)
 case atStart=>exact⟨0,by omega,rfl,HR,Ob.refl _ _⟩
 case round=>
  obtain⟨j,hj,rfl,hr,ho⟩:=hrel;by_cases hlt:j<4
  ·have hlen:(yg BL o L j).length=8:=by rw[ZC];exact HL.out
   have hwd:=wG BL o L j HW.out Yl.out;have HS:Hid (yg BL o L (j+1)=(yg BL o L j).set j (Ba (yg BL o L j) j^^^yc BL (o+j*8) 8)):=rfl;generalize yg BL o L j=K at hr hlen hwd HS;have d1:=hr.out.cell (i:=j) (by omega);have f1:=hr.out.free j;have x1:Ba K j<18446744073709551616:=by have:=hwd.at j;simpa using this
   have om:=aa (λn':Nat=>rb0 h (o+j*8) (cap-j*8) BL (wr.drewN n') ((ho.out.row HB.out hgh).drewN n') (by have:=nk.out;omega) Yl.out);have y1:yc BL (o+j*8) 8<18446744073709551616:=by have:=Br BL (o+j*8) 8 Yl.out;simpa using this
   have Te:=aa (u64_xor_nat (Ba K j) (yc BL (o+j*8) 8) x1 y1);have hsl:=te0 h o cap j hlt hc;generalize yc BL (o+j*8) 8=v at HS om y1 Te;generalize hq:Ba K j=u at d1 x1 Te HS;have v1:IntKind.i64.wrap ((j:Int)*8)=(j:Int)*8:=by rw[IntKind.wrap_i64];omega
   have v2:IntKind.i64.wrap ((j:Int)+1)=(j:Int)+1:=by rw[IntKind.wrap_i64];omega
   have v3:IntKind.i64.wrap (((j:Int)+1)*8)=((j:Int)+1)*8:=by rw[IntKind.wrap_i64];omega
   have q0:(0:Int)<=(j:Int):=by omega
   have q1:(j:Int)<8:=by omega
   clear hlen hwd hq x1 y1;go_wp2;go_region_with ((go_at_call 321;refine(om.out _).mono ?_;rintro e w' ⟨rfl,rfl⟩))
   all_goals
    go_wp2
    try rw[Te.out]
    go_roundw
    case rel=>
     refine⟨j+1,by omega,by go_num,?_,?_⟩
     ·have h:=hr.out.set j (u^^^v);rw[<-HS.out]at h;exact h
     ·unfold Hid;first|exact(ho.out.drewN _).setCell j _|(repeat(first|refine Ob.drew ?_|refine Ob.setCell ?_ _ _);exact ho.out)
    case measure=>simp[intOf];omega
  ·obtain rfl:j=4:=by omega
   go_wp2;go_end0;exact⟨rfl,hr.out,ho.out⟩
theorem yf0 (g:Nat)(L:List Nat)(w:World)(hr:Lb w g .u64 361 L)(hL:L.length=8)(hW:ve 64 L):Calls prog 298 #[pointer (some ⟨g,0,none⟩)] w λe w'=>e=.returned (string (ik (Me 8 L 32)))/\Below w.heap.size w w':=by
 have hmk:∀w:World,(Instr.makeSlice 170 (int i64 0) (int i64 32)).run prog w=.ok (slice (some ⟨w.heap.size,0,none⟩) 0 32) (w.alloc (.cells #[.int .u8 0,.int .u8 0,.int .u8 0,.int .u8 0,.int .u8 0,.int .u8 0,.int .u8 0,.int .u8 0,.int .u8 0,.int .u8 0,.int .u8 0,.int .u8 0,.int .u8 0,.int .u8 0,.int .u8 0,.int .u8 0,.int .u8 0,.int .u8 0,.int .u8 0,.int .u8 0,.int .u8 0,.int .u8 0,.int .u8 0,.int .u8 0,.int .u8 0,.int .u8 0,.int .u8 0,.int .u8 0,.int .u8 0,.int .u8 0,.int .u8 0,.int .u8 0] 5)):=λ_=>by kernel_rfl
 have HR:=aa hr;have HL:=aa hL;have HW:=aa hW;clear hr hL hW;obtain⟨i0,hi,hz0,hz1,hz2⟩:=info_parts infoByte;go_enter func298,ntmps298;go_wp2_with fail;refine(Fx _).mono ?_
 rintro e w1 ⟨rfl,rfl⟩
 go_wp2;have Nb:=aa (show(w1.alloc (.cells #[.int .u8 0,.int .u8 0,.int .u8 0,.int .u8 0,.int .u8 0,.int .u8 0,.int .u8 0,.int .u8 0,.int .u8 0,.int .u8 0,.int .u8 0,.int .u8 0,.int .u8 0,.int .u8 0,.int .u8 0,.int .u8 0,.int .u8 0,.int .u8 0,.int .u8 0,.int .u8 0,.int .u8 0,.int .u8 0,.int .u8 0,.int .u8 0,.int .u8 0,.int .u8 0,.int .u8 0,.int .u8 0,.int .u8 0,.int .u8 0,.int .u8 0,.int .u8 0] 5)).ownsRow w1.heap.size 5 1 (slice (some ⟨w1.heap.size,0,none⟩) 0 32) 0 []from⟨rfl,Or.inr ⟨w1.heap.size,32,_,rfl,Aa,heap_alloc_new _ _,by omega,by unfold maxLen;omega,rfl,rfl⟩⟩);have HB0:=aa ((Below.refl w1.heap.size w1).alloc Aa (.cells #[.int .u8 0,.int .u8 0,.int .u8 0,.int .u8 0,.int .u8 0,.int .u8 0,.int .u8 0,.int .u8 0,.int .u8 0,.int .u8 0,.int .u8 0,.int .u8 0,.int .u8 0,.int .u8 0,.int .u8 0,.int .u8 0,.int .u8 0,.int .u8 0,.int .u8 0,.int .u8 0,.int .u8 0,.int .u8 0,.int .u8 0,.int .u8 0,.int .u8 0,.int .u8 0,.int .u8 0,.int .u8 0,.int .u8 0,.int .u8 0,.int .u8 0,.int .u8 0] 5));go_loopw [4,11] (λv i wr=>∃a:Nat,a<=4/\i=int i64 a/\Hid (wr.ownsRow w1.heap.size 5 1 v (a*8) (Jg (Me 8 L (a*8))))/\Hid (Below w1.heap.size w1 wr)) (λ_ i _=>4-(intOf i).toNat)
 case atStart=>exact⟨0,by omega,rfl,Nb,HB0⟩
 case round=>
  obtain⟨a,ha,rfl,ho,hb⟩:=hrel;by_cases hlt:a<4
  ·obtain⟨wo,rfl⟩:∃wo:World,wo=wr:=⟨_,rfl⟩;have nJ:decide ((a:Int)<4)=true:=by simp;omega
   go_wp2;go_loopw [4,6] (λv i wr=>∃q:Nat,q<=8/\i=int i64 ((q:Int)-1)/\Hid (wr.ownsRow w1.heap.size 5 1 v (a*8+(8-q)) (Jg (Me 8 L (a*8+(8-q)))))/\Hid (Below w1.heap.size w1 wr)) (λ_ i _=>(intOf i+1).toNat)
   case atStart=>exact⟨8,by omega,by simp,by simpa using ho,hb⟩
   case round=>
    obtain⟨q,hq,rfl,ho,hb⟩:=hrel;by_cases hq0:0<q
    ·obtain⟨q,rfl⟩:∃p,q=p+1:=⟨q-1,by omega⟩;have c:=(HR.out.below hb.out HR.out.lt).cell (i:=a) (by have:=HL.out;omega);have HX:=aa (HW.out.at a)
     have Lf:Hid (Rn 8 L (a*8+(8-(q+1)))=Ba L a/2^(8*q)% 256):=by
      show Rn 8 L (a*8+(8-(q+1)))=_;unfold Rn;rw[show(a*8+(8-(q+1)))/8=a by omega,show 8-1-(a*8+(8-(q+1)))% 8=q by omega]
     have Ld:=aa (EF 8 L (a*8+(8-(q+1))));generalize Ba L a=u at c HX Lf;go_wp2_with (at_builtin;refine wpList_append_own _ rfl _ _ 170 rfl w1.heap.size 5 i0 (.int .u8 0) 1 1 underlying170 hi hz0 hz1 hz2 rfl (by decide) _ _ _ rfl (ho.out.alloc _) ⟨wr.heap.size,0,none⟩ 1 1 [_] rfl rfl (Mo _ _ _) ?c2 ?c3 ?c4 ?c5 ?_)
     case c2=>intro y hy;simp at hy;subst hy;rfl
     case c3=>unfold maxLen;omega
     case c4=>omega
     case c5=>have:=hb.out.size;simp;omega
     intro v' w3 ho3 hgrow _;have HB3:=aa ((hb.out.alloc hb.out.size _).grown hgrow (by have:=hb.out.size;simp;omega) (λp hp=>(Mr ho.out p hp).1));have jd:=aa ho3;clear ho3 hgrow;go_wp2;go_roundw
     case rel=>
      have hcs:Jg (Me 8 L (a*8+(8-q)))=Jg (Me 8 L (a*8+(8-(q+1))))++[.int .u8 ((u:Int)/2^(8*q)% 256)]:=by
       rw[show a*8+(8-q)=a*8+(8-(q+1))+1 by omega,Ld.out,uE,Lf.out,Int.natCast_emod,Int.natCast_ediv,Int.natCast_pow];rfl
      have R:∃p:Nat,p<=8/\int i64 ((q:Int)-1)=int i64 ((p:Int)-1)/\Hid (w3.ownsRow w1.heap.size 5 1 v' (a*8+(8-p)) (Jg (Me 8 L (a*8+(8-p)))))/\Hid (Below w1.heap.size w1 w3):=⟨q,by omega,rfl,by rw[hcs];have h:=jd.out;rw[show a*8+(7-q)+1=a*8+(8-q) by omega,show a*8+(7-q)=a*8+(8-(q+1)) by omega]at h;exact h,HB3.out⟩;first|exact R|((repeat apply Exists.intro);exact⟨R,rfl⟩)
     case measure=>simp[intOf]
    ·obtain rfl:q=0:=by omega
     go_wp2;go_roundw
     case rel=>exact⟨a+1,by omega,by go_num,by have h:=ho;rw[show a*8+(8-0)=(a+1)*8 by omega]at h;exact h,hb⟩
     case measure=>simp[intOf];omega
  ·obtain rfl:a=4:=by omega
   have HT:=aa (iG wr w1.heap.size _ (Me 8 L 32) (λd hd=>by simp only[Me,List.mem_map]at hd;obtain⟨i,_,rfl⟩:=hd;exact CF _ _ _) (by rw[vv];exact ho.out) (by rw[vv];decide));have hT:=HT.out;go_wp2;go_ret;exact⟨rfl,hb.out⟩
theorem P9 (j:Nat)(v:Int):qa (j+1) v=⟨#[UInt8.ofNat (v/256^j% 256).toNat]⟩++qa j v:=by
 apply ByteArray.ext;simp[qa,Jj]
theorem tg0 (t l:Nat)(h1:1<=t)(h2:t<=4)(h3:1<=l)(h4:l<=3):wrap64 (12+wrap64 (wrap64 ((l:Int)*(36+(t:Int)))*8))=Xc 8 4 t l:=by
 rcases(show t=1\/t=2\/t=3\/t=4 by omega)with rfl|rfl|rfl|rfl<;>rcases(show l=1\/l=2\/l=3 by omega)with rfl|rfl|rfl<;>simp[wrap64,Xc,Gy,cB,iC,each]
theorem KC (k:Int)(t l:Nat)(w:World)(h1:1<=t)(h2:t<=4)(h3:1<=l)(h4:l<=3):Calls prog 83 #[.agg #[int i64 k,int i64 8,int i64 4,int i64 t,int i64 l]] w λr w'=>
   r=.returned (.agg #[int i64 32,int i64 4,int i64 36,int i64 (Yc t l),int i64 (Xc 8 4 t l),int i64 21])/\Below w.heap.size w w':=by
 go_enter func83,ntmps83;go_wp2;go_rounds 5;go_rounds 5;generalize hW:(((w.alloc (.cells #[int i64 k,int i64 8,int i64 4,int i64 t,int i64 l] 26)).alloc (.cells #[int i64 0,int i64 0,int i64 0,int i64 0,int i64 0,int i64 0] 158)).alloc (.cells #[int i64 32,int i64 4,int i64 36,int i64 0,int i64 0,int i64 0] 158))=W;have F5:Xl W w.heap.size k 8 4 t l:=by subst hW;refine⟨?_,?_,?_,?_,?_⟩<;>simp[go_sem,World.cell?_alloc_past]
 have Z6:Vj W (w.heap.size+1) 0 0 0 0 0 0:=by subst hW;refine⟨?_,?_,?_,?_,?_,?_⟩<;>simp[go_sem,World.cell?_alloc_past]
 have S6:Vj W (w.heap.size+1+1) 32 4 36 0 0 0:=by subst hW;refine⟨?_,?_,?_,?_,?_,?_⟩<;>simp[go_sem,World.cell?_alloc_at]
 have fz:∀o,W.frozen? ⟨w.heap.size+1,o,none⟩=false:=by subst hW;intro o;simp[go_sem]
 have Hw:∀o,W.frozen? ⟨w.heap.size+1+1,o,none⟩=false:=by subst hW;intro o;simp[go_sem]
 have hsz:w.heap.size+3=W.heap.size:=by subst hW;simp
 have HB:=Ia (by subst hW;exact((Va _).alloc (by simp) _).alloc (by simp;omega) _:Below w.heap.size w W);clear hW;have hl2:2^t<=16:=Nat.le_trans (Nat.pow_le_pow_right (by decide) h2) (by decide);have hpw:(2^t)^l=2^(t*l):=(Nat.pow_mul 2 t l).symm;have hpl:(2^t)^l<=65536:=Nat.le_trans (Nat.pow_le_pow_left hl2 l) (Nat.le_trans (Nat.pow_le_pow_right (by decide) h4) (by decide));have HT:Hid ((((2^t)^l:Nat):Int)=Yc t l):=by show(((2^t)^l:Nat):Int)=Yc t l;rw[hpw];unfold Yc;rw[show((t:Int)*(l:Int)).toNat=t*l by rw[<-Int.natCast_mul];rfl];simp
 have Nc:=Ia (λw':World=>Sy t k 8 4 l w' h2);have Ag:=Ia (λw':World=>Cx (2^t) l w' hl2 (by omega) hpl (Nat.one_le_two_pow));clear hl2 hpw hpl;generalize 2^t=q at HT Nc Ag;generalize q^l=T at HT Ag;obtain⟨c0,c1,c2,c3,c4⟩:=F5;obtain⟨z0,z1,z2,z3,z4,z5⟩:=Z6;obtain⟨s0,s1,s2,s3,s4,s5⟩:=S6;go_region_held3 (λw'=>w'.cell? ⟨w.heap.size,0,none⟩=some (int i64 k)/\w'.cell? ⟨w.heap.size,1,none⟩=some (int i64 8)/\w'.cell? ⟨w.heap.size,2,none⟩=some (int i64 4)/\w'.cell? ⟨w.heap.size,3,none⟩=some (int i64 t)/\w'.cell? ⟨w.heap.size,4,none⟩=some (int i64 l)) (first|exact hk1|exact yE hk1 _ (by omega)|(simp[go_sem,c0,c1,c2,c3,c4];done)) (first|(go_at_call 92;refine(Nc.out _).mono ?_;rintro r w1 ⟨rfl,hb1⟩;have hk1:=Gw (show Xl W.drew w.heap.size k 8 4 t l from⟨c0,c1,c2,c3,c4⟩) hb1 (by simp;omega);have hz1:=Fv (show Vj W.drew (w.heap.size+1) 0 0 0 0 0 0 from⟨z0,z1,z2,z3,z4,z5⟩) hb1 (by simp;omega);have hs1:=Fv (show Vj W.drew (w.heap.size+1+1) 32 4 36 0 0 0 from⟨s0,s1,s2,s3,s4,s5⟩) hb1 (by simp;omega);have fy:∀o,w1.frozen? ⟨w.heap.size+1,o,none⟩=false:=(λo=>(hb1.frozen (by simp;omega)).trans (fz o));have II:∀o,w1.frozen? ⟨w.heap.size+1+1,o,none⟩=false:=(λo=>(hb1.frozen (by simp;omega)).trans (Hw o));obtain⟨y0,y1,y2,y3,y4,y5⟩:=hz1;obtain⟨x0,x1,x2,x3,x4,x5⟩:=hs1)|(go_at_call 91;refine(Ag.out _).mono ?_;rintro r w2 ⟨rfl,rfl⟩));obtain⟨m0,m1,m2,m3,m4⟩:=hk1;have Ak:=Ia (tg0 t l h1 h2 h3 h4);go_wp2;rw[Ak.out,HT.out];refine bodyPost_ret (v:=.agg #[int i64 32,int i64 4,int i64 36,int i64 (Yc t l),int i64 (Xc 8 4 t l),int i64 21]) (by simp[results,results83,go_sem,y0,y1,y2,y3,y4,y5]) rfl ⟨rfl,?_⟩;iterate 9 refine Below.setCell ?_ (show w.heap.size<=_ by simp<;>omega) _
 exact HB.out.drew.trans (hb1.mono (by simp;omega))
def Eb (m:ByteArray):List Nat:=m.data.toList.map UInt8.toNat
theorem Bj (m:ByteArray):(Eb m).length=m.size:=by simp[Eb]
def Bf (x e n:Nat)(A:List Nat)(k:Nat):List Int:=(Od x e (A.take k)).map Int.ofNat++List.replicate (n-k*e) 0
theorem Al (x e n:Nat)(A:List Nat)(k:Nat)(hk:k<=A.length)(hn:k*e<=n):(Bf x e n A k).length=n:=by
 simp[Bf,Ql,Nat.min_eq_left hk];omega
theorem bZ (x e:Nat)(a b:List Nat):Od x e (a++b)=Od x e a++Od x e b:=by
 induction a with
 |nil=>rfl
 |cons c r ih=>simp[Od,ih]
theorem aG (x e n:Nat)(A:List Nat)(k:Nat)(hk:k<A.length)(hn:(k+1)*e<=n):Nn (Bf x e n A k) (k*e) e (Tf x e (A[k]?.getD 0)) 0=Bf x e n A (k+1):=by
 have e1:A.take (k+1)=A.take k++[A[k]]:=List.take_succ_eq_append_getElem hk;have h1:((Od x e (A.take k)).map Int.ofNat).length=k*e:=by simp[Ql,Nat.min_eq_left (Nat.le_of_lt hk)]
 have hke:(k+1)*e=k*e+e:=Nat.succ_mul k e;unfold Nn Bf;rw[e1,bZ,List.map_append];simp only[List.getElem?_eq_getElem hk,Option.getD_some,Nat.add_zero,List.drop_zero,Od,List.append_nil];rw[List.take_left' h1,List.drop_append,List.drop_of_length_le (by rw[h1];omega),List.nil_append,h1,List.drop_replicate];congr 2;omega
theorem ZF (x e f n:Nat)(A:List Nat)(hn:n=A.length*e+f):Nn (Bf x e n A A.length) (A.length*e) f (Tf x f (fe x (Od x e A))) 0=(Fj x e f A).map Int.ofNat:=by
 have h1:((Od x e A).map Int.ofNat).length=A.length*e:=by simp[Ql]
 unfold Nn Bf Fj;rw[List.take_of_length_le (Nat.le_refl A.length)];simp only[Nat.add_zero,List.drop_zero];rw[List.take_left' h1,List.drop_of_length_le (by simp[Ql];omega),List.append_nil,List.map_append]
theorem bG (x e n:Nat)(A:List Nat):(Bf x e n A A.length).take (A.length*e)=(Od x e A).map Int.ofNat:=by
 have h1:((Od x e A).map Int.ofNat).length=A.length*e:=by simp[Ql]
 unfold Bf;rw[List.take_of_length_le (Nat.le_refl A.length),List.take_left' h1]
theorem fG (w:World)(c:Array Value)(x e n:Nat)(A:List Nat)(h:c=(List.replicate n (int i64 0)).toArray):Ic (w.alloc (.cells c 3)) w.heap.size (Bf x e n A 0):=by
 subst h;unfold Ic Bf;rw[heap_alloc_new];simp[Od]
theorem NA (m:ByteArray)(k:Nat)(h:k<m.size):(Eb m)[k]?.getD 0=(m[k]'h).toNat:=by
 simp only[Eb,List.getElem?_map];rw[List.getElem?_eq_getElem (by simpa using h)];rfl
end Go.Proofs.YtgaoeoijdpdjiabGreatDoor
namespace Go.Proofs.YtgaoeoijdpdjiabGreatDoor
def Vg (s:ByteArray)(k:Nat):Nat:=(s.data.toList.map UInt8.toNat).getD k 0
theorem xn (s:ByteArray)(k:Nat):Vg s k<256:=QN s k
theorem Dy (s:ByteArray)(k:Nat)(h:k<s.size):Vg s k=(s[k]'h).toNat:=sI s k h
theorem KA (s t:ByteArray)(hz:s.size=t.size)(h:∀k,k<s.size->Vg s k=Vg t k):s=t:=by
 apply ByteArray.ext;apply Array.ext
 ·exact hz
 ·intro i h1 h2;have e:=h i h1;rw[Dy s i h1,Dy t i h2]at e;exact UInt8.toNat_inj.1 e
theorem pI (x y:ByteArray)(k:Nat)(h:k<x.size):Vg (x++y) k=Vg x k:=by
 have h1:k<x.data.toList.length:=h;simp only[Vg,ByteArray.data_append,Array.toList_append,List.map_append,List.getD_eq_getElem?_getD];rw[List.getElem?_append_left (by rw[List.length_map];exact h1)]
theorem qI (x y:ByteArray)(k:Nat)(h:x.size<=k):Vg (x++y) k=Vg y (k-x.size):=by
 have h1:x.data.toList.length<=k:=h;simp only[Vg,ByteArray.data_append,Array.toList_append,List.map_append,List.getD_eq_getElem?_getD];rw[List.getElem?_append_right (by rw[List.length_map];exact h1),List.length_map];rfl
theorem Bw (s:ByteArray)(a b k:Nat)(hb:b<=s.size)(h:a+k<b):Vg (s.extract a b) k=Vg s (a+k):=by
 rw[Dy (s.extract a b) k (by rw[ByteArray.size_extract];omega),Dy s (a+k) (by omega),ByteArray.getElem_extract]
theorem LA (k:Nat)(v:Int)(j:Nat)(h:j<k):(Vg (qa k v) j:Int)=v/256^(k-1-j)% 256:=by
 have e:∀(k j:Nat),j<k->(Jj k v).getD j 0=(v/256^(k-1-j)% 256).toNat:=by
  intro k
  induction k with
  |zero=>intro j h;omega
  |succ k ih=>
   intro j h
   cases j with
   |zero=>simp[Jj]
   |succ j=>
    rw[Jj,List.getD_cons_succ,ih j (by omega)];rw[show k+1-1-(j+1)=k-1-j by omega]
 have e1:Vg (qa k v) j=(Jj k v).getD j 0:=by
  unfold Vg qa
  have hm:List.map UInt8.toNat (List.map UInt8.ofNat (Jj k v))=Jj k v:=by
   rw[List.map_map];refine(List.map_congr_left (g:=id) ?_).trans (List.map_id _);intro d hd;exact(UInt8.toNat_ofNat_of_lt' (rR k v d hd))
  simp only[hm]
 rw[e1,e k j h,Int.toNat_of_nonneg (Int.emod_nonneg _ (by decide))]
def Bd (s:ByteArray)(i:Nat):Nat->Nat
 |0=>0
 |k+1=>Bd s i k*256+Vg s (i+k)
theorem dL (s:ByteArray)(i:Nat):Bd s i 4<4294967296:=by
 have h0:=xn s (i+0);have h1:=xn s (i+1);have h2:=xn s (i+2);have h3:=xn s (i+3);simp only[Bd];omega
theorem lU (s:ByteArray)(a b k:Nat)(hb:b<=s.size)(h:a+k<=b):Bd (s.extract a b) 0 k=Bd s a k:=by
 induction k with
 |zero=>rfl
 |succ k ih=>rw[Bd,Bd,ih (by omega),Bw s a b _ hb (by omega),Nat.zero_add]
theorem wC (s:ByteArray)(i:Nat)(h:i+4<=s.size):qa 4 (Bd s i 4:Nat)=s.extract i (i+4):=by
 have h0:=xn s (i+0);have h1:=xn s (i+1);have h2:=xn s (i+2);have h3:=xn s (i+3);apply KA
 ·rw[Sa,ByteArray.size_extract];omega
 ·intro k hk;rw[Sa]at hk;have e1:=LA 4 (Bd s i 4:Nat) k hk;have e2:=Bw s i (i+4) k h (by omega);rw[e2];generalize Vg (qa 4 (Bd s i 4:Nat)) k=z at e1⊢;clear e2;have hc:k=0\/k=1\/k=2\/k=3:=by omega
  simp only[Bd]at e1;rcases hc with rfl|rfl|rfl|rfl<;>simp only[Nat.reduceSub,Int.reducePow]at e1<;>omega
theorem nU (v:Int)(h0:0<=v)(h1:v<4294967296):(Bd (qa 4 v) 0 4:Int)=v:=by
 have a0:=LA 4 v 0 (by decide);have a1:=LA 4 v 1 (by decide);have a2:=LA 4 v 2 (by decide);have a3:=LA 4 v 3 (by decide);simp only[Bd,Nat.zero_add];simp only[Nat.reduceSub,Int.reducePow]at a0 a1 a2 a3;omega
theorem iK (u v:Int)(hu:0<=u)(hu1:u<4294967296)(hv:0<=v)(hv1:v<4294967296)(h:qa 4 u=qa 4 v):u=v:=by
 rw[<-nU u hu hu1,<-nU v hv hv1,h]
def Gf:ByteArray:=⟨#[115,103,110,116]⟩
def Cr:ByteArray:=⟨#[0,0,0,0,0,0,0,0]⟩
theorem KN:qa 8 0=Cr:=by decide
def jh (s:ByteArray):Int:=4294967295-((Oi s s.size:Nat):Int)
theorem QT (s:ByteArray):0<=jh s:=by have:=xE s s.size;unfold jh;omega
theorem PT (s:ByteArray):jh s<4294967296:=by unfold jh;omega
def qh (q b:Int)(d:ByteArray):ByteArray:=Gf++qa 4 q++d++qa 4 b++Cr
def Ua (q b:Int)(d:ByteArray):ByteArray:=qh q b d++qa 4 (jh (qh q b d))
abbrev Oh (q b:Int)(d:ByteArray):Prop:=1<=q/\q<=2147483647/\0<=b/\b<=4096/\d.size=8
theorem nz (q b:Int)(d:ByteArray)(h:d.size=8):(qh q b d).size=28:=by
 simp only[qh,ByteArray.size_append,Sa,h];rfl
theorem YS (q b:Int)(d:ByteArray)(h:d.size=8):(Ua q b d).size=32:=by
 rw[Ua,ByteArray.size_append,nz q b d h,Sa]
theorem Iy (s:ByteArray)(a b c:Nat)(h1:a<=b)(h2:b<=c)(h3:c<=s.size):s.extract a b++s.extract b c=s.extract a c:=by
 apply KA
 ·simp only[ByteArray.size_append,ByteArray.size_extract];omega
 ·intro k hk;simp only[ByteArray.size_append,ByteArray.size_extract]at hk;by_cases h:k<b-a
  ·rw[pI _ _ _ (by rw[ByteArray.size_extract];omega),Bw _ _ _ _ (by omega) (by omega),Bw _ _ _ _ (by omega) (by omega)]
  ·rw[qI _ _ _ (by rw[ByteArray.size_extract];omega),ByteArray.size_extract,Bw _ _ _ _ (by omega) (by omega),Bw _ _ _ _ (by omega) (by omega)];congr 1;omega
theorem aZ (s:ByteArray)(n:Nat)(h:s.size=n):s.extract 0 n=s:=by
 apply KA
 ·rw[ByteArray.size_extract];omega
 ·intro k hk;rw[ByteArray.size_extract]at hk;rw[Bw _ _ _ _ (by omega) (by omega),Nat.zero_add]
def Hg (s:ByteArray):Int:=(Bd s 4 4:Nat)
def qg (s:ByteArray):Int:=(Bd s 16 4:Nat)
def Qd (s:ByteArray):ByteArray:=s.extract 8 16
theorem Cy {a b c d:ByteArray}(h:a++b=c++d)(hz:a.size=c.size):a=c/\b=d:=by
 have hs:=congrArg ByteArray.size h;simp only[ByteArray.size_append]at hs;refine⟨KA _ _ hz ?_,KA _ _ (by omega) ?_⟩
 ·intro k hk;have e:Vg (a++b) k=Vg (c++d) k:=by rw[h]
  rwa [pI _ _ _ hk,pI _ _ _ (by omega)]at e
 ·intro k hk;have e:Vg (a++b) (a.size+k)=Vg (c++d) (a.size+k):=by rw[h]
  rw[qI _ _ _ (by omega),qI _ _ _ (by omega)]at e
  rwa [show a.size+k-a.size=k by omega,show a.size+k-c.size=k by omega]at e
theorem zW (s:ByteArray)(hs:s.size=32):Ua (Hg s) (qg s) (Qd s)=s↔s.extract 0 4=Gf/\s.extract 20 28=Cr/\jh (s.extract 0 28)=(Bd s 28 4:Nat):=by
 have e4:=wC s 4 (by omega);have e16:=wC s 16 (by omega);have e28:=wC s 28 (by omega);have hl:=dL s 28
 have HT:qh (Hg s) (qg s) (Qd s)=Gf++s.extract 4 8++s.extract 8 16++s.extract 16 20++Cr:=by
  rw[qh,Hg,qg,e4,e16,Qd]
 have H0:s.extract 0 4++s.extract 4 8++s.extract 8 16++s.extract 16 20++s.extract 20 28=s.extract 0 28:=by
  rw[Iy s 0 4 8 (by omega) (by omega) (by omega),Iy s 0 8 16 (by omega) (by omega) (by omega),Iy s 0 16 20 (by omega) (by omega) (by omega),Iy s 0 20 28 (by omega) (by omega) (by omega)]
 have H1:s.extract 0 28++s.extract 28 32=s:=by
  rw[Iy s 0 28 32 (by omega) (by omega) (by omega),aZ s 32 hs]
 constructor
 ·intro h;have hd:(Qd s).size=8:=by rw[Qd,ByteArray.size_extract];omega
  have hp:=Cy (a:=qh (Hg s) (qg s) (Qd s)) (c:=s.extract 0 28) (h.trans H1.symm) (by rw[nz _ _ _ hd,ByteArray.size_extract];omega);obtain⟨hp,hv⟩:=hp;have hq:=hp;rw[HT,<-H0]at hp;have hz:Gf.size=(s.extract 0 4).size:=by rw[ByteArray.size_extract,show Gf.size=4 from rfl];omega
  obtain⟨hp,h5⟩:=Cy hp (by simp only[ByteArray.size_append];omega);obtain⟨hp,-⟩:=Cy hp (by simp only[ByteArray.size_append];omega);obtain⟨hp,-⟩:=Cy hp (by simp only[ByteArray.size_append];omega);obtain⟨hp,-⟩:=Cy hp hz;refine⟨hp.symm,h5.symm,?_⟩;rw[hq,<-e28]at hv;exact iK _ _ (QT _) (PT _) (by omega) (by omega) hv
 ·rintro⟨h1,h2,h3⟩
  have HQ:qh (Hg s) (qg s) (Qd s)=s.extract 0 28:=by rw[HT,<-H0,h1,h2]
  rw[Ua,HQ,h3,e28,H1]
end Go.Proofs.YtgaoeoijdpdjiabGreatDoor
namespace Go.Proofs.YtgaoeoijdpdjiabGreatDoor
open Go.RowKit
theorem K4 (a b:Nat)(ha:a<9223372036854775808)(hb:b<9223372036854775808):bits .or .i64 (a:Int) (b:Int)=((a|||b:Nat):Int):=by
 have hx:a|||b<2^63:=Nat.or_lt_two_pow (by omega) (by omega);show IntKind.i64.wrap ((BitVec.ofInt 64 (a:Int)|||BitVec.ofInt 64 (b:Int)).toNat:Int)=_;rw[BitVec.toNat_or,ofInt_u64 a (by omega),ofInt_u64 b (by omega),IntKind.wrap_i64];omega
theorem ta0 (v c:Nat)(hv:v<16777216)(hc:c<256):bits BinOp.or IntKind.i64 ((v:Int)*256) (c:Int)=((v*256+c:Nat):Int):=by
 have h:=K4 (v*256) c (by omega) (by omega)
 have e:v*256|||c=v*256+c:=by
  have:=Nat.two_pow_add_eq_or_of_lt (i:=8) hc v;rw[Nat.mul_comm];exact this.symm
 rw[e]at h;rw[Int.natCast_mul]at h;exact h
theorem mU (s:ByteArray)(i j:Nat)(h:j<=3):Bd s i j<16777216:=by
 have h0:=xn s (i+0);have h1:=xn s (i+1);have h2:=xn s (i+2);have hc:j=0\/j=1\/j=2\/j=3:=by omega
 rcases hc with rfl|rfl|rfl|rfl<;>simp only[Bd]<;>omega
theorem S9 (t:ByteArray)(w:World)(h1:t.size<=4)(h2:4<=t.size):Calls prog 156 #[string t] w λe w'=>e=.returned (int i64 ((Bd t 0 4:Nat):Int))/\w'=w:=by
 have HE:Hid (Bd t 0 t.size=Bd t 0 4):=by
  have e:t.size=4:=by omega
  show _=_;rw[e]
 clear h2;go_enter func156,ntmps156;go_wp2;go_loop [3,7] (λv i=>∃j:Nat,j<=t.size/\i=int i64 j/\v=int i64 ((Bd t 0 j:Nat):Int)) (λ_ i=>t.size-(intOf i).toNat)
 case atStart=>exact⟨0,by omega,rfl,rfl⟩
 case round=>
  obtain⟨j,hj,rfl,rfl⟩:=hrel;by_cases hlt:j<t.size
  ·have hv:Bd t 0 j<16777216:=mU t 0 j (by omega);have hc:=xn t j;have hby:Vg t j=(t[j]'hlt).toNat:=Dy t j hlt;have HS:Hid (Bd t 0 (j+1)=Bd t 0 j*256+Vg t j):=by show _=_;rw[Bd,Nat.zero_add]
   have HO:=aa (ta0 (Bd t 0 j) (Vg t j) hv hc);generalize Bd t 0 j=v at hv HS HO⊢;rw[hby]at HS HO hc;have hwb:wrap64 ((t[j]'hlt).toNat:Int)=((t[j]'hlt).toNat:Int):=IntWalk.wrap64_in _ ⟨by omega,by omega⟩;clear hby;go_wp2;go_round
   case rel=>exact⟨j+1,by omega,by go_num,by rw[HS.out,<-HO.out]⟩
   case measure=>simp[intOf];omega
  ·obtain rfl:j=t.size:=by omega
   go_wp2;go_ret;exact⟨congrArg (λn:Nat=>Ending.returned (int i64 (n:Int))) HE.out,rfl⟩
end Go.Proofs.YtgaoeoijdpdjiabGreatDoor
namespace Go.Proofs.YtgaoeoijdpdjiabGreatDoor
def Ue (b r:Nat)(L:List Nat):Nat->List Nat
 |0=>L
 |k+1=>Pb b k (4+(k+r)% 4) (Ue b r L k)
def Mg (b:Nat)(L:List Nat):Nat->List Nat
 |0=>L
 |r+1=>(Ue b r (Mg b L r) 4).set 0 (Ba (Ue b r (Mg b L r) 4) 0^^^(r+1))
theorem qC (b r:Nat)(L:List Nat)(k:Nat):(Ue b r L k).length=L.length:=by
 induction k with
 |zero=>rfl
 |succ k ih=>simp only[Ue,WN,ih]
theorem rC (b r:Nat)(L:List Nat)(k:Nat)(h:ve b L):ve b (Ue b r L k):=by
 induction k with
 |zero=>exact h
 |succ k ih=>exact ih.col _ _
theorem XF (b:Nat)(L:List Nat)(r:Nat):(Mg b L r).length=L.length:=by
 induction r with
 |zero=>rfl
 |succ r ih=>simp only[Mg,List.length_set,qC,ih]
theorem kS (b:Nat)(L:List Nat)(r:Nat)(h:ve b L)(hb:4<=b:=by decide)(hr:r<=8:=by omega):ve b (Mg b L r):=by
 induction r with
 |zero=>exact h
 |succ r ih=>
  have hm:=rC b r (Mg b L r) 4 (ih (by omega));have h16:2^4<=2^b:=Nat.pow_le_pow_right (by decide) hb;exact hm.set 0 _ (Nat.xor_lt_two_pow (hm.at 0) (by omega))
def Pk (r:Nat)(L:List Nat):List Nat:=[Ba L 0,Ba L 1,Ba L 2,Ba L 3,Ba L (4+r% 4),Ba L (4+(1+r)% 4),Ba L (4+(2+r)% 4),Ba L (4+(3+r)% 4)]
theorem Y8 (b r:Nat)(L:List Nat)(k:Nat):Ue b r L k=Ue b (r% 4) L k:=by
 induction k with
 |zero=>rfl
 |succ k ih=>simp only[Ue];rw[ih,show(k+r)% 4=(k+r% 4)% 4 by omega]
theorem UR (r c:Nat)(L:List Nat)(h:r% 4=c% 4):Pk r L=Pk c L:=by
 unfold Pk;rw[h,show(1+r)% 4=(1+c)% 4 by omega,show(2+r)% 4=(2+c)% 4 by omega,show(3+r)% 4=(3+c)% 4 by omega]
theorem XN (b q0 q1 q2 q3 q4 q5 q6 q7:Nat):Pb b 0 4 [q0,q1,q2,q3,q4,q5,q6,q7]=[La b q0 q4,q1,q2,q3,Kb b q4 (Ab 0)^^^La b q0 q4,q5,q6,q7]:=by
 simp only[Pb,Ba,Ka,Ma,List.getD_cons_zero,List.getD_cons_succ]
theorem LX (b q0 q1 q2 q3 q4 q5 q6 q7:Nat):Pb b 0 5 [q0,q1,q2,q3,q4,q5,q6,q7]=[La b q0 q5,q1,q2,q3,q4,Kb b q5 (Ab 0)^^^La b q0 q5,q6,q7]:=by
 simp only[Pb,Ba,Ka,Ma,List.getD_cons_zero,List.getD_cons_succ]
theorem MX (b q0 q1 q2 q3 q4 q5 q6 q7:Nat):Pb b 0 6 [q0,q1,q2,q3,q4,q5,q6,q7]=[La b q0 q6,q1,q2,q3,q4,q5,Kb b q6 (Ab 0)^^^La b q0 q6,q7]:=by
 simp only[Pb,Ba,Ka,Ma,List.getD_cons_zero,List.getD_cons_succ]
theorem OX (b q0 q1 q2 q3 q4 q5 q6 q7:Nat):Pb b 0 7 [q0,q1,q2,q3,q4,q5,q6,q7]=[La b q0 q7,q1,q2,q3,q4,q5,q6,Kb b q7 (Ab 0)^^^La b q0 q7]:=by
 simp only[Pb,Ba,Ka,Ma,List.getD_cons_zero,List.getD_cons_succ]
theorem PX (b q0 q1 q2 q3 q4 q5 q6 q7:Nat):Pb b 1 4 [q0,q1,q2,q3,q4,q5,q6,q7]=[q0,La b q1 q4,q2,q3,Kb b q4 (Ab 1)^^^La b q1 q4,q5,q6,q7]:=by
 simp only[Pb,Ba,Ka,Ma,List.getD_cons_zero,List.getD_cons_succ]
theorem YN (b q0 q1 q2 q3 q4 q5 q6 q7:Nat):Pb b 1 5 [q0,q1,q2,q3,q4,q5,q6,q7]=[q0,La b q1 q5,q2,q3,q4,Kb b q5 (Ab 1)^^^La b q1 q5,q6,q7]:=by
 simp only[Pb,Ba,Ka,Ma,List.getD_cons_zero,List.getD_cons_succ]
theorem QX (b q0 q1 q2 q3 q4 q5 q6 q7:Nat):Pb b 1 6 [q0,q1,q2,q3,q4,q5,q6,q7]=[q0,La b q1 q6,q2,q3,q4,q5,Kb b q6 (Ab 1)^^^La b q1 q6,q7]:=by
 simp only[Pb,Ba,Ka,Ma,List.getD_cons_zero,List.getD_cons_succ]
theorem RX (b q0 q1 q2 q3 q4 q5 q6 q7:Nat):Pb b 1 7 [q0,q1,q2,q3,q4,q5,q6,q7]=[q0,La b q1 q7,q2,q3,q4,q5,q6,Kb b q7 (Ab 1)^^^La b q1 q7]:=by
 simp only[Pb,Ba,Ka,Ma,List.getD_cons_zero,List.getD_cons_succ]
theorem SX (b q0 q1 q2 q3 q4 q5 q6 q7:Nat):Pb b 2 4 [q0,q1,q2,q3,q4,q5,q6,q7]=[q0,q1,La b q2 q4,q3,Kb b q4 (Ab 2)^^^La b q2 q4,q5,q6,q7]:=by
 simp only[Pb,Ba,Ka,Ma,List.getD_cons_zero,List.getD_cons_succ]
theorem UX (b q0 q1 q2 q3 q4 q5 q6 q7:Nat):Pb b 2 5 [q0,q1,q2,q3,q4,q5,q6,q7]=[q0,q1,La b q2 q5,q3,q4,Kb b q5 (Ab 2)^^^La b q2 q5,q6,q7]:=by
 simp only[Pb,Ba,Ka,Ma,List.getD_cons_zero,List.getD_cons_succ]
theorem ZN (b q0 q1 q2 q3 q4 q5 q6 q7:Nat):Pb b 2 6 [q0,q1,q2,q3,q4,q5,q6,q7]=[q0,q1,La b q2 q6,q3,q4,q5,Kb b q6 (Ab 2)^^^La b q2 q6,q7]:=by
 simp only[Pb,Ba,Ka,Ma,List.getD_cons_zero,List.getD_cons_succ]
theorem VX (b q0 q1 q2 q3 q4 q5 q6 q7:Nat):Pb b 2 7 [q0,q1,q2,q3,q4,q5,q6,q7]=[q0,q1,La b q2 q7,q3,q4,q5,q6,Kb b q7 (Ab 2)^^^La b q2 q7]:=by
 simp only[Pb,Ba,Ka,Ma,List.getD_cons_zero,List.getD_cons_succ]
theorem WX (b q0 q1 q2 q3 q4 q5 q6 q7:Nat):Pb b 3 4 [q0,q1,q2,q3,q4,q5,q6,q7]=[q0,q1,q2,La b q3 q4,Kb b q4 (Ab 3)^^^La b q3 q4,q5,q6,q7]:=by
 simp only[Pb,Ba,Ka,Ma,List.getD_cons_zero,List.getD_cons_succ]
theorem XX (b q0 q1 q2 q3 q4 q5 q6 q7:Nat):Pb b 3 5 [q0,q1,q2,q3,q4,q5,q6,q7]=[q0,q1,q2,La b q3 q5,q4,Kb b q5 (Ab 3)^^^La b q3 q5,q6,q7]:=by
 simp only[Pb,Ba,Ka,Ma,List.getD_cons_zero,List.getD_cons_succ]
theorem YX (b q0 q1 q2 q3 q4 q5 q6 q7:Nat):Pb b 3 6 [q0,q1,q2,q3,q4,q5,q6,q7]=[q0,q1,q2,La b q3 q6,q4,q5,Kb b q6 (Ab 3)^^^La b q3 q6,q7]:=by
 simp only[Pb,Ba,Ka,Ma,List.getD_cons_zero,List.getD_cons_succ]
theorem aO (b q0 q1 q2 q3 q4 q5 q6 q7:Nat):Pb b 3 7 [q0,q1,q2,q3,q4,q5,q6,q7]=[q0,q1,q2,La b q3 q7,q4,q5,q6,Kb b q7 (Ab 3)^^^La b q3 q7]:=by
 simp only[Pb,Ba,Ka,Ma,List.getD_cons_zero,List.getD_cons_succ]
theorem vF (b q0 q1 q2 q3 q4 q5 q6 q7:Nat):Fg b [q0,q1,q2,q3,q4,q5,q6,q7] 4=[La b q0 q4,La b q1 q5,La b q2 q6,La b q3 q7,Kb b q4 (Ab 0)^^^La b q0 q4,Kb b q5 (Ab 1)^^^La b q1 q5,Kb b q6 (Ab 2)^^^La b q2 q6,Kb b q7 (Ab 3)^^^La b q3 q7]:=by
 show Pb b 3 7 (Pb b 2 6 (Pb b 1 5 (Pb b 0 4 [q0,q1,q2,q3,q4,q5,q6,q7])))=_;rw[XN,YN,ZN,aO]
theorem Ib0 (b q0 q1 q2 q3 q4 q5 q6 q7:Nat):Ue b 0 [q0,q1,q2,q3,q4,q5,q6,q7] 4=[La b q0 q4,La b q1 q5,La b q2 q6,La b q3 q7,Kb b q4 (Ab 0)^^^La b q0 q4,Kb b q5 (Ab 1)^^^La b q1 q5,Kb b q6 (Ab 2)^^^La b q2 q6,Kb b q7 (Ab 3)^^^La b q3 q7]:=by
 show Pb b 3 7 (Pb b 2 6 (Pb b 1 5 (Pb b 0 4 [q0,q1,q2,q3,q4,q5,q6,q7])))=_;rw[XN,YN,ZN,aO]
theorem Jb0 (b q0 q1 q2 q3 q4 q5 q6 q7:Nat):Ue b 1 [q0,q1,q2,q3,q4,q5,q6,q7] 4=[La b q0 q5,La b q1 q6,La b q2 q7,La b q3 q4,Kb b q4 (Ab 3)^^^La b q3 q4,Kb b q5 (Ab 0)^^^La b q0 q5,Kb b q6 (Ab 1)^^^La b q1 q6,Kb b q7 (Ab 2)^^^La b q2 q7]:=by
 show Pb b 3 4 (Pb b 2 7 (Pb b 1 6 (Pb b 0 5 [q0,q1,q2,q3,q4,q5,q6,q7])))=_;rw[LX,QX,VX,WX]
theorem Kb0 (b q0 q1 q2 q3 q4 q5 q6 q7:Nat):Ue b 2 [q0,q1,q2,q3,q4,q5,q6,q7] 4=[La b q0 q6,La b q1 q7,La b q2 q4,La b q3 q5,Kb b q4 (Ab 2)^^^La b q2 q4,Kb b q5 (Ab 3)^^^La b q3 q5,Kb b q6 (Ab 0)^^^La b q0 q6,Kb b q7 (Ab 1)^^^La b q1 q7]:=by
 show Pb b 3 5 (Pb b 2 4 (Pb b 1 7 (Pb b 0 6 [q0,q1,q2,q3,q4,q5,q6,q7])))=_;rw[MX,RX,SX,XX]
theorem Lb0 (b q0 q1 q2 q3 q4 q5 q6 q7:Nat):Ue b 3 [q0,q1,q2,q3,q4,q5,q6,q7] 4=[La b q0 q7,La b q1 q4,La b q2 q5,La b q3 q6,Kb b q4 (Ab 1)^^^La b q1 q4,Kb b q5 (Ab 2)^^^La b q2 q5,Kb b q6 (Ab 3)^^^La b q3 q6,Kb b q7 (Ab 0)^^^La b q0 q7]:=by
 show Pb b 3 6 (Pb b 2 5 (Pb b 1 4 (Pb b 0 7 [q0,q1,q2,q3,q4,q5,q6,q7])))=_;rw[OX,PX,UX,YX]
theorem Ta0 (b m c:Nat)(hc:c<4)(q0 q1 q2 q3 q4 q5 q6 q7:Nat):Qk m (Fg b (Pk c [q0,q1,q2,q3,q4,q5,q6,q7]) 4)=Pk (c+1) ((Ue b c [q0,q1,q2,q3,q4,q5,q6,q7] 4).set 0 (Ba (Ue b c [q0,q1,q2,q3,q4,q5,q6,q7] 4) 0^^^m)):=by
 rcases(show c=0\/c=1\/c=2\/c=3 by omega)with rfl|rfl|rfl|rfl
 ·rw[show Pk 0 [q0,q1,q2,q3,q4,q5,q6,q7]=[q0,q1,q2,q3,q4,q5,q6,q7]from rfl,vF,Ib0];simp only[Qk,Pk,Ba,Ka,List.getD_cons_zero,List.getD_cons_succ,Nat.reduceAdd,Nat.reduceMod]
 ·rw[show Pk 1 [q0,q1,q2,q3,q4,q5,q6,q7]=[q0,q1,q2,q3,q5,q6,q7,q4]from rfl,vF,Jb0];simp only[Qk,Pk,Ba,Ka,List.getD_cons_zero,List.getD_cons_succ,Nat.reduceAdd,Nat.reduceMod]
 ·rw[show Pk 2 [q0,q1,q2,q3,q4,q5,q6,q7]=[q0,q1,q2,q3,q6,q7,q4,q5]from rfl,vF,Kb0];simp only[Qk,Pk,Ba,Ka,List.getD_cons_zero,List.getD_cons_succ,Nat.reduceAdd,Nat.reduceMod]
 ·rw[show Pk 3 [q0,q1,q2,q3,q4,q5,q6,q7]=[q0,q1,q2,q3,q7,q4,q5,q6]from rfl,vF,Lb0];simp only[Qk,Pk,Ba,Ka,List.getD_cons_zero,List.getD_cons_succ,Nat.reduceAdd,Nat.reduceMod]
theorem Ua0 (b r:Nat)(q0 q1 q2 q3 q4 q5 q6 q7:Nat):Qk (r+1) (Fg b (Pk r [q0,q1,q2,q3,q4,q5,q6,q7]) 4)=Pk (r+1) ((Ue b r [q0,q1,q2,q3,q4,q5,q6,q7] 4).set 0 (Ba (Ue b r [q0,q1,q2,q3,q4,q5,q6,q7] 4) 0^^^(r+1))):=by
 rw[Y8 b r,UR r (r% 4) _ (by omega),UR (r+1) (r% 4+1) _ (by omega)];exact Ta0 b (r+1) (r% 4) (Nat.mod_lt _ (by decide)) q0 q1 q2 q3 q4 q5 q6 q7
theorem bf0 (b:Nat)(L:List Nat)(r:Nat)(hL:L.length=8):Je b L r=Pk r (Mg b L r):=by
 induction r with
 |zero=>
  obtain⟨a0,a1,a2,a3,a4,a5,a6,a7,rfl⟩:=Dw hL;rfl
 |succ r ih=>
  obtain⟨q0,q1,q2,q3,q4,q5,q6,q7,e⟩:=Dw (show(Mg b L r).length=8 by rw[XF];exact hL);show Qk (r+1) (Fg b (Je b L r) 4)=Pk (r+1) ((Ue b r (Mg b L r) 4).set 0 (Ba (Ue b r (Mg b L r) 4) 0^^^(r+1)));rw[ih,e];exact Ua0 b r q0 q1 q2 q3 q4 q5 q6 q7
def FT (b:Nat)(L:List Nat):List Nat:=Je b L 8
theorem KT (b:Nat)(L:List Nat)(hL:L.length=8):Mg b L 8=FT b L:=by
 unfold FT;rw[bf0 b L 8 hL];obtain⟨q0,q1,q2,q3,q4,q5,q6,q7,e⟩:=Dw (show(Mg b L 8).length=8 by rw[XF];exact hL);rw[e];rfl
end Go.Proofs.YtgaoeoijdpdjiabGreatDoor
