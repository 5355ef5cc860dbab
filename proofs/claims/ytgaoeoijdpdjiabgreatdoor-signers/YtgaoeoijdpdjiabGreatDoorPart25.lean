import Derived.Test.YtgaoeoijdpdjiabGreatDoorPart21
open Go.Value (int string slice)
open Go.IntKind (i64)
open Go.Proofs.Tryz
set_option maxRecDepth 20000
set_option maxHeartbeats 4000000
namespace Go.Proofs.YtgaoeoijdpdjiabGreatDoor
open Go.RowKit
theorem L8 (n:Nat):madeCells (string ⟨#[]⟩).cells n=((List.replicate n (⟨#[]⟩:ByteArray)).map Value.string).toArray:=by
 apply Array.ext
 ·simp[size_madeCells]
 ·intro i h1 h2;simp[madeCells,Value.cells,Nat.mod_one]
theorem aK (k:Nat)(hk:k<=1000)(w:World):(Instr.makeSlice 27 (int i64 k) (int i64 k)).run prog w=.ok (slice (some ⟨w.heap.size,0,none⟩) k k) (w.alloc (.cells ((List.replicate k (⟨#[]⟩:ByteArray)).map Value.string).toArray 9)):=by
 obtain⟨i0,hi,hz0,hz1,hz2⟩:=info_parts Rw;have h:=run_make (P:=prog) w 27 9 i0 (string ⟨#[]⟩) underlying27 hi hz0 .i64 .i64 k k (by omega) (by omega) (by rw[hz2];omega) (by omega);rw[hz1,Nat.mul_one,Int.toNat_natCast,L8]at h;exact h
theorem Ik {n:Nat}{w W V:World}(h:Below n w W)(hb:Below W.heap.size W V)(hn:n<=w.heap.size):Below n w V:=h.trans (hb.mono (Nat.le_trans hn h.size))
theorem VK (k b x t l:Int)(sec rnd pub sd:ByteArray)(p0 p1 p2 p3 ch F i:Int)(w:World):Calls prog 269 #[.agg #[int i64 k,int i64 b,int i64 x,int i64 t,int i64 l,string sec,string rnd,string pub,int i64 p0,int i64 p1,int i64 p2,int i64 p3,int i64 ch],string sd,int i64 F,int i64 i] w λe w'=>e=.returned (.agg #[int i64 k,int i64 b,int i64 x,int i64 t,int i64 l,string sd,int i64 p0,int i64 p1,int i64 F,int i64 i])/\Below w.heap.size w w':=by
 go_enter func269,ntmps269;go_wp2;refine bodyPost_ret (v:=.agg #[int i64 k,int i64 b,int i64 x,int i64 t,int i64 l,string sd,int i64 p0,int i64 p1,int i64 F,int i64 i]) (by simp[results,results269,go_sem]) rfl ⟨rfl,?_⟩
 first
  |exact((Va _).alloc (by simp) _).alloc (by simp;omega) _
  |(repeat refine Below.setCell ?_ (by simp<;>omega) _
    exact((Va _).alloc (by simp) _).alloc (by simp;omega) _)
def Ih (k b:Int)(sec pub:ByteArray)(p0 p1 F:Int)(ds:List Nat)(n:Nat):List ByteArray:=(List.range n).map λ(i:Nat)=>bg k b pub p0 p1 F i 0 (ds[i]?.getD 0) (si k b sec p0 p1 F i)
theorem Wb0 (k b:Int)(sec pub:ByteArray)(p0 p1 F:Int)(ds:List Nat)(n:Nat):Ih k b sec pub p0 p1 F ds (n+1)=Ih k b sec pub p0 p1 F ds n++[bg k b pub p0 p1 F n 0 (ds[n]?.getD 0) (si k b sec p0 p1 F n)]:=by simp[Ih,List.range_succ]
theorem YF (k b:Int)(sec pub:ByteArray)(p0 p1 F:Int)(ds:List Nat)(n:Nat):(Ih k b sec pub p0 p1 F ds n).length=n:=by simp[Ih]
theorem xS (k b:Int)(sec pub:ByteArray)(p0 p1 F:Int)(ds:List Nat)(n:Nat)(hk:k=1\/k=2)(h1:1<=b)(h2:b<=16)(hs:sec.size<=16)(hp:pub.size<=16):∀y∈Ih k b sec pub p0 p1 F ds n,(y.size:Int)=b:=by
 intro y hy;simp only[Ih,List.mem_map]at hy;obtain⟨i,_,rfl⟩:=hy;exact UA k b pub p0 p1 F i 0 _ _ hk h1 h2 hp (UC k b sec p0 p1 F i hk h1 h2 hs)
theorem yS (k b x t l:Int)(sec rnd pub:ByteArray)(p0 p1 p2 p3 ch F:Int)(g o c:Nat)(ds:List Nat)(w:World)(hk:k=1\/k=2)(h1:1<=b)(h2:b<=16)(hs:sec.size<=16)(hp:pub.size<=16)(hn:ds.length<=64)(hd:∀d∈ds,d<=16)(hg:g<w.heap.size)(hc:∀(j:Nat) d,ds[j]?=some d->w.cell? ⟨g,o+j,none⟩=some (int i64 (d:Nat)))(hT:Tn w):Calls prog 249 #[.agg #[int i64 k,int i64 b,int i64 x,int i64 t,int i64 l,string sec,string rnd,string pub,int i64 p0,int i64 p1,int i64 p2,int i64 p3,int i64 ch],int i64 F,slice (some ⟨g,o,none⟩) ds.length c] w λe w'=>e=.returned (slice (some ⟨w.heap.size+1,0,none⟩) ds.length ds.length)/\ma w' (w.heap.size+1) ((Ih k b sec pub p0 p1 F ds ds.length).map Value.string) 9/\Below w.heap.size w w':=by
 have hmk:=aK ds.length (by omega);have Jd:=aa (λ(m:Int) (V:World)=>VK k b x t l sec rnd pub sec p0 p1 p2 p3 ch F m V);have Vk:=aa (λ(m:Int) (V:World)=>VK k b x t l sec rnd pub pub p0 p1 p2 p3 ch F m V);have HST:=aa (λ(m:Int) (V:World) (hV:Tn V)=>Te0 k b x t l sec p0 p1 F m V hk h1 h2 hs hV)
 have Qv:=aa (λ(m d:Nat) (hd:d<=16) (V:World) (hV:Tn V)=>(by
  have h:=TS k b x t l pub p0 p1 F m 0 d (si k b sec p0 p1 F m) V hk h1 h2 hp (UC k b sec p0 p1 F m hk h1 h2 hs) (by omega) hV;rw[Nat.zero_add]at h;exact h:Calls prog 285 #[.agg #[int i64 k,int i64 b,int i64 x,int i64 t,int i64 l,string pub,int i64 p0,int i64 p1,int i64 F,int i64 m],int i64 0,int i64 d,string (si k b sec p0 p1 F m)] V λe w'=>e=.returned (string (bg k b pub p0 p1 F m 0 d (si k b sec p0 p1 F m)))/\Below V.heap.size V w'))
 have Kz:=aa (λm=>Wb0 k b sec pub p0 p1 F ds m);have Iz:=aa (λm=>YF k b sec pub p0 p1 F ds m);have HD:=aa hd;have HT:=aa hT;have Ux:=aa hc;obtain⟨N,hN⟩:=Ca (ds.length);rw[hN]at hmk⊢;have HN:=aa hN;have hn':N<=64:=by omega
 clear hT hd hc hN hn;obtain⟨WT,Uf⟩:=Ca (w.alloc (.cells #[int i64 k,int i64 b,int i64 x,int i64 t,int i64 l,string sec,string rnd,string pub,int i64 p0,int i64 p1,int i64 p2,int i64 p3,int i64 ch] 274));have yw:=Ph Uf;have Nt:WT.heap.size=w.heap.size+1:=by rw[<-Uf];simp
 have HB:=Xd Uf;have Kl:=aa (HT.out.on HB.out)
 have HW3:=aa (show ma (WT.alloc (.cells (Array.replicate N (string ⟨#[]⟩)) 9)) (w.heap.size+1) (List.replicate N (string ⟨#[]⟩)) 9/\Below (w.heap.size+1) WT (WT.alloc (.cells (Array.replicate N (string ⟨#[]⟩)) 9)) by
  refine⟨?_,?_⟩
  ·have h:=ma.new WT (List.replicate N (string ⟨#[]⟩)) 9;rw[Nt,List.toArray_replicate]at h;exact h
  ·exact Vb.alloc (by omega) _)
 go_enter func249,ntmps249;have Ea:=aa Uf;clear Uf;go_wp2_with fail;rw[Ea.out];obtain⟨W3,hW3⟩:=Ca (WT.alloc (.cells (Array.replicate N (string ⟨#[]⟩)) 9));rw[hW3]at HW3⊢;clear hW3 hmk Ea;go_loopw [16] (λi wr=>∃m:Nat,m<=N/\i=int i64 m/\Hid (ma wr (w.heap.size+1) ((Ih k b sec pub p0 p1 F ds m).map Value.string++List.replicate (N-m) (string ⟨#[]⟩)) 9)/\Hid (Below (w.heap.size+1) WT wr)) (λi _=>N-(intOf i).toNat)
 case atStart=>exact⟨0,Nat.zero_le _,rfl,show ma _ _ _ _ by simpa[Ih]using HW3.out.1,HW3.out.2⟩
 case round=>
  obtain⟨m,hm,rfl,hen,hb⟩:=hrel;by_cases hlt:m<N
  ·obtain⟨dd,hdd⟩:∃dd,ds[m]?=some dd:=⟨_,List.getElem?_eq_getElem (by rw[HN.out];exact hlt)⟩;have oJ:dd<=16:=HD.out dd (List.mem_of_getElem? hdd);have cd:wr.cell? ⟨g,o+m,none⟩=some (int i64 dd):=(hb.out.cell (p:=⟨g,o+m,none⟩) (by show g<_;omega)).trans ((HB.out.cell (p:=⟨g,o+m,none⟩) hg).trans (Ux.out m dd hdd));have Yx:=aa (show ds[m]?.getD 0=dd by rw[hdd];rfl);clear hdd;have HS:=aa (λ(V:World) (h:Below (w.heap.size+1) WT V)=>(have hb:=yw.out.below h (by omega);cK (Fa hb) (Ja hb) (Ha hb) (Xa hb) (Ya hb) (Ee hb) (jf hb) (Ch hb) (bn hb) (dn hb) (qo hb) (Zm hb) (Bh hb)));have tu:=aa (λ(V:World) (h:Below (w.heap.size+1) WT V)=>Kl.out.below h (by have:=HT.out.pos;omega));have H1:=aa (Jd.out m);have H2:=aa (Vk.out m);have H3:=aa (HST.out m);have H4:=aa (Qv.out m dd oJ);have Sv:=aa (show Ih k b sec pub p0 p1 F ds (m+1)=Ih k b sec pub p0 p1 F ds m++[bg k b pub p0 p1 F m 0 dd (si k b sec p0 p1 F m)] by rw[Kz.out m,Yx.out]);generalize bg k b pub p0 p1 F m 0 dd (si k b sec p0 p1 F m)=cS at H4 Sv;generalize si k b sec p0 p1 F m=sS at H3 H4;obtain⟨c0,c1,c2,c3,c4,c5,c6,c7,c8,c9,c10,c11,c12⟩:=HS.out wr hb.out;go_wp2_with fail;refine(H1.out _).mono ?_
   rintro e w1 ⟨rfl,hb1⟩
   have HB1:=aa (Ik hb.out hb1 (by omega));have vk:=aa (hen.out.on hb1);clear hb1 c0 c1 c2 c3 c4 c5 c6 c7 c8 c9 c10 c11 c12 hen hb cd;go_wp2_with fail;refine(H3.out _ (tu.out _ HB1.out)).mono ?_
   rintro e w2 ⟨rfl,hb2⟩
   have HB2:=aa (Ik HB1.out hb2 (by omega));have HE2:=aa (vk.out.on hb2);clear hb2 HB1 vk;obtain⟨c0,c1,c2,c3,c4,c5,c6,c7,c8,c9,c10,c11,c12⟩:=HS.out w2 HB2.out;go_wp2_with fail;refine(H2.out _).mono ?_
   rintro e w3 ⟨rfl,hb3⟩
   have HB3:=aa (Ik HB2.out hb3 (by omega));have Xi:=aa (HE2.out.on hb3);clear hb3 HB2 HE2 c0 c1 c2 c3 c4 c5 c6 c7 c8 c9 c10 c11 c12;go_wp2_with fail;refine(H4.out _ (tu.out _ HB3.out)).mono ?_
   rintro e w4 ⟨rfl,hb4⟩
   have Db:=aa (Ik HB3.out hb4 (by omega));have wh:=aa (Xi.out.on hb4);clear hb4 HB3 Xi;have hl:=Iz.out m
   have e0:w4.cell? ⟨w.heap.size+1,m,none⟩=some (string ⟨#[]⟩):=by
    rw[wh.out.cell,List.getElem?_append_right (by simp[hl]),List.length_map,hl,Nat.sub_self,List.getElem?_replicate,if_pos (by omega)]
   have e1:=wh.out.free m
   have Hz:=aa (show ma (w4.setCell ⟨w.heap.size+1,m,none⟩ (string cS)) (w.heap.size+1) ((Ih k b sec pub p0 p1 F ds (m+1)).map Value.string++List.replicate (N-(m+1)) (string ⟨#[]⟩)) 9 by
    have h:=wh.out.set m (string cS);rw[List.set_append_right _ _ (by simp[hl]),List.length_map,hl,Nat.sub_self,show N-m=(N-(m+1))+1 by omega,List.replicate_succ,Ka]at h;rw[Sv.out,List.map_append,List.append_assoc];exact h)
   have Rc:=aa (Db.out.setCell (p:=⟨w.heap.size+1,m,none⟩) Aa (string cS));clear hl Sv;have hms:(m:Int)<(N:Int):=by omega
   go_wp2;go_roundw
   case rel=>
    have R:∃m':Nat,m'<=N/\int i64 ((m:Int)+1)=int i64 m'/\Hid (ma (w4.setCell ⟨w.heap.size+1,m,none⟩ (string cS)) (w.heap.size+1) ((Ih k b sec pub p0 p1 F ds m').map Value.string++List.replicate (N-m') (string ⟨#[]⟩)) 9)/\Hid (Below (w.heap.size+1) WT (w4.setCell ⟨w.heap.size+1,m,none⟩ (string cS))):=⟨m+1,by omega,by go_num,Hz.out,Rc.out⟩;first|exact R|((repeat apply Exists.intro);exact⟨R,rfl⟩)
   case measure=>simp[intOf];omega
  ·obtain rfl:m=N:=by omega
   go_wp2;go_ret;have h:=hen.out;rw[Nat.sub_self,List.replicate_zero,List.append_nil]at h;exact⟨rfl,h,HB.out.trans (hb.out.mono (by omega))⟩
theorem kF:(prog.info? 3).map (λi=>(i.zero,i.size,i.bytes))=some (some (int i64 0),1,8):=by kernel_rfl
theorem mY (g N m:Nat)(hm:m<N)(wx:World):(Instr.slice 56 (slice (some ⟨g,0,none⟩) N N) (some (int i64 m)) none none).run prog wx=.ok (slice (some ⟨g,m,none⟩) (N-m) (N-m)) wx:=by
 have h2:(m:Int)<=N:=by omega
 have h3:(0:Int)<=m:=by omega
 simp[go_sem,h2,h3];all_goals omega
theorem nY (g N m:Nat)(hm:m<N)(wx:World):(Instr.slice 56 (slice (some ⟨g,0,none⟩) N N) none (some (int i64 m)) none).run prog wx=.ok (slice (some ⟨g,0,none⟩) m N) wx:=by
 have h2:(m:Int)<=N:=by omega
 have h3:(0:Int)<=m:=by omega
 simp[go_sem,h2,h3];all_goals omega
theorem I8 (n:Nat):madeCells (int i64 0).cells n=(List.replicate n (int i64 0)).toArray:=by
 apply Array.ext
 ·simp[size_madeCells]
 ·intro i h1 h2;simp[madeCells,Value.cells,Nat.mod_one]
theorem P8 (k:Nat)(hk:k<=1000)(w:World):(Instr.makeSlice 56 (int i64 k) (int i64 k)).run prog w=.ok (slice (some ⟨w.heap.size,0,none⟩) k k) (w.alloc (.cells (List.replicate k (int i64 0)).toArray 3)):=by
 obtain⟨i0,hi,hz0,hz1,hz2⟩:=info_parts kF;have h:=run_make (P:=prog) w 56 3 i0 (int i64 0) underlying56 hi hz0 .i64 .i64 k k (by omega) (by omega) (by rw[hz2];omega) (by omega);rw[hz1,Nat.mul_one,Int.toNat_natCast,I8]at h;exact h
def Mm (v:Int)(n m:Nat):List Value:=List.replicate m (int i64 v)++List.replicate (n-m) (int i64 0)
theorem Pb0 (v:Int)(n m:Nat)(h:m<=n):(Mm v n m).length=n:=by simp[Mm];omega
theorem Qb0 (v:Int)(n m k:Nat)(h:m+k<=n):splice (Mm v n m) m (List.replicate k (int i64 v))=Mm v n (m+k):=by
 unfold splice Mm;rw[List.take_append_of_le_length (by simp),List.take_of_length_le (by simp),List.length_replicate,List.drop_append,List.drop_of_length_le (by simp),List.nil_append,List.length_replicate,List.drop_replicate,<-List.append_assoc,List.replicate_append_replicate];congr 2;omega
theorem Rb0 (v:Int)(g ch:Nat)(w:World)(h1:1<=ch)(h2:ch<=1000)(hg:g<w.heap.size)(hc:w.cell? ⟨g,0,none⟩=some (int i64 v))
  (hM:∀V:World,Calls prog 309 #[.int .u64 1,.int .u64 ch] V λe w'=>e=.returned (.tuple #[.int .u64 0,.int .u64 ch])/\w'=V):Calls prog 268 #[slice (some ⟨g,0,none⟩) 1 1,int i64 ch] w λe w'=>∃q,e=.returned (slice (some ⟨q,0,none⟩) ch ch)/\w.heap.size<=q/\ma w' q (List.replicate ch (int i64 v)) 3/\Below w.heap.size w w':=by
 obtain⟨i0,hi,hz0,hz1,hz2⟩:=info_parts kF;have hsz:(prog.info? 3).map (·.size)=some 1:=by rw[hi];simp[hz1]
 have hmk:=P8 ch h2;have HM:=aa hM
 obtain⟨W1,hcp,HB,HR⟩:∃W1,(Builtin.copy_ #[56,56] 3 #[slice (some ⟨w.heap.size,0,none⟩) ch ch,slice (some ⟨g,0,none⟩) 1 1]).run prog (w.alloc (.cells (Array.replicate ch (int i64 0)) 3))=.ok (int i64 1) W1/\Hid (Below w.heap.size w W1)/\Hid (ma W1 w.heap.size (Mm v ch 1) 3):=by
  have h0:(w.alloc (.cells (Array.replicate ch (int i64 0)) 3)).heap[w.heap.size]?=some (.cells (Array.replicate ch (int i64 0)) 3 (0,0)):=World.alloc_heap_new w _
  have h:=run_copy_row (P:=prog) (w.alloc (.cells (Array.replicate ch (int i64 0)) 3)) 56 56 3 3 w.heap.size 0 ch ch ⟨g,0,none⟩ 1 1 (Array.replicate ch (int i64 0)) 3 [int i64 v] underlying56 hsz h0 (by rw[List.length_singleton];exact(Nat.min_eq_left h1).symm) (by
   intro j u hj
   cases j with
   |zero=>simp at hj;subst hj;exact(World.cell?_alloc_past _ _ _ hg).trans hc
   |succ j=>simp at hj) (by simpa using h1) (by intro u hu;simp at hu;subst hu;rfl)
  refine⟨_,h,below_setRow (Va _) Aa _,?_⟩;show ma _ _ _ _;unfold ma;rw[setRow_heap _ _ _ _ _ _ h0];congr 3;simp[Mm]
 clear hM hc;have IZ:IntKind.u64.wrap (ch:Int)=(ch:Int):=by rw[IntKind.wrap_u64]<;>omega
 have KZ:IntKind.i64.wrap (ch:Int)=(ch:Int):=by rw[IntKind.wrap_i64]<;>omega
 have hbig:¬(9223372036854775807:Int)<(ch:Int):=by omega
 have sZ:¬(ch:Int)<0:=by omega
 go_enter func268,ntmps268;go_wp2_with fail;refine(HM.out _).mono ?_
 rintro e w1 ⟨rfl,hw1⟩
 obtain rfl:=hw1.symm;go_wp2_with fail;clear hcp hmk IZ KZ hbig sZ HM hg;go_loopw [8] (λi wr=>∃m:Nat,1<=m/\m<=ch/\i=int i64 m/\Hid (ma wr w.heap.size (Mm v ch m) 3)/\Hid (Below w.heap.size w wr)) (λi _=>ch-(intOf i).toNat)
 case atStart=>exact⟨1,Aa,h1,rfl,HR.out,HB.out⟩
 case round=>
  obtain⟨m,hm1,hm,rfl,hbk,hb⟩:=hrel;by_cases hlt:m<ch
  ·obtain⟨c,hc⟩:=Ca (Nat.min m (ch-m));have hc1:1<=c:=by rw[<-hc];exact Nat.le_min.2 ⟨hm1,by omega⟩
   have hc2:c<=m:=by rw[<-hc];exact Nat.min_le_left _ _
   have hc3:m+c<=ch:=by
    have:c<=ch-m:=by rw[<-hc];exact Nat.min_le_right _ _
    omega
   have hf:=mY w.heap.size ch m hlt;have ht:=nY w.heap.size ch m hlt;have Dl:=aa (show(List.replicate c (int i64 v)).length=Nat.min m (ch-m) by rw[List.length_replicate,hc])
   have uk:=aa (show∀(j:Nat) u,(List.replicate c (int i64 v))[j]?=some u->wr.drew.cell? ⟨w.heap.size,j,none⟩=some u by
    intro j u hj;rw[List.getElem?_replicate]at hj;split at hj
    ·rename_i hjc
     cases hj
     refine(hbk.out.cell j).trans ?_;rw[Mm,List.getElem?_append_left (by simp;omega),List.getElem?_replicate,if_pos (by omega)]
    ·cases hj)
   have UL:=aa (show m+(List.replicate c (int i64 v)).length<=(Mm v ch m).length by rw[List.length_replicate,Pb0 v ch m hm];exact hc3);have uM:=aa (show∀u∈List.replicate c (int i64 v),u.oneCell'=true by intro u hu;rw[List.mem_replicate]at hu;rw[hu.2];rfl);have Zq:=aa (Qb0 v ch m c hc3)
   obtain⟨W4,hcp,Db,HR4⟩:∃W4,(Builtin.copy_ #[56,56] 3 #[slice (some ⟨w.heap.size,m,none⟩) (ch-m) (ch-m),slice (some ⟨w.heap.size,0,none⟩) m ch]).run prog wr.drew=.ok (int i64 c) W4/\Hid (Below w.heap.size w W4)/\Hid (ma W4 w.heap.size (Mm v ch (m+c)) 3):=by
    have h:=run_copy_row (P:=prog) wr.drew 56 56 3 3 w.heap.size m (ch-m) (ch-m) ⟨w.heap.size,0,none⟩ m ch (Mm v ch m).toArray 3 (List.replicate c (int i64 v)) underlying56 hsz hbk.out Dl.out (by
     intro j u hj;rw[show Addr.add ⟨w.heap.size,0,none⟩ j=⟨w.heap.size,j,none⟩ by unfold Addr.add;split<;>simp_all];exact uk.out j u hj) (by simpa using UL.out) uM.out
    refine⟨_,h.trans (by rw[List.length_replicate];rfl),below_setRow hb.out.drew Aa _,?_⟩;show ma _ _ _ _;unfold ma;rw[<-Zq.out,splice,<-List.append_assoc,List.length_replicate];exact setRow_heap wr.drew _ _ _ _ _ hbk.out
   clear hc Dl uk UL uM Zq hsz hi hz0 hz1 hz2 i0;go_wp2_with fail;go_region;go_wp2;go_roundw
   case rel=>
    have R:∃m':Nat,1<=m'/\m'<=ch/\int i64 ((m:Int)+(c:Int))=int i64 m'/\Hid (ma W4 w.heap.size (Mm v ch m') 3)/\Hid (Below w.heap.size w W4):=⟨m+c,by omega,by omega,by go_num,HR4.out,Db.out⟩;first|exact R|((repeat apply Exists.intro);exact⟨R,rfl⟩)
   case measure=>simp[intOf];omega
  ·obtain rfl:m=ch:=by omega
   go_wp2;go_ret;refine⟨_,rfl,Aa,?_,hb.out⟩;have h:=hbk.out;rw[Mm,Nat.sub_self,List.replicate_zero,List.append_nil]at h;exact h
theorem Xb0 (k b:Int)(sec pub:ByteArray)(p0 p1 F:Int)(wd ch:Nat):Ih k b sec pub p0 p1 F (List.replicate ch wd) ch=Xg k b wd sec pub p0 p1 F ch:=by
 unfold Ih Xg;refine List.map_congr_left ?_;intro i hi;have h:i<ch:=by simpa using hi
 simp[Ew,h]
theorem I7 (k b x t l:Int)(sec rnd pub:ByteArray)(p0 p1 p2 p3 F:Int)(ch wd:Nat)(w:World)(hk:k=1\/k=2)(h1:1<=b)(h2:b<=16)(hs:sec.size<=16)(hp:pub.size<=16)(hc1:1<=ch)(hc2:ch<=64)(hch:Wt ch)(hwd:wd<=15)(hx:x=(wd:Int)+1)(hT:Tn w):Calls prog 210 #[.agg #[int i64 k,int i64 b,int i64 x,int i64 t,int i64 l,string sec,string rnd,string pub,int i64 p0,int i64 p1,int i64 p2,int i64 p3,int i64 ch],int i64 F] w λe w'=>e=.returned (string (oq k b wd ch sec pub p0 p1 F))/\Below w.heap.size w w':=by
 have hx1:1<=x:=by omega
 have hx2:x<=16:=by omega
 have GM:=aa (λ(V:World) (g:Nat) (hg:g<V.heap.size) (hc:V.cell? ⟨g,0,none⟩=some (int i64 (x-1)))=>Rb0 (x-1) g ch V hc1 (by omega) hg hc (mul_one ch hch));have Zq:=aa (λ(V:World)=>VK k b x t l sec rnd pub pub p0 p1 p2 p3 ch F 0 V)
 have zH:=aa (λ(V:World) (q:Nat) (hV:Tn V) (hq:ma V q (List.replicate ch (int i64 (x-1))) 3)=>(by
  have h:=yS k b x t l sec rnd pub p0 p1 p2 p3 ch F q 0 ch (List.replicate ch wd) V hk h1 h2 hs hp (by simpa using hc2) (by intro d hd;rw[List.mem_replicate]at hd;omega) hq.lt (by
   intro j d hj;rw[List.getElem?_replicate]at hj;split at hj
   ·rename_i hjc
    cases hj
    rw[Nat.zero_add,hq.cell,List.getElem?_replicate,if_pos hjc,hx];congr 2;omega
   ·cases hj) hV
  rw[List.length_replicate,Xb0]at h;exact h.mono λe w' ⟨a,b,c⟩=>⟨_,a,b,c⟩:Calls prog 249 #[.agg #[int i64 k,int i64 b,int i64 x,int i64 t,int i64 l,string sec,string rnd,string pub,int i64 p0,int i64 p1,int i64 p2,int i64 p3,int i64 ch],int i64 F,slice (some ⟨q,0,none⟩) ch ch] V λe w'=>∃g,e=.returned (slice (some ⟨g,0,none⟩) ch ch)/\ma w' g ((Xg k b wd sec pub p0 p1 F ch).map Value.string) 9/\Below V.heap.size V w'))
 have El:=aa (λ(V:World) (g:Nat) (hV:Tn V) (hg:ma V g ((Xg k b wd sec pub p0 p1 F ch).map Value.string) 9)=>(by
  have h:=fT k b x t l pub p0 p1 F 0 g 0 ch (Xg k b wd sec pub p0 p1 F ch) V (by
   intro j y hj;rw[Nat.zero_add,hg.cell,List.getElem?_map,hj];rfl) hg.lt (by rw[Et];exact Aa) (by rw[Et];exact hc2) (by rw[Et];exact hc1) hk h1 h2 hp (zI k b wd sec pub p0 p1 F ch hk h1 h2 hs hp) hV
  rw[Et]at h;exact h:Calls prog 270 #[.agg #[int i64 k,int i64 b,int i64 x,int i64 t,int i64 l,string pub,int i64 p0,int i64 p1,int i64 F,int i64 0],slice (some ⟨g,0,none⟩) ch ch] V λe w'=>e=.returned (string (oq k b wd ch sec pub p0 p1 F))/\Below V.heap.size V w'))
 generalize oq k b wd ch sec pub p0 p1 F=lf at El⊢;have HX:=aa hx;clear hx;obtain⟨WT,Uf⟩:=Ca (w.alloc (.cells #[int i64 k,int i64 b,int i64 x,int i64 t,int i64 l,string sec,string rnd,string pub,int i64 p0,int i64 p1,int i64 p2,int i64 p3,int i64 ch] 274));have yw:=Ph Uf;have Nt:WT.heap.size<=w.heap.size+1:=by rw[<-Uf];simp
 have J4:w.heap.size+1<=WT.heap.size:=by rw[<-Uf];simp
 have HB:=Xd Uf;have Kl:=aa (hT.on HB.out);have HS:=aa (λ(V:World) (h:Below WT.heap.size WT V)=>(have hb:=yw.out.below h (by omega);cK (Fa hb) (Ja hb) (Ha hb) (Xa hb) (Ya hb) (Ee hb) (jf hb) (Ch hb) (bn hb) (dn hb) (qo hb) (Zm hb) (Bh hb)));have HA:=aa ((Below.refl WT.heap.size WT).alloc Aa (.cells #[int i64 (x-1)] 3));have Tc:=aa (GM.out (WT.alloc (.cells #[int i64 (x-1)] 3)) (w.heap.size+1) (by simp;omega) (by rw[show w.heap.size+1=WT.heap.size by omega];simp[go_sem]));obtain⟨c0,c1,c2,c3,c4,c5,c6,c7,c8,c9,c10,c11,c12⟩:=HS.out WT Vb;clear hT GM;have Ea:=aa Uf;clear Uf;go_enter func210,ntmps210;go_wp2_with fail;rw[Ea.out];refine Tc.out.mono ?_
 rintro e w1 ⟨q,rfl,hq0,hq,hb1⟩
 have HQ:=aa hq;have HB1:=aa (Ga HA.out hb1 Aa);have X0:q<w1.heap.size:=hq.lt;clear hq hb1 hq0 c0 c1 c2 c3 c4 c5 c6 c7 c8 c9 c10 c11 c12 HA Tc;go_wp2_with fail;go_region_held3 (λV=>V.cell? ⟨w.heap.size,0,none⟩=some (int i64 k)/\V.cell? ⟨w.heap.size,1,none⟩=some (int i64 b)/\V.cell? ⟨w.heap.size,2,none⟩=some (int i64 x)/\V.cell? ⟨w.heap.size,3,none⟩=some (int i64 t)/\V.cell? ⟨w.heap.size,4,none⟩=some (int i64 l)/\V.cell? ⟨w.heap.size,5,none⟩=some (string sec)/\V.cell? ⟨w.heap.size,6,none⟩=some (string rnd)/\V.cell? ⟨w.heap.size,7,none⟩=some (string pub)/\V.cell? ⟨w.heap.size,8,none⟩=some (int i64 p0)/\V.cell? ⟨w.heap.size,9,none⟩=some (int i64 p1)/\V.cell? ⟨w.heap.size,10,none⟩=some (int i64 p2)/\V.cell? ⟨w.heap.size,11,none⟩=some (int i64 p3)/\V.cell? ⟨w.heap.size,12,none⟩=some (int i64 ch)) (first|exact HS.out _ Bc|exact HS.out _ Uc|exact HS.out _ hS2|exact HS.out _ HB1.out.drew) (first|(go_at_call 269;refine(Zq.out _).mono ?_;rintro e w2 ⟨rfl,hb2⟩;have hS2:=Ga HB1.out.drew hb2 Aa;have hK2:=(HQ.out.below (Below.refl w1.heap.size w1).drew X0).on hb2)|(go_at_call 249;refine(zH.out _ q (Kl.out.on hS2) hK2).mono ?_;rintro e w3 ⟨g,rfl,hg3,hb3⟩;have Uc:=Ga hS2 hb3 Aa)|(go_at_call 270;refine(El.out _ g (Kl.out.on Uc) hg3).mono ?_;rintro e w4 ⟨rfl,hb4⟩;have Bc:=Ga Uc hb4 Aa));have Db:=aa Bc;clear hS2 Uc Bc hb2 hb3 hb4 hg3 hK2;go_wp2;go_ret;exact⟨rfl,HB.out.trans (Db.out.mono (by omega))⟩
theorem vz (v n:Int)(w:World):Calls prog 234 #[int i64 v,int i64 n] w λe w'=>e=.returned (.bool (decide (0<=v/\v<n)))/\w'=w:=by
 by_cases h0:0<=v
 ·by_cases h1:v<n
  ·have e:decide (0<=v/\v<n)=true:=by simp[h0,h1]
   rw[e];go_enter func234,ntmps234;go_wp2;go_ret;exact⟨rfl,rfl⟩
  ·have e:decide (0<=v/\v<n)=false:=by simp[h1]
   rw[e];go_enter func234,ntmps234;go_wp2;go_ret;exact⟨rfl,rfl⟩
 ·have e:decide (0<=v/\v<n)=false:=by simp[h0]
  rw[e];go_enter func234,ntmps234;go_wp2;go_ret;exact⟨rfl,rfl⟩
theorem bT (k b x l:Int)(t:Nat)(w:World)(h1:1<=t)(h2:t<=4):Calls prog 282 #[.agg #[int i64 k,int i64 b,int i64 x,int i64 t,int i64 l]] w λe w'=>e=.returned (int i64 ((2^t:Nat):Int))/\Below w.heap.size w w':=by
 rcases(show t=1\/t=2\/t=3\/t=4 by omega)with rfl|rfl|rfl|rfl
 all_goals
  go_enter func282,ntmps282
  go_wp2;go_ret;exact⟨rfl,Va _⟩
theorem Ef0 (k b x:Int)(t l q:Nat)(w:World)(h1:1<=t)(h2:t<=4)(h3:l<=3)(h4:q<l):Calls prog 329 #[.agg #[int i64 k,int i64 b,int i64 x,int i64 t,int i64 l],int i64 q] w λe w'=>e=.returned (int i64 ((2^(t*(l-1-q)):Nat):Int))/\Below w.heap.size w w':=by
 rcases(show t=1\/t=2\/t=3\/t=4 by omega)with rfl|rfl|rfl|rfl<;>rcases(show(l=1/\q=0)\/(l=2/\q=0)\/(l=2/\q=1)\/(l=3/\q=0)\/(l=3/\q=1)\/(l=3/\q=2) by omega)with⟨rfl,rfl⟩|⟨rfl,rfl⟩|⟨rfl,rfl⟩|⟨rfl,rfl⟩|⟨rfl,rfl⟩|⟨rfl,rfl⟩
 all_goals
  go_enter func329,ntmps329
  go_wp2;go_ret;exact⟨rfl,Va _⟩
def Im (t l:Nat)(p0 p1 p2:Int):Bool:=decide (0<=p0/\p0<l)&&(decide (0<=p1/\p1<((2^(t*(l-1-p0.toNat)):Nat):Int))&&decide (0<=p2/\p2<((2^t:Nat):Int)))
def Pg (k b:Int)(pub:ByteArray)(p0 p1:Int)(F:Nat)(path:List ByteArray)(y:ByteArray):Nat->ByteArray
 |0=>y
 |h+1=>if F/2^h% 2=0 then Kk k b pub p0 p1 (h+1:Nat) (F/2^(h+1):Nat) (Pg k b pub p0 p1 F path y h) (path.getD h ⟨#[]⟩)else Kk k b pub p0 p1 (h+1:Nat) (F/2^(h+1):Nat) (path.getD h ⟨#[]⟩) (Pg k b pub p0 p1 F path y h)
theorem VN (k b:Int)(pub:ByteArray)(p0 p1:Int)(F:Nat)(path:List ByteArray)(y:ByteArray)(hk:k=1\/k=2)(h1:1<=b)(h2:b<=16)(hp:pub.size<=16)(hy:(y.size:Int)=b)(hx:∀z∈path,(z.size:Int)=b):∀h,h<=path.length->((Pg k b pub p0 p1 F path y h).size:Int)=b:=by
 intro h
 induction h with
 |zero=>intro _;exact hy
 |succ h ih=>
  intro hl;have e0:=ih (by omega)
  have e1:((path.getD h ⟨#[]⟩).size:Int)=b:=by
   rw[List.getD_eq_getElem?_getD,List.getElem?_eq_getElem (by omega)];exact hx _ (List.getElem_mem (by omega))
  rw[Pg];split
  ·exact QJ k b pub p0 p1 _ _ _ _ hk h1 h2 hp (by omega) (by omega)
  ·exact QJ k b pub p0 p1 _ _ _ _ hk h1 h2 hp (by omega) (by omega)
theorem ZT (a:Nat):Int.tdiv (a:Int) 2=((a/2:Nat):Int):=by rw[Int.tdiv_eq_ediv_of_nonneg (by omega)];omega
theorem YK (a:Nat):Int.tmod (a:Int) 2=((a% 2:Nat):Int):=by rw[Int.tmod_eq_emod_of_nonneg (by omega)];omega
end Go.Proofs.YtgaoeoijdpdjiabGreatDoor
