import Derived.Test.YtgaoeoijdpdjiabGreatDoorPart45
open Go.Value (int string pointer slice)
open Go.IntKind (i64)
open Go.Proofs.Tryz
set_option maxRecDepth 20000
set_option maxHeartbeats 8000000
namespace Go.Proofs.YtgaoeoijdpdjiabGreatDoor
open Go.RowKit
theorem Sb0 (lo S D:Nat)(st:Da)(F:Nat->Prop)(tm k b x t l:Int)(root pub sec rnd:ByteArray)(tot bat nx q bd:Int)(id:ByteArray)(ov:Bool)(m q2 nb c:Int)(w:World)(hc:c≠0)
  (hB:ma w S (Zb D tm k b x t l root pub sec rnd tot bat nx q bd id ov) 188)(hD:Fb lo D st w F)(Bg:¬F S)(hlo:lo<=w.heap.size)(hw:0<=st.writes)(hw2:st.writes<9223372036854775806)
  (hR:Oh (q+1) nb id)(hq2:Int.tmod (q+1) 2=q2)(hv2:IntKind.i64.wrap q2=q2)(hq:IntKind.i64.wrap (q+1)=q+1)(Mt:IntKind.i64.wrap (bd+m)=bd+m)(hnb:(if tot<bd+m then tot else bd+m)=nb)
  (ha1:Kc st q2 (Ua (q+1) nb id)=c):Calls prog 116 #[pointer (some ⟨S,0,none⟩),int i64 m] w λe w'=>e=.returned (int i64 c)/\ma w' S (Zb D tm k b x t l root pub sec rnd tot bat nx q bd id true) 188/\∃F',Fb lo D (Jb st q2 (Ua (q+1) nb id)) w' F'/\za (λk=>k=S\/F k) w w'/\∀k,F' k->F k\/w.heap.size<=k:=by
 have hmin:∀(ts:Array TypeId) (ty:TypeId) (V:World),(Builtin.min_ ts ty #[int i64 (bd+m),int i64 tot]).run prog V=.ok (int i64 nb) V:=by
  intro ts ty V;rw[run_min_int2,hnb]
 obtain⟨W0,hW⟩:=Ca ((w.alloc (.cells #[pointer (some ⟨S,0,none⟩)] 127)).alloc (.cells #[.bool false] 4));have HB0:=Gc hW;have Tc:=aa (show ma W0 w.heap.size [pointer (some ⟨S,0,none⟩)] 127 by rw[<-hW];exact(ma.new w _ _).alloc _)
 have HR1:=aa (show ma W0 (w.heap.size+1) [.bool false] 4 by
  rw[<-hW];have h:=ma.new (w.alloc (.cells #[pointer (some ⟨S,0,none⟩)] 127)) [.bool false] 4;simp only[World.size_alloc]at h;exact h)
 have rf:=aa (hB.on HB0.out);have Vd:=aa hB.lt;have HS:=aa (λ(V:World) (h:Below W0.heap.size W0 V)=>(have q0:=Tc.out.on h;have q1:=rf.out.on h;jv (Fa q0) (Bh q1) (pg q1) (ag q1) (Du q1)));have Ea:=aa hW;have HDK:=aa (hD.below HB0.out);have hc1:(c==0)=false:=by simpa using hc
 have hc2:(c !=0)=true:=by simpa using hc
 have bQ:∀(fn:Fn) (first cap:Array Value) (w:World),(Instr.makeFunc fn first cap).run prog w=.ok (.func fn first cap) w:=λ_ _ _ _=>rfl;have HP:=aa (And.intro hD (And.intro Bg (And.intro hlo (And.intro hw (And.intro hw2 (And.intro hR (And.intro hq2 (And.intro hv2 ha1))))))));clear hW hB hD Bg hlo hw hw2 hR hq2 hv2 hnb ha1;go_enter_defers func116,ntmps116;go_wp2_with fail;rw[Ea.out];refine wp_region_noPanic ?_;refine wp_region_held_drew (S:=λV=>V.cell? ⟨w.heap.size,0,none⟩=some (pointer (some ⟨S,0,none⟩))/\V.cell? ⟨S,12,none⟩=some (int i64 tot)/\V.cell? ⟨S,15,none⟩=some (int i64 q)/\V.cell? ⟨S,16,none⟩=some (int i64 bd)/\V.cell? ⟨S,17,none⟩=some (string id)) (by kernel_rfl) (HS.out _ ((Below.refl W0.heap.size W0).drew)) (λja=>?_);refine tk 0 ja ?_;refine tk 1 ja ?_;refine tk 2 ja ?_;refine tk 3 ja ?_;refine tk 4 ja ?_;refine tk 5 ja ?_;refine tk 6 ja ?_;refine tk 7 ja ?_;refine tk 8 ja ?_;refine tk 9 ja ?_;refine tk 10 ja ?_;refine tk 11 ja ?_;refine tk 12 ja ?_;refine tk 13 ja ?_;refine tk 14 ja ?_;refine tk 15 ja ?_;refine tk 16 ja ?_;refine tk 17 ja ?_;refine tk 18 ja ?_;refine tk 19 ja ?_;refine tk 20 ja ?_;refine tk 21 ja ?_;refine tk 22 ja ?_;refine tk 23 ja ?_;refine wpAnyH_ready (rs:=[24]) (by kernel_rfl) (by simp) ?_;refine AllReadyH.cons (o:=?oa24) ?hoa24 (λK hK=>?hsa24) AllReadyH.nil
 case hoa24=>(simp only[jb,Na,Oa];rfl)
 go_simp;refine hK.out _ _ (HS.out _ ((Below.refl W0.heap.size W0).drew.alloc Aa _)) (λja=>?_);clear hK K;try simp only[Act.put,Bb,Ka,Ma]
 obtain⟨VA,Gm⟩:=Ca ((W0.alloc (.cells #[int i64 0,int i64 0,string ⟨#[]⟩] 186)).drew);have Ye:=aa (show ma VA W0.heap.size [int i64 0,int i64 0,string ⟨#[]⟩] 186 by rw[<-Gm];exact ma.new W0 [int i64 0,int i64 0,string ⟨#[]⟩] 186);have Ll:=aa (show Below W0.heap.size W0 VA by rw[<-Gm];exact((Below.refl W0.heap.size W0).alloc Aa _).drew);rw[Gm];clear Gm;have r0:=Ye.out.cell 0;have f0:=Ye.out.free 0;have r1:=Ye.out.cell 1;have f1:=Ye.out.free 1;have r2:=Ye.out.cell 2;have f2:=Ye.out.free 2;simp only[Oa,Na]at r0 r1 r2;refine wpAnyH_ready (rs:=[25]) (by kernel_rfl) (by simp) ?_;refine AllReadyH.cons (o:=?oa25) ?hoa25 (λK hK=>?hsa25) AllReadyH.nil
 case hoa25=>(simp only[jb,Na,Oa];rfl)
 go_simp;refine hK.out _ _ (HS.out _ ((((Ll.out).setCell (p:=⟨W0.heap.size,0,none⟩) Aa (int i64 (q+1))).setCell (p:=⟨W0.heap.size,1,none⟩) Aa (int i64 nb)).setCell (p:=⟨W0.heap.size,2,none⟩) Aa (string id))) (λja=>?_);clear hK K;try simp only[Act.put,Bb,Ka,Ma]
 refine wpAnyH_done (by kernel_rfl) ?_ _;refine NoPanic.normal ?_;have HB3:=aa ((((Ll.out).setCell (p:=⟨W0.heap.size,0,none⟩) Aa (int i64 (q+1))).setCell (p:=⟨W0.heap.size,1,none⟩) Aa (int i64 nb)).setCell (p:=⟨W0.heap.size,2,none⟩) Aa (string id));have HR2:=aa (((Ye.out.set 0 (int i64 (q+1))).set 1 (int i64 nb)).set 2 (string id));clear r0 r1 r2 f0 f1 f2 ja Ye Ll;generalize((VA.setCell ⟨W0.heap.size,0,none⟩ (int i64 (q+1))).setCell ⟨W0.heap.size,1,none⟩ (int i64 nb)).setCell ⟨W0.heap.size,2,none⟩ (string id)=W3 at HB3 HR2⊢;simp only[Ka,Ma]at HR2;obtain⟨hD,Bg,hlo,hw,hw2,hR,hq2,hv2,ha1⟩:=HP.out;have hS0:w.heap.size<=W0.heap.size:=HB0.out.size;have hz1:w.heap.size+1<W0.heap.size:=HR1.out.lt;have ze:=Vd.out;have xh:=aa (λi hi=>(hD.lt i hi).2:∀i,F i->i<w.heap.size);have HD3:=aa (HDK.out.below HB3.out);have qp:=aa (Tc.out.on HB3.out);have HA1:=aa (HR1.out.on HB3.out);have HAS:=aa (rf.out.on HB3.out);have cu:=aa (mF lo D st F (q+1) nb q2 id W3.drew (HD3.out.below Vb.drew) (Nat.le_trans hlo (Nat.le_trans hS0 HB3.out.size)) hw (by omega) hR hq2 hv2);rw[ha1]at cu;have Yi:=aa Bg;have Ed:=aa (λ(V:World) (h0:ma V w.heap.size [pointer (some ⟨S,0,none⟩)] 127) (h1:ma V S (Zb D tm k b x t l root pub sec rnd tot bat nx q bd id ov) 188) (h2:ma V W0.heap.size [int i64 (q+1),int i64 nb,string id] 186)=>(jv (Fa h0) (Fa h1) (Fa h2) (Ja h2) (Ha h2)));have Jf:=aa (And.intro hS0 (And.intro hz1 ze));have c00:=qp.out.cell 0;have Zp:=HR2.out.cell 0;clear c00 Zp HP hD Bg hlo hw hw2 hR hq2 hv2 ha1 hS0 hz1 ze HS hq Mt hmin;have hS:DL lo D st F W3 W3.drew:=(DL.refl HD3.out).then Vb.drew;go_wp2_with fail;go_region_held3 (λV=>V.cell? ⟨w.heap.size,0,none⟩=some (pointer (some ⟨S,0,none⟩))/\V.cell? ⟨S,0,none⟩=some (pointer (some ⟨D,0,none⟩))/\V.cell? ⟨W0.heap.size,0,none⟩=some (int i64 (q+1))/\V.cell? ⟨W0.heap.size,1,none⟩=some (int i64 nb)/\V.cell? ⟨W0.heap.size,2,none⟩=some (string id)) (exact Ed.out _ (hS.blk qp.out (λh=>by have:=xh.out _ h;omega)) (hS.blk HAS.out Yi.out) (hS.blk HR2.out (λh=>by have:=xh.out _ h;have:=Jf.out.1;omega))) (first|(go_at_call 183;refine cu.out.mono ?_;rintro e w4 ⟨rfl,hl4⟩;have hS:=DL.of_below (Below.refl W3.heap.size W3).drew hl4 (λi hi=>(HD3.out.lt i hi).2)));have Nv:=aa (hS.blk qp.out (λh=>by have:=xh.out _ h;omega));have yz:=aa (hS.blk HA1.out (λh=>by have:=xh.out _ h;omega));have Vr:=aa (hS.blk HAS.out Yi.out);have PD:=aa (hS.blk HR2.out (λh=>by have:=xh.out _ h;have:=Jf.out.1;omega));obtain⟨F1,hd1,hk1,hf1⟩:=hS;have Ra:=aa (And.intro hk1 hf1);have HD1:=aa hd1;clear hk1 hf1 hd1 hl4;have m2:w.heap.size≠S:=by have:=Jf.out;omega
 go_wp2;have KS:=(Jc w4 ⟨S,18,none⟩ (.bool true)).mono (G:=λk=>k=S) (λ_ _ e=>e);refine leaves_cons (f:=184) (args:=#[pointer (some ⟨w.heap.size+1,0,none⟩),pointer (some ⟨w.heap.size,0,none⟩)]) (by simp) (by simp[go_sem]) ?_;refine(DK S w.heap.size (w.heap.size+1) false (.bool ov) .returning _ (Nv.out.cell 0) (yz.out.cell 0) (Vr.out.cell 18) (Vr.out.free 18)).mono ?_
 rintro e u' w'' ⟨rfl,rfl,rfl⟩
 refine⟨_,results_tmp rfl _ _ _,rfl,Vr.out.set 18 (.bool true),?_⟩;have z3:=HB3.out.size;have hle:=Jf.out;refine⟨F1,HD1.out.kept KS (λk hk e=>?_),?_,λk hk=>?_⟩
 ·have e':k=S:=e;subst e';rcases Ra.out.2 _ hk with h|h
  ·exact Yi.out h
  ·omega
 ·exact((za.of_below (F:=λk=>k=S\/F k) (HB0.out.trans (HB3.out.mono HB0.out.size))).trans Ra.out.1 (λi hi=>.inl (.inr hi))).trans KS (λi hi=>.inl (.inl hi))
 ·rcases Ra.out.2 k hk with h|h
  ·exact .inl h
  ·exact .inr (by omega)
theorem Tb0 (lo S D:Nat)(st:Da)(F:Nat->Prop)(tm k b x t l:Int)(root pub sec rnd:ByteArray)(tot bat nx q bd:Int)(id:ByteArray)(ov:Bool)(m q2 nb c:Int)(w:World)(hc:c≠0)
  (hB:ma w S (Zb D tm k b x t l root pub sec rnd tot bat nx q bd id ov) 188)(hD:Fb lo D st w F)(Bg:¬F S)(hlo:lo<=w.heap.size)(hw:0<=st.writes)(hw2:st.writes<9223372036854775806)(hy:0<=st.syncs)(hy2:st.syncs<9223372036854775807)
  (hR:Oh (q+1) nb id)(hq2:Int.tmod (q+1) 2=q2)(hv2:IntKind.i64.wrap q2=q2)(hq:IntKind.i64.wrap (q+1)=q+1)(Mt:IntKind.i64.wrap (bd+m)=bd+m)(hnb:(if tot<bd+m then tot else bd+m)=nb)
  (ha1:Kc st q2 (Ua (q+1) nb id)=0)(hys:(Jb st q2 (Ua (q+1) nb id)).syncs=st.syncs)(ha2:Qc (Jb st q2 (Ua (q+1) nb id))=c):Calls prog 116 #[pointer (some ⟨S,0,none⟩),int i64 m] w λe w'=>e=.returned (int i64 c)/\ma w' S (Zb D tm k b x t l root pub sec rnd tot bat nx q bd id true) 188/\∃F',Fb lo D (Cb (Jb st q2 (Ua (q+1) nb id))) w' F'/\za (λk=>k=S\/F k) w w'/\∀k,F' k->F k\/w.heap.size<=k:=by
 have hmin:∀(ts:Array TypeId) (ty:TypeId) (V:World),(Builtin.min_ ts ty #[int i64 (bd+m),int i64 tot]).run prog V=.ok (int i64 nb) V:=by
  intro ts ty V;rw[run_min_int2,hnb]
 obtain⟨W0,hW⟩:=Ca ((w.alloc (.cells #[pointer (some ⟨S,0,none⟩)] 127)).alloc (.cells #[.bool false] 4));have HB0:=Gc hW;have Tc:=aa (show ma W0 w.heap.size [pointer (some ⟨S,0,none⟩)] 127 by rw[<-hW];exact(ma.new w _ _).alloc _)
 have HR1:=aa (show ma W0 (w.heap.size+1) [.bool false] 4 by
  rw[<-hW];have h:=ma.new (w.alloc (.cells #[pointer (some ⟨S,0,none⟩)] 127)) [.bool false] 4;simp only[World.size_alloc]at h;exact h)
 have rf:=aa (hB.on HB0.out);have Vd:=aa hB.lt;have HS:=aa (λ(V:World) (h:Below W0.heap.size W0 V)=>(have q0:=Tc.out.on h;have q1:=rf.out.on h;jv (Fa q0) (Bh q1) (pg q1) (ag q1) (Du q1)));have Ea:=aa hW;have HDK:=aa (hD.below HB0.out);have hc1:(c==0)=false:=by simpa using hc
 have hc2:(c !=0)=true:=by simpa using hc
 have bQ:∀(fn:Fn) (first cap:Array Value) (w:World),(Instr.makeFunc fn first cap).run prog w=.ok (.func fn first cap) w:=λ_ _ _ _=>rfl;have HP:=aa (And.intro hD (And.intro Bg (And.intro hlo (And.intro hw (And.intro hw2 (And.intro hy (And.intro hy2 (And.intro hR (And.intro hq2 (And.intro hv2 (And.intro ha1 (And.intro hys ha2))))))))))));clear hW hB hD Bg hlo hw hw2 hy hy2 hR hq2 hv2 hnb ha1 hys ha2;go_enter_defers func116,ntmps116;go_wp2_with fail;rw[Ea.out];refine wp_region_noPanic ?_;refine wp_region_held_drew (S:=λV=>V.cell? ⟨w.heap.size,0,none⟩=some (pointer (some ⟨S,0,none⟩))/\V.cell? ⟨S,12,none⟩=some (int i64 tot)/\V.cell? ⟨S,15,none⟩=some (int i64 q)/\V.cell? ⟨S,16,none⟩=some (int i64 bd)/\V.cell? ⟨S,17,none⟩=some (string id)) (by kernel_rfl) (HS.out _ ((Below.refl W0.heap.size W0).drew)) (λja=>?_);refine tk 0 ja ?_;refine tk 1 ja ?_;refine tk 2 ja ?_;refine tk 3 ja ?_;refine tk 4 ja ?_;refine tk 5 ja ?_;refine tk 6 ja ?_;refine tk 7 ja ?_;refine tk 8 ja ?_;refine tk 9 ja ?_;refine tk 10 ja ?_;refine tk 11 ja ?_;refine tk 12 ja ?_;refine tk 13 ja ?_;refine tk 14 ja ?_;refine tk 15 ja ?_;refine tk 16 ja ?_;refine tk 17 ja ?_;refine tk 18 ja ?_;refine tk 19 ja ?_;refine tk 20 ja ?_;refine tk 21 ja ?_;refine tk 22 ja ?_;refine tk 23 ja ?_;refine wpAnyH_ready (rs:=[24]) (by kernel_rfl) (by simp) ?_;refine AllReadyH.cons (o:=?oa24) ?hoa24 (λK hK=>?hsa24) AllReadyH.nil
 case hoa24=>(simp only[jb,Na,Oa];rfl)
 go_simp;refine hK.out _ _ (HS.out _ ((Below.refl W0.heap.size W0).drew.alloc Aa _)) (λja=>?_);clear hK K;try simp only[Act.put,Bb,Ka,Ma]
 obtain⟨VA,Gm⟩:=Ca ((W0.alloc (.cells #[int i64 0,int i64 0,string ⟨#[]⟩] 186)).drew);have Ye:=aa (show ma VA W0.heap.size [int i64 0,int i64 0,string ⟨#[]⟩] 186 by rw[<-Gm];exact ma.new W0 [int i64 0,int i64 0,string ⟨#[]⟩] 186);have Ll:=aa (show Below W0.heap.size W0 VA by rw[<-Gm];exact((Below.refl W0.heap.size W0).alloc Aa _).drew);rw[Gm];clear Gm;have r0:=Ye.out.cell 0;have f0:=Ye.out.free 0;have r1:=Ye.out.cell 1;have f1:=Ye.out.free 1;have r2:=Ye.out.cell 2;have f2:=Ye.out.free 2;simp only[Oa,Na]at r0 r1 r2;refine wpAnyH_ready (rs:=[25]) (by kernel_rfl) (by simp) ?_;refine AllReadyH.cons (o:=?oa25) ?hoa25 (λK hK=>?hsa25) AllReadyH.nil
 case hoa25=>(simp only[jb,Na,Oa];rfl)
 go_simp;refine hK.out _ _ (HS.out _ ((((Ll.out).setCell (p:=⟨W0.heap.size,0,none⟩) Aa (int i64 (q+1))).setCell (p:=⟨W0.heap.size,1,none⟩) Aa (int i64 nb)).setCell (p:=⟨W0.heap.size,2,none⟩) Aa (string id))) (λja=>?_);clear hK K;try simp only[Act.put,Bb,Ka,Ma]
 refine wpAnyH_done (by kernel_rfl) ?_ _;refine NoPanic.normal ?_;have HB3:=aa ((((Ll.out).setCell (p:=⟨W0.heap.size,0,none⟩) Aa (int i64 (q+1))).setCell (p:=⟨W0.heap.size,1,none⟩) Aa (int i64 nb)).setCell (p:=⟨W0.heap.size,2,none⟩) Aa (string id));have HR2:=aa (((Ye.out.set 0 (int i64 (q+1))).set 1 (int i64 nb)).set 2 (string id));clear r0 r1 r2 f0 f1 f2 ja Ye Ll;generalize((VA.setCell ⟨W0.heap.size,0,none⟩ (int i64 (q+1))).setCell ⟨W0.heap.size,1,none⟩ (int i64 nb)).setCell ⟨W0.heap.size,2,none⟩ (string id)=W3 at HB3 HR2⊢;simp only[Ka,Ma]at HR2;obtain⟨hD,Bg,hlo,hw,hw2,hy,hy2,hR,hq2,hv2,ha1,hys,ha2⟩:=HP.out;have hS0:w.heap.size<=W0.heap.size:=HB0.out.size;have hz1:w.heap.size+1<W0.heap.size:=HR1.out.lt;have ze:=Vd.out;have xh:=aa (λi hi=>(hD.lt i hi).2:∀i,F i->i<w.heap.size);have HD3:=aa (HDK.out.below HB3.out);have qp:=aa (Tc.out.on HB3.out);have HA1:=aa (HR1.out.on HB3.out);have HAS:=aa (rf.out.on HB3.out);have cu:=aa (mF lo D st F (q+1) nb q2 id W3.drew (HD3.out.below Vb.drew) (Nat.le_trans hlo (Nat.le_trans hS0 HB3.out.size)) hw (by omega) hR hq2 hv2);rw[ha1]at cu;have fo:=aa (λ(F1:Nat->Prop) (V:World) (h:Fb lo D (Jb st q2 (Ua (q+1) nb id)) V F1)=>yI lo D _ F1 V h (by rw[hys];exact hy) (by rw[hys];exact hy2));rw[ha2]at fo;have Yi:=aa Bg;have Ed:=aa (λ(V:World) (h0:ma V w.heap.size [pointer (some ⟨S,0,none⟩)] 127) (h1:ma V S (Zb D tm k b x t l root pub sec rnd tot bat nx q bd id ov) 188) (h2:ma V W0.heap.size [int i64 (q+1),int i64 nb,string id] 186)=>(jv (Fa h0) (Fa h1) (Fa h2) (Ja h2) (Ha h2)));have Jf:=aa (And.intro hS0 (And.intro hz1 ze));have c00:=qp.out.cell 0;have Zp:=HR2.out.cell 0;clear c00 Zp HP hD Bg hlo hw hw2 hy hy2 hR hq2 hv2 ha1 hys ha2 hS0 hz1 ze HS hq Mt hmin;have hS:DL lo D st F W3 W3.drew:=(DL.refl HD3.out).then Vb.drew;go_wp2_with fail;go_region_held3 (λV=>V.cell? ⟨w.heap.size,0,none⟩=some (pointer (some ⟨S,0,none⟩))/\V.cell? ⟨S,0,none⟩=some (pointer (some ⟨D,0,none⟩))/\V.cell? ⟨W0.heap.size,0,none⟩=some (int i64 (q+1))/\V.cell? ⟨W0.heap.size,1,none⟩=some (int i64 nb)/\V.cell? ⟨W0.heap.size,2,none⟩=some (string id)) (exact Ed.out _ (hS.blk qp.out (λh=>by have:=xh.out _ h;omega)) (hS.blk HAS.out Yi.out) (hS.blk HR2.out (λh=>by have:=xh.out _ h;have:=Jf.out.1;omega))) (first|(go_at_call 183;refine cu.out.mono ?_;rintro e w4 ⟨rfl,hl4⟩;have hS:=DL.of_below (Below.refl W3.heap.size W3).drew hl4 (λi hi=>(HD3.out.lt i hi).2)));have Nv:=aa (hS.blk qp.out (λh=>by have:=xh.out _ h;omega));have yz:=aa (hS.blk HA1.out (λh=>by have:=xh.out _ h;omega));have Vr:=aa (hS.blk HAS.out Yi.out);have PD:=aa (hS.blk HR2.out (λh=>by have:=xh.out _ h;have:=Jf.out.1;omega));obtain⟨F1,hd1,hk1,hf1⟩:=hS;have Ra:=aa (And.intro hk1 hf1);have HD1:=aa hd1;clear hk1 hf1 hd1 hl4;have a0:=Fa Nv.out;have a1:=Fa Vr.out;go_wp2_with fail;refine(fo.out F1 w4 HD1.out).mono ?_
 rintro e w5 ⟨rfl,hl5⟩
 clear a0 a1;have jH:=aa (λh=>by(rcases Ra.out.2 _ h with h|h);(have:=xh.out _ h;omega);(have:=Jf.out;have:=HB3.out.size;omega):¬F1 w.heap.size);have Lp:=aa (λh=>by(rcases Ra.out.2 _ h with h|h);(have:=xh.out _ h;omega);(have:=Jf.out;have:=HB3.out.size;omega):¬F1 (w.heap.size+1));have kg:=aa (λh=>by(rcases Ra.out.2 _ h with h|h);(have:=xh.out _ h;have:=Jf.out;omega);(have:=HR2.out.lt;omega):¬F1 W0.heap.size);have Sq:=aa (λh=>by(rcases Ra.out.2 _ h with h|h);exact Yi.out h;(have:=Jf.out;have:=HB3.out.size;omega):¬F1 S);have rD:=aa (hl5.blk Nv.out jH.out);have Bz:=aa (hl5.blk yz.out Lp.out);have Bp:=aa (hl5.blk Vr.out Sq.out);have wD:=aa (hl5.blk PD.out kg.out);have Uk:=aa hl5;clear hl5;have n1:¬S=w.heap.size+1:=by have:=Jf.out;omega
 have m2:w.heap.size≠S:=by have:=Jf.out;omega
 go_wp2;have KS:=(Jc w5 ⟨S,18,none⟩ (.bool true)).mono (G:=λk=>k=S) (λ_ _ e=>e);refine leaves_cons (f:=184) (args:=#[pointer (some ⟨w.heap.size+1,0,none⟩),pointer (some ⟨w.heap.size,0,none⟩)]) (by simp) (by simp[go_sem]) ?_;refine(DK S w.heap.size (w.heap.size+1) false (.bool ov) .returning _ (rD.out.cell 0) (Bz.out.cell 0) (Bp.out.cell 18) (Bp.out.free 18)).mono ?_
 rintro e u' w'' ⟨rfl,rfl,rfl⟩
 refine⟨_,results_tmp rfl _ _ _,rfl,Bp.out.set 18 (.bool true),?_⟩;obtain⟨F2,d2,k2,f2⟩:=Uk.out
 have nf:∀k,F2 k->F k\/W3.heap.size<=k:=λk hk=>by
  rcases f2 k hk with h|h
  ·exact Ra.out.2 k h
  ·exact .inr (Nat.le_trans Ra.out.1.size h)
 have z3:=HB3.out.size;have hle:=Jf.out;refine⟨F2,d2.kept KS (λk hk e=>?_),?_,λk hk=>?_⟩
 ·have e':k=S:=e;subst e';rcases nf _ hk with h|h
  ·exact Yi.out h
  ·omega
 ·refine((((za.of_below (F:=λk=>k=S\/F k) (HB0.out.trans (HB3.out.mono HB0.out.size))).trans Ra.out.1 (λi hi=>.inl (.inr hi))).trans k2 (λi hi=>?_))).trans KS (λi hi=>.inl (.inl hi));rcases Ra.out.2 i hi with h|h
  ·exact .inl (.inr h)
  ·exact .inr (by omega)
 ·rcases nf k hk with h|h
  ·exact .inl h
  ·exact .inr (by omega)
def wF:List Nat:=[107,108,109,110,111,107]
def uC:List Value:=wF.map λf=>.func (.func f) #[] #[]
theorem Er (f:Nat)(fn:Func)(hf:prog.funcs[f]?=some fn)(hn:(fn.name== "runtime.NumGoroutine")=false)(hb:fn.body.isNone=false)(args:Array Value)(V:World):Sem.run prog (callFunc f args) V=.ok (.enter f args) V:=by
 have hn':¬fn.name= "runtime.NumGoroutine" :=by simpa using hn
 have hb':¬fn.body=none:=λe=>by rw[e]at hb;simp at hb
 simp[callFunc,go_sem,hf,hn',hb']
theorem nI (S D:Nat)(w:World)(h:ma w S [pointer (some ⟨D,0,none⟩)] 135):Calls prog 67 #[pointer (some ⟨S,0,none⟩)] w λe w'=>e=.returned (pointer (some ⟨D,0,none⟩))/\Below w.heap.size w w':=by
 have c0:=Fa h;clear h;go_enter func67,ntmps67;go_wp2;go_ret;exact⟨rfl,Vb⟩
def Tx (v:Option Addr)(c:Int)(r:Option Addr)(w w':World):Prop:=(c=0->r=some ⟨w.heap.size,0,none⟩/\ma w' w.heap.size [pointer v] 142)/\(c≠0->r=none)/\Below w.heap.size w w'
theorem EO (v:Option Addr)(c:Int)(w:World):Calls prog 65 #[pointer v,int i64 c] w λe w'=>∃r,e=.returned (.tuple #[pointer r,int i64 c])/\Tx v c r w w':=by
 by_cases hc:c=0
 ·subst hc;go_enter func65,ntmps65;go_wp2;go_ret2;exact⟨_,rfl,λ_=>⟨rfl,ma.new w _ _⟩,λh=>absurd rfl h,Va _⟩
 ·have HC:=aa hc;have e1:(c==0)=false:=by simpa using hc
  have e2:(c !=0)=true:=by simpa using hc
  clear hc;go_enter func65,ntmps65;go_wp2;go_ret2;exact⟨_,rfl,λh=>absurd h HC.out,λ_=>rfl,Vb⟩
theorem uT (sv dv:Option Addr)(F:Nat->Prop)(Q:Option Addr->Int->World->World->Prop)(k b x t l bat:Int)(sec rnd pub:ByteArray)(w:World)(hBl:∀V:World,Below w.heap.size w V->Calls prog 67 #[pointer sv] V λe w'=>e=.returned (pointer dv)/\Below V.heap.size V w')(hF:∀i,F i->i<w.heap.size)
  (Kt:∀V:World,Below w.heap.size w V->Calls prog 66 #[pointer dv,.agg #[int i64 k,int i64 b,int i64 x,int i64 t,int i64 l],.agg #[string sec,string rnd,string pub],int i64 bat] V λe w'=>∃v c,e=.returned (.tuple #[pointer v,int i64 c])/\za F V w'/\Q v c V w'):Calls prog 23 #[pointer sv,.agg #[int i64 k,int i64 b,int i64 x,int i64 t,int i64 l],.agg #[string sec,string rnd,string pub],int i64 bat] w λe w'=>∃v c r V V2,e=.returned (.tuple #[pointer r,int i64 c])/\Below w.heap.size w V/\za F V V2/\Q v c V V2/\Tx v c r V2 w':=by
 obtain⟨W0,hW⟩:=Ca ((w.alloc (.cells #[int i64 k,int i64 b,int i64 x,int i64 t,int i64 l] 26)).alloc (.cells #[string sec,string rnd,string pub] 42));have HB:=Gc hW;have HC:=aa (show ma W0 w.heap.size [int i64 k,int i64 b,int i64 x,int i64 t,int i64 l] 26 by rw[<-hW];exact(ma.new w _ _).alloc _)
 have HE:=aa (show ma W0 (w.heap.size+1) [string sec,string rnd,string pub] 42 by
  rw[<-hW];have h:=ma.new (w.alloc (.cells #[int i64 k,int i64 b,int i64 x,int i64 t,int i64 l] 26)) [string sec,string rnd,string pub] 42;simp only[World.size_alloc]at h;exact h)
 have nk:=aa (λ(V:World) (h:Below W0.heap.size W0 V)=>hBl V (HB.out.trans (h.mono HB.out.size)));have iH:=aa Kt;have xk:=aa EO;have gu:=aa (λg hg h=>by have:=hF g h;omega:∀g,w.heap.size<=g->¬F g);have HS:=aa (λ(V:World) (h:ma V w.heap.size [int i64 k,int i64 b,int i64 x,int i64 t,int i64 l] 26/\ma V (w.heap.size+1) [string sec,string rnd,string pub] 42)=>(Ul (Fa h.1) (Ja h.1) (Ha h.1) (Xa h.1) (Ya h.1) (Fa h.2) (Ja h.2) (Ha h.2)));have Ea:=aa hW;clear hW hBl hF Kt;go_enter func23,ntmps23;go_wp2_with fail;rw[Ea.out];refine wp_region_held_drew (S:=λV=>V.cell? ⟨w.heap.size,0,none⟩=some (int i64 k)/\V.cell? ⟨w.heap.size,1,none⟩=some (int i64 b)/\V.cell? ⟨w.heap.size,2,none⟩=some (int i64 x)/\V.cell? ⟨w.heap.size,3,none⟩=some (int i64 t)/\V.cell? ⟨w.heap.size,4,none⟩=some (int i64 l)/\V.cell? ⟨w.heap.size+1,0,none⟩=some (string sec)/\V.cell? ⟨w.heap.size+1,1,none⟩=some (string rnd)/\V.cell? ⟨w.heap.size+1,2,none⟩=some (string pub)) (by kernel_rfl) (HS.out _ (And.intro (HC.out.on (Below.refl W0.heap.size W0).drew) (HE.out.on (Below.refl W0.heap.size W0).drew))) (λja=>?_);refine tk 0 ja ?_;refine tk 2 ja ?_;refine tk 3 ja ?_;refine tk 4 ja ?_;refine wpAnyH_ready (rs:=[1]) (by kernel_rfl) (by simp) ?_;refine AllReadyH.cons (o:=?oa1) ?hoa1 (λK hK=>?hsa1) AllReadyH.nil
 case hoa1=>(simp only[jb,Na,Oa];rfl)
 go_simp;go_at_call 67;refine(nk.out _ (Below.refl W0.heap.size W0).drew).mono ?_
 rintro e w1 ⟨rfl,hb1⟩
 have HB1:=aa (Ga (Below.refl W0.heap.size W0).drew hb1 Aa);clear hb1;try go_wp2_with fail
 refine hK.out _ _ (HS.out _ (And.intro (HC.out.on HB1.out) (HE.out.on HB1.out))) (λja=>?_);clear hK K;try simp only[Act.put,Bb,Ka,Ma]
 refine wpAnyH_ready (rs:=[5]) (by kernel_rfl) (by simp) ?_;refine AllReadyH.cons (o:=?oa5) ?hoa5 (λK hK=>?hsa5) AllReadyH.nil
 case hoa5=>(simp only[jb,Na,Oa];rfl)
 go_simp;go_at_call 66;refine(iH.out _ (HB.out.trans (HB1.out.mono HB.out.size))).mono ?_
 rintro e w2 ⟨pv,pc,rfl,hk2,hq2⟩
 have lg:=aa (And.intro (hk2.blk (HC.out.on HB1.out) (gu.out _ Aa)) (hk2.blk (HE.out.on HB1.out) (gu.out _ (Nat.le_succ _))));have Gd:=aa hk2;have Sc:=aa hq2;clear hk2 hq2;try go_wp2_with fail
 refine hK.out _ _ (HS.out _ (lg.out)) (λja=>?_);clear hK K;try simp only[Act.put,Bb,Ka,Ma]
 refine tk 6 ja ?_;refine tk 7 ja ?_;refine wpAnyH_ready (rs:=[8]) (by kernel_rfl) (by simp) ?_;refine AllReadyH.cons (o:=?oa8) ?hoa8 (λK hK=>?hsa8) AllReadyH.nil
 case hoa8=>(simp only[jb,Na,Oa];rfl)
 go_simp;go_at_call 65;refine(xk.out pv pc _).mono ?_
 rintro e w3 ⟨pr,rfl,hg3⟩
 have ui:=aa hg3;clear hg3;try go_wp2_with fail
 refine hK.out _ _ (HS.out _ (And.intro (lg.out.1.on ui.out.2.2) (lg.out.2.on ui.out.2.2))) (λja=>?_);clear hK K;try simp only[Act.put,Bb,Ka,Ma]
 refine tk 9 ja ?_;refine tk 10 ja ?_;refine tk 11 ja ?_;refine tk 12 ja ?_;refine wpAnyH_done (by kernel_rfl) ?_ _;clear ja;go_wp2;go_ret2;exact⟨pv,pc,pr,w1,w2,rfl,HB.out.trans (HB1.out.mono HB.out.size),Gd.out,Sc.out,ui.out⟩
theorem ue0 (SD D:Nat)(F:Nat->Prop)(Q:Option Addr->Int->World->World->Prop)(k b x t l bat:Int)(sec rnd pub:ByteArray)(w:World)(hSD:ma w SD [pointer (some ⟨D,0,none⟩)] 135)(hF:∀i,F i->i<w.heap.size)
  (Kt:∀V:World,Below w.heap.size w V->Calls prog 66 #[pointer (some ⟨D,0,none⟩),.agg #[int i64 k,int i64 b,int i64 x,int i64 t,int i64 l],.agg #[string sec,string rnd,string pub],int i64 bat] V λe w'=>∃v c,e=.returned (.tuple #[pointer v,int i64 c])/\za F V w'/\Q v c V w'):Calls prog 23 #[pointer (some ⟨SD,0,none⟩),.agg #[int i64 k,int i64 b,int i64 x,int i64 t,int i64 l],.agg #[string sec,string rnd,string pub],int i64 bat] w λe w'=>∃v c r V V2,e=.returned (.tuple #[pointer r,int i64 c])/\Below w.heap.size w V/\za F V V2/\Q v c V V2/\Tx v c r V2 w':=uT _ _ F Q k b x t l bat sec rnd pub w (λV hb=>nI SD D V (hSD.on hb)) hF Kt
theorem DT (sv dv:Option Addr)(F:Nat->Prop)(Q:Option Addr->Int->World->World->Prop)(k b x t l bat:Int)(sec rnd pub:ByteArray)(w:World)(hBl:∀V:World,Below w.heap.size w V->Calls prog 67 #[pointer sv] V λe w'=>e=.returned (pointer dv)/\Below V.heap.size V w')(hF:∀i,F i->i<w.heap.size)
  (Kt:∀V:World,Below w.heap.size w V->Calls prog 100 #[pointer dv,.agg #[int i64 k,int i64 b,int i64 x,int i64 t,int i64 l],.agg #[string sec,string rnd,string pub],int i64 bat] V λe w'=>∃v c,e=.returned (.tuple #[pointer v,int i64 c])/\za F V w'/\Q v c V w'):Calls prog 55 #[pointer sv,.agg #[int i64 k,int i64 b,int i64 x,int i64 t,int i64 l],.agg #[string sec,string rnd,string pub],int i64 bat] w λe w'=>∃v c r V V2,e=.returned (.tuple #[pointer r,int i64 c])/\Below w.heap.size w V/\za F V V2/\Q v c V V2/\Tx v c r V2 w':=by
 obtain⟨W0,hW⟩:=Ca ((w.alloc (.cells #[int i64 k,int i64 b,int i64 x,int i64 t,int i64 l] 26)).alloc (.cells #[string sec,string rnd,string pub] 42));have HB:=Gc hW;have HC:=aa (show ma W0 w.heap.size [int i64 k,int i64 b,int i64 x,int i64 t,int i64 l] 26 by rw[<-hW];exact(ma.new w _ _).alloc _)
 have HE:=aa (show ma W0 (w.heap.size+1) [string sec,string rnd,string pub] 42 by
  rw[<-hW];have h:=ma.new (w.alloc (.cells #[int i64 k,int i64 b,int i64 x,int i64 t,int i64 l] 26)) [string sec,string rnd,string pub] 42;simp only[World.size_alloc]at h;exact h)
 have nk:=aa (λ(V:World) (h:Below W0.heap.size W0 V)=>hBl V (HB.out.trans (h.mono HB.out.size)));have iH:=aa Kt;have xk:=aa EO;have gu:=aa (λg hg h=>by have:=hF g h;omega:∀g,w.heap.size<=g->¬F g);have HS:=aa (λ(V:World) (h:ma V w.heap.size [int i64 k,int i64 b,int i64 x,int i64 t,int i64 l] 26/\ma V (w.heap.size+1) [string sec,string rnd,string pub] 42)=>(Ul (Fa h.1) (Ja h.1) (Ha h.1) (Xa h.1) (Ya h.1) (Fa h.2) (Ja h.2) (Ha h.2)));have Ea:=aa hW;clear hW hBl hF Kt;go_enter func55,ntmps55;go_wp2_with fail;rw[Ea.out];refine wp_region_held_drew (S:=λV=>V.cell? ⟨w.heap.size,0,none⟩=some (int i64 k)/\V.cell? ⟨w.heap.size,1,none⟩=some (int i64 b)/\V.cell? ⟨w.heap.size,2,none⟩=some (int i64 x)/\V.cell? ⟨w.heap.size,3,none⟩=some (int i64 t)/\V.cell? ⟨w.heap.size,4,none⟩=some (int i64 l)/\V.cell? ⟨w.heap.size+1,0,none⟩=some (string sec)/\V.cell? ⟨w.heap.size+1,1,none⟩=some (string rnd)/\V.cell? ⟨w.heap.size+1,2,none⟩=some (string pub)) (by kernel_rfl) (HS.out _ (And.intro (HC.out.on (Below.refl W0.heap.size W0).drew) (HE.out.on (Below.refl W0.heap.size W0).drew))) (λja=>?_);refine tk 0 ja ?_;refine tk 2 ja ?_;refine tk 3 ja ?_;refine tk 4 ja ?_;refine wpAnyH_ready (rs:=[1]) (by kernel_rfl) (by simp) ?_;refine AllReadyH.cons (o:=?oa1) ?hoa1 (λK hK=>?hsa1) AllReadyH.nil
 case hoa1=>(simp only[jb,Na,Oa];rfl)
 go_simp;go_at_call 67;refine(nk.out _ (Below.refl W0.heap.size W0).drew).mono ?_
 rintro e w1 ⟨rfl,hb1⟩
 have HB1:=aa (Ga (Below.refl W0.heap.size W0).drew hb1 Aa);clear hb1;try go_wp2_with fail
 refine hK.out _ _ (HS.out _ (And.intro (HC.out.on HB1.out) (HE.out.on HB1.out))) (λja=>?_);clear hK K;try simp only[Act.put,Bb,Ka,Ma]
 refine wpAnyH_ready (rs:=[5]) (by kernel_rfl) (by simp) ?_;refine AllReadyH.cons (o:=?oa5) ?hoa5 (λK hK=>?hsa5) AllReadyH.nil
 case hoa5=>(simp only[jb,Na,Oa];rfl)
 go_simp;go_at_call 100;refine(iH.out _ (HB.out.trans (HB1.out.mono HB.out.size))).mono ?_
 rintro e w2 ⟨pv,pc,rfl,hk2,hq2⟩
 have lg:=aa (And.intro (hk2.blk (HC.out.on HB1.out) (gu.out _ Aa)) (hk2.blk (HE.out.on HB1.out) (gu.out _ (Nat.le_succ _))));have Gd:=aa hk2;have Sc:=aa hq2;clear hk2 hq2;try go_wp2_with fail
 refine hK.out _ _ (HS.out _ (lg.out)) (λja=>?_);clear hK K;try simp only[Act.put,Bb,Ka,Ma]
 refine tk 6 ja ?_;refine tk 7 ja ?_;refine wpAnyH_ready (rs:=[8]) (by kernel_rfl) (by simp) ?_;refine AllReadyH.cons (o:=?oa8) ?hoa8 (λK hK=>?hsa8) AllReadyH.nil
 case hoa8=>(simp only[jb,Na,Oa];rfl)
 go_simp;go_at_call 65;refine(xk.out pv pc _).mono ?_
 rintro e w3 ⟨pr,rfl,hg3⟩
 have ui:=aa hg3;clear hg3;try go_wp2_with fail
 refine hK.out _ _ (HS.out _ (And.intro (lg.out.1.on ui.out.2.2) (lg.out.2.on ui.out.2.2))) (λja=>?_);clear hK K;try simp only[Act.put,Bb,Ka,Ma]
 refine tk 9 ja ?_;refine tk 10 ja ?_;refine tk 11 ja ?_;refine tk 12 ja ?_;refine wpAnyH_done (by kernel_rfl) ?_ _;clear ja;go_wp2;go_ret2;exact⟨pv,pc,pr,w1,w2,rfl,HB.out.trans (HB1.out.mono HB.out.size),Gd.out,Sc.out,ui.out⟩
theorem ze0 (SD D:Nat)(F:Nat->Prop)(Q:Option Addr->Int->World->World->Prop)(k b x t l bat:Int)(sec rnd pub:ByteArray)(w:World)(hSD:ma w SD [pointer (some ⟨D,0,none⟩)] 135)(hF:∀i,F i->i<w.heap.size)
  (Kt:∀V:World,Below w.heap.size w V->Calls prog 100 #[pointer (some ⟨D,0,none⟩),.agg #[int i64 k,int i64 b,int i64 x,int i64 t,int i64 l],.agg #[string sec,string rnd,string pub],int i64 bat] V λe w'=>∃v c,e=.returned (.tuple #[pointer v,int i64 c])/\za F V w'/\Q v c V w'):Calls prog 55 #[pointer (some ⟨SD,0,none⟩),.agg #[int i64 k,int i64 b,int i64 x,int i64 t,int i64 l],.agg #[string sec,string rnd,string pub],int i64 bat] w λe w'=>∃v c r V V2,e=.returned (.tuple #[pointer r,int i64 c])/\Below w.heap.size w V/\za F V V2/\Q v c V V2/\Tx v c r V2 w':=DT _ _ F Q k b x t l bat sec rnd pub w (λV hb=>nI SD D V (hSD.on hb)) hF Kt
theorem OJ (S D:Nat)(tm Bl:Int)(ov:Bool)(w:World)(hS:S<w.heap.size)(hD:D<w.heap.size)(h0:w.cell? ⟨S,0,none⟩=some (pointer (some ⟨D,0,none⟩)))(h1:w.cell? ⟨S,1,none⟩=some (int i64 tm))(h18:w.cell? ⟨S,18,none⟩=some (.bool ov))(h5:w.cell? ⟨D,5,none⟩=some (int i64 Bl))(ho:ov=true\/tm≠Bl):Calls prog 114 #[pointer (some ⟨S,0,none⟩)] w λe w'=>e=.returned (.bool true)/\Below w.heap.size w w':=by
 have HT:=aa (λ(V:World) (hb:Below w.heap.size w V)=>XK D Bl V ((hb.cell (p:=⟨D,5,none⟩) hD).trans h5));clear h5 hD
 cases ov
 ·have e1:(tm !=Bl)=true:=by simpa using ho
  clear ho;have HS:=aa (λ(V:World) (hb:Below w.heap.size w V)=>(⟨(hb.cell (p:=⟨S,0,none⟩) hS).trans h0,(hb.cell (p:=⟨S,1,none⟩) hS).trans h1,(hb.cell (p:=⟨S,18,none⟩) hS).trans h18⟩:V.cell? ⟨S,0,none⟩=some (pointer (some ⟨D,0,none⟩))/\V.cell? ⟨S,1,none⟩=some (int i64 tm)/\V.cell? ⟨S,18,none⟩=some (.bool false)));clear h0 h1 h18 hS;go_enter func114,ntmps114;go_wp2_with fail;refine wp_region_held_drew (S:=λV=>V.cell? ⟨S,0,none⟩=some (pointer (some ⟨D,0,none⟩))/\V.cell? ⟨S,1,none⟩=some (int i64 tm)/\V.cell? ⟨S,18,none⟩=some (.bool false)) (by kernel_rfl) (HS.out _ ((Below.refl w.heap.size w).drew)) (λja=>?_);refine tk 0 ja ?_;refine tk 1 ja ?_;refine tk 2 ja ?_;refine tk 3 ja ?_;refine tk 4 ja ?_;refine tk 5 ja ?_;refine tk 6 ja ?_;refine tk 7 ja ?_;refine tk 8 ja ?_;refine tk 9 ja ?_;refine tk 10 ja ?_;refine tk 11 ja ?_;refine tk 12 ja ?_;refine wpAnyH_ready (rs:=[13]) (by kernel_rfl) (by simp) ?_;refine AllReadyH.cons (o:=?ob13) ?hob13 (λK hK=>?hsb13) AllReadyH.nil
  case hob13=>(simp only[jb,Na,Oa];rfl)
  go_simp;go_at_call 181;refine(HT.out _ (Below.refl w.heap.size w).drew).mono ?_
  rintro e w1 ⟨rfl,hb1⟩
  have HB1:=aa (Ga (Below.refl w.heap.size w).drew hb1 Aa);clear hb1;try go_wp2_with fail
  refine hK.out _ _ (HS.out _ (HB1.out)) (λja=>?_);clear hK K;try simp only[Act.put,Bb,Ka,Ma]
  refine tk 14 ja ?_;refine tk 15 ja ?_;refine tk 16 ja ?_;refine wpAnyH_done (by kernel_rfl) ?_ _;clear ja;go_wp2;go_ret;exact⟨rfl,HB1.out⟩
 ·clear ho;have HS:=aa (λ(V:World) (hb:Below w.heap.size w V)=>(⟨(hb.cell (p:=⟨S,0,none⟩) hS).trans h0,(hb.cell (p:=⟨S,1,none⟩) hS).trans h1,(hb.cell (p:=⟨S,18,none⟩) hS).trans h18⟩:V.cell? ⟨S,0,none⟩=some (pointer (some ⟨D,0,none⟩))/\V.cell? ⟨S,1,none⟩=some (int i64 tm)/\V.cell? ⟨S,18,none⟩=some (.bool true)));clear h0 h1 h18 hS;go_enter func114,ntmps114;go_wp2_with fail;refine wp_region_held_drew (S:=λV=>V.cell? ⟨S,0,none⟩=some (pointer (some ⟨D,0,none⟩))/\V.cell? ⟨S,1,none⟩=some (int i64 tm)/\V.cell? ⟨S,18,none⟩=some (.bool true)) (by kernel_rfl) (HS.out _ ((Below.refl w.heap.size w).drew)) (λja=>?_);refine tk 0 ja ?_;refine tk 1 ja ?_;refine tk 2 ja ?_;refine tk 3 ja ?_;refine tk 4 ja ?_;refine sk 5 ja ?_;refine sk 6 ja ?_;refine sk 7 ja ?_;refine sk 8 ja ?_;refine sk 9 ja ?_;refine sk 10 ja ?_;refine sk 11 ja ?_;refine sk 12 ja ?_;refine sk 13 ja ?_;refine sk 14 ja ?_;refine tk 15 ja ?_;refine tk 16 ja ?_;refine wpAnyH_done (by kernel_rfl) ?_ _;clear ja;go_wp2;go_ret;exact⟨rfl,(Below.refl w.heap.size w).drew⟩
theorem Ge0 (S D:Nat)(Bl:Int)(tm k b x t l:Int)(root pub sec rnd:ByteArray)(tot bat nx q bd:Int)(id:ByteArray)(ov:Bool)(m:Int)(w:World)(hB:ma w S (Zb D tm k b x t l root pub sec rnd tot bat nx q bd id ov) 188)(hD:D<w.heap.size)(h5:w.cell? ⟨D,5,none⟩=some (int i64 Bl))(ho:ov=true\/tm≠Bl):Calls prog 72 #[pointer (some ⟨S,0,none⟩),int i64 m] w λe w'=>e=.returned (.tuple #[int i64 0,int i64 9])/\Below w.heap.size w w':=by
 have qb:=aa (OJ S D tm Bl ov w hB.lt hD (hB.cell 0) (hB.cell 1) (hB.cell 18) h5 ho);clear hB hD h5 ho;go_enter func72,ntmps72;go_wp2_with fail;refine qb.out.mono ?_
 rintro e w1 ⟨rfl,hb1⟩
 have HB1:=aa hb1;clear hb1;go_wp2;go_ret2;exact⟨rfl,HB1.out⟩
theorem Ne0 (S D:Nat)(Bl:Int)(tm k b x t l:Int)(root pub sec rnd:ByteArray)(tot bat nx q bd:Int)(id:ByteArray)(ov:Bool)(msg:ByteArray)(w:World)(hB:ma w S (Zb D tm k b x t l root pub sec rnd tot bat nx q bd id ov) 188)(hD:D<w.heap.size)(h5:w.cell? ⟨D,5,none⟩=some (int i64 Bl))(ho:ov=true\/tm≠Bl):Calls prog 99 #[pointer (some ⟨S,0,none⟩),string msg] w λe w'=>e=.returned (.tuple #[string ⟨#[]⟩,int i64 9])/\Below w.heap.size w w':=by
 have qb:=aa (OJ S D tm Bl ov w hB.lt hD (hB.cell 0) (hB.cell 1) (hB.cell 18) h5 ho);clear hB hD h5 ho;go_enter func99,ntmps99;go_wp2_with fail;refine qb.out.mono ?_
 rintro e w1 ⟨rfl,hb1⟩
 have HB1:=aa hb1;clear hb1;go_wp2;go_ret2;exact⟨rfl,HB1.out⟩
theorem Sd0 (G S:Nat)(msg:ByteArray)(z:ByteArray)(c:Int)(Q:World->Prop)(w:World)(hG:ma w G [pointer (some ⟨S,0,none⟩)] 142)
  (h:Calls prog 99 #[pointer (some ⟨S,0,none⟩),string msg] w λe w'=>e=.returned (.tuple #[string z,int i64 c])/\Q w'):Calls prog 52 #[pointer (some ⟨G,0,none⟩),string msg] w λe w'=>e=.returned (.tuple #[string z,int i64 c])/\Q w':=by
 have H:=aa h;have c0:=Fa hG;clear h hG;go_enter func52,ntmps52;go_wp2_with fail;refine H.out.mono ?_
 rintro e w1 ⟨rfl,hq⟩
 have HQ:=aa hq;clear hq;go_wp2;go_ret2;exact⟨rfl,HQ.out⟩
theorem Rd0 (G S:Nat)(m:Int)(z c:Int)(Q:World->Prop)(w:World)(hG:ma w G [pointer (some ⟨S,0,none⟩)] 142)
  (h:Calls prog 72 #[pointer (some ⟨S,0,none⟩),int i64 m] w λe w'=>e=.returned (.tuple #[int i64 z,int i64 c])/\Q w'):Calls prog 31 #[pointer (some ⟨G,0,none⟩),int i64 m] w λe w'=>e=.returned (.tuple #[int i64 z,int i64 c])/\Q w':=by
 have H:=aa h;have c0:=Fa hG;clear h hG;go_enter func31,ntmps31;go_wp2_with fail;refine H.out.mono ?_
 rintro e w1 ⟨rfl,hq⟩
 have HQ:=aa hq;clear hq;go_wp2;go_ret2;exact⟨rfl,HQ.out⟩
theorem Qd0 (G S:Nat)(z:ByteArray)(Q:World->Prop)(w:World)(hG:ma w G [pointer (some ⟨S,0,none⟩)] 142)
  (h:Calls prog 98 #[pointer (some ⟨S,0,none⟩)] w λe w'=>e=.returned (string z)/\Q w'):Calls prog 51 #[pointer (some ⟨G,0,none⟩)] w λe w'=>e=.returned (string z)/\Q w':=by
 have H:=aa h;have c0:=Fa hG;clear h hG;go_enter func51,ntmps51;go_wp2_with fail;refine H.out.mono ?_
 rintro e w1 ⟨rfl,hq⟩
 have HQ:=aa hq;clear hq;go_wp2;go_ret;exact⟨rfl,HQ.out⟩
theorem Td0 (G S:Nat)(nx bd q:Int)(w:World)(hG:ma w G [pointer (some ⟨S,0,none⟩)] 142)
  (h:∀V:World,Below w.heap.size w V->Calls prog 71 #[pointer (some ⟨S,0,none⟩)] V λe w'=>e=.returned (.agg #[int i64 nx,int i64 bd,int i64 q,.bool false])/\Below V.heap.size V w'):Calls prog 30 #[pointer (some ⟨G,0,none⟩)] w λe w'=>e=.returned (.agg #[int i64 nx,int i64 bd,int i64 q,.bool false])/\Below w.heap.size w w':=by
 obtain⟨W0,hW⟩:=Ca (w.alloc (.cells #[int i64 0,int i64 0,int i64 0,.bool false] 79));have HB:=Xd hW;have HK:=Ph hW;have H:=aa (h W0 HB.out);have c0:=Fa ((hG.on HB.out));have c0':(w.alloc (.cells #[int i64 0,int i64 0,int i64 0,.bool false] 79)).cell? ⟨G,0,none⟩=some (pointer (some ⟨S,0,none⟩)):=by rw[hW];exact c0
 have HZ:=aa (show w.heap.size<W0.heap.size by subst hW;simp);have Ea:=aa hW;clear h hG hW c0;go_enter func30,ntmps30;go_wp2_with fail;rw[Ea.out];refine H.out.mono ?_
 rintro e w4 ⟨rfl,hb4⟩
 have Rb:=aa (HK.out.on hb4);have Db:=aa hb4;have r0:=Fa Rb.out;have r1:=Ja Rb.out;have r2:=Ha Rb.out;have r3:=Xa Rb.out;have f0:=Rb.out.free 0;have f1:=Rb.out.free 1;have f2:=Rb.out.free 2;have f3:=Rb.out.free 3;clear hb4 c0';go_wp2;have aj:=aa ((((Rb.out.set 0 (int i64 nx)).set 1 (int i64 bd)).set 2 (int i64 q)).set 3 (.bool false));have v0:=aj.out.cell 0;have v1:=aj.out.cell 1;have v2:=aj.out.cell 2;have v3:=aj.out.cell 3;have Td:=aa (HB.out.trans (((((Db.out.mono (Nat.le_of_lt HZ.out)).setCell (p:=⟨w.heap.size,0,none⟩) Aa (int i64 nx)).setCell (p:=⟨w.heap.size,1,none⟩) Aa (int i64 bd)).setCell (p:=⟨w.heap.size,2,none⟩) Aa (int i64 q)).setCell (p:=⟨w.heap.size,3,none⟩) Aa (.bool false)));clear r0 r1 r2 r3 f0 f1 f2 f3;generalize(((w4.setCell ⟨w.heap.size,0,none⟩ (int i64 nx)).setCell ⟨w.heap.size,1,none⟩ (int i64 bd)).setCell ⟨w.heap.size,2,none⟩ (int i64 q)).setCell ⟨w.heap.size,3,none⟩ (.bool false)=W9 at v0 v1 v2 v3 Td⊢;simp only[Oa,Na,Ka,Ma]at v0 v1 v2 v3;refine bodyPost_ret (v:=.agg #[int i64 nx,int i64 bd,int i64 q,.bool false]) (by simp[results,results30,go_sem,v0,v1,v2,v3]) rfl ⟨rfl,?_⟩;exact Td.out
theorem Pe0 (lo S D:Nat)(st:Da)(F:Nat->Prop)(tm k b x t l:Int)(root pub sec rnd:ByteArray)(tot bat nx q bd:Int)(id:ByteArray)(msg:ByteArray)(w:World)(hB:ma w S (Zb D tm k b x t l root pub sec rnd tot bat nx q bd id false) 188)(hD:Fb lo D st w F)(_hSF:¬F S)(jc:st.term=tm)(hsp:nx≠tot)(hnb:nx=bd)(hq:q=2147483647)(hm:msg.size<=200):Calls prog 99 #[pointer (some ⟨S,0,none⟩),string msg] w λe w'=>e=.returned (.tuple #[string ⟨#[]⟩,int i64 10])/\Below w.heap.size w w':=by
 have ze:=hB.lt;have qb:=aa (Ko S D tm w ze hD.ltD (hB.cell 0) (hB.cell 1) (hB.cell 18) (by rw[<-jc];exact hD.term));have e1:(nx==tot)=false:=by simpa using hsp
 have e2:(nx==bd)=true:=by simpa using hnb
 have e3:(q==2147483647)=true:=by simpa using hq
 have hm2:(msg.size:Int)<=200:=by omega
 have HS:=aa (λ(V:World) (h:Below w.heap.size w V)=>(have q1:=hB.on h;Vw (Bh q1) (Aj q1) (pg q1) (ag q1)));clear hB hD _hSF jc hm hsp hnb ze hq;go_enter func99,ntmps99;go_wp2_with fail;refine qb.out.mono ?_
 rintro e w1 ⟨rfl,hb1⟩
 have HB1:=aa hb1;clear hb1;go_wp2_with fail;refine wp_region_held_drew (S:=λV=>V.cell? ⟨S,12,none⟩=some (int i64 tot)/\V.cell? ⟨S,14,none⟩=some (int i64 nx)/\V.cell? ⟨S,15,none⟩=some (int i64 q)/\V.cell? ⟨S,16,none⟩=some (int i64 bd)) (by kernel_rfl) (HS.out _ (HB1.out.drew)) (λja=>?_);refine tk 0 ja ?_;refine tk 1 ja ?_;refine tk 2 ja ?_;refine tk 3 ja ?_;refine tk 4 ja ?_;refine tk 5 ja ?_;refine tk 6 ja ?_;refine tk 7 ja ?_;refine tk 8 ja ?_;refine tk 9 ja ?_;refine tk 10 ja ?_;refine wpAnyH_done (by kernel_rfl) ?_ _;go_wp2_with fail;refine wp_region_held_drew (S:=λV=>V.cell? ⟨S,12,none⟩=some (int i64 tot)/\V.cell? ⟨S,14,none⟩=some (int i64 nx)/\V.cell? ⟨S,15,none⟩=some (int i64 q)/\V.cell? ⟨S,16,none⟩=some (int i64 bd)) (by kernel_rfl) (HS.out _ (HB1.out.drew.drew)) (λja=>?_);refine tk 0 ja ?_;refine tk 1 ja ?_;refine tk 2 ja ?_;refine tk 3 ja ?_;refine tk 4 ja ?_;refine tk 5 ja ?_;refine tk 6 ja ?_;refine tk 7 ja ?_;refine tk 8 ja ?_;refine tk 9 ja ?_;refine tk 10 ja ?_;refine tk 11 ja ?_;refine tk 12 ja ?_;refine tk 13 ja ?_;refine tk 14 ja ?_;refine tk 15 ja ?_;refine tk 16 ja ?_;refine tk 17 ja ?_;refine tk 18 ja ?_;refine tk 19 ja ?_;refine wpAnyH_done (by kernel_rfl) ?_ _;have HB3:=aa HB1.out.drew.drew;go_wp2;go_ret2;exact⟨rfl,HB3.out⟩
theorem Le0 (lo S D:Nat)(st:Da)(F:Nat->Prop)(tm k b x t l:Int)(root pub sec rnd:ByteArray)(tot bat nx q bd:Int)(id:ByteArray)(msg:ByteArray)(w:World)(hB:ma w S (Zb D tm k b x t l root pub sec rnd tot bat nx q bd id false) 188)(hD:Fb lo D st w F)(_hSF:¬F S)(jc:st.term=tm)(hm:200<msg.size):Calls prog 99 #[pointer (some ⟨S,0,none⟩),string msg] w λe w'=>e=.returned (.tuple #[string ⟨#[]⟩,int i64 3])/\Below w.heap.size w w':=by
 have qb:=aa (Ko S D tm w hB.lt hD.ltD (hB.cell 0) (hB.cell 1) (hB.cell 18) (by rw[<-jc];exact hD.term));have hm2:(200:Int)<(msg.size:Int):=by omega
 clear hB hD jc hm;go_enter func99,ntmps99;go_wp2_with fail;refine qb.out.mono ?_
 rintro e w1 ⟨rfl,hb1⟩
 have HB1:=aa hb1;clear hb1;go_wp2;go_ret2;exact⟨rfl,HB1.out⟩
theorem DN (lo D:Nat)(st s2:Da)(F:Nat->Prop)(k b x t l:Int)(root pub sec rnd id:ByteArray)(tot bat c z0 z1 z2 z4 z5:Int)(sv:Value)(w:World)(hD:Fb lo D st w F)(hn:2<=st.n)(hT:Tn w)(Yg:1<lo)(hlo:lo<=w.heap.size)(hb1:1<=bat)(hb2:bat<=64)(ht0:0<=st.term)(ht1:st.term<9223372036854775807)(hc:c≠0)
  (hM:∀V:World,Calls prog 155 #[.agg #[int i64 k,int i64 b,int i64 x,int i64 t,int i64 l]] V λe w'=>e=.returned (.tuple #[.agg #[int i64 z0,int i64 z1,int i64 z2,int i64 tot,int i64 z4,int i64 z5],int i64 0])/\Below V.heap.size V w')
  (ll:∀V:World,Tn V->Calls prog 178 #[.agg #[int i64 k,int i64 b,int i64 x,int i64 t,int i64 l],.agg #[string sec,string rnd,string pub]] V λe w'=>e=.returned (.tuple #[.agg #[int i64 k,int i64 b,int i64 x,int i64 t,int i64 l,string root,string pub],int i64 0])/\Below V.heap.size V w')
  (zn:∀V:World,Tn V->Calls prog 179 #[.agg #[int i64 k,int i64 b,int i64 x,int i64 t,int i64 l,string root,string pub]] V λe w'=>e=.returned (string id)/\Below V.heap.size V w')
  (hDone:∀(V:World) (O:Nat) (F1:Nat->Prop),Fb lo D {st with term:=st.term+1} V F1->za F w V->(∀k,F1 k->F k\/w.heap.size<=k)->w.heap.size<=O->¬F1 O->ma V O (Lg D id tot (slice none 0 0) 0 0 ⟨#[]⟩) 246->Calls prog 180 #[pointer (some ⟨O,0,none⟩),sv] V λe w'=>e=.returned (int i64 c)/\∃F2,Fb lo D s2 w' F2/\za (λk=>k=O\/F1 k) V w'/\∀k,F2 k->F1 k\/V.heap.size<=k):Calls prog 106 #[pointer (some ⟨D,0,none⟩),.agg #[int i64 k,int i64 b,int i64 x,int i64 t,int i64 l],.agg #[string sec,string rnd,string pub],int i64 bat,sv] w λe w'=>∃F',e=.returned (.tuple #[pointer none,int i64 c])/\Fb lo D s2 w' F'/\za F w w'/\∀k,F' k->F k\/w.heap.size<=k:=by
 have jB:∀i,F i->lo<=i/\i<w.heap.size:=hD.lt;obtain⟨W0,hW⟩:=Ca ((w.alloc (.cells #[int i64 k,int i64 b,int i64 x,int i64 t,int i64 l] 26)).alloc (.cells #[string sec,string rnd,string pub] 42));have HB0:=Gc hW;have HC:=aa (show ma W0 w.heap.size [int i64 k,int i64 b,int i64 x,int i64 t,int i64 l] 26 by rw[<-hW];exact(ma.new w _ _).alloc _)
 have HE:=aa (show ma W0 (w.heap.size+1) [string sec,string rnd,string pub] 42 by
  rw[<-hW];have h:=ma.new (w.alloc (.cells #[int i64 k,int i64 b,int i64 x,int i64 t,int i64 l] 26)) [string sec,string rnd,string pub] 42;simp only[World.size_alloc]at h;exact h)
 have HM:=aa hM;have Qm:=aa ll;have YG:=aa zn;have QG:=aa hDone;have OG:=aa (λV:World=>zw bat V hb1 hb2);obtain⟨sa,hsa⟩:=hD.sectors;have Sj:=aa (λ(V:World) (h:Below w.heap.size w V)=>QC D sa st.n st.n V ((h.cell (p:=⟨D,0,none⟩) hD.ltD).trans hsa));have hnn:(2:Int)<=(st.n:Int):=by omega
 have HP:=aa (And.intro hD (And.intro hT (And.intro Yg (And.intro hlo (And.intro ht0 (And.intro ht1 (And.intro hc jB)))))));have e8:(c==0)=false:=by simpa using hc
 have e9:(c !=0)=true:=by simpa using hc
 have Ea:=aa hW;clear hW hM ll zn hDone hb1 hb2 hsa hD hT Yg hlo ht0 ht1 hc jB hn;go_enter func106,ntmps106;go_wp2_with fail;rw[Ea.out];refine(HM.out _).mono ?_
 rintro e w1 ⟨rfl,hb1⟩
 obtain⟨W1,hW1⟩:=Ca (w1.alloc (.cells #[int i64 z0,int i64 z1,int i64 z2,int i64 tot,int i64 z4,int i64 z5] 158));have HB1:=aa (show Below W0.heap.size W0 W1 by rw[<-hW1];exact hb1.alloc hb1.size _);have HZ:=Ph hW1;have HW1:=aa hW1;have EB:=HB0.out.size;have Nw:=hb1.size;obtain⟨Z,hZ⟩:=Ca (w1.heap.size);rw[hZ]at HZ Nw;have WH:=aa hZ;have iE:=aa (Nat.le_trans EB Nw);clear hb1 hW1 hZ EB Nw;go_wp2_with fail;rw[HW1.out];refine(Sj.out _ (HB0.out.trans (HB1.out.mono HB0.out.size))).mono ?_
 rintro e w2 ⟨rfl,hb2⟩
 have HB2:=aa hb2;clear hb2;go_wp2_with fail;refine(OG.out _).mono ?_
 rintro e w3 ⟨rfl,hb3⟩
 have HB3:=aa (Ga HB2.out hb3 Aa);clear hb3;have Ov:=aa (HB1.out.trans (HB3.out.mono HB1.out.size));have We:=aa (HC.out.on Ov.out);have Xi:=aa (HE.out.on Ov.out);have c0:=Fa We.out;have c1:=Ja We.out;have c2:=Ha We.out;have c3:=Xa We.out;have c4:=Ya We.out;have d0:=Fa Xi.out;have d1:=Ja Xi.out;have d2:=Ha Xi.out;have Yr:=aa (HB0.out.trans (Ov.out.mono HB0.out.size));have HT3:=aa (HP.out.2.1.on Yr.out);go_wp2_with fail;refine(Qm.out _ HT3.out).mono ?_
 rintro e w4 ⟨rfl,hb4⟩
 clear c0 c1 c2 c3 c4 d0 d1 d2;obtain⟨W4,Gj⟩:=Ca (w4.alloc (.cells #[int i64 k,int i64 b,int i64 x,int i64 t,int i64 l,string root,string pub] 184));have Db:=aa (show Below w3.heap.size w3 W4 by rw[<-Gj];exact hb4.alloc hb4.size _);have HKK:=Ph Gj;obtain⟨KB,Jt⟩:=Ca (w4.heap.size);have DD:=aa (show w.heap.size<=KB by rw[<-Jt];exact Nat.le_trans Yr.out.size hb4.size);rw[Jt]at HKK;have PH:=aa Gj;have Vv:=aa Jt;clear hb4 Gj Jt;have Zr:=aa (Yr.out.trans (Db.out.mono Yr.out.size));have wh:=aa (Xi.out.on Db.out);have GA:=aa ((HZ.out.on HB3.out).on Db.out);have HD4:=aa (HP.out.1.below Zr.out);have Tq:=aa (yO lo D st F W4 HD4.out HP.out.2.2.2.2.1 HP.out.2.2.2.2.2.1);go_wp2_with fail;rw[PH.out];refine Tq.out.mono ?_
 rintro e w5 ⟨rfl,hl5⟩
 have hnF:∀g,w.heap.size<=g->¬F g:=λg hg h=>by have:=(HP.out.2.2.2.2.2.2.2 g h).2;omega
 have Rv:=aa (hl5.blk wh.out (hnF _ (by omega)));have Ck:=aa (hl5.blk GA.out (hnF _ iE.out));have Ep:=aa (hl5.blk HKK.out (hnF _ DD.out));have Uk:=aa (hl5.of_below Zr.out (λi hi=>(HP.out.2.2.2.2.2.2.2 i hi).2));have gu:=aa hnF;have Sz:=aa hl5;have jo:=aa (And.intro wh.out.lt (And.intro GA.out.lt HKK.out.lt));clear hl5 hnF
 have Ez:=aa (show Below lo w w5 by
  obtain⟨F1,_,k1,_⟩:=Uk.out;exact k1.below (λi hi=>(HP.out.2.2.2.2.2.2.2 i hi).1) HP.out.2.2.2.1)
 have ky:=aa (show Tn w5.drew from(HP.out.2.1.below Ez.out HP.out.2.2.1).on (Below.refl _ w5).drew);have HS:=aa (λ(V:World) (h:Below w5.heap.size w5 V)=>(have q1:=Ep.out.on h;have q2:=Ck.out.on h;Ul (Fa q1) (Ja q1) (Ha q1) (Xa q1) (Ya q1) (Ee q1) (jf q1) (Xa q2)));go_wp2_with fail;try rw[Vv.out]
 try rw[WH.out]
 refine wp_region_held_drew (S:=λV=>V.cell? ⟨KB,0,none⟩=some (int i64 k)/\V.cell? ⟨KB,1,none⟩=some (int i64 b)/\V.cell? ⟨KB,2,none⟩=some (int i64 x)/\V.cell? ⟨KB,3,none⟩=some (int i64 t)/\V.cell? ⟨KB,4,none⟩=some (int i64 l)/\V.cell? ⟨KB,5,none⟩=some (string root)/\V.cell? ⟨KB,6,none⟩=some (string pub)/\V.cell? ⟨Z,3,none⟩=some (int i64 tot)) (by kernel_rfl) (HS.out _ ((Below.refl w5.heap.size w5).drew)) (λja=>?_);refine tk 0 ja ?_;refine tk 1 ja ?_;refine tk 3 ja ?_;refine tk 4 ja ?_;refine wpAnyH_ready (rs:=[2]) (by kernel_rfl) (by simp) ?_;refine AllReadyH.cons (o:=?oa2) ?hoa2 (λK hK=>?hsa2) AllReadyH.nil
 case hoa2=>(simp only[jb,Na,Oa];rfl)
 go_simp;go_at_call 179;refine(YG.out _ ky.out).mono ?_
 rintro e w6 ⟨rfl,hb6⟩
 have Ub:=aa (Ga (Below.refl w5.heap.size w5).drew hb6 Aa);clear hb6;try go_wp2_with fail
 refine hK.out _ _ (HS.out _ (Ub.out)) (λja=>?_);clear hK K;try simp only[Act.put,Bb,Ka,Ma]
 refine tk 5 ja ?_;refine wpAnyH_ready (rs:=[6]) (by kernel_rfl) (by simp) ?_;refine AllReadyH.cons (o:=?oa6) ?hoa6 (λK hK=>?hsa6) AllReadyH.nil
 case hoa6=>(simp only[jb,Na,Oa];rfl)
 go_simp;refine hK.out _ _ (HS.out _ (Ub.out.alloc Ub.out.size _)) (λja=>?_);clear hK K;try simp only[Act.put,Bb,Ka,Ma]
 refine tk 7 ja ?_;refine wpAnyH_done (by kernel_rfl) ?_ _;have Lf:=aa (ma.new w6 (Lg D id tot (slice none 0 0) 0 0 ⟨#[]⟩) 246);have Pe:=aa (Ub.out.alloc Ub.out.size (.cells (Lg D id tot (slice none 0 0) 0 0 ⟨#[]⟩).toArray 246));have HOW:=aa (Nat.le_trans Ez.out.size Ub.out.size);have Yn:=aa Ub.out.size;simp only[Lg]at Lf Pe;clear ja;generalize w6.alloc (.cells (List.toArray [pointer (some ⟨D,0,none⟩),string id,int i64 tot,slice none 0 0,int i64 0,int i64 0,string ⟨#[]⟩]) 246)=W7 at Lf Pe⊢;obtain⟨O,hO⟩:=Ca (w6.heap.size);rw[hO]at Lf HOW Yn⊢;clear hO
 obtain⟨F1,HD1,Ce,Cs,TL,gm⟩:∃F1,Hid (Fb lo D {st with term:=st.term+1} W7 F1)/\Hid (za F w W7)/\Hid (∀k,F1 k->F k\/w.heap.size<=k)/\Hid (∀k,F1 k->F k\/W4.heap.size<=k)/\Hid (¬F1 O):=by
  obtain⟨F1,a,b,c⟩:=Sz.out;refine⟨F1,a.below Pe.out,((za.of_below (F:=F) Zr.out).trans b (λi hi=>.inl hi)).after Pe.out,λk hk=>?_,c,λh=>by have:=(a.lt O h).2;have:=Yn.out;omega⟩;rcases c k hk with h|h
  ·exact .inl h
  ·exact .inr (Nat.le_trans Zr.out.size h)
 have Nq:=aa (QG.out W7 O F1 HD1.out Ce.out Cs.out HOW.out gm.out Lf.out);have RL:=aa (Rv.out.on Pe.out);have uy:=aa (Ck.out.on Pe.out);have Ls:=aa (Ep.out.on Pe.out);have XM:=aa (show W4.heap.size<=w5.heap.size by obtain⟨_,_,b,_⟩:=Sz.out;exact b.size);go_wp2_with fail;refine Nq.out.mono ?_
 rintro e w8 ⟨rfl,F2,hd2,hk2,hf2⟩
 have xD:=aa hd2;have jr:=aa (And.intro hk2 hf2);clear hd2 hk2 hf2;go_wp2;go_ret2;have z7:=Ce.out.size;refine⟨F2,rfl,xD.out,Ce.out.trans jr.out.1 (λi hi=>?_),λi hi=>?_⟩
 ·rcases hi with rfl|hi
  ·exact .inr HOW.out
  ·exact Cs.out i hi
 ·rcases jr.out.2 i hi with h|h
  ·exact Cs.out i h
  ·exact .inr (by omega)
end Go.Proofs.YtgaoeoijdpdjiabGreatDoor
