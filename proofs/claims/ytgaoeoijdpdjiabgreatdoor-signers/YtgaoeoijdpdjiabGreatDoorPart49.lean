import Derived.Test.YtgaoeoijdpdjiabGreatDoorPart47
import Derived.Test.YtgaoeoijdpdjiabGreatDoorPart44
import Derived.Test.YtgaoeoijdpdjiabGreatDoorPart48
open Go.Value (int string pointer slice)
open Go.IntKind (i64)
open Go.Proofs.Tryz
set_option maxRecDepth 20000
set_option maxHeartbeats 4000000
namespace Go.Proofs.YtgaoeoijdpdjiabGreatDoor
open Go.RowKit
theorem yN (m:Int)(w:World)(h:m<1\/64<m):Calls prog 115 #[int i64 m] w λe w'=>e=.returned (.bool false)/\Below w.heap.size w w':=by
 by_cases h1:1<=m
 ·have d1:decide (1<=m)=true:=decide_eq_true h1;have d2:decide (m<=64)=false:=decide_eq_false (by omega);clear h h1;go_enter func115,ntmps115;go_wp2;go_ret;exact⟨rfl,Vb⟩
 ·have d1:decide (1<=m)=false:=decide_eq_false h1;clear h h1;go_enter func115,ntmps115;go_wp2;go_ret;exact⟨rfl,Vb⟩
theorem J6 (k b x t l:Int)(sec rnd pub:ByteArray)(w:World)(hl:IntKind.i64.wrap (l-1)=l-1)(hN:∀V:World,Calls prog 208 #[.agg #[int i64 k,int i64 b,int i64 x,int i64 t,int i64 l],.agg #[string sec,string rnd,string pub],.agg #[int i64 (l-1),int i64 0,int i64 0,int i64 0]] V λe w'=>e=.returned (.tuple #[.agg #[int i64 0,int i64 0,int i64 0,int i64 0,int i64 0,string ⟨#[]⟩,string ⟨#[]⟩,string ⟨#[]⟩,int i64 0,int i64 0,int i64 0,int i64 0,int i64 0],int i64 2])/\Below V.heap.size V w'):Calls prog 178 #[.agg #[int i64 k,int i64 b,int i64 x,int i64 t,int i64 l],.agg #[string sec,string rnd,string pub]] w λe w'=>e=.returned (.tuple #[.agg #[int i64 0,int i64 0,int i64 0,int i64 0,int i64 0,string ⟨#[]⟩,string ⟨#[]⟩],int i64 2])/\Below w.heap.size w w':=by
 obtain⟨W0,hW⟩:=Ca (((w.alloc (.cells #[int i64 k,int i64 b,int i64 x,int i64 t,int i64 l] 26)).alloc (.cells #[string sec,string rnd,string pub] 42)).alloc (.cells #[int i64 0,int i64 0,int i64 0,int i64 0,int i64 0,string ⟨#[]⟩,string ⟨#[]⟩] 184));have HB0:=Bu hW;have h1:ma W0 w.heap.size [int i64 k,int i64 b,int i64 x,int i64 t,int i64 l] 26:=by subst hW;exact((ma.new w _ _).alloc _).alloc _
 have h2:ma W0 (w.heap.size+1) [string sec,string rnd,string pub] 42:=by
  subst hW;have h:=ma.new (w.alloc (.cells #[int i64 k,int i64 b,int i64 x,int i64 t,int i64 l] 26)) [string sec,string rnd,string pub] 42;simp only[World.size_alloc]at h;exact h.alloc _
 have h3:ma W0 (w.heap.size+1+1) [int i64 0,int i64 0,int i64 0,int i64 0,int i64 0,string ⟨#[]⟩,string ⟨#[]⟩] 184:=by
  subst hW;have h:=ma.new ((w.alloc (.cells #[int i64 k,int i64 b,int i64 x,int i64 t,int i64 l] 26)).alloc (.cells #[string sec,string rnd,string pub] 42)) [int i64 0,int i64 0,int i64 0,int i64 0,int i64 0,string ⟨#[]⟩,string ⟨#[]⟩] 184;simp only[World.size_alloc]at h;exact h
 have c0:=Fa h1;have c1:=Ja h1;have c2:=Ha h1;have c3:=Xa h1;have c4:=Ya h1;have c5:=Fa h2;have c6:=Ja h2;have c7:=Ha h2;have HN:=aa hN;have HK:=aa h3;have Ea:=aa hW;clear h1 h2 h3 hN hW;go_enter func178,ntmps178;go_upto_region 1 with fail;rw[Ea.out];clear Ea;go_wp2_with fail;refine(HN.out _).mono ?_
 rintro e w1 ⟨rfl,hb⟩
 have HB1:=aa (HB0.out.trans (hb.mono HB0.out.size));have Ce:=aa ((HK.out.on hb).alloc (.cells #[int i64 0,int i64 0,int i64 0,int i64 0,int i64 0,string ⟨#[]⟩,string ⟨#[]⟩,string ⟨#[]⟩,int i64 0,int i64 0,int i64 0,int i64 0,int i64 0] 274));have HB2:=aa (HB1.out.alloc HB1.out.size (.cells #[int i64 0,int i64 0,int i64 0,int i64 0,int i64 0,string ⟨#[]⟩,string ⟨#[]⟩,string ⟨#[]⟩,int i64 0,int i64 0,int i64 0,int i64 0,int i64 0] 274));clear hb c0 c1 c2 c3 c4 c5 c6 c7;obtain⟨W1,hW1⟩:=Ca (w1.alloc (.cells #[int i64 0,int i64 0,int i64 0,int i64 0,int i64 0,string ⟨#[]⟩,string ⟨#[]⟩,string ⟨#[]⟩,int i64 0,int i64 0,int i64 0,int i64 0,int i64 0] 274));rw[hW1]at Ce HB2;have Ea:=aa hW1;clear hW1;go_upto_region 2 with fail;rw[Ea.out];clear Ea;have k0:=Fa Ce.out;have f0:=Ce.out.free 0;have k1:=Ja Ce.out;have f1:=Ce.out.free 1;have k2:=Ha Ce.out;have f2:=Ce.out.free 2;have k3:=Xa Ce.out;have f3:=Ce.out.free 3;have k4:=Ya Ce.out;have f4:=Ce.out.free 4;have k5:=Ee Ce.out;have f5:=Ce.out.free 5;have k6:=jf Ce.out;have f6:=Ce.out.free 6;go_wp2_with fail;refine bodyPost_ret (v:=.tuple #[.agg #[int i64 0,int i64 0,int i64 0,int i64 0,int i64 0,string ⟨#[]⟩,string ⟨#[]⟩],int i64 2]) (by simp[results,results178,go_sem,k0,k1,k2,k3,k4,k5,k6]) rfl ?_;exact⟨rfl,(((((((HB2.out.setCell (p:=⟨w.heap.size+1+1,0,none⟩) (Nat.le_succ_of_le (Nat.le_succ _)) (int i64 0)).setCell (p:=⟨w.heap.size+1+1,1,none⟩) (Nat.le_succ_of_le (Nat.le_succ _)) (int i64 0)).setCell (p:=⟨w.heap.size+1+1,2,none⟩) (Nat.le_succ_of_le (Nat.le_succ _)) (int i64 0)).setCell (p:=⟨w.heap.size+1+1,3,none⟩) (Nat.le_succ_of_le (Nat.le_succ _)) (int i64 0)).setCell (p:=⟨w.heap.size+1+1,4,none⟩) (Nat.le_succ_of_le (Nat.le_succ _)) (int i64 0)).setCell (p:=⟨w.heap.size+1+1,5,none⟩) (Nat.le_succ_of_le (Nat.le_succ _)) (string ⟨#[]⟩)).setCell (p:=⟨w.heap.size+1+1,6,none⟩) (Nat.le_succ_of_le (Nat.le_succ _)) (string ⟨#[]⟩))⟩
theorem EN (dv:Option Addr)(k b x t l bat:Int)(sec rnd pub:ByteArray)(z0 z1 z2 z3 z4 z5:Int)(sv:Value)(w:World)(hM:∀V:World,Calls prog 155 #[.agg #[int i64 k,int i64 b,int i64 x,int i64 t,int i64 l]] V λe w'=>e=.returned (.tuple #[.agg #[int i64 z0,int i64 z1,int i64 z2,int i64 z3,int i64 z4,int i64 z5],int i64 1])/\Below V.heap.size V w'):Calls prog 106 #[pointer dv,.agg #[int i64 k,int i64 b,int i64 x,int i64 t,int i64 l],.agg #[string sec,string rnd,string pub],int i64 bat,sv] w λe w'=>e=.returned (.tuple #[pointer none,int i64 1])/\Below w.heap.size w w':=by
 obtain⟨W0,hW⟩:=Ca ((w.alloc (.cells #[int i64 k,int i64 b,int i64 x,int i64 t,int i64 l] 26)).alloc (.cells #[string sec,string rnd,string pub] 42));have HB0:=Gc hW;have h1:ma W0 w.heap.size [int i64 k,int i64 b,int i64 x,int i64 t,int i64 l] 26:=by subst hW;exact(ma.new w _ _).alloc _
 have h2:ma W0 (w.heap.size+1) [string sec,string rnd,string pub] 42:=by
  subst hW;have h:=ma.new (w.alloc (.cells #[int i64 k,int i64 b,int i64 x,int i64 t,int i64 l] 26)) [string sec,string rnd,string pub] 42;simp only[World.size_alloc]at h;exact h
 have c0:=Fa h1;have c1:=Ja h1;have c2:=Ha h1;have c3:=Xa h1;have c4:=Ya h1;have HM:=aa hM;have Sk:=aa (And.intro h1 h2);have Ea:=aa hW;clear h1 h2 hM hW;go_enter func106,ntmps106;go_upto_region 1 with fail;rw[Ea.out];clear Ea;go_wp2_with fail;refine(HM.out _).mono ?_
 rintro e w1 ⟨rfl,hb⟩
 have HB1:=aa (HB0.out.trans (hb.mono HB0.out.size));have MG:=aa (And.intro (Sk.out.1.on hb) (Sk.out.2.on hb));clear hb c0 c1 c2 c3 c4;go_wp2;go_ret2;exact⟨rfl,HB1.out.alloc HB1.out.size _⟩
theorem YW (k b x t l bat:Int)(sec rnd pub:ByteArray)(z0 z1 z2 z3 z4 z5:Int)(sv:Value)(w:World)(hM:∀V:World,Calls prog 155 #[.agg #[int i64 k,int i64 b,int i64 x,int i64 t,int i64 l]] V λe w'=>e=.returned (.tuple #[.agg #[int i64 z0,int i64 z1,int i64 z2,int i64 z3,int i64 z4,int i64 z5],int i64 0])/\Below V.heap.size V w'):Calls prog 106 #[pointer none,.agg #[int i64 k,int i64 b,int i64 x,int i64 t,int i64 l],.agg #[string sec,string rnd,string pub],int i64 bat,sv] w λe w'=>e=.returned (.tuple #[pointer none,int i64 2])/\Below w.heap.size w w':=by
 obtain⟨W0,hW⟩:=Ca ((w.alloc (.cells #[int i64 k,int i64 b,int i64 x,int i64 t,int i64 l] 26)).alloc (.cells #[string sec,string rnd,string pub] 42));have HB0:=Gc hW;have h1:ma W0 w.heap.size [int i64 k,int i64 b,int i64 x,int i64 t,int i64 l] 26:=by subst hW;exact(ma.new w _ _).alloc _
 have h2:ma W0 (w.heap.size+1) [string sec,string rnd,string pub] 42:=by
  subst hW;have h:=ma.new (w.alloc (.cells #[int i64 k,int i64 b,int i64 x,int i64 t,int i64 l] 26)) [string sec,string rnd,string pub] 42;simp only[World.size_alloc]at h;exact h
 have c0:=Fa h1;have c1:=Ja h1;have c2:=Ha h1;have c3:=Xa h1;have c4:=Ya h1;have HM:=aa hM;have Sk:=aa (And.intro h1 h2);have Ea:=aa hW;clear h1 h2 hM hW;go_enter func106,ntmps106;go_upto_region 1 with fail;rw[Ea.out];clear Ea;go_wp2_with fail;refine(HM.out _).mono ?_
 rintro e w1 ⟨rfl,hb⟩
 have HB1:=aa (HB0.out.trans (hb.mono HB0.out.size));clear hb c0 c1 c2 c3 c4;go_wp2;go_ret2;exact⟨rfl,HB1.out.alloc HB1.out.size _⟩
theorem XW (k b x t l bat:Int)(sec rnd pub:ByteArray)(z0 z1 z2 z3 z4 z5:Int)(sv:Value)(w:World)(D n cc:Nat)(a:Option Addr)(hD:D<w.heap.size)(hc:w.cell? ⟨D,0,none⟩=some (slice a n cc))(hn:n<2)(hM:∀V:World,Calls prog 155 #[.agg #[int i64 k,int i64 b,int i64 x,int i64 t,int i64 l]] V λe w'=>e=.returned (.tuple #[.agg #[int i64 z0,int i64 z1,int i64 z2,int i64 z3,int i64 z4,int i64 z5],int i64 0])/\Below V.heap.size V w'):Calls prog 106 #[pointer (some ⟨D,0,none⟩),.agg #[int i64 k,int i64 b,int i64 x,int i64 t,int i64 l],.agg #[string sec,string rnd,string pub],int i64 bat,sv] w λe w'=>e=.returned (.tuple #[pointer none,int i64 2])/\Below w.heap.size w w':=by
 have Sj:=aa (λ(V:World) (h:V.cell? ⟨D,0,none⟩=some (slice a n cc))=>QC D a n cc V h);have Qb:=aa (λ(V:World) (hb:Below w.heap.size w V)=>(hb.cell (p:=⟨D,0,none⟩) hD).trans hc);clear hD hc;have d1:decide ((n:Int)<2)=true:=decide_eq_true (by omega);have d2:(n:Int)<2:=by omega
 clear hn;obtain⟨W0,hW⟩:=Ca ((w.alloc (.cells #[int i64 k,int i64 b,int i64 x,int i64 t,int i64 l] 26)).alloc (.cells #[string sec,string rnd,string pub] 42));have HB0:=Gc hW;have h1:ma W0 w.heap.size [int i64 k,int i64 b,int i64 x,int i64 t,int i64 l] 26:=by subst hW;exact(ma.new w _ _).alloc _
 have h2:ma W0 (w.heap.size+1) [string sec,string rnd,string pub] 42:=by
  subst hW;have h:=ma.new (w.alloc (.cells #[int i64 k,int i64 b,int i64 x,int i64 t,int i64 l] 26)) [string sec,string rnd,string pub] 42;simp only[World.size_alloc]at h;exact h
 have c0:=Fa h1;have c1:=Ja h1;have c2:=Ha h1;have c3:=Xa h1;have c4:=Ya h1;have HM:=aa hM;have Ea:=aa hW;clear h1 h2 hM hW;go_enter func106,ntmps106;go_upto_region 1 with fail;rw[Ea.out];clear Ea;go_wp2_with fail;refine(HM.out _).mono ?_
 rintro e w1 ⟨rfl,hb⟩
 have HB1:=aa (HB0.out.trans (hb.mono HB0.out.size));clear hb c0 c1 c2 c3 c4;obtain⟨W1,hW1⟩:=Ca (w1.alloc (.cells #[int i64 z0,int i64 z1,int i64 z2,int i64 z3,int i64 z4,int i64 z5] 158));have HB2:=aa (show Below w.heap.size w W1 by rw[<-hW1];exact HB1.out.alloc HB1.out.size _);go_upto_region 2 with fail
 (try rw[hW1])
 clear hW1;go_wp2_with fail;refine(Sj.out _ (Qb.out _ HB2.out)).mono ?_
 rintro e w2 ⟨rfl,hb2⟩
 have HB3:=aa (HB2.out.trans (hb2.mono HB2.out.size));clear hb2;go_wp2;go_ret2;exact⟨rfl,HB3.out⟩
theorem WW (k b x t l bat:Int)(sec rnd pub:ByteArray)(z0 z1 z2 z3 z4 z5:Int)(sv:Value)(w:World)(D n cc:Nat)(a:Option Addr)(hD:D<w.heap.size)(hc:w.cell? ⟨D,0,none⟩=some (slice a n cc))(hn:2<=n)(hb:bat<1\/64<bat)(hM:∀V:World,Calls prog 155 #[.agg #[int i64 k,int i64 b,int i64 x,int i64 t,int i64 l]] V λe w'=>e=.returned (.tuple #[.agg #[int i64 z0,int i64 z1,int i64 z2,int i64 z3,int i64 z4,int i64 z5],int i64 0])/\Below V.heap.size V w'):Calls prog 106 #[pointer (some ⟨D,0,none⟩),.agg #[int i64 k,int i64 b,int i64 x,int i64 t,int i64 l],.agg #[string sec,string rnd,string pub],int i64 bat,sv] w λe w'=>e=.returned (.tuple #[pointer none,int i64 2])/\Below w.heap.size w w':=by
 have Sj:=aa (λ(V:World) (h:V.cell? ⟨D,0,none⟩=some (slice a n cc))=>QC D a n cc V h);have Qb:=aa (λ(V:World) (hb:Below w.heap.size w V)=>(hb.cell (p:=⟨D,0,none⟩) hD).trans hc);clear hD hc;have d1:decide ((n:Int)<2)=false:=decide_eq_false (by omega);have d2:¬(n:Int)<2:=by omega
 have Ki:=aa (λV:World=>yN bat V hb);clear hn hb;obtain⟨W0,hW⟩:=Ca ((w.alloc (.cells #[int i64 k,int i64 b,int i64 x,int i64 t,int i64 l] 26)).alloc (.cells #[string sec,string rnd,string pub] 42));have HB0:=Gc hW;have h1:ma W0 w.heap.size [int i64 k,int i64 b,int i64 x,int i64 t,int i64 l] 26:=by subst hW;exact(ma.new w _ _).alloc _
 have h2:ma W0 (w.heap.size+1) [string sec,string rnd,string pub] 42:=by
  subst hW;have h:=ma.new (w.alloc (.cells #[int i64 k,int i64 b,int i64 x,int i64 t,int i64 l] 26)) [string sec,string rnd,string pub] 42;simp only[World.size_alloc]at h;exact h
 have c0:=Fa h1;have c1:=Ja h1;have c2:=Ha h1;have c3:=Xa h1;have c4:=Ya h1;have HM:=aa hM;have Ea:=aa hW;clear h1 h2 hM hW;go_enter func106,ntmps106;go_upto_region 1 with fail;rw[Ea.out];clear Ea;go_wp2_with fail;refine(HM.out _).mono ?_
 rintro e w1 ⟨rfl,hb⟩
 have HB1:=aa (HB0.out.trans (hb.mono HB0.out.size));clear hb c0 c1 c2 c3 c4;obtain⟨W1,hW1⟩:=Ca (w1.alloc (.cells #[int i64 z0,int i64 z1,int i64 z2,int i64 z3,int i64 z4,int i64 z5] 158));have HB2:=aa (show Below w.heap.size w W1 by rw[<-hW1];exact HB1.out.alloc HB1.out.size _);go_upto_region 2 with fail
 (try rw[hW1])
 clear hW1;go_wp2_with fail;refine(Sj.out _ (Qb.out _ HB2.out)).mono ?_
 rintro e w2 ⟨rfl,hb2⟩
 have HB3:=aa (HB2.out.trans (hb2.mono HB2.out.size));clear hb2;go_wp2_with fail;refine(Ki.out _).mono ?_
 rintro e w3 ⟨rfl,hb3⟩
 have Db:=aa (HB3.out.trans (hb3.mono HB3.out.size));clear hb3;go_wp2;go_ret2;exact⟨rfl,Db.out⟩
theorem aX (k b x t l bat:Int)(sec rnd pub:ByteArray)(z0 z1 z2 z3 z4 z5:Int)(sv:Value)(w:World)(D n cc:Nat)(a:Option Addr)(hD:D<w.heap.size)(hc:w.cell? ⟨D,0,none⟩=some (slice a n cc))(hn:2<=n)(hb1:1<=bat)(hb2:bat<=64)(ll:∀V:World,Calls prog 178 #[.agg #[int i64 k,int i64 b,int i64 x,int i64 t,int i64 l],.agg #[string sec,string rnd,string pub]] V λe w'=>e=.returned (.tuple #[.agg #[int i64 0,int i64 0,int i64 0,int i64 0,int i64 0,string ⟨#[]⟩,string ⟨#[]⟩],int i64 2])/\Below V.heap.size V w')(hM:∀V:World,Calls prog 155 #[.agg #[int i64 k,int i64 b,int i64 x,int i64 t,int i64 l]] V λe w'=>e=.returned (.tuple #[.agg #[int i64 z0,int i64 z1,int i64 z2,int i64 z3,int i64 z4,int i64 z5],int i64 0])/\Below V.heap.size V w'):Calls prog 106 #[pointer (some ⟨D,0,none⟩),.agg #[int i64 k,int i64 b,int i64 x,int i64 t,int i64 l],.agg #[string sec,string rnd,string pub],int i64 bat,sv] w λe w'=>e=.returned (.tuple #[pointer none,int i64 2])/\Below w.heap.size w w':=by
 have Sj:=aa (λ(V:World) (h:V.cell? ⟨D,0,none⟩=some (slice a n cc))=>QC D a n cc V h);have Qb:=aa (λ(V:World) (hb:Below w.heap.size w V)=>(hb.cell (p:=⟨D,0,none⟩) hD).trans hc);clear hD hc;have d1:decide ((n:Int)<2)=false:=decide_eq_false (by omega);have d2:¬(n:Int)<2:=by omega
 have Ki:=aa (λV:World=>zw bat V hb1 hb2);have Qm:=aa ll;clear hn hb1 hb2 ll;obtain⟨W0,hW⟩:=Ca ((w.alloc (.cells #[int i64 k,int i64 b,int i64 x,int i64 t,int i64 l] 26)).alloc (.cells #[string sec,string rnd,string pub] 42));have HB0:=Gc hW;have h1:ma W0 w.heap.size [int i64 k,int i64 b,int i64 x,int i64 t,int i64 l] 26:=by subst hW;exact(ma.new w _ _).alloc _
 have h2:ma W0 (w.heap.size+1) [string sec,string rnd,string pub] 42:=by
  subst hW;have h:=ma.new (w.alloc (.cells #[int i64 k,int i64 b,int i64 x,int i64 t,int i64 l] 26)) [string sec,string rnd,string pub] 42;simp only[World.size_alloc]at h;exact h
 have c0:=Fa h1;have c1:=Ja h1;have c2:=Ha h1;have c3:=Xa h1;have c4:=Ya h1;have HM:=aa hM;have Sk:=aa (And.intro h1 h2);have Ea:=aa hW;clear h1 h2 hM hW;go_enter func106,ntmps106;go_upto_region 1 with fail;rw[Ea.out];clear Ea;go_wp2_with fail;refine(HM.out _).mono ?_
 rintro e w1 ⟨rfl,hb⟩
 have HB1:=aa (HB0.out.trans (hb.mono HB0.out.size));have MG:=aa (And.intro (Sk.out.1.on hb) (Sk.out.2.on hb));clear hb c0 c1 c2 c3 c4;obtain⟨W1,hW1⟩:=Ca (w1.alloc (.cells #[int i64 z0,int i64 z1,int i64 z2,int i64 z3,int i64 z4,int i64 z5] 158));have HB2:=aa (show Below w.heap.size w W1 by rw[<-hW1];exact HB1.out.alloc HB1.out.size _);have HA1:=Xd hW1;go_upto_region 2 with fail
 (try rw[hW1])
 clear hW1;go_wp2_with fail;refine(Sj.out _ (Qb.out _ HB2.out)).mono ?_
 rintro e w2 ⟨rfl,hb2⟩
 have HB3:=aa (HB2.out.trans (hb2.mono HB2.out.size));have EL:=aa (And.intro ((MG.out.1.on HA1.out).on hb2) ((MG.out.2.on HA1.out).on hb2));clear hb2;go_wp2_with fail;refine(Ki.out _).mono ?_
 rintro e w3 ⟨rfl,hb3⟩
 have Db:=aa (HB3.out.trans (hb3.mono HB3.out.size));have h1:=EL.out.1.on hb3;have h2:=EL.out.2.on hb3;clear hb3;have c0:=Fa h1;have c1:=Ja h1;have c2:=Ha h1;have c3:=Xa h1;have c4:=Ya h1;have c5:=Fa h2;have c6:=Ja h2;have c7:=Ha h2;clear h1 h2;go_wp2_with fail;refine(Qm.out _).mono ?_
 rintro e w4 ⟨rfl,hb4⟩
 have je:=aa (Db.out.trans (hb4.mono Db.out.size));clear hb4;go_wp2;go_ret2;exact⟨rfl,je.out.alloc je.out.size _⟩
theorem He0 (lo S D:Nat)(st:Da)(F:Nat->Prop)(tm k b x t l:Int)(root pub sec rnd:ByteArray)(tot bat nx q bd:Int)(id:ByteArray)(m:Int)(w:World)(hB:ma w S (Zb D tm k b x t l root pub sec rnd tot bat nx q bd id false) 188)(hD:Fb lo D st w F)(_hSF:¬F S)(jc:st.term=tm)(h1:1<=m)(h2:m<=64)(hsp:bd≠tot)(hq:q=2147483647):Calls prog 72 #[pointer (some ⟨S,0,none⟩),int i64 m] w λe w'=>e=.returned (.tuple #[int i64 0,int i64 10])/\Below w.heap.size w w':=by
 have ze:=hB.lt;have qb:=aa (Ko S D tm w ze hD.ltD (hB.cell 0) (hB.cell 1) (hB.cell 18) (by rw[<-jc];exact hD.term));have Ki:=aa (λV:World=>zw m V h1 h2);have e1:(bd==tot)=false:=by simpa using hsp
 have e2:(q==2147483647)=true:=by simpa using hq
 have HS:=aa (λ(V:World) (h:Below w.heap.size w V)=>(have q1:=hB.on h;Uw (Bh q1) (pg q1) (ag q1)));clear hB hD _hSF jc h1 h2 hsp hq;go_enter func72,ntmps72;go_wp2_with fail;refine qb.out.mono ?_
 rintro e w1 ⟨rfl,hb1⟩
 have HB1:=aa hb1;clear hb1;go_wp2_with fail;refine(Ki.out _).mono ?_
 rintro e w2 ⟨rfl,hb2⟩
 have HB2:=aa (Ga HB1.out hb2 Aa);clear hb2;go_wp2_with fail;refine wp_region_held_drew (S:=λV=>V.cell? ⟨S,12,none⟩=some (int i64 tot)/\V.cell? ⟨S,15,none⟩=some (int i64 q)/\V.cell? ⟨S,16,none⟩=some (int i64 bd)) (by kernel_rfl) (HS.out _ (HB2.out.drew)) (λja=>?_);refine tk 0 ja ?_;refine tk 1 ja ?_;refine tk 2 ja ?_;refine tk 3 ja ?_;refine tk 4 ja ?_;refine tk 5 ja ?_;refine tk 6 ja ?_;refine tk 7 ja ?_;refine tk 8 ja ?_;refine tk 9 ja ?_;refine tk 10 ja ?_;refine tk 11 ja ?_;refine tk 12 ja ?_;refine tk 13 ja ?_;refine tk 14 ja ?_;refine tk 15 ja ?_;refine tk 16 ja ?_;refine tk 17 ja ?_;refine wpAnyH_done (by kernel_rfl) ?_ _;have HB3:=aa HB2.out.drew;go_wp2;go_ret2;exact⟨rfl,HB3.out⟩
theorem Ee0 (lo S D:Nat)(st:Da)(F:Nat->Prop)(tm k b x t l:Int)(root pub sec rnd:ByteArray)(tot bat nx q bd:Int)(id:ByteArray)(m:Int)(w:World)(hB:ma w S (Zb D tm k b x t l root pub sec rnd tot bat nx q bd id false) 188)(hD:Fb lo D st w F)(_hSF:¬F S)(jc:st.term=tm)(hm:m<1\/64<m):Calls prog 72 #[pointer (some ⟨S,0,none⟩),int i64 m] w λe w'=>e=.returned (.tuple #[int i64 0,int i64 2])/\Below w.heap.size w w':=by
 have ze:=hB.lt;have qb:=aa (Ko S D tm w ze hD.ltD (hB.cell 0) (hB.cell 1) (hB.cell 18) (by rw[<-jc];exact hD.term));have Ki:=aa (λV:World=>yN m V hm);clear hB hD _hSF jc hm;go_enter func72,ntmps72;go_wp2_with fail;refine qb.out.mono ?_
 rintro e w1 ⟨rfl,hb1⟩
 have HB1:=aa hb1;clear hb1;go_wp2_with fail;refine(Ki.out _).mono ?_
 rintro e w2 ⟨rfl,hb2⟩
 have HB2:=aa (Ga HB1.out hb2 Aa);clear hb2;go_wp2;go_ret2;exact⟨rfl,HB2.out⟩
theorem cb0 (lo S D:Nat)(st:Da)(F:Nat->Prop)(tm k b x t l:Int)(root pub sec rnd:ByteArray)(tot bat nx:Int)(qn:Nat)(bd:Int)(id:ByteArray)(m nb c:Int)(w:World)(hB:ma w S (Zb D tm k b x t l root pub sec rnd tot bat nx qn bd id false) 188)(hD:Fb lo D st w F)(Bg:¬F S)(hlo:lo<=w.heap.size)(hw:0<=st.writes)(hw2:st.writes<9223372036854775806)(hy:0<=st.syncs)(hy2:st.syncs<9223372036854775807)(hR:Oh ((qn+1:Nat):Int) nb id)(hm:0<=bd+m/\bd+m<=100000)(hnb:nb=if tot<bd+m then tot else bd+m)(hc:c=ql st (qn+1) (Ua ((qn+1:Nat):Int) nb id)):Calls prog 116 #[pointer (some ⟨S,0,none⟩),int i64 m] w λe w'=>e=.returned (int i64 c)/\(c=0->ng lo S D (Ff st (qn+1) (Ua ((qn+1:Nat):Int) nb id)) (Zb D tm k b x t l root pub sec rnd tot bat nx ((qn+1:Nat):Int) nb id false) F w w')/\(c≠0->ng lo S D (Ff st (qn+1) (Ua ((qn+1:Nat):Int) nb id)) (Zb D tm k b x t l root pub sec rnd tot bat nx qn bd id true) F w w'):=by
 have hq2:Int.tmod ((qn:Int)+1) 2=(((qn+1)% 2:Nat):Int):=eU (qn+1);have hv2:IntKind.i64.wrap (((qn+1)% 2:Nat):Int)=(((qn+1)% 2:Nat):Int):=by rw[IntKind.wrap_i64]<;>omega
 have iQ:=hR.2.1;have hq:IntKind.i64.wrap ((qn:Int)+1)=(qn:Int)+1:=by rw[IntKind.wrap_i64]<;>omega
 have Mt:IntKind.i64.wrap (bd+m)=bd+m:=by rw[IntKind.wrap_i64]<;>omega
 have hys:=iD st (((qn+1)% 2:Nat):Int) (Ua ((qn+1:Nat):Int) nb id);by_cases h1:Kc st (((qn+1)% 2:Nat):Int) (Ua ((qn+1:Nat):Int) nb id)=0
 ·have e1:ql st (qn+1) (Ua ((qn+1:Nat):Int) nb id)=Qc (Jb st (((qn+1)% 2:Nat):Int) (Ua ((qn+1:Nat):Int) nb id)):=if_neg (λe=>e h1);have e2:Ff st (qn+1) (Ua ((qn+1:Nat):Int) nb id)=Cb (Jb st (((qn+1)% 2:Nat):Int) (Ua ((qn+1:Nat):Int) nb id)):=if_neg (λe=>e h1);rw[e2];rw[e1]at hc;by_cases h2:c=0
  ·refine(Ub0 lo S D st F tm k b x t l root pub sec rnd tot bat nx qn bd id false m _ nb w hB hD Bg hlo hw hw2 hy hy2 hR hq2 hv2 hq Mt hnb.symm h1 hys (hc.symm.trans h2)).mono ?_
   rintro e w' ⟨rfl,k1,k2⟩
   exact⟨by rw[h2],λ_=>⟨k1,k2⟩,λe=>absurd h2 e⟩
  ·refine(Tb0 lo S D st F tm k b x t l root pub sec rnd tot bat nx qn bd id false m _ nb c w h2 hB hD Bg hlo hw hw2 hy hy2 hR hq2 hv2 hq Mt hnb.symm h1 hys hc.symm).mono ?_
   rintro e w' ⟨rfl,k1,k2⟩
   exact⟨rfl,λe=>absurd e h2,λ_=>⟨k1,k2⟩⟩
 ·have e1:ql st (qn+1) (Ua ((qn+1:Nat):Int) nb id)=Kc st (((qn+1)% 2:Nat):Int) (Ua ((qn+1:Nat):Int) nb id):=if_pos h1;have e2:Ff st (qn+1) (Ua ((qn+1:Nat):Int) nb id)=Jb st (((qn+1)% 2:Nat):Int) (Ua ((qn+1:Nat):Int) nb id):=if_pos h1;rw[e2];rw[e1]at hc;have h2:c≠0:=by rw[hc];exact h1
  refine(Sb0 lo S D st F tm k b x t l root pub sec rnd tot bat nx qn bd id false m _ nb c w h2 hB hD Bg hlo hw hw2 hR hq2 hv2 hq Mt hnb.symm hc.symm).mono ?_
  rintro e w' ⟨rfl,k1,k2⟩
  exact⟨rfl,λe=>absurd e h2,λ_=>⟨k1,k2⟩⟩
theorem Ve0 (S D:Nat)(tm k b x t l:Int)(root pub sec rnd:ByteArray)(tot bat nx q bd:Int)(id:ByteArray)(ov:Bool)(Bl:Int)(w:World)(hB:ma w S (Zb D tm k b x t l root pub sec rnd tot bat nx q bd id ov) 188)(hD:D<w.heap.size)(h5:w.cell? ⟨D,5,none⟩=some (int i64 Bl))(ho:ov=true\/tm≠Bl):Calls prog 71 #[pointer (some ⟨S,0,none⟩)] w λe w'=>e=.returned (.agg #[int i64 nx,int i64 bd,int i64 q,.bool true])/\Below w.heap.size w w':=by
 obtain⟨W0,hW⟩:=Ca (w.alloc (.cells #[int i64 0,int i64 0,int i64 0,.bool false] 79));have HB:=Xd hW;have rf:=aa (hB.on HB.out);have hz:w.heap.size<W0.heap.size:=by subst hW;simp
 have HK:=Ph hW
 have HO:=aa (λ(V:World) (h:Below W0.heap.size W0 V)=>(by
  have q:=rf.out.on h;exact OJ S D tm Bl ov V q.lt (Nat.lt_of_lt_of_le hD (Nat.le_trans HB.out.size h.size)) (q.cell 0) (q.cell 1) (q.cell 18) ((h.cell (p:=⟨D,5,none⟩) (Nat.lt_of_lt_of_le hD HB.out.size)).trans ((HB.out.cell (p:=⟨D,5,none⟩) hD).trans h5)) ho:Calls prog 114 #[pointer (some ⟨S,0,none⟩)] V λe w'=>e=.returned (.bool true)/\Below V.heap.size V w'))
 have Vd:=aa hB.lt;have qc:=aa (λ(V:World) (h:Below w.heap.size W0 V)=>(have q1:=rf.out.below h Vd.out;Uw (Aj q1) (pg q1) (ag q1)));have HS:=aa (λ(V:World) (h:Below W0.heap.size W0 V)=>qc.out V (h.mono HB.out.size));have Ea:=aa hW;have HZ:=aa hz;clear hW hB hD h5 hz ho;go_enter func71,ntmps71;go_wp2_with fail;rw[Ea.out];refine wp_region_held_drew (S:=λV=>V.cell? ⟨S,14,none⟩=some (int i64 nx)/\V.cell? ⟨S,15,none⟩=some (int i64 q)/\V.cell? ⟨S,16,none⟩=some (int i64 bd)) (by kernel_rfl) (HS.out _ ((Below.refl W0.heap.size W0).drew)) (λja=>?_);refine tk 0 ja ?_;refine tk 1 ja ?_;refine tk 2 ja ?_;refine tk 3 ja ?_;refine tk 4 ja ?_;refine tk 5 ja ?_;refine tk 6 ja ?_;refine tk 7 ja ?_;refine tk 8 ja ?_;refine tk 9 ja ?_;refine tk 10 ja ?_;refine tk 11 ja ?_;refine tk 12 ja ?_;refine tk 13 ja ?_;refine tk 14 ja ?_;refine wpAnyH_ready (rs:=[15]) (by kernel_rfl) (by simp) ?_;refine AllReadyH.cons (o:=?oa15) ?hoa15 (λK hK=>?hsa15) AllReadyH.nil
 case hoa15=>(simp only[jb,Na,Oa];rfl)
 go_simp;go_at_call 114;refine(HO.out _ (Below.refl W0.heap.size W0).drew).mono ?_
 rintro e w4 ⟨rfl,hb4⟩
 have Db:=aa (Ga (Below.refl W0.heap.size W0).drew hb4 Aa);have Rb:=aa (HK.out.on Db.out);clear hb4;try go_wp2_with fail
 refine hK.out _ _ (HS.out _ (Db.out)) (λja=>?_);clear hK K;try simp only[Act.put,Bb,Ka,Ma]
 refine tk 16 ja ?_;have r0:=Rb.out.cell 0;have f0:=Rb.out.free 0;have r1:=Rb.out.cell 1;have f1:=Rb.out.free 1;have r2:=Rb.out.cell 2;have f2:=Rb.out.free 2;have r3:=Rb.out.cell 3;have f3:=Rb.out.free 3;simp only[Oa,Na]at r0 r1 r2 r3;refine wpAnyH_ready (rs:=[17]) (by kernel_rfl) (by simp) ?_;refine AllReadyH.cons (o:=?oa17) ?hoa17 (λK hK=>?hsa17) AllReadyH.nil
 case hoa17=>(simp only[jb,Na,Oa];rfl)
 go_simp;refine hK.out _ _ (qc.out _ (((((Db.out.mono (Nat.le_of_lt HZ.out)).setCell (p:=⟨w.heap.size,0,none⟩) Aa _).setCell (p:=⟨w.heap.size,1,none⟩) Aa _).setCell (p:=⟨w.heap.size,2,none⟩) Aa _).setCell (p:=⟨w.heap.size,3,none⟩) Aa _)) (λja=>?_);clear hK K;try simp only[Act.put,Bb,Ka,Ma]
 refine wpAnyH_done (by kernel_rfl) ?_ _;have aj:=aa ((((Rb.out.set 0 (int i64 nx)).set 1 (int i64 bd)).set 2 (int i64 q)).set 3 (.bool true));have v0:=aj.out.cell 0;have v1:=aj.out.cell 1;have v2:=aj.out.cell 2;have v3:=aj.out.cell 3;have Td:=aa (HB.out.trans (((((Db.out.mono (Nat.le_of_lt HZ.out)).setCell (p:=⟨w.heap.size,0,none⟩) Aa (int i64 nx)).setCell (p:=⟨w.heap.size,1,none⟩) Aa (int i64 bd)).setCell (p:=⟨w.heap.size,2,none⟩) Aa (int i64 q)).setCell (p:=⟨w.heap.size,3,none⟩) Aa (.bool true)));clear r0 r1 r2 r3 f0 f1 f2 f3 ja;generalize(((w4.setCell ⟨w.heap.size,0,none⟩ (int i64 nx)).setCell ⟨w.heap.size,1,none⟩ (int i64 bd)).setCell ⟨w.heap.size,2,none⟩ (int i64 q)).setCell ⟨w.heap.size,3,none⟩ (.bool true)=W9 at v0 v1 v2 v3 Td⊢;simp only[Oa,Na,Ka,Ma]at v0 v1 v2 v3;go_wp2;refine bodyPost_ret (v:=.agg #[int i64 nx,int i64 bd,int i64 q,.bool true]) (by simp[results,results71,go_sem,v0,v1,v2,v3]) rfl ⟨rfl,?_⟩;exact Td.out
theorem Ud0 (G S:Nat)(nx bd q:Int)(w:World)(hG:ma w G [pointer (some ⟨S,0,none⟩)] 142)
  (h:∀V:World,Below w.heap.size w V->Calls prog 71 #[pointer (some ⟨S,0,none⟩)] V λe w'=>e=.returned (.agg #[int i64 nx,int i64 bd,int i64 q,.bool true])/\Below V.heap.size V w'):Calls prog 30 #[pointer (some ⟨G,0,none⟩)] w λe w'=>e=.returned (.agg #[int i64 nx,int i64 bd,int i64 q,.bool true])/\Below w.heap.size w w':=by
 obtain⟨W0,hW⟩:=Ca (w.alloc (.cells #[int i64 0,int i64 0,int i64 0,.bool false] 79));have HB:=Xd hW;have HK:=Ph hW;have H:=aa (h W0 HB.out);have c0:=Fa ((hG.on HB.out));have c0':(w.alloc (.cells #[int i64 0,int i64 0,int i64 0,.bool false] 79)).cell? ⟨G,0,none⟩=some (pointer (some ⟨S,0,none⟩)):=by rw[hW];exact c0
 have HZ:=aa (show w.heap.size<W0.heap.size by subst hW;simp);have Ea:=aa hW;clear h hG hW c0;go_enter func30,ntmps30;go_wp2_with fail;rw[Ea.out];refine H.out.mono ?_
 rintro e w4 ⟨rfl,hb4⟩
 have Rb:=aa (HK.out.on hb4);have Db:=aa hb4;have r0:=Fa Rb.out;have r1:=Ja Rb.out;have r2:=Ha Rb.out;have r3:=Xa Rb.out;have f0:=Rb.out.free 0;have f1:=Rb.out.free 1;have f2:=Rb.out.free 2;have f3:=Rb.out.free 3;clear hb4 c0';go_wp2;have aj:=aa ((((Rb.out.set 0 (int i64 nx)).set 1 (int i64 bd)).set 2 (int i64 q)).set 3 (.bool true));have v0:=aj.out.cell 0;have v1:=aj.out.cell 1;have v2:=aj.out.cell 2;have v3:=aj.out.cell 3;have Td:=aa (HB.out.trans (((((Db.out.mono (Nat.le_of_lt HZ.out)).setCell (p:=⟨w.heap.size,0,none⟩) Aa (int i64 nx)).setCell (p:=⟨w.heap.size,1,none⟩) Aa (int i64 bd)).setCell (p:=⟨w.heap.size,2,none⟩) Aa (int i64 q)).setCell (p:=⟨w.heap.size,3,none⟩) Aa (.bool true)));clear r0 r1 r2 r3 f0 f1 f2 f3;generalize(((w4.setCell ⟨w.heap.size,0,none⟩ (int i64 nx)).setCell ⟨w.heap.size,1,none⟩ (int i64 bd)).setCell ⟨w.heap.size,2,none⟩ (int i64 q)).setCell ⟨w.heap.size,3,none⟩ (.bool true)=W9 at v0 v1 v2 v3 Td⊢;simp only[Oa,Na,Ka,Ma]at v0 v1 v2 v3;refine bodyPost_ret (v:=.agg #[int i64 nx,int i64 bd,int i64 q,.bool true]) (by simp[results,results30,go_sem,v0,v1,v2,v3]) rfl ⟨rfl,?_⟩;exact Td.out
theorem Z4:(prog.info? 186).map (λi=>(i.zero,i.size,i.bytes))=some (some (.agg #[int i64 0,int i64 0,string ⟨#[]⟩]),3,32):=by kernel_rfl
theorem ya0 (Q:World->Prop)(lo O D n c:Nat)(a:Option Addr)(i tot lq lb:Int)(s id ld:ByteArray)(xs:List Value)(w:World)(h0:w.cell? ⟨O,0,none⟩=some (pointer (some ⟨D,0,none⟩)))(hs:Le s=true)(hn:n<=100)(hno:(slice a n c).ownBlock≠some O)
  (hQ:∀V,Q V->ma V O (Lg D id tot (slice a n c) lq lb ld) 246/\V.ownsRow lo 186 3 (slice a n c) n xs/\lo<=V.heap.size)
  (hR:Calls prog 103 #[pointer (some ⟨D,0,none⟩),int i64 i] w λe w'=>e=.returned (.tuple #[string s,int i64 0])/\Q w'):Calls prog 182 #[pointer (some ⟨O,0,none⟩),int i64 i] w λe w'=>e=.returned (int i64 0)/\∃V g cap,Q V/\w'.ownsRow lo 186 3 (slice (some ⟨g,0,none⟩) (n+1) cap) (n+1) (xs++[int i64 (Hg s),int i64 (qg s),string (Qd s)])/\ma w' O (Lg D id tot (slice (some ⟨g,0,none⟩) (n+1) cap) lq lb ld) 246/\za (λk=>k=O\/(slice a n c).ownBlock=some k) V w'/\((slice a n c).ownBlock=some g\/V.heap.size<=g):=by
 have HR:=aa hR;have HU:=aa (λV:World=>kU s V);rw[bL hs]at HU;have HQ:=aa hQ;have gm:=aa hno;obtain⟨i0,hi0,hz0,hz1,hz2⟩:=info_parts Z4;generalize Hg s=rq at HU⊢;generalize qg s=rb at HU⊢;generalize Qd s=rd at HU⊢;clear hR hs hQ hno;go_enter func182,ntmps182;go_wp2_with fail;refine HR.out.mono ?_
 rintro e w1 ⟨rfl,hq1⟩
 have Ef:=aa hq1;clear hq1;go_wp2_with fail;refine(HU.out _).mono ?_
 rintro e w2 ⟨rfl,hb2⟩
 obtain⟨W2,hW2⟩:=Ca (w2.alloc (.cells #[int i64 rq,int i64 rb,string rd] 186));obtain⟨RB,Hr⟩:=Ca (w2.heap.size);have HB2:=aa (show Below w1.heap.size w1 W2 by rw[<-hW2];exact hb2.alloc hb2.size _);have Rm:=aa (show ma W2 RB [int i64 rq,int i64 rb,string rd] 186 by rw[<-hW2,<-Hr];exact ma.new w2 _ _);have Lc:=aa ((HQ.out _ Ef.out).1.on HB2.out);have HW2:=aa (show W2.ownsRow lo 186 3 (slice a n c) n xs from xc (HQ.out _ Ef.out).2.1 (za.of_below (F:=λ_=>False) HB2.out) (λ_ _ h=>h));have yh:=aa (Nat.le_trans (HQ.out _ Ef.out).2.2 HB2.out.size);have Ea:=aa hW2;have qm:=aa Hr;clear hb2 hW2 Hr h0;go_wp2_with fail;rw[Ea.out,qm.out];have VI:=Lc.out.lt;have jm:=aa VI;have c3:W2.drew.cell? ⟨O,3,none⟩=some (slice a n c):=Lc.out.cell 3;have r0:W2.drew.cell? ⟨RB,0,none⟩=some (int i64 rq):=Rm.out.cell 0;have r1:W2.drew.cell? ⟨RB,1,none⟩=some (int i64 rb):=Rm.out.cell 1;have r2:W2.drew.cell? ⟨RB,2,none⟩=some (string rd):=Rm.out.cell 2;have c3':∀o,(W2.alloc o).cell? ⟨O,3,none⟩=some (slice a n c):=λo=>(World.cell?_alloc_lt _ _ _ VI).trans (Lc.out.cell 3);have N1:Hid (n+1<=maxLen):=by show _<=_;unfold maxLen;omega
 have N2:Hid ((n+1)*32<=140737488355328):=by show _<=_;omega
 have N3:Hid (∀o,lo<=(W2.alloc o).drew.heap.size):=λo=>by have h:=yh.out;show lo<=(W2.alloc o).heap.size;rw[World.size_alloc];exact Nat.le_succ_of_le h
 have N4:Hid (∀o,(W2.alloc o).drew.heap.size=W2.heap.size+1):=λo=>by show(W2.alloc o).heap.size=_;rw[World.size_alloc]
 have N5:Hid (∀o,O<(W2.alloc o).drew.heap.size):=λo=>by show O<(W2.alloc o).heap.size;rw[World.size_alloc];exact Nat.lt_succ_of_lt jm.out
 have N6:Hid (∀o,(W2.alloc o).drew.frozen? ⟨O,3,none⟩=false):=λo=>(World.frozen?_alloc_past (w:=W2) o O 3 jm.out).trans (Lc.out.free 3);have N8:Hid (∀u∈[int i64 rq,int i64 rb,string rd],u.oneCell'=true):=by intro u hu;simp at hu;rcases hu with rfl|rfl|rfl<;>rfl
 have ZH:Hid (∀o,(W2.alloc o).drew.ownsRow lo 186 3 (slice a n c) n xs):=λo=>HW2.out.alloc o;have Uq:Hid (∀j u,[int i64 rq,int i64 rb,string rd][j]?=some u->(W2.alloc (.cells (List.toArray [int i64 rq,int i64 rb,string rd]) 186)).drew.cell? ((⟨W2.heap.size,0,none⟩:Addr).add j)=some u):=World.news_of_block (heap_alloc_new W2 _);clear VI;go_region_law ((refine step_append_lies _ (by rfl) (.tmp 32) (.tmp 34) 244 (by rfl) lo 186 i0 (.agg #[int i64 0,int i64 0,string ⟨#[]⟩]) 3 32 underlying244 hi0 hz0 hz1 hz2 (by rfl) (by decide) (slice a n c) n xs (by rfl) (ZH.out _) ⟨W2.heap.size,0,none⟩ 1 1 [int i64 rq,int i64 rb,string rd] (by rfl) (by rfl) Uq.out N8.out (by decide) N1.out N2.out (N3.out _) (W2.heap.size+1) (N4.out _) ?_;intro g cap' w3 hown hgrow hat hlt;have e1:w3.cell? ⟨O,3,none⟩=some (slice a n c):=(hgrow.cell_far ⟨O,3,none⟩ (N5.out _) (λe=>gm.out e.symm)).trans (c3' _);have e2:w3.frozen? ⟨O,3,none⟩=false:=(hgrow.frozen_far ⟨O,3,none⟩ (N5.out _) (λe=>gm.out e.symm)).trans (N6.out _)))
 all_goals
  have gO:g≠O:=by
   rcases hat with e|e
   ·intro e2;subst e2;exact gm.out e
   ·have:=jm.out;omega
  have aF:=hgrow.block O (N5.out _) (λe=>gm.out e.symm)
  have hB3:ma w3 O (Lg D id tot (slice a n c) lq lb ld) 246:=by
   unfold ma;rw[aF];exact(Lc.out.alloc _:ma (W2.alloc _) O _ _)
  have Qe:=aa (hB3.set 3 (slice (some ⟨g,0,none⟩) (n+1) cap'))
  have Qm:=aa (xc hown (Jc w3 ⟨O,3,none⟩ (slice (some ⟨g,0,none⟩) (n+1) cap')) (λk e hk=>by
   have e':g=k:=by simpa[Value.ownBlock]using e
   exact gO (e'.trans hk)))
  have Gl:=aa (show za (λk=>k=O\/(slice a n c).ownBlock=some k) w1 (w3.setCell ⟨O,3,none⟩ (slice (some ⟨g,0,none⟩) (n+1) cap')) by
   refine za.setCell ?_ (.inl (.inl rfl)) _;refine za.grown (w:=(W2.alloc _).drew) ?_ hgrow (λk e=>.inl (.inr e));exact((za.of_below HB2.out).alloc _).drew)
  have YU:=aa (show(slice a n c).ownBlock=some g\/w1.heap.size<=g by
   rcases hat with e|e
   ·exact .inl e
   ·have:=HB2.out.size;exact .inr (by omega))
  clear hown hgrow hat hlt e1 e2 gO aF hB3;generalize World.setCell w3 {block:=O,off:=3} _=W4 at*;go_wp2;go_ret;exact⟨rfl,w1,g,cap',Ef.out,Qm.out,Qe.out,Gl.out,YU.out⟩
def eB (L:List He):List Value:=L.flatMap λr=>[int i64 r.q,int i64 r.b,string r.d]
def Qo (s:ByteArray):He:=⟨Hg s,qg s,Qd s⟩
theorem eZ (L:List He)(r:He):eB (L++[r])=eB L++[int i64 r.q,int i64 r.b,string r.d]:=by simp[eB]
structure Ug (lo O SB D:Nat)(T:TypeId)(sv:List Value)(st:Da)(id:ByteArray)(tot:Int)(L:List He)(Dg:He)(F:Nat->Prop)(V V':World)(F':Nat->Prop)(fv:Value):Prop where
 k:Fb lo D st V' F'
 row:V'.ownsRow lo 186 3 fv L.length (eB L)
 o:ma V' O (Lg D id tot fv Dg.q Dg.b Dg.d) 246
 s:ma V' SB sv T
 kept:za (λk=>k=O\/F k) V V'
 foot:∀k,F' k->F k\/V.heap.size<=k
 no:∀k,fv.ownBlock=some k->¬F' k/\V.heap.size<=k
section
variable {lo O SB D:Nat}{T:TypeId}{sv:List Value}{st s2:Da}{id:ByteArray}{tot:Int}{L:List He}{Dg:He}{F F':Nat->Prop}{V V' V2:World}{fv:Value}
theorem Ug.nO (h:Ug lo O SB D T sv st id tot L Dg F V V' F' fv)(hO:O<V.heap.size)(nO:¬F O):¬F' O/\fv.ownBlock≠some O:=⟨λe=>by rcases h.foot O e with e|e<;>first|exact nO e|omega,λe=>by have:=(h.no O e).2;omega⟩
theorem Ug.below (h:Ug lo O SB D T sv st id tot L Dg F V V' F' fv)(hb:Below V'.heap.size V' V2):Ug lo O SB D T sv st id tot L Dg F V V2 F' fv:=⟨h.k.below hb,xc h.row (za.of_below (F:=λ_=>False) hb) (λ_ _ e=>e),h.o.on hb,h.s.on hb,h.kept.after hb,h.foot,h.no⟩
theorem Ug.dl (h:Ug lo O SB D T sv st id tot L Dg F V V' F' fv)(hO:O<V.heap.size)(nO:¬F O)(hS:SB<V.heap.size)(nS:¬F SB)(hl:DL lo D s2 F' V' V2):∃F2,Ug lo O SB D T sv s2 id tot L Dg F V V2 F2 fv:=by
 have n1:=h.nO hO nO;have n2:¬F' SB:=λe=>by rcases h.foot SB e with e|e<;>first|exact nS e|omega
 have b1:=hl.blk h.o n1.1;have b2:=hl.blk h.s n2;obtain⟨F2,d2,k2,f2⟩:=hl;refine⟨F2,d2,xc h.row k2 (λk e=>(h.no k e).1),b1,b2,h.kept.trans k2 (λi hi=>?_),λi hi=>?_,λk e=>⟨λhk=>?_,(h.no k e).2⟩⟩
 ·rcases h.foot i hi with e|e
  ·exact .inl (.inr e)
  ·exact .inr e
 ·rcases f2 i hi with e|e
  ·exact h.foot i e
  ·exact .inr (Nat.le_trans h.kept.size e)
 ·rcases f2 k hk with e1|e1
  ·exact(h.no k e).1 e1
  ·have:=(h.row.lt k e).2;omega
end
theorem JI {lo O SB D:Nat}{T:TypeId}{sv:List Value}{st:Da}{id:ByteArray}{tot:Int}{L:List He}{Dg:He}{F F':Nat->Prop}{V V':World}{fv:Value}(h:Ug lo O SB D T sv st id tot L Dg F V V' F' fv)(hO:O<V.heap.size)(nO:¬F O)(hS:SB<V.heap.size)(nS:¬F SB)(y0:0<=st.syncs)(y1:st.syncs<9223372036854775807):Calls prog 107 #[pointer (some ⟨O,0,none⟩)] V' λe w'=>∃c,e=.returned (int i64 c)/\c=Qc st/\∃F2,Ug lo O SB D T sv (Cb st) id tot L Dg F V w' F2 fv:=Ba0 (λc w'=>c=Qc st/\∃F2,Ug lo O SB D T sv (Cb st) id tot L Dg F V w' F2 fv) O D V' (h.o.cell 0) ((yI lo D st F' V' h.k y0 y1).mono (by
  rintro e w' ⟨rfl,hl⟩
  exact⟨_,rfl,rfl,h.dl hO nO hS nS hl⟩))
def ai (L:List He)(x:ByteArray):List He:=if Le x then L++[Qo x]else L
theorem IE {lo O SB D:Nat}{T:TypeId}{sv:List Value}{st:Da}{id:ByteArray}{tot:Int}{L:List He}{Dg:He}{F F':Nat->Prop}{V V':World}{fv:Value}(h:Ug lo O SB D T sv st id tot L Dg F V V' F' fv)(hO:O<V.heap.size)(nO:¬F O)(hS:SB<V.heap.size)(nS:¬F SB)(Cn:SB≠O)(hlo:lo<=V.heap.size)(hL:L.length<=100)(i:Int)(x:ByteArray)(hx:Ec st i=(x,0)):Calls prog 182 #[pointer (some ⟨O,0,none⟩),int i64 i] V' λe w'=>e=.returned (int i64 0)/\∃F2 Ht,Ug lo O SB D T sv (Sb st i) id tot (ai L x) Dg F V w' F2 Ht:=by
 have vP:Calls prog 103 #[pointer (some ⟨D,0,none⟩),int i64 i] V' λe w'=>e=.returned (.tuple #[string x,int i64 0])/\∃F2,Ug lo O SB D T sv (Sb st i) id tot L Dg F V w' F2 fv:=by
  refine(xO lo D st F' i V' h.k).mono ?_;rw[hx]
  rintro e w' ⟨rfl,hl⟩
  exact⟨rfl,h.dl hO nO hS nS hl⟩
 unfold ai;by_cases hr:Le x=true
 ·rw[if_pos hr];obtain⟨a,c,rfl⟩:=qi h.row;refine(ya0 _ lo O D L.length c a i tot Dg.q Dg.b x id Dg.d (eB L) V' (h.o.cell 0) hr hL (h.nO hO nO).2 (λV2 h2=>?_) vP).mono ?_
  ·obtain⟨F2,h2⟩:=h2;exact⟨h2.o,h2.row,Nat.le_trans hlo h2.kept.size⟩
  ·rintro e w' ⟨rfl,V2,g,cap,⟨F2,h2⟩,hrow,hB,hk,hg⟩
   have n2:=h2.nO hO nO
   have dF:V.heap.size<=g:=by
    rcases hg with e|e
    ·exact(h2.no g e).2
    ·exact Nat.le_trans h2.kept.size e
   have nf:∀k,F2 k->¬(k=O\/(slice a L.length c).ownBlock=some k):=by
    rintro k hk2 (rfl|e)
    ·exact n2.1 hk2
    ·exact(h2.no k e).1 hk2
   refine⟨rfl,F2,_,h2.k.kept hk nf,?_,hB,?_,h2.kept.trans hk (λk hk2=>?_),h2.foot,λk e=>?_⟩
   ·rw[eZ,List.length_append];exact hrow
   ·refine hk.blk h2.s ?_
    rintro(e|e)
    ·exact Cn e
    ·have:=(h2.no _ e).2;omega
   ·rcases hk2 with rfl|e
    ·exact .inl (.inl rfl)
    ·exact .inr (h2.no k e).2
   ·have e':g=k:=by simpa[Value.ownBlock]using e
    subst e';refine⟨λhk2=>?_,dF⟩;rcases hg with e1|e1
    ·exact(h2.no g e1).1 hk2
    ·have:=(h2.k.lt g hk2).2;omega
 ·rw[if_neg hr];refine(xa0 _ O D i x V' (h.o.cell 0) (by simpa using hr) (λV2 V3 h2 hb=>?_) vP).mono ?_
  ·obtain⟨F2,h2⟩:=h2;exact⟨F2,h2.below hb⟩
  ·rintro e w' ⟨rfl,F2,h2⟩
   exact⟨rfl,F2,fv,h2⟩
theorem wa0 (Q:World->Prop)(O D:Nat)(i c:Int)(s:ByteArray)(w:World)(h0:w.cell? ⟨O,0,none⟩=some (pointer (some ⟨D,0,none⟩)))(hc:c≠0)
  (hR:Calls prog 103 #[pointer (some ⟨D,0,none⟩),int i64 i] w λe w'=>e=.returned (.tuple #[string s,int i64 c])/\Q w'):Calls prog 182 #[pointer (some ⟨O,0,none⟩),int i64 i] w λe w'=>e=.returned (int i64 c)/\Q w':=by
 have HR:=aa hR;have e1:(c==0)=false:=by simpa using hc
 have e2:(c !=0)=true:=by simpa using hc
 clear hR hc;go_enter func182,ntmps182;go_wp2_with fail;refine HR.out.mono ?_
 rintro e w1 ⟨rfl,hq1⟩
 have Ef:=aa hq1;clear hq1;go_wp2;go_ret;exact⟨rfl,Ef.out⟩
theorem Aa0 (O n:Nat)(a:Option Addr)(c:Nat)(w:World)(hn:0<n)(h3:w.cell? ⟨O,3,none⟩=some (slice a n c)):Calls prog 110 #[pointer (some ⟨O,0,none⟩)] w λe w'=>e=.returned (int i64 7)/\w'=w:=by
 have hn2:(0:Int)<(n:Int):=by omega
 go_enter func110,ntmps110;go_wp2;go_ret;exact⟨rfl,rfl⟩
section
variable {lo O SB D:Nat}{T:TypeId}{sv:List Value}{st:Da}{id:ByteArray}{tot:Int}{L:List He}{Dg:He}{F F':Nat->Prop}{V V':World}{fv:Value}
theorem FE (h:Ug lo O SB D T sv st id tot L Dg F V V' F' fv)(hO:O<V.heap.size)(nO:¬F O)(hS:SB<V.heap.size)(nS:¬F SB)(i c:Int)(x:ByteArray)(hx:Ec st i=(x,c))(hc:c≠0):Calls prog 182 #[pointer (some ⟨O,0,none⟩),int i64 i] V' λe w'=>e=.returned (int i64 c)/\∃F2,Ug lo O SB D T sv (Sb st i) id tot L Dg F V w' F2 fv:=by
 refine wa0 _ O D i c x V' (h.o.cell 0) hc ?_;refine(xO lo D st F' i V' h.k).mono ?_;rw[hx]
 rintro e w' ⟨rfl,hl⟩
 exact⟨rfl,h.dl hO nO hS nS hl⟩
theorem kZ (h:Ug lo O SB D T sv st id tot L Dg F V V' F' fv):Calls prog 110 #[pointer (some ⟨O,0,none⟩)] V' λe w'=>∃c,e=.returned (int i64 c)/\(c=0/\L=[]\/c=7/\L≠[])/\w'=V':=by
 obtain⟨a,c,rfl⟩:=qi h.row
 cases L with
 |nil=>
  refine(za0 O a c V' (h.o.cell 3)).mono ?_
  rintro e w' ⟨rfl,rfl⟩
  exact⟨0,rfl,.inl ⟨rfl,rfl⟩,rfl⟩
 |cons r L=>
  refine(Aa0 O _ a c V' (by simp) (h.o.cell 3)).mono ?_
  rintro e w' ⟨rfl,rfl⟩
  exact⟨7,rfl,.inr ⟨rfl,by simp⟩,rfl⟩
theorem lZ (h:Ug lo O SB D T sv st id tot L ⟨0,0,⟨#[]⟩⟩ F V V' F' fv)(hO:O<V.heap.size)(nO:¬F O)(Cn:SB≠O)(hL:L.length<=100):Calls prog 172 #[pointer (some ⟨O,0,none⟩)] V' λe w'=>∃c,e=.returned (int i64 c)/\(c=8/\(Gi id tot ⟨0,0,⟨#[]⟩⟩ L L.length).q=0\/c=0/\(Gi id tot ⟨0,0,⟨#[]⟩⟩ L L.length).q≠0)/\Ug lo O SB D T sv st id tot L (Gi id tot ⟨0,0,⟨#[]⟩⟩ L L.length) F V w' F' fv:=by
 have n1:=h.nO hO nO;rcases h.row.2 with⟨hn,h0⟩|⟨g,cap,cur,hv,hb,hg,hc,_,hs,ht⟩
 ·have hL0:L=[]:=List.eq_nil_of_length_eq_zero h0;subst hL0;obtain⟨a,c,rfl⟩:=qi h.row;refine(uf0 D O c id tot a V' h.o).mono ?_
  rintro e w' ⟨rfl,rfl⟩
  exact⟨8,rfl,.inl ⟨rfl,by simp[Gi]⟩,h⟩
 ·subst hv;have aF:g≠O:=λe=>n1.2 (by rw[<-e];rfl)
  have hcell:∀(j:Nat) (r:He),L[j]?=some r->∀(m:Nat) (u:Value),[int i64 r.q,int i64 r.b,string r.d][m]?=some u->V'.cell? ⟨g,j*3+m,none⟩=some u:=by
   intro j r hr m u hu;have hg':V'.heap[g]?=some (.cells cur.toList.toArray 186 (0,0)):=by simpa using hg
   exact FI (λr:He=>[int i64 r.q,int i64 r.b,string r.d]) 3 L j r (λ_ _=>rfl) hr hg' ht m u hu
  refine(tf0 D O g id tot L.length cap L V' rfl hL h.o (Array.getElem?_eq_some_iff.1 hg).1 aF (λj r hr=>⟨hcell j r hr 0 _ rfl,hcell j r hr 1 _ rfl,hcell j r hr 2 _ rfl⟩)).mono ?_
  rintro e w' ⟨he,hB,hk⟩
  have fin:Ug lo O SB D T sv st id tot L (Gi id tot ⟨0,0,⟨#[]⟩⟩ L L.length) F V w' F' (slice (some ⟨g,0,none⟩) L.length cap):=⟨h.k.kept hk (λk hk2 e=>n1.1 (by rw[<-(show k=O from e)];exact hk2)),xc h.row hk (λk e hk2=>n1.2 (by rw[e];exact congrArg some hk2)),hB,hk.blk h.s Cn,h.kept.trans hk (λi hi=>.inl (.inl hi)),h.foot,h.no⟩;rcases he with⟨rfl,hq⟩|⟨rfl,hq⟩
  ·exact⟨8,rfl,.inl ⟨rfl,hq⟩,fin⟩
  ·exact⟨0,rfl,.inr ⟨rfl,hq⟩,fin⟩
theorem jZ {lb0 lq0:Int}{ld0:ByteArray}(h:Ug lo O SB D T sv st id tot L ⟨lq0,lb0,ld0⟩ F V V' F' fv)(hO:O<V.heap.size)(nO:¬F O)(hS:SB<V.heap.size)(nS:¬F SB)(Cn:SB≠O)(hlo:lo<=V.heap.size)(hid:id.size=8)(r0:0<=st.writes)(r1:st.writes<9223372036854775807):Calls prog 111 #[pointer (some ⟨O,0,none⟩)] V' λe w'=>∃c,e=.returned (int i64 c)/\c=Kc st 1 (Ua 1 0 id)/\∃F2,Ug lo O SB D T sv (Jb st 1 (Ua 1 0 id)) id tot L ⟨1,0,id⟩ F V w' F2 fv:=by
 have n1:=h.nO hO nO;have KW:za (λk=>k=O) V' (((V'.setCell ⟨O,4,none⟩ (int i64 1)).setCell ⟨O,5,none⟩ (int i64 0)).setCell ⟨O,6,none⟩ (string id)):=((Jc V' ⟨O,4,none⟩ _).setCell (p:=⟨O,5,none⟩) (.inl rfl) _).setCell (p:=⟨O,6,none⟩) (.inl rfl) _;have oW:=((h.o.set 4 (int i64 1)).set 5 (int i64 0)).set 6 (string id);have hW:Ug lo O SB D T sv st id tot L ⟨1,0,id⟩ F V (((V'.setCell ⟨O,4,none⟩ (int i64 1)).setCell ⟨O,5,none⟩ (int i64 0)).setCell ⟨O,6,none⟩ (string id)) F' fv:=⟨h.k.kept KW (λk hk2 e=>n1.1 (by rw[<-(show k=O from e)];exact hk2)),xc h.row KW (λk e hk2=>n1.2 (by rw[e];exact congrArg some hk2)),oW,KW.blk h.s Cn,h.kept.trans KW (λi hi=>.inl (.inl hi)),h.foot,h.no⟩;refine D7 (λc w'=>c=Kc st 1 (Ua 1 0 id)/\∃F2,Ug lo O SB D T sv (Jb st 1 (Ua 1 0 id)) id tot L ⟨1,0,id⟩ F V w' F2 fv) O D id ld0 tot lq0 lb0 fv V' _ h.o rfl ?_ ?_
 ·rintro c V2 ⟨_,F2,h2⟩
  exact h2.o
 ·intro V2 hb;have h2:=hW.below hb;refine(mF lo D st F' 1 0 1 id V2 h2.k (Nat.le_trans hlo h2.kept.size) r0 r1 ⟨by decide,by decide,by decide,by decide,hid⟩ (by decide) (by decide)).mono ?_
  rintro e w' ⟨rfl,hl⟩
  exact⟨_,rfl,rfl,h2.dl hO nO hS nS hl⟩
end
theorem GN (w:World):Calls prog 67 #[pointer none] w λe w'=>e=.returned (pointer none)/\Below w.heap.size w w':=by
 go_enter func67,ntmps67;go_wp2;go_ret;exact⟨rfl,Vb⟩
theorem Xa0 (dv:Option Addr)(k b x t l bat c:Int)(sec rnd pub:ByteArray)(w:World)(hBg:∀(V:World) (sv:Value),Below w.heap.size w V->Calls prog 106 #[pointer dv,.agg #[int i64 k,int i64 b,int i64 x,int i64 t,int i64 l],.agg #[string sec,string rnd,string pub],int i64 bat,sv] V λe w'=>e=.returned (.tuple #[pointer none,int i64 c])/\Below V.heap.size V w'):Calls prog 66 #[pointer dv,.agg #[int i64 k,int i64 b,int i64 x,int i64 t,int i64 l],.agg #[string sec,string rnd,string pub],int i64 bat] w λe w'=>e=.returned (.tuple #[pointer none,int i64 c])/\Below w.heap.size w w':=by
 obtain⟨W1,hW⟩:=Ca (((w.alloc (.cells #[int i64 k,int i64 b,int i64 x,int i64 t,int i64 l] 26)).alloc (.cells #[string sec,string rnd,string pub] 42)).alloc (.cells (List.toArray [.func (.func 107) #[] #[],.func (.func 108) #[] #[],.func (.func 109) #[] #[],.func (.func 110) #[] #[],.func (.func 111) #[] #[],.func (.func 107) #[] #[]]) 331));have HB:=Bu hW;have LG:=aa hBg;have Ea:=aa hW;clear hW hBg;go_enter func66,ntmps66;go_wp2_with fail;rw[Ea.out];refine(LG.out _ _ HB.out).mono ?_
 rintro e w2 ⟨rfl,hb⟩
 have HB2:=aa (HB.out.trans (hb.mono HB.out.size));clear hb;go_wp2;go_ret2;exact⟨rfl,HB2.out⟩
theorem Be0 (sv dv:Option Addr)(k b x t l bat c:Int)(sec rnd pub:ByteArray)(w:World)(hc:c≠0)(hBl:∀V:World,Below w.heap.size w V->Calls prog 67 #[pointer sv] V λe w'=>e=.returned (pointer dv)/\Below V.heap.size V w')(hBg:∀(V:World) (sl:Value),Below w.heap.size w V->Calls prog 106 #[pointer dv,.agg #[int i64 k,int i64 b,int i64 x,int i64 t,int i64 l],.agg #[string sec,string rnd,string pub],int i64 bat,sl] V λe w'=>e=.returned (.tuple #[pointer none,int i64 c])/\Below V.heap.size V w'):Calls prog 23 #[pointer sv,.agg #[int i64 k,int i64 b,int i64 x,int i64 t,int i64 l],.agg #[string sec,string rnd,string pub],int i64 bat] w λe w'=>e=.returned (.tuple #[pointer none,int i64 c])/\Below w.heap.size w w':=by
 refine(uT sv dv (λ_=>False) (λv c2 _ _=>c2=c) k b x t l bat sec rnd pub w hBl (λ_ h=>h.elim) (λV hb=>(Xa0 dv k b x t l bat c sec rnd pub V (λV2 sl hb2=>hBg V2 sl (hb.trans (hb2.mono hb.size)))).mono ?_)).mono ?_
 ·rintro e w' ⟨rfl,hb2⟩
  exact⟨_,_,rfl,za.of_below hb2,rfl⟩
 ·rintro e w' ⟨v,c2,r,V,V2,rfl,h1,h2,rfl,h3⟩
  have h4:Below V.heap.size V V2:=h2.below (λ_ h=>h.elim) Aa;rw[h3.2.1 hc];exact⟨rfl,(h1.trans (h4.mono h1.size)).trans (h3.2.2.mono (Nat.le_trans h1.size h4.size))⟩
theorem ab0 (dv:Option Addr)(k b x t l bat c:Int)(sec rnd pub:ByteArray)(w:World)(hBg:∀(V:World) (sv:Value),Below w.heap.size w V->Calls prog 106 #[pointer dv,.agg #[int i64 k,int i64 b,int i64 x,int i64 t,int i64 l],.agg #[string sec,string rnd,string pub],int i64 bat,sv] V λe w'=>e=.returned (.tuple #[pointer none,int i64 c])/\Below V.heap.size V w'):Calls prog 100 #[pointer dv,.agg #[int i64 k,int i64 b,int i64 x,int i64 t,int i64 l],.agg #[string sec,string rnd,string pub],int i64 bat] w λe w'=>e=.returned (.tuple #[pointer none,int i64 c])/\Below w.heap.size w w':=by
 obtain⟨W1,hW⟩:=Ca (((w.alloc (.cells #[int i64 k,int i64 b,int i64 x,int i64 t,int i64 l] 26)).alloc (.cells #[string sec,string rnd,string pub] 42)).alloc (.cells (List.toArray [.func (.func 107) #[] #[],.func (.func 108) #[] #[],.func (.func 109) #[] #[],.func (.func 172) #[] #[]]) 331));have HB:=Bu hW;have LG:=aa hBg;have Ea:=aa hW;clear hW hBg;go_enter func100,ntmps100;go_wp2_with fail;rw[Ea.out];refine(LG.out _ _ HB.out).mono ?_
 rintro e w2 ⟨rfl,hb⟩
 have HB2:=aa (HB.out.trans (hb.mono HB.out.size));clear hb;go_wp2;go_ret2;exact⟨rfl,HB2.out⟩
theorem Ce0 (sv dv:Option Addr)(k b x t l bat c:Int)(sec rnd pub:ByteArray)(w:World)(hc:c≠0)(hBl:∀V:World,Below w.heap.size w V->Calls prog 67 #[pointer sv] V λe w'=>e=.returned (pointer dv)/\Below V.heap.size V w')(hBg:∀(V:World) (sl:Value),Below w.heap.size w V->Calls prog 106 #[pointer dv,.agg #[int i64 k,int i64 b,int i64 x,int i64 t,int i64 l],.agg #[string sec,string rnd,string pub],int i64 bat,sl] V λe w'=>e=.returned (.tuple #[pointer none,int i64 c])/\Below V.heap.size V w'):Calls prog 55 #[pointer sv,.agg #[int i64 k,int i64 b,int i64 x,int i64 t,int i64 l],.agg #[string sec,string rnd,string pub],int i64 bat] w λe w'=>e=.returned (.tuple #[pointer none,int i64 c])/\Below w.heap.size w w':=by
 refine(DT sv dv (λ_=>False) (λv c2 _ _=>c2=c) k b x t l bat sec rnd pub w hBl (λ_ h=>h.elim) (λV hb=>(ab0 dv k b x t l bat c sec rnd pub V (λV2 sl hb2=>hBg V2 sl (hb.trans (hb2.mono hb.size)))).mono ?_)).mono ?_
 ·rintro e w' ⟨rfl,hb2⟩
  exact⟨_,_,rfl,za.of_below hb2,rfl⟩
 ·rintro e w' ⟨v,c2,r,V,V2,rfl,h1,h2,rfl,h3⟩
  have h4:Below V.heap.size V V2:=h2.below (λ_ h=>h.elim) Aa;rw[h3.2.1 hc];exact⟨rfl,(h1.trans (h4.mono h1.size)).trans (h3.2.2.mono (Nat.le_trans h1.size h4.size))⟩
end Go.Proofs.YtgaoeoijdpdjiabGreatDoor
