import Derived.Test.YtgaoeoijdpdjiabGreatDoorPart44
open Go.Value (int string pointer slice)
open Go.IntKind (i64)
open Go.Proofs.Tryz
set_option maxRecDepth 20000
set_option maxHeartbeats 8000000
namespace Go.Proofs.YtgaoeoijdpdjiabGreatDoor
open Go.RowKit
theorem sd0 {S R:Nat}{en:Int}{ov:Bool}{k b x t l:Int}{sec rnd pub:ByteArray}{bat:Int}{key id:ByteArray}{nx bd:Int}{tr:Value}{w:World}(q:Int)(msg:ByteArray)(m0 m1 m2 tot m4 m5:Int)(hZ:∀V:World,Calls prog 83 #[.agg #[int i64 k,int i64 b,int i64 x,int i64 t,int i64 l]] V λe w'=>e=.returned (.agg #[int i64 m0,int i64 m1,int i64 m2,int i64 tot,int i64 m4,int i64 m5])/\Below V.heap.size V w')(hS:ma w S (Oc R en ov k b x t l sec rnd pub bat key id nx bd q tr) 302)(Md:Int)(hD:R<w.heap.size)(h4:w.cell? ⟨R,4,none⟩=some (int i64 Md))(hO:Gh ov en Md=true):Calls prog 154 #[pointer (some ⟨S,0,none⟩),string msg] w λe w'=>e=.returned (.tuple #[string ⟨#[]⟩,int i64 9])/\Below w.heap.size w w':=by
 have HD:=aa hD;have H4:=aa h4;have HO:=aa hO;clear hD h4 hO;have c3:=Xa hS;have c4:=Ya hS;have c5:=Ee hS;have c6:=jf hS;have c7:=Ch hS;have HS:=aa hS;have HZ:=aa hZ;clear hS hZ;go_enter func154,ntmps154;go_wp2_with fail;refine(HZ.out _).mono ?_
 rintro e w1 ⟨rfl,hb1⟩
 obtain⟨Z,Pd⟩:=Ca (w1.heap.size);obtain⟨W1,hW1⟩:=Ca (w1.alloc (.cells #[int i64 m0,int i64 m1,int i64 m2,int i64 tot,int i64 m4,int i64 m5] 158));have HB1:=aa (show Below w.heap.size w W1 by rw[<-hW1];exact hb1.alloc hb1.size _);have Ze:=aa (show ma W1 Z (#[int i64 m0,int i64 m1,int i64 m2,int i64 tot,int i64 m4,int i64 m5]).toList 158 by rw[<-hW1,<-Pd];exact ma.new w1 _ _);have ic:=aa (HS.out.on HB1.out);clear c3 c4 c5 c6 c7 hb1;go_upto_region 2 with fail
 (try rw[hW1])
 (try rw[Pd])
 clear hW1 Pd;have qb:=aa (Dq ic.out ((HB1.out.cell (p:=⟨R,4,none⟩) HD.out).trans H4.out));rw[HO.out]at qb;go_wp2_with fail;refine qb.out.mono ?_
 rintro e w2 ⟨rfl,hb2⟩
 have HB2:=aa (HB1.out.trans (hb2.mono HB1.out.size));have HS2:=aa (ic.out.on hb2);have y3:=Xa ((Ze.out.on hb2));clear hb2 qb;clear y3;go_wp2;go_ret2;exact⟨rfl,HB2.out⟩
theorem qd0 {S R:Nat}{en:Int}{ov:Bool}{k b x t l:Int}{sec rnd pub:ByteArray}{bat:Int}{key id:ByteArray}{nx bd:Int}{tr:Value}{w:World}(q:Int)(msg:ByteArray)(m0 m1 m2 tot m4 m5:Int)(hZ:∀V:World,Calls prog 83 #[.agg #[int i64 k,int i64 b,int i64 x,int i64 t,int i64 l]] V λe w'=>e=.returned (.agg #[int i64 m0,int i64 m1,int i64 m2,int i64 tot,int i64 m4,int i64 m5])/\Below V.heap.size V w')(hS:ma w S (Oc R en ov k b x t l sec rnd pub bat key id nx bd q tr) 302)(Md:Int)(hD:R<w.heap.size)(h4:w.cell? ⟨R,4,none⟩=some (int i64 Md))(hO:Gh ov en Md=false)(hm:200<msg.size)(hmx:msg.size<=maxLen):Calls prog 154 #[pointer (some ⟨S,0,none⟩),string msg] w λe w'=>e=.returned (.tuple #[string ⟨#[]⟩,int i64 3])/\Below w.heap.size w w':=by
 have d0:decide ((200:Int)<(msg.size:Int))=true:=decide_eq_true (by omega);have dx:(200:Int)<(msg.size:Int):=by omega
 have fu:=aa hmx;clear hm hmx;have HD:=aa hD;have H4:=aa h4;have HO:=aa hO;clear hD h4 hO;have c3:=Xa hS;have c4:=Ya hS;have c5:=Ee hS;have c6:=jf hS;have c7:=Ch hS;have HS:=aa hS;have HZ:=aa hZ;clear hS hZ;go_enter func154,ntmps154;go_wp2_with fail;refine(HZ.out _).mono ?_
 rintro e w1 ⟨rfl,hb1⟩
 obtain⟨Z,Pd⟩:=Ca (w1.heap.size);obtain⟨W1,hW1⟩:=Ca (w1.alloc (.cells #[int i64 m0,int i64 m1,int i64 m2,int i64 tot,int i64 m4,int i64 m5] 158));have HB1:=aa (show Below w.heap.size w W1 by rw[<-hW1];exact hb1.alloc hb1.size _);have Ze:=aa (show ma W1 Z (#[int i64 m0,int i64 m1,int i64 m2,int i64 tot,int i64 m4,int i64 m5]).toList 158 by rw[<-hW1,<-Pd];exact ma.new w1 _ _);have ic:=aa (HS.out.on HB1.out);clear c3 c4 c5 c6 c7 hb1;go_upto_region 2 with fail
 (try rw[hW1])
 (try rw[Pd])
 clear hW1 Pd;have qb:=aa (Dq ic.out ((HB1.out.cell (p:=⟨R,4,none⟩) HD.out).trans H4.out));rw[HO.out]at qb;go_wp2_with fail;refine qb.out.mono ?_
 rintro e w2 ⟨rfl,hb2⟩
 have HB2:=aa (HB1.out.trans (hb2.mono HB1.out.size));have HS2:=aa (ic.out.on hb2);have y3:=Xa ((Ze.out.on hb2));clear hb2 qb;clear y3;go_wp2;go_ret2;exact⟨rfl,HB2.out⟩
theorem ud0 {S R:Nat}{en:Int}{ov:Bool}{k b x t l:Int}{sec rnd pub:ByteArray}{bat:Int}{key id:ByteArray}{nx bd:Int}{tr:Value}{w:World}(q:Int)(msg:ByteArray)(m0 m1 m2 tot m4 m5:Int)(hZ:∀V:World,Calls prog 83 #[.agg #[int i64 k,int i64 b,int i64 x,int i64 t,int i64 l]] V λe w'=>e=.returned (.agg #[int i64 m0,int i64 m1,int i64 m2,int i64 tot,int i64 m4,int i64 m5])/\Below V.heap.size V w')(hS:ma w S (Oc R en ov k b x t l sec rnd pub bat key id nx bd q tr) 302)(Md:Int)(hD:R<w.heap.size)(h4:w.cell? ⟨R,4,none⟩=some (int i64 Md))(hO:Gh ov en Md=false)(hm:msg.size<=200)(hs:tot<=nx\/nx=bd/\2147483647<=q):Calls prog 154 #[pointer (some ⟨S,0,none⟩),string msg] w λe w'=>e=.returned (.tuple #[string ⟨#[]⟩,int i64 10])/\Below w.heap.size w w':=by
 have d0:decide ((200:Int)<(msg.size:Int))=false:=decide_eq_false (by omega);have dx:¬(200:Int)<(msg.size:Int):=by omega
 clear hm;have HD:=aa hD;have H4:=aa h4;have HO:=aa hO;clear hD h4 hO;have c3:=Xa hS;have c4:=Ya hS;have c5:=Ee hS;have c6:=jf hS;have c7:=Ch hS;have HS:=aa hS;have HZ:=aa hZ;clear hS hZ;go_enter func154,ntmps154;go_wp2_with fail;refine(HZ.out _).mono ?_
 rintro e w1 ⟨rfl,hb1⟩
 obtain⟨Z,Pd⟩:=Ca (w1.heap.size);obtain⟨W1,hW1⟩:=Ca (w1.alloc (.cells #[int i64 m0,int i64 m1,int i64 m2,int i64 tot,int i64 m4,int i64 m5] 158));have HB1:=aa (show Below w.heap.size w W1 by rw[<-hW1];exact hb1.alloc hb1.size _);have Ze:=aa (show ma W1 Z (#[int i64 m0,int i64 m1,int i64 m2,int i64 tot,int i64 m4,int i64 m5]).toList 158 by rw[<-hW1,<-Pd];exact ma.new w1 _ _);have ic:=aa (HS.out.on HB1.out);clear c3 c4 c5 c6 c7 hb1;go_upto_region 2 with fail
 (try rw[hW1])
 (try rw[Pd])
 clear hW1 Pd;have qb:=aa (Dq ic.out ((HB1.out.cell (p:=⟨R,4,none⟩) HD.out).trans H4.out));rw[HO.out]at qb;go_wp2_with fail;refine qb.out.mono ?_
 rintro e w2 ⟨rfl,hb2⟩
 have HB2:=aa (HB1.out.trans (hb2.mono HB1.out.size));have HS2:=aa (ic.out.on hb2);have y3:=Xa ((Ze.out.on hb2));clear hb2 qb;have c14:=Aj HS2.out;have c15:=pg HS2.out;have c16:=ag HS2.out;by_cases h1:tot<=nx
 ·have d3:decide (tot<=nx)=true:=decide_eq_true h1;clear h1 hs;go_wp2_with fail;go_quiet (fail);go_wp2;go_ret2;exact⟨rfl,⟨HB2.out.os,HB2.out.tape,HB2.out.output,HB2.out.size,HB2.out.block⟩⟩
 ·have d3:decide (tot<=nx)=false:=decide_eq_false h1;obtain⟨h2,h3⟩:=hs.resolve_left h1;have d4:(nx==bd)=true:=by simpa using h2
  have d5:decide (2147483647<=q)=true:=decide_eq_true h3;clear h1 hs h2 h3;go_wp2_with fail;go_quiet (fail);go_wp2;go_ret2;exact⟨rfl,⟨HB2.out.os,HB2.out.tape,HB2.out.output,HB2.out.size,HB2.out.block⟩⟩
theorem pd0 {S R:Nat}{en:Int}{ov:Bool}{k b x t l:Int}{sec rnd pub:ByteArray}{bat:Int}{key id:ByteArray}{nx bd:Int}{tr:Value}{w:World}(q:Int)(msg:ByteArray)(c:Int)(Q1:World->Prop)(m0 m1 m2 tot m4 m5:Int)(hZ:∀V:World,Calls prog 83 #[.agg #[int i64 k,int i64 b,int i64 x,int i64 t,int i64 l]] V λe w'=>e=.returned (.agg #[int i64 m0,int i64 m1,int i64 m2,int i64 tot,int i64 m4,int i64 m5])/\Below V.heap.size V w')(hS:ma w S (Oc R en ov k b x t l sec rnd pub bat key id nx bd q tr) 302)(Md:Int)(hD:R<w.heap.size)(h4:w.cell? ⟨R,4,none⟩=some (int i64 Md))(hO:Gh ov en Md=false)(hm:msg.size<=200)(hs:nx<tot)(hb:nx=bd)(hq:q<2147483647)(hc:c≠0)
  (Ri:∀V:World,Below w.heap.size w V->Calls prog 229 #[pointer (some ⟨S,0,none⟩),int i64 bat] V λe w'=>e=.returned (int i64 c)/\Q1 w'/\w'.cell? ⟨S,14,none⟩=some (int i64 nx)/\w'.frozen? ⟨S,14,none⟩=false):Calls prog 154 #[pointer (some ⟨S,0,none⟩),string msg] w λe w'=>e=.returned (.tuple #[string ⟨#[]⟩,int i64 c])/\Q1 w':=by
 have d0:decide ((200:Int)<(msg.size:Int))=false:=decide_eq_false (by omega);have dx:¬(200:Int)<(msg.size:Int):=by omega
 clear hm;have d3:decide (tot<=nx)=false:=decide_eq_false (by omega);have d4:(nx==bd)=true:=by simpa using hb
 have d5:decide (2147483647<=q)=false:=decide_eq_false (by omega);have e1:(c==0)=false:=by simpa using hc
 have e2:(c !=0)=true:=by simpa using hc
 have Ai:=aa Ri;clear hs hb hq hc Ri;have HD:=aa hD;have H4:=aa h4;have HO:=aa hO;clear hD h4 hO;have c3:=Xa hS;have c4:=Ya hS;have c5:=Ee hS;have c6:=jf hS;have c7:=Ch hS;have HS:=aa hS;have HZ:=aa hZ;clear hS hZ;go_enter func154,ntmps154;go_wp2_with fail;refine(HZ.out _).mono ?_
 rintro e w1 ⟨rfl,hb1⟩
 obtain⟨Z,Pd⟩:=Ca (w1.heap.size);obtain⟨W1,hW1⟩:=Ca (w1.alloc (.cells #[int i64 m0,int i64 m1,int i64 m2,int i64 tot,int i64 m4,int i64 m5] 158));have HB1:=aa (show Below w.heap.size w W1 by rw[<-hW1];exact hb1.alloc hb1.size _);have Ze:=aa (show ma W1 Z (#[int i64 m0,int i64 m1,int i64 m2,int i64 tot,int i64 m4,int i64 m5]).toList 158 by rw[<-hW1,<-Pd];exact ma.new w1 _ _);have ic:=aa (HS.out.on HB1.out);clear c3 c4 c5 c6 c7 hb1;go_upto_region 2 with fail
 (try rw[hW1])
 (try rw[Pd])
 clear hW1 Pd;have qb:=aa (Dq ic.out ((HB1.out.cell (p:=⟨R,4,none⟩) HD.out).trans H4.out));rw[HO.out]at qb;go_wp2_with fail;refine qb.out.mono ?_
 rintro e w2 ⟨rfl,hb2⟩
 have HB2:=aa (HB1.out.trans (hb2.mono HB1.out.size));have HS2:=aa (ic.out.on hb2);have y3:=Xa ((Ze.out.on hb2));clear hb2 qb;have c11:=Zm HS2.out;have c14:=Aj HS2.out;have c15:=pg HS2.out;have c16:=ag HS2.out;go_wp2_with fail;go_quiet (fail);go_wp2_with fail;go_quiet (fail);go_wp2_with fail;refine(Ai.out (World.drewN _ _) ⟨HB2.out.os,HB2.out.tape,HB2.out.output,HB2.out.size,HB2.out.block⟩).mono ?_
 rintro e w5 ⟨rfl,hQ,_,_⟩
 have HQ:=aa hQ;clear hQ;go_wp2_with fail;go_ret2;exact⟨rfl,HQ.out⟩
theorem td0 {S R:Nat}{en:Int}{ov:Bool}{k b x t l:Int}{sec rnd pub:ByteArray}{bat:Int}{key id:ByteArray}{nx bd:Int}{tr:Value}{w:World}(q:Int)(msg z:ByteArray)(Q1 Q2:World->Prop)(m0 m1 m2 tot m4 m5:Int)(hZ:∀V:World,Calls prog 83 #[.agg #[int i64 k,int i64 b,int i64 x,int i64 t,int i64 l]] V λe w'=>e=.returned (.agg #[int i64 m0,int i64 m1,int i64 m2,int i64 tot,int i64 m4,int i64 m5])/\Below V.heap.size V w')(hS:ma w S (Oc R en ov k b x t l sec rnd pub bat key id nx bd q tr) 302)(Md:Int)(hD:R<w.heap.size)(h4:w.cell? ⟨R,4,none⟩=some (int i64 Md))(hO:Gh ov en Md=false)(hm:msg.size<=200)(hs:nx<tot)(h0:0<=nx)(ht:tot<=100000)(hb:nx=bd)(hq:q<2147483647)
  (Ri:∀V:World,Below w.heap.size w V->Calls prog 229 #[pointer (some ⟨S,0,none⟩),int i64 bat] V λe w'=>e=.returned (int i64 0)/\Q1 w'/\w'.cell? ⟨S,14,none⟩=some (int i64 nx)/\w'.frozen? ⟨S,14,none⟩=false)
  (Ou:∀V:World,Q1 V->Calls prog 230 #[pointer (some ⟨S,0,none⟩),int i64 nx,string msg] (V.setCell ⟨S,14,none⟩ (int i64 (nx+1))) λe w'=>e=.returned (string z)/\Q2 w'):Calls prog 154 #[pointer (some ⟨S,0,none⟩),string msg] w λe w'=>e=.returned (.tuple #[string z,int i64 0])/\Q2 w':=by
 have d0:decide ((200:Int)<(msg.size:Int))=false:=decide_eq_false (by omega);have dx:¬(200:Int)<(msg.size:Int):=by omega
 clear hm;have d3:decide (tot<=nx)=false:=decide_eq_false (by omega);have wn:IntKind.i64.wrap (nx+1)=nx+1:=by rw[IntKind.wrap_i64]<;>omega
 have wn2:wrap64 (nx+1)=nx+1:=by rw[Yo]<;>omega
 have d4:(nx==bd)=true:=by simpa using hb
 have d5:decide (2147483647<=q)=false:=decide_eq_false (by omega);have Ai:=aa Ri;have Ak:=aa Ou;clear hs h0 ht hb hq Ri Ou;have HD:=aa hD;have H4:=aa h4;have HO:=aa hO;clear hD h4 hO;have c3:=Xa hS;have c4:=Ya hS;have c5:=Ee hS;have c6:=jf hS;have c7:=Ch hS;have HS:=aa hS;have HZ:=aa hZ;clear hS hZ;go_enter func154,ntmps154;go_wp2_with fail;refine(HZ.out _).mono ?_
 rintro e w1 ⟨rfl,hb1⟩
 obtain⟨Z,Pd⟩:=Ca (w1.heap.size);obtain⟨W1,hW1⟩:=Ca (w1.alloc (.cells #[int i64 m0,int i64 m1,int i64 m2,int i64 tot,int i64 m4,int i64 m5] 158));have HB1:=aa (show Below w.heap.size w W1 by rw[<-hW1];exact hb1.alloc hb1.size _);have Ze:=aa (show ma W1 Z (#[int i64 m0,int i64 m1,int i64 m2,int i64 tot,int i64 m4,int i64 m5]).toList 158 by rw[<-hW1,<-Pd];exact ma.new w1 _ _);have ic:=aa (HS.out.on HB1.out);clear c3 c4 c5 c6 c7 hb1;go_upto_region 2 with fail
 (try rw[hW1])
 (try rw[Pd])
 clear hW1 Pd;have qb:=aa (Dq ic.out ((HB1.out.cell (p:=⟨R,4,none⟩) HD.out).trans H4.out));rw[HO.out]at qb;go_wp2_with fail;refine qb.out.mono ?_
 rintro e w2 ⟨rfl,hb2⟩
 have HB2:=aa (HB1.out.trans (hb2.mono HB1.out.size));have HS2:=aa (ic.out.on hb2);have y3:=Xa ((Ze.out.on hb2));clear hb2 qb;have c11:=Zm HS2.out;have c14:=Aj HS2.out;have c15:=pg HS2.out;have c16:=ag HS2.out;go_wp2_with fail;go_quiet (fail);go_wp2_with fail;go_quiet (fail);go_wp2_with fail;refine(Ai.out (World.drewN _ _) ⟨HB2.out.os,HB2.out.tape,HB2.out.output,HB2.out.size,HB2.out.block⟩).mono ?_
 rintro e w5 ⟨rfl,hQ,s14,f14⟩
 have HQ:=aa hQ;clear hQ c11 c14 c15 c16 y3;go_wp2_with fail;refine(Ak.out _ HQ.out).mono ?_
 rintro e w6 ⟨rfl,zB⟩
 have vH:=aa zB;clear zB;go_wp2_with fail;go_ret2;exact⟨rfl,vH.out⟩
theorem rd0 {S R:Nat}{en:Int}{ov:Bool}{k b x t l:Int}{sec rnd pub:ByteArray}{bat:Int}{key id:ByteArray}{nx bd:Int}{tr:Value}{w:World}(q:Int)(msg z:ByteArray)(Q1 Q2:World->Prop)(m0 m1 m2 tot m4 m5:Int)(hZ:∀V:World,Calls prog 83 #[.agg #[int i64 k,int i64 b,int i64 x,int i64 t,int i64 l]] V λe w'=>e=.returned (.agg #[int i64 m0,int i64 m1,int i64 m2,int i64 tot,int i64 m4,int i64 m5])/\Below V.heap.size V w')(hS:ma w S (Oc R en ov k b x t l sec rnd pub bat key id nx bd q tr) 302)(Md:Int)(hD:R<w.heap.size)(h4:w.cell? ⟨R,4,none⟩=some (int i64 Md))(hO:Gh ov en Md=false)(hm:msg.size<=200)(hs:nx<tot)(h0:0<=nx)(ht:tot<=100000)(hb:nx≠bd)(hQ:∀V:World,Below w.heap.size w V->Q1 V)
  (Ou:∀V:World,Q1 V->Calls prog 230 #[pointer (some ⟨S,0,none⟩),int i64 nx,string msg] (V.setCell ⟨S,14,none⟩ (int i64 (nx+1))) λe w'=>e=.returned (string z)/\Q2 w'):Calls prog 154 #[pointer (some ⟨S,0,none⟩),string msg] w λe w'=>e=.returned (.tuple #[string z,int i64 0])/\Q2 w':=by
 have d0:decide ((200:Int)<(msg.size:Int))=false:=decide_eq_false (by omega);have dx:¬(200:Int)<(msg.size:Int):=by omega
 clear hm;have d3:decide (tot<=nx)=false:=decide_eq_false (by omega);have wn:IntKind.i64.wrap (nx+1)=nx+1:=by rw[IntKind.wrap_i64]<;>omega
 have wn2:wrap64 (nx+1)=nx+1:=by rw[Yo]<;>omega
 have d4:(nx==bd)=false:=by simpa using hb
 have OV:=aa hQ;have Ak:=aa Ou;clear hs h0 ht hb hQ Ou;have HD:=aa hD;have H4:=aa h4;have HO:=aa hO;clear hD h4 hO;have c3:=Xa hS;have c4:=Ya hS;have c5:=Ee hS;have c6:=jf hS;have c7:=Ch hS;have HS:=aa hS;have HZ:=aa hZ;clear hS hZ;go_enter func154,ntmps154;go_wp2_with fail;refine(HZ.out _).mono ?_
 rintro e w1 ⟨rfl,hb1⟩
 obtain⟨Z,Pd⟩:=Ca (w1.heap.size);obtain⟨W1,hW1⟩:=Ca (w1.alloc (.cells #[int i64 m0,int i64 m1,int i64 m2,int i64 tot,int i64 m4,int i64 m5] 158));have HB1:=aa (show Below w.heap.size w W1 by rw[<-hW1];exact hb1.alloc hb1.size _);have Ze:=aa (show ma W1 Z (#[int i64 m0,int i64 m1,int i64 m2,int i64 tot,int i64 m4,int i64 m5]).toList 158 by rw[<-hW1,<-Pd];exact ma.new w1 _ _);have ic:=aa (HS.out.on HB1.out);clear c3 c4 c5 c6 c7 hb1;go_upto_region 2 with fail
 (try rw[hW1])
 (try rw[Pd])
 clear hW1 Pd;have qb:=aa (Dq ic.out ((HB1.out.cell (p:=⟨R,4,none⟩) HD.out).trans H4.out));rw[HO.out]at qb;go_wp2_with fail;refine qb.out.mono ?_
 rintro e w2 ⟨rfl,hb2⟩
 have HB2:=aa (HB1.out.trans (hb2.mono HB1.out.size));have HS2:=aa (ic.out.on hb2);have y3:=Xa ((Ze.out.on hb2));clear hb2 qb;have c14:=Aj HS2.out;have c15:=pg HS2.out;have f14:=HS2.out.free 14;go_wp2_with fail;go_quiet (fail);go_wp2_with fail;go_quiet (fail);go_wp2_with fail;refine(Ak.out (World.drewN _ _) (OV.out _ ⟨HB2.out.os,HB2.out.tape,HB2.out.output,HB2.out.size,HB2.out.block⟩)).mono ?_
 rintro e w6 ⟨rfl,zB⟩
 have vH:=aa zB;clear zB;go_wp2_with fail;go_ret2;exact⟨rfl,vH.out⟩
theorem cd0 {S D:Nat}{en:Int}{ov:Bool}{k b x t l:Int}{sec rnd pub:ByteArray}{bat:Int}{key id:ByteArray}{nx bd q:Int}{tr:Value}{w:World}(rq rb:Int)(ri:ByteArray)(z0 z1 z2 tot z4 z5:Int)(hS:ma w S (Oc D en ov k b x t l sec rnd pub bat key id nx bd q tr) 302)
  (hZ:∀V:World,Calls prog 83 #[.agg #[int i64 k,int i64 b,int i64 x,int i64 t,int i64 l]] V λe w'=>e=.returned (.agg #[int i64 z0,int i64 z1,int i64 z2,int i64 tot,int i64 z4,int i64 z5])/\Below V.heap.size V w'):Calls prog 227 #[pointer (some ⟨S,0,none⟩),.agg #[int i64 rq,int i64 rb,string ri]] w λe w'=>e=.returned (.agg #[int i64 (ji id tot (rq,rb,ri)).1,int i64 (ji id tot (rq,rb,ri)).2.1,string (ji id tot (rq,rb,ri)).2.2])/\Below w.heap.size w w':=by
 by_cases h1:ri=id
 ·by_cases h2:rb<=tot
  ·rw[show ji id tot (rq,rb,ri)=(rq,rb,ri)from if_pos ⟨h1,h2⟩];exact gd0 rq rb ri z0 z1 z2 tot z4 z5 hS hZ h1 h2
  ·rw[show ji id tot (rq,rb,ri)=(0,0,⟨#[]⟩)from if_neg (λe=>h2 e.2)];exact dd0 rq rb ri z0 z1 z2 tot z4 z5 hS hZ h1 (by omega)
 ·rw[show ji id tot (rq,rb,ri)=(0,0,⟨#[]⟩)from if_neg (λe=>h1 e.1)];exact ed0 rq rb ri z0 z1 z2 tot z4 z5 hS hZ h1
theorem Cc0 (c:Int)(hc:c≠0)(pv:Option Addr)(k b x t l bat:Int)(sec rnd pub:ByteArray)(w:World)(Dm:∀V:World,Below w.heap.size w V->Calls prog 223 #[pointer pv,.agg #[int i64 k,int i64 b,int i64 x,int i64 t,int i64 l],.agg #[string sec,string rnd,string pub],int i64 bat] V λe w'=>e=.returned (int i64 c)/\Below V.heap.size V w'):Calls prog 150 #[pointer pv,.agg #[int i64 k,int i64 b,int i64 x,int i64 t,int i64 l],.agg #[string sec,string rnd,string pub],int i64 bat] w λe w'=>e=.returned (.tuple #[pointer none,int i64 c])/\Below w.heap.size w w':=by
 obtain⟨W0,hW⟩:=Ca ((w.alloc (.cells #[int i64 k,int i64 b,int i64 x,int i64 t,int i64 l] 26)).alloc (.cells #[string sec,string rnd,string pub] 42));have HB0:=Gc hW;have h1:ma W0 w.heap.size [int i64 k,int i64 b,int i64 x,int i64 t,int i64 l] 26:=by subst hW;exact(ma.new w _ _).alloc _
 have h2:ma W0 (w.heap.size+1) [string sec,string rnd,string pub] 42:=by
  subst hW;have h:=ma.new (w.alloc (.cells #[int i64 k,int i64 b,int i64 x,int i64 t,int i64 l] 26)) [string sec,string rnd,string pub] 42;simp only[World.size_alloc]at h;exact h
 have c0:=Fa h1;have c1:=Ja h1;have c2:=Ha h1;have c3:=Xa h1;have c4:=Ya h1;have c5:=Fa h2;have c6:=Ja h2;have c7:=Ha h2;have xk:=aa Dm;have e1:(c !=0)=true:=by simpa using hc
 have e2:(c==0)=false:=by simpa using hc
 have Ea:=aa hW;clear h1 h2 Dm hc hW;go_enter func150,ntmps150;go_upto_region 1 with fail;rw[Ea.out];clear Ea;go_wp2_with fail;refine(xk.out _ HB0.out).mono ?_
 rintro e w1 ⟨rfl,hb⟩
 have HB1:=aa (HB0.out.trans (hb.mono HB0.out.size));clear hb;go_wp2;go_ret2;exact⟨rfl,HB1.out⟩
theorem Dc0 (lo R:Nat)(st:Da)(lv:Value)(L:List Gb)(k b x l:Int)(T:Nat)(sec rnd pub id:ByteArray)(bat:Int)(Za:Int->Int->Nat->Nat->ByteArray)(w:World)(h:RD lo R st lv L w)(ok:qf st)(hL:L.length<2199023255552)(hlo:lo<=w.heap.size)(hs0:0<=st.syncs)(hs1:st.syncs<9223372036854775806)(ht0:0<=st.term)(ht1:st.term<9223372036854775807)(hk:k=1\/k=2)(hb:0<=b/\b<=100)(hx:0<=x/\x<=100)(hT:T<=4)(hl:1<=l/\l<=100)(z1:(Za (l-1) 0 T 0).size<=16)(z2:pub.size<=16)(hid:id=(hv k 8 (qa 1 7++(Yd k b x (T:Int) l++Za (l-1) 0 T 0++pub))))(m0 m1 m2 tot m4 m5:Int)(hZ:∀V:World,Calls prog 83 #[.agg #[int i64 k,int i64 b,int i64 x,int i64 (T:Int),int i64 l]] V λe w'=>e=.returned (.agg #[int i64 m0,int i64 m1,int i64 m2,int i64 tot,int i64 m4,int i64 m5])/\Below V.heap.size V w')
  (Dm:∀V:World,Below w.heap.size w V->Calls prog 223 #[pointer (some ⟨R,0,none⟩),.agg #[int i64 k,int i64 b,int i64 x,int i64 (T:Int),int i64 l],.agg #[string sec,string rnd,string pub],int i64 bat] V λe w'=>e=.returned (int i64 0)/\Below V.heap.size V w')
  (hG:∀V:World,Calls prog 214 #[.agg #[int i64 k,int i64 b,int i64 x,int i64 (T:Int),int i64 l],.agg #[string sec,string rnd,string pub],.agg #[int i64 (l-1),int i64 0,int i64 0,int i64 0]] V λe w'=>∃ra rc vs,e=.returned (.agg #[int i64 (l-1),int i64 0,int i64 0,int i64 0,slice ra (T+1) rc])/\Zc V.heap.size w' (slice ra (T+1) rc) vs (T+1) T (Za (l-1) 0)/\Below V.heap.size V w')
  (s1:Da)(hs:s1={st with term:=st.term+1}):Calls prog 150 #[pointer (some ⟨R,0,none⟩),.agg #[int i64 k,int i64 b,int i64 x,int i64 (T:Int),int i64 l],.agg #[string sec,string rnd,string pub],int i64 bat] w λe w'=>Zf lo R (Ae s1) lv (L.length+1) w w'/\((Bq s1 id tot=0/\∃S Ks ra rc,e=.returned (.tuple #[pointer (some ⟨S,0,none⟩),int i64 0])/\ma w' S (Oc R (st.term+1) false k b x (T:Int) l sec rnd pub bat (Yd k b x (T:Int) l++Za (l-1) 0 T 0++pub) id (Vl s1 id tot).2.1 (Vl s1 id tot).2.1 (Vl s1 id tot).1 (slice ra Ks.length rc)) 302/\Nf lo w' (slice ra Ks.length rc) Ks T Za/\Ks.length<=1/\w.heap.size<=S/\∀q,og T (slice ra Ks.length rc) Ks q->w.heap.size<=q)\/(Bq s1 id tot≠0/\e=.returned (.tuple #[pointer none,int i64 (Bq s1 id tot)]))):=by
 obtain⟨B,hB⟩:=Ca (w.heap.size);obtain⟨W0,hW⟩:=Ca ((w.alloc (.cells #[int i64 k,int i64 b,int i64 x,int i64 (T:Int),int i64 l] 26)).alloc (.cells #[string sec,string rnd,string pub] 42))
 have Qb:=aa (show ma W0 B [int i64 k,int i64 b,int i64 x,int i64 (T:Int),int i64 l] 26/\ma W0 (B+1) [string sec,string rnd,string pub] 42 by
  subst hW hB;refine⟨(ma.new w _ _).alloc _,?_⟩;have h:=ma.new (w.alloc (.cells #[int i64 k,int i64 b,int i64 x,int i64 (T:Int),int i64 l] 26)) [string sec,string rnd,string pub] 42;simp only[World.size_alloc]at h;exact h)
 have HB0:=Gc hW;have om:=aa h;have Vq:=aa (show qf s1 by rw[hs];exact ok.tm _);have Hl:=aa (show∀q,Wh R lv q->q<B by rw[<-hB];exactλq e=>(h.lt e).2);have yh:=aa hlo;have eu:=aa hL;have jw:=aa (show 0<=s1.syncs/\s1.syncs<9223372036854775806 by rw[hs];exact⟨hs0,hs1⟩);have wm:=aa hs;have xk:=aa Dm;have Qq:=aa (λ(V:World) (h1:R<V.heap.size) (h2:V.cell? ⟨R,4,none⟩=some (int i64 (st.term+1))) (h3:lo<=V.heap.size)=>ES lo R (st.term+1) k b x l T sec rnd pub bat Za V h1 h2 h3 hk hb hx hT hl z1 z2 hG);rw[<-hid]at Qq;have wt:IntKind.i64.wrap (st.term+1)=st.term+1:=by rw[IntKind.wrap_i64]<;>omega
 have tL:wrap64 (st.term+1)=st.term+1:=by rw[Yo]<;>omega
 have gH:=aa (λ(S0:Nat) (ra:Option Addr) (rc:Nat) (Ks:List Ig) (rq rb:Int) (ri:ByteArray) (V:World) (hS:ma V S0 (Oc R (st.term+1) false k b x (T:Int) l sec rnd pub bat (Yd k b x (T:Int) l++Za (l-1) 0 T 0++pub) id 0 0 0 (slice ra Ks.length rc)) 302)=>cd0 rq rb ri m0 m1 m2 tot m4 m5 hS hZ);clear hZ;have Ea:=aa hW;have Rc:=aa hB;have c0:=Fa Qb.out.1;have c1:=Ja Qb.out.1;have c2:=Ha Qb.out.1;have c3:=Xa Qb.out.1;have c4:=Ya Qb.out.1;have c5:=Fa Qb.out.2;have c6:=Ja Qb.out.2;have c7:=Ha Qb.out.2;clear h ok hL hlo hs0 hs1 ht0 ht1 hk hb hx hT hl z1 z2 hid Dm hG hW hB hs;go_enter func150,ntmps150;go_upto_region 1 with fail;rw[Ea.out,Rc.out];clear Ea;go_wp2_with fail;refine(xk.out _ HB0.out).mono ?_
 rintro e w1 ⟨rfl,hb1⟩
 have HB1:=aa (HB0.out.trans (hb1.mono HB0.out.size));have HR1:=aa (om.out.below HB1.out);have r4:=Ya HR1.out.b;have f4:=HR1.out.b.free 4;obtain⟨W1,hW1⟩:=Ca (w1.setCell ⟨R,4,none⟩ (int i64 (st.term+1)));have Rm:=aa (show R≠B/\R≠B+1 by have:=Hl.out R (.inl rfl);omega);have Nc:=aa (show ma W1 B [int i64 k,int i64 b,int i64 x,int i64 (T:Int),int i64 l] 26/\ma W1 (B+1) [string sec,string rnd,string pub] 42 by rw[<-hW1];exact⟨(Qb.out.1.on hb1).other _ (Ne.symm Rm.out.1),(Qb.out.2.on hb1).other _ (Ne.symm Rm.out.2)⟩)
 have HR2:=aa (show RD lo R s1 lv L W1 by
  rw[<-hW1,wm.out];exact⟨HR1.out.b.set 4 _,xc HR1.out.r (Jc _ _ _) (λq e e2=>Km HR1.out.r HR1.out.b (by decide) (by rw[<-(show q=R from e2)];exact e)),HR1.out.rl.same rfl rfl rfl rfl,HR1.out.lR⟩)
 have Ce:=aa (show za (Wh R lv) w W1 by rw[<-hW1];exact(za.of_below HB1.out).setCell (p:=⟨R,4,none⟩) (.inl (.inl rfl)) _);have HR4:=aa (show W1.cell? ⟨R,4,none⟩=some (int i64 (st.term+1)) by rw[<-hW1];exact(HR1.out.b.set 4 _).cell 4);clear hb1 c0 c1 c2 c3 c4 c5 c6 c7;go_upto_region 5 with fail
 (try rw[hW1])
 clear hW1 r4 f4 wt tL;have c0:=Fa Nc.out.1;have c1:=Ja Nc.out.1;have c2:=Ha Nc.out.1;have c3:=Xa Nc.out.1;have c4:=Ya Nc.out.1;have c5:=Fa Nc.out.2;have c6:=Ja Nc.out.2;have c7:=Ha Nc.out.2;go_wp2_with fail;refine(Qq.out _ HR2.out.b.lt HR4.out (Nat.le_trans yh.out Ce.out.size)).mono ?_
 rintro e w2 ⟨S,Ks,ra,rc,rfl,hS2,Em,hKs,ze,hf2,hb2⟩
 have HS2:=aa hS2;have HT2:=aa Em;have bu:=aa hKs;have Vd:=aa (show w.heap.size<=S from Nat.le_trans Ce.out.size ze);have Oq:=aa (λq e=>Nat.le_trans Ce.out.size (hf2 q e));have HR3:=aa (HR2.out.below hb2);have Gd:=aa (Ce.out.after hb2);have Tq:=aa (show∀q,Wh R lv q->¬og T (slice ra Ks.length rc) Ks q fromλq e e2=>by have h1:=Hl.out q e;have h2:=Oq.out q e2;rw[Rc.out]at h2;omega);clear hS2 Em hKs ze hf2 hb2 c0 c1 c2 c3 c4 c5 c6 c7 Qq HR2 Nc Qb xk om HR1 HB0 HB1 Ce HR4;have Mh:=aa (MS HR3.out Vq.out (Nat.le_of_lt eu.out) jw.out.1 (by have:=jw.out;omega));go_wp2_with fail;refine Mh.out.mono ?_
 rintro e w3 ⟨q0,b0,d0,q1,b1,d1,rfl,Mw,hrc⟩
 have rA:=aa hrc;obtain⟨L3,hr3,hl3,hk3⟩:=Mw;obtain⟨A,hA⟩:=Ca (w3.heap.size);obtain⟨W3,hW3⟩:=Ca ((w3.alloc (.cells #[int i64 q0,int i64 b0,string d0] 186)).alloc (.cells #[int i64 q1,int i64 b1,string d1] 186));have HB3:=Gc hW3
 have Oj:=aa (show ma W3 A (#[int i64 q0,int i64 b0,string d0]).toList 186/\ma W3 (A+1) (#[int i64 q1,int i64 b1,string d1]).toList 186 by
  rw[<-hW3,<-hA];refine⟨(ma.new w3 _ _).alloc _,?_⟩;have h:=ma.new (w3.alloc (.cells #[int i64 q0,int i64 b0,string d0] 186)) (#[int i64 q1,int i64 b1,string d1]).toList 186;simp only[World.size_alloc]at h;exact h)
 have Xt:=aa hA;have qj:=aa (show S<w3.heap.size from Nat.lt_of_lt_of_le HS2.out.lt hk3.size);have Mi:=aa (show∀q,og T (slice ra Ks.length rc) Ks q->q<w3.heap.size fromλq e=>Nat.lt_of_lt_of_le (HT2.out.lt e).2 hk3.size);have qy:=aa (show w.heap.size<=A by rw[<-hA];exact(Gd.out.trans hk3 (λ_ e=>.inl e)).size);have Ki:=aa (show B<=A by rw[<-Rc.out];exact qy.out);have Ed:=aa ((Mc HS2.out hk3 (HR3.out.nS HS2.out)).on HB3.out);have ru:=aa ((HT2.out.kept hk3 (λq e e2=>Tq.out q e2 e)).on HB3.out);have HR4:=aa (hr3.below HB3.out);have Rb:=aa ((Gd.out.trans hk3 (λ_ e=>.inl e)).after HB3.out);have Wv:=aa (show L3.length<=L.length from hl3);have wh:=aa (show Zf lo R (Ae s1) lv (L.length+1) w W3 from⟨lv,L3,HR4.out,Nat.le_succ_of_le hl3,Rb.out,λ_ e=>.inl e⟩);have a0:=Fa Oj.out.1;have a1:=Fa Oj.out.2;clear hrc hr3 hl3 hk3 Mh HS2 HT2 HR3 Gd;go_upto_region 7 with fail
 (try rw[hW3])
 (try rw[hA])
 clear hW3 hA;by_cases hc:Sg s1=0
 ·have e1:(Sg s1==0)=true:=by simp[hc]
  have e2:(Sg s1 !=0)=false:=by simp[hc]
  have HC:=aa hc;have Xq:=aa (rA.out hc);clear hc rA;have um:=aa (show S<A by rw[<-Xt.out];exact qj.out);have HX:=aa (λ(V:World) (hk:za (λq=>A<=q) W3 V)=>(⟨Mc Ed.out hk (λe=>by have:=um.out;omega),ru.out.kept hk (λq e e2=>by have:=Mi.out q e;have:=Xt.out;omega),HR4.out.kept hk (λq e e2=>by have h1:=Hl.out q e;have h2:=Ki.out;omega),Rb.out.trans hk (λq e=>.inr (Nat.le_trans qy.out e))⟩:ma V S (Oc R (st.term+1) false k b x (T:Int) l sec rnd pub bat (Yd k b x (T:Int) l++Za (l-1) 0 T 0++pub) id 0 0 0 (slice ra Ks.length rc)) 302/\Nf lo V (slice ra Ks.length rc) Ks T Za/\RD lo R (Ae s1) lv L3 V/\za (Wh R lv) w V));obtain⟨⟨x0,y0,u0⟩,hm0⟩:∃m,ji id tot (q0,b0,d0)=m:=⟨_,rfl⟩;obtain⟨⟨x1,y1,u1⟩,hm1⟩:∃m,ji id tot (q1,b1,d1)=m:=⟨_,rfl⟩;have fH:=aa (λ(V:World) (hk:za (λq=>A<=q) W3 V)=>gH.out S ra rc Ks q0 b0 d0 V (HX.out V hk).1);have Uz:=aa (λ(V:World) (hk:za (λq=>A<=q) W3 V)=>gH.out S ra rc Ks q1 b1 d1 V (HX.out V hk).1);rw[hm0]at fH;rw[hm1]at Uz
  have Sm:=aa (show Vl s1 id tot=if jC (x0,y0,u0) (x1,y1,u1)then(x1,y1,u1)else(x0,y0,u0) by
   unfold Vl Ry;rw[<-Xq.out.1,<-Xq.out.2,hm0,hm1])
  clear hm0 hm1 gH a0 a1;have a0:=Fa Oj.out.1;have a1:=Ja Oj.out.1;have a2:=Ha Oj.out.1;go_wp2_with fail;refine(fH.out _ (za.refl _ _)).mono ?_
  rintro e w4 ⟨rfl,hb4⟩
  have Vi:=aa (And.intro (Oj.out.1.on hb4) (Oj.out.2.on hb4));have Ep:=aa (za.of_below (F:=λq=>A<=q) hb4);clear hb4 a0 a1 a2 fH;have a0:=Fa Vi.out.1;have a1:=Ja Vi.out.1;have a2:=Ha Vi.out.1;have f0:=Vi.out.1.free 0;have f1:=Vi.out.1.free 1;have f2:=Vi.out.1.free 2;obtain⟨W4,Gj⟩:=Ca ((((w4.setCell ⟨A,0,none⟩ (int i64 x0)).setCell ⟨A,1,none⟩ (int i64 y0)).setCell ⟨A,2,none⟩ (string u0)));have Hq:=aa (show ma W4 A [int i64 x0,int i64 y0,string u0] 186/\ma W4 (A+1) [int i64 q1,int i64 b1,string d1] 186 by rw[<-Gj];exact⟨(((Vi.out.1.set 0 (int i64 x0)).set 1 (int i64 y0)).set 2 (string u0)),(((Vi.out.2.other _ (show A+1≠A by omega)).other _ (show A+1≠A by omega)).other _ (show A+1≠A by omega))⟩);have Wn:=aa (show za (λq=>A<=q) W3 W4 by rw[<-Gj];exact(((Ep.out.setCell (p:=⟨A,0,none⟩) (.inl Aa) (int i64 x0)).setCell (p:=⟨A,1,none⟩) (.inl Aa) (int i64 y0)).setCell (p:=⟨A,2,none⟩) (.inl Aa) (string u0)));go_upto_region 10 with fail
  (try rw[Gj])
  clear Gj a0 a1 a2 f0 f1 f2;have a0:=Fa Hq.out.2;have a1:=Ja Hq.out.2;have a2:=Ha Hq.out.2;go_wp2_with fail;refine(Uz.out _ Wn.out).mono ?_
  rintro e w6 ⟨rfl,hb6⟩
  have Jh:=aa (And.intro (Hq.out.1.on hb6) (Hq.out.2.on hb6));have Ls:=aa (Wn.out.after hb6);clear hb6 a0 a1 a2 Uz;have a0:=Fa Jh.out.2;have a1:=Ja Jh.out.2;have a2:=Ha Jh.out.2;have f0:=Jh.out.2.free 0;have f1:=Jh.out.2.free 1;have f2:=Jh.out.2.free 2;obtain⟨W6,Dn⟩:=Ca ((((w6.setCell ⟨A+1,0,none⟩ (int i64 x1)).setCell ⟨A+1,1,none⟩ (int i64 y1)).setCell ⟨A+1,2,none⟩ (string u1)));have Pj:=aa (show ma W6 A [int i64 x0,int i64 y0,string u0] 186/\ma W6 (A+1) [int i64 x1,int i64 y1,string u1] 186 by rw[<-Dn];exact⟨(((Jh.out.1.other _ (show A≠A+1 by omega)).other _ (show A≠A+1 by omega)).other _ (show A≠A+1 by omega)),(((Jh.out.2.set 0 (int i64 x1)).set 1 (int i64 y1)).set 2 (string u1))⟩);have Lh:=aa (show za (λq=>A<=q) W3 W6 by rw[<-Dn];exact(((Ls.out.setCell (p:=⟨A+1,0,none⟩) (.inl (Nat.le_succ _)) (int i64 x1)).setCell (p:=⟨A+1,1,none⟩) (.inl (Nat.le_succ _)) (int i64 y1)).setCell (p:=⟨A+1,2,none⟩) (.inl (Nat.le_succ _)) (string u1)));go_upto_region 11 with fail
  (try rw[Dn])
  clear Dn a0 a1 a2 f0 f1 f2 Jh Hq Vi Oj Ep Wn Ls;obtain⟨⟨zq,zb,zd⟩,hz⟩:∃m,Vl s1 id tot=m:=⟨_,rfl⟩;rw[hz]at Sm;have HZ:=aa hz;clear hz;have a0:=Fa Pj.out.1;have a1:=Ja Pj.out.1;have a2:=Ha Pj.out.1;have c0:=Fa Pj.out.2;have c1:=Ja Pj.out.2;have c2:=Ha Pj.out.2;have f0:=Pj.out.1.free 0;have f1:=Pj.out.1.free 1;have f2:=Pj.out.1.free 2;have dN:=aa (λ(V:World) (hk:za (λq=>A<=q) W3 V)=>(⟨HX.out V hk,⟨lv,L3,(HX.out V hk).2.2.1,Nat.le_succ_of_le Wv.out,(HX.out V hk).2.2.2,λ_ e=>.inl e⟩⟩:(ma V S (Oc R (st.term+1) false k b x (T:Int) l sec rnd pub bat (Yd k b x (T:Int) l++Za (l-1) 0 T 0++pub) id 0 0 0 (slice ra Ks.length rc)) 302/\Nf lo V (slice ra Ks.length rc) Ks T Za/\RD lo R (Ae s1) lv L3 V/\za (Wh R lv) w V)/\Zf lo R (Ae s1) lv (L.length+1) w V));have au:=aa (λ(V:World) (hk:za (λq=>A<=q) W3 V) (hz:zq=0)=>(⟨by unfold Bq;rw[HZ.out];exact(if_neg (λe=>e HC.out)).trans (if_pos hz),(dN.out V hk).2⟩:Bq s1 id tot=8/\Zf lo R (Ae s1) lv (L.length+1) w V))
  have vk:=aa (λ(V:World) (hk:za (λq=>A<=q) W3 V) (hz:zq≠0)=>(by
   obtain⟨⟨hS,hT,_,_⟩,hE⟩:=dN.out V hk;have k1:=hS.set 16 (int i64 zq);have k2:=k1.set 15 (int i64 zb);have t1:=hT.kept (Jc _ ⟨S,16,none⟩ (int i64 zq)) (λq e e2=>hT.not hS (by rw[<-(show q=S from e2)];exact e));have t2:=t1.kept (Jc _ ⟨S,15,none⟩ (int i64 zb)) (λq e e2=>t1.not k1 (by rw[<-(show q=S from e2)];exact e));have t3:=t2.kept (Jc _ ⟨S,14,none⟩ (int i64 zb)) (λq e e2=>t2.not k2 (by rw[<-(show q=S from e2)];exact e));exact⟨by unfold Bq;rw[HZ.out];exact(if_neg (λe=>e HC.out)).trans (if_neg hz),((hE.setS hS Vd.out 16 _).setS k1 Vd.out 15 _).setS k2 Vd.out 14 _,k2.set 14 _,t3⟩:Bq s1 id tot=0/\Zf lo R (Ae s1) lv (L.length+1) w (((V.setCell ⟨S,16,none⟩ (int i64 zq)).setCell ⟨S,15,none⟩ (int i64 zb)).setCell ⟨S,14,none⟩ (int i64 zb))/\ma (((V.setCell ⟨S,16,none⟩ (int i64 zq)).setCell ⟨S,15,none⟩ (int i64 zb)).setCell ⟨S,14,none⟩ (int i64 zb)) S (Oc R (st.term+1) false k b x (T:Int) l sec rnd pub bat (Yd k b x (T:Int) l++Za (l-1) 0 T 0++pub) id zb zb zq (slice ra Ks.length rc)) 302/\Nf lo (((V.setCell ⟨S,16,none⟩ (int i64 zq)).setCell ⟨S,15,none⟩ (int i64 zb)).setCell ⟨S,14,none⟩ (int i64 zb)) (slice ra Ks.length rc) Ks T Za))
  have zt:=aa (HX.out _ Lh.out);have s14:=Aj zt.out.1;have s15:=pg zt.out.1;have s16:=ag zt.out.1;have f14:=zt.out.1.free 14;have f15:=zt.out.1.free 15;have f16:=zt.out.1.free 16;have I9:A≠S:=by have:=um.out;omega
  have nSA:S≠A:=Ne.symm I9;by_cases h1:x0<x1
  ·have d1:decide (x0<x1)=true:=decide_eq_true h1;obtain⟨rfl,rfl,rfl⟩:x1=zq/\y1=zb/\u1=zd:=by have h:=Sm.out;rw[if_pos (.inl h1)]at h;simpa[eq_comm]using h
   clear h1;have HKK:=aa ((((Lh.out.setCell (p:=⟨A,0,none⟩) (.inl Aa) (int i64 x1)).setCell (p:=⟨A,1,none⟩) (.inl Aa) (int i64 y1)).setCell (p:=⟨A,2,none⟩) (.inl Aa) (string u1)));by_cases hz:x1=0
   ·have e3:(x1==0)=true:=by simpa using hz
    have HE:=aa (au.out _ HKK.out hz);clear hz;go_wp2_with fail;go_ret2;rw[HE.out.1];exact⟨HE.out.2,.inr ⟨by decide,rfl⟩⟩
   ·have e3:(x1==0)=false:=by simpa using hz
    have HE:=aa (vk.out _ HKK.out hz);clear hz;go_wp2_with fail;go_ret2;rw[HE.out.1,HZ.out];exact⟨HE.out.2.1,.inl ⟨rfl,S,Ks,ra,rc,rfl,HE.out.2.2.1,HE.out.2.2.2,bu.out,Vd.out,Oq.out⟩⟩
  ·have d1:decide (x0<x1)=false:=decide_eq_false h1;by_cases h2:x1=x0
   ·have d2:(x1==x0)=true:=by simpa using h2
    by_cases h3:y0<y1
    ·have d3:decide (y0<y1)=true:=decide_eq_true h3;obtain⟨hz1,rfl,rfl⟩:x1=zq/\y1=zb/\u1=zd:=by have h:=Sm.out;rw[if_pos (.inr ⟨h2,h3⟩)]at h;simpa[eq_comm]using h
     clear h1 h2 h3;subst hz1;have HKK:=aa ((((Lh.out.setCell (p:=⟨A,0,none⟩) (.inl Aa) (int i64 x1)).setCell (p:=⟨A,1,none⟩) (.inl Aa) (int i64 y1)).setCell (p:=⟨A,2,none⟩) (.inl Aa) (string u1)));by_cases hz:x1=0
     ·have e3:(x1==0)=true:=by simpa using hz
      have HE:=aa (au.out _ HKK.out hz);clear hz;go_wp2_with fail;go_ret2;rw[HE.out.1];exact⟨HE.out.2,.inr ⟨by decide,rfl⟩⟩
     ·have e3:(x1==0)=false:=by simpa using hz
      have HE:=aa (vk.out _ HKK.out hz);clear hz;go_wp2_with fail;go_ret2;rw[HE.out.1,HZ.out];exact⟨HE.out.2.1,.inl ⟨rfl,S,Ks,ra,rc,rfl,HE.out.2.2.1,HE.out.2.2.2,bu.out,Vd.out,Oq.out⟩⟩
    ·have d3:decide (y0<y1)=false:=decide_eq_false h3;obtain⟨rfl,rfl,rfl⟩:x0=zq/\y0=zb/\u0=zd:=by have h:=Sm.out;rw[if_neg (λe=>e.elim h1 (λe=>h3 e.2))]at h;simpa[eq_comm]using h
     clear h1 h2 h3;have HKK:=aa (Lh.out);by_cases hz:x0=0
     ·have e3:(x0==0)=true:=by simpa using hz
      have HE:=aa (au.out _ HKK.out hz);clear hz;go_wp2_with fail;go_ret2;rw[HE.out.1];exact⟨HE.out.2,.inr ⟨by decide,rfl⟩⟩
     ·have e3:(x0==0)=false:=by simpa using hz
      have HE:=aa (vk.out _ HKK.out hz);clear hz;go_wp2_with fail;go_ret2;rw[HE.out.1,HZ.out];exact⟨HE.out.2.1,.inl ⟨rfl,S,Ks,ra,rc,rfl,HE.out.2.2.1,HE.out.2.2.2,bu.out,Vd.out,Oq.out⟩⟩
   ·have d2:(x1==x0)=false:=by simpa using h2
    obtain⟨rfl,rfl,rfl⟩:x0=zq/\y0=zb/\u0=zd:=by have h:=Sm.out;rw[if_neg (λe=>e.elim h1 (λe=>h2 e.1))]at h;simpa[eq_comm]using h
    clear h1 h2;have HKK:=aa (Lh.out);by_cases hz:x0=0
    ·have e3:(x0==0)=true:=by simpa using hz
     have HE:=aa (au.out _ HKK.out hz);clear hz;go_wp2_with fail;go_ret2;rw[HE.out.1];exact⟨HE.out.2,.inr ⟨by decide,rfl⟩⟩
    ·have e3:(x0==0)=false:=by simpa using hz
     have HE:=aa (vk.out _ HKK.out hz);clear hz;go_wp2_with fail;go_ret2;rw[HE.out.1,HZ.out];exact⟨HE.out.2.1,.inl ⟨rfl,S,Ks,ra,rc,rfl,HE.out.2.2.1,HE.out.2.2.2,bu.out,Vd.out,Oq.out⟩⟩
 ·have e1:(Sg s1==0)=false:=by simpa using hc
  have e2:(Sg s1 !=0)=true:=by simpa using hc
  have HC:=aa hc;clear hc;go_wp2_with fail;go_ret2;have hq:Bq s1 id tot=Sg s1:=if_pos HC.out;rw[hq];exact⟨wh.out,.inr ⟨HC.out,rfl⟩⟩
end Go.Proofs.YtgaoeoijdpdjiabGreatDoor
