import Derived.Test.YtgaoeoijdpdjiabGreatDoorPart18
import Derived.Test.YtgaoeoijdpdjiabGreatDoorPart19
import Derived.WalkSmall
open Go.Value (int string pointer slice)
open Go.IntKind (i64)
open Go.Proofs.Tryz
set_option maxRecDepth 100000
set_option maxHeartbeats 8000000
namespace Go.Proofs.YtgaoeoijdpdjiabGreatDoor
open Go.RowKit
theorem uR (k b x t l tag:Int)(seed:ByteArray)(p0 p1 p2 p3:Int)(bk o c:Nat)(xs:List ByteArray)(w:World)(hcells:∀(j:Nat) y,xs[j]?=some y->w.cell? ⟨bk,o+j,none⟩=some (string y))(hbk:bk<w.heap.size)(hcap:xs.length<=c)(hN:xs.length<=1000)
  (hk:k=1\/k=2)(h1:1<=b)(h2:b<=16)(hs:seed.size+(Dc xs).size<=300)(hT:Tn w):Calls prog 311 #[.agg #[int i64 k,int i64 b,int i64 x,int i64 t,int i64 l,string seed,int i64 p0,int i64 p1,int i64 p2,int i64 p3],int i64 tag,slice (some ⟨bk,o,none⟩) xs.length c] w λe w'=>e=.returned (string (hv k b (qa 1 tag++(seed++(qa 1 p0++(qa 4 p1++Dc xs))))))/\Below w.heap.size w w':=by
 obtain⟨W0,hW⟩:=Ca (w.alloc (.cells #[int i64 k,int i64 b,int i64 x,int i64 t,int i64 l,string seed,int i64 p0,int i64 p1,int i64 p2,int i64 p3] 344));have HF:=aa (show Xp w.heap.size W0 k b x t l seed p0 p1 p2 p3 by subst hW;refine⟨?_,?_,?_,?_,?_,?_,?_,?_,?_,?_⟩<;>simp[go_sem]);have HB:=Xd hW;have hz:W0.heap.size=w.heap.size+1:=by subst hW;simp
 have HT:=aa (hT.on HB.out)
 have HS:=aa (λ(V:World) (h:Below W0.heap.size W0 V)=>(by
  obtain⟨c0,c1,c2,c3,c4,c5,c6,c7,c8,c9⟩:=HF.out.below h (by omega);exact⟨c0,c1,c2,c3,c4,c5,c6,c7,h⟩:V.cell? ⟨w.heap.size,0,none⟩=some (int i64 k)/\V.cell? ⟨w.heap.size,1,none⟩=some (int i64 b)/\V.cell? ⟨w.heap.size,2,none⟩=some (int i64 x)/\V.cell? ⟨w.heap.size,3,none⟩=some (int i64 t)/\V.cell? ⟨w.heap.size,4,none⟩=some (int i64 l)/\V.cell? ⟨w.heap.size,5,none⟩=some (string seed)/\V.cell? ⟨w.heap.size,6,none⟩=some (int i64 p0)/\V.cell? ⟨w.heap.size,7,none⟩=some (int i64 p1)/\Below W0.heap.size W0 V))
 have Xe:=aa (λV:World=>Pt p0 V);have Np:=aa (λV:World=>Kr 4 p1 V (by decide));have HJ:=aa (λ(V:World) (h:Below W0.heap.size W0 V)=>oF bk o c xs V (λj y hj=>(h.cell (p:=⟨bk,o+j,none⟩) (by show bk<W0.heap.size;omega)).trans ((HB.out.cell (p:=⟨bk,o+j,none⟩) hbk).trans (hcells j y hj))) (by have:=h.size;omega) hN hcap (by omega))
 have HV:=aa (λ(V:World) (h:Below W0.heap.size W0 V)=>gL k b x t l tag V.heap.size 0 4 [seed,qa 1 p0,qa 4 p1,Dc xs] (V.alloc (.cells #[string seed,string (qa 1 p0),string (qa 4 p1),string (Dc xs)] 9)) (by
  intro j y hj
  match j,hj with
  |0,hj=>simp at hj;subst hj;simp[go_sem]
  |1,hj=>simp at hj;subst hj;simp[go_sem]
  |2,hj=>simp at hj;subst hj;simp[go_sem]
  |3,hj=>simp at hj;subst hj;simp[go_sem]) (by simp) (by simp) (by simp) hk h1 h2 (by rw[Eu];simp[Sa];omega) ((HT.out.on h).alloc _))
 simp only[Dc,Ar,List.length_cons,List.length_nil,Nat.reduceAdd]at HV;clear hcells hT;go_enter func311,ntmps311;go_wp2_with fail;try rw[hW]
 go_region_held3 (λV=>V.cell? ⟨w.heap.size,0,none⟩=some (int i64 k)/\V.cell? ⟨w.heap.size,1,none⟩=some (int i64 b)/\V.cell? ⟨w.heap.size,2,none⟩=some (int i64 x)/\V.cell? ⟨w.heap.size,3,none⟩=some (int i64 t)/\V.cell? ⟨w.heap.size,4,none⟩=some (int i64 l)/\V.cell? ⟨w.heap.size,5,none⟩=some (string seed)/\V.cell? ⟨w.heap.size,6,none⟩=some (int i64 p0)/\V.cell? ⟨w.heap.size,7,none⟩=some (int i64 p1)/\Below W0.heap.size W0 V) (first|exact HS.out _ Bc|exact HS.out _ (Uc.alloc Uc.size _)|exact HS.out _ Uc|exact HS.out _ hS2|exact HS.out _ hS1|exact HS.out _ Vb.drew) (first|(go_at_call 312;refine(Xe.out _).mono ?_;rintro e w1 ⟨rfl,hb1⟩;have hS1:=Ga (Below.refl W0.heap.size W0).drew hb1 Aa)|(go_at_call 160;refine(Np.out _).mono ?_;rintro e w2 ⟨rfl,hb2⟩;have hS2:=Ga hS1 hb2 Aa)|(go_at_call 161;refine(HJ.out _ hS2).mono ?_;rintro e w3 ⟨rfl,hb3⟩;have Uc:=Ga hS2 hb3 Aa)|(go_at_call 248;refine(HV.out _ Uc).mono ?_;rintro e w4 ⟨rfl,hb4⟩;have Bc:=Ga (Uc.alloc Uc.size _) hb4 Aa));go_wp2;go_ret;exact⟨rfl,HB.out.trans (Bc.mono (by omega))⟩
theorem jK (k b x t l tag:Int)(seed:ByteArray)(p0 p1 p2 p3:Int)(bk o c:Nat)(xs:List ByteArray)(w:World)(hcells:∀(j:Nat) y,xs[j]?=some y->w.cell? ⟨bk,o+j,none⟩=some (string y))(hbk:bk<w.heap.size)(hcap:xs.length<=c)(hN:xs.length<=1000)
  (hk:k=1\/k=2)(h1:1<=b)(h2:b<=16)(hs:seed.size+(Dc xs).size<=200)(hT:Tn w):Calls prog 317 #[.agg #[int i64 k,int i64 b,int i64 x,int i64 t,int i64 l,string seed,int i64 p0,int i64 p1,int i64 p2,int i64 p3],int i64 tag,slice (some ⟨bk,o,none⟩) xs.length c] w λe w'=>e=.returned (string (hv k b (qa 1 tag++(seed++(qa 1 p0++(qa 4 p1++(qa 1 p2++Dc xs)))))))/\Below w.heap.size w w':=by
 obtain⟨W0,hW⟩:=Ca (w.alloc (.cells #[int i64 k,int i64 b,int i64 x,int i64 t,int i64 l,string seed,int i64 p0,int i64 p1,int i64 p2,int i64 p3] 344));have HF:=aa (show Xp w.heap.size W0 k b x t l seed p0 p1 p2 p3 by subst hW;refine⟨?_,?_,?_,?_,?_,?_,?_,?_,?_,?_⟩<;>simp[go_sem]);have HB:=Xd hW;have hz:W0.heap.size=w.heap.size+1:=by subst hW;simp
 have HT:=aa (hT.on HB.out)
 have HS:=aa (λ(V:World) (h:Below W0.heap.size W0 V)=>(by
  obtain⟨c0,c1,c2,c3,c4,c5,c6,c7,c8,c9⟩:=HF.out.below h (by omega);exact⟨c0,c1,c2,c3,c4,c5,c6,c7,c8,c9,h⟩:V.cell? ⟨w.heap.size,0,none⟩=some (int i64 k)/\V.cell? ⟨w.heap.size,1,none⟩=some (int i64 b)/\V.cell? ⟨w.heap.size,2,none⟩=some (int i64 x)/\V.cell? ⟨w.heap.size,3,none⟩=some (int i64 t)/\V.cell? ⟨w.heap.size,4,none⟩=some (int i64 l)/\V.cell? ⟨w.heap.size,5,none⟩=some (string seed)/\V.cell? ⟨w.heap.size,6,none⟩=some (int i64 p0)/\V.cell? ⟨w.heap.size,7,none⟩=some (int i64 p1)/\V.cell? ⟨w.heap.size,8,none⟩=some (int i64 p2)/\V.cell? ⟨w.heap.size,9,none⟩=some (int i64 p3)/\Below W0.heap.size W0 V))
 have Xe:=aa (λV:World=>Pt p2 V);have HJ:=aa (λ(V:World) (h:Below W0.heap.size W0 V)=>oF bk o c xs V (λj y hj=>(h.cell (p:=⟨bk,o+j,none⟩) (by show bk<W0.heap.size;omega)).trans ((HB.out.cell (p:=⟨bk,o+j,none⟩) hbk).trans (hcells j y hj))) (by have:=h.size;omega) hN hcap (by omega))
 have HV:=aa (λ(V:World) (h:Below W0.heap.size W0 V)=>uR k b x t l tag seed p0 p1 p2 p3 V.heap.size 0 2 [qa 1 p2,Dc xs] (V.alloc (.cells #[string (qa 1 p2),string (Dc xs)] 9)) (by
  intro j y hj
  match j,hj with
  |0,hj=>simp at hj;subst hj;simp[go_sem]
  |1,hj=>simp at hj;subst hj;simp[go_sem]) (by simp) (by simp) (by simp) hk h1 h2 (by rw[Eu];simp[Sa];omega) ((HT.out.on h).alloc _))
 simp only[Dc,Ar,List.length_cons,List.length_nil,Nat.reduceAdd]at HV;clear hcells hT;go_enter func317,ntmps317;go_wp2_with fail;try rw[hW]
 go_region_held3 (λV=>V.cell? ⟨w.heap.size,0,none⟩=some (int i64 k)/\V.cell? ⟨w.heap.size,1,none⟩=some (int i64 b)/\V.cell? ⟨w.heap.size,2,none⟩=some (int i64 x)/\V.cell? ⟨w.heap.size,3,none⟩=some (int i64 t)/\V.cell? ⟨w.heap.size,4,none⟩=some (int i64 l)/\V.cell? ⟨w.heap.size,5,none⟩=some (string seed)/\V.cell? ⟨w.heap.size,6,none⟩=some (int i64 p0)/\V.cell? ⟨w.heap.size,7,none⟩=some (int i64 p1)/\V.cell? ⟨w.heap.size,8,none⟩=some (int i64 p2)/\V.cell? ⟨w.heap.size,9,none⟩=some (int i64 p3)/\Below W0.heap.size W0 V) (first|exact HS.out _ Bc|exact HS.out _ (Uc.alloc Uc.size _)|exact HS.out _ Uc|exact HS.out _ hS1|exact HS.out _ Vb.drew) (first|(go_at_call 312;refine(Xe.out _).mono ?_;rintro e w1 ⟨rfl,hb1⟩;have hS1:=Ga (Below.refl W0.heap.size W0).drew hb1 Aa)|(go_at_call 161;refine(HJ.out _ hS1).mono ?_;rintro e w3 ⟨rfl,hb3⟩;have Uc:=Ga hS1 hb3 Aa)|(go_at_call 311;refine(HV.out _ Uc).mono ?_;rintro e w4 ⟨rfl,hb4⟩;have Bc:=Ga (Uc.alloc Uc.size _) hb4 Aa));go_wp2;go_ret;exact⟨rfl,HB.out.trans (Bc.mono (by omega))⟩
def si (k b:Int)(sec:ByteArray)(p0 p1 p2 p3:Int):ByteArray:=hv k b (qa 1 1++(sec++(qa 1 p0++(qa 4 p1++(qa 1 p2++qa 1 p3)))))
def Jv (k b:Int)(pub:ByteArray)(p0 p1 p2 p3 i:Int)(y:ByteArray):ByteArray:=hv k b (qa 1 2++(pub++(qa 1 p0++(qa 4 p1++(qa 1 p2++(qa 1 p3++(qa 1 i++y)))))))
def bg (k b:Int)(pub:ByteArray)(p0 p1 p2 p3 f:Int):Nat->ByteArray->ByteArray
 |0,y=>y
 |n+1,y=>Jv k b pub p0 p1 p2 p3 (f+n) (bg k b pub p0 p1 p2 p3 f n y)
def Kk (k b:Int)(pub:ByteArray)(p0 p1 h j:Int)(y z:ByteArray):ByteArray:=hv k b (qa 1 4++(pub++(qa 1 p0++(qa 4 p1++(qa 1 h++(qa 1 j++(y++z)))))))
def Bv (k b:Int)(pub:ByteArray)(p0 p1 p2 r i:Int)(y z:ByteArray):ByteArray:=hv k b (qa 1 3++(pub++(qa 1 p0++(qa 4 p1++(qa 1 p2++(qa 1 r++(qa 1 i++(y++z))))))))
theorem We0 (k b:Int)(pub:ByteArray)(p0 p1 p2 p3 i:Int)(y:ByteArray)(hk:k=1\/k=2)(h1:1<=b)(h2:b<=16)(hp:pub.size<=16)(hy:y.size<=16):((Jv k b pub p0 p1 p2 p3 i y).size:Int)=b:=Vu k b _ hk h1 h2 (by simp only[ByteArray.size_append,Sa];omega)
theorem UA (k b:Int)(pub:ByteArray)(p0 p1 p2 p3 f:Int)(n:Nat)(y:ByteArray)(hk:k=1\/k=2)(h1:1<=b)(h2:b<=16)(hp:pub.size<=16)(hy:(y.size:Int)=b):((bg k b pub p0 p1 p2 p3 f n y).size:Int)=b:=by
 induction n with
 |zero=>exact hy
 |succ n ih=>exact We0 k b pub p0 p1 p2 p3 _ _ hk h1 h2 hp (by omega)
theorem UC (k b:Int)(sec:ByteArray)(p0 p1 p2 p3:Int)(hk:k=1\/k=2)(h1:1<=b)(h2:b<=16)(hp:sec.size<=16):((si k b sec p0 p1 p2 p3).size:Int)=b:=Vu k b _ hk h1 h2 (by simp only[ByteArray.size_append,Sa];omega)
theorem QJ (k b:Int)(pub:ByteArray)(p0 p1 h j:Int)(y z:ByteArray)(hk:k=1\/k=2)(h1:1<=b)(h2:b<=16)(hp:pub.size<=16)(hy:y.size<=16)(hz:z.size<=16):((Kk k b pub p0 p1 h j y z).size:Int)=b:=Vu k b _ hk h1 h2 (by simp only[ByteArray.size_append,Sa];omega)
theorem Ma0 (k b:Int)(pub:ByteArray)(p0 p1 p2 r i:Int)(y z:ByteArray)(hk:k=1\/k=2)(h1:1<=b)(h2:b<=16)(hp:pub.size<=16)(hy:y.size<=16)(hz:z.size<=16):((Bv k b pub p0 p1 p2 r i y z).size:Int)=b:=Vu k b _ hk h1 h2 (by simp only[ByteArray.size_append,Sa];omega)
theorem kT (k b x t l:Int)(seed:ByteArray)(p0 p1 p2 p3 h j:Int)(y z:ByteArray)(w:World)(hk:k=1\/k=2)(h1:1<=b)(h2:b<=16)(hs:seed.size<=16)(hy:y.size<=16)(hz':z.size<=16)(hT:Tn w):Calls prog 271 #[.agg #[int i64 k,int i64 b,int i64 x,int i64 t,int i64 l,string seed,int i64 p0,int i64 p1,int i64 p2,int i64 p3],int i64 h,int i64 j,string y,string z] w λe w'=>e=.returned (string (Kk k b seed p0 p1 h j y z))/\Below w.heap.size w w':=by
 obtain⟨W0,hW⟩:=Ca (w.alloc (.cells #[int i64 k,int i64 b,int i64 x,int i64 t,int i64 l,string seed,int i64 p0,int i64 p1,int i64 p2,int i64 p3] 344));have HF:=aa (show Xp w.heap.size W0 k b x t l seed p0 p1 p2 p3 by subst hW;refine⟨?_,?_,?_,?_,?_,?_,?_,?_,?_,?_⟩<;>simp[go_sem]);have HB:=Xd hW;have hz:W0.heap.size=w.heap.size+1:=by subst hW;simp
 have HT:=aa (hT.on HB.out)
 have HS:=aa (λ(V:World) (h:Below W0.heap.size W0 V)=>(by
  obtain⟨c0,c1,c2,c3,c4,c5,c6,c7,c8,c9⟩:=HF.out.below h (by omega);exact⟨c0,c1,c2,c3,c4,c5,c6,c7,c8,c9,h⟩:V.cell? ⟨w.heap.size,0,none⟩=some (int i64 k)/\V.cell? ⟨w.heap.size,1,none⟩=some (int i64 b)/\V.cell? ⟨w.heap.size,2,none⟩=some (int i64 x)/\V.cell? ⟨w.heap.size,3,none⟩=some (int i64 t)/\V.cell? ⟨w.heap.size,4,none⟩=some (int i64 l)/\V.cell? ⟨w.heap.size,5,none⟩=some (string seed)/\V.cell? ⟨w.heap.size,6,none⟩=some (int i64 p0)/\V.cell? ⟨w.heap.size,7,none⟩=some (int i64 p1)/\V.cell? ⟨w.heap.size,8,none⟩=some (int i64 p2)/\V.cell? ⟨w.heap.size,9,none⟩=some (int i64 p3)/\Below W0.heap.size W0 V))
 have Xe:=aa (λV:World=>Pt h V);have Lc:=aa (λV:World=>Pt j V)
 have HV:=aa (λ(V:World) (h':Below W0.heap.size W0 V)=>uR k b x t l 4 seed p0 p1 p2 p3 V.heap.size 0 4 [qa 1 h,qa 1 j,y,z] (V.alloc (.cells #[string (qa 1 h),string (qa 1 j),string y,string z] 9)) (by
  intro j y hj
  match j,hj with
  |0,hj=>simp at hj;subst hj;simp[go_sem]
  |1,hj=>simp at hj;subst hj;simp[go_sem]
  |2,hj=>simp at hj;subst hj;simp[go_sem]
  |3,hj=>simp at hj;subst hj;simp[go_sem]) (by simp) (by simp) (by simp) hk h1 h2 (by rw[Eu];simp[Sa];omega) ((HT.out.on h').alloc _))
 simp only[Dc,Ar,List.length_cons,List.length_nil,Nat.reduceAdd]at HV;clear hT;go_enter func271,ntmps271;go_wp2_with fail;try rw[hW]
 go_region_held3 (λV=>V.cell? ⟨w.heap.size,0,none⟩=some (int i64 k)/\V.cell? ⟨w.heap.size,1,none⟩=some (int i64 b)/\V.cell? ⟨w.heap.size,2,none⟩=some (int i64 x)/\V.cell? ⟨w.heap.size,3,none⟩=some (int i64 t)/\V.cell? ⟨w.heap.size,4,none⟩=some (int i64 l)/\V.cell? ⟨w.heap.size,5,none⟩=some (string seed)/\V.cell? ⟨w.heap.size,6,none⟩=some (int i64 p0)/\V.cell? ⟨w.heap.size,7,none⟩=some (int i64 p1)/\V.cell? ⟨w.heap.size,8,none⟩=some (int i64 p2)/\V.cell? ⟨w.heap.size,9,none⟩=some (int i64 p3)/\Below W0.heap.size W0 V) (first|exact HS.out _ Bc|exact HS.out _ (hS2.alloc hS2.size _)|exact HS.out _ hS2|exact HS.out _ hS1|exact HS.out _ Vb.drew) (first|(go_at_call 312;refine(Lc.out _).mono ?_;rintro e w2 ⟨rfl,hb2⟩;have hS2:=Ga hS1 hb2 Aa)|(go_at_call 312;refine(Xe.out _).mono ?_;rintro e w1 ⟨rfl,hb1⟩;have hS1:=Ga (Below.refl W0.heap.size W0).drew hb1 Aa)|(go_at_call 311;refine(HV.out _ hS2).mono ?_;rintro e w4 ⟨rfl,hb4⟩;have Bc:=Ga (hS2.alloc hS2.size _) hb4 Aa));go_wp2;go_ret;exact⟨rfl,HB.out.trans (Bc.mono (by omega))⟩
theorem TS (k b x t l:Int)(seed:ByteArray)(p0 p1 p2 p3:Int)(f n:Nat)(y:ByteArray)(w:World)(hk:k=1\/k=2)(h1:1<=b)(h2:b<=16)(hs:seed.size<=16)(hy:(y.size:Int)=b)(hf:f+n<=16)(hT:Tn w):Calls prog 285 #[.agg #[int i64 k,int i64 b,int i64 x,int i64 t,int i64 l,string seed,int i64 p0,int i64 p1,int i64 p2,int i64 p3],int i64 f,int i64 (f+n:Nat),string y] w λe w'=>e=.returned (string (bg k b seed p0 p1 p2 p3 f n y))/\Below w.heap.size w w':=by
 obtain⟨W0,hW⟩:=Ca (w.alloc (.cells #[int i64 k,int i64 b,int i64 x,int i64 t,int i64 l,string seed,int i64 p0,int i64 p1,int i64 p2,int i64 p3] 344));have HF:=aa (show Xp w.heap.size W0 k b x t l seed p0 p1 p2 p3 by subst hW;refine⟨?_,?_,?_,?_,?_,?_,?_,?_,?_,?_⟩<;>simp[go_sem]);have HB:=Xd hW;have hz:W0.heap.size=w.heap.size+1:=by subst hW;simp
 have HT:=aa (hT.on HB.out)
 have HS:=aa (λ(V:World) (h:Below W0.heap.size W0 V)=>(by
  obtain⟨c0,c1,c2,c3,c4,c5,c6,c7,c8,c9⟩:=HF.out.below h (by omega);exact⟨c0,c1,c2,c3,c4,c5,c6,c7,c8,c9,h⟩:V.cell? ⟨w.heap.size,0,none⟩=some (int i64 k)/\V.cell? ⟨w.heap.size,1,none⟩=some (int i64 b)/\V.cell? ⟨w.heap.size,2,none⟩=some (int i64 x)/\V.cell? ⟨w.heap.size,3,none⟩=some (int i64 t)/\V.cell? ⟨w.heap.size,4,none⟩=some (int i64 l)/\V.cell? ⟨w.heap.size,5,none⟩=some (string seed)/\V.cell? ⟨w.heap.size,6,none⟩=some (int i64 p0)/\V.cell? ⟨w.heap.size,7,none⟩=some (int i64 p1)/\V.cell? ⟨w.heap.size,8,none⟩=some (int i64 p2)/\V.cell? ⟨w.heap.size,9,none⟩=some (int i64 p3)/\Below W0.heap.size W0 V))
 have Xe:=aa (λV:World=>Pt p3 V);have ed:=aa (λm=>UA k b seed p0 p1 p2 p3 f m y hk h1 h2 hs hy)
 have HV:=aa (λ(i:Int) (u:ByteArray) (hu:u.size<=16) (V:World) (h':Below W0.heap.size W0 V)=>jK k b x t l 2 seed p0 p1 p2 p3 V.heap.size 0 3 [qa 1 p3,qa 1 i,u] (V.alloc (.cells #[string (qa 1 p3),string (qa 1 i),string u] 9)) (by
  intro j y hj
  match j,hj with
  |0,hj=>simp at hj;subst hj;simp[go_sem]
  |1,hj=>simp at hj;subst hj;simp[go_sem]
  |2,hj=>simp at hj;subst hj;simp[go_sem]) (by simp) (by simp) (by simp) hk h1 h2 (by rw[Eu];simp[Sa];omega) ((HT.out.on h').alloc _))
 simp only[Dc,Ar,List.length_cons,List.length_nil,Nat.reduceAdd]at HV;clear hT;go_enter func285,ntmps285;go_wp2_with fail;try rw[hW]
 clear hW;go_loopw [3,9] (λu i wr=>∃m:Nat,m<=n/\i=int i64 (f+m:Nat)/\u=string (bg k b seed p0 p1 p2 p3 f m y)/\Hid (Below W0.heap.size W0 wr)) (λ_ i _=>f+n-(intOf i).toNat)
 case atStart=>exact⟨0,Nat.zero_le _,rfl,rfl,Vb⟩
 case round=>
  obtain⟨m,hm,rfl,rfl,hb⟩:=hrel;by_cases hlt:m<n
  ·have HU:=aa (ed.out m);have HST:Hid (bg k b seed p0 p1 p2 p3 f (m+1) y=Jv k b seed p0 p1 p2 p3 (f+m) (bg k b seed p0 p1 p2 p3 f m y)):=rfl;generalize bg k b seed p0 p1 p2 p3 f m y=u at HU HST⊢;have hu:u.size<=16:=by have:=HU.out;omega
   have Lc:=aa (λV:World=>Pt (f+m:Nat) V);have yt:=aa (HV.out (f+m:Nat) u hu);go_wp2_with fail;go_region_held3 (λV=>V.cell? ⟨w.heap.size,0,none⟩=some (int i64 k)/\V.cell? ⟨w.heap.size,1,none⟩=some (int i64 b)/\V.cell? ⟨w.heap.size,2,none⟩=some (int i64 x)/\V.cell? ⟨w.heap.size,3,none⟩=some (int i64 t)/\V.cell? ⟨w.heap.size,4,none⟩=some (int i64 l)/\V.cell? ⟨w.heap.size,5,none⟩=some (string seed)/\V.cell? ⟨w.heap.size,6,none⟩=some (int i64 p0)/\V.cell? ⟨w.heap.size,7,none⟩=some (int i64 p1)/\V.cell? ⟨w.heap.size,8,none⟩=some (int i64 p2)/\V.cell? ⟨w.heap.size,9,none⟩=some (int i64 p3)/\Below W0.heap.size W0 V) (first|exact HS.out _ Bc|exact HS.out _ (hS2.alloc hS2.size _)|exact HS.out _ hS2|exact HS.out _ hS1|exact HS.out _ hb.out.drew) (first|(go_at_call 312;refine(Lc.out _).mono ?_;rintro e w2 ⟨rfl,hb2⟩;have hS2:=Ga hS1 hb2 Aa)|(go_at_call 312;refine(Xe.out _).mono ?_;rintro e w1 ⟨rfl,hb1⟩;have hS1:=Ga hb.out.drew hb1 Aa)|(go_at_call 317;refine(yt.out _ hS2).mono ?_;rintro e w4 ⟨rfl,hb4⟩;have Bc:=Ga (hS2.alloc hS2.size _) hb4 Aa));go_wp2;go_roundw
   case rel=>
    have R:∃q:Nat,q<=n/\int i64 ((f:Int)+(m:Int)+1)=int i64 (f+q:Nat)/\string (Jv k b seed p0 p1 p2 p3 (f+m) u)=string (bg k b seed p0 p1 p2 p3 f q y)/\Hid (Below W0.heap.size W0 w4):=⟨m+1,by omega,by go_num,by rw[HST.out],Bc⟩;first|exact R|((repeat apply Exists.intro);exact⟨R,rfl⟩)
   case measure=>simp[intOf];omega
  ·obtain rfl:m=n:=by omega
   go_wp2;go_ret;exact⟨rfl,HB.out.trans (hb.out.mono (by omega))⟩
end Go.Proofs.YtgaoeoijdpdjiabGreatDoor
namespace Go.Proofs.YtgaoeoijdpdjiabGreatDoor
open Go.RowKit Go.Shelf
attribute [local go_sem] Oper.semAt_some
def pv (k b:Int)(pub:ByteArray)(p0 p1 p2 r:Int)(xs:List ByteArray)(j q:Nat):ByteArray:=if 2*q+1<xs.length then Bv k b pub p0 p1 p2 r j (xs.getD (2*q) ⟨#[]⟩) (xs.getD (2*q+1) ⟨#[]⟩)else xs.getD (2*q) ⟨#[]⟩
def Lx (k b:Int)(pub:ByteArray)(p0 p1 p2 r:Int)(xs:List ByteArray)(pre:List (Pr xs.length)):List Value:=pre.mapIdx (λj q=>string (pv k b pub p0 p1 p2 r xs j q.1))
theorem oU (k b:Int)(pub:ByteArray)(p0 p1 p2 r:Int)(xs:List ByteArray)(pre:List (Pr xs.length))(q:Pr xs.length):Lx k b pub p0 p1 p2 r xs (pre++[q])=Lx k b pub p0 p1 p2 r xs pre++[string (pv k b pub p0 p1 p2 r xs pre.length q.1)]:=by
 unfold Lx;rw[List.mapIdx_concat]
def Gg (k b:Int)(pub:ByteArray)(p0 p1 p2 r:Int)(xs:List ByteArray):List ByteArray:=(List.range ((xs.length+1)/2)).map (λq=>pv k b pub p0 p1 p2 r xs q q)
theorem ag0 (k b:Int)(pub:ByteArray)(p0 p1 p2 r:Int)(xs:List ByteArray)(pre:List (Pr xs.length))(h:pre.map (·.1)=List.range ((xs.length+1)/2)):Lx k b pub p0 p1 p2 r xs pre=(Gg k b pub p0 p1 p2 r xs).map Value.string:=by
 have hl:pre.length=(xs.length+1)/2:=by simpa using congrArg List.length h
 unfold Lx Gg;apply List.ext_getElem
 ·simp[hl]
 ·intro i h1 h2;have hi:i<pre.length:=by simpa using h1
  have e:(pre.map (·.1))[i]'(by simpa using hi)=(List.range ((xs.length+1)/2))[i]'(by simp;omega):=by congr 1
  simp at e;simp[e]
theorem Rw:(prog.info? 9).map (λi=>(i.zero,i.size,i.bytes))=some (some (string ⟨#[]⟩),1,16):=by kernel_rfl
theorem Ha0 {w:World}{base base':Nat}{e:TypeId}{size:Nat}{v:Value}{n:Nat}{xs:List Value}(h:w.ownsRow base e size v n xs)(hb:base'<=base):w.ownsRow base' e size v n xs:=⟨h.1,h.2.imp id (λ⟨g,cap,cur,h1,h2,h3⟩=>⟨g,cap,cur,h1,Nat.le_trans hb h2,h3⟩)⟩
theorem gB {W V:World}(h:Below W.heap.size W V):W.grownBy V none:=⟨h.os,h.tape,h.output,h.size,λk hk _=>h.block k hk⟩
theorem PN {Bs Bn:Nat}{W V:World}{t t':TypeId}{v v':Value}(h1:Boxed W Bs t v)(h2:Boxed W Bn t' v')(h3:Boxed V Bs t v)(h4:Boxed V Bn t' v'):Uj Bs Bn W V:=⟨λi=>World.cell?_of_block (w:=W) (w':=V) (a:=⟨Bs,i,none⟩) (by show V.heap[Bs]?=W.heap[Bs]?;rw[show V.heap[Bs]?=_ from h3,show W.heap[Bs]?=_ from h1]),λi=>World.cell?_of_block (w:=W) (w':=V) (a:=⟨Bn,i,none⟩) (by show V.heap[Bn]?=W.heap[Bn]?;rw[show V.heap[Bn]?=_ from h4,show W.heap[Bn]?=_ from h2])⟩
theorem Na0 (k b x t l:Int)(seed:ByteArray)(p0 p1 p2 p3 r:Int)(bk o c:Nat)(xs:List ByteArray)(w:World)(hcells:∀(j:Nat) y,xs[j]?=some y->w.cell? ⟨bk,o+j,none⟩=some (string y))(hbk:bk<w.heap.size)(hcap:xs.length<=c)(hN:xs.length<=100)
  (hk:k=1\/k=2)(h1:1<=b)(h2:b<=16)(hs:seed.size<=16)(hxs:∀y∈xs,y.size<=16)(hT:Tn w):Calls prog 310 #[.agg #[int i64 k,int i64 b,int i64 x,int i64 t,int i64 l,string seed,int i64 p0,int i64 p1,int i64 p2,int i64 p3],int i64 r,slice (some ⟨bk,o,none⟩) xs.length c] w λe w'=>∃v,e=.returned v/\w'.ownsRow w.heap.size 9 1 v (Gg k b seed p0 p1 p2 r xs).length ((Gg k b seed p0 p1 p2 r xs).map Value.string)/\Below w.heap.size w w':=by
 obtain⟨i0,hi,hz0,hz1,hz2⟩:=info_parts Rw;have HC:=aa hcells;have HT:=aa hT;have HX:=aa hxs;have Xe:=aa (λV:World=>Pt r V)
 have jm:=aa (λ(u:ByteArray) (m:Nat) (y0 y1:ByteArray) (hu:y0.size<=16/\y1.size<=16) (V:World) (hV:Tn V)=>jK k b x t l 3 seed p0 p1 p2 p3 V.heap.size 0 4 [u,qa 1 m,y0,y1] (V.alloc (.cells #[string u,string (qa 1 m),string y0,string y1] 9)) (by
  intro j y hj
  match j,hj with
  |0,hj=>simp at hj;subst hj;simp[go_sem]
  |1,hj=>simp at hj;subst hj;simp[go_sem]
  |2,hj=>simp at hj;subst hj;simp[go_sem]
  |3,hj=>simp at hj;subst hj;simp[go_sem]) (by simp) (by simp) (by simp) hk h1 h2)
 clear hcells hT hxs;refine(callsIn_wide (n:=6)).1 ?_;refine callsIn_of_wp_marks func310 rfl trivial ?_ rfl;simp only[ntmps310,List.size_toArray,List.length_cons,List.length_nil,Nat.reduceAdd,Nat.reduceSub,Array.replicate_succ,Array.replicate_zero,List.push_toArray,List.append_toArray,List.nil_append,List.cons_append]
 gi_wp2_with (refine⟨trivial,?_⟩;gi_at_call 326;refine(callsIn_wide.2 (EX _ _ _ _)).mono ?_;rintro e w' ⟨rfl,rfl⟩)
 generalize hW2:(w.alloc (.cells #[int i64 k,int i64 b,int i64 x,int i64 t,int i64 l,string seed,int i64 p0,int i64 p1,int i64 p2,int i64 p3] 344)).alloc (.cells #[int i64 r] 3)=W2;have hz:W2.heap.size=w.heap.size+1+1:=by subst hW2;simp
 have HF:=aa (show Xp w.heap.size W2 k b x t l seed p0 p1 p2 p3 by subst hW2;refine⟨?_,?_,?_,?_,?_,?_,?_,?_,?_,?_⟩<;>simp[go_sem]);have HR:=aa (show W2.cell? ⟨w.heap.size+1,0,none⟩=some (int i64 r) by subst hW2;simp[go_sem]);have HB2:=Gc hW2;clear hW2;have kI:=Boxed.new W2 27 (slice none 0 0);have lI:=Boxed.new (W2.alloc (.cells #[slice none 0 0] 27)) 27 (slice (some ⟨bk,o,none⟩) xs.length c);have nE:=Boxed.new ((W2.alloc (.cells #[slice none 0 0] 27)).alloc (.cells #[slice (some ⟨bk,o,none⟩) xs.length c] 27)) 3 (int i64 2);simp only[World.size_alloc,hz]at kI lI nE;have Qi:Below (w.heap.size+1+1) W2 (((W2.alloc (.cells #[slice none 0 0] 27)).alloc (.cells #[slice (some ⟨bk,o,none⟩) xs.length c] 27)).alloc (.cells #[int i64 2] 3)):=(((Vb.alloc (by omega) _).alloc (by simp;omega) _).alloc (by simp;omega) _);have X3:(((W2.alloc (.cells #[slice none 0 0] 27)).alloc (.cells #[slice (some ⟨bk,o,none⟩) xs.length c] 27)).alloc (.cells #[int i64 2] 3)).heap.size=w.heap.size+5:=by simp[hz]
 generalize Eo:((W2.alloc (.cells #[slice none 0 0] 27)).alloc (.cells #[slice (some ⟨bk,o,none⟩) xs.length c] 27)).alloc (.cells #[int i64 2] 3)=W5 at nE Qi X3⊢;have bF:Boxed W5 (w.heap.size+1+1) 27 (slice none 0 0):=by rw[<-Eo];exact(kI.alloc _).alloc _
 have bS:Boxed W5 (w.heap.size+1+1+1) 27 (slice (some ⟨bk,o,none⟩) xs.length c):=by rw[<-Eo];exact lI.alloc _
 clear Eo kI lI
 refine wpIn_rangeFunc_ownG rfl (by omega) (gf:=330) (lb:=#[pointer (some ⟨w.heap.size+1+1+1,0,none⟩),pointer (some ⟨w.heap.size+1+1+1+1,0,none⟩)]) rfl trivial (enters_of func330 (by kernel_rfl) rfl)
  (FX (6-1) (by omega) (w.heap.size+1+1+1) (w.heap.size+1+1+1+1) bk o xs.length c (by omega) hcap W5 (by omega) (by omega) bS.cell nE.cell)
  Uj.trans (λV lv ov nK hl h h' h''=>Uj.of_below (belowK_b (w:=W5) Aa V lv ov nK hl h h' h'') (by omega) (by omega)) Vb (λ_=>rfl)
  (λpre W=>(∃v,Boxed W (w.heap.size+1+1) 27 v/\W.ownsRow (w.heap.size+1+1) 9 1 v pre.length (Lx k b seed p0 p1 p2 r xs pre)/\True)/\(Boxed W (w.heap.size+1+1+1) 27 (slice (some ⟨bk,o,none⟩) xs.length c)/\Boxed W (w.heap.size+1+1+1+1) 3 (int i64 2))/\Below (w.heap.size+1+1) W2 W)
  (λ_ _ _=>False)
  (OwnFrom.and (Own.from (holdsRow_own (w.heap.size+1+1) (w.heap.size+1+1) 27 9 1 (λpre=>pre.length) (λpre=>Lx k b seed p0 p1 p2 r xs pre) (λ_ _=>True)) _) (OwnFrom.and (OwnFrom.and (Own.from (boxed_own _ _ _) _) (Own.from (boxed_own _ _ _) _)) (ownFrom_below (by omega) (by omega))))
  (λ_ _ _ _ _ hs _ _=>hs)
  ⟨⟨_,bF,World.ownsRow_nil _ _ _ _,trivial⟩,⟨bS,nE⟩,Qi⟩
  (λq=>{tmps:=#[.agg #[int i64 k,int i64 b,int i64 x,int i64 t,int i64 l,string seed,int i64 p0,int i64 p1,int i64 p2,int i64 p3],int i64 r,slice (some ⟨bk,o,none⟩) xs.length c,pointer (some ⟨w.heap.size,0,none⟩),pointer (some ⟨w.heap.size+1,0,none⟩),undef,slice none 0 0,pointer (some ⟨w.heap.size+1+1,0,none⟩),Oo bk o xs.length q.1,undef,slice (some ⟨bk,o,none⟩) xs.length c,.func (.func 330) #[] #[pointer (some ⟨w.heap.size+1+1+1,0,none⟩),pointer (some ⟨w.heap.size+1+1+1+1,0,none⟩)],Oo bk o xs.length q.1,undef,undef,undef,undef,undef,undef,undef,undef,undef,undef,undef,undef,undef,undef,undef,undef,undef,undef,undef,undef,undef,undef,undef,undef,undef],defers:=[]}) ?assign ?body ?done ?stop
 case assign=>
  intro l x W K hK
  gi_wp2
  exact hK
 case body=>
  rintro lp pre ⟨q,hq⟩ W ⟨⟨v,hv,hrow,_⟩,⟨hsb,hnb⟩,hB⟩ hlt
  obtain⟨a,cap,rfl⟩:∃a cap,v=slice a pre.length cap:=by
   rcases hrow.2 with⟨rfl,h0⟩|⟨g,cap,cur,rfl,_⟩
   ·exact⟨none,0,by rw[h0]⟩
   ·exact⟨_,cap,rfl⟩
  have gJ:w.heap.size+1+1<=W.heap.size:=by have:=hB.size;omega
  have Mi:=aa ((HT.out.on HB2.out).below hB (by omega));obtain⟨y0,hy0⟩:∃y,xs[2*q]?=some y:=⟨_,List.getElem?_eq_getElem hq⟩;have g0:xs.getD (2*q) ⟨#[]⟩=y0:=by simp[List.getD_eq_getElem?_getD,hy0]
  have z0:=HX.out y0 (List.mem_of_getElem? hy0);have c0:W.cell? ⟨bk,o+2*q,none⟩=some (string y0):=(hB.cell (p:=⟨bk,o+2*q,none⟩) (by show bk<_;omega)).trans ((HB2.out.cell (p:=⟨bk,o+2*q,none⟩) hbk).trans (HC.out _ _ hy0));by_cases NI:2*q+1<xs.length
  ·obtain⟨y1,hy1⟩:∃y,xs[2*q+1]?=some y:=⟨_,List.getElem?_eq_getElem NI⟩;have g1:xs.getD (2*q+1) ⟨#[]⟩=y1:=by simp[List.getD_eq_getElem?_getD,hy1]
   have z1:=HX.out y1 (List.mem_of_getElem? hy1);have c1:W.cell? ⟨bk,o+2*q+1,none⟩=some (string y1):=(hB.cell (p:=⟨bk,o+2*q+1,none⟩) (by show bk<_;omega)).trans ((HB2.out.cell (p:=⟨bk,o+2*q+1,none⟩) hbk).trans (HC.out _ _ hy1));have HP:=aa (show pv k b seed p0 p1 p2 r xs pre.length q=Bv k b seed p0 p1 p2 r pre.length y0 y1 by unfold pv;rw[if_pos NI,g0,g1])
   have hpv:Oo bk o xs.length q=slice (some ⟨bk,o+2*q,none⟩) 2 2:=by
    have:pl xs.length q=2:=by unfold pl;omega
    unfold Oo;rw[this]
   have Lc:=aa (λV:World=>Pt (pre.length:Nat) V)
   have HS:=aa (λ(V:World) (h:Below W.heap.size W V)=>(by
    obtain⟨d0,d1,d2,d3,d4,d5,d6,d7,d8,d9⟩:=(HF.out.below hB (by omega)).below h (by omega);exact⟨d0,d1,d2,d3,d4,d5,d6,d7,d8,d9,(h.cell (p:=⟨w.heap.size+1,0,none⟩) (by show w.heap.size+1<_;omega)).trans ((hB.cell (p:=⟨w.heap.size+1,0,none⟩) (by show w.heap.size+1<_;omega)).trans HR.out),(h.cell (p:=⟨w.heap.size+1+1,0,none⟩) hv.lt).trans hv.cell,(h.cell (p:=⟨bk,o+2*q,none⟩) (by show bk<_;omega)).trans c0,(h.cell (p:=⟨bk,o+2*q+1,none⟩) (by show bk<_;omega)).trans c1,h⟩:(λV=>V.cell? ⟨w.heap.size,0,none⟩=some (int i64 k)/\V.cell? ⟨w.heap.size,1,none⟩=some (int i64 b)/\V.cell? ⟨w.heap.size,2,none⟩=some (int i64 x)/\V.cell? ⟨w.heap.size,3,none⟩=some (int i64 t)/\V.cell? ⟨w.heap.size,4,none⟩=some (int i64 l)/\V.cell? ⟨w.heap.size,5,none⟩=some (string seed)/\V.cell? ⟨w.heap.size,6,none⟩=some (int i64 p0)/\V.cell? ⟨w.heap.size,7,none⟩=some (int i64 p1)/\V.cell? ⟨w.heap.size,8,none⟩=some (int i64 p2)/\V.cell? ⟨w.heap.size,9,none⟩=some (int i64 p3)/\V.cell? ⟨w.heap.size+1,0,none⟩=some (int i64 r)/\V.cell? ⟨w.heap.size+1+1,0,none⟩=some (slice a pre.length cap)/\V.cell? ⟨bk,o+2*q,none⟩=some (string y0)/\V.cell? ⟨bk,o+2*q+1,none⟩=some (string y1)/\Below W.heap.size W V) V))
   have HV:=aa (λ(V:World) (h:Below W.heap.size W V)=>jm.out (qa 1 r) pre.length y0 y1 ⟨z0,z1⟩ V (Mi.out.on h) (by rw[Eu];simp[Sa];omega) ((Mi.out.on h).alloc _));simp only[Dc,Ar,List.length_cons,List.length_nil,Nat.reduceAdd]at HV;dsimp only at HS;rw[hpv]
   gi_wp2
   refine Ob0 (S:=λV=>V.cell? ⟨w.heap.size,0,none⟩=some (int i64 k)/\V.cell? ⟨w.heap.size,1,none⟩=some (int i64 b)/\V.cell? ⟨w.heap.size,2,none⟩=some (int i64 x)/\V.cell? ⟨w.heap.size,3,none⟩=some (int i64 t)/\V.cell? ⟨w.heap.size,4,none⟩=some (int i64 l)/\V.cell? ⟨w.heap.size,5,none⟩=some (string seed)/\V.cell? ⟨w.heap.size,6,none⟩=some (int i64 p0)/\V.cell? ⟨w.heap.size,7,none⟩=some (int i64 p1)/\V.cell? ⟨w.heap.size,8,none⟩=some (int i64 p2)/\V.cell? ⟨w.heap.size,9,none⟩=some (int i64 p3)/\V.cell? ⟨w.heap.size+1,0,none⟩=some (int i64 r)/\V.cell? ⟨w.heap.size+1+1,0,none⟩=some (slice a pre.length cap)/\V.cell? ⟨bk,o+2*q,none⟩=some (string y0)/\V.cell? ⟨bk,o+2*q+1,none⟩=some (string y1)/\Below W.heap.size W V) (by kernel_rfl) (by simp) (by rintro⟨_,_,h⟩;exact h) (HS.out _ Vb.drew) (λja=>?_);refine tk 0 ja ?_;refine tk 1 ja ?_;refine tk 3 ja ?_;refine tk 4 ja ?_;refine tk 6 ja ?_;refine tk 7 ja ?_;refine tk 8 ja ?_;refine tk 9 ja ?_;refine tk 10 ja ?_;refine tk 11 ja ?_;refine wpAnyH_ready (rs:=[2]) (by kernel_rfl) (by simp) ?_;refine AllReadyH.cons (o:=?o2) ?ho2 (λK hK=>?hs2) AllReadyH.nil
   case ho2=>(simp only[jb,Na,Oa];rfl)
   go_simp;refine(Xe.out _).mono ?_
   rintro e w1 ⟨rfl,hb1⟩
   have hS1:=Ga (Below.refl W.heap.size W).drew hb1 Aa;try go_wp2_with fail
   refine hK.out _ _ (HS.out _ (hS1)) (λja=>?_);clear hK K;try simp only[Act.put,Bb,Ka,Ma]
   refine wpAnyH_ready (rs:=[5]) (by kernel_rfl) (by simp) ?_;refine AllReadyH.cons (o:=?o5) ?ho5 (λK hK=>?hs5) AllReadyH.nil
   case ho5=>(simp only[jb,Na,Oa];rfl)
   go_simp;refine(Lc.out _).mono ?_
   rintro e w2 ⟨rfl,hb2⟩
   have hS2:=Ga hS1 hb2 Aa;try go_wp2_with fail
   refine hK.out _ _ (HS.out _ (hS2)) (λja=>?_);clear hK K;try simp only[Act.put,Bb,Ka,Ma]
   refine wpAnyH_ready (rs:=[12]) (by kernel_rfl) (by simp) ?_;refine AllReadyH.cons (o:=?o12) ?ho12 (λK hK=>?hs12) AllReadyH.nil
   case ho12=>(simp only[jb,Na,Oa];rfl)
   go_simp;refine hK.out _ _ (HS.out _ (hS2.alloc hS2.size _)) (λja=>?_);clear hK K;try simp only[Act.put,Bb,Ka,Ma]
   refine wpAnyH_ready (rs:=[13]) (by kernel_rfl) (by simp) ?_;refine AllReadyH.cons (o:=?o13) ?ho13 (λK hK=>?hs13) AllReadyH.nil
   case ho13=>(simp only[jb,Na,Oa];rfl)
   go_simp;refine(HV.out _ hS2).mono ?_
   rintro e w4 ⟨rfl,hb4⟩
   have Bc:=Ga (hS2.alloc hS2.size _) hb4 Aa;try go_wp2_with fail
   refine hK.out _ _ (HS.out _ (Bc)) (λja=>?_);clear hK K;try simp only[Act.put,Bb,Ka,Ma]
   refine tk 14 ja ?_;refine wpAnyH_done (by kernel_rfl) ?_ _;have hg4:=gB Bc;have hB4:Below (w.heap.size+1+1) W2 w4:=hB.trans (Bc.mono gJ);have hv4:=hv.kept hg4 (by simp);have hrow4:=hrow.kept hg4 (by cases Value.ownBlock _ with|none=>exact .inl rfl|some _=>exact .inr (by simp));have hsb4:=hsb.kept hg4 (by simp);have VB:=hnb.kept hg4 (by simp);have vJ:KeepsOthers W w4:=KeepsOthers.of_grownBy hg4 (λj o e _=>by cases e);have hc4:=hv4.cell;have IJ:w.heap.size+1+1<=w4.heap.size:=by have:=(hg4).size;omega
   gi_wp2_with (gi_at_builtin;refine wpListIn_append_own _ rfl _ _ 27 rfl (w.heap.size+1+1) 9 i0 (string ⟨#[]⟩) 1 16 underlying27 hi hz0 hz1 hz2 rfl (by decide) _ _ _ rfl (hrow4.alloc _) ⟨w4.heap.size,0,none⟩ 1 1 [string (Bv k b seed p0 p1 p2 r pre.length y0 y1)] rfl rfl (cell_one_new _ _ _) (by simp[Value.oneCell']) (by unfold maxLen;omega) (by omega) (by simp;omega) ?_;intro v' w5 hown' hgrow _;obtain⟨g',cap',rfl⟩:=ownsRow_succ hown';obtain⟨hv1,hv2,hr2,hk2,hb2⟩:=hv4.appended (by decide) hrow4 IJ Aa hown' hgrow;have hs5:=(hsb4.alloc _).kept hgrow (hsb4.not_row (by decide) hrow4);have CJ:=(VB.alloc _).kept hgrow (VB.not_row (by decide) hrow4);have hc1:=hv1.cell;have hf1:=hv1.frozen)
   have hs6:=hs5.kept (grownBy_setCell' w5 (w.heap.size+1+1) (slice (some ⟨g',0,none⟩) (pre.length+1) cap')) (by simp);have UB:=CJ.kept (grownBy_setCell' w5 (w.heap.size+1+1) (slice (some ⟨g',0,none⟩) (pre.length+1) cap')) (by simp;omega);exact⟨(vJ.trans hk2).from _,PN hsb hnb hs6 UB,⟨_,hv2,by rw[oU,HP.out];simpa using hr2,trivial⟩,⟨hs6,UB⟩,hB4.trans hb2⟩
  ·have HP:=aa (show pv k b seed p0 p1 p2 r xs pre.length q=y0 by unfold pv;rw[if_neg NI,g0])
   have hpv:Oo bk o xs.length q=slice (some ⟨bk,o+2*q,none⟩) 1 1:=by
    have:pl xs.length q=1:=by unfold pl;omega
    unfold Oo;rw[this]
   have hg4:W.grownBy W none:=gB Vb;have hB4:=hB;rw[hpv];have hv4:=hv.kept hg4 (by simp);have hrow4:=hrow.kept hg4 (by cases Value.ownBlock _ with|none=>exact .inl rfl|some _=>exact .inr (by simp));have hsb4:=hsb.kept hg4 (by simp);have VB:=hnb.kept hg4 (by simp);have vJ:KeepsOthers W W:=KeepsOthers.of_grownBy hg4 (λj o e _=>by cases e);have hc4:=hv4.cell;have IJ:w.heap.size+1+1<=W.heap.size:=by have:=(hg4).size;omega
   gi_wp2_with (gi_at_builtin;refine wpListIn_append_own _ rfl _ _ 27 rfl (w.heap.size+1+1) 9 i0 (string ⟨#[]⟩) 1 16 underlying27 hi hz0 hz1 hz2 rfl (by decide) _ _ _ rfl (hrow4.alloc _) ⟨W.heap.size,0,none⟩ 1 1 [string y0] rfl rfl (cell_one_new _ _ _) (by simp[Value.oneCell']) (by unfold maxLen;omega) (by omega) (by simp;omega) ?_;intro v' w5 hown' hgrow _;obtain⟨g',cap',rfl⟩:=ownsRow_succ hown';obtain⟨hv1,hv2,hr2,hk2,hb2⟩:=hv4.appended (by decide) hrow4 IJ Aa hown' hgrow;have hs5:=(hsb4.alloc _).kept hgrow (hsb4.not_row (by decide) hrow4);have CJ:=(VB.alloc _).kept hgrow (VB.not_row (by decide) hrow4);have hc1:=hv1.cell;have hf1:=hv1.frozen)
   have hs6:=hs5.kept (grownBy_setCell' w5 (w.heap.size+1+1) (slice (some ⟨g',0,none⟩) (pre.length+1) cap')) (by simp);have UB:=CJ.kept (grownBy_setCell' w5 (w.heap.size+1+1) (slice (some ⟨g',0,none⟩) (pre.length+1) cap')) (by simp;omega);exact⟨(vJ.trans hk2).from _,PN hsb hnb hs6 UB,⟨_,hv2,by rw[oU,HP.out];simpa using hr2,trivial⟩,⟨hs6,UB⟩,hB4.trans hb2⟩
 case done=>
  rintro D ys W hD hys ⟨⟨v,hv,hrow,_⟩,_,hB⟩ hK
  have hc:=hv.cell
  gi_wp2
  refine⟨by simp,.inl ⟨_,_,rfl,run_takeDeferred hK,?_⟩⟩;refine⟨_,results_tmp rfl _ _ _,v,rfl,?_,?_⟩
  ·have h:=Ha0 (ownsRow_putObj hrow (.deferred none) hK rfl) (show w.heap.size<=w.heap.size+1+1 by omega);rw[ag0 _ _ _ _ _ _ _ _ _ hys,show ys.length=(Gg k b seed p0 p1 p2 r xs).length by have:=congrArg List.length hys;simp at this;simp[Gg,this]]at h;exact h
  ·exact HB2.out.trans ((hB.mono (by omega)).trans (belowK_b (w:=w) Aa W D _ _ (by omega) hK rfl rfl))
 case stop=>
  rintro D c pre W _ _ h _
  exact h.elim
end Go.Proofs.YtgaoeoijdpdjiabGreatDoor
namespace Go.Proofs.YtgaoeoijdpdjiabGreatDoor
open Go.RowKit
def Qg (k b:Int)(pub:ByteArray)(p0 p1 p2:Int):Nat->Int->List ByteArray->ByteArray
 |0,_,xs=>xs.headD ⟨#[]⟩
 |f+1,r,xs=>if xs.length<=1 then xs.headD ⟨#[]⟩else Qg k b pub p0 p1 p2 f (r+1) (Gg k b pub p0 p1 p2 r xs)
theorem dZ (k b:Int)(pub:ByteArray)(p0 p1 p2:Int)(f:Nat)(r:Int)(xs:List ByteArray)(h:xs.length<=1):Qg k b pub p0 p1 p2 f r xs=xs.headD ⟨#[]⟩:=by
 cases f with
 |zero=>rfl
 |succ f=>rw[Qg,if_pos h]
theorem kz (k b:Int)(pub:ByteArray)(p0 p1 p2 r:Int)(xs:List ByteArray):(Gg k b pub p0 p1 p2 r xs).length=(xs.length+1)/2:=by simp[Gg]
theorem EK (k b:Int)(pub:ByteArray)(p0 p1 p2 r:Int)(xs:List ByteArray)(hk:k=1\/k=2)(h1:1<=b)(h2:b<=16)(hp:pub.size<=16)(hx:∀y∈xs,(y.size:Int)=b):∀y∈Gg k b pub p0 p1 p2 r xs,(y.size:Int)=b:=by
 intro y hy;simp only[Gg,List.mem_map,List.mem_range]at hy;obtain⟨q,hq,rfl⟩:=hy
 have hg:∀i,i<xs.length->((xs.getD i ⟨#[]⟩).size:Int)=b:=by
  intro i hi;rw[List.getD_eq_getElem?_getD,List.getElem?_eq_getElem hi];exact hx _ (List.getElem_mem hi)
 unfold pv;split
 ·rename_i h
  have e0:=hg (2*q) (by omega);have e1:=hg (2*q+1) h;exact Ma0 k b pub p0 p1 p2 r _ _ _ hk h1 h2 hp (by omega) (by omega)
 ·exact hg (2*q) (by omega)
theorem xx {V:World}{base:Nat}{v:Value}{ys:List ByteArray}(h:V.ownsRow base 9 1 v ys.length (ys.map Value.string))(hn:1<=ys.length):∃g c,v=slice (some ⟨g,0,none⟩) ys.length c/\ys.length<=c/\base<=g/\g<V.heap.size/\∀(j:Nat) y,ys[j]?=some y->V.cell? ⟨g,0+j,none⟩=some (string y):=by
 rcases h.2 with⟨_,h0⟩|⟨g,cap,cur,hv,hg,hh,hc,hm,hs,ht⟩
 ·omega
 ·refine⟨g,cap,hv,hc,hg,lt_of_block hh,?_⟩;intro j y hj;have hjl:j<ys.length:=(List.getElem?_eq_some_iff.1 hj).1;have e:(cur.toList.take (ys.length*1))[j]?=(ys.map Value.string)[j]?:=by rw[ht]
  rw[List.getElem?_take_of_lt (by omega),List.getElem?_map,hj]at e;simp only[World.cell?,hh];simpa using e
theorem fT (k b x t l:Int)(seed:ByteArray)(p0 p1 p2 p3:Int)(bk o c:Nat)(xs:List ByteArray)(w:World)(hcells:∀(j:Nat) y,xs[j]?=some y->w.cell? ⟨bk,o+j,none⟩=some (string y))(hbk:bk<w.heap.size)(hcap:xs.length<=c)(hN:xs.length<=64)(hN1:1<=xs.length)
  (hk:k=1\/k=2)(h1:1<=b)(h2:b<=16)(hs:seed.size<=16)(hxs:∀y∈xs,(y.size:Int)=b)(hT:Tn w):Calls prog 270 #[.agg #[int i64 k,int i64 b,int i64 x,int i64 t,int i64 l,string seed,int i64 p0,int i64 p1,int i64 p2,int i64 p3],slice (some ⟨bk,o,none⟩) xs.length c] w λe w'=>e=.returned (string (Qg k b seed p0 p1 p2 6 0 xs))/\Below w.heap.size w w':=by
 obtain⟨W0,hW⟩:=Ca (w.alloc (.cells #[int i64 k,int i64 b,int i64 x,int i64 t,int i64 l,string seed,int i64 p0,int i64 p1,int i64 p2,int i64 p3] 344));have HF:=aa (show Xp w.heap.size W0 k b x t l seed p0 p1 p2 p3 by subst hW;refine⟨?_,?_,?_,?_,?_,?_,?_,?_,?_,?_⟩<;>simp[go_sem]);have HB:=Xd hW;have hz:W0.heap.size=w.heap.size+1:=by subst hW;simp
 have HT:=aa (hT.on HB.out)
 have HS:=aa (λ(V:World) (h:Below W0.heap.size W0 V)=>(by
  obtain⟨c0,c1,c2,c3,c4,c5,c6,c7,c8,c9⟩:=HF.out.below h (by omega);exact⟨c0,c1,c2,c3,c4,c5,c6,c7,c8,c9,h⟩:V.cell? ⟨w.heap.size,0,none⟩=some (int i64 k)/\V.cell? ⟨w.heap.size,1,none⟩=some (int i64 b)/\V.cell? ⟨w.heap.size,2,none⟩=some (int i64 x)/\V.cell? ⟨w.heap.size,3,none⟩=some (int i64 t)/\V.cell? ⟨w.heap.size,4,none⟩=some (int i64 l)/\V.cell? ⟨w.heap.size,5,none⟩=some (string seed)/\V.cell? ⟨w.heap.size,6,none⟩=some (int i64 p0)/\V.cell? ⟨w.heap.size,7,none⟩=some (int i64 p1)/\V.cell? ⟨w.heap.size,8,none⟩=some (int i64 p2)/\V.cell? ⟨w.heap.size,9,none⟩=some (int i64 p3)/\Below W0.heap.size W0 V))
 have HP:=aa (λ(r:Int) (bk o c:Nat) (ys:List ByteArray) (V:World) (hb:Below W0.heap.size W0 V) (hc:∀(j:Nat) y,ys[j]?=some y->V.cell? ⟨bk,o+j,none⟩=some (string y)) (hbk:bk<V.heap.size) (hcap:ys.length<=c) (hN:ys.length<=64) (hy:∀y∈ys,(y.size:Int)=b)=>Na0 k b x t l seed p0 p1 p2 p3 r bk o c ys V hc hbk hcap (by omega) hk h1 h2 hs (λy h=>by have:=hy y h;omega) (HT.out.on hb));have Ai:=aa (λ(r:Int) (ys:List ByteArray) (hy:∀y∈ys,(y.size:Int)=b)=>EK k b seed p0 p1 p2 r ys hk h1 h2 hs hy);have Qb:=aa (λ(j:Nat) (y:ByteArray) (hj:xs[j]?=some y)=>(HB.out.cell (p:=⟨bk,o+j,none⟩) hbk).trans (hcells j y hj));have HX:=aa hxs;clear hT hcells hxs;go_enter func270,ntmps270;go_wp2_with fail;try rw[hW]
 clear hW;go_loopw [5,6] (λv i wr=>∃(j:Nat) (g q c':Nat) (ys:List ByteArray),j<=6/\i=int i64 j/\v=slice (some ⟨g,q,none⟩) ys.length c'/\ys.length<=c'/\1<=ys.length/\ys.length<=64/\g<wr.heap.size/\Hid (ys.length<=2^(6-j)/\Qg k b seed p0 p1 p2 6 0 xs=Qg k b seed p0 p1 p2 (6-j) j ys)/\Hid (∀y∈ys,(y.size:Int)=b)/\Hid (∀(m:Nat) y,ys[m]?=some y->wr.cell? ⟨g,q+m,none⟩=some (string y))/\Hid (Below W0.heap.size W0 wr)) (λ_ i _=>7-(intOf i).toNat)
 case atStart=>exact⟨0,bk,o,c,xs,by omega,rfl,rfl,hcap,hN1,hN,by omega,⟨by simpa using hN,rfl⟩,HX.out,Qb.out,Vb⟩
 case round=>
  obtain⟨j,g,q,c',ys,hj,rfl,rfl,hc',hy1,K3,hg,hfo,hys,hce,hb⟩:=hrel;by_cases hlt:1<ys.length
  ·have hj6:j<6:=by
    rcases Nat.lt_or_ge j 6 with h|h
    ·exact h
    ·have:=hfo.out.1;rw[show 6-j=0 by omega]at this;simp at this;omega
   have yM:=aa (HP.out j g q c' ys wr hb.out hce.out hg hc' K3 hys.out);obtain⟨d0,d1,d2,d3,d4,d5,d6,d7,d8,d9,_⟩:=HS.out wr hb.out;go_wp2_with fail;refine yM.out.mono ?_
   rintro e w1 ⟨v,rfl,hrow,hb1⟩
   have hl:(Gg k b seed p0 p1 p2 j ys).length=(ys.length+1)/2:=kz _ _ _ _ _ _ _ _;obtain⟨g',cap',rfl,hcc,hg1,hg2,Gn⟩:=xx hrow (by omega);have HB1:=aa (Ga hb.out hb1 Aa);have uk:=aa Gn;have gN:=aa (Ai.out j ys hys.out)
   have El:Hid ((Gg k b seed p0 p1 p2 j ys).length<=2^(6-(j+1))/\Qg k b seed p0 p1 p2 6 0 xs=Qg k b seed p0 p1 p2 (6-(j+1)) (j+1) (Gg k b seed p0 p1 p2 j ys)):=by
    refine⟨?_,?_⟩
    ·have:=hfo.out.1;rw[show 6-j=(6-(j+1))+1 by omega,Nat.pow_succ]at this;omega
    ·rw[hfo.out.2,show 6-j=(6-(j+1))+1 by omega,Qg,if_neg (by omega)]
   have hl1:(Gg k b seed p0 p1 p2 j ys).length<=64:=by omega
   have hl2:1<=(Gg k b seed p0 p1 p2 j ys).length:=by omega
   clear hl hrow hb1 Gn hfo hys hce yM d0 d1 d2 d3 d4 d5 d6 d7 d8 d9;generalize Gg k b seed p0 p1 p2 j ys=zs at El gN uk hl1 hl2 hcc⊢;go_wp2;go_roundw
   case rel=>
    have R:∃(j':Nat) (g2 q2 c2:Nat) (ys:List ByteArray),j'<=6/\int i64 ((j:Int)+1)=int i64 j'/\slice (some ⟨g',0,none⟩) zs.length cap'=slice (some ⟨g2,q2,none⟩) ys.length c2/\ys.length<=c2/\1<=ys.length/\ys.length<=64/\g2<w1.heap.size/\Hid (ys.length<=2^(6-j')/\Qg k b seed p0 p1 p2 6 0 xs=Qg k b seed p0 p1 p2 (6-j') j' ys)/\Hid (∀y∈ys,(y.size:Int)=b)/\Hid (∀(m:Nat) y,ys[m]?=some y->w1.cell? ⟨g2,q2+m,none⟩=some (string y))/\Hid (Below W0.heap.size W0 w1):=⟨j+1,g',0,cap',zs,by omega,by go_num,rfl,hcc,by omega,by omega,hg2,by have h:=El.out;exact⟨h.1,by rw[h.2];rfl⟩,gN.out,uk.out,HB1.out⟩;first|exact R|((repeat apply Exists.intro);exact⟨R,rfl⟩)
   case measure=>simp[intOf];omega
  ·have hy0:ys.length=1:=by omega
   obtain⟨y,rfl⟩:∃y,ys=[y]:=List.length_eq_one_iff.1 hy0;have c0:=hce.out 0 y rfl;have HR:=aa (dZ k b seed p0 p1 p2 (6-j) j [y] (by simp));simp only[List.length_cons,List.length_nil,Nat.reduceAdd,Nat.add_zero]at c0⊢;go_wp2;go_ret;exact⟨by rw[hfo.out.2,HR.out];rfl,HB.out.trans (hb.out.mono (by omega))⟩
def ma (w:World)(g:Nat)(vs:List Value)(T:TypeId):Prop:=w.heap[g]?=some (.cells vs.toArray T (0,0))
theorem ma.lt {w:World}{g:Nat}{vs:List Value}{T:TypeId}(h:ma w g vs T):g<w.heap.size:=lt_of_block h
theorem ma.cell {w:World}{g:Nat}{vs:List Value}{T:TypeId}(h:ma w g vs T)(i:Nat):w.cell? ⟨g,i,none⟩=vs[i]?:=by
 unfold ma at h;simp[World.cell?,h]
theorem ma.free {w:World}{g:Nat}{vs:List Value}{T:TypeId}(h:ma w g vs T)(i:Nat):w.frozen? ⟨g,i,none⟩=false:=by
 unfold ma at h;simp[World.frozen?,h]
theorem ma.set {w:World}{g:Nat}{vs:List Value}{T:TypeId}(h:ma w g vs T)(i:Nat)(u:Value):ma (w.setCell ⟨g,i,none⟩ u) g (vs.set i u) T:=by
 have hlt:=h.lt;unfold ma at h⊢;have h':w.heap[g]=.cells vs.toArray T (0,0):=by simpa[Array.getElem?_eq_getElem hlt]using h
 show(w.heap.modify g _)[g]?=_;rw[Array.getElem?_eq_getElem (by simpa using hlt),Array.getElem_modify_self,h'];simp
theorem ma.below {w w':World}{g B:Nat}{vs:List Value}{T:TypeId}(h:ma w g vs T)(hb:Below B w w')(hg:g<B):ma w' g vs T:=by
 unfold ma at h⊢;rw[hb.block g hg];exact h
theorem ma.on {w w':World}{g:Nat}{vs:List Value}{T:TypeId}(h:ma w g vs T)(hb:Below w.heap.size w w'):ma w' g vs T:=h.below hb h.lt
theorem ma.other {w:World}{g:Nat}{vs:List Value}{T:TypeId}(h:ma w g vs T){a:Addr}(u:Value)(hne:g≠a.block):ma (w.setCell a u) g vs T:=by
 unfold ma at h⊢;rw[Below.heap_setCell _ _ _ _ hne];exact h
theorem ma.new (w:World)(vs:List Value)(T:TypeId):ma (w.alloc (.cells vs.toArray T)) w.heap.size vs T:=World.alloc_heap_new w _
theorem Fa {w:World}{g:Nat}{a0:Value}{r:List Value}{T:TypeId}(h:ma w g (a0::r) T):w.cell? ⟨g,0,none⟩=some a0:=h.cell 0
theorem Ja {w:World}{g:Nat}{a0 a1:Value}{r:List Value}{T:TypeId}(h:ma w g (a0::a1::r) T):w.cell? ⟨g,1,none⟩=some a1:=h.cell 1
theorem Ha {w:World}{g:Nat}{a0 a1 a2:Value}{r:List Value}{T:TypeId}(h:ma w g (a0::a1::a2::r) T):w.cell? ⟨g,2,none⟩=some a2:=h.cell 2
theorem Xa {w:World}{g:Nat}{a0 a1 a2 a3:Value}{r:List Value}{T:TypeId}(h:ma w g (a0::a1::a2::a3::r) T):w.cell? ⟨g,3,none⟩=some a3:=h.cell 3
theorem Ya {w:World}{g:Nat}{a0 a1 a2 a3 a4:Value}{r:List Value}{T:TypeId}(h:ma w g (a0::a1::a2::a3::a4::r) T):w.cell? ⟨g,4,none⟩=some a4:=h.cell 4
theorem Ee {w:World}{g:Nat}{a0 a1 a2 a3 a4 a5:Value}{r:List Value}{T:TypeId}(h:ma w g (a0::a1::a2::a3::a4::a5::r) T):w.cell? ⟨g,5,none⟩=some a5:=h.cell 5
theorem jf {w:World}{g:Nat}{a0 a1 a2 a3 a4 a5 a6:Value}{r:List Value}{T:TypeId}(h:ma w g (a0::a1::a2::a3::a4::a5::a6::r) T):w.cell? ⟨g,6,none⟩=some a6:=h.cell 6
theorem Ch {w:World}{g:Nat}{a0 a1 a2 a3 a4 a5 a6 a7:Value}{r:List Value}{T:TypeId}(h:ma w g (a0::a1::a2::a3::a4::a5::a6::a7::r) T):w.cell? ⟨g,7,none⟩=some a7:=h.cell 7
theorem bn {w:World}{g:Nat}{a0 a1 a2 a3 a4 a5 a6 a7 a8:Value}{r:List Value}{T:TypeId}(h:ma w g (a0::a1::a2::a3::a4::a5::a6::a7::a8::r) T):w.cell? ⟨g,8,none⟩=some a8:=h.cell 8
theorem dn {w:World}{g:Nat}{a0 a1 a2 a3 a4 a5 a6 a7 a8 a9:Value}{r:List Value}{T:TypeId}(h:ma w g (a0::a1::a2::a3::a4::a5::a6::a7::a8::a9::r) T):w.cell? ⟨g,9,none⟩=some a9:=h.cell 9
theorem qo {w:World}{g:Nat}{a0 a1 a2 a3 a4 a5 a6 a7 a8 a9 Xh:Value}{r:List Value}{T:TypeId}(h:ma w g (a0::a1::a2::a3::a4::a5::a6::a7::a8::a9::Xh::r) T):w.cell? ⟨g,10,none⟩=some Xh:=h.cell 10
theorem Zm {w:World}{g:Nat}{a0 a1 a2 a3 a4 a5 a6 a7 a8 a9 Xh Ni:Value}{r:List Value}{T:TypeId}(h:ma w g (a0::a1::a2::a3::a4::a5::a6::a7::a8::a9::Xh::Ni::r) T):w.cell? ⟨g,11,none⟩=some Ni:=h.cell 11
theorem Bh {w:World}{g:Nat}{a0 a1 a2 a3 a4 a5 a6 a7 a8 a9 Xh Ni a12:Value}{r:List Value}{T:TypeId}(h:ma w g (a0::a1::a2::a3::a4::a5::a6::a7::a8::a9::Xh::Ni::a12::r) T):w.cell? ⟨g,12,none⟩=some a12:=h.cell 12
theorem Dt {w:World}{g:Nat}{a0 a1 a2 a3 a4 a5 a6 a7 a8 a9 Xh Ni a12 Zk:Value}{r:List Value}{T:TypeId}(h:ma w g (a0::a1::a2::a3::a4::a5::a6::a7::a8::a9::Xh::Ni::a12::Zk::r) T):w.cell? ⟨g,13,none⟩=some Zk:=h.cell 13
theorem Aj {w:World}{g:Nat}{a0 a1 a2 a3 a4 a5 a6 a7 a8 a9 Xh Ni a12 Zk Cm:Value}{r:List Value}{T:TypeId}(h:ma w g (a0::a1::a2::a3::a4::a5::a6::a7::a8::a9::Xh::Ni::a12::Zk::Cm::r) T):w.cell? ⟨g,14,none⟩=some Cm:=h.cell 14
theorem pg {w:World}{g:Nat}{a0 a1 a2 a3 a4 a5 a6 a7 a8 a9 Xh Ni a12 Zk Cm oo:Value}{r:List Value}{T:TypeId}(h:ma w g (a0::a1::a2::a3::a4::a5::a6::a7::a8::a9::Xh::Ni::a12::Zk::Cm::oo::r) T):w.cell? ⟨g,15,none⟩=some oo:=h.cell 15
theorem ag {w:World}{g:Nat}{a0 a1 a2 a3 a4 a5 a6 a7 a8 a9 Xh Ni a12 Zk Cm oo a16:Value}{r:List Value}{T:TypeId}(h:ma w g (a0::a1::a2::a3::a4::a5::a6::a7::a8::a9::Xh::Ni::a12::Zk::Cm::oo::a16::r) T):w.cell? ⟨g,16,none⟩=some a16:=h.cell 16
theorem Du {w:World}{g:Nat}{a0 a1 a2 a3 a4 a5 a6 a7 a8 a9 Xh Ni a12 Zk Cm oo a16 a17:Value}{r:List Value}{T:TypeId}(h:ma w g (a0::a1::a2::a3::a4::a5::a6::a7::a8::a9::Xh::Ni::a12::Zk::Cm::oo::a16::a17::r) T):w.cell? ⟨g,17,none⟩=some a17:=h.cell 17
theorem Fg0 {w:World}{g:Nat}{a0 a1 a2 a3 a4 a5 a6 a7 a8 a9 Xh Ni a12 Zk Cm oo a16 a17 zy:Value}{r:List Value}{T:TypeId}(h:ma w g (a0::a1::a2::a3::a4::a5::a6::a7::a8::a9::Xh::Ni::a12::Zk::Cm::oo::a16::a17::zy::r) T):w.cell? ⟨g,18,none⟩=some zy:=h.cell 18
theorem Gg0 {w:World}{g:Nat}{a0 a1 a2 a3 a4 a5 a6 a7 a8 a9 Xh Ni a12 Zk Cm oo a16 a17 zy kE:Value}{r:List Value}{T:TypeId}(h:ma w g (a0::a1::a2::a3::a4::a5::a6::a7::a8::a9::Xh::Ni::a12::Zk::Cm::oo::a16::a17::zy::kE::r) T):w.cell? ⟨g,19,none⟩=some kE:=h.cell 19
theorem Hg0 {w:World}{g:Nat}{a0 a1 a2 a3 a4 a5 a6 a7 a8 a9 Xh Ni a12 Zk Cm oo a16 a17 zy kE a20:Value}{r:List Value}{T:TypeId}(h:ma w g (a0::a1::a2::a3::a4::a5::a6::a7::a8::a9::Xh::Ni::a12::Zk::Cm::oo::a16::a17::zy::kE::a20::r) T):w.cell? ⟨g,20,none⟩=some a20:=h.cell 20
theorem Ph {w W:World}{l:List Value}{T:TypeId}(h:w.alloc (.cells l.toArray T)=W):Hid (ma W w.heap.size l T):=by subst h;exact ma.new w l T
theorem ma.alloc {w:World}{g:Nat}{vs:List Value}{T:TypeId}(h:ma w g vs T)(o:Obj):ma (w.alloc o) g vs T:=h.on (Va o)
def Ew (k b:Int)(wd:Nat)(sec pub:ByteArray)(p0 p1 F:Int)(i:Nat):ByteArray:=bg k b pub p0 p1 F i 0 wd (si k b sec p0 p1 F i)
def Xg (k b:Int)(wd:Nat)(sec pub:ByteArray)(p0 p1 F:Int)(n:Nat):List ByteArray:=(List.range n).map (Ew k b wd sec pub p0 p1 F)
theorem XY (k b:Int)(wd:Nat)(sec pub:ByteArray)(p0 p1 F:Int)(n:Nat):Xg k b wd sec pub p0 p1 F (n+1)=Xg k b wd sec pub p0 p1 F n++[Ew k b wd sec pub p0 p1 F n]:=by simp[Xg,List.range_succ]
theorem Et (k b:Int)(wd:Nat)(sec pub:ByteArray)(p0 p1 F:Int)(n:Nat):(Xg k b wd sec pub p0 p1 F n).length=n:=by simp[Xg]
theorem WY (k b:Int)(wd:Nat)(sec pub:ByteArray)(p0 p1 F:Int)(i:Nat)(hk:k=1\/k=2)(h1:1<=b)(h2:b<=16)(hs:sec.size<=16)(hp:pub.size<=16):((Ew k b wd sec pub p0 p1 F i).size:Int)=b:=UA k b pub p0 p1 F i 0 wd _ hk h1 h2 hp (UC k b sec p0 p1 F i hk h1 h2 hs)
theorem zI (k b:Int)(wd:Nat)(sec pub:ByteArray)(p0 p1 F:Int)(n:Nat)(hk:k=1\/k=2)(h1:1<=b)(h2:b<=16)(hs:sec.size<=16)(hp:pub.size<=16):∀y∈Xg k b wd sec pub p0 p1 F n,(y.size:Int)=b:=by
 intro y hy;simp only[Xg,List.mem_map,List.mem_range]at hy;obtain⟨i,_,rfl⟩:=hy;exact WY k b wd sec pub p0 p1 F i hk h1 h2 hs hp
def oq (k b:Int)(wd ch:Nat)(sec pub:ByteArray)(p0 p1 F:Int):ByteArray:=Qg k b pub p0 p1 F 6 0 (Xg k b wd sec pub p0 p1 F ch)
def Zg (k b:Int)(wd ch:Nat)(sec pub:ByteArray)(p0 p1:Int):Nat->Nat->ByteArray
 |0,j=>oq k b wd ch sec pub p0 p1 j
 |h+1,j=>Kk k b pub p0 p1 (h+1:Nat) j (Zg k b wd ch sec pub p0 p1 h (2*j)) (Zg k b wd ch sec pub p0 p1 h (2*j+1))
theorem GI (k b:Int)(pub:ByteArray)(p0 p1 p2:Int)(hk:k=1\/k=2)(h1:1<=b)(h2:b<=16)(hp:pub.size<=16):∀(f:Nat) (r:Int) (xs:List ByteArray),1<=xs.length->(∀y∈xs,(y.size:Int)=b)->((Qg k b pub p0 p1 p2 f r xs).size:Int)=b:=by
 intro f
 induction f with
 |zero=>
  intro r xs hl hx;obtain⟨y,ys,rfl⟩:=List.exists_cons_of_length_pos (show 0<xs.length by omega);exact hx y (by simp)
 |succ f ih=>
  intro r xs hl hx;rw[Qg];split
  ·obtain⟨y,ys,rfl⟩:=List.exists_cons_of_length_pos (show 0<xs.length by omega);exact hx y (by simp)
  ·exact ih _ _ (by rw[kz];omega) (EK k b pub p0 p1 p2 r xs hk h1 h2 hp hx)
theorem H7 (k b:Int)(wd ch:Nat)(sec pub:ByteArray)(p0 p1 F:Int)(hk:k=1\/k=2)(h1:1<=b)(h2:b<=16)(hs:sec.size<=16)(hp:pub.size<=16)(hc:1<=ch):((oq k b wd ch sec pub p0 p1 F).size:Int)=b:=GI k b pub p0 p1 F hk h1 h2 hp 6 0 _ (by rw[Et];exact hc) (zI k b wd sec pub p0 p1 F ch hk h1 h2 hs hp)
theorem Wy (k b:Int)(wd ch:Nat)(sec pub:ByteArray)(p0 p1:Int)(hk:k=1\/k=2)(h1:1<=b)(h2:b<=16)(hs:sec.size<=16)(hp:pub.size<=16)(hc:1<=ch):∀h j,((Zg k b wd ch sec pub p0 p1 h j).size:Int)=b:=by
 intro h
 induction h with
 |zero=>intro j;exact H7 k b wd ch sec pub p0 p1 j hk h1 h2 hs hp hc
 |succ h ih=>
  intro j;have e0:=ih (2*j);have e1:=ih (2*j+1);exact QJ k b pub p0 p1 _ _ _ _ hk h1 h2 hp (by omega) (by omega)
abbrev Nd:Type:=Nat×Nat×ByteArray
end Go.Proofs.YtgaoeoijdpdjiabGreatDoor
