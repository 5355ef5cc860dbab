import Derived.Test.YtgaoeoijdpdjiabGreatDoorPart13
import Derived.Test.YtgaoeoijdpdjiabGreatDoorPart18
open Go.Value (int string)
open Go.IntKind (i64)
open Go.Proofs.Tryz
set_option maxHeartbeats 1000000
namespace Go.Proofs.YtgaoeoijdpdjiabGreatDoor
open Go.RowKit
theorem cZ (x e:Nat)(A:List Nat)(i:Nat)(he:0<e)(hi:i<A.length*e):De (Od x e A) i=De (Tf x e (De A (i/e))) (i% e):=by
 induction A generalizing i with
 |nil=>simp at hi
 |cons c r ih=>
  simp only[Od];by_cases h:i<e
  ·rw[IW _ _ _ (by rw[bq];exact h),Nat.div_eq_of_lt h,Nat.mod_eq_of_lt h];rfl
  ·obtain⟨j,rfl⟩:∃j,i=e+j:=⟨i-e,by omega⟩;have e1:=JW (Tf x e c) (Od x e r) j;rw[bq]at e1;rw[e1,ih j (by simp only[List.length_cons,Nat.succ_mul]at hi;omega)];rw[Nat.add_div_left _ he,Nat.add_mod_left];rfl
theorem vY (k:Int)(t l i c:Nat)(m:ByteArray)(w:World)(h1:1<=t)(h2:t<=4)(h3:1<=l)(h4:l<=3)(hm:m.size=4)(hi:i<16)(hr:i% 4=0)(q1:i/4<m.size)(hc:(m[i/4]'q1).toNat=c):Calls prog 166 #[.agg #[int i64 k,int i64 4,int i64 4,int i64 t,int i64 l],string m,int i64 i] w λr w'=>r=.returned (int i64 (((((c:Int)/4)/4)/4)% 4))/\Below w.heap.size w w':=by
 have HS:=Ia (λw':World=>JC k t l w' h1 h2 h3 h4);have hcb:(((m[i/4]'q1).toNat:Nat):Int)<=255:=by have:=UInt8.toNat_lt (m[i/4]'q1);omega
 have HC:=Ia hc;have m1:m.size<=4:=Nat.le_of_eq hm;have m2:4<=m.size:=Nat.le_of_eq hm.symm;have q2:((i:Int)/4)<(m.size:Int):=by omega
 have q3:(i:Int)% 4=0:=by omega
 clear hc hm hr;go_enter func166,ntmps166;go_wp2_with fail;refine(HS.out _).mono ?_
 rintro r w1 ⟨rfl,hb⟩
 have Z1:=Ia (show w.heap.size<w1.heap.size by have:=hb.size;simp at this;omega);have B1:=Ia ((Va _).trans (hb.mono (by simp)):Below w.heap.size w w1);have c1:∀o,(w1.alloc o).cell? ⟨w.heap.size,1,none⟩=some (int i64 4):=λo=>(World.cell?_alloc_past _ _ _ Z1.out).trans ((hb.cell (by simp)).trans (by simp[go_sem]));have c2:∀o,(w1.alloc o).cell? ⟨w.heap.size,2,none⟩=some (int i64 4):=λo=>(World.cell?_alloc_past _ _ _ Z1.out).trans ((hb.cell (by simp)).trans (by simp[go_sem]));clear hb HS;go_wp2;go_rounds 4;go_ret;refine⟨?_,B1.out.alloc (Nat.le_of_lt Z1.out) _⟩;first|(rw[HC.out];done)|(rw[<-HC.out];done)|(simp only[HC.out];done)|(simp[HC.out];done)
theorem wY (k:Int)(t l i c:Nat)(m:ByteArray)(w:World)(h1:1<=t)(h2:t<=4)(h3:1<=l)(h4:l<=3)(hm:m.size=4)(hi:i<16)(hr:i% 4=1)(q1:i/4<m.size)(hc:(m[i/4]'q1).toNat=c):Calls prog 166 #[.agg #[int i64 k,int i64 4,int i64 4,int i64 t,int i64 l],string m,int i64 i] w λr w'=>r=.returned (int i64 ((((c:Int)/4)/4)% 4))/\Below w.heap.size w w':=by
 have HS:=Ia (λw':World=>JC k t l w' h1 h2 h3 h4);have hcb:(((m[i/4]'q1).toNat:Nat):Int)<=255:=by have:=UInt8.toNat_lt (m[i/4]'q1);omega
 have HC:=Ia hc;have m1:m.size<=4:=Nat.le_of_eq hm;have m2:4<=m.size:=Nat.le_of_eq hm.symm;have q2:((i:Int)/4)<(m.size:Int):=by omega
 have q3:(i:Int)% 4=1:=by omega
 clear hc hm hr;go_enter func166,ntmps166;go_wp2_with fail;refine(HS.out _).mono ?_
 rintro r w1 ⟨rfl,hb⟩
 have Z1:=Ia (show w.heap.size<w1.heap.size by have:=hb.size;simp at this;omega);have B1:=Ia ((Va _).trans (hb.mono (by simp)):Below w.heap.size w w1);have c1:∀o,(w1.alloc o).cell? ⟨w.heap.size,1,none⟩=some (int i64 4):=λo=>(World.cell?_alloc_past _ _ _ Z1.out).trans ((hb.cell (by simp)).trans (by simp[go_sem]));have c2:∀o,(w1.alloc o).cell? ⟨w.heap.size,2,none⟩=some (int i64 4):=λo=>(World.cell?_alloc_past _ _ _ Z1.out).trans ((hb.cell (by simp)).trans (by simp[go_sem]));clear hb HS;go_wp2;go_rounds 3;go_ret;refine⟨?_,B1.out.alloc (Nat.le_of_lt Z1.out) _⟩;first|(rw[HC.out];done)|(rw[<-HC.out];done)|(simp only[HC.out];done)|(simp[HC.out];done)
theorem xY (k:Int)(t l i c:Nat)(m:ByteArray)(w:World)(h1:1<=t)(h2:t<=4)(h3:1<=l)(h4:l<=3)(hm:m.size=4)(hi:i<16)(hr:i% 4=2)(q1:i/4<m.size)(hc:(m[i/4]'q1).toNat=c):Calls prog 166 #[.agg #[int i64 k,int i64 4,int i64 4,int i64 t,int i64 l],string m,int i64 i] w λr w'=>r=.returned (int i64 (((c:Int)/4)% 4))/\Below w.heap.size w w':=by
 have HS:=Ia (λw':World=>JC k t l w' h1 h2 h3 h4);have hcb:(((m[i/4]'q1).toNat:Nat):Int)<=255:=by have:=UInt8.toNat_lt (m[i/4]'q1);omega
 have HC:=Ia hc;have m1:m.size<=4:=Nat.le_of_eq hm;have m2:4<=m.size:=Nat.le_of_eq hm.symm;have q2:((i:Int)/4)<(m.size:Int):=by omega
 have q3:(i:Int)% 4=2:=by omega
 clear hc hm hr;go_enter func166,ntmps166;go_wp2_with fail;refine(HS.out _).mono ?_
 rintro r w1 ⟨rfl,hb⟩
 have Z1:=Ia (show w.heap.size<w1.heap.size by have:=hb.size;simp at this;omega);have B1:=Ia ((Va _).trans (hb.mono (by simp)):Below w.heap.size w w1);have c1:∀o,(w1.alloc o).cell? ⟨w.heap.size,1,none⟩=some (int i64 4):=λo=>(World.cell?_alloc_past _ _ _ Z1.out).trans ((hb.cell (by simp)).trans (by simp[go_sem]));have c2:∀o,(w1.alloc o).cell? ⟨w.heap.size,2,none⟩=some (int i64 4):=λo=>(World.cell?_alloc_past _ _ _ Z1.out).trans ((hb.cell (by simp)).trans (by simp[go_sem]));clear hb HS;go_wp2;go_rounds 2;go_ret;refine⟨?_,B1.out.alloc (Nat.le_of_lt Z1.out) _⟩;first|(rw[HC.out];done)|(rw[<-HC.out];done)|(simp only[HC.out];done)|(simp[HC.out];done)
theorem yY (k:Int)(t l i c:Nat)(m:ByteArray)(w:World)(h1:1<=t)(h2:t<=4)(h3:1<=l)(h4:l<=3)(hm:m.size=4)(hi:i<16)(hr:i% 4=3)(q1:i/4<m.size)(hc:(m[i/4]'q1).toNat=c):Calls prog 166 #[.agg #[int i64 k,int i64 4,int i64 4,int i64 t,int i64 l],string m,int i64 i] w λr w'=>r=.returned (int i64 ((c:Int)% 4))/\Below w.heap.size w w':=by
 have HS:=Ia (λw':World=>JC k t l w' h1 h2 h3 h4);have hcb:(((m[i/4]'q1).toNat:Nat):Int)<=255:=by have:=UInt8.toNat_lt (m[i/4]'q1);omega
 have HC:=Ia hc;have m1:m.size<=4:=Nat.le_of_eq hm;have m2:4<=m.size:=Nat.le_of_eq hm.symm;have q2:((i:Int)/4)<(m.size:Int):=by omega
 have q3:(i:Int)% 4=3:=by omega
 clear hc hm hr;go_enter func166,ntmps166;go_wp2_with fail;refine(HS.out _).mono ?_
 rintro r w1 ⟨rfl,hb⟩
 have Z1:=Ia (show w.heap.size<w1.heap.size by have:=hb.size;simp at this;omega);have B1:=Ia ((Va _).trans (hb.mono (by simp)):Below w.heap.size w w1);have c1:∀o,(w1.alloc o).cell? ⟨w.heap.size,1,none⟩=some (int i64 4):=λo=>(World.cell?_alloc_past _ _ _ Z1.out).trans ((hb.cell (by simp)).trans (by simp[go_sem]));have c2:∀o,(w1.alloc o).cell? ⟨w.heap.size,2,none⟩=some (int i64 4):=λo=>(World.cell?_alloc_past _ _ _ Z1.out).trans ((hb.cell (by simp)).trans (by simp[go_sem]));clear hb HS;go_wp2;go_rounds 1;go_ret;refine⟨?_,B1.out.alloc (Nat.le_of_lt Z1.out) _⟩;first|(rw[HC.out];done)|(rw[<-HC.out];done)|(simp only[HC.out];done)|(simp[HC.out];done)
theorem CY (k:Int)(t l i c:Nat)(m:ByteArray)(w:World)(h1:1<=t)(h2:t<=4)(h3:1<=l)(h4:l<=3)(hm:m.size=8)(hi:i<32)(hr:i% 4=0)(q1:i/4<m.size)(hc:(m[i/4]'q1).toNat=c):Calls prog 166 #[.agg #[int i64 k,int i64 8,int i64 4,int i64 t,int i64 l],string m,int i64 i] w λr w'=>r=.returned (int i64 (((((c:Int)/4)/4)/4)% 4))/\Below w.heap.size w w':=by
 have HS:=Ia (λw':World=>KC k t l w' h1 h2 h3 h4);have hcb:(((m[i/4]'q1).toNat:Nat):Int)<=255:=by have:=UInt8.toNat_lt (m[i/4]'q1);omega
 have HC:=Ia hc;have m1:m.size<=8:=Nat.le_of_eq hm;have m2:8<=m.size:=Nat.le_of_eq hm.symm;have q2:((i:Int)/4)<(m.size:Int):=by omega
 have q3:(i:Int)% 4=0:=by omega
 clear hc hm hr;go_enter func166,ntmps166;go_wp2_with fail;refine(HS.out _).mono ?_
 rintro r w1 ⟨rfl,hb⟩
 have Z1:=Ia (show w.heap.size<w1.heap.size by have:=hb.size;simp at this;omega);have B1:=Ia ((Va _).trans (hb.mono (by simp)):Below w.heap.size w w1);have c1:∀o,(w1.alloc o).cell? ⟨w.heap.size,1,none⟩=some (int i64 8):=λo=>(World.cell?_alloc_past _ _ _ Z1.out).trans ((hb.cell (by simp)).trans (by simp[go_sem]));have c2:∀o,(w1.alloc o).cell? ⟨w.heap.size,2,none⟩=some (int i64 4):=λo=>(World.cell?_alloc_past _ _ _ Z1.out).trans ((hb.cell (by simp)).trans (by simp[go_sem]));clear hb HS;go_wp2;go_rounds 4;go_ret;refine⟨?_,B1.out.alloc (Nat.le_of_lt Z1.out) _⟩;first|(rw[HC.out];done)|(rw[<-HC.out];done)|(simp only[HC.out];done)|(simp[HC.out];done)
theorem DY (k:Int)(t l i c:Nat)(m:ByteArray)(w:World)(h1:1<=t)(h2:t<=4)(h3:1<=l)(h4:l<=3)(hm:m.size=8)(hi:i<32)(hr:i% 4=1)(q1:i/4<m.size)(hc:(m[i/4]'q1).toNat=c):Calls prog 166 #[.agg #[int i64 k,int i64 8,int i64 4,int i64 t,int i64 l],string m,int i64 i] w λr w'=>r=.returned (int i64 ((((c:Int)/4)/4)% 4))/\Below w.heap.size w w':=by
 have HS:=Ia (λw':World=>KC k t l w' h1 h2 h3 h4);have hcb:(((m[i/4]'q1).toNat:Nat):Int)<=255:=by have:=UInt8.toNat_lt (m[i/4]'q1);omega
 have HC:=Ia hc;have m1:m.size<=8:=Nat.le_of_eq hm;have m2:8<=m.size:=Nat.le_of_eq hm.symm;have q2:((i:Int)/4)<(m.size:Int):=by omega
 have q3:(i:Int)% 4=1:=by omega
 clear hc hm hr;go_enter func166,ntmps166;go_wp2_with fail;refine(HS.out _).mono ?_
 rintro r w1 ⟨rfl,hb⟩
 have Z1:=Ia (show w.heap.size<w1.heap.size by have:=hb.size;simp at this;omega);have B1:=Ia ((Va _).trans (hb.mono (by simp)):Below w.heap.size w w1);have c1:∀o,(w1.alloc o).cell? ⟨w.heap.size,1,none⟩=some (int i64 8):=λo=>(World.cell?_alloc_past _ _ _ Z1.out).trans ((hb.cell (by simp)).trans (by simp[go_sem]));have c2:∀o,(w1.alloc o).cell? ⟨w.heap.size,2,none⟩=some (int i64 4):=λo=>(World.cell?_alloc_past _ _ _ Z1.out).trans ((hb.cell (by simp)).trans (by simp[go_sem]));clear hb HS;go_wp2;go_rounds 3;go_ret;refine⟨?_,B1.out.alloc (Nat.le_of_lt Z1.out) _⟩;first|(rw[HC.out];done)|(rw[<-HC.out];done)|(simp only[HC.out];done)|(simp[HC.out];done)
theorem EY (k:Int)(t l i c:Nat)(m:ByteArray)(w:World)(h1:1<=t)(h2:t<=4)(h3:1<=l)(h4:l<=3)(hm:m.size=8)(hi:i<32)(hr:i% 4=2)(q1:i/4<m.size)(hc:(m[i/4]'q1).toNat=c):Calls prog 166 #[.agg #[int i64 k,int i64 8,int i64 4,int i64 t,int i64 l],string m,int i64 i] w λr w'=>r=.returned (int i64 (((c:Int)/4)% 4))/\Below w.heap.size w w':=by
 have HS:=Ia (λw':World=>KC k t l w' h1 h2 h3 h4);have hcb:(((m[i/4]'q1).toNat:Nat):Int)<=255:=by have:=UInt8.toNat_lt (m[i/4]'q1);omega
 have HC:=Ia hc;have m1:m.size<=8:=Nat.le_of_eq hm;have m2:8<=m.size:=Nat.le_of_eq hm.symm;have q2:((i:Int)/4)<(m.size:Int):=by omega
 have q3:(i:Int)% 4=2:=by omega
 clear hc hm hr;go_enter func166,ntmps166;go_wp2_with fail;refine(HS.out _).mono ?_
 rintro r w1 ⟨rfl,hb⟩
 have Z1:=Ia (show w.heap.size<w1.heap.size by have:=hb.size;simp at this;omega);have B1:=Ia ((Va _).trans (hb.mono (by simp)):Below w.heap.size w w1);have c1:∀o,(w1.alloc o).cell? ⟨w.heap.size,1,none⟩=some (int i64 8):=λo=>(World.cell?_alloc_past _ _ _ Z1.out).trans ((hb.cell (by simp)).trans (by simp[go_sem]));have c2:∀o,(w1.alloc o).cell? ⟨w.heap.size,2,none⟩=some (int i64 4):=λo=>(World.cell?_alloc_past _ _ _ Z1.out).trans ((hb.cell (by simp)).trans (by simp[go_sem]));clear hb HS;go_wp2;go_rounds 2;go_ret;refine⟨?_,B1.out.alloc (Nat.le_of_lt Z1.out) _⟩;first|(rw[HC.out];done)|(rw[<-HC.out];done)|(simp only[HC.out];done)|(simp[HC.out];done)
theorem FY (k:Int)(t l i c:Nat)(m:ByteArray)(w:World)(h1:1<=t)(h2:t<=4)(h3:1<=l)(h4:l<=3)(hm:m.size=8)(hi:i<32)(hr:i% 4=3)(q1:i/4<m.size)(hc:(m[i/4]'q1).toNat=c):Calls prog 166 #[.agg #[int i64 k,int i64 8,int i64 4,int i64 t,int i64 l],string m,int i64 i] w λr w'=>r=.returned (int i64 ((c:Int)% 4))/\Below w.heap.size w w':=by
 have HS:=Ia (λw':World=>KC k t l w' h1 h2 h3 h4);have hcb:(((m[i/4]'q1).toNat:Nat):Int)<=255:=by have:=UInt8.toNat_lt (m[i/4]'q1);omega
 have HC:=Ia hc;have m1:m.size<=8:=Nat.le_of_eq hm;have m2:8<=m.size:=Nat.le_of_eq hm.symm;have q2:((i:Int)/4)<(m.size:Int):=by omega
 have q3:(i:Int)% 4=3:=by omega
 clear hc hm hr;go_enter func166,ntmps166;go_wp2_with fail;refine(HS.out _).mono ?_
 rintro r w1 ⟨rfl,hb⟩
 have Z1:=Ia (show w.heap.size<w1.heap.size by have:=hb.size;simp at this;omega);have B1:=Ia ((Va _).trans (hb.mono (by simp)):Below w.heap.size w w1);have c1:∀o,(w1.alloc o).cell? ⟨w.heap.size,1,none⟩=some (int i64 8):=λo=>(World.cell?_alloc_past _ _ _ Z1.out).trans ((hb.cell (by simp)).trans (by simp[go_sem]));have c2:∀o,(w1.alloc o).cell? ⟨w.heap.size,2,none⟩=some (int i64 4):=λo=>(World.cell?_alloc_past _ _ _ Z1.out).trans ((hb.cell (by simp)).trans (by simp[go_sem]));clear hb HS;go_wp2;go_rounds 1;go_ret;refine⟨?_,B1.out.alloc (Nat.le_of_lt Z1.out) _⟩;first|(rw[HC.out];done)|(rw[<-HC.out];done)|(simp only[HC.out];done)|(simp[HC.out];done)
theorem tY (k:Int)(t l i c:Nat)(m:ByteArray)(w:World)(h1:1<=t)(h2:t<=4)(h3:1<=l)(h4:l<=3)(hm:m.size=4)(hi:i<8)(hr:i% 2=0)(q1:i/2<m.size)(hc:(m[i/2]'q1).toNat=c):Calls prog 166 #[.agg #[int i64 k,int i64 4,int i64 16,int i64 t,int i64 l],string m,int i64 i] w λr w'=>r=.returned (int i64 (((c:Int)/16)% 16))/\Below w.heap.size w w':=by
 have HS:=Ia (λw':World=>BK k t l w' h1 h2 h3 h4);have hcb:(((m[i/2]'q1).toNat:Nat):Int)<=255:=by have:=UInt8.toNat_lt (m[i/2]'q1);omega
 have HC:=Ia hc;have m1:m.size<=4:=Nat.le_of_eq hm;have m2:4<=m.size:=Nat.le_of_eq hm.symm;have q2:((i:Int)/2)<(m.size:Int):=by omega
 have q3:(i:Int)% 2=0:=by omega
 clear hc hm hr;go_enter func166,ntmps166;go_wp2_with fail;refine(HS.out _).mono ?_
 rintro r w1 ⟨rfl,hb⟩
 have Z1:=Ia (show w.heap.size<w1.heap.size by have:=hb.size;simp at this;omega);have B1:=Ia ((Va _).trans (hb.mono (by simp)):Below w.heap.size w w1);have c1:∀o,(w1.alloc o).cell? ⟨w.heap.size,1,none⟩=some (int i64 4):=λo=>(World.cell?_alloc_past _ _ _ Z1.out).trans ((hb.cell (by simp)).trans (by simp[go_sem]));have c2:∀o,(w1.alloc o).cell? ⟨w.heap.size,2,none⟩=some (int i64 16):=λo=>(World.cell?_alloc_past _ _ _ Z1.out).trans ((hb.cell (by simp)).trans (by simp[go_sem]));clear hb HS;go_wp2;go_rounds 2;go_ret;refine⟨?_,B1.out.alloc (Nat.le_of_lt Z1.out) _⟩;first|(rw[HC.out];done)|(rw[<-HC.out];done)|(simp only[HC.out];done)|(simp[HC.out];done)
theorem uY (k:Int)(t l i c:Nat)(m:ByteArray)(w:World)(h1:1<=t)(h2:t<=4)(h3:1<=l)(h4:l<=3)(hm:m.size=4)(hi:i<8)(hr:i% 2=1)(q1:i/2<m.size)(hc:(m[i/2]'q1).toNat=c):Calls prog 166 #[.agg #[int i64 k,int i64 4,int i64 16,int i64 t,int i64 l],string m,int i64 i] w λr w'=>r=.returned (int i64 ((c:Int)% 16))/\Below w.heap.size w w':=by
 have HS:=Ia (λw':World=>BK k t l w' h1 h2 h3 h4);have hcb:(((m[i/2]'q1).toNat:Nat):Int)<=255:=by have:=UInt8.toNat_lt (m[i/2]'q1);omega
 have HC:=Ia hc;have m1:m.size<=4:=Nat.le_of_eq hm;have m2:4<=m.size:=Nat.le_of_eq hm.symm;have q2:((i:Int)/2)<(m.size:Int):=by omega
 have q3:(i:Int)% 2=1:=by omega
 clear hc hm hr;go_enter func166,ntmps166;go_wp2_with fail;refine(HS.out _).mono ?_
 rintro r w1 ⟨rfl,hb⟩
 have Z1:=Ia (show w.heap.size<w1.heap.size by have:=hb.size;simp at this;omega);have B1:=Ia ((Va _).trans (hb.mono (by simp)):Below w.heap.size w w1);have c1:∀o,(w1.alloc o).cell? ⟨w.heap.size,1,none⟩=some (int i64 4):=λo=>(World.cell?_alloc_past _ _ _ Z1.out).trans ((hb.cell (by simp)).trans (by simp[go_sem]));have c2:∀o,(w1.alloc o).cell? ⟨w.heap.size,2,none⟩=some (int i64 16):=λo=>(World.cell?_alloc_past _ _ _ Z1.out).trans ((hb.cell (by simp)).trans (by simp[go_sem]));clear hb HS;go_wp2;go_rounds 1;go_ret;refine⟨?_,B1.out.alloc (Nat.le_of_lt Z1.out) _⟩;first|(rw[HC.out];done)|(rw[<-HC.out];done)|(simp only[HC.out];done)|(simp[HC.out];done)
theorem zY (k:Int)(t l i c:Nat)(m:ByteArray)(w:World)(h1:1<=t)(h2:t<=4)(h3:1<=l)(h4:l<=3)(hm:m.size=8)(hi:i<16)(hr:i% 2=0)(q1:i/2<m.size)(hc:(m[i/2]'q1).toNat=c):Calls prog 166 #[.agg #[int i64 k,int i64 8,int i64 16,int i64 t,int i64 l],string m,int i64 i] w λr w'=>r=.returned (int i64 (((c:Int)/16)% 16))/\Below w.heap.size w w':=by
 have HS:=Ia (λw':World=>CK k t l w' h1 h2 h3 h4);have hcb:(((m[i/2]'q1).toNat:Nat):Int)<=255:=by have:=UInt8.toNat_lt (m[i/2]'q1);omega
 have HC:=Ia hc;have m1:m.size<=8:=Nat.le_of_eq hm;have m2:8<=m.size:=Nat.le_of_eq hm.symm;have q2:((i:Int)/2)<(m.size:Int):=by omega
 have q3:(i:Int)% 2=0:=by omega
 clear hc hm hr;go_enter func166,ntmps166;go_wp2_with fail;refine(HS.out _).mono ?_
 rintro r w1 ⟨rfl,hb⟩
 have Z1:=Ia (show w.heap.size<w1.heap.size by have:=hb.size;simp at this;omega);have B1:=Ia ((Va _).trans (hb.mono (by simp)):Below w.heap.size w w1);have c1:∀o,(w1.alloc o).cell? ⟨w.heap.size,1,none⟩=some (int i64 8):=λo=>(World.cell?_alloc_past _ _ _ Z1.out).trans ((hb.cell (by simp)).trans (by simp[go_sem]));have c2:∀o,(w1.alloc o).cell? ⟨w.heap.size,2,none⟩=some (int i64 16):=λo=>(World.cell?_alloc_past _ _ _ Z1.out).trans ((hb.cell (by simp)).trans (by simp[go_sem]));clear hb HS;go_wp2;go_rounds 2;go_ret;refine⟨?_,B1.out.alloc (Nat.le_of_lt Z1.out) _⟩;first|(rw[HC.out];done)|(rw[<-HC.out];done)|(simp only[HC.out];done)|(simp[HC.out];done)
theorem AY (k:Int)(t l i c:Nat)(m:ByteArray)(w:World)(h1:1<=t)(h2:t<=4)(h3:1<=l)(h4:l<=3)(hm:m.size=8)(hi:i<16)(hr:i% 2=1)(q1:i/2<m.size)(hc:(m[i/2]'q1).toNat=c):Calls prog 166 #[.agg #[int i64 k,int i64 8,int i64 16,int i64 t,int i64 l],string m,int i64 i] w λr w'=>r=.returned (int i64 ((c:Int)% 16))/\Below w.heap.size w w':=by
 have HS:=Ia (λw':World=>CK k t l w' h1 h2 h3 h4);have hcb:(((m[i/2]'q1).toNat:Nat):Int)<=255:=by have:=UInt8.toNat_lt (m[i/2]'q1);omega
 have HC:=Ia hc;have m1:m.size<=8:=Nat.le_of_eq hm;have m2:8<=m.size:=Nat.le_of_eq hm.symm;have q2:((i:Int)/2)<(m.size:Int):=by omega
 have q3:(i:Int)% 2=1:=by omega
 clear hc hm hr;go_enter func166,ntmps166;go_wp2_with fail;refine(HS.out _).mono ?_
 rintro r w1 ⟨rfl,hb⟩
 have Z1:=Ia (show w.heap.size<w1.heap.size by have:=hb.size;simp at this;omega);have B1:=Ia ((Va _).trans (hb.mono (by simp)):Below w.heap.size w w1);have c1:∀o,(w1.alloc o).cell? ⟨w.heap.size,1,none⟩=some (int i64 8):=λo=>(World.cell?_alloc_past _ _ _ Z1.out).trans ((hb.cell (by simp)).trans (by simp[go_sem]));have c2:∀o,(w1.alloc o).cell? ⟨w.heap.size,2,none⟩=some (int i64 16):=λo=>(World.cell?_alloc_past _ _ _ Z1.out).trans ((hb.cell (by simp)).trans (by simp[go_sem]));clear hb HS;go_wp2;go_rounds 1;go_ret;refine⟨?_,B1.out.alloc (Nat.le_of_lt Z1.out) _⟩;first|(rw[HC.out];done)|(rw[<-HC.out];done)|(simp only[HC.out];done)|(simp[HC.out];done)
theorem lX (m:ByteArray)(j:Nat)(h:j<m.size):De (Eb m) j=(m[j]'h).toNat:=NA m j h
theorem tb0 (b x e f:Nat)(hp:Bi b x e f)(k:Int)(t l i:Nat)(m:ByteArray)(w:World)(h1:1<=t)(h2:t<=4)(h3:1<=l)(h4:l<=3)(hm:m.size=b)(hi:i<b*e):Calls prog 166 #[.agg #[int i64 k,int i64 b,int i64 x,int i64 t,int i64 l],string m,int i64 i] w λr w'=>r=.returned (int i64 ((De (Od x e (Eb m)) i:Nat):Int))/\Below w.heap.size w w':=by
 have he:0<e:=by rcases hp with⟨rfl,rfl,rfl,rfl⟩|⟨rfl,rfl,rfl,rfl⟩|⟨rfl,rfl,rfl,rfl⟩|⟨rfl,rfl,rfl,rfl⟩<;>decide
 have q1:i/e<m.size:=by rw[hm];exact Nat.div_lt_of_lt_mul (by rw[Nat.mul_comm];exact hi)
 have key:=cZ x e (Eb m) i he (by rw[Bj,hm];exact hi);rw[lX m (i/e) q1]at key;rw[key];rcases hp with⟨rfl,rfl,rfl,rfl⟩|⟨rfl,rfl,rfl,rfl⟩|⟨rfl,rfl,rfl,rfl⟩|⟨rfl,rfl,rfl,rfl⟩
 ·rcases(show i% 4=0\/i% 4=1\/i% 4=2\/i% 4=3 by omega)with hr|hr|hr|hr
  ·have h:=vY k t l i _ m w h1 h2 h3 h4 hm hi hr q1 rfl;rw[hr];simpa[Tf,De]using h
  ·have h:=wY k t l i _ m w h1 h2 h3 h4 hm hi hr q1 rfl;rw[hr];simpa[Tf,De]using h
  ·have h:=xY k t l i _ m w h1 h2 h3 h4 hm hi hr q1 rfl;rw[hr];simpa[Tf,De]using h
  ·have h:=yY k t l i _ m w h1 h2 h3 h4 hm hi hr q1 rfl;rw[hr];simpa[Tf,De]using h
 ·rcases(show i% 4=0\/i% 4=1\/i% 4=2\/i% 4=3 by omega)with hr|hr|hr|hr
  ·have h:=CY k t l i _ m w h1 h2 h3 h4 hm hi hr q1 rfl;rw[hr];simpa[Tf,De]using h
  ·have h:=DY k t l i _ m w h1 h2 h3 h4 hm hi hr q1 rfl;rw[hr];simpa[Tf,De]using h
  ·have h:=EY k t l i _ m w h1 h2 h3 h4 hm hi hr q1 rfl;rw[hr];simpa[Tf,De]using h
  ·have h:=FY k t l i _ m w h1 h2 h3 h4 hm hi hr q1 rfl;rw[hr];simpa[Tf,De]using h
 ·rcases(show i% 2=0\/i% 2=1 by omega)with hr|hr
  ·have h:=tY k t l i _ m w h1 h2 h3 h4 hm hi hr q1 rfl;rw[hr];simpa[Tf,De]using h
  ·have h:=uY k t l i _ m w h1 h2 h3 h4 hm hi hr q1 rfl;rw[hr];simpa[Tf,De]using h
 ·rcases(show i% 2=0\/i% 2=1 by omega)with hr|hr
  ·have h:=zY k t l i _ m w h1 h2 h3 h4 hm hi hr q1 rfl;rw[hr];simpa[Tf,De]using h
  ·have h:=AY k t l i _ m w h1 h2 h3 h4 hm hi hr q1 rfl;rw[hr];simpa[Tf,De]using h
theorem kF:(prog.info? 3).map (λi=>(i.zero,i.size,i.bytes))=some (some (int i64 0),1,8):=by kernel_rfl
def Dk (D:List Nat):List Value:=D.map (λd=>int i64 ((d:Nat):Int))
theorem TN (D:List Nat)(d:Nat):Dk (D++[d])=Dk D++[int i64 ((d:Nat):Int)]:=by simp[Dk]
theorem VT (D:List Nat)(i:Nat)(h:i<D.length):D.take (i+1)=D.take i++[De D i]:=by
 rw[List.take_succ_eq_append_getElem h];simp[De,h]
theorem DR {w:World}{base:Nat}{e:TypeId}{s:Nat}{v:Value}{n:Nat}{xs:List Value}(h:w.ownsRow base e s v n xs):∀k,v.ownBlock=some k->base<=k/\k<w.heap.size:=by
 intro k hk;rcases h.2 with⟨rfl,_⟩|⟨g,cap,cur,rfl,hg,hh,_⟩
 ·simp[Value.ownBlock]at hk
 ·simp only[Value.ownBlock,Option.some.injEq]at hk;subst hk;exact⟨hg,lt_of_block hh⟩
theorem Fa0 {w w':World}{base:Nat}{e:TypeId}{s:Nat}{v:Value}{n:Nat}{xs:List Value}(h:w.ownsRow base e s v n xs)(hb:Below w.heap.size w w'):w'.ownsRow base e s v n xs:=by
 obtain⟨h1,h2⟩:=h;refine⟨h1,?_⟩;rcases h2 with h2|⟨g,cap,cur,hv,hg,hh,r⟩
 ·exact Or.inl h2
 ·exact Or.inr ⟨g,cap,cur,hv,hg,by rw[hb.block g (lt_of_block hh)];exact hh,r⟩
theorem xR (w:World)(v:Value)(t:TypeId):∀j u,[v][j]?=some u->(w.alloc (.cells #[v] t)).cell? ((Addr.mk w.heap.size 0 none).add j)=some u:=by
 intro j u hj
 match j,hj with
 |0,hj=>simp at hj;subst hj;simp[Addr.add]
theorem ub0 (b x e f:Nat)(hp:Bi b x e f)(k:Int)(t l:Nat)(m:ByteArray)(w:World)(h1:1<=t)(h2:t<=4)(h3:1<=l)(h4:l<=3)(hm:m.size=b):Calls prog 93 #[.agg #[int i64 k,int i64 b,int i64 x,int i64 t,int i64 l],string m] w λr w'=>
   ∃v,r=.returned v/\w'.ownsRow w.heap.size 3 1 v (b*e+f) (Dk (Fj x e f (Eb m)))/\Below w.heap.size w w':=by
 have jo:=Ia (λw':World=>VF b x e f t l hp k w' h1 h2 h3 h4);have Gz:=Ia (λ(i:Nat) (w':World) (hi:i<b*e)=>tb0 b x e f hp k t l i m w' h1 h2 h3 h4 hm hi);have hF:(Od x e (Eb m)).length=b*e:=by rw[Ql,Bj,hm]
 have hlt:=Jy x e (Eb m) (show 0<x by rcases hp with⟨rfl,rfl,rfl,rfl⟩|⟨rfl,rfl,rfl,rfl⟩|⟨rfl,rfl,rfl,rfl⟩|⟨rfl,rfl,rfl,rfl⟩<;>decide);have hbe:b*e<=32:=by rcases hp with⟨rfl,rfl,rfl,rfl⟩|⟨rfl,rfl,rfl,rfl⟩|⟨rfl,rfl,rfl,rfl⟩|⟨rfl,rfl,rfl,rfl⟩<;>decide
 have hf4:f<=4:=by rcases hp with⟨rfl,rfl,rfl,rfl⟩|⟨rfl,rfl,rfl,rfl⟩|⟨rfl,rfl,rfl,rfl⟩|⟨rfl,rfl,rfl,rfl⟩<;>decide
 have hx2:2<=x:=by rcases hp with⟨rfl,rfl,rfl,rfl⟩|⟨rfl,rfl,rfl,rfl⟩|⟨rfl,rfl,rfl,rfl⟩|⟨rfl,rfl,rfl,rfl⟩<;>decide
 have hx16:x<=16:=by rcases hp with⟨rfl,rfl,rfl,rfl⟩|⟨rfl,rfl,rfl,rfl⟩|⟨rfl,rfl,rfl,rfl⟩|⟨rfl,rfl,rfl,rfl⟩<;>decide
 have VH:=Ia (show x^f<=65536 by rcases hp with⟨rfl,rfl,rfl,rfl⟩|⟨rfl,rfl,rfl,rfl⟩|⟨rfl,rfl,rfl,rfl⟩|⟨rfl,rfl,rfl,rfl⟩<;>decide);unfold Fj;generalize Od x e (Eb m)=D at Gz hF hlt⊢;generalize b*e=n at jo Gz hF hbe⊢;have HF:=Ia hF;have Hl:=Ia hlt;obtain⟨i0,hi,hz0,hz1,hz2⟩:=info_parts kF;clear hp hm hF hlt;go_enter func93,ntmps93;go_wp2_with fail;refine(jo.out _).mono ?_
 rintro r w1 ⟨rfl,hb⟩
 have Z1:=Ia (show w.heap.size<w1.heap.size by have:=hb.size;simp at this;omega);have B1:=Ia ((Va _).trans (hb.mono (by simp)):Below w.heap.size w w1);have F1:=Ia (Gw (show Xl (w.alloc (.cells #[int i64 k,int i64 b,int i64 x,int i64 t,int i64 l] 26)) w.heap.size k b x t l by refine⟨?_,?_,?_,?_,?_⟩<;>simp[go_sem]) hb (by simp));clear hb jo;go_wp2;generalize hW:w1.alloc (.cells #[int i64 (n:Int),int i64 (f:Int),int i64 ((n:Int)+(f:Int)),int i64 (Yc t l),int i64 (Xc b x t l),int i64 (5+2*(b:Int))] 158)=W;have HW:=Ia hW;have S0:=Ia (show W.cell? ⟨w1.heap.size,0,none⟩=some (int i64 n) by subst hW;simp[go_sem]);have S1:=Ia (show W.cell? ⟨w1.heap.size,1,none⟩=some (int i64 f) by subst hW;simp[go_sem]);have F5:=Ia (show Xl W w.heap.size k b x t l by subst hW;exact Gw F1.out (Va _) Z1.out);have BW:=Ia (show Below w.heap.size w W by subst hW;exact B1.out.alloc (Nat.le_of_lt Z1.out) _);have ZW:=Ia (show w1.heap.size+1=W.heap.size by subst hW;simp);clear hW HW B1 F1;go_loopw [6,7,8] (λv s i wr=>∃j:Nat,j<=n/\i=int i64 j/\s=int i64 ((fe x (D.take j):Nat):Int)/\Hid (wr.ownsRow W.heap.size 3 1 v j (Dk (D.take j)))/\Hid (Below W.heap.size W wr)) (λ_ _ i _=>n-(intOf i).toNat)
 case atStart=>exact⟨0,by omega,rfl,rfl,World.ownsRow_nil _ _ _ _,Vb⟩
 case round=>
  obtain⟨j,hj,rfl,rfl,ho,hb⟩:=hrel;have s0:wr.cell? ⟨w1.heap.size,0,none⟩=some (int i64 n):=(hb.out.cell (by have:=ZW.out;simp;omega)).trans S0.out;have s1:wr.cell? ⟨w1.heap.size,1,none⟩=some (int i64 f):=(hb.out.cell (by have:=ZW.out;simp;omega)).trans S1.out;have F:=Gw F5.out hb.out (by have:=ZW.out;have:=Z1.out;omega);by_cases hlt:j<n
  ·have QZ:j<D.length:=by have:=HF.out;omega
   have Yf:=Ia (VT D j QZ);have hd:=sN D x j (by omega) Hl.out;have hs:fe x (D.take j)<=32*15:=Nat.le_trans (Tw x (D.take j)) (Nat.mul_le_mul (by simp;omega) (by omega))
   have Rq:Hid (fe x (D.take (j+1))=fe x (D.take j)+(x-1-De D j)):=by
    show fe x (D.take (j+1))=_;rw[Yf.out,BQ]
   have ed:Hid (Dk (D.take (j+1))=Dk (D.take j)++[int i64 ((De D j:Nat):Int)]):=by
    show Dk (D.take (j+1))=_;rw[Yf.out,TN]
   have OL:=Ia (λw':World=>Gz.out j w' hlt);generalize De D j=d at hd Rq ed OL Yf;generalize fe x (D.take j)=s at hs Rq⊢;obtain⟨c0,c1,c2,c3,c4⟩:=F;go_wp2_with fail;refine(OL.out _).mono ?_
   rintro r w2 ⟨rfl,hb2⟩
   have Lc:=Ia (Fa0 ho.out hb2);have HB2:=Ia (hb.out.trans (hb2.mono hb.out.size));clear hb2 c0 c1 c2 c3 c4 s0 s1;go_wp2_with (at_builtin;refine wpList_append_own _ rfl _ _ 56 rfl W.heap.size 3 i0 (int i64 0) 1 8 underlying56 hi hz0 hz1 hz2 rfl (by decide) _ _ _ rfl (Lc.out.alloc _) ⟨w2.heap.size,0,none⟩ 1 1 [int i64 (d:Int)] rfl rfl (xR _ _ _) ?c2 ?c3 ?c4 ?c5 ?_)
   case c2=>intro u hu;simp at hu;subst hu;rfl
   case c3=>unfold maxLen;omega
   case c4=>omega
   case c5=>have:=HB2.out.size;simp;omega
   intro v' w3 ho3 hgrow _;have HB3:=Ia ((HB2.out.alloc HB2.out.size (.cells #[int i64 (d:Int)] 3)).grown hgrow (by have:=HB2.out.size;simp;omega) (λq hq=>(DR Lc.out q hq).1));have jd:=Ia ho3;have e2:w3.cell? ⟨w.heap.size,2,none⟩=some (int i64 x):=(HB3.out.cell (by have:=ZW.out;have:=Z1.out;simp;omega)).trans F5.out.2.2.1;clear ho3 hgrow;go_wp2;go_roundw
   case rel=>
    have R:∃i:Nat,i<=n/\int i64 ((j:Int)+1)=int i64 i/\int i64 ((s:Int)+(x:Int)-1-(d:Int))=int i64 ((fe x (D.take i):Nat):Int)/\Hid (w3.ownsRow W.heap.size 3 1 v' i (Dk (D.take i)))/\Hid (Below W.heap.size W w3):=⟨j+1,by omega,by go_num,by rw[Rq.out];go_num,by rw[ed.out];exact jd.out,HB3.out⟩;first|exact R|((repeat apply Exists.intro);exact⟨R,rfl⟩)
   case measure=>simp[intOf];omega
  ·obtain rfl:j=n:=by omega
   have UO:D.take j=D:=List.take_of_length_le (by have:=HF.out;omega);rw[UO]at ho⊢;clear UO hlt;have hR:fe x D<=32*15:=Nat.le_trans (Tw x D) (Nat.mul_le_mul (by have:=HF.out;omega) (by omega));have HLEN:=Ia (bq x f (fe x D));have HAT:=Ia (λ(q:Nat) (hq:q<f)=>sO x f (fe x D) q hq);generalize hE:Tf x f (fe x D)=E at HLEN HAT;generalize hRR:fe x D=R at hR HAT hE⊢;have HE:=Ia hE;have HRR:=Ia hRR;clear hE hRR;obtain⟨wo,rfl⟩:∃wo:World,wo=wr:=⟨_,rfl⟩;go_wp2;go_loopw [6,10] (λv i wr=>∃q:Nat,q<=f/\i=int i64 q/\Hid (wr.ownsRow W.heap.size 3 1 v (j+q) (Dk (D++E.take q)))/\Hid (Below W.heap.size W wr)) (λ_ i _=>f-(intOf i).toNat)
   case atStart=>exact⟨0,by omega,rfl,by unfold Hid;simpa using ho.out,hb⟩
   case round=>
    obtain⟨q,hq,rfl,ho,hb⟩:=hrel;have s1:wr.cell? ⟨w1.heap.size,1,none⟩=some (int i64 f):=(hb.out.cell (by have:=ZW.out;simp;omega)).trans S1.out;have c2:wr.cell? ⟨w.heap.size,2,none⟩=some (int i64 x):=(hb.out.cell (by have:=ZW.out;have:=Z1.out;simp;omega)).trans F5.out.2.2.1;by_cases hlt:q<f
    ·have hp1:x^(f-1-q)<=65536:=Nat.le_trans (Nat.pow_le_pow_right (by omega) (by omega)) VH.out;have hp0:1<=x^(f-1-q):=Nat.one_le_pow _ _ (by omega);have aA:=Ia (λw':World=>Cx x (f-1-q) w' hx16 (by omega) hp1 (by omega))
     have Jz:Hid (De E q=R/x^(f-1-q)% x):=by
      show De E q=_;have h:=HAT.out q hlt;rw[show f-(q+1)=f-1-q by omega]at h;exact h
     have Yf:=Ia (VT E q (by have:=HLEN.out;omega));generalize x^(f-1-q)=P at hp1 hp0 aA Jz;have hq0:(0:Int)<=(R:Int)/(P:Int):=Int.ediv_nonneg (by omega) (by omega);have hq1:(R:Int)/(P:Int)<=480:=by have h1:=Nat.div_le_self R P;have h2:((R/P:Nat):Int)=(R:Int)/(P:Int):=Int.natCast_ediv R P;omega
     go_wp2_with fail;rw[show((f:Int)-1-(q:Int))=((f-1-q:Nat):Int) by omega];refine(aA.out _).mono ?_
     rintro r w2 ⟨rfl,rfl⟩
     go_wp2_with (at_builtin;refine wpList_append_own _ rfl _ _ 56 rfl W.heap.size 3 i0 (int i64 0) 1 8 underlying56 hi hz0 hz1 hz2 rfl (by decide) _ _ _ rfl (ho.out.alloc _) ⟨w2.heap.size,0,none⟩ 1 1 [int i64 ((R:Int)/(P:Int)%(x:Int))] rfl rfl (xR _ _ _) ?d2 ?d3 ?d4 ?d5 ?_)
     case d2=>intro u hu;simp at hu;subst hu;rfl
     case d3=>unfold maxLen;omega
     case d4=>omega
     case d5=>have:=hb.out.size;simp;omega
     intro v' w3 ho3 hgrow _;have HB3:=Ia ((hb.out.alloc hb.out.size (.cells #[int i64 ((R:Int)/(P:Int)%(x:Int))] 3)).grown hgrow (by have:=hb.out.size;simp;omega) (λq hq=>(DR ho.out q hq).1));have jd:=Ia ho3;clear ho3 hgrow;go_wp2;go_roundw
     case rel=>
      have hcs:Dk (D++E.take (q+1))=Dk (D++E.take q)++[int i64 ((R:Int)/(P:Int)%(x:Int))]:=by
       rw[Yf.out,<-List.append_assoc,TN,Jz.out,Int.natCast_emod,Int.natCast_ediv]
      have R:∃i:Nat,i<=f/\int i64 ((q:Int)+1)=int i64 i/\Hid (w3.ownsRow W.heap.size 3 1 v' (j+i) (Dk (D++E.take i)))/\Hid (Below W.heap.size W w3):=⟨q+1,by omega,by go_num,by rw[hcs];exact jd.out,HB3.out⟩;first|exact R|((repeat apply Exists.intro);exact⟨R,rfl⟩)
     case measure=>simp[intOf];omega
    ·obtain rfl:q=f:=by omega
     go_wp2;go_ret;refine⟨_,rfl,?_,BW.out.trans (hb.out.mono (by have:=ZW.out;have:=Z1.out;omega))⟩;have h:=ho.out;rw[List.take_of_length_le (by have:=HLEN.out;omega),<-HE.out,<-HRR.out]at h;exact⟨h.1,h.2.elim Or.inl (λ⟨g,cap,cur,hv,hg,r⟩=>Or.inr ⟨g,cap,cur,hv,by have:=ZW.out;have:=Z1.out;omega,r⟩)⟩
theorem zN (A B:List Nat)(h:∀i,Ba A i=Ba B i)(o k:Nat):yc A o k=yc B o k:=by
 induction k with
 |zero=>rfl
 |succ k ih=>rw[yc,yc,ih,h]
theorem mf0 (A B:List Nat)(h:∀i,Ba A i=Ba B i)(o:Nat)(L:List Nat)(j:Nat):xg A o L j=xg B o L j:=by
 induction j with
 |zero=>rfl
 |succ j ih=>rw[xg,xg,ih,zN A B h]
theorem pf0 (A B:List Nat)(h:∀i,Ba A i=Ba B i)(o:Nat)(L:List Nat)(j:Nat):yg A o L j=yg B o L j:=by
 induction j with
 |zero=>rfl
 |succ j ih=>rw[yg,yg,ih,zN A B h]
theorem xe0 (A B:List Nat)(h:∀i,Ba A i=Ba B i)(m:Nat):Lj A m=Lj B m:=by
 induction m with
 |zero=>rfl
 |succ m ih=>rw[oG,oG,ih,mf0 A B h]
theorem ye0 (A B:List Nat)(h:∀i,Ba A i=Ba B i)(m:Nat):Mj A m=Mj B m:=by
 induction m with
 |zero=>rfl
 |succ m ih=>rw[pG,pG,ih,pf0 A B h]
theorem BR (n:Nat)(L:List Nat)(m k:Nat)(h:k<=m):(Me n L m).take k=Me n L k:=by
 unfold Me;rw[<-List.map_take,List.take_range,Nat.min_eq_left h]
theorem aU (D:List Nat)(k:Nat):(ik D).extract 0 k=ik (D.take k):=by
 apply ByteArray.ext;simp[ik,ByteArray.extract,ByteArray.copySlice,List.map_take]
theorem dg0 (s:ByteArray)(k:Nat)(h:k<=16):(Mx s).extract 0 k=ik (Me 4 (Lj (Ib s) (s.size/16+1)) k):=by
 unfold Mx;rw[aU,BR _ _ _ _ h,xe0 _ _ (tK s _)]
theorem fg0 (s:ByteArray)(k:Nat)(h:k<=32):(Ox s).extract 0 k=ik (Me 8 (Mj (Ib s) (s.size/32+1)) k):=by
 unfold Ox;rw[aU,BR _ _ _ _ h,ye0 _ _ (tK s _)]
end Go.Proofs.YtgaoeoijdpdjiabGreatDoor
