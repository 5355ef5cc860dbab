import Derived.Test.YtgaoeoijdpdjiabGreatDoorPart20
import Derived.Test.YtgaoeoijdpdjiabGreatDoorPart36
import Derived.Test.YtgaoeoijdpdjiabGreatDoorPart37
open Go.Value (int string slice)
open Go.IntKind (i64)
open Go.Proofs.Tryz
set_option maxRecDepth 20000
set_option maxHeartbeats 4000000
namespace Go.Proofs.YtgaoeoijdpdjiabGreatDoor
open Go.RowKit
def Eg (k b:Int)(rnd root pub:ByteArray)(idx:Int)(msg:ByteArray):ByteArray:=hv k b (qa 1 6++(rnd++(root++(pub++(qa 4 idx++msg)))))
theorem XQ (k b:Int)(rnd root pub:ByteArray)(idx:Int)(msg:ByteArray)(hk:k=1\/k=2)(h1:1<=b)(h2:b<=16)(a1:rnd.size<=16)(a2:root.size<=16)(a3:pub.size<=16)(a4:msg.size<=200):((Eg k b rnd root pub idx msg).size:Int)=b:=Vu k b _ hk h1 h2 (by simp only[ByteArray.size_append,Sa];omega)
theorem A9 (k b x t l idx:Int)(root pub rnd msg:ByteArray)(sl:Value)(w:World)(hk:k=1\/k=2)(h1:1<=b)(h2:b<=16)(a1:rnd.size<=16)(a2:root.size<=16)(a3:pub.size<=16)(a4:msg.size<=200)(hT:Tn w):Calls prog 239 #[.agg #[int i64 k,int i64 b,int i64 x,int i64 t,int i64 l,string root,string pub],.agg #[int i64 idx,string rnd,sl],string msg] w λe w'=>e=.returned (string (Eg k b rnd root pub idx msg))/\Below w.heap.size w w':=by
 obtain⟨W0,hW⟩:=Ca ((w.alloc (.cells #[int i64 k,int i64 b,int i64 x,int i64 t,int i64 l,string root,string pub] 184)).alloc (.cells #[int i64 idx,string rnd,sl] 29));have HC:=aa (show W0.cell? ⟨w.heap.size,0,none⟩=some (int i64 k)/\W0.cell? ⟨w.heap.size,1,none⟩=some (int i64 b)/\W0.cell? ⟨w.heap.size,2,none⟩=some (int i64 x)/\W0.cell? ⟨w.heap.size,3,none⟩=some (int i64 t)/\W0.cell? ⟨w.heap.size,4,none⟩=some (int i64 l)/\W0.cell? ⟨w.heap.size,5,none⟩=some (string root)/\W0.cell? ⟨w.heap.size,6,none⟩=some (string pub)/\W0.cell? ⟨w.heap.size+1,0,none⟩=some (int i64 idx)/\W0.cell? ⟨w.heap.size+1,1,none⟩=some (string rnd) by subst hW;refine⟨?_,?_,?_,?_,?_,?_,?_,?_,?_⟩<;>simp[go_sem]);have HB:=Gc hW;have hz:W0.heap.size<=w.heap.size+2:=by subst hW;simp
 have hz':w.heap.size+2<=W0.heap.size:=by subst hW;simp
 have HT:=aa (hT.on HB.out)
 have HS:=aa (λ(V:World) (h:Below W0.heap.size W0 V)=>(by
  obtain⟨c0,c1,c2,c3,c4,c5,c6,d0,d1⟩:=HC.out;have e0:∀i,V.cell? ⟨w.heap.size,i,none⟩=W0.cell? ⟨w.heap.size,i,none⟩:=λi=>h.cell (p:=⟨w.heap.size,i,none⟩) (by show w.heap.size<_;omega);have e1:∀i,V.cell? ⟨w.heap.size+1,i,none⟩=W0.cell? ⟨w.heap.size+1,i,none⟩:=λi=>h.cell (p:=⟨w.heap.size+1,i,none⟩) (by show w.heap.size+1<_;omega);exact⟨(e0 0).trans c0,(e0 1).trans c1,(e0 2).trans c2,(e0 3).trans c3,(e0 4).trans c4,(e0 5).trans c5,(e0 6).trans c6,(e1 0).trans d0,(e1 1).trans d1⟩:V.cell? ⟨w.heap.size,0,none⟩=some (int i64 k)/\V.cell? ⟨w.heap.size,1,none⟩=some (int i64 b)/\V.cell? ⟨w.heap.size,2,none⟩=some (int i64 x)/\V.cell? ⟨w.heap.size,3,none⟩=some (int i64 t)/\V.cell? ⟨w.heap.size,4,none⟩=some (int i64 l)/\V.cell? ⟨w.heap.size,5,none⟩=some (string root)/\V.cell? ⟨w.heap.size,6,none⟩=some (string pub)/\V.cell? ⟨w.heap.size+1,0,none⟩=some (int i64 idx)/\V.cell? ⟨w.heap.size+1,1,none⟩=some (string rnd)))
 have HN:=aa (λV:World=>Kr 4 idx V (by decide))
 have HV:=aa (λ(V:World) (h:Below W0.heap.size W0 V)=>(by
  have q:=gL k b x t l 6 V.heap.size 0 5 [rnd,root,pub,qa 4 idx,msg] (V.alloc (.cells #[string rnd,string root,string pub,string (qa 4 idx),string msg] 9)) (by
   intro j y hj
   match j,hj with
   |0,hj=>simp at hj;subst hj;simp[go_sem]
   |1,hj=>simp at hj;subst hj;simp[go_sem]
   |2,hj=>simp at hj;subst hj;simp[go_sem]
   |3,hj=>simp at hj;subst hj;simp[go_sem]
   |4,hj=>simp at hj;subst hj;simp[go_sem]) (by simp) (by simp) (by simp) hk h1 h2 (by rw[Eu];simp[Sa];omega) ((HT.out.on h).alloc _)
  simp only[Dc,Ar,List.length_cons,List.length_nil,Nat.reduceAdd]at q;exact q:Calls prog 248 #[.agg #[int i64 k,int i64 b,int i64 x,int i64 t,int i64 l],int i64 6,slice (some ⟨V.heap.size,0,none⟩) 5 5] (V.alloc (.cells #[string rnd,string root,string pub,string (qa 4 idx),string msg] 9)) λe w'=>e=.returned (string (Eg k b rnd root pub idx msg))/\Below (V.alloc (.cells #[string rnd,string root,string pub,string (qa 4 idx),string msg] 9)).heap.size (V.alloc (.cells #[string rnd,string root,string pub,string (qa 4 idx),string msg] 9)) w'))
 generalize Eg k b rnd root pub idx msg=mm at HV⊢;clear hT;go_enter func239,ntmps239;go_wp2_with fail;try rw[hW]
 clear hW;go_region_held3 (λV=>V.cell? ⟨w.heap.size,0,none⟩=some (int i64 k)/\V.cell? ⟨w.heap.size,1,none⟩=some (int i64 b)/\V.cell? ⟨w.heap.size,2,none⟩=some (int i64 x)/\V.cell? ⟨w.heap.size,3,none⟩=some (int i64 t)/\V.cell? ⟨w.heap.size,4,none⟩=some (int i64 l)/\V.cell? ⟨w.heap.size,5,none⟩=some (string root)/\V.cell? ⟨w.heap.size,6,none⟩=some (string pub)/\V.cell? ⟨w.heap.size+1,0,none⟩=some (int i64 idx)/\V.cell? ⟨w.heap.size+1,1,none⟩=some (string rnd)) (first|exact HS.out _ Bc|exact HS.out _ (hS1.alloc hS1.size _)|exact HS.out _ hS1|exact HS.out _ (Below.refl W0.heap.size W0).drew) (first|(go_at_call 160;refine(HN.out _).mono ?_;rintro e w1 ⟨rfl,hb1⟩;have hS1:=Ga (Below.refl W0.heap.size W0).drew hb1 Aa)|(go_at_call 248;refine(HV.out _ hS1).mono ?_;rintro e w4 ⟨rfl,hb4⟩;have Bc:=Ga (hS1.alloc hS1.size _) hb4 Aa));have Db:=aa Bc;clear hS1 Bc hb1 hb4;go_wp2;go_ret;exact⟨rfl,HB.out.trans (Db.out.mono (by omega))⟩
theorem uS (s:ByteArray)(w:World):Calls prog 207 #[string s] w λe w'=>e=.returned (Og s)/\Below w.heap.size w w':=by
 by_cases hZ:s.size=32
 ·by_cases hm:s.extract 0 4=Gf
  ·cases hI:Le s
   ·by_cases q1:rv s 4<1
    ·exact Cb0 s w hZ hm hI q1
    ·by_cases q2:2147483647<rv s 4
     ·exact Db0 s w hZ hm hI (by omega) q2
     ·by_cases b1:4096<rv s 16
      ·exact zb0 s w hZ hm hI (by omega) (by omega) b1
      ·refine Ab0 s w hZ hm hI (by omega) (by omega) (by omega) ?_;intro h20 Ky MI;have a4:((Bd s 20 4:Nat):Int)=0:=eq_of_beq h20;have a5:((Bd s 24 4:Nat):Int)=0:=eq_of_beq Ky;have a1:1<=rv s 4:=by omega
       have a2:rv s 4<=2147483647:=by omega
       have a3:rv s 16<=4096:=by omega
       rw[(lF s hZ).2 ⟨hm,a1,a2,a3,⟨by omega,by omega⟩,MI.symm⟩]at hI
       cases hI
   ·exact Fb0 s w hZ hI
  ·exact Bb0 s w hZ hm
 ·exact Eb0 s w hZ
end Go.Proofs.YtgaoeoijdpdjiabGreatDoor
