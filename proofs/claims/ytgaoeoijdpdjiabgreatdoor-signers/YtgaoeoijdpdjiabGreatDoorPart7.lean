import Derived.Test.YtgaoeoijdpdjiabGreatDoorPart3
import Derived.Test.YtgaoeoijdpdjiabGreatDoorPart6
open Go.Value (int string slice)
open Go.IntKind (i64)
open Go.Proofs.Tryz
set_option maxHeartbeats 1000000
namespace Go.Proofs.YtgaoeoijdpdjiabGreatDoor
open Go.RowKit
def Jj:Nat->Int->List Nat
 |0,_=>[]
 |k+1,v=>(v/256^k% 256).toNat::Jj k v
theorem gK (k:Nat)(v:Int):(Jj k v).length=k:=by induction k with|zero=>rfl|succ k ih=>simp[Jj,ih]
theorem rR (k:Nat)(v:Int):∀d∈Jj k v,d<256:=by
 induction k with
 |zero=>intro d h;cases h
 |succ k ih=>
  intro d h;rcases List.mem_cons.1 h with rfl|h
  ·omega
  ·exact ih d h
def qa (k:Nat)(v:Int):ByteArray:=⟨((Jj k v).map UInt8.ofNat).toArray⟩
theorem Sa (k:Nat)(v:Int):(qa k v).size=k:=by simp[qa,ByteArray.size,gK]
theorem E5:(prog.info? 5).map (λi=>(i.zero,i.size,i.bytes))=some (some (.int .u8 0),1,1):=by kernel_rfl
theorem M8 (n:Nat):madeCells (Value.int .u8 0).cells n=((List.replicate n 0).map (λn=>Value.int .u8 ((n:Nat):Int))).toArray:=by
 apply Array.ext
 ·simp[size_madeCells]
 ·intro i h1 h2;simp[madeCells,Value.cells,Nat.mod_one]
theorem R8 (k:Nat)(hk:k<=8)(w:World):(Instr.makeSlice 170 (int i64 k) (int i64 k)).run prog w=.ok (slice (some ⟨w.heap.size,0,none⟩) k k) (w.alloc (.cells ((List.replicate k 0).map (λn=>Value.int .u8 ((n:Nat):Int))).toArray 5)):=by
 obtain⟨i0,hi,hz0,hz1,hz2⟩:=info_parts E5;have h:=run_make (P:=prog) w 170 5 i0 (.int .u8 0) underlying170 hi hz0 .i64 .i64 k k (by omega) (by omega) (by rw[hz2];omega) (by omega);rw[hz1,Nat.mul_one,Int.toNat_natCast,M8]at h;exact h
theorem dU (w:World)(g k:Nat)(D:List Nat)(hD:∀d∈D,d<256)(h:Lb w g .u8 5 D)(hk:D.length=k):(convert 170 9 (slice (some ⟨g,0,none⟩) k k)).run prog w=.ok (string ⟨(D.map UInt8.ofNat).toArray⟩) w:=by
 have hl:(D.map UInt8.ofNat).length=k:=by simp[hk]
 have hc:=run_convert_bytes_back (P:=prog) w 170 9 5 ⟨g,0,none⟩ k (D.map UInt8.ofNat) underlying170 underlying5 underlying9 (by
  intro j hj;have hj':j<D.length:=by simpa using hj
  have hadd:(Addr.mk g 0 none).add j=⟨g,j,none⟩:=by unfold Addr.add;split<;>simp_all
  rw[hadd,h.cell hj'];have hd:=hD D[j] (List.getElem_mem hj');simp[Ba,hj',Nat.mod_eq_of_lt hd])
 rw[hl]at hc;exact hc
theorem Q9 (k j:Nat)(v:Int)(h:j<k):(List.replicate (j+1) 0++Jj (k-(j+1)) v).set j (v/256^(k-(j+1))% 256).toNat=List.replicate j 0++Jj (k-j) v:=by
 rw[show k-j=(k-(j+1))+1 by omega,Jj,List.replicate_succ',List.append_assoc,List.set_append_right _ _ (by simp)];simp
theorem R9 (k j:Nat)(v:Int)(h:j<k):v/256^(k-(j+1))/256=v/256^(k-j):=by
 rw[Int.ediv_ediv_of_nonneg (Int.le_of_lt (Int.pow_pos (by decide))),show k-j=(k-(j+1))+1 by omega,Int.pow_succ]
theorem Kr (k:Nat)(v:Int)(w:World)(hk:k<=8):Calls prog 160 #[int i64 v,int i64 k] w λe w'=>e=.returned (string (qa k v))/\Below w.heap.size w w':=by
 have hmk:=R8 k hk;go_enter func160,ntmps160;go_wp2;clear hmk;go_loopw [0,6] (λt i wr=>∃j:Nat,j<=k/\i=int i64 ((j:Int)-1)/\t=int i64 (v/256^(k-j))/\Hid (Lb wr w.heap.size .u8 5 (List.replicate j 0++Jj (k-j) v))/\Hid (Below w.heap.size w wr)) (λ_ i _=>(intOf i+1).toNat)
 case atStart=>
  refine⟨k,Aa,rfl,by simp,?_,Va _⟩;show Lb _ _ _ _ _;unfold Lb;rw[heap_alloc_new];simp[Jj]
 case round=>
  obtain⟨j,hj,rfl,rfl,hr,hb⟩:=hrel;by_cases h0:0<j
  ·obtain⟨j,rfl⟩:∃i,j=i+1:=⟨j-1,by omega⟩;have HD:=aa (R9 k j v (by omega));have HS:=aa (Q9 k j v (by omega));have hl:(List.replicate (j+1) 0++Jj (k-(j+1)) v).length=k:=by simp[gK];omega
   have hc:=hr.out.cell (i:=j) (by omega);have hf:=hr.out.free j;generalize v/256^(k-(j+1))=q at HD HS⊢;clear hl;go_wp2;go_roundw
   case rel=>
    refine⟨j,by omega,by go_num,?_,?_,?_⟩
    ·rw[<-HD.out]
    ·have:=hr.out.set j (q% 256).toNat;rw[HS.out,Int.toNat_of_nonneg (Int.emod_nonneg _ (by decide))]at this;exact this
    ·exact hb.out.setCell Aa _
   case measure=>simp[intOf]
  ·obtain rfl:j=0:=by omega
   have HT:=dU wr w.heap.size k (Jj k v) (rR k v) hr.out (gK k v);go_wp2;go_ret;exact⟨rfl,hb.out⟩
theorem pE {W w1:World}(hb:Below W.heap.size W w1):(∀b o,b<W.heap.size->w1.cell? ⟨b,o,none⟩=W.cell? ⟨b,o,none⟩)/\(∀b o,b<W.heap.size->w1.frozen? ⟨b,o,none⟩=W.frozen? ⟨b,o,none⟩):=⟨λb o h=>hb.cell (p:=⟨b,o,none⟩) h,λb o h=>hb.frozen (p:=⟨b,o,none⟩) h⟩
theorem XA (k b x t l:Int)(w:World):Calls prog 231 #[.agg #[int i64 k,int i64 b,int i64 x,int i64 t,int i64 l]] w λe w'=>e=.returned (int i64 (if Yb k b x t l then 0 else 1))/\Below w.heap.size w w':=by
 cases hr:Yb k b x t l
 all_goals
  go_enter func231,ntmps231
  go_wp2_with (go_at_call 279;refine(ic0 _ _ _ _ _ _).mono ?_;rintro e w' ⟨rfl,hb⟩);go_ret;refine⟨rfl,?_⟩;exact(Va _).trans (hb.mono (by simp))
def cB (b x:Int):Int:=b*each x
def iC (b x:Int):Int:=if x=16 then 2 else if b=4 then 3 else 4
def Gy (b x:Int):Int:=cB b x+iC b x
def Yc (t l:Int):Int:=2^(t*l).toNat
def Xc (b x t l:Int):Int:=4+b+l*(Gy b x+t)*b
theorem mG (t l:Int)(h1:1<=t)(h2:t<=4)(h3:1<=l)(h4:l<=3):∀w:World,Sem.run prog (Op.shift BinOp.shl IntKind.i64 1 IntKind.i64 (IntKind.i64.wrap (t*l))) w=.ok (int i64 (Yc t l)) w:=by
 rcases(show t=1\/t=2\/t=3\/t=4 by omega)with rfl|rfl|rfl|rfl<;>rcases(show l=1\/l=2\/l=3 by omega)with rfl|rfl|rfl<;>intro w<;>rfl
theorem TA {w:World}{a p:Addr}(v:Value)(h:p.block≠a.block):(w.setCell a v).cell? p=w.cell? p:=World.cell?_of_block (Below.heap_setCell _ _ _ _ h)
theorem yE {w:World}{B C o:Nat}{k b x t l:Int}(h:Xl w B k b x t l)(v:Value)(hne:B≠C):Xl (w.setCell ⟨C,o,none⟩ v) B k b x t l:=⟨(TA v hne).trans h.1,(TA v hne).trans h.2.1,(TA v hne).trans h.2.2.1,(TA v hne).trans h.2.2.2.1,(TA v hne).trans h.2.2.2.2⟩
theorem SC {w w':World}{o:Array Value}(hb:Below ((w.alloc (.cells o 26)).alloc (.cells #[int i64 0,int i64 0,int i64 0,int i64 0,int i64 0,int i64 0] 158)).heap.size ((w.alloc (.cells o 26)).alloc (.cells #[int i64 0,int i64 0,int i64 0,int i64 0,int i64 0,int i64 0] 158)) w'):w'.cell? ⟨w.heap.size+1,0,none⟩=some (int i64 0)/\w'.cell? ⟨w.heap.size+1,1,none⟩=some (int i64 0)/\w'.cell? ⟨w.heap.size+1,2,none⟩=some (int i64 0)/\w'.cell? ⟨w.heap.size+1,3,none⟩=some (int i64 0)/\w'.cell? ⟨w.heap.size+1,4,none⟩=some (int i64 0)/\w'.cell? ⟨w.heap.size+1,5,none⟩=some (int i64 0):=by
 refine⟨?_,?_,?_,?_,?_,?_⟩<;>exact(hb.cell (by simp)).trans (by simp[go_sem])
end Go.Proofs.YtgaoeoijdpdjiabGreatDoor
