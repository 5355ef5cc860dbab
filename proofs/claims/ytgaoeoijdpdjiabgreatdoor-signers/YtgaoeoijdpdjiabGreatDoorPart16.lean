import Derived.Test.YtgaoeoijdpdjiabGreatDoorPart14
import Derived.Test.YtgaoeoijdpdjiabGreatDoorPart4
import Derived.Test.YtgaoeoijdpdjiabGreatDoorPart15
open Go.Value (int pointer)
open Go.IntKind (i64)
open Go.Proofs.Tryz
set_option maxHeartbeats 4000000
namespace Go.Proofs.YtgaoeoijdpdjiabGreatDoor
open Go.RowKit
theorem Ze0 (g:Nat)(L:List Nat)(w:World)(hr:Lb w g .u32 358 L)(hL:L.length=8)(hW:ve 32 L)(hT:zu w)(hg:1<g):Calls prog 293 #[pointer (some ⟨g,0,none⟩)] w λe w'=>e=.returned (.tuple #[])/\Lb w' g .u32 358 (Je 32 L 8)/\Ob g w w':=by
 have HR:=aa hr;have HL:=aa hL;have HW:=aa hW;have HT:=aa hT;clear hr hL hW hT;go_enter func293,ntmps293;go_wp2;go_loopw [3] (λi wr=>∃j:Nat,j<=8/\i=int i64 j/\Hid (Lb wr g .u32 358 (Je 32 L j))/\Hid (Ob g w wr)) (λi _=>8-(intOf i).toNat)
 case atStart=>exact⟨0,by omega,rfl,HR,Ob.refl _ _⟩
 case round=>
  obtain⟨j,hj,rfl,hr,ho⟩:=hrel;by_cases hlt:j<8
  ·have hlen:(Je 32 L j).length=8:=by rw[VC _ _ _ HL.out]
   have hwd:=rG 32 L j HL.out HW.out;have fu:=aa (λw' h1 h2=>Z8 g (Je 32 L j) w' h1 hlen hwd h2 hg);have HS:Hid (Je 32 L (j+1)=Qk (j+1) (Fg 32 (Je 32 L j) 4)):=rfl;have hl4:(Fg 32 (Je 32 L j) 4).length=8:=by rw[Vy];exact hlen
   have hw4:=tC 32 (Je 32 L j) 4 hwd;clear hlen hwd;go_wp2_with fail;refine(fu.out _ hr.out (λi hi=>(ho.out.cell (by simp;omega)).trans (HT.out i hi))).mono ?_
   rintro e w1 ⟨rfl,hr1,ho1⟩
   clear fu;generalize Fg 32 (Je 32 L j) 4=K at hr1 hl4 hw4 HS;obtain⟨a0,a1,a2,a3,a4,a5,a6,a7,rfl⟩:=Dw hl4;have R1:=aa hr1;have O1:=aa (ho.out.trans ho1);have c0:w1.cell? ⟨g,0,none⟩=some (.int .u32 (a0:Int)):=hr1.cell (i:=0) (by simp);have c4:w1.cell? ⟨g,4,none⟩=some (.int .u32 (a4:Int)):=hr1.cell (i:=4) (by simp);have c5:w1.cell? ⟨g,5,none⟩=some (.int .u32 (a5:Int)):=hr1.cell (i:=5) (by simp);have c6:w1.cell? ⟨g,6,none⟩=some (.int .u32 (a6:Int)):=hr1.cell (i:=6) (by simp);have c7:w1.cell? ⟨g,7,none⟩=some (.int .u32 (a7:Int)):=hr1.cell (i:=7) (by simp);have fz:∀i,w1.frozen? ⟨g,i,none⟩=false:=λi=>hr1.free i;have x0:a0<4294967296:=by have:=hw4 a0 (by simp);simpa using this
   have Te:Hid (bits BinOp.xor IntKind.u32 (a0:Int) ((j:Int)+1)=((a0^^^(j+1):Nat):Int)):=u32_xor_nat a0 (j+1) x0 (by omega);clear hr1 ho1 hl4 hw4;go_wp2;go_region;go_wp2;go_region;go_wp2;rw[Te.out];go_roundw
   case rel=>
    refine⟨j+1,by omega,by go_num,?_,?_⟩
    ·have h:=((((R1.out.set 4 a5).set 5 a6).set 6 a7).set 7 a4).set 0 (a0^^^(j+1));have e:((((([a0,a1,a2,a3,a4,a5,a6,a7].set 4 a5).set 5 a6).set 6 a7).set 7 a4).set 0 (a0^^^(j+1)))=Qk (j+1) [a0,a1,a2,a3,a4,a5,a6,a7]:=by simp only[Ka,Ma,Qk]
     rw[e,<-HS.out]at h;exact h
    ·unfold Hid;repeat(first|refine Ob.drew ?_|refine Ob.setCell ?_ _ _)
     exact O1.out
   case measure=>simp[intOf];omega
  ·obtain rfl:j=8:=by omega
   go_wp2;go_end0;exact⟨rfl,hr.out,ho.out⟩
theorem af0 (g:Nat)(L:List Nat)(w:World)(hr:Lb w g .u64 361 L)(hL:L.length=8)(hW:ve 64 L)(hT:Au w)(hg:1<g):Calls prog 297 #[pointer (some ⟨g,0,none⟩)] w λe w'=>e=.returned (.tuple #[])/\Lb w' g .u64 361 (Je 64 L 8)/\Ob g w w':=by
 have HR:=aa hr;have HL:=aa hL;have HW:=aa hW;have HT:=aa hT;clear hr hL hW hT;go_enter func297,ntmps297;go_wp2;go_loopw [3] (λi wr=>∃j:Nat,j<=8/\i=int i64 j/\Hid (Lb wr g .u64 361 (Je 64 L j))/\Hid (Ob g w wr)) (λi _=>8-(intOf i).toNat)
 case atStart=>exact⟨0,by omega,rfl,HR,Ob.refl _ _⟩
 case round=>
  obtain⟨j,hj,rfl,hr,ho⟩:=hrel;by_cases hlt:j<8
  ·have hlen:(Je 64 L j).length=8:=by rw[VC _ _ _ HL.out]
   have hwd:=rG 64 L j HL.out HW.out;have fu:=aa (λw' h1 h2=>l9 g (Je 64 L j) w' h1 hlen hwd h2 hg);have HS:Hid (Je 64 L (j+1)=Qk (j+1) (Fg 64 (Je 64 L j) 4)):=rfl;have hl4:(Fg 64 (Je 64 L j) 4).length=8:=by rw[Vy];exact hlen
   have hw4:=tC 64 (Je 64 L j) 4 hwd;clear hlen hwd;go_wp2_with fail;refine(fu.out _ hr.out (λi hi=>(ho.out.cell (by simp;omega)).trans (HT.out i hi))).mono ?_
   rintro e w1 ⟨rfl,hr1,ho1⟩
   clear fu;generalize Fg 64 (Je 64 L j) 4=K at hr1 hl4 hw4 HS;obtain⟨a0,a1,a2,a3,a4,a5,a6,a7,rfl⟩:=Dw hl4;have R1:=aa hr1;have O1:=aa (ho.out.trans ho1);have c0:w1.cell? ⟨g,0,none⟩=some (.int .u64 (a0:Int)):=hr1.cell (i:=0) (by simp);have c4:w1.cell? ⟨g,4,none⟩=some (.int .u64 (a4:Int)):=hr1.cell (i:=4) (by simp);have c5:w1.cell? ⟨g,5,none⟩=some (.int .u64 (a5:Int)):=hr1.cell (i:=5) (by simp);have c6:w1.cell? ⟨g,6,none⟩=some (.int .u64 (a6:Int)):=hr1.cell (i:=6) (by simp);have c7:w1.cell? ⟨g,7,none⟩=some (.int .u64 (a7:Int)):=hr1.cell (i:=7) (by simp);have fz:∀i,w1.frozen? ⟨g,i,none⟩=false:=λi=>hr1.free i;have x0:a0<18446744073709551616:=by have:=hw4 a0 (by simp);simpa using this
   have Te:Hid (bits BinOp.xor IntKind.u64 (a0:Int) ((j:Int)+1)=((a0^^^(j+1):Nat):Int)):=u64_xor_nat a0 (j+1) x0 (by omega);clear hr1 ho1 hl4 hw4;go_wp2;go_region;go_wp2;go_region;go_wp2;rw[Te.out];go_roundw
   case rel=>
    refine⟨j+1,by omega,by go_num,?_,?_⟩
    ·have h:=((((R1.out.set 4 a5).set 5 a6).set 6 a7).set 7 a4).set 0 (a0^^^(j+1));have e:((((([a0,a1,a2,a3,a4,a5,a6,a7].set 4 a5).set 5 a6).set 6 a7).set 7 a4).set 0 (a0^^^(j+1)))=Qk (j+1) [a0,a1,a2,a3,a4,a5,a6,a7]:=by simp only[Ka,Ma,Qk]
     rw[e,<-HS.out]at h;exact h
    ·unfold Hid;repeat(first|refine Ob.drew ?_|refine Ob.setCell ?_ _ _)
     exact O1.out
   case measure=>simp[intOf];omega
  ·obtain rfl:j=8:=by omega
   go_wp2;go_end0;exact⟨rfl,hr.out,ho.out⟩
end Go.Proofs.YtgaoeoijdpdjiabGreatDoor
