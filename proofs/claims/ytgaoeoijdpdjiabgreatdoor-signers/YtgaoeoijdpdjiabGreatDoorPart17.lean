import Derived.Test.YtgaoeoijdpdjiabGreatDoorPart2
open Go.Value (int string)
open Go.IntKind (i64)
open Go.Proofs.Tryz
set_option maxHeartbeats 1000000
namespace Go.Proofs.YtgaoeoijdpdjiabGreatDoor
open Go.RowKit
theorem ae0 (v:Nat)(w:World)(hv:v<4294967296):Calls prog 304 #[.int .u32 v] w λe w'=>e=.returned (.int .u32 ((Ol 8 v:Nat):Int))/\w'=w:=by
 go_enter func304,ntmps304;go_wp2;go_loop [0,4] (λt i=>∃k:Nat,k<=8/\t=.int .u32 ((Ol k v:Nat):Int)/\i=int i64 k) (λ_ i=>8-(intOf i).toNat)
 case atStart=>exact⟨0,by omega,rfl,rfl⟩
 case round=>
  obtain⟨k,hk,rfl,rfl⟩:=hrel;have hu:=pO k v hv;have HS:Hid (Ol (k+1) v=Dr (Ol k v)):=rfl;generalize hq:Ol k v=u at hu HS⊢;have HQ:=aa hq;clear hq;by_cases hlt:k<8
  ·have ha:=EW u hu;by_cases h2:u% 2=1
   ·have hb:(bits BinOp.and IntKind.u32 (u:Int) 1==1)=true:=by rw[ha,h2];rfl
    clear ha;go_wp2;go_round
    case rel=>exact⟨k+1,by omega,by rw[HS.out,Dr,if_pos h2,zg0 u hu],by go_num⟩
    case measure=>simp[intOf];omega
   ·have hb:(bits BinOp.and IntKind.u32 (u:Int) 1==1)=false:=by rw[ha,show u% 2=0 by omega];rfl
    clear ha;go_wp2;go_round
    case rel=>exact⟨k+1,by omega,by rw[HS.out,Dr,if_neg h2,Int.natCast_ediv];rfl,by go_num⟩
    case measure=>simp[intOf];omega
  ·obtain rfl:k=8:=by omega
   go_wp2;go_ret;exact⟨by rw[HQ.out];rfl,rfl⟩
theorem if0 (s:ByteArray)(w:World)(hs:s.size<=maxLen):Calls prog 257 #[string s] w λe w'=>e=.returned (int i64 (4294967295-((Oi s s.size:Nat):Int)))/\w'=w:=by
 unfold maxLen at hs;go_enter func257,ntmps257;go_wp2;go_loop [3,7] (λt i=>∃k:Nat,k<=s.size/\t=.int .u32 ((Oi s k:Nat):Int)/\i=int i64 k) (λ_ i=>s.size-(intOf i).toNat)
 case atStart=>exact⟨0,by omega,rfl,rfl⟩
 case round=>
  obtain⟨k,hk,rfl,rfl⟩:=hrel;have hu:=xE s k;by_cases hlt:k<s.size
  ·have hc:=UInt8.toNat_lt s[k];have HX:Hid (bits BinOp.xor IntKind.u32 ((Oi s k:Nat):Int) (((s[k].toNat:Nat):Int))=((Oi s k^^^s[k].toNat:Nat):Int)):=u32_xor_nat _ _ hu (by omega);have hlt2:Oi s k^^^s[k].toNat<4294967296:=Nat.xor_lt_two_pow (n:=32) hu (by omega);have HS:Hid (Oi s (k+1)=Ol 8 (Oi s k^^^s[k].toNat)):=by show Oi s (k+1)=_;rw[Oi,sI s k hlt]
   have LM:=aa (λw':World=>ae0 _ w' hlt2);generalize Oi s k=u at hu HX hlt2 HS LM⊢;go_wp2_with fail;rw[HX.out];refine(LM.out _).mono ?_
   rintro e w1 ⟨rfl,rfl⟩
   go_wp2;go_round
   case rel=>exact⟨k+1,by omega,by rw[HS.out],by go_num⟩
   case measure=>simp[intOf];omega
  ·obtain rfl:k=s.size:=by omega
   have HN:=aa (O9 _ hu);go_wp2;go_ret;exact⟨by rw[<-HN.out];rfl,rfl⟩
theorem yb0 (s:ByteArray)(w:World)(hs:s.size<=maxLen):Calls prog 187 #[string s] w λe w'=>e=.returned (int i64 (4294967295-((Oi s s.size:Nat):Int)))/\w'=w:=by
 unfold maxLen at hs;go_enter func187,ntmps187;go_wp2;go_loop [3,4] (λt i=>∃k:Nat,k<=s.size/\t=int i64 ((Oi s k:Nat):Int)/\i=int i64 k) (λ_ i=>s.size-(intOf i).toNat)
 case atStart=>exact⟨0,by omega,rfl,rfl⟩
 case round=>
  obtain⟨k,hk,rfl,rfl⟩:=hrel;have hu:=xE s k;by_cases hlt:k<s.size
  ·have hc:=UInt8.toNat_lt s[k];have HS:Hid (Oi s (k+1)=Ol 8 (Oi s k^^^s[k].toNat)):=by show Oi s (k+1)=_;rw[Oi,sI s k hlt]
   generalize Oi s k=u at hu HS⊢;go_wp2;go_loop [3,5] (λt i=>∃q X:Nat,q<=8/\X<4294967296/\Hid (X^^^(s[k].toNat/2^q)=Ol q (u^^^s[k].toNat))/\t=int i64 X/\i=int i64 q) (λ_ i=>8-(intOf i).toNat)
   case atStart=>exact⟨0,u,by omega,hu,by unfold Hid;simp[Ol],rfl,rfl⟩
   case round=>
    obtain⟨q,X,hq,hX,hh,rfl,rfl⟩:=hrel;by_cases hq8:q<8
    ·obtain⟨r1,r2,r3⟩:=Mb0 X s[k].toNat q _ hh.out;have HT:=aa (Nb0 s[k].toNat q hc);have lg:=aa (yg0 (X/2) 3988292384 (by omega) (by decide));have hxl:X/2^^^3988292384<4294967296:=Nat.xor_lt_two_pow (n:=32) (by omega) (by decide);have R1:=aa r1;have R2:=aa r2;have R3:=aa r3;clear r1 r2 r3;by_cases h2:X% 2≠s[k].toNat/2^q% 2
     ·have hb:((X:Int)% 2 !=(wrap64 (((s[k].toNat:Nat):Int)/2^q)).tmod 2)=true:=by rw[HT.out,bne_iff_ne];omega
      clear h2;have H2:=aa hb;go_wp2;go_round
      case rel=>
       refine⟨q+1,X/2^^^3988292384,by omega,hxl,?_,?_,by go_num⟩
       ·have hv:Ol q (u^^^s[k].toNat)% 2=1:=R1.out.2 (by have h:=H2.out;rw[HT.out,bne_iff_ne]at h;omega);show _=Dr _;rw[Dr,if_pos hv];exact R3.out
       ·have h:=lg.out;rw[Int.natCast_ediv]at h;exact congrArg _ h
      case measure=>simp[intOf];omega
     ·have hb:((X:Int)% 2 !=(wrap64 (((s[k].toNat:Nat):Int)/2^q)).tmod 2)=false:=by rw[HT.out,bne_eq_false_iff_eq];omega
      clear h2;have H2:=aa hb;go_wp2;go_round
      case rel=>
       refine⟨q+1,X/2,by omega,by omega,?_,by rw[Int.natCast_ediv];rfl,by go_num⟩;have hv:¬Ol q (u^^^s[k].toNat)% 2=1:=λe=>R1.out.1 e (by have h:=H2.out;rw[HT.out,bne_eq_false_iff_eq]at h;omega);show _=Dr _;rw[Dr,if_neg hv];exact R2.out
      case measure=>simp[intOf];omega
    ·obtain rfl:q=8:=by omega
     have JP:X=Ol 8 (u^^^s[k].toNat):=by
      have h:=hh.out;rw[show s[k].toNat/2^8=0 from Nat.div_eq_of_lt hc,Nat.xor_zero]at h;exact h
     have H8:=aa JP;clear JP;go_wp2;go_round
     case rel=>exact⟨k+1,by omega,by rw[HS.out,H8.out],by go_num⟩
     case measure=>simp[intOf];omega
  ·obtain rfl:k=s.size:=by omega
   go_wp2;go_ret;exact⟨rfl,rfl⟩
end Go.Proofs.YtgaoeoijdpdjiabGreatDoor
