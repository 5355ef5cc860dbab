import Derived.Test.YtgaoeoijdpdjiabGreatDoorRows
import Derived.WalkKit
import Derived.WalkSpells
import Derived.WalkLawsBesides
import Derived.Laws.BitsAllLaws
import Derived.Handy
namespace Go.Proofs.YtgaoeoijdpdjiabGreatDoor
open Go.RowKit
theorem aa {p:Prop}(h:p):Hid p:=h
theorem jb {α:Type _}{l:List α}{i:Nat}:l.toArray[i]?=l[i]?:=List.getElem?_toArray
theorem Na {α:Type _}{a:α}{l:List α}{i:Nat}:(a::l)[i+1]?=l[i]?:=List.getElem?_cons_succ
theorem Oa {α:Type _}{a:α}{l:List α}:(a::l)[0]?=some a:=List.getElem?_cons_zero
theorem Bb {α:Type _}{l:List α}{i:Nat}{a:α}:l.toArray.setIfInBounds i a=(l.set i a).toArray:=List.setIfInBounds_toArray l i a
theorem Ka {α:Type _}{x a:α}{l:List α}:(x::l).set 0 a=a::l:=List.set_cons_zero
theorem Ma {α:Type _}{x a:α}{l:List α}{i:Nat}:(x::l).set (i+1) a=x::l.set i a:=List.set_cons_succ
theorem Ca {α:Sort _}(a:α):∃b,a=b:=⟨a,rfl⟩
theorem Aa {n:Nat}:n<=n:=Nat.le_refl n
theorem Vb {n:Nat}{w:World}:Below n w w:=Below.refl n w
theorem Va {w:World}(o:Obj):Below w.heap.size w (w.alloc o):=(Below.refl _ _).alloc (Nat.le_refl _) o
theorem Xd {w W:World}{o:Obj}(h:w.alloc o=W):Hid (Below w.heap.size w W):=by subst h;exact (Below.refl _ _).alloc (Nat.le_refl _) _
theorem Gc {w W:World}{o p:Obj}(h:(w.alloc o).alloc p=W):Hid (Below w.heap.size w W):=by subst h;exact ((Below.refl _ _).alloc (Nat.le_refl _) _).alloc (by simp) _
theorem Bu {w W:World}{o p q:Obj}(h:((w.alloc o).alloc p).alloc q=W):Hid (Below w.heap.size w W):=by subst h;exact (((Below.refl _ _).alloc (Nat.le_refl _) _).alloc (by simp) _).alloc (by simp;omega) _
theorem J9 {p0 p1:Prop}(h0:p0)(h1:p1):p0/\p1:=⟨h0,h1⟩
theorem Uw {p0 p1 p2:Prop}(h0:p0)(h1:p1)(h2:p2):p0/\p1/\p2:=⟨h0,h1,h2⟩
theorem Vw {p0 p1 p2 p3:Prop}(h0:p0)(h1:p1)(h2:p2)(h3:p3):p0/\p1/\p2/\p3:=⟨h0,h1,h2,h3⟩
theorem jv {p0 p1 p2 p3 p4:Prop}(h0:p0)(h1:p1)(h2:p2)(h3:p3)(h4:p4):p0/\p1/\p2/\p3/\p4:=⟨h0,h1,h2,h3,h4⟩
theorem dR {p0 p1 p2 p3 p4 p5:Prop}(h0:p0)(h1:p1)(h2:p2)(h3:p3)(h4:p4)(h5:p5):p0/\p1/\p2/\p3/\p4/\p5:=⟨h0,h1,h2,h3,h4,h5⟩
theorem iR {p0 p1 p2 p3 p4 p5 p6:Prop}(h0:p0)(h1:p1)(h2:p2)(h3:p3)(h4:p4)(h5:p5)(h6:p6):p0/\p1/\p2/\p3/\p4/\p5/\p6:=⟨h0,h1,h2,h3,h4,h5,h6⟩
theorem Ul {p0 p1 p2 p3 p4 p5 p6 p7:Prop}(h0:p0)(h1:p1)(h2:p2)(h3:p3)(h4:p4)(h5:p5)(h6:p6)(h7:p7):p0/\p1/\p2/\p3/\p4/\p5/\p6/\p7:=⟨h0,h1,h2,h3,h4,h5,h6,h7⟩
theorem ah0 {p0 p1 p2 p3 p4 p5 p6 p7 p8:Prop}(h0:p0)(h1:p1)(h2:p2)(h3:p3)(h4:p4)(h5:p5)(h6:p6)(h7:p7)(h8:p8):p0/\p1/\p2/\p3/\p4/\p5/\p6/\p7/\p8:=⟨h0,h1,h2,h3,h4,h5,h6,h7,h8⟩
theorem vC {p0 p1 p2 p3 p4 p5 p6 p7 p8 p9:Prop}(h0:p0)(h1:p1)(h2:p2)(h3:p3)(h4:p4)(h5:p5)(h6:p6)(h7:p7)(h8:p8)(h9:p9):p0/\p1/\p2/\p3/\p4/\p5/\p6/\p7/\p8/\p9:=⟨h0,h1,h2,h3,h4,h5,h6,h7,h8,h9⟩
theorem Xg0 {p0 p1 p2 p3 p4 p5 p6 p7 p8 p9 Lm:Prop}(h0:p0)(h1:p1)(h2:p2)(h3:p3)(h4:p4)(h5:p5)(h6:p6)(h7:p7)(h8:p8)(h9:p9)(h10:Lm):p0/\p1/\p2/\p3/\p4/\p5/\p6/\p7/\p8/\p9/\Lm:=⟨h0,h1,h2,h3,h4,h5,h6,h7,h8,h9,h10⟩
theorem Yg0 {p0 p1 p2 p3 p4 p5 p6 p7 p8 p9 Lm tq:Prop}(h0:p0)(h1:p1)(h2:p2)(h3:p3)(h4:p4)(h5:p5)(h6:p6)(h7:p7)(h8:p8)(h9:p9)(h10:Lm)(h11:tq):p0/\p1/\p2/\p3/\p4/\p5/\p6/\p7/\p8/\p9/\Lm/\tq:=⟨h0,h1,h2,h3,h4,h5,h6,h7,h8,h9,h10,h11⟩
theorem cK {p0 p1 p2 p3 p4 p5 p6 p7 p8 p9 Lm tq Av:Prop}(h0:p0)(h1:p1)(h2:p2)(h3:p3)(h4:p4)(h5:p5)(h6:p6)(h7:p7)(h8:p8)(h9:p9)(h10:Lm)(h11:tq)(h12:Av):p0/\p1/\p2/\p3/\p4/\p5/\p6/\p7/\p8/\p9/\Lm/\tq/\Av:=⟨h0,h1,h2,h3,h4,h5,h6,h7,h8,h9,h10,h11,h12⟩
theorem dK {p0 p1 p2 p3 p4 p5 p6 p7 p8 p9 Lm tq Av DC:Prop}(h0:p0)(h1:p1)(h2:p2)(h3:p3)(h4:p4)(h5:p5)(h6:p6)(h7:p7)(h8:p8)(h9:p9)(h10:Lm)(h11:tq)(h12:Av)(h13:DC):p0/\p1/\p2/\p3/\p4/\p5/\p6/\p7/\p8/\p9/\Lm/\tq/\Av/\DC:=⟨h0,h1,h2,h3,h4,h5,h6,h7,h8,h9,h10,h11,h12,h13⟩
theorem Zg0 {p0 p1 p2 p3 p4 p5 p6 p7 p8 p9 Lm tq Av DC ER:Prop}(h0:p0)(h1:p1)(h2:p2)(h3:p3)(h4:p4)(h5:p5)(h6:p6)(h7:p7)(h8:p8)(h9:p9)(h10:Lm)(h11:tq)(h12:Av)(h13:DC)(tZ:ER):p0/\p1/\p2/\p3/\p4/\p5/\p6/\p7/\p8/\p9/\Lm/\tq/\Av/\DC/\ER:=⟨h0,h1,h2,h3,h4,h5,h6,h7,h8,h9,h10,h11,h12,h13,tZ⟩
def Dr (v:Nat):Nat:=if v% 2=1 then(v/2)^^^3988292384 else v/2
def Ol:Nat->Nat->Nat
 |0,v=>v
 |n+1,v=>Dr (Ol n v)
theorem kY (v:Nat)(h:v<4294967296):Dr v<4294967296:=by
 unfold Dr;split
 ·exact Nat.xor_lt_two_pow (n:=32) (by omega) (by decide)
 ·omega
theorem pO (n v:Nat)(h:v<4294967296):Ol n v<4294967296:=by
 induction n with
 |zero=>exact h
 |succ n ih=>exact kY _ ih
theorem EW (u:Nat)(hu:u<4294967296):bits BinOp.and IntKind.u32 (u:Int) 1=((u% 2:Nat):Int):=by
 have h:=u32_and_nat u 1 hu (by decide);rw[Nat.and_one_is_mod]at h;exact h
theorem zg0 (u:Nat)(hu:u<4294967296):bits BinOp.xor IntKind.u32 ((u:Int)/2) 3988292384=((u/2^^^3988292384:Nat):Int):=by
 have h:=u32_xor_nat (u/2) 3988292384 (by omega) (by decide);rw[Int.natCast_ediv]at h;exact h
def Oi (s:ByteArray):Nat->Nat
 |0=>4294967295
 |k+1=>Ol 8 (Oi s k^^^(s.data.toList.map UInt8.toNat).getD k 0)
theorem QN (s:ByteArray)(k:Nat):(s.data.toList.map UInt8.toNat).getD k 0<256:=by
 by_cases h:k<(s.data.toList.map UInt8.toNat).length
 ·rw[List.getD_eq_getElem?_getD,List.getElem?_eq_getElem h];simp only[Option.getD_some,List.getElem_map];exact UInt8.toNat_lt _
 ·rw[List.getD_eq_getElem?_getD,List.getElem?_eq_none (by omega)];decide
theorem sI (s:ByteArray)(k:Nat)(h:k<s.size):(s.data.toList.map UInt8.toNat).getD k 0=(s[k]'h).toNat:=by
 rw[List.getD_eq_getElem?_getD,List.getElem?_map,List.getElem?_eq_getElem (by simpa using h)];rfl
theorem xE (s:ByteArray)(k:Nat):Oi s k<4294967296:=by
 cases k with
 |zero=>show 4294967295<4294967296;decide
 |succ k=>
  have h1:=xE s k;exact pO _ _ (Nat.xor_lt_two_pow (n:=32) h1 (Nat.lt_trans (QN s k) (by decide)))
theorem O9 (v:Nat)(h:v<4294967296):wrap64 (bits BinOp.xor IntKind.u32 IntKind.u32.max (v:Int))=4294967295-(v:Int):=by
 have e:(4294967295^^^v)=4294967295-v:=by
  have h1:(BitVec.allOnes 32^^^BitVec.ofNat 32 v)= ~~~BitVec.ofNat 32 v:=BitVec.allOnes_xor;have h2:=congrArg BitVec.toNat h1;simp only[BitVec.toNat_xor,BitVec.toNat_allOnes,BitVec.toNat_not,BitVec.toNat_ofNat]at h2;rw[Nat.mod_eq_of_lt (show v<2^32 by omega)]at h2;exact h2
 have h1:=u32_xor_nat 4294967295 v (by decide) h;rw[e]at h1;show wrap64 (bits BinOp.xor IntKind.u32 4294967295 (v:Int))=_
 have h2:bits BinOp.xor IntKind.u32 4294967295 (v:Int)=4294967295-(v:Int):=by
  refine h1.trans ?_;omega
 rw[h2];exact IntWalk.wrap64_in _ ⟨by omega,by omega⟩
theorem Mb0 (X c k V:Nat)(h:X^^^(c/2^k)=V):((V% 2=1)↔(X% 2≠c/2^k% 2))/\(X/2)^^^(c/2^(k+1))=V/2/\((X/2)^^^3988292384)^^^(c/2^(k+1))=(V/2)^^^3988292384:=by
 have e1:c/2^(k+1)=c/2^k/2:=by rw[Nat.pow_succ,Nat.div_div_eq_div_mul]
 have e2:(X/2)^^^(c/2^(k+1))=V/2:=by rw[e1,<-h,Nat.xor_div_two]
 refine⟨?_,e2,?_⟩
 ·rw[<-h,Nat.xor_mod_two_eq_one];have h1:=Nat.mod_two_eq_zero_or_one X;have h2:=Nat.mod_two_eq_zero_or_one (c/2^k);omega
 ·rw[<-e2,Nat.xor_assoc,Nat.xor_comm 3988292384,<-Nat.xor_assoc]
theorem yg0 (a b:Nat)(ha:a<4294967296)(hb:b<4294967296):bits BinOp.xor IntKind.i64 (a:Int) (b:Int)=((a^^^b:Nat):Int):=by
 have ha':a% 2^IntKind.i64.bits=a:=Nat.mod_eq_of_lt (Nat.lt_trans ha (by decide));have hb':b% 2^IntKind.i64.bits=b:=Nat.mod_eq_of_lt (Nat.lt_trans hb (by decide));have hl:a^^^b<4294967296:=Nat.xor_lt_two_pow (n:=32) ha hb;simp only[bits,BitVec.ofInt_natCast,BitVec.toNat_xor,BitVec.toNat_ofNat,ha',hb'];rw[IntKind.wrap_i64];omega
theorem Nb0 (c q:Nat)(hc:c<256):(wrap64 ((c:Int)/2^q)).tmod 2=((c/2^q% 2:Nat):Int):=by
 have e:(c:Int)/2^q=((c/2^q:Nat):Int):=by rw[Int.natCast_ediv];rfl
 have hle:c/2^q<=c:=Nat.div_le_self _ _;rw[e];generalize c/2^q=z at hle;rw[IntWalk.wrap64_in _ ⟨by omega,by omega⟩,Int.tmod_eq_emod_of_nonneg (by omega)];rfl
end Go.Proofs.YtgaoeoijdpdjiabGreatDoor
