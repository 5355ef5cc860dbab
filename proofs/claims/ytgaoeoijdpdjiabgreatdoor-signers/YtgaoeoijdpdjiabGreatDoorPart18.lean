import Derived.Test.YtgaoeoijdpdjiabGreatDoorPart8
import Derived.Test.YtgaoeoijdpdjiabGreatDoorPart5
import Derived.Test.YtgaoeoijdpdjiabGreatDoorPart16
import Derived.Test.YtgaoeoijdpdjiabGreatDoorPart17
open Go.Value (int string slice)
open Go.IntKind (i64)
open Go.Proofs.Tryz
set_option maxRecDepth 20000
set_option maxHeartbeats 4000000
namespace Go.Proofs.YtgaoeoijdpdjiabGreatDoor
open Go.RowKit
def Dc:List ByteArray->ByteArray
 |[]=>⟨#[]⟩
 |x::r=>x++Dc r
theorem Ar (x:ByteArray):x++(⟨#[]⟩:ByteArray)=x:=by apply ByteArray.ext;simp
theorem mE (x y z:ByteArray):x++y++z=x++(y++z):=by apply ByteArray.ext;simp
theorem uX (xs:List ByteArray):(Dc xs).data.toList=(xs.map (·.data.toList)).flatten:=by
 induction xs with
 |nil=>rfl
 |cons x r ih=>simp[Dc,ih]
theorem SN (xs:List ByteArray):(⟨(Lib.join (xs.map (·.data.toList)) (⟨#[]⟩:ByteArray).data.toList).toArray⟩:ByteArray)=Dc xs:=by
 apply ByteArray.ext;apply Array.ext';rw[uX];simp only[Lib.join];generalize xs.map (·.data.toList)=l
 induction l with
 |nil=>rfl
 |cons a r ih=>
  cases r with
  |nil=>simp[List.intercalate]
  |cons b r=>simpa[List.intercalate]using ih
theorem Eu (xs:List ByteArray):(Dc xs).size=(xs.map (·.size)).sum:=by
 induction xs with
 |nil=>rfl
 |cons x r ih=>simp[Dc,ByteArray.size_append,ih]
theorem oF (bk o c:Nat)(xs:List ByteArray)(w:World)(hcells:∀(j:Nat) x,xs[j]?=some x->w.cell? ⟨bk,o+j,none⟩=some (string x))(hbk:bk<w.heap.size)(hN:xs.length<=1000)(hcap:xs.length<=c)(hlen:(Dc xs).size<=100000):Calls prog 161 #[slice (some ⟨bk,o,none⟩) xs.length c,string ⟨#[]⟩] w λe w'=>e=.returned (string (Dc xs))/\Below w.heap.size w w':=by
 have h:=strings_Join bk o c xs ⟨#[]⟩ w hcells hbk (by omega) hcap (by have h:=congrArg ByteArray.size (SN xs);simp only[ByteArray.size,List.size_toArray]at h hlen;rw[h];omega);rw[SN]at h;exact h
def QK:Value->Nat|slice _ n _=>n|_=>0
def Lj (BL:List Nat):Nat->List Nat
 |0=>[1,2,3,4,5,6,7,8]
 |m+1=>Je 32 (xg BL (m*16) (Lj BL m) 4) 8
theorem wT (BL:List Nat):Lj BL 0=[1,2,3,4,5,6,7,8]:=rfl
theorem oG (BL:List Nat)(m:Nat):Lj BL (m+1)=Je 32 (xg BL (m*16) (Lj BL m) 4) 8:=by rw[Lj]
theorem TK (BL:List Nat)(m:Nat):(Lj BL m).length=8:=by
 induction m with
 |zero=>rfl
 |succ m ih=>unfold Lj;rw[VC _ _ _ (by rw[YC];exact ih)]
theorem vT (BL:List Nat)(hB:∀i,Ba BL i<256)(m:Nat):ve 32 (Lj BL m):=by
 induction m with
 |zero=>intro x hx;simp[Lj]at hx;omega
 |succ m ih=>unfold Lj;exact rG 32 _ 8 (by rw[YC];exact TK BL m) (vG BL _ _ 4 ih hB)
theorem jg0 (s:ByteArray)(w:World)(hs:s.size<=400)(hT:zu w)(hw:1<w.heap.size):Calls prog 245 #[string s] w λe w'=>e=.returned (string (ik (Me 4 (Lj (Ei s ((s.size/16+1)*16)) (s.size/16+1)) 16)))/\Below w.heap.size w w':=by
 have HT:=aa hT;have HS:=aa hs;clear hT hs;obtain⟨sk,Nh⟩:∃F,Hid (Lj=F):=⟨_,rfl⟩;obtain⟨tx,uw⟩:∃F:List Nat->ByteArray,Hid (∀L,ik (Me 4 L 16)=F L):=⟨_,λ_=>rfl⟩;have Mf:Hid (∀BL,sk BL 0=Lj BL 0):=λBL=>by rw[<-Nh.out]
 have Vs:Hid (∀BL m,sk BL (m+1)=Je 32 (xg BL (m*16) (sk BL m) 4) 8):=λBL m=>by rw[<-Nh.out];exact oG BL m
 have Vd:Hid (∀BL m,(sk BL m).length=8):=λBL m=>by rw[<-Nh.out];exact TK BL m
 have qj:Hid (∀BL,(∀i,Ba BL i<256)->∀m,ve 32 (sk BL m)):=λBL h m=>by rw[<-Nh.out];exact vT BL h m
 rw[uw.out,Nh.out];go_enter func245,ntmps245;go_wp2_with fail
 have R0:Hid (Lb (w.alloc (.cells #[.int .u32 1,.int .u32 2,.int .u32 3,.int .u32 4,.int .u32 5,.int .u32 6,.int .u32 7,.int .u32 8] 358)) w.heap.size .u32 358 (sk (Ei s ((s.size/16+1)*16)) 0)):=by
  rw[Mf.out,wT];exact heap_alloc_new _ _
 have B0:=aa ((Below.refl w.heap.size w).alloc Aa (.cells #[.int .u32 1,.int .u32 2,.int .u32 3,.int .u32 4,.int .u32 5,.int .u32 6,.int .u32 7,.int .u32 8] 358));have hz0:(w.alloc (.cells #[.int .u32 1,.int .u32 2,.int .u32 3,.int .u32 4,.int .u32 5,.int .u32 6,.int .u32 7,.int .u32 8] 358)).heap.size=w.heap.size+1:=by simp
 generalize hW0:w.alloc (.cells #[.int .u32 1,.int .u32 2,.int .u32 3,.int .u32 4,.int .u32 5,.int .u32 6,.int .u32 7,.int .u32 8] 358)=W0 at R0 B0 hz0⊢;clear hW0;refine(Ex _).mono ?_
 rintro e w1 ⟨rfl,rfl⟩
 go_wp2_with fail;refine(Ka0 s _ HS.out).mono ?_
 rintro e w2 ⟨rfl,hr2,hb2⟩
 have R2:=aa (R0.out.below hb2 R0.out.lt);have P2:=aa hr2;have B2:=aa (B0.out.trans (hb2.mono (by omega)));have Gs:Hid (w1.heap.size=w.heap.size+1):=hz0;have HK:Hid (s.size/16+1<=26):=by unfold Hid;have:=HS.out;omega
 have Cf:=aa (JR s ((s.size/16+1)*16));have Zn:Hid ((Ei s ((s.size/16+1)*16)).length=(s.size/16+1)*16):=GR s _ (by omega);clear hr2 hb2 R0 B0 hz0;obtain⟨k,hk⟩:∃k,k=s.size/16+1:=⟨_,rfl⟩;obtain⟨BL,hBL⟩:∃BL,BL=Ei s ((s.size/16+1)*16):=⟨_,rfl⟩;obtain⟨h,hh⟩:∃h,h=w1.heap.size:=⟨_,rfl⟩;obtain⟨g,hg⟩:∃g,g=w.heap.size:=⟨_,rfl⟩;rw[<-hBL]at Cf Zn P2 R2;rw[<-hk]at Zn HK;rw[<-hh]at Gs P2;rw[<-hg]at Gs R2 B2 hw;have Vv:=aa hk;have NG:=aa hBL;have Zl:=aa hg;rw[<-hk,<-hh,<-hg];clear hk hh hg hBL;go_wp2;go_loopw [5] (λv wr=>∃(m:Nat) (p:Option Addr),m<=k/\v=slice p ((k-m)*16) ((k-m)*16)/\(m<k->p=some ⟨h,m*16,none⟩)/\Hid (Lb wr g .u32 358 (sk BL m))/\Hid (Lb wr h .u8 5 BL)/\Hid (Below g w wr)) (λv _=>QK v)
 case atStart=>exact⟨0,_,by omega,by simp;rfl,λ_=>by simp,R2,P2,B2⟩
 case round=>
  obtain⟨m,p,hm,rfl,hp,hr,hpr,hb⟩:=hrel;by_cases hlt:m<k
  ·obtain rfl:=hp hlt;obtain⟨q,rfl⟩:∃q,k=m+q+1:=⟨k-m-1,by omega⟩;rw[show m+q+1-m=q+1 by omega];have xm:Hid (sk BL (m+1)=Je 32 (xg BL (m*16) (sk BL m) 4) 8):=Vs.out BL m;have hl:=Vd.out BL m;have hwd:=qj.out BL Cf.out m;have Kn:(xg BL (m*16) (sk BL m) 4).length=8:=by rw[YC];exact hl
   have hw4:=vG BL (m*16) (sk BL m) 4 hwd Cf.out;have Yf:=aa (λw' (h1:Lb w' g .u32 358 (sk BL m)) (h2:Lb w' h .u8 5 BL)=>vf0 g h (m*16) ((q+1)*16) (sk BL m) BL w' h1 hl hwd h2 (by rw[Zn.out];omega) Cf.out (by omega) (by rw[Gs.out];omega));have HST:=aa (λw' (h1:Lb w' g .u32 358 (xg BL (m*16) (sk BL m) 4)) (h2:zu w')=>Ze0 g (xg BL (m*16) (sk BL m) 4) w' h1 Kn hw4 h2 hw);clear hl hwd Kn hw4;go_wp2_with fail;refine(Yf.out _ hr.out hpr.out).mono ?_
   rintro e w3 ⟨rfl,hr3,ho3⟩
   have R3:=aa hr3;have O3:=aa ho3;clear hr3 ho3 Yf;go_wp2_with fail;refine(HST.out _ R3.out (λi hi=>(O3.out.cell (by simp;omega)).trans ((hb.out.cell (by simpa using hw)).trans (HT.out i hi)))).mono ?_
   rintro e w4 ⟨rfl,hr4,Di⟩
   rw[<-xm.out]at hr4;have R4:=aa hr4;have O4:=aa (O3.out.trans Di);have P4:=aa (O4.out.row hpr.out (by rw[Gs.out];omega));have B4:=aa (O4.out.below hb.out (Nat.le_refl g));clear hr4 Di HST xm O3 O4 R3 hr hpr hb;by_cases hq:q=0
   ·subst hq;go_wp2;go_roundw
    case rel=>exact⟨slice (some ⟨h,m*16,none⟩) 0 0,_,_,_,_,_,_,_,_,_,_,_,⟨m+1,some ⟨h,m*16,none⟩,by omega,by rw[show m+0+1-(m+1)=0 by omega,Nat.zero_mul],λh=>absurd h (by omega),R4,P4,B4⟩,rfl⟩
    case measure=>simp[QK]
   ·go_wp2;go_roundw
    case rel=>exact⟨m+1,_,by omega,by rw[show m+q+1-(m+1)=q by omega,show(q+1)*16-16=q*16 by omega],λ_=>by rw[show(m+1)*16=m*16+16 by omega],R4,P4,B4⟩
    case measure=>simp[QK];omega
  ·obtain rfl:m=k:=by omega
   rw[show(m-m)*16=0 by simp];have HT0:=xf0 g (sk BL m) wr hr.out (Vd.out BL m) (qj.out BL Cf.out m);rw[uw.out]at HT0;have uu:=aa HT0;clear HT0;have Hl:=aa hr.out.lt;go_wp2_with fail;refine uu.out.mono ?_
   rintro e w5 ⟨rfl,hb5⟩
   have B5:=aa (hb.out.trans (hb5.mono (Nat.le_of_lt Hl.out)));clear hb5 uu;go_wp2;go_ret;refine⟨?_,?_⟩
   ·rw[<-NG.out,<-Vv.out];rfl
   ·rw[<-Zl.out];exact B5.out
def SK:Value->Nat|slice _ n _=>n|_=>0
def Mj (BL:List Nat):Nat->List Nat
 |0=>[1,2,3,4,5,6,7,8]
 |m+1=>Je 64 (yg BL (m*32) (Mj BL m) 4) 8
theorem zT (BL:List Nat):Mj BL 0=[1,2,3,4,5,6,7,8]:=rfl
theorem pG (BL:List Nat)(m:Nat):Mj BL (m+1)=Je 64 (yg BL (m*32) (Mj BL m) 4) 8:=by rw[Mj]
theorem UK (BL:List Nat)(m:Nat):(Mj BL m).length=8:=by
 induction m with
 |zero=>rfl
 |succ m ih=>unfold Mj;rw[VC _ _ _ (by rw[ZC];exact ih)]
theorem yT (BL:List Nat)(hB:∀i,Ba BL i<256)(m:Nat):ve 64 (Mj BL m):=by
 induction m with
 |zero=>intro x hx;simp[Mj]at hx;omega
 |succ m ih=>unfold Mj;exact rG 64 _ 8 (by rw[ZC];exact UK BL m) (wG BL _ _ 4 ih hB)
theorem kg0 (s:ByteArray)(w:World)(hs:s.size<=400)(hT:Au w)(hw:1<w.heap.size):Calls prog 246 #[string s] w λe w'=>e=.returned (string (ik (Me 8 (Mj (Ei s ((s.size/32+1)*32)) (s.size/32+1)) 32)))/\Below w.heap.size w w':=by
 have HT:=aa hT;have HS:=aa hs;clear hT hs;obtain⟨sk,Nh⟩:∃F,Hid (Mj=F):=⟨_,rfl⟩;obtain⟨tx,uw⟩:∃F:List Nat->ByteArray,Hid (∀L,ik (Me 8 L 32)=F L):=⟨_,λ_=>rfl⟩;have Mf:Hid (∀BL,sk BL 0=Mj BL 0):=λBL=>by rw[<-Nh.out]
 have Vs:Hid (∀BL m,sk BL (m+1)=Je 64 (yg BL (m*32) (sk BL m) 4) 8):=λBL m=>by rw[<-Nh.out];exact pG BL m
 have Vd:Hid (∀BL m,(sk BL m).length=8):=λBL m=>by rw[<-Nh.out];exact UK BL m
 have qj:Hid (∀BL,(∀i,Ba BL i<256)->∀m,ve 64 (sk BL m)):=λBL h m=>by rw[<-Nh.out];exact yT BL h m
 rw[uw.out,Nh.out];go_enter func246,ntmps246;go_wp2_with fail
 have R0:Hid (Lb (w.alloc (.cells #[.int .u64 1,.int .u64 2,.int .u64 3,.int .u64 4,.int .u64 5,.int .u64 6,.int .u64 7,.int .u64 8] 361)) w.heap.size .u64 361 (sk (Ei s ((s.size/32+1)*32)) 0)):=by
  rw[Mf.out,zT];exact heap_alloc_new _ _
 have B0:=aa ((Below.refl w.heap.size w).alloc Aa (.cells #[.int .u64 1,.int .u64 2,.int .u64 3,.int .u64 4,.int .u64 5,.int .u64 6,.int .u64 7,.int .u64 8] 361));have hz0:(w.alloc (.cells #[.int .u64 1,.int .u64 2,.int .u64 3,.int .u64 4,.int .u64 5,.int .u64 6,.int .u64 7,.int .u64 8] 361)).heap.size=w.heap.size+1:=by simp
 generalize hW0:w.alloc (.cells #[.int .u64 1,.int .u64 2,.int .u64 3,.int .u64 4,.int .u64 5,.int .u64 6,.int .u64 7,.int .u64 8] 361)=W0 at R0 B0 hz0⊢;clear hW0;refine(Fx _).mono ?_
 rintro e w1 ⟨rfl,rfl⟩
 go_wp2_with fail;refine(La0 s _ HS.out).mono ?_
 rintro e w2 ⟨rfl,hr2,hb2⟩
 have R2:=aa (R0.out.below hb2 R0.out.lt);have P2:=aa hr2;have B2:=aa (B0.out.trans (hb2.mono (by omega)));have Gs:Hid (w1.heap.size=w.heap.size+1):=hz0;have HK:Hid (s.size/32+1<=13):=by unfold Hid;have:=HS.out;omega
 have Cf:=aa (JR s ((s.size/32+1)*32));have Zn:Hid ((Ei s ((s.size/32+1)*32)).length=(s.size/32+1)*32):=GR s _ (by omega);clear hr2 hb2 R0 B0 hz0;obtain⟨k,hk⟩:∃k,k=s.size/32+1:=⟨_,rfl⟩;obtain⟨BL,hBL⟩:∃BL,BL=Ei s ((s.size/32+1)*32):=⟨_,rfl⟩;obtain⟨h,hh⟩:∃h,h=w1.heap.size:=⟨_,rfl⟩;obtain⟨g,hg⟩:∃g,g=w.heap.size:=⟨_,rfl⟩;rw[<-hBL]at Cf Zn P2 R2;rw[<-hk]at Zn HK;rw[<-hh]at Gs P2;rw[<-hg]at Gs R2 B2 hw;have Vv:=aa hk;have NG:=aa hBL;have Zl:=aa hg;rw[<-hk,<-hh,<-hg];clear hk hh hg hBL;go_wp2;go_loopw [5] (λv wr=>∃(m:Nat) (p:Option Addr),m<=k/\v=slice p ((k-m)*32) ((k-m)*32)/\(m<k->p=some ⟨h,m*32,none⟩)/\Hid (Lb wr g .u64 361 (sk BL m))/\Hid (Lb wr h .u8 5 BL)/\Hid (Below g w wr)) (λv _=>SK v)
 case atStart=>exact⟨0,_,by omega,by simp;rfl,λ_=>by simp,R2,P2,B2⟩
 case round=>
  obtain⟨m,p,hm,rfl,hp,hr,hpr,hb⟩:=hrel;by_cases hlt:m<k
  ·obtain rfl:=hp hlt;obtain⟨q,rfl⟩:∃q,k=m+q+1:=⟨k-m-1,by omega⟩;rw[show m+q+1-m=q+1 by omega];have xm:Hid (sk BL (m+1)=Je 64 (yg BL (m*32) (sk BL m) 4) 8):=Vs.out BL m;have hl:=Vd.out BL m;have hwd:=qj.out BL Cf.out m;have Kn:(yg BL (m*32) (sk BL m) 4).length=8:=by rw[ZC];exact hl
   have hw4:=wG BL (m*32) (sk BL m) 4 hwd Cf.out;have Yf:=aa (λw' (h1:Lb w' g .u64 361 (sk BL m)) (h2:Lb w' h .u8 5 BL)=>wf0 g h (m*32) ((q+1)*32) (sk BL m) BL w' h1 hl hwd h2 (by rw[Zn.out];omega) Cf.out (by omega) (by rw[Gs.out];omega));have HST:=aa (λw' (h1:Lb w' g .u64 361 (yg BL (m*32) (sk BL m) 4)) (h2:Au w')=>af0 g (yg BL (m*32) (sk BL m) 4) w' h1 Kn hw4 h2 hw);clear hl hwd Kn hw4;go_wp2_with fail;refine(Yf.out _ hr.out hpr.out).mono ?_
   rintro e w3 ⟨rfl,hr3,ho3⟩
   have R3:=aa hr3;have O3:=aa ho3;clear hr3 ho3 Yf;go_wp2_with fail;refine(HST.out _ R3.out (λi hi=>(O3.out.cell (by simp;omega)).trans ((hb.out.cell (by simpa using hw)).trans (HT.out i hi)))).mono ?_
   rintro e w4 ⟨rfl,hr4,Di⟩
   rw[<-xm.out]at hr4;have R4:=aa hr4;have O4:=aa (O3.out.trans Di);have P4:=aa (O4.out.row hpr.out (by rw[Gs.out];omega));have B4:=aa (O4.out.below hb.out (Nat.le_refl g));clear hr4 Di HST xm O3 O4 R3 hr hpr hb;by_cases hq:q=0
   ·subst hq;go_wp2;go_roundw
    case rel=>exact⟨slice (some ⟨h,m*32,none⟩) 0 0,_,_,_,_,_,_,_,_,_,_,_,⟨m+1,some ⟨h,m*32,none⟩,by omega,by rw[show m+0+1-(m+1)=0 by omega,Nat.zero_mul],λh=>absurd h (by omega),R4,P4,B4⟩,rfl⟩
    case measure=>simp[SK]
   ·go_wp2;go_roundw
    case rel=>exact⟨m+1,_,by omega,by rw[show m+q+1-(m+1)=q by omega,show(q+1)*32-32=q*32 by omega],λ_=>by rw[show(m+1)*32=m*32+32 by omega],R4,P4,B4⟩
    case measure=>simp[SK];omega
  ·obtain rfl:m=k:=by omega
   rw[show(m-m)*32=0 by simp];have HT0:=yf0 g (sk BL m) wr hr.out (Vd.out BL m) (qj.out BL Cf.out m);rw[uw.out]at HT0;have uu:=aa HT0;clear HT0;have Hl:=aa hr.out.lt;go_wp2_with fail;refine uu.out.mono ?_
   rintro e w5 ⟨rfl,hb5⟩
   have B5:=aa (hb.out.trans (hb5.mono (Nat.le_of_lt Hl.out)));clear hb5 uu;go_wp2;go_ret;refine⟨?_,?_⟩
   ·rw[<-NG.out,<-Vv.out];rfl
   ·rw[<-Zl.out];exact B5.out
def Mx (s:ByteArray):ByteArray:=ik (Me 4 (Lj (Ei s ((s.size/16+1)*16)) (s.size/16+1)) 16)
def Ox (s:ByteArray):ByteArray:=ik (Me 8 (Mj (Ei s ((s.size/32+1)*32)) (s.size/32+1)) 32)
theorem rU (s:ByteArray):(Mx s).size=16:=by unfold Mx;rw[bU,vv]
theorem sU (s:ByteArray):(Ox s).size=32:=by unfold Ox;rw[bU,vv]
theorem cg0 (s:ByteArray)(w:World)(hs:s.size<=400)(hT:zu w)(hw:1<w.heap.size):Calls prog 245 #[string s] w λe w'=>e=.returned (string (Mx s))/\Below w.heap.size w w':=jg0 s w hs hT hw
theorem eg0 (s:ByteArray)(w:World)(hs:s.size<=400)(hT:Au w)(hw:1<w.heap.size):Calls prog 246 #[string s] w λe w'=>e=.returned (string (Ox s))/\Below w.heap.size w w':=kg0 s w hs hT hw
theorem Z9 (kind n:Int)(s:ByteArray)(w:World)(h:¬((kind=1\/kind=2)/\1<=n/\n<=16)):Calls prog 169 #[int i64 kind,int i64 n,string s] w λe w'=>e=.returned (.tuple #[string ⟨#[]⟩,int i64 2])/\w'=w:=by
 by_cases h1:kind=1
 ·subst h1;by_cases h2:n<1
  ·go_enter func169,ntmps169;go_wp2;go_ret2;exact⟨rfl,rfl⟩
  ·have h3:16<n:=by omega
   go_enter func169,ntmps169;go_wp2;go_ret2;exact⟨rfl,rfl⟩
 ·by_cases h1':kind=2
  ·subst h1';by_cases h2:n<1
   ·go_enter func169,ntmps169;go_wp2;go_ret2;exact⟨rfl,rfl⟩
   ·have h3:16<n:=by omega
    go_enter func169,ntmps169;go_wp2;go_ret2;exact⟨rfl,rfl⟩
  ·go_enter func169,ntmps169;go_wp2;go_ret2;exact⟨rfl,rfl⟩
theorem aa0 (kind n:Int)(s:ByteArray)(w:World)(h1:kind=1\/kind=2)(h2:1<=n)(h3:n<=16)(hs:400<s.size):Calls prog 169 #[int i64 kind,int i64 n,string s] w λe w'=>e=.returned (.tuple #[string ⟨#[]⟩,int i64 3])/\w'=w:=by
 rcases h1 with rfl|rfl
 ·go_enter func169,ntmps169;go_wp2;go_ret2;exact⟨rfl,rfl⟩
 ·go_enter func169,ntmps169;go_wp2;go_ret2;exact⟨rfl,rfl⟩
theorem V9 (n:Nat)(s:ByteArray)(w:World)(h2:1<=n)(h3:n<=16)(hs:s.size<=400)(hT:zu w)(hw:1<w.heap.size):Calls prog 169 #[int i64 1,int i64 (n:Int),string s] w λe w'=>e=.returned (.tuple #[string ((Mx s).extract 0 n),int i64 0])/\Below w.heap.size w w':=by
 have HW:=aa (cg0 s w hs hT hw);have hz:=rU s;clear hT;go_enter func169,ntmps169;go_wp2_with fail;refine HW.out.mono ?_
 rintro e w1 ⟨rfl,hb⟩
 go_wp2;go_ret2;exact⟨rfl,hb⟩
theorem X9 (n:Nat)(s:ByteArray)(w:World)(h2:1<=n)(h3:n<=16)(hs:s.size<=400)(hT:Au w)(hw:1<w.heap.size):Calls prog 169 #[int i64 2,int i64 (n:Int),string s] w λe w'=>e=.returned (.tuple #[string ((Ox s).extract 0 n),int i64 0])/\Below w.heap.size w w':=by
 have HW:=aa (eg0 s w hs hT hw);have hz:=sU s;clear hT;go_enter func169,ntmps169;go_wp2_with fail;refine HW.out.mono ?_
 rintro e w1 ⟨rfl,hb⟩
 go_wp2;go_ret2;exact⟨rfl,hb⟩
def Bo (kind n:Int)(s:ByteArray):ByteArray×Int:=if(kind=1\/kind=2)/\1<=n/\n<=16 then(if s.size<=400 then(if kind=1 then((Mx s).extract 0 n.toNat,0)else((Ox s).extract 0 n.toNat,0))else(⟨#[]⟩,3))else(⟨#[]⟩,2)
theorem Y9 (kind n:Int)(s:ByteArray)(w:World)(h3:zu w)(h6:Au w)(hw:1<w.heap.size):Calls prog 169 #[int i64 kind,int i64 n,string s] w λe w'=>e=.returned (.tuple #[string (Bo kind n s).1,int i64 (Bo kind n s).2])/\Below w.heap.size w w':=by
 by_cases h:(kind=1\/kind=2)/\1<=n/\n<=16
 ·obtain⟨hk,h1,h2⟩:=h;by_cases hs:s.size<=400
  ·obtain⟨m,rfl⟩:∃m:Nat,n=(m:Int):=⟨n.toNat,by omega⟩;rcases hk with rfl|rfl
   ·refine(V9 m s w (by omega) (by omega) hs h3 hw).mono ?_
    rintro e w' ⟨rfl,hb⟩
    exact⟨by simp[Bo,h1,h2,hs],hb⟩
   ·refine(X9 m s w (by omega) (by omega) hs h6 hw).mono ?_
    rintro e w' ⟨rfl,hb⟩
    exact⟨by simp[Bo,h1,h2,hs],hb⟩
  ·refine(aa0 kind n s w hk h1 h2 (by omega)).mono ?_
   rintro e w' ⟨rfl,rfl⟩
   exact⟨by simp[Bo,hk,h1,h2,hs],Vb⟩
 ·refine(Z9 kind n s w h).mono ?_
  rintro e w' ⟨rfl,rfl⟩
  exact⟨by rw[Bo,if_neg h],Vb⟩
def Tn (w:World):Prop:=zu w/\Au w/\1<w.heap.size
theorem Tn.below {w w':World}{B:Nat}(h:Tn w)(hb:Below B w w')(hB:1<B):Tn w':=by
 obtain⟨h3,h6,hw⟩:=h;have hs:=hb.size;exact⟨λi hi=>(hb.cell (p:=⟨1,i,none⟩) hB).trans (h3 i hi),λi hi=>(hb.cell (p:=⟨1,i,none⟩) hB).trans (h6 i hi),by omega⟩
theorem Tn.pos {w:World}(h:Tn w):1<w.heap.size:=h.2.2
theorem Tn.on {w w':World}(h:Tn w)(hb:Below w.heap.size w w'):Tn w':=h.below hb h.pos
theorem Tn.alloc {w:World}(h:Tn w)(o:Obj):Tn (w.alloc o):=h.on (Va o)
def hv (k b:Int)(s:ByteArray):ByteArray:=(Bo k b s).1
theorem wR (k b:Int)(s:ByteArray)(w:World)(hk:k=1\/k=2)(h1:1<=b)(h2:b<=16)(hs:s.size<=400)(hT:Tn w):Calls prog 169 #[int i64 k,int i64 b,string s] w λe w'=>e=.returned (.tuple #[string (hv k b s),int i64 0])/\Below w.heap.size w w':=by
 refine(Y9 k b s w hT.1 hT.2.1 hT.2.2).mono ?_
 rintro e w' ⟨rfl,hb⟩
 refine⟨?_,hb⟩
 have:(Bo k b s).2=0:=by
  unfold Bo;rcases hk with rfl|rfl<;>simp[h1,h2,hs]
 rw[this];rfl
theorem Vu (k b:Int)(s:ByteArray)(hk:k=1\/k=2)(h1:1<=b)(h2:b<=16)(hs:s.size<=400):((hv k b s).size:Int)=b:=by
 unfold hv Bo;have h3:=rU s;have h6:=sU s;rcases hk with rfl|rfl<;>simp[h1,h2,hs,ByteArray.size_extract,h3,h6]<;>omega
theorem gL (k b x t l tag:Int)(bk o c:Nat)(xs:List ByteArray)(w:World)(hcells:∀(j:Nat) y,xs[j]?=some y->w.cell? ⟨bk,o+j,none⟩=some (string y))(hbk:bk<w.heap.size)(hcap:xs.length<=c)(hN:xs.length<=1000)
  (hk:k=1\/k=2)(h1:1<=b)(h2:b<=16)(hs:(Dc xs).size<=399)(hT:Tn w):Calls prog 248 #[.agg #[int i64 k,int i64 b,int i64 x,int i64 t,int i64 l],int i64 tag,slice (some ⟨bk,o,none⟩) xs.length c] w λe w'=>e=.returned (string (hv k b (qa 1 tag++Dc xs)))/\Below w.heap.size w w':=by
 have HN:=aa (λw':World=>Kr 1 tag w' (by decide));have HJ:=aa (λ(w':World) (hb:Below (w.heap.size+1) (w.alloc (.cells #[int i64 k,int i64 b,int i64 x,int i64 t,int i64 l] 26)) w')=>oF bk o c xs w' (λj y h=>(hb.cell (p:=⟨bk,o+j,none⟩) (by show bk<w.heap.size+1;omega)).trans ((World.cell?_alloc_past _ _ _ hbk).trans (hcells j y h))) (by have:=hb.size;simp at this;omega) hN hcap (by omega));have HO:=aa (λ(w':World) (hb:Below (w.heap.size+1) (w.alloc (.cells #[int i64 k,int i64 b,int i64 x,int i64 t,int i64 l] 26)) w')=>wR k b (qa 1 tag++Dc xs) w' hk h1 h2 (by rw[ByteArray.size_append,Sa];omega) ((hT.alloc _).below hb (by omega)));clear hcells hT;have hcc:∀w:World,(Op.stringOp .add (qa 1 tag) (Dc xs)).run prog w=.ok (string (qa 1 tag++Dc xs)) w:=λw=>run_string_add w _ _ (by rw[Sa];omega) (by omega);go_enter func248,ntmps248;go_wp2_with fail;go_region_held3 (λw'=>w'.cell? ⟨w.heap.size,0,none⟩=some (int i64 k)/\w'.cell? ⟨w.heap.size,1,none⟩=some (int i64 b)/\Below (w.heap.size+1) (w.alloc (.cells #[int i64 k,int i64 b,int i64 x,int i64 t,int i64 l] 26)) w') (first|exact Uc|exact hS2|exact hS1|exact⟨by simp[go_sem],by simp[go_sem],Vb.drew⟩) (first|(go_at_call 160;refine(HN.out _).mono ?_;rintro e w1 ⟨rfl,hb1⟩;have hS1:=pJ (by assumption) hb1 (by simp) (by simp) (by simp))|(go_at_call 161;refine(HJ.out _ hS1.2.2).mono ?_;rintro e w2 ⟨rfl,hb2⟩;have hS2:=pJ hS1 hb2 (by simp) (by simp) (by simp))|(go_at_call 169;refine(HO.out _ hS2.2.2).mono ?_;rintro e w3 ⟨rfl,hb3⟩;have Uc:=pJ hS2 hb3 (by simp) (by simp) (by simp)));go_wp2;go_ret;exact⟨rfl,(Va _).trans (Uc.2.2.mono (by omega))⟩
def Yd (k b x t l:Int):ByteArray:=qa 1 k++qa 1 b++qa 1 x++qa 1 t++qa 1 l
theorem NB (k b x t l:Int):(Yd k b x t l).size=5:=by simp only[Yd,ByteArray.size_append,Sa]
def zx (b:Nat)(L:List Nat):List Value:=L.map (λn=>Value.int .u64 ((n:Nat):Int))++[int i64 ((b:Nat):Int)]
def bf (w:World)(g b:Nat)(L:List Nat):Prop:=w.heap[g]?=some (.cells (zx b L).toArray 320 (0,0))
theorem bf.cell {w:World}{g b:Nat}{L:List Nat}(h:bf w g b L){i:Nat}(hi:i<L.length):w.cell? ⟨g,i,none⟩=some (.int .u64 ((Ba L i:Nat):Int)):=by
 unfold bf zx at h;simp[World.cell?,h,Ba,List.getElem?_append_left (show i<(L.map (λn=>Value.int .u64 ((n:Nat):Int))).length by simpa using hi),hi]
theorem bf.bits {w:World}{g b:Nat}{L:List Nat}(h:bf w g b L)(hL:L.length=8):w.cell? ⟨g,8,none⟩=some (int i64 ((b:Nat):Int)):=by
 unfold bf zx at h;simp[World.cell?,h,hL]
theorem bf.free {w:World}{g b:Nat}{L:List Nat}(h:bf w g b L)(i:Nat):w.frozen? ⟨g,i,none⟩=false:=by
 unfold bf at h;simp[World.frozen?,h]
theorem bf.lt {w:World}{g b:Nat}{L:List Nat}(h:bf w g b L):g<w.heap.size:=lt_of_block h
theorem bf.set {w:World}{g b:Nat}{L:List Nat}(h:bf w g b L)(i z:Nat)(hi:i<L.length):bf (w.setCell ⟨g,i,none⟩ (.int .u64 ((z:Nat):Int))) g b (L.set i z):=by
 have hlt:=h.lt;unfold bf at h⊢;have h':w.heap[g]=.cells (zx b L).toArray 320 (0,0):=by simpa[Array.getElem?_eq_getElem hlt]using h
 show(w.heap.modify g _)[g]?=_;rw[Array.getElem?_eq_getElem (by simpa using hlt),Array.getElem_modify_self,h']
 have e:(zx b L).set i (.int .u64 ((z:Nat):Int))=zx b (L.set i z):=by
  unfold zx;rw[List.set_append_left _ _ (by simpa using hi),List.map_set]
 simp[<-e]
theorem bf.drewN {w:World}{g b:Nat}{L:List Nat}(h:bf w g b L)(n:Nat):bf (w.drewN n) g b L:=h
theorem bf.below {w w':World}{g b B:Nat}{L:List Nat}(h:bf w g b L)(hb:Below B w w')(hg:g<B):bf w' g b L:=by
 unfold bf at h⊢;rw[hb.block g hg];exact h
theorem mr (y z:ByteArray)(hy:y.size<=1000)(hz:z.size<=1000)(w:World):(Op.stringOp .add y z).run prog w=.ok (string (y++z)) w:=run_string_add w _ _ (by omega) (by omega)
theorem CS (q b:Int)(d:ByteArray)(w:World):Calls prog 303 #[.agg #[int i64 q,int i64 b,string d]] w λe w'=>e=.returned (.bool (decide (Oh q b d)))/\Below w.heap.size w w':=by
 by_cases h1:1<=q
 ·by_cases h2:q<=2147483647
  ·by_cases h3:0<=b
   ·by_cases h4:b<=4096
    ·by_cases h5:d.size=8
     ·rw[decide_eq_true (show Oh q b d from⟨h1,h2,h3,h4,h5⟩)];have hd:(((d.size:Nat):Int)==8)=true:=by rw[h5];rfl
      clear h5;go_enter func303,ntmps303;go_wp2;go_ret;exact⟨rfl,Va _⟩
     ·rw[decide_eq_false (show¬Oh q b d fromλh=>h5 h.2.2.2.2)];have hd:(((d.size:Nat):Int)==8)=false:=by simp;omega
      clear h5;go_enter func303,ntmps303;go_wp2;go_ret;exact⟨rfl,Va _⟩
    ·rw[decide_eq_false (show¬Oh q b d fromλh=>h4 h.2.2.2.1)];go_enter func303,ntmps303;go_wp2;go_ret;exact⟨rfl,Va _⟩
   ·rw[decide_eq_false (show¬Oh q b d fromλh=>h3 h.2.2.1)];go_enter func303,ntmps303;go_wp2;go_ret;exact⟨rfl,Va _⟩
  ·rw[decide_eq_false (show¬Oh q b d fromλh=>h2 h.2.1)];go_enter func303,ntmps303;go_wp2;go_ret;exact⟨rfl,Va _⟩
 ·rw[decide_eq_false (show¬Oh q b d fromλh=>h1 h.1)];go_enter func303,ntmps303;go_wp2;go_ret;exact⟨rfl,Va _⟩
theorem gf0 (s:ByteArray)(w:World)(hs:s.size<=1000):Calls prog 257 #[string s] w λe w'=>e=.returned (int i64 (jh s))/\w'=w:=if0 s w (by unfold maxLen;omega)
theorem Id0 (q b:Int)(d:ByteArray)(w:World)(h:¬Oh q b d):Calls prog 256 #[.agg #[int i64 q,int i64 b,string d]] w λe w'=>e=.returned (.tuple #[string ⟨#[]⟩,int i64 2])/\Below w.heap.size w w':=by
 have HR:=aa (λV:World=>CS q b d V);rw[decide_eq_false h]at HR;clear h;go_enter func256,ntmps256;go_wp2_with fail;refine(HR.out _).mono ?_
 rintro e w1 ⟨rfl,hb1⟩
 have B1:=aa hb1;clear hb1 HR;go_wp2;go_ret2;exact⟨rfl,((Below.refl w.heap.size w).alloc Aa _).trans (B1.out.mono (by simp))⟩
theorem JK (q b:Int)(d:ByteArray)(w:World)(h:Oh q b d):Calls prog 256 #[.agg #[int i64 q,int i64 b,string d]] w λe w'=>e=.returned (.tuple #[string (Ua q b d),int i64 0])/\Below w.heap.size w w':=by
 have HR:=aa (λV:World=>CS q b d V);rw[decide_eq_true h]at HR;have hd:=h.2.2.2.2;have hm:Gf.size=4:=rfl;have Wj:=mr Gf (qa 4 q) (by omega) (by rw[Sa];omega);have Cj:=mr (Gf++qa 4 q) d (by simp only[ByteArray.size_append,Sa];omega) (by omega);have il:=mr (Gf++qa 4 q++d) (qa 4 b) (by simp only[ByteArray.size_append,Sa];omega) (by simp only[Sa];omega);have Yh:=mr (Gf++qa 4 q++d++qa 4 b) Cr (by simp only[ByteArray.size_append,Sa];omega) (by decide);have Nl:=mr (qh q b d) (qa 4 (jh (qh q b d))) (by rw[nz _ _ _ hd];omega) (by simp only[Sa];omega);have Lp:=aa (λV:World=>Kr 4 q V (by decide));have kg:=aa (λV:World=>Kr 4 b V (by decide));have Il:=aa (λV:World=>Kr 4 (jh (qh q b d)) V (by decide));have HM:=aa (λV:World=>gf0 (qh q b d) V (by rw[nz _ _ _ hd];omega));have HE:Hid (Ua q b d=qh q b d++qa 4 (jh (qh q b d))):=rfl;have HT:Hid (Gf++qa 4 q++d++qa 4 b++Cr=qh q b d):=rfl;rw[HT.out]at Yh;change∀w,(Op.stringOp .add ⟨#[115,103,110,116]⟩ (qa 4 q)).run prog w=_ at Wj;change∀w,(Op.stringOp .add (Gf++qa 4 q++d++qa 4 b) ⟨#[0,0,0,0,0,0,0,0]⟩).run prog w=_ at Yh;generalize Gf++qa 4 q++d++qa 4 b=t3 at il Yh HT;generalize Gf++qa 4 q++d=t2 at Cj il;generalize Gf++qa 4 q=t1 at Wj Cj;generalize Ua q b d=z at HE⊢;generalize qh q b d=t4 at Yh Nl HM Il HE HT;generalize jh t4=s4 at Nl HM Il HE;clear h hd hm HT;go_enter func256,ntmps256;go_wp2_with fail;refine(HR.out _).mono ?_
 rintro e w1 ⟨rfl,hb1⟩
 obtain⟨W0,hW⟩:=Ca (w.alloc (.cells #[int i64 q,int i64 b,string d] 186));have HC:=aa (show W0.cell? ⟨w.heap.size,0,none⟩=some (int i64 q)/\W0.cell? ⟨w.heap.size,1,none⟩=some (int i64 b)/\W0.cell? ⟨w.heap.size,2,none⟩=some (string d) by subst hW;refine⟨?_,?_,?_⟩<;>simp[go_sem]);have HB:=Xd hW;have hz:W0.heap.size=w.heap.size+1:=by subst hW;simp
 have HS:=aa (λ(V:World) (h:Below W0.heap.size W0 V)=>(⟨(h.cell (p:=⟨w.heap.size,0,none⟩) (by show w.heap.size<_;omega)).trans HC.out.1,(h.cell (p:=⟨w.heap.size,1,none⟩) (by show w.heap.size<_;omega)).trans HC.out.2.1,(h.cell (p:=⟨w.heap.size,2,none⟩) (by show w.heap.size<_;omega)).trans HC.out.2.2,h⟩:V.cell? ⟨w.heap.size,0,none⟩=some (int i64 q)/\V.cell? ⟨w.heap.size,1,none⟩=some (int i64 b)/\V.cell? ⟨w.heap.size,2,none⟩=some (string d)/\Below W0.heap.size W0 V));have hS0:Below W0.heap.size W0 w1:=by subst hW;exact hb1
 clear hb1 HR hW;have HH1:=aa (HS.out _ hS0);go_wp2_with fail;go_region_held3 (λV=>V.cell? ⟨w.heap.size,0,none⟩=some (int i64 q)/\V.cell? ⟨w.heap.size,1,none⟩=some (int i64 b)/\V.cell? ⟨w.heap.size,2,none⟩=some (string d)/\Below W0.heap.size W0 V) (first|exact HS.out _ hS2|exact HS.out _ hS1|exact HS.out _ hS0.drew) (first|(go_at_call 160;have hx:=hS1;clear hx;refine(kg.out _).mono ?_;rintro e w3 ⟨rfl,hb3⟩;have hS2:=Ga hS1 hb3 Aa)|(go_at_call 160;refine(Lp.out _).mono ?_;rintro e w2 ⟨rfl,hb2⟩;have hS1:=Ga hS0.drew hb2 Aa));go_wp2_with fail;refine(HM.out _).mono ?_
 rintro e w4 ⟨rfl,rfl⟩
 go_wp2_with fail;refine(Il.out _).mono ?_
 rintro e w5 ⟨rfl,hb5⟩
 have B5:=aa hb5;clear hb5;go_wp2;go_ret2;exact⟨congrArg (λx=>Ending.returned (Value.tuple #[string x,int i64 0])) HE.out.symm,HB.out.trans ((Ga hS2 B5.out Aa).mono (by omega))⟩
end Go.Proofs.YtgaoeoijdpdjiabGreatDoor
namespace Go.Proofs.YtgaoeoijdpdjiabGreatDoor
theorem gX:Cr=qa 4 0++qa 4 0:=by decide
theorem eX (s:ByteArray)(hs:s.size=32):s.extract 20 28=Cr↔Bd s 20 4=0/\Bd s 24 4=0:=by
 have e20:=wC s 20 (by omega);have e24:=wC s 24 (by omega);have l20:=dL s 20;have l24:=dL s 24;rw[<-Iy s 20 24 28 (by omega) (by omega) (by omega),gX];change qa 4 _=s.extract 20 24 at e20;change qa 4 _=s.extract 24 28 at e24;rw[<-e20,<-e24];constructor
 ·intro h;obtain⟨h1,h2⟩:=Cy h (by rw[Sa,Sa]);have a:=iK _ _ (by omega) (by omega) (by omega) (by omega) h1;have b:=iK _ _ (by omega) (by omega) (by omega) (by omega) h2;exact⟨by omega,by omega⟩
 ·rintro⟨h1,h2⟩
  rw[h1,h2];rfl
def Le (s:ByteArray):Bool:=decide (s.size=32/\Oh (Hg s) (qg s) (Qd s)/\Ua (Hg s) (qg s) (Qd s)=s)
theorem Sw (s:ByteArray):Le s=true↔s.size=32/\Oh (Hg s) (qg s) (Qd s)/\Ua (Hg s) (qg s) (Qd s)=s:=by simp[Le]
def Og (s:ByteArray):Value:=if Le s then .tuple #[.agg #[int i64 (Hg s),int i64 (qg s),string (Qd s)],int i64 0]else .tuple #[.agg #[int i64 0,int i64 0,string ⟨#[]⟩],int i64 6]
theorem bL {s:ByteArray}(h:Le s=true):Og s=.tuple #[.agg #[int i64 (Hg s),int i64 (qg s),string (Qd s)],int i64 0]:=by rw[Og,if_pos h]
theorem Sr {s:ByteArray}(h:Le s=false):Og s=.tuple #[.agg #[int i64 0,int i64 0,string ⟨#[]⟩],int i64 6]:=by rw[Og,if_neg (by rw[h];decide)]
theorem vQ {s:ByteArray}(h:s.size≠32):Le s=false:=by simp[Le,h]
theorem lF (s:ByteArray)(hs:s.size=32):Le s=true↔s.extract 0 4=Gf/\1<=Hg s/\Hg s<=2147483647/\qg s<=4096/\(Bd s 20 4=0/\Bd s 24 4=0)/\jh (s.extract 0 28)=(Bd s 28 4:Nat):=by
 have h0:0<=qg s:=by unfold qg;omega
 have hd:(Qd s).size=8:=by rw[Qd,ByteArray.size_extract];omega
 rw[Sw,zW s hs,eX s hs];unfold Oh;constructor
 ·rintro⟨_,⟨a,b,_,c,_⟩,d,e,f⟩
  exact⟨d,a,b,c,e,f⟩
 ·rintro⟨d,a,b,c,e,f⟩
  exact⟨hs,⟨a,b,h0,c,hd⟩,d,e,f⟩
end Go.Proofs.YtgaoeoijdpdjiabGreatDoor
