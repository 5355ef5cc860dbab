import Derived.Test.YtgaoeoijdpdjiabGreatDoorPart24
import Derived.Test.YtgaoeoijdpdjiabGreatDoorPart25
import Derived.Deep.Cut
open Go.Value (int string pointer slice)
open Go.IntKind (i64)
open Go.Proofs.Tryz
set_option maxRecDepth 20000
set_option maxHeartbeats 4000000
namespace Go.Proofs.YtgaoeoijdpdjiabGreatDoor
open Go.RowKit
def Rf (lo S D:Nat)(st:Da)(w:World)(F:Nat->Prop):Prop:=∃E pv,w.heap[S]?=some (.cells (List.toArray [pointer (some ⟨D,0,none⟩)]) 135 (0,0))/\Ta lo D E pv st w/\S≠D/\S≠E/\pv.ownBlock≠some S/\lo<=S/\F=λk=>k=S\/uh D E pv k
theorem Rf.lt {lo S D:Nat}{st:Da}{w:World}{F:Nat->Prop}(h:Rf lo S D st w F):∀k,F k->lo<=k/\k<w.heap.size:=by
 obtain⟨E,pv,hb,hd,h1,h2,h3,h4,rfl⟩:=h
 rintro k (rfl|hk)
 ·exact⟨h4,(Array.getElem?_eq_some_iff.1 hb).1⟩
 ·exact hd.lt k hk
theorem Rf.kept {lo S D:Nat}{st:Da}{w w':World}{F G:Nat->Prop}(h:Rf lo S D st w F)(hk:za G w w')(hn:∀k,F k->¬G k):Rf lo S D st w' F:=by
 obtain⟨E,pv,hb,hd,h1,h2,h3,h4,rfl⟩:=h;exact⟨E,pv,by rw[hk.block S (Array.getElem?_eq_some_iff.1 hb).1 (hn S (.inl rfl))];exact hb,hd.kept hk (λk e=>hn k (.inr e)),h1,h2,h3,h4,rfl⟩
theorem Rf.below {lo S D:Nat}{st:Da}{w w':World}{F:Nat->Prop}(h:Rf lo S D st w F)(hb:Below w.heap.size w w'):Rf lo S D st w' F:=h.kept (za.of_below (F:=λ_=>False) hb) (λ_ _ hf=>hf)
theorem Rf.ok {lo S D:Nat}{st:Da}{w:World}{F:Nat->Prop}(h:Rf lo S D st w F):qf st:=by
 obtain⟨E,pv,hb,hd,_⟩:=h;exact hd.ok
def mo (lo S D:Nat)(st:Da)(F:Nat->Prop)(w w':World):Prop:=∃F',Rf lo S D st w' F'/\za F w w'/\∀k,F' k->F k\/w.heap.size<=k
theorem Ut {lo S D E:Nat}{pv pv':Value}{st:Da}{w w':World}(hb:w.heap[S]?=some (.cells (List.toArray [pointer (some ⟨D,0,none⟩)]) 135 (0,0)))(hd:Ta lo D E pv' st w')(hk:za (uh D E pv) w w')(ho:∀k,pv'.ownBlock=some k->pv.ownBlock=some k\/w.heap.size<=k)(h1:S≠D)(h2:S≠E)(h3:pv.ownBlock≠some S)(h4:lo<=S):mo lo S D st (λk=>k=S\/uh D E pv k) w w':=by
 have hS:=(Array.getElem?_eq_some_iff.1 hb).1;refine⟨_,⟨E,pv',?_,hd,h1,h2,?_,h4,rfl⟩,hk.mono (λk _ e=>.inr e),?_⟩
 ·rw[hk.block S hS (by rintro(e|e|e)<;>first|exact h1 e|exact h2 e|exact h3 e)];exact hb
 ·intro e;rcases ho S e with h|h
  ·exact h3 h
  ·omega
 ·rintro k (rfl|rfl|rfl|e)
  ·exact .inl (.inl rfl)
  ·exact .inl (.inr (.inl rfl))
  ·exact .inl (.inr (.inr (.inl rfl)))
  ·rcases ho k e with h|h
   ·exact .inl (.inr (.inr (.inr h)))
   ·exact .inr h
theorem ve0 (n:Nat)(w:World)(lo:Nat)(h1:1<=n)(h2:n<=8)(hlo:lo<=w.heap.size):Calls prog 26 #[int i64 n] w λe w'=>∃S D F,e=.returned (.tuple #[pointer (some ⟨S,0,none⟩),int i64 0])/\Rf lo S D (Ij n) w' F/\(∀k,F k->w.heap.size<=k)/\Below w.heap.size w w':=by
 have HN:=Qa (RY n w lo h1 h2 hlo);have yh:=Qa hlo;clear h1 h2 hlo;go_enter func26,ntmps26;go_wp2_with fail;refine HN.out.mono ?_
 rintro e w1 ⟨rfl,hd,hb⟩
 have HD:=Qa hd;have HB:=Qa hb;clear hd hb;go_wp2;go_ret2;have hz:=HD.out.ltD;refine⟨_,w.heap.size+1,_,rfl,⟨w.heap.size,slice none 0 0,heap_alloc_new w1 _,HD.out.below (Va _),by omega,by omega,by simp[Value.ownBlock],Nat.le_trans yh.out HB.out.size,rfl⟩,?_,HB.out.alloc HB.out.size _⟩
 rintro k (rfl|rfl|rfl|e)
 ·exact HB.out.size
 ·omega
 ·omega
 ·simp[Value.ownBlock]at e
theorem De0 (lo S D:Nat)(st:Da)(F:Nat->Prop)(i:Int)(w:World)(h:Rf lo S D st w F):Calls prog 61 #[pointer (some ⟨S,0,none⟩),int i64 i] w λe w'=>e=.returned (.tuple #[string (Ec st i).1,int i64 (Ec st i).2])/\mo lo S D (Sb st i) F w w':=by
 obtain⟨E,pv,hb,hd,h1,h2,h3,h4,rfl⟩:=h;have c0:w.cell? ⟨S,0,none⟩=some (pointer (some ⟨D,0,none⟩)):=Qh hb rfl;have HR:=Qa (dS lo D E pv st i w hd);have Vn:Hid (∀w',Ta lo D E pv (Sb st i) w'/\za (λk=>k=D) w w'->mo lo S D (Sb st i) (λk=>k=S\/uh D E pv k) w w'):=λw' h=>Ut hb h.1 (Ju h.2) (λk e=>.inl e) h1 h2 h3 h4;clear hb hd h1 h2 h3 h4;generalize Ec st i=z at*;obtain⟨z1,z2⟩:=z;go_enter func61,ntmps61;go_wp2_with fail;refine HR.out.mono ?_
 rintro e w1 ⟨rfl,hd1⟩
 have HX:=Qa (Vn.out _ hd1);clear hd1;go_wp2;go_ret2;exact⟨rfl,HX.out⟩
theorem jf0 (lo S D:Nat)(st:Da)(F:Nat->Prop)(i:Int)(t:ByteArray)(w:World)(h:Rf lo S D st w F)(hlo:lo<=w.heap.size)(hw:0<=st.writes)(hw2:st.writes<9223372036854775807):Calls prog 62 #[pointer (some ⟨S,0,none⟩),int i64 i,string t] w λe w'=>e=.returned (int i64 (Kc st i t))/\mo lo S D (Jb st i t) F w w':=by
 obtain⟨E,pv,hb,hd,h1,h2,h3,h4,rfl⟩:=h;have c0:w.cell? ⟨S,0,none⟩=some (pointer (some ⟨D,0,none⟩)):=Qh hb rfl
 have HW:Hid (Calls prog 104 #[pointer (some ⟨D,0,none⟩),int i64 i,string t] w λe w'=>e=.returned (int i64 (Kc st i t))/\mo lo S D (Jb st i t) (λk=>k=S\/uh D E pv k) w w'):=by
  by_cases hi:0<=i/\i<st.n
  ·by_cases ht:t.size=32
   ·by_cases hf:st.trouble=1\/st.pend.length=16
    ·rw[show Kc st i t=5 by rw[Kc,if_neg (λhn=>hn hi),if_neg (λhn=>hn ht),if_pos hf],show Jb st i t={st with trouble:=Ve st.trouble} by rw[Jb,if_neg (λhn=>hn hi),if_neg (λhn=>hn ht),if_pos hf]];refine(EU lo D E pv st i t w hd hi ht hf).mono ?_
     rintro e w' ⟨rfl,a,b⟩
     exact⟨rfl,Ut hb a (Ju b) (λk e=>.inl e) h1 h2 h3 h4⟩
    ·rw[show Kc st i t=0 by rw[Kc,if_neg (λhn=>hn hi),if_neg (λhn=>hn ht),if_neg hf],show Jb st i t={st with trouble:=Ve st.trouble,pend:=st.pend++[(i.toNat,t)],writes:=st.writes+1} by rw[Jb,if_neg (λhn=>hn hi),if_neg (λhn=>hn ht),if_neg hf]];obtain⟨k,rfl⟩:=Int.eq_ofNat_of_zero_le hi.1;refine(FU lo D E pv st k t w hd hlo (by omega) ht (λe=>hf (.inl e)) (λe=>hf (.inr e)) hw hw2).mono ?_
     rintro e w' ⟨rfl,pv',a,b,c⟩
     exact⟨rfl,Ut hb (by simpa using a) b c h1 h2 h3 h4⟩
   ·rw[show Kc st i t=2 by rw[Kc,if_neg (λhn=>hn hi),if_pos ht],show Jb st i t=st by rw[Jb,if_neg (λhn=>hn hi),if_pos ht]];refine(DU lo D E pv st i t w hd hi ht).mono ?_
    rintro e w' ⟨rfl,rfl⟩
    exact⟨rfl,Ut hb hd (za.refl _ _) (λk e=>.inl e) h1 h2 h3 h4⟩
  ·rw[show Kc st i t=4 by rw[Kc,if_pos hi],show Jb st i t=st by rw[Jb,if_pos hi]];refine(GU lo D E pv st i t w hd hi).mono ?_
   rintro e w' ⟨rfl,rfl⟩
   exact⟨rfl,Ut hb hd (za.refl _ _) (λk e=>.inl e) h1 h2 h3 h4⟩
 clear hb hd h1 h2 h3 h4 hlo;generalize Kc st i t=z at*;go_enter func62,ntmps62;go_wp2_with fail;refine HW.out.mono ?_
 rintro e w1 ⟨rfl,hd1⟩
 have HX:=Qa hd1;clear hd1;go_wp2;go_ret;exact⟨rfl,HX.out⟩
theorem Se0 (lo S D:Nat)(st:Da)(F:Nat->Prop)(w:World)(h:Rf lo S D st w F)(hw:0<=st.syncs)(hw2:st.syncs<9223372036854775807):Calls prog 63 #[pointer (some ⟨S,0,none⟩)] w λe w'=>e=.returned (int i64 (Qc st))/\mo lo S D (Cb st) F w w':=by
 obtain⟨E,pv,hb,hd,h1,h2,h3,h4,rfl⟩:=h;have c0:w.cell? ⟨S,0,none⟩=some (pointer (some ⟨D,0,none⟩)):=Qh hb rfl
 have HW:Hid (Calls prog 105 #[pointer (some ⟨D,0,none⟩)] w λe w'=>e=.returned (int i64 (Qc st))/\mo lo S D (Cb st) (λk=>k=S\/uh D E pv k) w w'):=by
  by_cases ht:st.trouble=1
  ·rw[show Qc st=5 by rw[Qc,if_pos ht],show Cb st={st with trouble:=Ve st.trouble} by rw[Cb,if_pos ht]];refine(TT lo D E pv st w hd ht).mono ?_
   rintro e w' ⟨rfl,a,b⟩
   exact⟨rfl,Ut hb a (Ju b) (λk e=>.inl e) h1 h2 h3 h4⟩
  ·rw[show Qc st=0 by rw[Qc,if_neg ht],show Cb st={st with trouble:=Ve st.trouble,dur:=Hm st st.pend.length,pend:=[],syncs:=st.syncs+1} by rw[Cb,if_neg ht]];refine(UT lo D E pv st w hd ht hw hw2).mono ?_
   rintro e w' ⟨rfl,a,b⟩
   exact⟨rfl,Ut hb a b (λk e=>by simp[Value.ownBlock]at e) h1 h2 h3 h4⟩
 clear hb hd h1 h2 h3 h4;generalize Qc st=z at*;go_enter func63,ntmps63;go_wp2_with fail;refine HW.out.mono ?_
 rintro e w1 ⟨rfl,hd1⟩
 have HX:=Qa hd1;clear hd1;go_wp2;go_ret;exact⟨rfl,HX.out⟩
theorem ff0 (lo S D:Nat)(st:Da)(F:Nat->Prop)(k:Int)(w:World)(h:Rf lo S D st w F)(hk:k<=9223372036854775807):Calls prog 70 #[pointer (some ⟨S,0,none⟩),int i64 k] w λe w'=>e=.returned (int i64 (if k<0 then 2 else 0))/\mo lo S D (if k<0 then st else{st with trouble:=k}) F w w':=by
 obtain⟨E,pv,hb,hd,h1,h2,h3,h4,rfl⟩:=h;have c0:w.cell? ⟨S,0,none⟩=some (pointer (some ⟨D,0,none⟩)):=Qh hb rfl;have HW:=Qa (Gf0 lo D E pv st k w hd hk);generalize(if k<0 then st else{st with trouble:=k})=st' at*;have Vn:Hid (∀w',Ta lo D E pv st' w'/\za (λk=>k=D) w w'->mo lo S D st' (λk=>k=S\/uh D E pv k) w w'):=λw' h=>Ut hb h.1 (Ju h.2) (λk e=>.inl e) h1 h2 h3 h4;clear hb hd h1 h2 h3 h4 hk;generalize(if k<0 then(2:Int)else 0)=z at*;go_enter func70,ntmps70;go_wp2_with fail;refine HW.out.mono ?_
 rintro e w1 ⟨rfl,hd1⟩
 have HX:=Qa (Vn.out _ hd1);clear hd1;go_wp2;go_ret;exact⟨rfl,HX.out⟩
theorem VS (lo S D:Nat)(st:Da)(F:Nat->Prop)(kv:Value)(K:List Bool)(w:World)(h:Rf lo S D st w F)(hK:Qx w kv K)(Lu:K.length<=maxLen)(Gr:∀b o l c,kv=slice (some ⟨b,o,none⟩) l c->0<l->b<w.heap.size/\¬F b)(hw:0<=st.term)(hw2:st.term<9223372036854775807):Calls prog 60 #[pointer (some ⟨S,0,none⟩),kv] w λe w'=>e=.returned (.tuple #[])/\mo lo S D (yn st K) F w w':=by
 obtain⟨E,pv,hb,hd,h1,h2,h3,h4,rfl⟩:=h;have c0:w.cell? ⟨S,0,none⟩=some (pointer (some ⟨D,0,none⟩)):=Qh hb rfl;have HW:=Qa (jY lo D E pv st kv K w hd hK Lu (λb o l c e h0=>⟨(Gr b o l c e h0).1,λhf=>(Gr b o l c e h0).2 (.inr hf)⟩) hw hw2);have Vn:Hid (∀w',Ta lo D E (slice none 0 0) (yn st K) w'/\za (uh D E pv) w w'->mo lo S D (yn st K) (λk=>k=S\/uh D E pv k) w w'):=λw' h=>Ut hb h.1 h.2 (λk e=>by simp[Value.ownBlock]at e) h1 h2 h3 h4;obtain⟨ka,kc,Jn⟩:=hK.len;subst Jn;clear hb hd h1 h2 h3 h4 hK Gr;unfold maxLen at Lu;go_enter func60,ntmps60;go_wp2_with fail;refine HW.out.mono ?_
 rintro e w1 ⟨rfl,hd1⟩
 have HX:=Qa (Vn.out _ hd1);clear hd1;go_wp2;go_end0;exact⟨rfl,HX.out⟩
theorem Hd0 (lo S D:Nat)(st:Da)(F:Nat->Prop)(w:World)(h:Rf lo S D st w F):Calls prog 69 #[pointer (some ⟨S,0,none⟩)] w λe w'=>e=.returned (.agg #[int i64 st.writes,int i64 st.syncs,int i64 st.pend.length])/\Below w.heap.size w w':=by
 obtain⟨E,pv,hb,hd,h1,h2,h3,h4,rfl⟩:=h;have c0:w.cell? ⟨S,0,none⟩=some (pointer (some ⟨D,0,none⟩)):=Qh hb rfl;have hS:S<w.heap.size:=(Array.getElem?_eq_some_iff.1 hb).1;have HW:=Qa (λ(V:World) (hV:Below w.heap.size w V)=>pY lo D E pv st V (hd.below hV));clear hb hd h1 h2 h3 h4;generalize st.writes=a at*;generalize st.syncs=b at*;generalize st.pend.length=c at*;go_enter func69,ntmps69;go_wp2_with fail;refine(HW.out _ (Va _)).mono ?_
 rintro e w1 ⟨rfl,hb1⟩
 have B1:=Qa (((Below.refl w.heap.size w).alloc Aa _).trans (hb1.mono (by simp)));have e0:w1.cell? ⟨w.heap.size,0,none⟩=some (int i64 0):=(hb1.cell (p:=⟨w.heap.size,0,none⟩) (by simp)).trans (by simp[go_sem]);have e1:w1.cell? ⟨w.heap.size,1,none⟩=some (int i64 0):=(hb1.cell (p:=⟨w.heap.size,1,none⟩) (by simp)).trans (by simp[go_sem]);have e2:w1.cell? ⟨w.heap.size,2,none⟩=some (int i64 0):=(hb1.cell (p:=⟨w.heap.size,2,none⟩) (by simp)).trans (by simp[go_sem]);have ef:∀i,w1.frozen? ⟨w.heap.size,i,none⟩=false:=λi=>(hb1.frozen (p:=⟨w.heap.size,i,none⟩) (by simp)).trans (by simp[go_sem]);clear hb1 hS;go_wp2;refine bodyPost_ret (v:=.agg #[int i64 a,int i64 b,int i64 c]) (by simp[results,results69,go_sem,e0,e1,e2]) rfl ⟨rfl,?_⟩;iterate 3 refine Below.setCell ?_ (by simp) _
 exact B1.out
theorem Mc {w w':World}{X:Nat->Prop}{b:Nat}{vs:List Value}{T:TypeId}(h:ma w b vs T)(hk:za X w w')(hn:¬X b):ma w' b vs T:=by
 unfold ma;rw[hk.block b h.lt hn];exact h
theorem Yp (w:World)(o:Obj)(vs:List Value)(T:TypeId):ma ((w.alloc o).alloc (.cells vs.toArray T)) (w.heap.size+1) vs T:=by
 have:=ma.new (w.alloc o) vs T;rw[World.size_alloc]at this;exact this
theorem Jr (x:Int)(w:World):Calls prog 38 #[int i64 x] w λe w'=>e=.returned (int i64 x)/\w'=w:=by
 go_enter func38,ntmps38;go_wp2;go_ret;exact⟨rfl,rfl⟩
theorem Tf0 (X R:Nat)(on a b:Int)(s t u:ByteArray)(l1:Option Addr)(l2 l3:Nat)(ka:Option Addr)(kn kc:Nat)(c0 c1 c2 c3 c4:Int)(d0 d1 d2:ByteArray)(p0 p1 p2 p3:Int)(y:ByteArray)(c:Int)(Z:Nat->Prop)(Q1 Q2:World->Prop)(w:World)(Qf:∀q,Z q->q<w.heap.size)
  (hX:∀V,Below w.heap.size w V->Calls prog 61 #[pointer (some ⟨X,0,none⟩),int i64 a] V λe w'=>e=.returned (.tuple #[string y,int i64 c])/\za Z V w'/\Q1 w')
  (hR:∀V,Q1 V->Calls prog 141 #[pointer (some ⟨R,0,none⟩),int i64 a] V λe w'=>e=.returned (.tuple #[string y,int i64 c])/\za Z V w'/\Q2 w'):Calls prog 78 #[.agg #[pointer (some ⟨X,0,none⟩),pointer (some ⟨R,0,none⟩)],.agg #[int i64 31,int i64 on,int i64 a,int i64 b,string s,string t,string u,slice l1 l2 l3,slice ka kn kc,int i64 c0,int i64 c1,int i64 c2,int i64 c3,int i64 c4,string d0,string d1,string d2,int i64 p0,int i64 p1,int i64 p2,int i64 p3]] w λe w'=>e=.returned (.bool true)/\Q2 w':=by
 have HX:=aa hX;have HR:=aa hR;have Re:=aa Qf;obtain⟨W0,hW⟩:=Ca ((w.alloc (.cells #[pointer (some ⟨X,0,none⟩),pointer (some ⟨R,0,none⟩)] 152)).alloc (.cells #[int i64 31,int i64 on,int i64 a,int i64 b,string s,string t,string u,slice l1 l2 l3,slice ka kn kc,int i64 c0,int i64 c1,int i64 c2,int i64 c3,int i64 c4,string d0,string d1,string d2,int i64 p0,int i64 p1,int i64 p2,int i64 p3] 93));have HB:=Gc hW;have Df:=aa (show ma W0 w.heap.size [pointer (some ⟨X,0,none⟩),pointer (some ⟨R,0,none⟩)] 152 by rw[<-hW];exact(ma.new w _ _).alloc _);have Nb:=aa (show ma W0 (w.heap.size+1) [int i64 31,int i64 on,int i64 a,int i64 b,string s,string t,string u,slice l1 l2 l3,slice ka kn kc,int i64 c0,int i64 c1,int i64 c2,int i64 c3,int i64 c4,string d0,string d1,string d2,int i64 p0,int i64 p1,int i64 p2,int i64 p3] 93 by rw[<-hW];exact Yp w _ _ _);have Ea:=aa hW;have ec:(c==c)=true:=by simp
 have ey:(y.toList==y.toList)=true:=by simp
 have Uh:=Fa Df.out;have yf:=Fa Nb.out;have mh:=Ha Nb.out;clear hW hX hR Qf;go_enter func78,ntmps78;go_wp2_with fail;rw[Ea.out];refine(HX.out _ HB.out).mono ?_
 rintro e w1 ⟨rfl,hk1,hq1⟩
 have Jd:=aa (Mc Df.out hk1 (λe=>by have:=Re.out _ e;omega));have Xe:=aa (Mc Nb.out hk1 (λe=>by have:=Re.out _ e;omega));have Ef:=aa hq1;clear hk1 hq1 Uh yf mh;have Vh:=Ja Jd.out;have mh:=Ha Xe.out;go_wp2_with fail;refine(HR.out _ Ef.out).mono ?_
 rintro e w2 ⟨rfl,hk2,hq2⟩
 have Sc:=aa hq2;clear hk2 hq2 Vh mh;go_wp2_with fail;refine(Jr c _).mono ?_
 rintro e w3 ⟨rfl,hw3⟩
 subst w3;go_wp2;go_ret;exact⟨by simp,Sc.out⟩
theorem Wf0 (X R:Nat)(on a b:Int)(s t u:ByteArray)(l1:Option Addr)(l2 l3:Nat)(ka:Option Addr)(kn kc:Nat)(c0 c1 c2 c3 c4:Int)(d0 d1 d2:ByteArray)(p0 p1 p2 p3:Int)(c:Int)(Z:Nat->Prop)(Q1 Q2:World->Prop)(w:World)(Qf:∀q,Z q->q<w.heap.size)
  (hX:∀V,Below w.heap.size w V->Calls prog 62 #[pointer (some ⟨X,0,none⟩),int i64 a,string s] V λe w'=>e=.returned (int i64 c)/\za Z V w'/\Q1 w')
  (hR:∀V,Q1 V->Calls prog 142 #[pointer (some ⟨R,0,none⟩),int i64 a,string s] V λe w'=>e=.returned (int i64 c)/\za Z V w'/\Q2 w'):Calls prog 78 #[.agg #[pointer (some ⟨X,0,none⟩),pointer (some ⟨R,0,none⟩)],.agg #[int i64 32,int i64 on,int i64 a,int i64 b,string s,string t,string u,slice l1 l2 l3,slice ka kn kc,int i64 c0,int i64 c1,int i64 c2,int i64 c3,int i64 c4,string d0,string d1,string d2,int i64 p0,int i64 p1,int i64 p2,int i64 p3]] w λe w'=>e=.returned (.bool true)/\Q2 w':=by
 have HX:=aa hX;have HR:=aa hR;have Re:=aa Qf;obtain⟨W0,hW⟩:=Ca ((w.alloc (.cells #[pointer (some ⟨X,0,none⟩),pointer (some ⟨R,0,none⟩)] 152)).alloc (.cells #[int i64 32,int i64 on,int i64 a,int i64 b,string s,string t,string u,slice l1 l2 l3,slice ka kn kc,int i64 c0,int i64 c1,int i64 c2,int i64 c3,int i64 c4,string d0,string d1,string d2,int i64 p0,int i64 p1,int i64 p2,int i64 p3] 93));have HB:=Gc hW;have Df:=aa (show ma W0 w.heap.size [pointer (some ⟨X,0,none⟩),pointer (some ⟨R,0,none⟩)] 152 by rw[<-hW];exact(ma.new w _ _).alloc _);have Nb:=aa (show ma W0 (w.heap.size+1) [int i64 32,int i64 on,int i64 a,int i64 b,string s,string t,string u,slice l1 l2 l3,slice ka kn kc,int i64 c0,int i64 c1,int i64 c2,int i64 c3,int i64 c4,string d0,string d1,string d2,int i64 p0,int i64 p1,int i64 p2,int i64 p3] 93 by rw[<-hW];exact Yp w _ _ _);have Ea:=aa hW;have ec:(c==c)=true:=by simp
 have Uh:=Fa Df.out;have yf:=Fa Nb.out;have mh:=Ha Nb.out;have oc4:=Ya Nb.out;clear hW hX hR Qf;go_enter func78,ntmps78;go_wp2_with fail;rw[Ea.out];refine(HX.out _ HB.out).mono ?_
 rintro e w1 ⟨rfl,hk1,hq1⟩
 have Jd:=aa (Mc Df.out hk1 (λe=>by have:=Re.out _ e;omega));have Xe:=aa (Mc Nb.out hk1 (λe=>by have:=Re.out _ e;omega));have Ef:=aa hq1;clear hk1 hq1 Uh yf mh oc4;have Vh:=Ja Jd.out;have mh:=Ha Xe.out;have oc4:=Ya Xe.out;go_wp2_with fail;refine(HR.out _ Ef.out).mono ?_
 rintro e w2 ⟨rfl,hk2,hq2⟩
 have Sc:=aa hq2;clear hk2 hq2 Vh mh oc4;go_wp2_with fail;refine(Jr c _).mono ?_
 rintro e w3 ⟨rfl,hw3⟩
 subst w3;go_wp2;go_ret;exact⟨by simp,Sc.out⟩
theorem Uf0 (X R:Nat)(on a b:Int)(s t u:ByteArray)(l1:Option Addr)(l2 l3:Nat)(ka:Option Addr)(kn kc:Nat)(c0 c1 c2 c3 c4:Int)(d0 d1 d2:ByteArray)(p0 p1 p2 p3:Int)(c:Int)(Z:Nat->Prop)(Q1 Q2:World->Prop)(w:World)(Qf:∀q,Z q->q<w.heap.size)
  (hX:∀V,Below w.heap.size w V->Calls prog 63 #[pointer (some ⟨X,0,none⟩)] V λe w'=>e=.returned (int i64 c)/\za Z V w'/\Q1 w')
  (hR:∀V,Q1 V->Calls prog 143 #[pointer (some ⟨R,0,none⟩)] V λe w'=>e=.returned (int i64 c)/\za Z V w'/\Q2 w'):Calls prog 78 #[.agg #[pointer (some ⟨X,0,none⟩),pointer (some ⟨R,0,none⟩)],.agg #[int i64 33,int i64 on,int i64 a,int i64 b,string s,string t,string u,slice l1 l2 l3,slice ka kn kc,int i64 c0,int i64 c1,int i64 c2,int i64 c3,int i64 c4,string d0,string d1,string d2,int i64 p0,int i64 p1,int i64 p2,int i64 p3]] w λe w'=>e=.returned (.bool true)/\Q2 w':=by
 have HX:=aa hX;have HR:=aa hR;have Re:=aa Qf;obtain⟨W0,hW⟩:=Ca ((w.alloc (.cells #[pointer (some ⟨X,0,none⟩),pointer (some ⟨R,0,none⟩)] 152)).alloc (.cells #[int i64 33,int i64 on,int i64 a,int i64 b,string s,string t,string u,slice l1 l2 l3,slice ka kn kc,int i64 c0,int i64 c1,int i64 c2,int i64 c3,int i64 c4,string d0,string d1,string d2,int i64 p0,int i64 p1,int i64 p2,int i64 p3] 93));have HB:=Gc hW;have Df:=aa (show ma W0 w.heap.size [pointer (some ⟨X,0,none⟩),pointer (some ⟨R,0,none⟩)] 152 by rw[<-hW];exact(ma.new w _ _).alloc _);have Nb:=aa (show ma W0 (w.heap.size+1) [int i64 33,int i64 on,int i64 a,int i64 b,string s,string t,string u,slice l1 l2 l3,slice ka kn kc,int i64 c0,int i64 c1,int i64 c2,int i64 c3,int i64 c4,string d0,string d1,string d2,int i64 p0,int i64 p1,int i64 p2,int i64 p3] 93 by rw[<-hW];exact Yp w _ _ _);have Ea:=aa hW;have ec:(c==c)=true:=by simp
 have Uh:=Fa Df.out;have yf:=Fa Nb.out;clear hW hX hR Qf;go_enter func78,ntmps78;go_wp2_with fail;rw[Ea.out];refine(HX.out _ HB.out).mono ?_
 rintro e w1 ⟨rfl,hk1,hq1⟩
 have Jd:=aa (Mc Df.out hk1 (λe=>by have:=Re.out _ e;omega));have Xe:=aa (Mc Nb.out hk1 (λe=>by have:=Re.out _ e;omega));have Ef:=aa hq1;clear hk1 hq1 Uh yf;have Vh:=Ja Jd.out;go_wp2_with fail;refine(HR.out _ Ef.out).mono ?_
 rintro e w2 ⟨rfl,hk2,hq2⟩
 have Sc:=aa hq2;clear hk2 hq2 Vh;go_wp2_with fail;refine(Jr c _).mono ?_
 rintro e w3 ⟨rfl,hw3⟩
 subst w3;go_wp2;go_ret;exact⟨by simp,Sc.out⟩
theorem Vf0 (X R:Nat)(on a b:Int)(s t u:ByteArray)(l1:Option Addr)(l2 l3:Nat)(ka:Option Addr)(kn kc:Nat)(c0 c1 c2 c3 c4:Int)(d0 d1 d2:ByteArray)(p0 p1 p2 p3:Int)(c:Int)(Z:Nat->Prop)(Q1 Q2:World->Prop)(w:World)(Qf:∀q,Z q->q<w.heap.size)
  (hX:∀V,Below w.heap.size w V->Calls prog 70 #[pointer (some ⟨X,0,none⟩),int i64 a] V λe w'=>e=.returned (int i64 c)/\za Z V w'/\Q1 w')
  (hR:∀V,Q1 V->Calls prog 144 #[pointer (some ⟨R,0,none⟩),int i64 a] V λe w'=>e=.returned (int i64 c)/\za Z V w'/\Q2 w'):Calls prog 78 #[.agg #[pointer (some ⟨X,0,none⟩),pointer (some ⟨R,0,none⟩)],.agg #[int i64 34,int i64 on,int i64 a,int i64 b,string s,string t,string u,slice l1 l2 l3,slice ka kn kc,int i64 c0,int i64 c1,int i64 c2,int i64 c3,int i64 c4,string d0,string d1,string d2,int i64 p0,int i64 p1,int i64 p2,int i64 p3]] w λe w'=>e=.returned (.bool true)/\Q2 w':=by
 have HX:=aa hX;have HR:=aa hR;have Re:=aa Qf;obtain⟨W0,hW⟩:=Ca ((w.alloc (.cells #[pointer (some ⟨X,0,none⟩),pointer (some ⟨R,0,none⟩)] 152)).alloc (.cells #[int i64 34,int i64 on,int i64 a,int i64 b,string s,string t,string u,slice l1 l2 l3,slice ka kn kc,int i64 c0,int i64 c1,int i64 c2,int i64 c3,int i64 c4,string d0,string d1,string d2,int i64 p0,int i64 p1,int i64 p2,int i64 p3] 93));have HB:=Gc hW;have Df:=aa (show ma W0 w.heap.size [pointer (some ⟨X,0,none⟩),pointer (some ⟨R,0,none⟩)] 152 by rw[<-hW];exact(ma.new w _ _).alloc _);have Nb:=aa (show ma W0 (w.heap.size+1) [int i64 34,int i64 on,int i64 a,int i64 b,string s,string t,string u,slice l1 l2 l3,slice ka kn kc,int i64 c0,int i64 c1,int i64 c2,int i64 c3,int i64 c4,string d0,string d1,string d2,int i64 p0,int i64 p1,int i64 p2,int i64 p3] 93 by rw[<-hW];exact Yp w _ _ _);have Ea:=aa hW;have ec:(c==c)=true:=by simp
 have Uh:=Fa Df.out;have yf:=Fa Nb.out;have mh:=Ha Nb.out;clear hW hX hR Qf;go_enter func78,ntmps78;go_wp2_with fail;rw[Ea.out];refine(HX.out _ HB.out).mono ?_
 rintro e w1 ⟨rfl,hk1,hq1⟩
 have Jd:=aa (Mc Df.out hk1 (λe=>by have:=Re.out _ e;omega));have Xe:=aa (Mc Nb.out hk1 (λe=>by have:=Re.out _ e;omega));have Ef:=aa hq1;clear hk1 hq1 Uh yf mh;have Vh:=Ja Jd.out;have mh:=Ha Xe.out;go_wp2_with fail;refine(HR.out _ Ef.out).mono ?_
 rintro e w2 ⟨rfl,hk2,hq2⟩
 have Sc:=aa hq2;clear hk2 hq2 Vh mh;go_wp2_with fail;refine(Jr c _).mono ?_
 rintro e w3 ⟨rfl,hw3⟩
 subst w3;go_wp2;go_ret;exact⟨by simp,Sc.out⟩
theorem gU (X R:Nat)(on a b:Int)(s t u:ByteArray)(l1:Option Addr)(l2 l3:Nat)(ka:Option Addr)(kn kc:Nat)(c0 c1 c2 c3 c4:Int)(d0 d1 d2:ByteArray)(p0 p1 p2 p3:Int)(lv:Value)(Q0 Q3:World->Prop)(Z:Nat->Prop)(Q1 Q2:World->Prop)(w:World)(Qf:∀q,Z q->q<w.heap.size)
  (hL:∀V,Below w.heap.size w V->V.heap.size=w.heap.size+2->Calls prog 145 #[slice ka kn kc] V λe w'=>e=.returned lv/\Below V.heap.size V w'/\Q0 w')
  (hX:∀V,Q0 V->Calls prog 60 #[pointer (some ⟨X,0,none⟩),lv] V λe w'=>e=.returned (.tuple #[])/\za Z V w'/\Q1 w')
  (hR:∀V,Q1 V->Calls prog 146 #[pointer (some ⟨R,0,none⟩),slice ka kn kc] V λe w'=>e=.returned (.tuple #[])/\za Z V w'/\Q2 w')
  (hE:∀V,Q2 V->Calls prog 147 #[lv,slice ka kn kc] V λe w'=>e=.returned (.bool true)/\Q3 w'):Calls prog 78 #[.agg #[pointer (some ⟨X,0,none⟩),pointer (some ⟨R,0,none⟩)],.agg #[int i64 35,int i64 on,int i64 a,int i64 b,string s,string t,string u,slice l1 l2 l3,slice ka kn kc,int i64 c0,int i64 c1,int i64 c2,int i64 c3,int i64 c4,string d0,string d1,string d2,int i64 p0,int i64 p1,int i64 p2,int i64 p3]] w λe w'=>e=.returned (.bool true)/\Q3 w':=by
 have HX:=aa hX;have HR:=aa hR;have Re:=aa Qf;obtain⟨W0,hW⟩:=Ca ((w.alloc (.cells #[pointer (some ⟨X,0,none⟩),pointer (some ⟨R,0,none⟩)] 152)).alloc (.cells #[int i64 35,int i64 on,int i64 a,int i64 b,string s,string t,string u,slice l1 l2 l3,slice ka kn kc,int i64 c0,int i64 c1,int i64 c2,int i64 c3,int i64 c4,string d0,string d1,string d2,int i64 p0,int i64 p1,int i64 p2,int i64 p3] 93));have HB:=Gc hW;have Df:=aa (show ma W0 w.heap.size [pointer (some ⟨X,0,none⟩),pointer (some ⟨R,0,none⟩)] 152 by rw[<-hW];exact(ma.new w _ _).alloc _);have Nb:=aa (show ma W0 (w.heap.size+1) [int i64 35,int i64 on,int i64 a,int i64 b,string s,string t,string u,slice l1 l2 l3,slice ka kn kc,int i64 c0,int i64 c1,int i64 c2,int i64 c3,int i64 c4,string d0,string d1,string d2,int i64 p0,int i64 p1,int i64 p2,int i64 p3] 93 by rw[<-hW];exact Yp w _ _ _);have Ea:=aa hW;have HL:=aa hL;have HE:=aa hE;have jo:=aa (show W0.heap.size=w.heap.size+2 by rw[<-hW];simp);have yf:=Fa Nb.out;have xC:=bn Nb.out;clear hW hX hR Qf hL hE;go_enter func78,ntmps78;go_wp2_with fail;rw[Ea.out];refine(HL.out _ HB.out jo.out).mono ?_
 rintro e w1 ⟨rfl,hb1,hq1⟩
 have Jd:=aa (Df.out.on hb1);have Xe:=aa (Nb.out.on hb1);have dA:=aa hq1;clear hb1 hq1 yf xC;have Uh:=Fa Jd.out;go_wp2_with fail;refine(HX.out _ dA.out).mono ?_
 rintro e w2 ⟨rfl,hk2,hq2⟩
 have Vk:=aa (Mc Jd.out hk2 (λe=>by have:=Re.out _ e;omega));have Lc:=aa (Mc Xe.out hk2 (λe=>by have:=Re.out _ e;omega));have Ef:=aa hq2;clear hk2 hq2 Uh;have Vh:=Ja Vk.out;have xC:=bn Lc.out;go_wp2_with fail;refine(HR.out _ Ef.out).mono ?_
 rintro e w3 ⟨rfl,hk3,hq3⟩
 have HP3:=aa (Mc Vk.out hk3 (λe=>by have:=Re.out _ e;omega));have jd:=aa (Mc Lc.out hk3 (λe=>by have:=Re.out _ e;omega));have Sc:=aa hq3;clear hk3 hq3 Vh xC;have xC:=bn jd.out;go_wp2_with fail;refine(HE.out _ Sc.out).mono ?_
 rintro e w4 ⟨rfl,hq4⟩
 have fA:=aa hq4;clear hq4 xC;go_wp2;go_ret;exact⟨rfl,fA.out⟩
theorem Rf0 (X R:Nat)(on a b:Int)(s t u:ByteArray)(l1:Option Addr)(l2 l3:Nat)(ka:Option Addr)(kn kc:Nat)(c0 c1 c2 c3 c4:Int)(d0 d1 d2:ByteArray)(p0 p1 p2 p3:Int)(n1 n2 n3:Int)(Z:Nat->Prop)(_Q1 _Q2:World->Prop)(w:World)(Qf:∀q,Z q->q<w.heap.size)
  (hX:∀V,Below w.heap.size w V->Calls prog 69 #[pointer (some ⟨X,0,none⟩)] V λe w'=>e=.returned (.agg #[int i64 n1,int i64 n2,int i64 n3])/\Below V.heap.size V w')
  (hR:∀V,Below w.heap.size w V->Calls prog 148 #[pointer (some ⟨R,0,none⟩)] V λe w'=>e=.returned (.agg #[int i64 n1,int i64 n2,int i64 n3])/\Below V.heap.size V w'):Calls prog 78 #[.agg #[pointer (some ⟨X,0,none⟩),pointer (some ⟨R,0,none⟩)],.agg #[int i64 36,int i64 on,int i64 a,int i64 b,string s,string t,string u,slice l1 l2 l3,slice ka kn kc,int i64 c0,int i64 c1,int i64 c2,int i64 c3,int i64 c4,string d0,string d1,string d2,int i64 p0,int i64 p1,int i64 p2,int i64 p3]] w λe w'=>e=.returned (.bool true)/\Below w.heap.size w w':=by
 have HX:=aa hX;have HR:=aa hR;have Re:=aa Qf;obtain⟨W0,hW⟩:=Ca ((w.alloc (.cells #[pointer (some ⟨X,0,none⟩),pointer (some ⟨R,0,none⟩)] 152)).alloc (.cells #[int i64 36,int i64 on,int i64 a,int i64 b,string s,string t,string u,slice l1 l2 l3,slice ka kn kc,int i64 c0,int i64 c1,int i64 c2,int i64 c3,int i64 c4,string d0,string d1,string d2,int i64 p0,int i64 p1,int i64 p2,int i64 p3] 93));have HB:=Gc hW;have Df:=aa (show ma W0 w.heap.size [pointer (some ⟨X,0,none⟩),pointer (some ⟨R,0,none⟩)] 152 by rw[<-hW];exact(ma.new w _ _).alloc _);have Nb:=aa (show ma W0 (w.heap.size+1) [int i64 36,int i64 on,int i64 a,int i64 b,string s,string t,string u,slice l1 l2 l3,slice ka kn kc,int i64 c0,int i64 c1,int i64 c2,int i64 c3,int i64 c4,string d0,string d1,string d2,int i64 p0,int i64 p1,int i64 p2,int i64 p3] 93 by rw[<-hW];exact Yp w _ _ _);have Ea:=aa hW;have Uh:=Fa Df.out;have yf:=Fa Nb.out;clear hW hX hR Qf;go_enter func78,ntmps78;go_wp2_with fail;rw[Ea.out];refine(HX.out _ HB.out).mono ?_
 rintro e w1 ⟨rfl,hb1⟩
 have HB1:=aa (HB.out.trans (hb1.mono HB.out.size));have Jd:=aa (Df.out.on hb1);obtain⟨W1,hW1⟩:=Ca (w1.alloc (.cells #[int i64 n1,int i64 n2,int i64 n3] 137));have Ud:=Xd hW1;have Lp:=Ph hW1;have HB2:=aa (HB1.out.trans (Ud.out.mono HB1.out.size));have Vk:=aa (Jd.out.on Ud.out);have nl:=Jd.out.lt;have Vh:∀o,(w1.alloc o).cell? ⟨w.heap.size,1,none⟩=some (pointer (some ⟨R,0,none⟩)):=λo=>(World.cell?_alloc_lt _ _ _ nl).trans (Jd.out.cell 1);have QH:=aa hW1;clear hb1 hW1 Uh yf nl;go_wp2_with fail;rw[QH.out];refine(HR.out _ HB2.out).mono ?_
 rintro e w2 ⟨rfl,hb2⟩
 have HB3:=aa (HB2.out.trans (hb2.mono HB2.out.size));have kg:=aa (Lp.out.on hb2);have n0:=kg.out.lt;have e0:∀o,(w2.alloc o).cell? ⟨w1.heap.size,0,none⟩=some (int i64 n1):=λo=>(World.cell?_alloc_lt _ _ _ n0).trans (kg.out.cell 0);have e1:∀o,(w2.alloc o).cell? ⟨w1.heap.size,1,none⟩=some (int i64 n2):=λo=>(World.cell?_alloc_lt _ _ _ n0).trans (kg.out.cell 1);have e2:∀o,(w2.alloc o).cell? ⟨w1.heap.size,2,none⟩=some (int i64 n3):=λo=>(World.cell?_alloc_lt _ _ _ n0).trans (kg.out.cell 2);clear hb2 Vh n0;go_wp2;go_ret;exact⟨by simp,HB3.out.alloc HB3.out.size _⟩
theorem Gd0 (k b x t l:Int)(seed:ByteArray)(p0 p1 p3:Int)(F:Nat)(g o c:Nat)(path:List ByteArray)(y:ByteArray)(w:World)(hcells:∀(j:Nat) z,path[j]?=some z->w.cell? ⟨g,o+j,none⟩=some (string z))(hg:g<w.heap.size)(hN:path.length<=64)(hF:F<=1000)
  (hk:k=1\/k=2)(h1:1<=b)(h2:b<=16)(hs:seed.size<=16)(hy:(y.size:Int)=b)(hxs:∀z∈path,(z.size:Int)=b)(hT:Tn w):Calls prog 286 #[.agg #[int i64 k,int i64 b,int i64 x,int i64 t,int i64 l,string seed,int i64 p0,int i64 p1,int i64 F,int i64 p3],string y,slice (some ⟨g,o,none⟩) path.length c] w λe w'=>e=.returned (string (Pg k b seed p0 p1 F path y path.length))/\Below w.heap.size w w':=by
 obtain⟨p2,hp2⟩:∃p2:Int,p2=(F:Int):=⟨_,rfl⟩;rw[<-hp2];obtain⟨W0,hW⟩:=Ca (w.alloc (.cells #[int i64 k,int i64 b,int i64 x,int i64 t,int i64 l,string seed,int i64 p0,int i64 p1,int i64 p2,int i64 p3] 344));have HF:=aa (show Xp w.heap.size W0 k b x t l seed p0 p1 p2 p3 by subst hW;refine⟨?_,?_,?_,?_,?_,?_,?_,?_,?_,?_⟩<;>simp[go_sem]);have HB:=Xd hW;have hz:W0.heap.size=w.heap.size+1:=by subst hW;simp
 have HT:=aa (hT.on HB.out)
 have HS:=aa (λ(V:World) (h:Below W0.heap.size W0 V)=>(by
  obtain⟨c0,c1,c2,c3,c4,c5,c6,c7,c8,c9⟩:=HF.out.below h (by omega);exact⟨c0,c1,c2,c3,c4,c5,c6,c7,c8,c9,h⟩:V.cell? ⟨w.heap.size,0,none⟩=some (int i64 k)/\V.cell? ⟨w.heap.size,1,none⟩=some (int i64 b)/\V.cell? ⟨w.heap.size,2,none⟩=some (int i64 x)/\V.cell? ⟨w.heap.size,3,none⟩=some (int i64 t)/\V.cell? ⟨w.heap.size,4,none⟩=some (int i64 l)/\V.cell? ⟨w.heap.size,5,none⟩=some (string seed)/\V.cell? ⟨w.heap.size,6,none⟩=some (int i64 p0)/\V.cell? ⟨w.heap.size,7,none⟩=some (int i64 p1)/\V.cell? ⟨w.heap.size,8,none⟩=some (int i64 p2)/\V.cell? ⟨w.heap.size,9,none⟩=some (int i64 p3)/\Below W0.heap.size W0 V))
 have Qb:=aa (λ(V:World) (hb:Below W0.heap.size W0 V) (j:Nat) (z:ByteArray) (hj:path[j]?=some z)=>(hb.cell (p:=⟨g,o+j,none⟩) (by show g<_;omega)).trans ((HB.out.cell (p:=⟨g,o+j,none⟩) hg).trans (hcells j z hj)));have ed:=aa (VN k b seed p0 p1 F path y hk h1 h2 hs hy hxs);have HJ:=aa (λ(h j:Int) (u z:ByteArray) (hu:u.size<=16) (hz:z.size<=16) (V:World) (hb:Below W0.heap.size W0 V)=>kT k b x t l seed p0 p1 p2 p3 h j u z V hk h1 h2 hs hu hz (HT.out.on hb));have dE:=aa hxs;have Vk:=aa hp2;clear hT hcells hxs hp2;obtain⟨c0,c1,c2,c3,c4,c5,c6,c7,c8,c9,_⟩:=HS.out W0 Vb;go_enter func286,ntmps286;go_wp2_with fail;try rw[hW]
 clear hW c0 c1 c2 c3 c4 c5 c6 c7 c8 c9;go_loopw [1,7,17] (λu n i wr=>∃m:Nat,m<=path.length/\i=int i64 m/\n=int i64 ((F/2^m:Nat):Int)/\u=string (Pg k b seed p0 p1 F path y m)/\Hid (Below W0.heap.size W0 wr)) (λ_ _ i _=>path.length-(intOf i).toNat)
 case atStart=>exact⟨0,Nat.zero_le _,rfl,by rw[Vk.out];simp,rfl,Vb⟩
 case round=>
  obtain⟨m,hm,rfl,rfl,rfl,hb⟩:=hrel;by_cases hlt:m<path.length
  ·obtain⟨z,hz0⟩:∃z,path[m]?=some z:=⟨_,List.getElem?_eq_getElem hlt⟩;have cz:=Qb.out wr hb.out m z hz0;have hz:z.size<=16:=by have:=dE.out z (List.mem_of_getElem? hz0);omega
   have Yx:=aa (show path.getD m ⟨#[]⟩=z by rw[List.getD_eq_getElem?_getD,hz0];rfl);have HCM:=aa (ed.out m hm);have HST:Hid (Pg k b seed p0 p1 F path y (m+1)=if F/2^m% 2=0 then Kk k b seed p0 p1 (m+1:Nat) (F/2^(m+1):Nat) (Pg k b seed p0 p1 F path y m) (path.getD m ⟨#[]⟩)else Kk k b seed p0 p1 (m+1:Nat) (F/2^(m+1):Nat) (path.getD m ⟨#[]⟩) (Pg k b seed p0 p1 F path y m)):=rfl;rw[Yx.out]at HST;have hu:(Pg k b seed p0 p1 F path y m).size<=16:=by have:=HCM.out;omega
   have hq1:F/2^m<=1000:=Nat.le_trans (Nat.div_le_self _ _) hF;have HQ:Hid (F/2^m/2=F/2^(m+1)):=by show F/2^m/2=F/2^(m+1);rw[Nat.div_div_eq_div_mul,<-Nat.pow_succ]
   obtain⟨q2,Sc⟩:∃q2,Hid (F/2^m/2=q2):=⟨_,rfl⟩;have hq2:q2<=1000:=by have:=Sc.out;omega
   have hdv:Int.tdiv ((F/2^m:Nat):Int) 2=(q2:Int):=by rw[ZT,Sc.out]
   have hwq:IntKind.i64.wrap (q2:Int)=(q2:Int):=by rw[IntKind.wrap_i64];omega
   have HR2:Hid (F/2^(m+1)=q2):=HQ.out.symm.trans Sc.out;rw[HR2.out]at HST;obtain⟨d0,d1,d2,d3,d4,d5,d6,d7,d8,d9,_⟩:=HS.out wr hb.out;have TD:=aa (HJ.out ((m:Int)+1) (q2:Int));clear hz0 HQ Yx;by_cases hev:F/2^m% 2=0
   ·have hmo:Int.tmod ((F/2^m:Nat):Int) 2=0:=by rw[YK,hev];rfl
    have Js:=aa (TD.out (Pg k b seed p0 p1 F path y m) z hu hz wr hb.out)
    have HE:Hid (Pg k b seed p0 p1 F path y (m+1)=Kk k b seed p0 p1 ((m:Int)+1) (q2:Int) (Pg k b seed p0 p1 F path y m) z):=by
     show Pg k b seed p0 p1 F path y (m+1)=_;rw[HST.out,if_pos hev];rfl
    clear hev HST TD Sc HCM;generalize Pg k b seed p0 p1 F path y m=u at Js HE hu⊢;generalize F/2^m=q at hdv hmo hq1⊢;go_wp2_with fail;refine Js.out.mono ?_
    rintro e w1 ⟨rfl,hb1⟩
    have HB1:=aa (Ga hb.out hb1 Aa);clear hb1 d0 d1 d2 d3 d4 d5 d6 d7 d8 d9 cz hdv hmo hwq;go_wp2;go_roundw
    case rel=>
     have R:∃m':Nat,m'<=path.length/\int i64 ((m:Int)+1)=int i64 m'/\int i64 (q2:Int)=int i64 ((F/2^m':Nat):Int)/\string (Kk k b seed p0 p1 ((m:Int)+1) (q2:Int) u z)=string (Pg k b seed p0 p1 F path y m')/\Hid (Below W0.heap.size W0 w1):=⟨m+1,by omega,by go_num,by rw[HR2.out],by rw[HE.out],HB1.out⟩;first|exact R|((repeat apply Exists.intro);exact⟨R,rfl⟩)
    case measure=>simp[intOf];omega
   ·have hmo:Int.tmod ((F/2^m:Nat):Int) 2=1:=by rw[YK,show F/2^m% 2=1 by omega];rfl
    have Js:=aa (TD.out z (Pg k b seed p0 p1 F path y m) hz hu wr hb.out)
    have HE:Hid (Pg k b seed p0 p1 F path y (m+1)=Kk k b seed p0 p1 ((m:Int)+1) (q2:Int) z (Pg k b seed p0 p1 F path y m)):=by
     show Pg k b seed p0 p1 F path y (m+1)=_;rw[HST.out,if_neg hev];rfl
    clear hev HST TD Sc HCM;generalize Pg k b seed p0 p1 F path y m=u at Js HE hu⊢;generalize F/2^m=q at hdv hmo hq1⊢;go_wp2_with fail;refine Js.out.mono ?_
    rintro e w1 ⟨rfl,hb1⟩
    have HB1:=aa (Ga hb.out hb1 Aa);clear hb1 d0 d1 d2 d3 d4 d5 d6 d7 d8 d9 cz hdv hmo hwq;go_wp2;go_roundw
    case rel=>
     have R:∃m':Nat,m'<=path.length/\int i64 ((m:Int)+1)=int i64 m'/\int i64 (q2:Int)=int i64 ((F/2^m':Nat):Int)/\string (Kk k b seed p0 p1 ((m:Int)+1) (q2:Int) z u)=string (Pg k b seed p0 p1 F path y m')/\Hid (Below W0.heap.size W0 w1):=⟨m+1,by omega,by go_num,by rw[HR2.out],by rw[HE.out],HB1.out⟩;first|exact R|((repeat apply Exists.intro);exact⟨R,rfl⟩)
    case measure=>simp[intOf];omega
  ·obtain rfl:m=path.length:=by omega
   go_wp2;go_ret;exact⟨rfl,HB.out.trans (hb.out.mono (by omega))⟩
theorem J5 (k b x t l i a0 a1 a2 tot a4 a5:Int)(w:World)
  (hM:∀V:World,Calls prog 155 #[.agg #[int i64 k,int i64 b,int i64 x,int i64 t,int i64 l]] V λe w'=>e=.returned (.tuple #[.agg #[int i64 a0,int i64 a1,int i64 a2,int i64 tot,int i64 a4,int i64 a5],int i64 0])/\Below V.heap.size V w'):Calls prog 157 #[.agg #[int i64 k,int i64 b,int i64 x,int i64 t,int i64 l],int i64 i] w λe w'=>e=.returned (.bool (decide (0<=i/\i<tot)))/\Below w.heap.size w w':=by
 have HM:=aa (hM (w.alloc (.cells #[int i64 k,int i64 b,int i64 x,int i64 t,int i64 l] 26)));have HW:=aa (λV:World=>vz i tot V);clear hM;generalize decide (0<=i/\i<tot)=r at HW⊢;go_enter func157,ntmps157;go_wp2_with fail;refine HM.out.mono ?_
 rintro e w1 ⟨rfl,hb1⟩
 have HB1:=aa (((Below.refl w.heap.size w).alloc Aa _).trans (hb1.mono (by simp)));clear hb1 HM;go_wp2_with fail;refine(HW.out _).mono ?_
 rintro e w2 ⟨rfl,hw⟩
 obtain rfl:=hw.symm;clear hw;go_wp2;go_ret;exact⟨rfl,HB1.out.alloc HB1.out.size _⟩
theorem tc0 (k x t l p0 p1 p2 p3 h j:Int)(b:Nat)(pub y z:ByteArray)(w:World)(hk:k=1\/k=2)(h1:1<=b)(h2:b<=16)(hs:pub.size<=16)(hy:y.size<=16)(hz':z.size<=16)(q0:0<=p0/\p0<=100000)(q1:0<=p1/\p1<=100000)(q2:0<=h/\h<=100000)(q3:0<=j/\j<=100000):Calls prog 168 #[.agg #[int i64 k,int i64 b,int i64 x,int i64 t,int i64 l],string pub,.agg #[int i64 p0,int i64 p1,int i64 p2,int i64 p3],int i64 h,int i64 j,string y,string z] w λe w'=>e=.returned (string (Kk k b pub p0 p1 h j y z))/\Below w.heap.size w w':=by
 obtain⟨W0,hW⟩:=Ca ((w.alloc (.cells #[int i64 k,int i64 b,int i64 x,int i64 t,int i64 l] 26)).alloc (.cells #[int i64 p0,int i64 p1,int i64 p2,int i64 p3] 91));have HF:=aa (show Om w.heap.size W0 k b x t l by subst hW;refine⟨?_,?_,?_,?_,?_⟩<;>simp[go_sem]);have HP:=aa (show Zo (w.heap.size+1) W0 p0 p1 p2 p3 by subst hW;refine⟨?_,?_,?_,?_⟩<;>simp[go_sem]);have HB:=Gc hW;have hz:W0.heap.size=w.heap.size+2:=by subst hW;simp
 have HS:=aa (λ(V:World) (h:Below W0.heap.size W0 V)=>(by
  obtain⟨c0,c1,c2,c3,c4⟩:=HF.out.below h (by omega);obtain⟨d0,d1,d2,d3⟩:=HP.out.below h (by omega);exact⟨c0,c1,c2,c3,c4,d0,d1,d2,d3,h⟩:V.cell? ⟨w.heap.size,0,none⟩=some (int i64 k)/\V.cell? ⟨w.heap.size,1,none⟩=some (int i64 b)/\V.cell? ⟨w.heap.size,2,none⟩=some (int i64 x)/\V.cell? ⟨w.heap.size,3,none⟩=some (int i64 t)/\V.cell? ⟨w.heap.size,4,none⟩=some (int i64 l)/\V.cell? ⟨w.heap.size+1,0,none⟩=some (int i64 p0)/\V.cell? ⟨w.heap.size+1,1,none⟩=some (int i64 p1)/\V.cell? ⟨w.heap.size+1,2,none⟩=some (int i64 p2)/\V.cell? ⟨w.heap.size+1,3,none⟩=some (int i64 p3)/\Below W0.heap.size W0 V))
 have HT:=aa (λV:World=>gG p0 p1 p2 p3 V q0.1 q0.2 q1.1 q1.2);have kg:=aa (λV:World=>Ti 1 h V (by decide) q2.1 (by omega));have Il:=aa (λV:World=>Ti 1 j V (by decide) q3.1 (by omega));have HH:=aa (λV:World=>gz k x t l 4 b (pub++(qa 1 p0++qa 4 p1)++qa 1 h++qa 1 j++y++z) V hk h1 h2 (by simp only[ByteArray.size_append,Sa];omega) (by omega) (by omega));have Wj:=Sd pub (qa 1 p0++qa 4 p1) (by omega) (by simp only[ByteArray.size_append,Sa];omega);have Cj:=Sd (pub++(qa 1 p0++qa 4 p1)) (qa 1 h) (by simp only[ByteArray.size_append,Sa];omega) (by rw[Sa];omega);have il:=Sd (pub++(qa 1 p0++qa 4 p1)++qa 1 h) (qa 1 j) (by simp only[ByteArray.size_append,Sa];omega) (by rw[Sa];omega);have Yh:=Sd (pub++(qa 1 p0++qa 4 p1)++qa 1 h++qa 1 j) y (by simp only[ByteArray.size_append,Sa];omega) (by omega);have Nl:=Sd (pub++(qa 1 p0++qa 4 p1)++qa 1 h++qa 1 j++y) z (by simp only[ByteArray.size_append,Sa];omega) (by omega)
 have HE:Hid (hv k b (qa 1 4++(pub++(qa 1 p0++qa 4 p1)++qa 1 h++qa 1 j++y++z))=Kk k b pub p0 p1 h j y z):=by
  show hv k b (qa 1 4++(pub++(qa 1 p0++qa 4 p1)++qa 1 h++qa 1 j++y++z))=Kk k b pub p0 p1 h j y z;unfold Kk;simp only[mE]
 clear q0 q1 q2 q3;go_enter func168,ntmps168;go_wp2_with fail;try rw[hW]
 go_region_held3 (λV=>V.cell? ⟨w.heap.size,0,none⟩=some (int i64 k)/\V.cell? ⟨w.heap.size,1,none⟩=some (int i64 b)/\V.cell? ⟨w.heap.size,2,none⟩=some (int i64 x)/\V.cell? ⟨w.heap.size,3,none⟩=some (int i64 t)/\V.cell? ⟨w.heap.size,4,none⟩=some (int i64 l)/\V.cell? ⟨w.heap.size+1,0,none⟩=some (int i64 p0)/\V.cell? ⟨w.heap.size+1,1,none⟩=some (int i64 p1)/\V.cell? ⟨w.heap.size+1,2,none⟩=some (int i64 p2)/\V.cell? ⟨w.heap.size+1,3,none⟩=some (int i64 p3)/\Below W0.heap.size W0 V) (first|exact HS.out _ Bc|exact HS.out _ Uc|exact HS.out _ hS2|exact HS.out _ hS1|exact HS.out _ Vb.drew) (first|(go_at_call 167;refine(HT.out _).mono ?_;rintro e w1 ⟨rfl,hb1⟩;have hS1:=Ga (Below.refl W0.heap.size W0).drew hb1 Aa)|(go_at_call 87;have hx:=hS2;clear hx;refine(Il.out _).mono ?_;rintro e w3 ⟨rfl,hb3⟩;have Uc:=Ga hS2 hb3 Aa)|(go_at_call 87;refine(kg.out _).mono ?_;rintro e w2 ⟨rfl,hb2⟩;have hS2:=Ga hS1 hb2 Aa)|(go_at_call 90;refine(HH.out _).mono ?_;rintro e w4 ⟨rfl,hb4⟩;have Bc:=Ga Uc hb4 Aa));go_wp2;go_ret;exact⟨congrArg (λz=>Ending.returned (string z)) HE.out,HB.out.trans (Bc.mono (by omega))⟩
theorem PS (k x t l p0 p1 p2 p3:Int)(b:Nat)(sec rnd pub:ByteArray)(w:World)(hk:k=1\/k=2)(h1:1<=b)(h2:b<=16)(hs:sec.size<=16)(q0:0<=p0/\p0<=100000)(q1:0<=p1/\p1<=100000)(q2:0<=p2/\p2<=100000)(q3:0<=p3/\p3<=100000):Calls prog 259 #[.agg #[int i64 k,int i64 b,int i64 x,int i64 t,int i64 l],.agg #[string sec,string rnd,string pub],.agg #[int i64 p0,int i64 p1,int i64 p2,int i64 p3]] w λe w'=>e=.returned (string (si k b sec p0 p1 p2 p3))/\Below w.heap.size w w':=by
 obtain⟨W0,hW⟩:=Ca (((w.alloc (.cells #[int i64 k,int i64 b,int i64 x,int i64 t,int i64 l] 26)).alloc (.cells #[string sec,string rnd,string pub] 42)).alloc (.cells #[int i64 p0,int i64 p1,int i64 p2,int i64 p3] 91));have HF:=aa (show Om w.heap.size W0 k b x t l by subst hW;refine⟨?_,?_,?_,?_,?_⟩<;>simp[go_sem]);have HC:=aa (show W0.cell? ⟨w.heap.size+1,0,none⟩=some (string sec) by subst hW;simp[go_sem]);have HP:=aa (show Zo (w.heap.size+1+1) W0 p0 p1 p2 p3 by subst hW;refine⟨?_,?_,?_,?_⟩<;>simp[go_sem]);have HB:=Bu hW;have hz:W0.heap.size=w.heap.size+3:=by subst hW;simp
 have HS:=aa (λ(V:World) (h:Below W0.heap.size W0 V)=>(by
  obtain⟨c0,c1,c2,c3,c4⟩:=HF.out.below h (by omega);obtain⟨d0,d1,d2,d3⟩:=HP.out.below h (by omega);exact⟨c0,c1,c2,c3,c4,(h.cell (p:=⟨w.heap.size+1,0,none⟩) (by show w.heap.size+1<_;omega)).trans HC.out,d0,d1,d2,d3,h⟩:V.cell? ⟨w.heap.size,0,none⟩=some (int i64 k)/\V.cell? ⟨w.heap.size,1,none⟩=some (int i64 b)/\V.cell? ⟨w.heap.size,2,none⟩=some (int i64 x)/\V.cell? ⟨w.heap.size,3,none⟩=some (int i64 t)/\V.cell? ⟨w.heap.size,4,none⟩=some (int i64 l)/\V.cell? ⟨w.heap.size+1,0,none⟩=some (string sec)/\V.cell? ⟨w.heap.size+1+1,0,none⟩=some (int i64 p0)/\V.cell? ⟨w.heap.size+1+1,1,none⟩=some (int i64 p1)/\V.cell? ⟨w.heap.size+1+1,2,none⟩=some (int i64 p2)/\V.cell? ⟨w.heap.size+1+1,3,none⟩=some (int i64 p3)/\Below W0.heap.size W0 V))
 have HT:=aa (λV:World=>gG p0 p1 p2 p3 V q0.1 q0.2 q1.1 q1.2);have kg:=aa (λV:World=>Ti 1 p2 V (by decide) q2.1 (by omega));have Il:=aa (λV:World=>Ti 1 p3 V (by decide) q3.1 (by omega));have HH:=aa (λV:World=>gz k x t l 1 b (sec++(qa 1 p0++qa 4 p1)++qa 1 p2++qa 1 p3) V hk h1 h2 (by simp only[ByteArray.size_append,Sa];omega) (by omega) (by omega));have Wj:=Sd sec (qa 1 p0++qa 4 p1) (by omega) (by simp only[ByteArray.size_append,Sa];omega);have Cj:=Sd (sec++(qa 1 p0++qa 4 p1)) (qa 1 p2) (by simp only[ByteArray.size_append,Sa];omega) (by rw[Sa];omega);have il:=Sd (sec++(qa 1 p0++qa 4 p1)++qa 1 p2) (qa 1 p3) (by simp only[ByteArray.size_append,Sa];omega) (by rw[Sa];omega)
 have HE:Hid (hv k b (qa 1 1++(sec++(qa 1 p0++qa 4 p1)++qa 1 p2++qa 1 p3))=si k b sec p0 p1 p2 p3):=by
  show hv k b (qa 1 1++(sec++(qa 1 p0++qa 4 p1)++qa 1 p2++qa 1 p3))=si k b sec p0 p1 p2 p3;unfold si;simp only[mE]
 clear q0 q1 q2 q3;go_enter func259,ntmps259;go_wp2_with fail;try rw[hW]
 go_region_held3 (λV=>V.cell? ⟨w.heap.size,0,none⟩=some (int i64 k)/\V.cell? ⟨w.heap.size,1,none⟩=some (int i64 b)/\V.cell? ⟨w.heap.size,2,none⟩=some (int i64 x)/\V.cell? ⟨w.heap.size,3,none⟩=some (int i64 t)/\V.cell? ⟨w.heap.size,4,none⟩=some (int i64 l)/\V.cell? ⟨w.heap.size+1,0,none⟩=some (string sec)/\V.cell? ⟨w.heap.size+1+1,0,none⟩=some (int i64 p0)/\V.cell? ⟨w.heap.size+1+1,1,none⟩=some (int i64 p1)/\V.cell? ⟨w.heap.size+1+1,2,none⟩=some (int i64 p2)/\V.cell? ⟨w.heap.size+1+1,3,none⟩=some (int i64 p3)/\Below W0.heap.size W0 V) (first|exact HS.out _ Bc|exact HS.out _ Uc|exact HS.out _ hS2|exact HS.out _ hS1|exact HS.out _ Vb.drew) (first|(go_at_call 167;refine(HT.out _).mono ?_;rintro e w1 ⟨rfl,hb1⟩;have hS1:=Ga (Below.refl W0.heap.size W0).drew hb1 Aa)|(go_at_call 87;have hx:=hS2;clear hx;refine(Il.out _).mono ?_;rintro e w3 ⟨rfl,hb3⟩;have Uc:=Ga hS2 hb3 Aa)|(go_at_call 87;refine(kg.out _).mono ?_;rintro e w2 ⟨rfl,hb2⟩;have hS2:=Ga hS1 hb2 Aa)|(go_at_call 90;refine(HH.out _).mono ?_;rintro e w4 ⟨rfl,hb4⟩;have Bc:=Ga Uc hb4 Aa));go_wp2;go_ret;exact⟨congrArg (λz=>Ending.returned (string z)) HE.out,HB.out.trans (Bc.mono (by omega))⟩
theorem XR (k x t l p0 p1 p2 p3:Int)(b:Nat)(pub y:ByteArray)(f:Nat)(hk:k=1\/k=2)(h1:1<=b)(h2:b<=16)(hs:pub.size<=16)(hy:(y.size:Int)=b)(q0:0<=p0/\p0<=100000)(q1:0<=p1/\p1<=100000)(q2:0<=p2/\p2<=100000)(q3:0<=p3/\p3<=100000):∀(n:Nat) (_:f+n<=16) (w:World),Calls prog 94 #[.agg #[int i64 k,int i64 b,int i64 x,int i64 t,int i64 l],string pub,.agg #[int i64 p0,int i64 p1,int i64 p2,int i64 p3],int i64 f,int i64 (f+n:Nat),string y] w λe w'=>e=.returned (string (bg k b pub p0 p1 p2 p3 f n y))/\Below w.heap.size w w':=by
 intro n
 induction n with
 |zero=>
  intro _ w;go_enter func94,ntmps94;go_wp2;go_ret;exact⟨rfl,(Va _).alloc (by simp) _⟩
 |succ n ih=>
  intro hn w;have HI:=aa (λV:World=>ih (by omega) V);clear ih;obtain⟨W0,hW⟩:=Ca ((w.alloc (.cells #[int i64 k,int i64 b,int i64 x,int i64 t,int i64 l] 26)).alloc (.cells #[int i64 p0,int i64 p1,int i64 p2,int i64 p3] 91));have HF:=aa (show Om w.heap.size W0 k b x t l by subst hW;refine⟨?_,?_,?_,?_,?_⟩<;>simp[go_sem]);have HP:=aa (show Zo (w.heap.size+1) W0 p0 p1 p2 p3 by subst hW;refine⟨?_,?_,?_,?_⟩<;>simp[go_sem]);have HB:=Gc hW;have hz:W0.heap.size=w.heap.size+2:=by subst hW;simp
  have HS:=aa (λ(V:World) (h:Below W0.heap.size W0 V)=>(by
   obtain⟨c0,c1,c2,c3,c4⟩:=HF.out.below h (by omega);obtain⟨d0,d1,d2,d3⟩:=HP.out.below h (by omega);exact⟨c0,c1,c2,c3,c4,d0,d1,d2,d3,h⟩:V.cell? ⟨w.heap.size,0,none⟩=some (int i64 k)/\V.cell? ⟨w.heap.size,1,none⟩=some (int i64 b)/\V.cell? ⟨w.heap.size,2,none⟩=some (int i64 x)/\V.cell? ⟨w.heap.size,3,none⟩=some (int i64 t)/\V.cell? ⟨w.heap.size,4,none⟩=some (int i64 l)/\V.cell? ⟨w.heap.size+1,0,none⟩=some (int i64 p0)/\V.cell? ⟨w.heap.size+1,1,none⟩=some (int i64 p1)/\V.cell? ⟨w.heap.size+1,2,none⟩=some (int i64 p2)/\V.cell? ⟨w.heap.size+1,3,none⟩=some (int i64 p3)/\Below W0.heap.size W0 V))
  have ed:=aa (UA k b pub p0 p1 p2 p3 f n y hk (by omega) (by omega) hs hy);obtain⟨T,AZ⟩:∃T:Int,(f:Int)+((n:Int)+1)=T:=⟨_,rfl⟩;have hT1:1<=T:=by omega
  have Em:T<=16:=by omega
  have hTf:(f:Int)<T:=by omega
  have uw:=aa (show(f:Int)+(n:Int)=T-1 by omega);have HST:Hid (bg k b pub p0 p1 p2 p3 f (n+1) y=Jv k b pub p0 p1 p2 p3 (T-1) (bg k b pub p0 p1 p2 p3 f n y)):=by rw[<-uw.out];rfl
  rw[HST.out];generalize bg k b pub p0 p1 p2 p3 f n y=u at HI ed HST⊢;have hu:u.size<=16:=by have:=ed.out;omega
  have HT:=aa (λV:World=>gG p0 p1 p2 p3 V q0.1 q0.2 q1.1 q1.2);have kg:=aa (λV:World=>Ti 1 p2 V (by decide) q2.1 (by omega));have Il:=aa (λV:World=>Ti 1 p3 V (by decide) q3.1 (by omega));have Np:=aa (λV:World=>Ti 1 (T-1) V (by decide) (by omega) (by omega));have HH:=aa (λV:World=>gz k x t l 2 b (pub++(qa 1 p0++qa 4 p1)++qa 1 p2++qa 1 p3++qa 1 (T-1)++u) V hk h1 h2 (by simp only[ByteArray.size_append,Sa];omega) (by omega) (by omega));have Wj:=Sd pub (qa 1 p0++qa 4 p1) (by omega) (by simp only[ByteArray.size_append,Sa];omega);have Cj:=Sd (pub++(qa 1 p0++qa 4 p1)) (qa 1 p2) (by simp only[ByteArray.size_append,Sa];omega) (by rw[Sa];omega);have il:=Sd (pub++(qa 1 p0++qa 4 p1)++qa 1 p2) (qa 1 p3) (by simp only[ByteArray.size_append,Sa];omega) (by rw[Sa];omega);have Yh:=Sd (pub++(qa 1 p0++qa 4 p1)++qa 1 p2++qa 1 p3) (qa 1 (T-1)) (by simp only[ByteArray.size_append,Sa];omega) (by rw[Sa];omega);have Nl:=Sd (pub++(qa 1 p0++qa 4 p1)++qa 1 p2++qa 1 p3++qa 1 (T-1)) u (by simp only[ByteArray.size_append,Sa];omega) (by omega)
  have HE:Hid (hv k b (qa 1 2++(pub++(qa 1 p0++qa 4 p1)++qa 1 p2++qa 1 p3++qa 1 (T-1)++u))=Jv k b pub p0 p1 p2 p3 (T-1) u):=by
   show hv k b (qa 1 2++(pub++(qa 1 p0++qa 4 p1)++qa 1 p2++qa 1 p3++qa 1 (T-1)++u))=Jv k b pub p0 p1 p2 p3 (T-1) u;unfold Jv;simp only[mE]
  have hto:((f+(n+1):Nat):Int)=T:=by omega
  have nQ:((f+n:Nat):Int)=T-1:=by omega
  rw[nQ]at HI;rw[hto];clear AZ
  have hsub:IntKind.i64.wrap (T-1)=T-1:=by
   rw[IntKind.wrap_i64];omega
  clear q0 q1 q2 q3 hto nQ;obtain⟨e0,e1,e2,e3,e4,f0,f1,f2,f3,_⟩:=HS.out W0 Vb;go_enter func94,ntmps94;go_wp2_with fail;refine(HI.out _).mono ?_
  rintro e w0 ⟨rfl,hb0⟩
  have hS0:=Ga (Below.refl W0.heap.size W0) hb0 Aa;clear e0 e1 e2 e3 e4 f0 f1 f2 f3 hb0;go_wp2_with fail;go_region_held3 (λV=>V.cell? ⟨w.heap.size,0,none⟩=some (int i64 k)/\V.cell? ⟨w.heap.size,1,none⟩=some (int i64 b)/\V.cell? ⟨w.heap.size,2,none⟩=some (int i64 x)/\V.cell? ⟨w.heap.size,3,none⟩=some (int i64 t)/\V.cell? ⟨w.heap.size,4,none⟩=some (int i64 l)/\V.cell? ⟨w.heap.size+1,0,none⟩=some (int i64 p0)/\V.cell? ⟨w.heap.size+1,1,none⟩=some (int i64 p1)/\V.cell? ⟨w.heap.size+1,2,none⟩=some (int i64 p2)/\V.cell? ⟨w.heap.size+1,3,none⟩=some (int i64 p3)/\Below W0.heap.size W0 V) (first|exact HS.out _ hS5|exact HS.out _ Bc|exact HS.out _ Uc|exact HS.out _ hS2|exact HS.out _ hS1|exact HS.out _ hS0.drew) (first|(go_at_call 167;refine(HT.out _).mono ?_;rintro e w1 ⟨rfl,hb1⟩;have hS1:=Ga hS0.drew hb1 Aa)|(go_at_call 87;have hx:=Uc;clear hx;refine(Np.out _).mono ?_;rintro e w4 ⟨rfl,hb4⟩;have Bc:=Ga Uc hb4 Aa)|(go_at_call 87;have hx:=hS2;clear hx;refine(Il.out _).mono ?_;rintro e w3 ⟨rfl,hb3⟩;have Uc:=Ga hS2 hb3 Aa)|(go_at_call 87;refine(kg.out _).mono ?_;rintro e w2 ⟨rfl,hb2⟩;have hS2:=Ga hS1 hb2 Aa)|(go_at_call 90;refine(HH.out _).mono ?_;rintro e w5 ⟨rfl,hb5⟩;have hS5:=Ga Bc hb5 Aa));go_wp2;go_ret;exact⟨congrArg (λz=>Ending.returned (string z)) HE.out,HB.out.trans (hS5.mono (by omega))⟩
theorem fe0 (X R:Nat)(on a b:Int)(s t u:ByteArray)(l1:Option Addr)(l2 l3:Nat)(ka:Option Addr)(kn kc:Nat)(c0 c1 c2 c3 c4:Int)(d0 d1 d2:ByteArray)(p0 p1 p2 p3:Int)(y c:Int)(Z:Nat->Prop)(Q1 Q2:World->Prop)(w:World)(Qf:∀q,Z q->q<w.heap.size)
  (hX:∀V,Below w.heap.size w V->Calls prog 31 #[pointer (some ⟨X,0,none⟩),int i64 a] V λe w'=>e=.returned (.tuple #[int i64 y,int i64 c])/\za Z V w'/\Q1 w')
  (hR:∀V,Q1 V->Calls prog 153 #[pointer (some ⟨R,0,none⟩),int i64 a] V λe w'=>e=.returned (.tuple #[int i64 y,int i64 c])/\za Z V w'/\Q2 w'):Calls prog 80 #[.agg #[pointer (some ⟨X,0,none⟩),pointer (some ⟨R,0,none⟩)],.agg #[int i64 44,int i64 on,int i64 a,int i64 b,string s,string t,string u,slice l1 l2 l3,slice ka kn kc,int i64 c0,int i64 c1,int i64 c2,int i64 c3,int i64 c4,string d0,string d1,string d2,int i64 p0,int i64 p1,int i64 p2,int i64 p3]] w λe w'=>e=.returned (.bool true)/\Q2 w':=by
 have HX:=aa hX;have HR:=aa hR;have Re:=aa Qf;obtain⟨W0,hW⟩:=Ca ((w.alloc (.cells #[pointer (some ⟨X,0,none⟩),pointer (some ⟨R,0,none⟩)] 156)).alloc (.cells #[int i64 44,int i64 on,int i64 a,int i64 b,string s,string t,string u,slice l1 l2 l3,slice ka kn kc,int i64 c0,int i64 c1,int i64 c2,int i64 c3,int i64 c4,string d0,string d1,string d2,int i64 p0,int i64 p1,int i64 p2,int i64 p3] 93));have HB:=Gc hW;have Df:=aa (show ma W0 w.heap.size [pointer (some ⟨X,0,none⟩),pointer (some ⟨R,0,none⟩)] 156 by rw[<-hW];exact(ma.new w _ _).alloc _);have Nb:=aa (show ma W0 (w.heap.size+1) [int i64 44,int i64 on,int i64 a,int i64 b,string s,string t,string u,slice l1 l2 l3,slice ka kn kc,int i64 c0,int i64 c1,int i64 c2,int i64 c3,int i64 c4,string d0,string d1,string d2,int i64 p0,int i64 p1,int i64 p2,int i64 p3] 93 by rw[<-hW];exact Yp w _ _ _);have Ea:=aa hW;have ec:(c==c)=true:=by simp
 have ey:(y==y)=true:=by simp
 have Uh:=Fa Df.out;have yf:=Fa Nb.out;have mh:=Ha Nb.out;clear hW hX hR Qf;go_enter func80,ntmps80;go_wp2_with fail;rw[Ea.out];refine(HX.out _ HB.out).mono ?_
 rintro e w1 ⟨rfl,hk1,hq1⟩
 have Jd:=aa (Mc Df.out hk1 (λe=>by have:=Re.out _ e;omega));have Xe:=aa (Mc Nb.out hk1 (λe=>by have:=Re.out _ e;omega));have Ef:=aa hq1;clear hk1 hq1 Uh yf mh;have Vh:=Ja Jd.out;have mh:=Ha Xe.out;go_wp2_with fail;refine(HR.out _ Ef.out).mono ?_
 rintro e w2 ⟨rfl,hk2,hq2⟩
 have Sc:=aa hq2;clear hk2 hq2 Vh mh;go_wp2_with fail;refine(Jr c _).mono ?_
 rintro e w3 ⟨rfl,hw3⟩
 subst w3;go_wp2;go_ret;exact⟨by simp,Sc.out⟩
theorem ge0 (X R:Nat)(on a b:Int)(s t u:ByteArray)(l1:Option Addr)(l2 l3:Nat)(ka:Option Addr)(kn kc:Nat)(c0 c1 c2 c3 c4:Int)(d0 d1 d2:ByteArray)(p0 p1 p2 p3:Int)(y:ByteArray)(c:Int)(Z:Nat->Prop)(Q1 Q2:World->Prop)(w:World)(Qf:∀q,Z q->q<w.heap.size)
  (hX:∀V,Below w.heap.size w V->Calls prog 52 #[pointer (some ⟨X,0,none⟩),string s] V λe w'=>e=.returned (.tuple #[string y,int i64 c])/\za Z V w'/\Q1 w')
  (hR:∀V,Q1 V->Calls prog 154 #[pointer (some ⟨R,0,none⟩),string s] V λe w'=>e=.returned (.tuple #[string y,int i64 c])/\za Z V w'/\Q2 w'):Calls prog 80 #[.agg #[pointer (some ⟨X,0,none⟩),pointer (some ⟨R,0,none⟩)],.agg #[int i64 45,int i64 on,int i64 a,int i64 b,string s,string t,string u,slice l1 l2 l3,slice ka kn kc,int i64 c0,int i64 c1,int i64 c2,int i64 c3,int i64 c4,string d0,string d1,string d2,int i64 p0,int i64 p1,int i64 p2,int i64 p3]] w λe w'=>e=.returned (.bool true)/\Q2 w':=by
 have HX:=aa hX;have HR:=aa hR;have Re:=aa Qf;obtain⟨W0,hW⟩:=Ca ((w.alloc (.cells #[pointer (some ⟨X,0,none⟩),pointer (some ⟨R,0,none⟩)] 156)).alloc (.cells #[int i64 45,int i64 on,int i64 a,int i64 b,string s,string t,string u,slice l1 l2 l3,slice ka kn kc,int i64 c0,int i64 c1,int i64 c2,int i64 c3,int i64 c4,string d0,string d1,string d2,int i64 p0,int i64 p1,int i64 p2,int i64 p3] 93));have HB:=Gc hW;have Df:=aa (show ma W0 w.heap.size [pointer (some ⟨X,0,none⟩),pointer (some ⟨R,0,none⟩)] 156 by rw[<-hW];exact(ma.new w _ _).alloc _);have Nb:=aa (show ma W0 (w.heap.size+1) [int i64 45,int i64 on,int i64 a,int i64 b,string s,string t,string u,slice l1 l2 l3,slice ka kn kc,int i64 c0,int i64 c1,int i64 c2,int i64 c3,int i64 c4,string d0,string d1,string d2,int i64 p0,int i64 p1,int i64 p2,int i64 p3] 93 by rw[<-hW];exact Yp w _ _ _);have Ea:=aa hW;have ec:(c==c)=true:=by simp
 have ey:(y.toList==y.toList)=true:=by simp
 have Uh:=Fa Df.out;have yf:=Fa Nb.out;have oc4:=Ya Nb.out;clear hW hX hR Qf;go_enter func80,ntmps80;go_wp2_with fail;rw[Ea.out];refine(HX.out _ HB.out).mono ?_
 rintro e w1 ⟨rfl,hk1,hq1⟩
 have Jd:=aa (Mc Df.out hk1 (λe=>by have:=Re.out _ e;omega));have Xe:=aa (Mc Nb.out hk1 (λe=>by have:=Re.out _ e;omega));have Ef:=aa hq1;clear hk1 hq1 Uh yf oc4;have Vh:=Ja Jd.out;have oc4:=Ya Xe.out;go_wp2_with fail;refine(HR.out _ Ef.out).mono ?_
 rintro e w2 ⟨rfl,hk2,hq2⟩
 have Sc:=aa hq2;clear hk2 hq2 Vh oc4;go_wp2_with fail;refine(Jr c _).mono ?_
 rintro e w3 ⟨rfl,hw3⟩
 subst w3;go_wp2;go_ret;exact⟨by simp,Sc.out⟩
theorem ee0 (X R:Nat)(on a b:Int)(s t u:ByteArray)(l1:Option Addr)(l2 l3:Nat)(ka:Option Addr)(kn kc:Nat)(c0 c1 c2 c3 c4:Int)(d0 d1 d2:ByteArray)(p0 p1 p2 p3:Int)(y:ByteArray)(Z:Nat->Prop)(Q1 Q2:World->Prop)(w:World)(Qf:∀q,Z q->q<w.heap.size)
  (hX:∀V,Below w.heap.size w V->Calls prog 51 #[pointer (some ⟨X,0,none⟩)] V λe w'=>e=.returned (string y)/\za Z V w'/\Q1 w')
  (hR:∀V,Q1 V->Calls prog 151 #[pointer (some ⟨R,0,none⟩)] V λe w'=>e=.returned (string y)/\za Z V w'/\Q2 w'):Calls prog 80 #[.agg #[pointer (some ⟨X,0,none⟩),pointer (some ⟨R,0,none⟩)],.agg #[int i64 42,int i64 on,int i64 a,int i64 b,string s,string t,string u,slice l1 l2 l3,slice ka kn kc,int i64 c0,int i64 c1,int i64 c2,int i64 c3,int i64 c4,string d0,string d1,string d2,int i64 p0,int i64 p1,int i64 p2,int i64 p3]] w λe w'=>e=.returned (.bool true)/\Q2 w':=by
 have HX:=aa hX;have HR:=aa hR;have Re:=aa Qf;obtain⟨W0,hW⟩:=Ca ((w.alloc (.cells #[pointer (some ⟨X,0,none⟩),pointer (some ⟨R,0,none⟩)] 156)).alloc (.cells #[int i64 42,int i64 on,int i64 a,int i64 b,string s,string t,string u,slice l1 l2 l3,slice ka kn kc,int i64 c0,int i64 c1,int i64 c2,int i64 c3,int i64 c4,string d0,string d1,string d2,int i64 p0,int i64 p1,int i64 p2,int i64 p3] 93));have HB:=Gc hW;have Df:=aa (show ma W0 w.heap.size [pointer (some ⟨X,0,none⟩),pointer (some ⟨R,0,none⟩)] 156 by rw[<-hW];exact(ma.new w _ _).alloc _);have Nb:=aa (show ma W0 (w.heap.size+1) [int i64 42,int i64 on,int i64 a,int i64 b,string s,string t,string u,slice l1 l2 l3,slice ka kn kc,int i64 c0,int i64 c1,int i64 c2,int i64 c3,int i64 c4,string d0,string d1,string d2,int i64 p0,int i64 p1,int i64 p2,int i64 p3] 93 by rw[<-hW];exact Yp w _ _ _);have Ea:=aa hW;have ey:(y.toList==y.toList)=true:=by simp
 have Uh:=Fa Df.out;have yf:=Fa Nb.out;clear hW hX hR Qf;go_enter func80,ntmps80;go_wp2_with fail;rw[Ea.out];refine(HX.out _ HB.out).mono ?_
 rintro e w1 ⟨rfl,hk1,hq1⟩
 have Jd:=aa (Mc Df.out hk1 (λe=>by have:=Re.out _ e;omega));have Xe:=aa (Mc Nb.out hk1 (λe=>by have:=Re.out _ e;omega));have Ef:=aa hq1;clear hk1 hq1 Uh yf;have Vh:=Ja Jd.out;go_wp2_with fail;refine(HR.out _ Ef.out).mono ?_
 rintro e w2 ⟨rfl,hk2,hq2⟩
 have Sc:=aa hq2;clear hk2 hq2 Vh;go_wp2;go_ret;exact⟨by simp,Sc.out⟩
theorem ie0 (X R:Nat)(on a b:Int)(s t u:ByteArray)(l1:Option Addr)(l2 l3:Nat)(ka:Option Addr)(kn kc:Nat)(c0 c1 c2 c3 c4:Int)(d0 d1 d2:ByteArray)(p0 p1 p2 p3:Int)(n1 n2 n3:Int)(n4:Bool)(Z:Nat->Prop)(_Q1 _Q2:World->Prop)(w:World)(Qf:∀q,Z q->q<w.heap.size)
  (hX:∀V,Below w.heap.size w V->Calls prog 30 #[pointer (some ⟨X,0,none⟩)] V λe w'=>e=.returned (.agg #[int i64 n1,int i64 n2,int i64 n3,.bool n4])/\Below V.heap.size V w')
  (hR:∀V,Below w.heap.size w V->Calls prog 152 #[pointer (some ⟨R,0,none⟩)] V λe w'=>e=.returned (.agg #[int i64 n1,int i64 n2,int i64 n3,.bool n4])/\Below V.heap.size V w'):Calls prog 80 #[.agg #[pointer (some ⟨X,0,none⟩),pointer (some ⟨R,0,none⟩)],.agg #[int i64 43,int i64 on,int i64 a,int i64 b,string s,string t,string u,slice l1 l2 l3,slice ka kn kc,int i64 c0,int i64 c1,int i64 c2,int i64 c3,int i64 c4,string d0,string d1,string d2,int i64 p0,int i64 p1,int i64 p2,int i64 p3]] w λe w'=>e=.returned (.bool true)/\Below w.heap.size w w':=by
 have HX:=aa hX;have HR:=aa hR;have Re:=aa Qf;obtain⟨W0,hW⟩:=Ca ((w.alloc (.cells #[pointer (some ⟨X,0,none⟩),pointer (some ⟨R,0,none⟩)] 156)).alloc (.cells #[int i64 43,int i64 on,int i64 a,int i64 b,string s,string t,string u,slice l1 l2 l3,slice ka kn kc,int i64 c0,int i64 c1,int i64 c2,int i64 c3,int i64 c4,string d0,string d1,string d2,int i64 p0,int i64 p1,int i64 p2,int i64 p3] 93));have HB:=Gc hW;have Df:=aa (show ma W0 w.heap.size [pointer (some ⟨X,0,none⟩),pointer (some ⟨R,0,none⟩)] 156 by rw[<-hW];exact(ma.new w _ _).alloc _);have Nb:=aa (show ma W0 (w.heap.size+1) [int i64 43,int i64 on,int i64 a,int i64 b,string s,string t,string u,slice l1 l2 l3,slice ka kn kc,int i64 c0,int i64 c1,int i64 c2,int i64 c3,int i64 c4,string d0,string d1,string d2,int i64 p0,int i64 p1,int i64 p2,int i64 p3] 93 by rw[<-hW];exact Yp w _ _ _);have Ea:=aa hW;have Uh:=Fa Df.out;have yf:=Fa Nb.out;clear hW hX hR Qf;go_enter func80,ntmps80;go_wp2_with fail;rw[Ea.out];refine(HX.out _ HB.out).mono ?_
 rintro e w1 ⟨rfl,hb1⟩
 have HB1:=aa (HB.out.trans (hb1.mono HB.out.size));have Jd:=aa (Df.out.on hb1);obtain⟨W1,hW1⟩:=Ca (w1.alloc (.cells #[int i64 n1,int i64 n2,int i64 n3,.bool n4] 79));have Ud:=Xd hW1;have Lp:=Ph hW1;have HB2:=aa (HB1.out.trans (Ud.out.mono HB1.out.size));have Vk:=aa (Jd.out.on Ud.out);have nl:=Jd.out.lt;have Vh:∀o,(w1.alloc o).cell? ⟨w.heap.size,1,none⟩=some (pointer (some ⟨R,0,none⟩)):=λo=>(World.cell?_alloc_lt _ _ _ nl).trans (Jd.out.cell 1);have QH:=aa hW1;clear hb1 hW1 Uh yf nl;go_wp2_with fail;rw[QH.out];refine(HR.out _ HB2.out).mono ?_
 rintro e w2 ⟨rfl,hb2⟩
 have HB3:=aa (HB2.out.trans (hb2.mono HB2.out.size));have kg:=aa (Lp.out.on hb2);have n0:=kg.out.lt;have e0:∀o,(w2.alloc o).cell? ⟨w1.heap.size,0,none⟩=some (int i64 n1):=λo=>(World.cell?_alloc_lt _ _ _ n0).trans (kg.out.cell 0);have e1:∀o,(w2.alloc o).cell? ⟨w1.heap.size,1,none⟩=some (int i64 n2):=λo=>(World.cell?_alloc_lt _ _ _ n0).trans (kg.out.cell 1);have e2:∀o,(w2.alloc o).cell? ⟨w1.heap.size,2,none⟩=some (int i64 n3):=λo=>(World.cell?_alloc_lt _ _ _ n0).trans (kg.out.cell 2);have e3:∀o,(w2.alloc o).cell? ⟨w1.heap.size,3,none⟩=some (.bool n4):=λo=>(World.cell?_alloc_lt _ _ _ n0).trans (kg.out.cell 3);clear hb2 Vh n0;go_wp2;go_ret;exact⟨by simp,HB3.out.alloc HB3.out.size _⟩
theorem Sf0 (X R:Nat)(kd on a b:Int)(s t u:ByteArray)(l1:Option Addr)(l2 l3:Nat)(ka:Option Addr)(kn kc:Nat)(c0 c1 c2 c3 c4:Int)(d0 d1 d2:ByteArray)(p0 p1 p2 p3:Int)(w:World)(h1:36<kd):Calls prog 78 #[.agg #[pointer (some ⟨X,0,none⟩),pointer (some ⟨R,0,none⟩)],.agg #[int i64 kd,int i64 on,int i64 a,int i64 b,string s,string t,string u,slice l1 l2 l3,slice ka kn kc,int i64 c0,int i64 c1,int i64 c2,int i64 c3,int i64 c4,string d0,string d1,string d2,int i64 p0,int i64 p1,int i64 p2,int i64 p3]] w λe w'=>e=.returned (.bool true)/\Below w.heap.size w w':=by
 obtain⟨W0,hW⟩:=Ca ((w.alloc (.cells #[pointer (some ⟨X,0,none⟩),pointer (some ⟨R,0,none⟩)] 152)).alloc (.cells #[int i64 kd,int i64 on,int i64 a,int i64 b,string s,string t,string u,slice l1 l2 l3,slice ka kn kc,int i64 c0,int i64 c1,int i64 c2,int i64 c3,int i64 c4,string d0,string d1,string d2,int i64 p0,int i64 p1,int i64 p2,int i64 p3] 93));have HB:=Gc hW;have Nb:=aa (show ma W0 (w.heap.size+1) [int i64 kd,int i64 on,int i64 a,int i64 b,string s,string t,string u,slice l1 l2 l3,slice ka kn kc,int i64 c0,int i64 c1,int i64 c2,int i64 c3,int i64 c4,string d0,string d1,string d2,int i64 p0,int i64 p1,int i64 p2,int i64 p3] 93 by rw[<-hW];exact Yp w _ _ _);have Ea:=aa hW;have yf:=Fa Nb.out
 have e31:(kd==31)=false:=by
  have:kd≠31:=by omega
  simpa using this
 have e32:(kd==32)=false:=by
  have:kd≠32:=by omega
  simpa using this
 have e33:(kd==33)=false:=by
  have:kd≠33:=by omega
  simpa using this
 have e34:(kd==34)=false:=by
  have:kd≠34:=by omega
  simpa using this
 have e35:(kd==35)=false:=by
  have:kd≠35:=by omega
  simpa using this
 have e36:(kd==36)=false:=by
  have:kd≠36:=by omega
  simpa using this
 clear hW h1;go_enter func78,ntmps78;go_upto_region 1 with fail;rw[Ea.out];clear Ea;go_wp2;go_ret;exact⟨rfl,HB.out⟩
end Go.Proofs.YtgaoeoijdpdjiabGreatDoor
