import Derived.Test.YtgaoeoijdpdjiabGreatDoorPart27
import Derived.Test.YtgaoeoijdpdjiabGreatDoorPart25
import Derived.Lib.AppendZeros
import Derived.Test.YtgaoeoijdpdjiabGreatDoorPart28
import Derived.Test.YtgaoeoijdpdjiabGreatDoorPart24
open Go.Value (int string pointer slice)
open Go.IntKind (i64)
open Go.Proofs.Tryz
set_option maxRecDepth 20000
set_option maxHeartbeats 4000000
namespace Go.Proofs.YtgaoeoijdpdjiabGreatDoor
open Go.RowKit
abbrev Hk:Type:=Nat×Nat
def JN:Nat->Nat->Nat->List Hk
 |f,t,0=>if 1<=t then[(0,f)]else[]
 |f,t,k+1=>if 2^(k+1)<=t then(k+1,f/2^(k+1))::JN (f+2^(k+1)) (t-2^(k+1)) k else JN f t k
def ndT (tv:Nat->Nat->ByteArray)(p:Hk):Nd:=(p.1,p.2,tv p.1 p.2)
theorem Yo (n:Int)(h: -9223372036854775808<=n/\n<=9223372036854775807):wrap64 n=n:=by unfold wrap64;omega
def Eg0 (lv at' h:Nat):Nat×Nat:=if lv<=(if at'/2^h% 2=1 then at'+2*2^h else at')then(0,0)else((if at'/2^h% 2=1 then at'+2*2^h else at'),2^h)
def Kj (a i:Nat):Nat:=if a/2^i% 2=1 then a/2^i-1 else a/2^i+1
theorem sQ:(prog.info? 9).map (λi=>(i.zero,i.size,i.bytes))=some (some (string ⟨#[]⟩),1,16):=by kernel_rfl
theorem zf0 (k b x t l:Int)(sec rnd pub:ByteArray)(p0 p1 p2 p3 h j:Int)(ch:Nat)(y z:ByteArray)(w:World)(hk:k=1\/k=2)(h1:1<=b)(h2:b<=16)(hp:pub.size<=16)(hy:y.size<=16)(hz:z.size<=16)(hT:Tn w):Calls prog 211 #[.agg #[int i64 k,int i64 b,int i64 x,int i64 t,int i64 l,string sec,string rnd,string pub,int i64 p0,int i64 p1,int i64 p2,int i64 p3,int i64 ch],int i64 h,int i64 j,string y,string z] w λe w'=>e=.returned (string (Kk k b pub p0 p1 h j y z))/\Below w.heap.size w w':=by
 have HJ:=aa (λ(V:World) (hV:Tn V)=>kT k b x t l pub p0 p1 p2 p3 h j y z V hk h1 h2 hp hy hz hV);have HT:=aa (hT.alloc (.cells #[int i64 k,int i64 b,int i64 x,int i64 t,int i64 l,string sec,string rnd,string pub,int i64 p0,int i64 p1,int i64 p2,int i64 p3,int i64 ch] 274));clear hT;go_enter func211,ntmps211;go_wp2_with fail;refine(HJ.out _ HT.out).mono ?_
 rintro e w1 ⟨rfl,hb1⟩
 have HB1:=aa (((Below.refl w.heap.size w).alloc Aa _).trans (hb1.mono (by simp)));clear hb1;go_wp2;go_ret;exact⟨rfl,HB1.out⟩
theorem pR (k b x t l:Int)(sec rnd pub:ByteArray)(p0 p1 p2 p3:Int)(ch wd:Nat)(hk:k=1\/k=2)(h1:1<=b)(h2:b<=16)(hs:sec.size<=16)(hp:pub.size<=16)(hc1:1<=ch)(hc2:ch<=64)(hch:Wt ch)(hwd:wd<=15)(hx:x=(wd:Int)+1):∀(h:Nat) (_:h<=4) (j:Nat) (_:(j+1)*2^h<=16) (w:World) (_:Tn w),Calls prog 300 #[.agg #[int i64 k,int i64 b,int i64 x,int i64 t,int i64 l,string sec,string rnd,string pub,int i64 p0,int i64 p1,int i64 p2,int i64 p3,int i64 ch],int i64 h,int i64 j] w λe w'=>e=.returned (string (Zg k b wd ch sec pub p0 p1 h j))/\Below w.heap.size w w':=by
 intro h
 induction h with
 |zero=>
  intro _ j _ w hT;have HL:=aa (I7 k b x t l sec rnd pub p0 p1 p2 p3 j ch wd (w.alloc (.cells #[int i64 k,int i64 b,int i64 x,int i64 t,int i64 l,string sec,string rnd,string pub,int i64 p0,int i64 p1,int i64 p2,int i64 p3,int i64 ch] 274)) hk h1 h2 hs hp hc1 hc2 hch hwd hx (hT.alloc _));clear hT hx;rw[show Zg k b wd ch sec pub p0 p1 0 j=oq k b wd ch sec pub p0 p1 j by rw[Zg]];generalize oq k b wd ch sec pub p0 p1 j=lf at HL⊢;go_enter func300,ntmps300;go_wp2_with fail;refine HL.out.mono ?_
  rintro e w1 ⟨rfl,hb1⟩
  have HB1:=aa (((Below.refl w.heap.size w).alloc Aa _).trans (hb1.mono (by simp)));clear hb1;go_wp2;go_ret;exact⟨rfl,HB1.out⟩
 |succ h ih=>
  intro hh j hj w hT;obtain⟨WT,Uf⟩:=Ca (w.alloc (.cells #[int i64 k,int i64 b,int i64 x,int i64 t,int i64 l,string sec,string rnd,string pub,int i64 p0,int i64 p1,int i64 p2,int i64 p3,int i64 ch] 274));have yw:=Ph Uf;have Nt:WT.heap.size=w.heap.size+1:=by rw[<-Uf];simp
  have HB:=Xd Uf;have Kl:=aa (hT.on HB.out);have hp2:1<=2^h:=Nat.one_le_two_pow;have hj':(j+1)*2*2^h<=16:=by rw[Nat.pow_succ]at hj;rw[Nat.mul_assoc,Nat.mul_comm 2];exact hj
  have hjb:j<=7:=by
   have:(j+1)*2*1<=16:=Nat.le_trans (Nat.mul_le_mul_left _ hp2) hj';omega
  have H1:=aa (λ(V:World) (hV:Tn V)=>ih (by omega) (2*j) (Nat.le_trans (Nat.mul_le_mul_right _ (by omega)) hj') V hV);have H2:=aa (λ(V:World) (hV:Tn V)=>ih (by omega) (2*j+1) (Nat.le_trans (Nat.mul_le_mul_right _ (by omega)) hj') V hV);have s1:=Wy k b wd ch sec pub p0 p1 hk h1 h2 hs hp hc1 h (2*j);have s2:=Wy k b wd ch sec pub p0 p1 hk h1 h2 hs hp hc1 h (2*j+1);have HJ:=aa (λ(V:World) (hV:Tn V)=>zf0 k b x t l sec rnd pub p0 p1 p2 p3 (h+1:Nat) j ch (Zg k b wd ch sec pub p0 p1 h (2*j)) (Zg k b wd ch sec pub p0 p1 h (2*j+1)) V hk h1 h2 hp (by omega) (by omega) hV);have HN:Hid (Zg k b wd ch sec pub p0 p1 (h+1) j=Kk k b pub p0 p1 (h+1:Nat) j (Zg k b wd ch sec pub p0 p1 h (2*j)) (Zg k b wd ch sec pub p0 p1 h (2*j+1))):=rfl;rw[HN.out];clear s1 s2 ih hT hp2 hj' hj hx;generalize Zg k b wd ch sec pub p0 p1 h (2*j)=na at H1 HJ HN⊢;generalize Zg k b wd ch sec pub p0 p1 h (2*j+1)=nb at H2 HJ HN⊢;obtain⟨Hh,YO⟩:∃Hh:Int,((h+1:Nat):Int)=Hh:=⟨_,rfl⟩;have e1:((h:Nat):Int)=Hh-1:=by omega
  have e2:((2*j:Nat):Int)=2*(j:Int):=by omega
  have e3:((2*j+1:Nat):Int)=2*(j:Int)+1:=by omega
  rw[e1,e2]at H1;rw[e1,e3]at H2;rw[YO]at HJ HN⊢;have g1:1<=Hh:=by omega
  have g2:Hh<=4:=by omega
  have w1:IntKind.i64.wrap (Hh-1)=Hh-1:=by rw[IntKind.wrap_i64];omega
  have w2:IntKind.i64.wrap (2*(j:Int))=2*(j:Int):=by rw[IntKind.wrap_i64];omega
  have w3:IntKind.i64.wrap (2*(j:Int)+1)=2*(j:Int)+1:=by rw[IntKind.wrap_i64];omega
  have z1:(Hh==0)=false:=by rw[beq_eq_false_iff_ne];omega
  clear e1 e2 e3 YO;have HS:=aa (λ(V:World) (h':Below WT.heap.size WT V)=>(have tb:=yw.out.below h' (by omega);dK (Fa tb) (Ja tb) (Ha tb) (Xa tb) (Ya tb) (Ee tb) (jf tb) (Ch tb) (bn tb) (dn tb) (qo tb) (Zm tb) (Bh tb) h'));have Ea:=aa Uf;clear Uf;go_enter func300,ntmps300;go_wp2_with fail;rw[Ea.out];go_region_held3 (λV=>V.cell? ⟨w.heap.size,0,none⟩=some (int i64 k)/\V.cell? ⟨w.heap.size,1,none⟩=some (int i64 b)/\V.cell? ⟨w.heap.size,2,none⟩=some (int i64 x)/\V.cell? ⟨w.heap.size,3,none⟩=some (int i64 t)/\V.cell? ⟨w.heap.size,4,none⟩=some (int i64 l)/\V.cell? ⟨w.heap.size,5,none⟩=some (string sec)/\V.cell? ⟨w.heap.size,6,none⟩=some (string rnd)/\V.cell? ⟨w.heap.size,7,none⟩=some (string pub)/\V.cell? ⟨w.heap.size,8,none⟩=some (int i64 p0)/\V.cell? ⟨w.heap.size,9,none⟩=some (int i64 p1)/\V.cell? ⟨w.heap.size,10,none⟩=some (int i64 p2)/\V.cell? ⟨w.heap.size,11,none⟩=some (int i64 p3)/\V.cell? ⟨w.heap.size,12,none⟩=some (int i64 ch)/\Below WT.heap.size WT V) (first|exact HS.out _ Uc|exact HS.out _ hS2|exact HS.out _ hS1|exact HS.out _ Vb.drew) (first|(go_at_call 300;have hx:=hS1;clear hx;refine(H2.out _ (Kl.out.on hS1)).mono ?_;rintro e w2 ⟨rfl,hb2⟩;have hS2:=Ga hS1 hb2 Aa)|(go_at_call 300;refine(H1.out _ (Kl.out.on (Below.refl WT.heap.size WT).drew)).mono ?_;rintro e w1 ⟨rfl,hb1⟩;have hS1:=Ga (Below.refl WT.heap.size WT).drew hb1 Aa)|(go_at_call 211;refine(HJ.out _ (Kl.out.on hS2)).mono ?_;rintro e w3 ⟨rfl,hb3⟩;have Uc:=Ga hS2 hb3 Aa));go_wp2;go_ret;exact⟨rfl,HB.out.trans (Uc.mono (by omega))⟩
theorem bg0 (k b x t l:Int)(pub:ByteArray)(V:World)(B:Nat)(hB:B=V.heap.size):Calls prog 159 #[.agg #[int i64 k,int i64 b,int i64 x,int i64 t,int i64 l],slice (some ⟨B,0,none⟩) 1 1] (V.alloc (.cells #[string pub] 9)) λe w'=>e=.returned (.bool ((pub.size:Int)==b))/\Below (V.alloc (.cells #[string pub] 9)).heap.size (V.alloc (.cells #[string pub] 9)) w':=by
 subst hB;rw[show((pub.size:Int)==b)=Ah b [pub] by simp[Ah,Bool.beq_eq_decide_eq]]
 exact iL k b x t l V.heap.size 0 1 [pub] (V.alloc (.cells #[string pub] 9)) (by
  intro j y hj
  match j,hj with
  |0,hj=>simp at hj;subst hj;simp[go_sem]) (by simp) (by simp)
theorem Xf0:prog.underlying 3=some (.int .i64):=underlying3
theorem MO (N:Nat)(w:World)(h1:1<=N)(h2:N<=1000):Calls prog 301 #[slice none 0 0,int i64 N] w λe w'=>∃g cap,e=.returned (slice (some ⟨g,0,none⟩) 0 cap)/\w'.ownsRow w.heap.size 9 1 (slice (some ⟨g,0,none⟩) 0 cap) 0 []/\Below w.heap.size w w':=by
 obtain⟨i0,hi,hz0,hz1,hz2⟩:=info_parts Rw;have hr:=Lib.run_append_nil_zeros (P:=prog) w 27 3 27 9 i0 (string ⟨#[]⟩) .i64 .i64 underlying27 Xf0 hi hz0 N (by omega) (by rw[hz1];decide) (by omega) (by rw[hz2];omega);have hge:=grownCap_ge w N 0 9;have hle:=grownCap_le_maxLen w N 0 9 (by unfold maxLen;omega);generalize grownCap w N 0 9=cap at hr hge hle
 have HO:=aa (show(w.drew.alloc (.cells (Builtin.zeroCells (string ⟨#[]⟩).cells N++Builtin.zeroCells (string ⟨#[]⟩).cells (cap-N)) 9)).ownsRow w.heap.size 9 1 (slice (some ⟨w.heap.size,0,none⟩) 0 cap) 0 [] by
  refine⟨rfl,Or.inr ⟨w.heap.size,cap,_,rfl,Aa,World.alloc_heap_new w.drew _,Nat.zero_le _,hle,?_,by simp⟩⟩;simp[Builtin.zeroCells,Value.cells];omega)
 have HB:=aa (show Below w.heap.size w (w.drew.alloc (.cells (Builtin.zeroCells (string ⟨#[]⟩).cells N++Builtin.zeroCells (string ⟨#[]⟩).cells (cap-N)) 9))from(Below.refl w.heap.size w).drew.alloc Aa _);generalize w.drew.alloc (.cells (Builtin.zeroCells (string ⟨#[]⟩).cells N++Builtin.zeroCells (string ⟨#[]⟩).cells (cap-N)) 9)=W1 at hr HO HB;have HR:=aa hr;clear hr;have hN0:(0:Int)<(N:Int):=by omega
 go_enter func301,ntmps301;go_wp2_with (at_builtin;refine Lib.wpList_append_run _ rfl (.tmp 20) (.tmp 21) 27 3 rfl (slice none 0 0) (int i64 N) rfl rfl _ _ HR.out ?_);go_ret;exact⟨_,_,rfl,HO.out,HB.out⟩
theorem oZ (W:World)(g i:Nat)(v:Value):W.grownBy (W.setCell ⟨g,i,none⟩ v) (some g):=⟨rfl,rfl,rfl,by simp[World.setCell],λk _ hk=>Below.heap_setCell _ _ _ _ (λe=>hk (by rw[e]))⟩
theorem Ea0 {w:World}{base:Nat}{e:TypeId}{s:Nat}{v:Value}{n:Nat}{xs:List Value}(h:w.ownsRow base e s v n xs){g:Nat}(hg:g<base):v.ownBlock=none\/v.ownBlock≠some g:=by
 cases hv:v.ownBlock with
 |none=>exact .inl rfl
 |some p=>
  refine .inr (λe=>?_);have:=(Mr h p hv).1;simp at e;omega
theorem MN {w w':World}{g:Nat}{vs:List Value}{T:TypeId}{row:Option Nat}(h:ma w g vs T)(hg:w.grownBy w' row)(hne:∀p,row=some p->g<p):ma w' g vs T:=by
 have hlt:=h.lt;unfold ma at h⊢;rw[hg.block g hlt (λe=>by have:=hne g e.symm;omega)];exact h
theorem F7 (Q:Int->World->Prop)(D:Nat)(q b q2:Int)(d:ByteArray)(w:World)(h:Oh q b d)(hq:Int.tmod q 2=q2)(_hv:IntKind.i64.wrap q2=q2)
  (hW:∀V:World,Below w.heap.size w V->Calls prog 104 #[pointer (some ⟨D,0,none⟩),int i64 q2,string (Ua q b d)] V λe w'=>∃c,e=.returned (int i64 c)/\Q c w'):Calls prog 183 #[pointer (some ⟨D,0,none⟩),.agg #[int i64 q,int i64 b,string d]] w λe w'=>∃c,e=.returned (int i64 c)/\Q c w':=by
 have HS:=aa (λV:World=>JK q b d V h);have HW:=aa hW;have HK:=aa (ma.new w [int i64 q,int i64 b,string d] 186);clear hW h;generalize Ua q b d=z at HS HW;go_enter func183,ntmps183;go_wp2_with fail;refine(HS.out _).mono ?_
 rintro e w1 ⟨rfl,hb1⟩
 have c0:=Fa ((HK.out.on hb1));have HB:=aa (((Below.refl w.heap.size w).alloc Aa _).trans (hb1.mono (by simp)));clear hb1;go_wp2_with fail;refine(HW.out _ HB.out).mono ?_
 rintro e w2 ⟨c,rfl,hQ⟩
 have HQ:=aa hQ;clear hQ;go_wp2;go_ret;exact⟨c,rfl,HQ.out⟩
def Fb (lo D:Nat)(st:Da)(w:World)(F:Nat->Prop):Prop:=∃E pv,Ta lo D E pv st w/\F=uh D E pv
def DL (lo D:Nat)(st:Da)(F:Nat->Prop)(w w':World):Prop:=∃F',Fb lo D st w' F'/\za F w w'/\∀k,F' k->F k\/w.heap.size<=k
section
variable {lo D:Nat}{st s2:Da}{w w' w2:World}{F G:Nat->Prop}
theorem Fb.lt (h:Fb lo D st w F):∀k,F k->lo<=k/\k<w.heap.size:=by
 obtain⟨E,pv,hd,rfl⟩:=h;exact hd.lt
theorem Fb.self (h:Fb lo D st w F):F D:=by
 obtain⟨E,pv,hd,rfl⟩:=h;exact .inl rfl
theorem Fb.kept (h:Fb lo D st w F)(hk:za G w w')(hn:∀k,F k->¬G k):Fb lo D st w' F:=by
 obtain⟨E,pv,hd,rfl⟩:=h;exact⟨E,pv,hd.kept hk hn,rfl⟩
theorem Fb.below (h:Fb lo D st w F)(hb:Below w.heap.size w w'):Fb lo D st w' F:=h.kept (za.of_below (F:=λ_=>False) hb) (λ_ _ hf=>hf)
theorem Fb.term (h:Fb lo D st w F):w.cell? ⟨D,5,none⟩=some (int i64 st.term):=by
 obtain⟨E,pv,hd,_⟩:=h;exact hd.c5
theorem Fb.sectors (h:Fb lo D st w F):∃a,w.cell? ⟨D,0,none⟩=some (slice a st.n st.n):=by
 obtain⟨E,pv,hd,_⟩:=h;exact⟨_,hd.c0⟩
theorem Fb.ltD (h:Fb lo D st w F):D<w.heap.size:=(h.lt D h.self).2
theorem DL.of_below (hb:Below w.heap.size w w')(k:DL lo D s2 F w' w2)(_hF:∀i,F i->i<w.heap.size):DL lo D s2 F w w2:=by
 obtain⟨F2,d2,k2,f2⟩:=k;refine⟨F2,d2,(za.of_below (F:=F) hb).trans k2 (λi hi=>.inl hi),λi hi=>?_⟩;rcases f2 i hi with h|h
 ·exact .inl h
 ·exact .inr (Nat.le_trans hb.size h)
theorem DL.refl (h:Fb lo D st w F):DL lo D st F w w:=⟨F,h,za.refl _ _,λ_ hk=>.inl hk⟩
theorem DL.then (k:DL lo D st F w w')(hb:Below w'.heap.size w' w2):DL lo D st F w w2:=by
 obtain⟨F2,d2,k2,f2⟩:=k;exact⟨F2,d2.below hb,k2.after hb,f2⟩
theorem DL.blk (k:DL lo D st F w w'){g:Nat}{vs:List Value}{T:TypeId}(h:ma w g vs T)(hn:¬F g):ma w' g vs T:=by
 obtain⟨F2,d2,k2,f2⟩:=k;unfold ma at h⊢;rw[k2.block g (ma.lt h) hn];exact h
end
theorem Hu {lo D E:Nat}{pv pv':Value}{st:Da}{w w':World}(hd:Ta lo D E pv' st w')(hk:za (uh D E pv) w w')(ho:∀k,pv'.ownBlock=some k->pv.ownBlock=some k\/w.heap.size<=k):DL lo D st (uh D E pv) w w':=by
 refine⟨_,⟨E,pv',hd,rfl⟩,hk,?_⟩
 rintro k (rfl|rfl|e)
 ·exact .inl (.inl rfl)
 ·exact .inl (.inr (.inl rfl))
 ·rcases ho k e with h|h
  ·exact .inl (.inr (.inr h))
  ·exact .inr h
theorem UY (lo D:Nat)(st:Da)(F:Nat->Prop)(i:Int)(t:ByteArray)(w:World)(h:Fb lo D st w F)(hlo:lo<=w.heap.size)(hw:0<=st.writes)(hw2:st.writes<9223372036854775807):Calls prog 104 #[pointer (some ⟨D,0,none⟩),int i64 i,string t] w λe w'=>e=.returned (int i64 (Kc st i t))/\DL lo D (Jb st i t) F w w':=by
 obtain⟨E,pv,hd,rfl⟩:=h;by_cases hi:0<=i/\i<st.n
 ·by_cases ht:t.size=32
  ·by_cases hf:st.trouble=1\/st.pend.length=16
   ·rw[show Kc st i t=5 by rw[Kc,if_neg (λhn=>hn hi),if_neg (λhn=>hn ht),if_pos hf],show Jb st i t={st with trouble:=Ve st.trouble} by rw[Jb,if_neg (λhn=>hn hi),if_neg (λhn=>hn ht),if_pos hf]];refine(EU lo D E pv st i t w hd hi ht hf).mono ?_
    rintro e w' ⟨rfl,a,b⟩
    exact⟨rfl,Hu a (Ju b) (λk e=>.inl e)⟩
   ·rw[show Kc st i t=0 by rw[Kc,if_neg (λhn=>hn hi),if_neg (λhn=>hn ht),if_neg hf],show Jb st i t={st with trouble:=Ve st.trouble,pend:=st.pend++[(i.toNat,t)],writes:=st.writes+1} by rw[Jb,if_neg (λhn=>hn hi),if_neg (λhn=>hn ht),if_neg hf]];obtain⟨k,rfl⟩:=Int.eq_ofNat_of_zero_le hi.1;refine(FU lo D E pv st k t w hd hlo (by omega) ht (λe=>hf (.inl e)) (λe=>hf (.inr e)) hw hw2).mono ?_
    rintro e w' ⟨rfl,pv',a,b,c⟩
    exact⟨rfl,Hu (by simpa using a) b c⟩
  ·rw[show Kc st i t=2 by rw[Kc,if_neg (λhn=>hn hi),if_pos ht],show Jb st i t=st by rw[Jb,if_neg (λhn=>hn hi),if_pos ht]];refine(DU lo D E pv st i t w hd hi ht).mono ?_
   rintro e w' ⟨rfl,rfl⟩
   exact⟨rfl,Hu hd (za.refl _ _) (λk e=>.inl e)⟩
 ·rw[show Kc st i t=4 by rw[Kc,if_pos hi],show Jb st i t=st by rw[Jb,if_pos hi]];refine(GU lo D E pv st i t w hd hi).mono ?_
  rintro e w' ⟨rfl,rfl⟩
  exact⟨rfl,Hu hd (za.refl _ _) (λk e=>.inl e)⟩
theorem yI (lo D:Nat)(st:Da)(F:Nat->Prop)(w:World)(h:Fb lo D st w F)(hw:0<=st.syncs)(hw2:st.syncs<9223372036854775807):Calls prog 105 #[pointer (some ⟨D,0,none⟩)] w λe w'=>e=.returned (int i64 (Qc st))/\DL lo D (Cb st) F w w':=by
 obtain⟨E,pv,hd,rfl⟩:=h;by_cases ht:st.trouble=1
 ·rw[show Qc st=5 by rw[Qc,if_pos ht],show Cb st={st with trouble:=Ve st.trouble} by rw[Cb,if_pos ht]];refine(TT lo D E pv st w hd ht).mono ?_
  rintro e w' ⟨rfl,a,b⟩
  exact⟨rfl,Hu a (Ju b) (λk e=>.inl e)⟩
 ·rw[show Qc st=0 by rw[Qc,if_neg ht],show Cb st={st with trouble:=Ve st.trouble,dur:=Hm st st.pend.length,pend:=[],syncs:=st.syncs+1} by rw[Cb,if_neg ht]];refine(UT lo D E pv st w hd ht hw hw2).mono ?_
  rintro e w' ⟨rfl,a,b⟩
  exact⟨rfl,Hu a b (λk e=>by simp[Value.ownBlock]at e)⟩
theorem xO (lo D:Nat)(st:Da)(F:Nat->Prop)(i:Int)(w:World)(h:Fb lo D st w F):Calls prog 103 #[pointer (some ⟨D,0,none⟩),int i64 i] w λe w'=>e=.returned (.tuple #[string (Ec st i).1,int i64 (Ec st i).2])/\DL lo D (Sb st i) F w w':=by
 obtain⟨E,pv,hd,rfl⟩:=h;refine(dS lo D E pv st i w hd).mono ?_
 rintro e w' ⟨rfl,a,b⟩
 exact⟨rfl,Hu a (Ju b) (λk e=>.inl e)⟩
theorem yO (lo D:Nat)(st:Da)(F:Nat->Prop)(w:World)(h:Fb lo D st w F)(h1:0<=st.term)(h2:st.term<9223372036854775807):Calls prog 173 #[pointer (some ⟨D,0,none⟩)] w λe w'=>e=.returned (.tuple #[])/\DL lo D {st with term:=st.term+1} F w w':=by
 obtain⟨E,pv,hd,rfl⟩:=h;refine(jR D st.term w hd.c5 (hd.free 5) (by rw[IntKind.wrap_i64]<;>omega)).mono ?_
 rintro e w' ⟨rfl,rfl⟩
 exact⟨rfl,Hu (hd.setTerm _) (Ju (Jc w ⟨D,5,none⟩ _)) (λk e=>.inl e)⟩
theorem mF (lo D:Nat)(st:Da)(F:Nat->Prop)(q b q2:Int)(d:ByteArray)(w:World)(h:Fb lo D st w F)(hlo:lo<=w.heap.size)(hw:0<=st.writes)(hw2:st.writes<9223372036854775807)(hR:Oh q b d)(hq:Int.tmod q 2=q2)(hv:IntKind.i64.wrap q2=q2):Calls prog 183 #[pointer (some ⟨D,0,none⟩),.agg #[int i64 q,int i64 b,string d]] w λe w'=>e=.returned (int i64 (Kc st q2 (Ua q b d)))/\DL lo D (Jb st q2 (Ua q b d)) F w w':=by
 refine(F7 (λc w'=>c=Kc st q2 (Ua q b d)/\DL lo D (Jb st q2 (Ua q b d)) F w w') D q b q2 d w hR hq hv ?_).mono ?_
 ·intro V hb;refine(UY lo D st F q2 (Ua q b d) V (h.below hb) (Nat.le_trans hlo hb.size) hw hw2).mono ?_
  rintro e w' ⟨rfl,hl⟩
  exact⟨_,rfl,rfl,hl.of_below hb (λi hi=>(h.lt i hi).2)⟩
 ·rintro e w' ⟨c,rfl,rfl,hl⟩
  exact⟨rfl,hl⟩
theorem Ba0 (Q:Int->World->Prop)(O D:Nat)(w:World)(h0:w.cell? ⟨O,0,none⟩=some (pointer (some ⟨D,0,none⟩)))
  (hS:Calls prog 105 #[pointer (some ⟨D,0,none⟩)] w λe w'=>∃c,e=.returned (int i64 c)/\Q c w'):Calls prog 107 #[pointer (some ⟨O,0,none⟩)] w λe w'=>∃c,e=.returned (int i64 c)/\Q c w':=by
 have HS:=aa hS;clear hS;go_enter func107,ntmps107;go_wp2_with fail;refine HS.out.mono ?_
 rintro e w2 ⟨c,rfl,hQ⟩
 have HQ:=aa hQ;clear hQ;go_wp2;go_ret;exact⟨c,rfl,HQ.out⟩
theorem xa0 (Q:World->Prop)(O D:Nat)(i:Int)(s:ByteArray)(w:World)(h0:w.cell? ⟨O,0,none⟩=some (pointer (some ⟨D,0,none⟩)))(hs:Le s=false)(hQ:∀V V',Q V->Below V.heap.size V V'->Q V')
  (hR:Calls prog 103 #[pointer (some ⟨D,0,none⟩),int i64 i] w λe w'=>e=.returned (.tuple #[string s,int i64 0])/\Q w'):Calls prog 182 #[pointer (some ⟨O,0,none⟩),int i64 i] w λe w'=>e=.returned (int i64 0)/\Q w':=by
 have HR:=aa hR;have HU:=aa (λV:World=>kU s V);rw[Sr hs]at HU;have HQ:=aa hQ;clear hR hs hQ;go_enter func182,ntmps182;go_wp2_with fail;refine HR.out.mono ?_
 rintro e w1 ⟨rfl,hq1⟩
 have Ef:=aa hq1;clear hq1;go_wp2_with fail;refine(HU.out _).mono ?_
 rintro e w2 ⟨rfl,hb2⟩
 have Sc:=aa (HQ.out _ _ Ef.out hb2);clear hb2;go_wp2;go_ret;exact⟨rfl,HQ.out _ _ Sc.out (Va _)⟩
theorem zR (Q:Int->World->Prop)(O:Nat)(w:World)
  (hR:Calls prog 182 #[pointer (some ⟨O,0,none⟩),int i64 0] w λe w'=>∃c,e=.returned (int i64 c)/\Q c w'):Calls prog 108 #[pointer (some ⟨O,0,none⟩)] w λe w'=>∃c,e=.returned (int i64 c)/\Q c w':=by
 have HR:=aa hR;clear hR;go_enter func108,ntmps108;go_wp2_with fail;refine HR.out.mono ?_
 rintro e w1 ⟨c,rfl,hq1⟩
 have Ef:=aa hq1;clear hq1;go_wp2;go_ret;exact⟨c,rfl,Ef.out⟩
theorem AR (Q:Int->World->Prop)(O:Nat)(w:World)
  (hR:Calls prog 182 #[pointer (some ⟨O,0,none⟩),int i64 1] w λe w'=>∃c,e=.returned (int i64 c)/\Q c w'):Calls prog 109 #[pointer (some ⟨O,0,none⟩)] w λe w'=>∃c,e=.returned (int i64 c)/\Q c w':=by
 have HR:=aa hR;clear hR;go_enter func109,ntmps109;go_wp2_with fail;refine HR.out.mono ?_
 rintro e w1 ⟨c,rfl,hq1⟩
 have Ef:=aa hq1;clear hq1;go_wp2;go_ret;exact⟨c,rfl,Ef.out⟩
theorem za0 (O:Nat)(a:Option Addr)(c:Nat)(w:World)(h3:w.cell? ⟨O,3,none⟩=some (slice a 0 c)):Calls prog 110 #[pointer (some ⟨O,0,none⟩)] w λe w'=>e=.returned (int i64 0)/\w'=w:=by
 go_enter func110,ntmps110;go_wp2;go_ret;exact⟨rfl,rfl⟩
end Go.Proofs.YtgaoeoijdpdjiabGreatDoor
