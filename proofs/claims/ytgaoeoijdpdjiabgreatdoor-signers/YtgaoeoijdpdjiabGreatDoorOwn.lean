/-
  Proved: for every script the function signetlaw.Signers returns true, and the script reads behind the call as it reads before; the package variable digest.turns starts as the program's text lays it (the card ties it).
-/
import Derived.Test.YtgaoeoijdpdjiabGreatDoorCards
import Derived.Test.YtgaoeoijdpdjiabGreatDoorTie
import Derived.Test.YtgaoeoijdpdjiabGreatDoorPart52
import Derived.Deep.DeepHandedRow
import Derived.Lib.LaidTab
open Go.Value (int slice)
open Go.IntKind (i64)
open Go.Proofs.Tryz
set_option maxRecDepth 100000
namespace Go.Proofs.YtgaoeoijdpdjiabGreatDoor
open Go.ChangeShapes Go.WideShapes Go.ChangeAt Go.RowKit Go.Deep
open Go.ChangeMaps (open_string shut_string)
theorem ke0 (v:Value)(L:List Fe)(w:World)(hT:Tn w)(hv:xy w v L)(hl:L.length<=1099511627776):Calls prog 3 #[v] w λe w'=>e=.returned (.bool true)/\Below w.heap.size w w':=by
 have HP:=aa (Wa0 v L w hT hv hl);clear hv hl hT;go_enter func3,ntmps3;go_wp2_with fail;refine HP.out.mono ?_
 rintro e w1 ⟨rfl,hb⟩
 have HB:=aa hb;clear hb;go_wp2;go_ret;exact⟨rfl,HB.out⟩
theorem Da0:ownKnob prog.godebug=none:=by kernel_rfl
theorem CQ:laidOutB prog=true:=by kernel_rfl
theorem fB:prog.globalNamed "signet/digest.turns" =some 1:=by kernel_rfl
theorem iZ:(prog.globals[1]?).map (·.type)=some 388:=by kernel_rfl
theorem AX:prog.cellsOf 388=4:=by kernel_rfl
theorem yX:prog.cellsOf 3=1:=by kernel_rfl
theorem uG {W:World}(h:laidMetH prog Rows.signersRow.laid W):Lib.TabIs prog W "signet/digest.turns" .i64 [5,11,19,26]:=Lib.tabIs_of_head (rest:=[]) fB iZ underlying388 underlying3 yX AX h
theorem MZ {W:World}{v:Value}(h:W.cell? ⟨1,0,none⟩=some v):1<W.heap.size:=World.block_lt_of_cell? W _ h
theorem Af0 {W:World}(hL:laidMetH prog Rows.signersRow.laid W):Tn W:=by
 have c0:W.cell? ⟨1,0,none⟩=some (int i64 5):=(uG hL).cell fB 0 (by decide);have c1:W.cell? ⟨1,1,none⟩=some (int i64 11):=(uG hL).cell fB 1 (by decide);have c2:W.cell? ⟨1,2,none⟩=some (int i64 19):=(uG hL).cell fB 2 (by decide);have c3:W.cell? ⟨1,3,none⟩=some (int i64 26):=(uG hL).cell fB 3 (by decide)
 have hT:∀i,i<4->W.cell? ⟨1,i,none⟩=some (int i64 ((Ab i:Nat):Int)):=by
  intro i hi
  match i,hi with
  |0,_=>exact c0
  |1,_=>exact c1
  |2,_=>exact c2
  |3,_=>exact c3
 exact⟨hT,hT,MZ c0⟩
theorem bY (H:Type)(enc:TypeId×Value->H)(W:World)(base:Nat)(args:Array Value)(ds gs:List (DataW H))(before:List MemPlace)
  (hval:∀(j:Nat) t v,f3.params[j]?=some t->args[j]?=some v->Value.okWide prog W .any base t v)
  (hW:DataW.Whole enc prog f3.params.toList Rows.signersSpec.vars false W args.toList ds gs before)(hL:laidMetH prog Rows.signersRow.laid W)(vt:List TypeId)
  (hsz:(DataW.weightsEach prog (f3.params.toList++vt) (ds++gs)).all (·<=reachBytes)=true):Calls prog 3 args W λe W'=>∃v,e=.returned v/\Rows.signersSpec.post enc prog f3 false true false false W args v W':=by
 have hW':=hW;obtain⟨p,q,PO,hV,rfl,hfz,hnd⟩:=hW;have hA:DataW.TrodAll enc prog W 0 (λ_=>true) true f3.params.toList args.toList ds p:=PO;rw[params3]at hA hval hsz;obtain⟨v0,vs0,d0,ds0,p0,q0,hargs,rfl,rfl,h0,r0⟩:=trodAll_cons hA;obtain⟨rfl,rfl,rfl⟩:=trodAll_nil r0;obtain rfl:args=#[v0]:=by cases args;simp_all
 obtain⟨rfl,rfl⟩:=trodVars_none hV;have k0:=h0;have D8:∀x∈p0,x.block<W.heap.size:=by obtain⟨m,hm⟩:=k0;exact DataW.trod_lt m _ _ _ hm
 have hfit:Rx 22 d0:=λn hn=>by
  have:=List.all_eq_true.1 hsz n (DataW.weights_mem_each (j:=0) (t:=22) (d:=d0) rfl rfl n hn);simpa using this
 obtain⟨L,hsc,hN⟩:=pa0 (hval 0 22 v0 rfl rfl) h0 hfit;clear PO;refine(ke0 v0 L W (Af0 hL) hsc hN).mono λe W' ⟨he,FN⟩=>?_;subst he;exact⟨_,rfl,_,_,_,[],_,[],hW',trodAll_mk1 (shut_bool underlying4 _),(trodAll_cons_mk (Below.trod CQ (by kernel_rfl) (of_decide_eq_true (by kernel_rfl)) k0 FN D8) trodAll_mk0),rfl,FN.frame _,λh=>by cases h⟩
theorem Y5:mapsRowed prog=true:=by kernel_rfl
theorem X5:(Rows.signersRow.inPlace==prog.inPlace 3)=true:=by kernel_rfl
theorem l6:(Rows.signersRow.unfollowed==prog.unfollowed 3)=true:=by kernel_rfl
theorem j6:(Rows.signersRow.recurses==prog.recurses 3)=true:=by kernel_rfl
theorem Z5:(Rows.signersRow.named==prog.varsNamed 3)=true:=by kernel_rfl
theorem R5:joinedFacts prog 3 f3 (OpenSpec.ofChange Rows.signersSpec).bare Rows.signersRow=true:=by
 simp only[joinedFacts,Bool.and_eq_true]
 repeat' apply And.intro
 all_goals first|with_reducible exact CQ|with_reducible exact Y5|with_reducible exact X5|with_reducible exact l6|with_reducible exact j6|with_reducible exact Z5|kernel_rfl
def VJ (W:World):World:={W with heap:=W.heap.modify 1 λ
   |.cells _ t frozen=>.cells #[int i64 5,int i64 11,int i64 19,int i64 26] t frozen
   |o=>o}
def GG:Array Value:=#[slice none 0 0]
theorem X6 (os:Os):laidMet prog Rows.signersRow.laid ((VJ (World.holding prog os ⟨#[],#[],[]⟩)).forCall (λ_ _=>0) ⟨#[],GG,[]⟩).memory:=laidMet_of_run' 8 (by kernel_rfl) (by kernel_rfl)
theorem reads (os:Os){H:Type}(enc:TypeId×Value->H):∃places,DataW.whole enc prog ((VJ (World.holding prog os ⟨#[],#[],[]⟩)).forCall (λ_ _=>0) ⟨#[],GG,[]⟩).memory f3.params.toList Rows.signersSpec.vars false GG.toList 8=some ([.nil],[],places):=⟨[],by kernel_rfl⟩
theorem P7 (os:Os)(started:os.Started)(H:Type)(enc:TypeId×Value->H)(F:Stop.Interp):ReturnsInHanded {} checked os 3 .any ((OpenSpec.ofChange Rows.signersSpec).preRow enc prog f3 Rows.signersRow.domain false Rows.signersRow.laid) (((OpenSpec.ofChange Rows.signersSpec).at F).post enc prog f3 false true false false):=by
 obtain⟨places,hx⟩:=reads os enc
 refine returnsInHanded_of_row (C:=checked) (s:=OpenSpec.ofChange Rows.signersSpec) Da0 started (by kernel_rfl) func3
  (witness_row_at (enc:=enc) (C:=checked) false (VJ (World.holding prog os ⟨#[],#[],[]⟩)) GG rfl (by kernel_rfl) (by kernel_rfl) (by kernel_rfl)
   (OpenSpec.preRow_of_cond 8 hx (by kernel_rfl) (λk hk=>by cases hk) (by kernel_rfl) (X6 os))) ?_
 intro W base args ds gs before hval hW _ _ hsz hL _ _;exact bY H enc W base args ds gs before hval hW hL _ hsz
theorem je0:Rows.SignersSaid:=OpenClaim.holds_of_cond 3 f3 rfl rfl rfl rfl rfl rfl rfl ⟨rfl,rfl,rfl,rfl,rfl⟩ rfl rfl rfl rfl rfl (by kernel_rfl) func3 R5
  (of_decide_eq_true (by kernel_rfl)) (by unfold Func.isWrapper;first|(rw[if_pos (by decide+kernel)];kernel_rfl)|(rw[if_neg (by decide+kernel)];exact⟨rfl,rfl⟩))
  (λos started H enc _ F=>by rw[OpenClaim.pre_eq_preRow];exact P7 os started H enc F)
theorem plain (f:FuncId)(fn:Func)(hf:Tryz.pinned.checked.prog.funcNamed "signet/signetlaw.Signers" =some f)(hfn:Tryz.pinned.checked.prog.funcs[f]?=some fn):false=Tryz.pinned.checked.prog.looks []/\∀(j:Nat) t,fn.params[j]?=some t->Tryz.pinned.checked.prog.wantsStandIn t=false:=by
 obtain rfl:f=3:=Option.some.inj ((show prog.funcNamed "signet/signetlaw.Signers" =some 3 by kernel_rfl).symm.trans hf)|>.symm;obtain rfl:fn=f3:=(Option.some.inj (func3.symm.trans hfn)).symm;refine⟨by kernel_rfl,λj t ht=>?_⟩;have hall:(f3.params.all λu=> !prog.wantsStandIn u)=true:=by kernel_rfl
 have h:=Array.all_eq_true_iff_forall_mem.1 hall t (Array.mem_of_getElem? ht);have h2:prog.wantsStandIn t=false:=by simpa using h
 exact h2
theorem signers_holds:Rows.SignersCardSaid:=Claim7.holds_tied_plain_at .later [] _ _ _ _ je0 (λ_ h=>by cases h) (by kernel_rfl) (λ_ h=>by cases h) signers_row_tie rfl ⟨rfl,rfl⟩ (by kernel_rfl) rfl plain (by kernel_rfl)
end Go.Proofs.YtgaoeoijdpdjiabGreatDoor
