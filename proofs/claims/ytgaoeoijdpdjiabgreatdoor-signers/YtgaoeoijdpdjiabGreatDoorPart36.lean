import Derived.Test.YtgaoeoijdpdjiabGreatDoorPart28
open Go.Value (int string)
open Go.IntKind (i64)
open Go.Proofs.Tryz
set_option maxRecDepth 20000
set_option maxHeartbeats 2000000
namespace Go.Proofs.YtgaoeoijdpdjiabGreatDoor
open Go.RowKit
theorem Cb0 (s:ByteArray)(w:World)(hZ:s.size=32)(hm:s.extract 0 4=Gf)(hI:Le s=false)(q1:rv s 4<1):Calls prog 207 #[string s] w λe w'=>e=.returned (Og s)/\Below w.heap.size w w':=by
 have HE:=aa (Sr hI);have hd:(((s.size:Nat):Int)==32)=true:=by rw[hZ];rfl
 have hd2:(((s.size:Nat):Int) !=32)=false:=by rw[hZ];rfl
 have e1:=Fq s 4 (by omega);have e2:=Gv s 8 16 (by omega) (by omega);have e3:=Fq s 28 (by omega);rw[hm]at e1;change∀w:World,_=Result.ok (string ⟨#[115,103,110,116]⟩) w at e1;change∀w:World,_=Result.ok (string (Qd s)) w at e2;simp only[Int.cast_ofNat_Int]at e1 e2 e3;have HV:=aa (λ(V:World) (a:Int) (h:Hid (0<=a/\a<=28))=>OC s a V hZ h);have HM:=aa (λV:World=>bz (s.extract 0 28) V (by rw[ByteArray.size_extract];omega));clear hZ hm hI;generalize Qd s=d at*;generalize s.extract 0 28=Tt at*;generalize jh Tt=m at*;generalize Og s=z at HE⊢
 cases h20:(rv s 20==0)
 ·
  go_enter func207,ntmps207;go_wp2_with fail;go_region_held3 (λV=>True) (trivial) ((go_at_call 84;refine(HV.out _ _ (by constructor<;>decide)).mono ?_;rintro e w1 ⟨rfl,rfl⟩))
  all_goals
   generalize rv s 4=q at*
   generalize rv s 16=b at*;go_wp2_with (first|(go_at_call 187;refine(HM.out _).mono ?_;rintro e w1 ⟨rfl,rfl⟩)|(go_at_call 84;refine(HV.out _ _ (by constructor<;>decide)).mono ?_;rintro e w1 ⟨rfl,rfl⟩));refine bodyPost_ret (v:=.tuple #[.agg #[int i64 0,int i64 0,string ⟨#[]⟩],int i64 6]) (by simp[results,results207,go_sem]) rfl ⟨by rw[HE.out],?_⟩;exact((Va _).alloc (by simp) _).drew
 ·cases Ky:(rv s 24==0)
  ·
   go_enter func207,ntmps207;go_wp2_with fail;go_region_held3 (λV=>True) (trivial) ((go_at_call 84;refine(HV.out _ _ (by constructor<;>decide)).mono ?_;rintro e w1 ⟨rfl,rfl⟩))
   all_goals
    generalize rv s 4=q at*
    generalize rv s 16=b at*;go_wp2_with (first|(go_at_call 187;refine(HM.out _).mono ?_;rintro e w1 ⟨rfl,rfl⟩)|(go_at_call 84;refine(HV.out _ _ (by constructor<;>decide)).mono ?_;rintro e w1 ⟨rfl,rfl⟩));refine bodyPost_ret (v:=.tuple #[.agg #[int i64 0,int i64 0,string ⟨#[]⟩],int i64 6]) (by simp[results,results207,go_sem]) rfl ⟨by rw[HE.out],?_⟩;exact((Va _).alloc (by simp) _).drew
  ·
   go_enter func207,ntmps207;go_wp2_with fail;go_region_held3 (λV=>True) (trivial) ((go_at_call 84;refine(HV.out _ _ (by constructor<;>decide)).mono ?_;rintro e w1 ⟨rfl,rfl⟩))
   all_goals
    generalize rv s 4=q at*
    generalize rv s 16=b at*;go_wp2_with (first|(go_at_call 187;refine(HM.out _).mono ?_;rintro e w1 ⟨rfl,rfl⟩)|(go_at_call 84;refine(HV.out _ _ (by constructor<;>decide)).mono ?_;rintro e w1 ⟨rfl,rfl⟩));refine bodyPost_ret (v:=.tuple #[.agg #[int i64 0,int i64 0,string ⟨#[]⟩],int i64 6]) (by simp[results,results207,go_sem]) rfl ⟨by rw[HE.out],?_⟩;exact((Va _).alloc (by simp) _).drew
theorem Db0 (s:ByteArray)(w:World)(hZ:s.size=32)(hm:s.extract 0 4=Gf)(hI:Le s=false)(q1:1<=rv s 4)(q2:2147483647<rv s 4):Calls prog 207 #[string s] w λe w'=>e=.returned (Og s)/\Below w.heap.size w w':=by
 have HE:=aa (Sr hI);have hd:(((s.size:Nat):Int)==32)=true:=by rw[hZ];rfl
 have hd2:(((s.size:Nat):Int) !=32)=false:=by rw[hZ];rfl
 have e1:=Fq s 4 (by omega);have e2:=Gv s 8 16 (by omega) (by omega);have e3:=Fq s 28 (by omega);rw[hm]at e1;change∀w:World,_=Result.ok (string ⟨#[115,103,110,116]⟩) w at e1;change∀w:World,_=Result.ok (string (Qd s)) w at e2;simp only[Int.cast_ofNat_Int]at e1 e2 e3;have HV:=aa (λ(V:World) (a:Int) (h:Hid (0<=a/\a<=28))=>OC s a V hZ h);have HM:=aa (λV:World=>bz (s.extract 0 28) V (by rw[ByteArray.size_extract];omega));clear hZ hm hI;generalize Qd s=d at*;generalize s.extract 0 28=Tt at*;generalize jh Tt=m at*;generalize Og s=z at HE⊢
 cases h20:(rv s 20==0)
 ·
  go_enter func207,ntmps207;go_wp2_with fail;go_region_held3 (λV=>True) (trivial) ((go_at_call 84;refine(HV.out _ _ (by constructor<;>decide)).mono ?_;rintro e w1 ⟨rfl,rfl⟩))
  all_goals
   generalize rv s 4=q at*
   generalize rv s 16=b at*;go_wp2_with (first|(go_at_call 187;refine(HM.out _).mono ?_;rintro e w1 ⟨rfl,rfl⟩)|(go_at_call 84;refine(HV.out _ _ (by constructor<;>decide)).mono ?_;rintro e w1 ⟨rfl,rfl⟩));refine bodyPost_ret (v:=.tuple #[.agg #[int i64 0,int i64 0,string ⟨#[]⟩],int i64 6]) (by simp[results,results207,go_sem]) rfl ⟨by rw[HE.out],?_⟩;exact((Va _).alloc (by simp) _).drew
 ·cases Ky:(rv s 24==0)
  ·
   go_enter func207,ntmps207;go_wp2_with fail;go_region_held3 (λV=>True) (trivial) ((go_at_call 84;refine(HV.out _ _ (by constructor<;>decide)).mono ?_;rintro e w1 ⟨rfl,rfl⟩))
   all_goals
    generalize rv s 4=q at*
    generalize rv s 16=b at*;go_wp2_with (first|(go_at_call 187;refine(HM.out _).mono ?_;rintro e w1 ⟨rfl,rfl⟩)|(go_at_call 84;refine(HV.out _ _ (by constructor<;>decide)).mono ?_;rintro e w1 ⟨rfl,rfl⟩));refine bodyPost_ret (v:=.tuple #[.agg #[int i64 0,int i64 0,string ⟨#[]⟩],int i64 6]) (by simp[results,results207,go_sem]) rfl ⟨by rw[HE.out],?_⟩;exact((Va _).alloc (by simp) _).drew
  ·
   go_enter func207,ntmps207;go_wp2_with fail;go_region_held3 (λV=>True) (trivial) ((go_at_call 84;refine(HV.out _ _ (by constructor<;>decide)).mono ?_;rintro e w1 ⟨rfl,rfl⟩))
   all_goals
    generalize rv s 4=q at*
    generalize rv s 16=b at*;go_wp2_with (first|(go_at_call 187;refine(HM.out _).mono ?_;rintro e w1 ⟨rfl,rfl⟩)|(go_at_call 84;refine(HV.out _ _ (by constructor<;>decide)).mono ?_;rintro e w1 ⟨rfl,rfl⟩));refine bodyPost_ret (v:=.tuple #[.agg #[int i64 0,int i64 0,string ⟨#[]⟩],int i64 6]) (by simp[results,results207,go_sem]) rfl ⟨by rw[HE.out],?_⟩;exact((Va _).alloc (by simp) _).drew
end Go.Proofs.YtgaoeoijdpdjiabGreatDoor
