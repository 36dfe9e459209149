/- Layer 14: the last step of TableBag. -/
import Derived.Test.YtafmbnafibahkaaGreatGOpen
import Derived.Test.YtafmbnafibahkaaGreatGZTableLawsF
import Derived.ProofKit
import Derived.OpenShut
namespace Go.Proofs.YtafmbnafibahkaaGreat
open Go.ChangeShapes Go.WideShapes Go.ChangeAt Go.RowKit
set_option maxRecDepth 100000 in
theorem tableBag_lifted (os:Os)(started:os.Started)(H:Type)(enc:TypeId×Value→H) :
  ReturnsInHanded {} Tryz.checked os 4 .any (Rows.tableBagSpec.pre6 enc Tryz.prog Tryz.f4 Rows.tableBagRow.domain false) (Rows.tableBagSpec.post enc Tryz.prog Tryz.f4 false true false false):=by
 refine returnsInHanded_of_change (C:=Tryz.checked) Tryz.own started (by kernel_rfl) Tryz.func4
  (ChangeSpec.witness6 (enc:=enc) (C:=Tryz.checked) false ⟨#[],#[.slice none 0 0,.slice none 0 0],[]⟩ 8 (by kernel_rfl) (by kernel_rfl) (by kernel_rfl) (by kernel_rfl)) ?_
 intro W base args ds gs before hval0 hW hcnd _
 have hval:∀ (j:Nat) t v,Tryz.f4.params[j]? = some t→args[j]? = some v→Value.okWide Tryz.prog W .any base t v:=hval0
 have hW':=hW
 obtain ⟨p,q,hA0,hV,rfl,hfz,hnd⟩:=hW
 have hA:DataW.TrodAll enc Tryz.prog W 0 (fun _=>true) true Tryz.f4.params.toList args.toList ds p:=hA0
 rw [Tryz.params4] at hA hval
 obtain ⟨v0,v1,d0,d1,p0,p1,rfl,rfl,rfl,h0,h1⟩:=trodAll_two hA
 obtain ⟨rfl,rfl⟩:=trodVars_none hV
 obtain ⟨cols,hin_cols⟩:=open_cols_in (P:=Tryz.prog) Tryz.underlying22 Tryz.underlying58 rfl rfl rfl rfl Tryz.underlying5 Tryz.underlying4 (by kernel_rfl) (by kernel_rfl) (by kernel_rfl) (hval 0 22 _ rfl rfl) h0
 obtain ⟨l,hin_l⟩:=open_acts_in (P:=Tryz.prog) Tryz.underlying23 Tryz.underlying35 rfl rfl rfl rfl Tryz.underlying3 (by kernel_rfl) (by kernel_rfl) (by kernel_rfl) Tryz.underlying26 Tryz.underlying46 rfl rfl rfl rfl Tryz.underlying44 Tryz.underlying9 (by kernel_rfl) Tryz.underlying3 (by kernel_rfl) (by kernel_rfl) (by kernel_rfl) (hval 1 23 _ rfl rfl) h1
 refine Calls.mono (tableBag_calls hin_cols hin_l) fun e W' ⟨he,hw⟩=>?_
 subst he
 exact ⟨_,rfl,law_post (P:=Tryz.prog) (tb:=4) Tryz.laidOut (by kernel_rfl) (by kernel_rfl) Tryz.underlying4 rfl hW' hw rfl⟩
theorem tableBag_holds:Rows.TableBagSaid :=
 OpenClaim.holds_of_wide 4 Tryz.f4 rfl rfl rfl rfl rfl rfl rfl ⟨rfl,rfl,rfl,rfl,rfl⟩ rfl rfl rfl rfl rfl (by kernel_rfl) Tryz.func4 (by kernel_rfl)
  (of_decide_eq_true (by kernel_rfl)) (by unfold Func.isWrapper;first|(rw [if_pos (by decide +kernel)];kernel_rfl)|(rw [if_neg (by decide +kernel)];exact ⟨rfl,rfl⟩))
  (fun os started H enc _=>tableBag_lifted os started H enc)
end Go.Proofs.YtafmbnafibahkaaGreat
