/- The last step of the law GroupKeeps. -/
import Derived.Test.YtjbpbfhgjldliaaGreatGOpen
import Derived.Test.YtjbpbfhgjldliaaGreatGZGroupKeeps
import Derived.Test.YtjbpbfhgjldliaaGreatGZOpenAggs
import Derived.ProofKit
import Derived.OpenShut
namespace Go.Proofs.YtjbpbfhgjldliaaGreat
open Go.ChangeShapes Go.WideShapes Go.ChangeAt Go.RowKit
set_option maxRecDepth 100000 in
theorem groupKeeps_lifted (os:Os)(started:os.Started)(H:Type)(enc:TypeId×Value→H) :
  ReturnsInHanded {} Tryz.checked os 3 .any (Rows.groupKeepsSpec.pre6 enc Tryz.prog Tryz.f3 Rows.groupKeepsRow.domain false) (Rows.groupKeepsSpec.post enc Tryz.prog Tryz.f3 false true false false):=by
 refine returnsInHanded_of_change (C:=Tryz.checked) Tryz.own started (by kernel_rfl) Tryz.func3
  (ChangeSpec.witness6 (enc:=enc) (C:=Tryz.checked) false ⟨#[],#[.slice none 0 0,.slice none 0 0,.slice none 0 0],[]⟩ 8 (by kernel_rfl) (by kernel_rfl) (by kernel_rfl) (by kernel_rfl)) ?_
 intro W base args ds gs before hval0 hW hcnd _
 have hval:∀ (j:Nat) t v,Tryz.f3.params[j]? = some t→args[j]? = some v→Value.okWide Tryz.prog W .any base t v:=hval0
 have hW':=hW
 obtain ⟨p,q,hA0,hV,rfl,hfz,hnd⟩:=hW
 have hA:DataW.TrodAll enc Tryz.prog W 0 (fun _=>true) true Tryz.f3.params.toList args.toList ds p:=hA0
 rw [Tryz.params3] at hA hval
 obtain ⟨v0,v1,v2,d0,d1,d2,p0,p1,p2,rfl,rfl,rfl,h0,h1,h2⟩:=trodAll_three hA
 obtain ⟨rfl,rfl⟩:=trodVars_none hV
 obtain ⟨l,hin_l⟩:=open_pieces_in (P:=Tryz.prog) Tryz.underlying22 (by kernel_rfl) Tryz.underlying30 Tryz.underlying49 rfl rfl rfl rfl Tryz.underlying41 Tryz.underlying9 (by kernel_rfl) Tryz.underlying3 (by kernel_rfl) (by kernel_rfl) (by kernel_rfl) (hval 0 22 _ rfl rfl) h0
 obtain ⟨by_,hin_by_,hr_by_⟩:=open_ints_in (P:=Tryz.prog) Tryz.underlying23 Tryz.underlying3 (by kernel_rfl) (hval 1 23 _ rfl rfl) h1
 obtain ⟨gs,hin_gs⟩:=open_aggs_in (P:=Tryz.prog) Tryz.underlying24 Tryz.underlying28 rfl rfl rfl rfl Tryz.underlying3 Tryz.underlying3 (by kernel_rfl) (by kernel_rfl) (by kernel_rfl) (hval 2 24 _ rfl rfl) h2
 refine Calls.mono (groupKeeps_calls hin_l hin_by_ hin_gs) fun e W' ⟨he,hw⟩=>?_
 subst he
 exact ⟨_,rfl,law_post (P:=Tryz.prog) (tb:=4) Tryz.laidOut (by kernel_rfl) (by kernel_rfl) Tryz.underlying4 rfl hW' hw rfl⟩
theorem groupKeeps_holds:Rows.GroupKeepsSaid :=
 OpenClaim.holds_of_wide 3 Tryz.f3 rfl rfl rfl rfl rfl rfl rfl ⟨rfl,rfl,rfl,rfl,rfl⟩ rfl rfl rfl rfl rfl (by kernel_rfl) Tryz.func3 (by kernel_rfl)
  (of_decide_eq_true (by kernel_rfl)) (by unfold Func.isWrapper;first|(rw [if_pos (by decide +kernel)];kernel_rfl)|(rw [if_neg (by decide +kernel)];exact ⟨rfl,rfl⟩))
  (fun os started H enc _=>groupKeeps_lifted os started H enc)
end Go.Proofs.YtjbpbfhgjldliaaGreat
