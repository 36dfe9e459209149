/- The last steps of the laws GroupPuts, GroupOnce, GroupCounts. -/
import Derived.Test.YtjbpbfhgjldliaaGOpen
import Derived.Test.YtjbpbfhgjldliaaGZGroupCounts
import Derived.Test.YtjbpbfhgjldliaaGZGroupOnce
import Derived.Test.YtjbpbfhgjldliaaGZGroupPutsLaw
import Derived.Test.YtjbpbfhgjldliaaGZOpenAggs
import Derived.ProofKit
import Derived.OpenShut
namespace Go.Proofs.Ytjbpbfhgjldliaa
open Go.ChangeShapes Go.WideShapes Go.ChangeAt Go.RowKit
set_option maxRecDepth 100000 in
theorem groupPuts_lifted (os:Os)(started:os.Started)(H:Type)(enc:TypeId×Value→H) :
  ReturnsInHanded {} Try.checked os 3 .any (Rows.groupPutsSpec.pre6 enc Try.prog Try.f3 Rows.groupPutsRow.domain false) (Rows.groupPutsSpec.post enc Try.prog Try.f3 false true false false):=by
 refine returnsInHanded_of_change (C:=Try.checked) Try.own started (by kernel_rfl) Try.func3
  (ChangeSpec.witness6 (enc:=enc) (C:=Try.checked) false ⟨#[],#[.slice none 0 0,.slice none 0 0,.slice none 0 0],[]⟩ 8 (by kernel_rfl) (by kernel_rfl) (by kernel_rfl) (by kernel_rfl)) ?_
 intro W base args ds gs before hval0 hW hcnd _
 have hval:∀ (j:Nat) t v,Try.f3.params[j]? = some t→args[j]? = some v→Value.okWide Try.prog W .any base t v:=hval0
 have hW':=hW
 obtain ⟨p,q,hA0,hV,rfl,hfz,hnd⟩:=hW
 have hA:DataW.TrodAll enc Try.prog W 0 (fun _=>true) true Try.f3.params.toList args.toList ds p:=hA0
 rw [Try.params3] at hA hval
 obtain ⟨v0,v1,v2,d0,d1,d2,p0,p1,p2,rfl,rfl,rfl,h0,h1,h2⟩:=trodAll_three hA
 obtain ⟨rfl,rfl⟩:=trodVars_none hV
 obtain ⟨key,hin_key,hr_key⟩:=open_strs_in (P:=Try.prog) Try.underlying22 Try.underlying9 (by kernel_rfl) (hval 0 22 _ rfl rfl) h0
 obtain ⟨gs,hin_gs⟩:=open_aggs_in (P:=Try.prog) Try.underlying23 Try.underlying49 rfl rfl rfl rfl Try.underlying3 Try.underlying3 (by kernel_rfl) (by kernel_rfl) (by kernel_rfl) (hval 1 23 _ rfl rfl) h1
 obtain ⟨l,hin_l,hr_l⟩:=open_times_in (P:=Try.prog) Try.underlying24 Try.underlying33 rfl rfl rfl rfl Try.underlying22 Try.underlying9 (by kernel_rfl) Try.underlying3 (by kernel_rfl) (by kernel_rfl) (by kernel_rfl) (hval 2 24 _ rfl rfl) h2
 refine Calls.mono (groupPuts_calls hin_key hin_gs hin_l) fun e W' ⟨he,hw⟩=>?_
 subst he
 exact ⟨_,rfl,law_post (P:=Try.prog) (tb:=4) Try.laidOut (by kernel_rfl) (by kernel_rfl) Try.underlying4 rfl hW' hw rfl⟩
theorem groupPuts_holds:Rows.GroupPutsSaid :=
 OpenClaim.holds_of_wide 3 Try.f3 rfl rfl rfl rfl rfl rfl rfl ⟨rfl,rfl,rfl,rfl,rfl⟩ rfl rfl rfl rfl rfl (by kernel_rfl) Try.func3 (by kernel_rfl)
  (of_decide_eq_true (by kernel_rfl)) (by unfold Func.isWrapper;first|(rw [if_pos (by decide +kernel)];kernel_rfl)|(rw [if_neg (by decide +kernel)];exact ⟨rfl,rfl⟩))
  (fun os started H enc _=>groupPuts_lifted os started H enc)
set_option maxRecDepth 100000 in
theorem groupOnce_lifted (os:Os)(started:os.Started)(H:Type)(enc:TypeId×Value→H) :
  ReturnsInHanded {} Try.checked os 4 .any (Rows.groupOnceSpec.pre6 enc Try.prog Try.f4 Rows.groupOnceRow.domain false) (Rows.groupOnceSpec.post enc Try.prog Try.f4 false true false false):=by
 refine returnsInHanded_of_change (C:=Try.checked) Try.own started (by kernel_rfl) Try.func4
  (ChangeSpec.witness6 (enc:=enc) (C:=Try.checked) false ⟨#[],#[.slice none 0 0,.slice none 0 0,.slice none 0 0],[]⟩ 8 (by kernel_rfl) (by kernel_rfl) (by kernel_rfl) (by kernel_rfl)) ?_
 intro W base args ds gs before hval0 hW hcnd _
 have hval:∀ (j:Nat) t v,Try.f4.params[j]? = some t→args[j]? = some v→Value.okWide Try.prog W .any base t v:=hval0
 have hW':=hW
 obtain ⟨p,q,hA0,hV,rfl,hfz,hnd⟩:=hW
 have hA:DataW.TrodAll enc Try.prog W 0 (fun _=>true) true Try.f4.params.toList args.toList ds p:=hA0
 rw [Try.params4] at hA hval
 obtain ⟨v0,v1,v2,d0,d1,d2,p0,p1,p2,rfl,rfl,rfl,h0,h1,h2⟩:=trodAll_three hA
 obtain ⟨rfl,rfl⟩:=trodVars_none hV
 obtain ⟨a,hin_a,hr_a⟩:=open_times_in (P:=Try.prog) Try.underlying24 Try.underlying33 rfl rfl rfl rfl Try.underlying22 Try.underlying9 (by kernel_rfl) Try.underlying3 (by kernel_rfl) (by kernel_rfl) (by kernel_rfl) (hval 0 24 _ rfl rfl) h0
 obtain ⟨b,hin_b,hr_b⟩:=open_times_in (P:=Try.prog) Try.underlying24 Try.underlying33 rfl rfl rfl rfl Try.underlying22 Try.underlying9 (by kernel_rfl) Try.underlying3 (by kernel_rfl) (by kernel_rfl) (by kernel_rfl) (hval 1 24 _ rfl rfl) h1
 obtain ⟨gs,hin_gs⟩:=open_aggs_in (P:=Try.prog) Try.underlying23 Try.underlying49 rfl rfl rfl rfl Try.underlying3 Try.underlying3 (by kernel_rfl) (by kernel_rfl) (by kernel_rfl) (hval 2 23 _ rfl rfl) h2
 refine Calls.mono (groupOnce_calls hin_a hin_b hin_gs) fun e W' ⟨he,hw⟩=>?_
 subst he
 exact ⟨_,rfl,law_post (P:=Try.prog) (tb:=4) Try.laidOut (by kernel_rfl) (by kernel_rfl) Try.underlying4 rfl hW' hw rfl⟩
theorem groupOnce_holds:Rows.GroupOnceSaid :=
 OpenClaim.holds_of_wide 4 Try.f4 rfl rfl rfl rfl rfl rfl rfl ⟨rfl,rfl,rfl,rfl,rfl⟩ rfl rfl rfl rfl rfl (by kernel_rfl) Try.func4 (by kernel_rfl)
  (of_decide_eq_true (by kernel_rfl)) (by unfold Func.isWrapper;first|(rw [if_pos (by decide +kernel)];kernel_rfl)|(rw [if_neg (by decide +kernel)];exact ⟨rfl,rfl⟩))
  (fun os started H enc _=>groupOnce_lifted os started H enc)
set_option maxRecDepth 100000 in
theorem groupCounts_lifted (os:Os)(started:os.Started)(H:Type)(enc:TypeId×Value→H) :
  ReturnsInHanded {} Try.checked os 5 .any (Rows.groupCountsSpec.pre6 enc Try.prog Try.f5 Rows.groupCountsRow.domain false) (Rows.groupCountsSpec.post enc Try.prog Try.f5 false true false false):=by
 refine returnsInHanded_of_change (C:=Try.checked) Try.own started (by kernel_rfl) Try.func5
  (ChangeSpec.witness6 (enc:=enc) (C:=Try.checked) false ⟨#[],#[.slice none 0 0,.slice none 0 0],[]⟩ 8 (by kernel_rfl) (by kernel_rfl) (by kernel_rfl) (by kernel_rfl)) ?_
 intro W base args ds gs before hval0 hW hcnd _
 have hval:∀ (j:Nat) t v,Try.f5.params[j]? = some t→args[j]? = some v→Value.okWide Try.prog W .any base t v:=hval0
 have hW':=hW
 obtain ⟨p,q,hA0,hV,rfl,hfz,hnd⟩:=hW
 have hA:DataW.TrodAll enc Try.prog W 0 (fun _=>true) true Try.f5.params.toList args.toList ds p:=hA0
 rw [Try.params5] at hA hval
 obtain ⟨v0,v1,d0,d1,p0,p1,rfl,rfl,rfl,h0,h1⟩:=trodAll_two hA
 obtain ⟨rfl,rfl⟩:=trodVars_none hV
 obtain ⟨l,hin_l⟩:=open_pieces_in (P:=Try.prog) Try.underlying45 (by kernel_rfl) Try.underlying24 Try.underlying33 rfl rfl rfl rfl Try.underlying22 Try.underlying9 (by kernel_rfl) Try.underlying3 (by kernel_rfl) (by kernel_rfl) (by kernel_rfl) (hval 0 45 _ rfl rfl) h0
 obtain ⟨gs,hin_gs⟩:=open_aggs_in (P:=Try.prog) Try.underlying23 Try.underlying49 rfl rfl rfl rfl Try.underlying3 Try.underlying3 (by kernel_rfl) (by kernel_rfl) (by kernel_rfl) (hval 1 23 _ rfl rfl) h1
 refine Calls.mono (groupCounts_calls hin_l hin_gs) fun e W' ⟨he,hw⟩=>?_
 subst he
 exact ⟨_,rfl,law_post (P:=Try.prog) (tb:=4) Try.laidOut (by kernel_rfl) (by kernel_rfl) Try.underlying4 rfl hW' hw rfl⟩
theorem groupCounts_holds:Rows.GroupCountsSaid :=
 OpenClaim.holds_of_wide 5 Try.f5 rfl rfl rfl rfl rfl rfl rfl ⟨rfl,rfl,rfl,rfl,rfl⟩ rfl rfl rfl rfl rfl (by kernel_rfl) Try.func5 (by kernel_rfl)
  (of_decide_eq_true (by kernel_rfl)) (by unfold Func.isWrapper;first|(rw [if_pos (by decide +kernel)];kernel_rfl)|(rw [if_neg (by decide +kernel)];exact ⟨rfl,rfl⟩))
  (fun os started H enc _=>groupCounts_lifted os started H enc)
end Go.Proofs.Ytjbpbfhgjldliaa
