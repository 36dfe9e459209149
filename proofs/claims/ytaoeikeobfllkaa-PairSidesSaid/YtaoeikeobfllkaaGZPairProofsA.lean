/- The laws of layer 19: the last steps. -/
import Derived.Test.YtaoeikeobfllkaaGBase
import Derived.Test.YtaoeikeobfllkaaGOpen
import Derived.Test.YtaoeikeobfllkaaGZPairOn
import Derived.Test.YtaoeikeobfllkaaGZPairAll
import Derived.Test.YtaoeikeobfllkaaGZPairSides
import Derived.Test.YtaoeikeobfllkaaGZPairSums
import Derived.Test.YtaoeikeobfllkaaGZPairTells
import Derived.ProofKit
import Derived.OpenShut
namespace Go.Proofs.Ytaoeikeobfllkaa
open Go.ChangeShapes Go.WideShapes Go.ChangeAt Go.RowKit
set_option maxRecDepth 100000 in
theorem pairTells_lifted (os:Os)(started:os.Started)(H:Type)(enc:TypeId×Value→H) :
  ReturnsInHanded {} Try.checked os 3 .any (Rows.pairTellsSpec.pre6 enc Try.prog Try.f3 Rows.pairTellsRow.domain false) (Rows.pairTellsSpec.post enc Try.prog Try.f3 false true false false):=by
 refine returnsInHanded_of_change (C:=Try.checked) Try.own started (by kernel_rfl) Try.func3
  (ChangeSpec.witness6 (enc:=enc) (C:=Try.checked) false ⟨#[],#[.slice none 0 0,.slice none 0 0,.slice none 0 0],[]⟩ 8 (by kernel_rfl) (by kernel_rfl) (by kernel_rfl) (by kernel_rfl)) ?_
 intro W base args ds gs before hval0 hW hcnd _
 have hval:∀ (j:Nat) t v,Try.f3.params[j]? = some t→args[j]? = some v→Value.okWide Try.prog W .any base t v:=hval0
 have hW':=hW
 obtain ⟨p,q,hA0,hV,rfl,hfz,hnd⟩:=hW
 have hA:DataW.TrodAll enc Try.prog W 0 (fun _=>true) true Try.f3.params.toList args.toList ds p:=hA0
 rw [Try.params3] at hA hval
 obtain ⟨v0,v1,v2,d0,d1,d2,p0,p1,p2,rfl,rfl,rfl,h0,h1,h2⟩:=trodAll_three hA
 obtain ⟨rfl,rfl⟩:=trodVars_none hV
 obtain ⟨l,hin_l,hr_l⟩:=open_times_in (P:=Try.prog) Try.underlying22 Try.underlying29 rfl rfl rfl rfl Try.underlying27 Try.underlying9 (by kernel_rfl) Try.underlying3 (by kernel_rfl) (by kernel_rfl) (by kernel_rfl) (hval 0 22 _ rfl rfl) h0
 obtain ⟨m,hin_m,hr_m⟩:=open_times_in (P:=Try.prog) Try.underlying22 Try.underlying29 rfl rfl rfl rfl Try.underlying27 Try.underlying9 (by kernel_rfl) Try.underlying3 (by kernel_rfl) (by kernel_rfl) (by kernel_rfl) (hval 1 22 _ rfl rfl) h1
 obtain ⟨on,hin_on⟩:=open_on_in (P:=Try.prog) Try.underlying23 Try.underlying33 Try.underlying3 (by kernel_rfl) (by kernel_rfl) (hval 2 23 _ rfl rfl) h2
 refine Calls.mono (pairTells_calls hin_l hin_m hin_on) fun e W' ⟨he,hw⟩=>?_
 subst he
 exact ⟨_,rfl,law_post (P:=Try.prog) (tb:=4) Try.laidOut (by kernel_rfl) (by kernel_rfl) Try.underlying4 rfl hW' hw rfl⟩
theorem pairTells_holds:Rows.PairTellsSaid :=
 OpenClaim.holds_of_wide 3 Try.f3 rfl rfl rfl rfl rfl rfl rfl ⟨rfl,rfl,rfl,rfl,rfl⟩ rfl rfl rfl rfl rfl (by kernel_rfl) Try.func3 (by kernel_rfl)
  (of_decide_eq_true (by kernel_rfl)) (by unfold Func.isWrapper;first|(rw [if_pos (by decide +kernel)];kernel_rfl)|(rw [if_neg (by decide +kernel)];exact ⟨rfl,rfl⟩))
  (fun os started H enc _=>pairTells_lifted os started H enc)
set_option maxRecDepth 100000 in
theorem pairSums_lifted (os:Os)(started:os.Started)(H:Type)(enc:TypeId×Value→H) :
  ReturnsInHanded {} Try.checked os 4 .any (Rows.pairSumsSpec.pre6 enc Try.prog Try.f4 Rows.pairSumsRow.domain false) (Rows.pairSumsSpec.post enc Try.prog Try.f4 false true false false):=by
 refine returnsInHanded_of_change (C:=Try.checked) Try.own started (by kernel_rfl) Try.func4
  (ChangeSpec.witness6 (enc:=enc) (C:=Try.checked) false ⟨#[],#[.slice none 0 0,.slice none 0 0,.slice none 0 0],[]⟩ 8 (by kernel_rfl) (by kernel_rfl) (by kernel_rfl) (by kernel_rfl)) ?_
 intro W base args ds gs before hval0 hW hcnd _
 have hval:∀ (j:Nat) t v,Try.f4.params[j]? = some t→args[j]? = some v→Value.okWide Try.prog W .any base t v:=hval0
 have hW':=hW
 obtain ⟨p,q,hA0,hV,rfl,hfz,hnd⟩:=hW
 have hA:DataW.TrodAll enc Try.prog W 0 (fun _=>true) true Try.f4.params.toList args.toList ds p:=hA0
 rw [Try.params4] at hA hval
 obtain ⟨v0,v1,v2,d0,d1,d2,p0,p1,p2,rfl,rfl,rfl,h0,h1,h2⟩:=trodAll_three hA
 obtain ⟨rfl,rfl⟩:=trodVars_none hV
 obtain ⟨l,hin_l,hr_l⟩:=open_times_in (P:=Try.prog) Try.underlying22 Try.underlying29 rfl rfl rfl rfl Try.underlying27 Try.underlying9 (by kernel_rfl) Try.underlying3 (by kernel_rfl) (by kernel_rfl) (by kernel_rfl) (hval 0 22 _ rfl rfl) h0
 obtain ⟨m,hin_m,hr_m⟩:=open_times_in (P:=Try.prog) Try.underlying22 Try.underlying29 rfl rfl rfl rfl Try.underlying27 Try.underlying9 (by kernel_rfl) Try.underlying3 (by kernel_rfl) (by kernel_rfl) (by kernel_rfl) (hval 1 22 _ rfl rfl) h1
 obtain ⟨o,hin_o,hr_o⟩:=open_times_in (P:=Try.prog) Try.underlying22 Try.underlying29 rfl rfl rfl rfl Try.underlying27 Try.underlying9 (by kernel_rfl) Try.underlying3 (by kernel_rfl) (by kernel_rfl) (by kernel_rfl) (hval 2 22 _ rfl rfl) h2
 refine Calls.mono (pairSums_calls hin_l hin_m hin_o) fun e W' ⟨he,hw⟩=>?_
 subst he
 exact ⟨_,rfl,law_post (P:=Try.prog) (tb:=4) Try.laidOut (by kernel_rfl) (by kernel_rfl) Try.underlying4 rfl hW' hw rfl⟩
theorem pairSums_holds:Rows.PairSumsSaid :=
 OpenClaim.holds_of_wide 4 Try.f4 rfl rfl rfl rfl rfl rfl rfl ⟨rfl,rfl,rfl,rfl,rfl⟩ rfl rfl rfl rfl rfl (by kernel_rfl) Try.func4 (by kernel_rfl)
  (of_decide_eq_true (by kernel_rfl)) (by unfold Func.isWrapper;first|(rw [if_pos (by decide +kernel)];kernel_rfl)|(rw [if_neg (by decide +kernel)];exact ⟨rfl,rfl⟩))
  (fun os started H enc _=>pairSums_lifted os started H enc)
set_option maxRecDepth 100000 in
theorem pairSides_lifted (os:Os)(started:os.Started)(H:Type)(enc:TypeId×Value→H) :
  ReturnsInHanded {} Try.checked os 5 .any (Rows.pairSidesSpec.pre6 enc Try.prog Try.f5 Rows.pairSidesRow.domain false) (Rows.pairSidesSpec.post enc Try.prog Try.f5 false true false false):=by
 refine returnsInHanded_of_change (C:=Try.checked) Try.own started (by kernel_rfl) Try.func5
  (ChangeSpec.witness6 (enc:=enc) (C:=Try.checked) false ⟨#[],#[.slice none 0 0,.slice none 0 0,.slice none 0 0],[]⟩ 8 (by kernel_rfl) (by kernel_rfl) (by kernel_rfl) (by kernel_rfl)) ?_
 intro W base args ds gs before hval0 hW hcnd _
 have hval:∀ (j:Nat) t v,Try.f5.params[j]? = some t→args[j]? = some v→Value.okWide Try.prog W .any base t v:=hval0
 have hW':=hW
 obtain ⟨p,q,hA0,hV,rfl,hfz,hnd⟩:=hW
 have hA:DataW.TrodAll enc Try.prog W 0 (fun _=>true) true Try.f5.params.toList args.toList ds p:=hA0
 rw [Try.params5] at hA hval
 obtain ⟨v0,v1,v2,d0,d1,d2,p0,p1,p2,rfl,rfl,rfl,h0,h1,h2⟩:=trodAll_three hA
 obtain ⟨rfl,rfl⟩:=trodVars_none hV
 obtain ⟨l,hin_l,hr_l⟩:=open_times_in (P:=Try.prog) Try.underlying22 Try.underlying29 rfl rfl rfl rfl Try.underlying27 Try.underlying9 (by kernel_rfl) Try.underlying3 (by kernel_rfl) (by kernel_rfl) (by kernel_rfl) (hval 0 22 _ rfl rfl) h0
 obtain ⟨m,hin_m,hr_m⟩:=open_times_in (P:=Try.prog) Try.underlying22 Try.underlying29 rfl rfl rfl rfl Try.underlying27 Try.underlying9 (by kernel_rfl) Try.underlying3 (by kernel_rfl) (by kernel_rfl) (by kernel_rfl) (hval 1 22 _ rfl rfl) h1
 obtain ⟨on,hin_on⟩:=open_on_in (P:=Try.prog) Try.underlying23 Try.underlying33 Try.underlying3 (by kernel_rfl) (by kernel_rfl) (hval 2 23 _ rfl rfl) h2
 refine Calls.mono (pairSides_calls hin_l hin_m hin_on) fun e W' ⟨he,hw⟩=>?_
 subst he
 exact ⟨_,rfl,law_post (P:=Try.prog) (tb:=4) Try.laidOut (by kernel_rfl) (by kernel_rfl) Try.underlying4 rfl hW' hw rfl⟩
theorem pairSides_holds:Rows.PairSidesSaid :=
 OpenClaim.holds_of_wide 5 Try.f5 rfl rfl rfl rfl rfl rfl rfl ⟨rfl,rfl,rfl,rfl,rfl⟩ rfl rfl rfl rfl rfl (by kernel_rfl) Try.func5 (by kernel_rfl)
  (of_decide_eq_true (by kernel_rfl)) (by unfold Func.isWrapper;first|(rw [if_pos (by decide +kernel)];kernel_rfl)|(rw [if_neg (by decide +kernel)];exact ⟨rfl,rfl⟩))
  (fun os started H enc _=>pairSides_lifted os started H enc)
set_option maxRecDepth 100000 in
theorem pairAll_lifted (os:Os)(started:os.Started)(H:Type)(enc:TypeId×Value→H) :
  ReturnsInHanded {} Try.checked os 6 .any (Rows.pairAllSpec.pre6 enc Try.prog Try.f6 Rows.pairAllRow.domain false) (Rows.pairAllSpec.post enc Try.prog Try.f6 false true false false):=by
 refine returnsInHanded_of_change (C:=Try.checked) Try.own started (by kernel_rfl) Try.func6
  (ChangeSpec.witness6 (enc:=enc) (C:=Try.checked) false ⟨#[],#[.slice none 0 0,.slice none 0 0,.slice none 0 0],[]⟩ 8 (by kernel_rfl) (by kernel_rfl) (by kernel_rfl) (by kernel_rfl)) ?_
 intro W base args ds gs before hval0 hW hcnd _
 have hval:∀ (j:Nat) t v,Try.f6.params[j]? = some t→args[j]? = some v→Value.okWide Try.prog W .any base t v:=hval0
 have hW':=hW
 obtain ⟨p,q,hA0,hV,rfl,hfz,hnd⟩:=hW
 have hA:DataW.TrodAll enc Try.prog W 0 (fun _=>true) true Try.f6.params.toList args.toList ds p:=hA0
 rw [Try.params6] at hA hval
 obtain ⟨v0,v1,v2,d0,d1,d2,p0,p1,p2,rfl,rfl,rfl,h0,h1,h2⟩:=trodAll_three hA
 obtain ⟨rfl,rfl⟩:=trodVars_none hV
 obtain ⟨l,hin_l,hr_l⟩:=open_times_in (P:=Try.prog) Try.underlying22 Try.underlying29 rfl rfl rfl rfl Try.underlying27 Try.underlying9 (by kernel_rfl) Try.underlying3 (by kernel_rfl) (by kernel_rfl) (by kernel_rfl) (hval 0 22 _ rfl rfl) h0
 obtain ⟨m,hin_m,hr_m⟩:=open_times_in (P:=Try.prog) Try.underlying22 Try.underlying29 rfl rfl rfl rfl Try.underlying27 Try.underlying9 (by kernel_rfl) Try.underlying3 (by kernel_rfl) (by kernel_rfl) (by kernel_rfl) (hval 1 22 _ rfl rfl) h1
 obtain ⟨on,hin_on⟩:=open_on_in (P:=Try.prog) Try.underlying23 Try.underlying33 Try.underlying3 (by kernel_rfl) (by kernel_rfl) (hval 2 23 _ rfl rfl) h2
 refine Calls.mono (pairAll_calls hin_l hin_m hin_on) fun e W' ⟨he,hw⟩=>?_
 subst he
 exact ⟨_,rfl,law_post (P:=Try.prog) (tb:=4) Try.laidOut (by kernel_rfl) (by kernel_rfl) Try.underlying4 rfl hW' hw rfl⟩
theorem pairAll_holds:Rows.PairAllSaid :=
 OpenClaim.holds_of_wide 6 Try.f6 rfl rfl rfl rfl rfl rfl rfl ⟨rfl,rfl,rfl,rfl,rfl⟩ rfl rfl rfl rfl rfl (by kernel_rfl) Try.func6 (by kernel_rfl)
  (of_decide_eq_true (by kernel_rfl)) (by unfold Func.isWrapper;first|(rw [if_pos (by decide +kernel)];kernel_rfl)|(rw [if_neg (by decide +kernel)];exact ⟨rfl,rfl⟩))
  (fun os started H enc _=>pairAll_lifted os started H enc)
end Go.Proofs.Ytaoeikeobfllkaa
