/- The laws of layer 18: the last steps. -/
import Derived.Test.YtcofhnedidllpaaGBase
import Derived.Test.YtcofhnedidllpaaGOpen
import Derived.Test.YtcofhnedidllpaaGOpenT
import Derived.Test.YtcofhnedidllpaaGZSieveBoth
import Derived.Test.YtcofhnedidllpaaGZSieveCounts
import Derived.Test.YtcofhnedidllpaaGZSieveParts
import Derived.Test.YtcofhnedidllpaaGZSieveSums
import Derived.Test.YtcofhnedidllpaaGZSieveTells
import Derived.ProofKit
import Derived.OpenShut
namespace Go.Proofs.Ytcofhnedidllpaa
open Go.ChangeShapes Go.WideShapes Go.ChangeAt Go.RowKit
set_option maxRecDepth 100000 in
theorem sieveTells_lifted (os:Os)(started:os.Started)(H:Type)(enc:TypeId×Value→H) :
  ReturnsInHanded {} Try.checked os 3 .any (Rows.sieveTellsSpec.pre6 enc Try.prog Try.f3 Rows.sieveTellsRow.domain false) (Rows.sieveTellsSpec.post enc Try.prog Try.f3 false true false false):=by
 refine returnsInHanded_of_change (C:=Try.checked) Try.own started (by kernel_rfl) Try.func3
  (ChangeSpec.witness6 (enc:=enc) (C:=Try.checked) false ⟨#[],#[.slice none 0 0,.agg #[.int .u8 0,.int .i64 0,.string ⟨#[]⟩,.slice none 0 0],.slice none 0 0],[]⟩ 8 (by kernel_rfl) (by kernel_rfl) (by kernel_rfl) (by kernel_rfl)) ?_
 intro W base args ds gs before hval0 hW hcnd _
 have hval:∀ (j:Nat) t v,Try.f3.params[j]? = some t→args[j]? = some v→Value.okWide Try.prog W .any base t v:=hval0
 have hW':=hW
 obtain ⟨p,q,hA0,hV,rfl,hfz,hnd⟩:=hW
 have hA:DataW.TrodAll enc Try.prog W 0 (fun _=>true) true Try.f3.params.toList args.toList ds p:=hA0
 rw [Try.params3] at hA hval
 obtain ⟨v0,v1,v2,d0,d1,d2,p0,p1,p2,rfl,rfl,rfl,h0,h1,h2⟩:=trodAll_three hA
 obtain ⟨rfl,rfl⟩:=trodVars_none hV
 obtain ⟨l,hin_l,hr_l⟩:=open_times_in (P:=Try.prog) Try.underlying22 Try.underlying40 rfl rfl rfl rfl Try.underlying38 Try.underlying9 (by kernel_rfl) Try.underlying3 (by kernel_rfl) (by kernel_rfl) (by kernel_rfl) (hval 0 22 _ rfl rfl) h0
 obtain ⟨t,hin_t⟩:=open_term (P:=Try.prog) ⟨Try.underlying23,Try.underlying25,rfl,rfl,rfl,rfl,rfl,rfl,rfl,rfl,Try.underlying5,Try.underlying3,Try.underlying9,(by kernel_rfl),(by kernel_rfl),(by kernel_rfl),(by kernel_rfl),(by kernel_rfl)⟩ (hval 1 25 _ rfl rfl) h1
 obtain ⟨cols,hin_cols,hr_cols⟩:=open_ints_in (P:=Try.prog) Try.underlying26 Try.underlying3 (by kernel_rfl) (hval 2 26 _ rfl rfl) h2
 refine Calls.mono (sieveTells_calls hin_l hin_t hin_cols) fun e W' ⟨he,hw⟩=>?_
 subst he
 exact ⟨_,rfl,law_post (P:=Try.prog) (tb:=4) Try.laidOut (by kernel_rfl) (by kernel_rfl) Try.underlying4 rfl hW' hw rfl⟩
theorem sieveTells_holds:Rows.SieveTellsSaid :=
 OpenClaim.holds_of_wide 3 Try.f3 rfl rfl rfl rfl rfl rfl rfl ⟨rfl,rfl,rfl,rfl,rfl⟩ rfl rfl rfl rfl rfl (by kernel_rfl) Try.func3 (by kernel_rfl)
  (of_decide_eq_true (by kernel_rfl)) (by unfold Func.isWrapper;first|(rw [if_pos (by decide +kernel)];kernel_rfl)|(rw [if_neg (by decide +kernel)];exact ⟨rfl,rfl⟩))
  (fun os started H enc _=>sieveTells_lifted os started H enc)
set_option maxRecDepth 100000 in
theorem sieveSums_lifted (os:Os)(started:os.Started)(H:Type)(enc:TypeId×Value→H) :
  ReturnsInHanded {} Try.checked os 4 .any (Rows.sieveSumsSpec.pre6 enc Try.prog Try.f4 Rows.sieveSumsRow.domain false) (Rows.sieveSumsSpec.post enc Try.prog Try.f4 false true false false):=by
 refine returnsInHanded_of_change (C:=Try.checked) Try.own started (by kernel_rfl) Try.func4
  (ChangeSpec.witness6 (enc:=enc) (C:=Try.checked) false ⟨#[],#[.slice none 0 0,.slice none 0 0,.agg #[.int .u8 0,.int .i64 0,.string ⟨#[]⟩,.slice none 0 0]],[]⟩ 8 (by kernel_rfl) (by kernel_rfl) (by kernel_rfl) (by kernel_rfl)) ?_
 intro W base args ds gs before hval0 hW hcnd _
 have hval:∀ (j:Nat) t v,Try.f4.params[j]? = some t→args[j]? = some v→Value.okWide Try.prog W .any base t v:=hval0
 have hW':=hW
 obtain ⟨p,q,hA0,hV,rfl,hfz,hnd⟩:=hW
 have hA:DataW.TrodAll enc Try.prog W 0 (fun _=>true) true Try.f4.params.toList args.toList ds p:=hA0
 rw [Try.params4] at hA hval
 obtain ⟨v0,v1,v2,d0,d1,d2,p0,p1,p2,rfl,rfl,rfl,h0,h1,h2⟩:=trodAll_three hA
 obtain ⟨rfl,rfl⟩:=trodVars_none hV
 obtain ⟨l,hin_l,hr_l⟩:=open_times_in (P:=Try.prog) Try.underlying22 Try.underlying40 rfl rfl rfl rfl Try.underlying38 Try.underlying9 (by kernel_rfl) Try.underlying3 (by kernel_rfl) (by kernel_rfl) (by kernel_rfl) (hval 0 22 _ rfl rfl) h0
 obtain ⟨m,hin_m,hr_m⟩:=open_times_in (P:=Try.prog) Try.underlying22 Try.underlying40 rfl rfl rfl rfl Try.underlying38 Try.underlying9 (by kernel_rfl) Try.underlying3 (by kernel_rfl) (by kernel_rfl) (by kernel_rfl) (hval 1 22 _ rfl rfl) h1
 obtain ⟨t,hin_t⟩:=open_term (P:=Try.prog) ⟨Try.underlying23,Try.underlying25,rfl,rfl,rfl,rfl,rfl,rfl,rfl,rfl,Try.underlying5,Try.underlying3,Try.underlying9,(by kernel_rfl),(by kernel_rfl),(by kernel_rfl),(by kernel_rfl),(by kernel_rfl)⟩ (hval 2 25 _ rfl rfl) h2
 refine Calls.mono (sieveSums_calls hin_l hin_m hin_t) fun e W' ⟨he,hw⟩=>?_
 subst he
 exact ⟨_,rfl,law_post (P:=Try.prog) (tb:=4) Try.laidOut (by kernel_rfl) (by kernel_rfl) Try.underlying4 rfl hW' hw rfl⟩
theorem sieveSums_holds:Rows.SieveSumsSaid :=
 OpenClaim.holds_of_wide 4 Try.f4 rfl rfl rfl rfl rfl rfl rfl ⟨rfl,rfl,rfl,rfl,rfl⟩ rfl rfl rfl rfl rfl (by kernel_rfl) Try.func4 (by kernel_rfl)
  (of_decide_eq_true (by kernel_rfl)) (by unfold Func.isWrapper;first|(rw [if_pos (by decide +kernel)];kernel_rfl)|(rw [if_neg (by decide +kernel)];exact ⟨rfl,rfl⟩))
  (fun os started H enc _=>sieveSums_lifted os started H enc)
set_option maxRecDepth 100000 in
theorem sieveParts_lifted (os:Os)(started:os.Started)(H:Type)(enc:TypeId×Value→H) :
  ReturnsInHanded {} Try.checked os 5 .any (Rows.sievePartsSpec.pre6 enc Try.prog Try.f5 Rows.sievePartsRow.domain false) (Rows.sievePartsSpec.post enc Try.prog Try.f5 false true false false):=by
 refine returnsInHanded_of_change (C:=Try.checked) Try.own started (by kernel_rfl) Try.func5
  (ChangeSpec.witness6 (enc:=enc) (C:=Try.checked) false ⟨#[],#[.slice none 0 0,.agg #[.int .u8 0,.int .i64 0,.string ⟨#[]⟩,.slice none 0 0]],[]⟩ 8 (by kernel_rfl) (by kernel_rfl) (by kernel_rfl) (by kernel_rfl)) ?_
 intro W base args ds gs before hval0 hW hcnd _
 have hval:∀ (j:Nat) t v,Try.f5.params[j]? = some t→args[j]? = some v→Value.okWide Try.prog W .any base t v:=hval0
 have hW':=hW
 obtain ⟨p,q,hA0,hV,rfl,hfz,hnd⟩:=hW
 have hA:DataW.TrodAll enc Try.prog W 0 (fun _=>true) true Try.f5.params.toList args.toList ds p:=hA0
 rw [Try.params5] at hA hval
 obtain ⟨v0,v1,d0,d1,p0,p1,rfl,rfl,rfl,h0,h1⟩:=trodAll_two hA
 obtain ⟨rfl,rfl⟩:=trodVars_none hV
 obtain ⟨l,hin_l,hr_l⟩:=open_times_in (P:=Try.prog) Try.underlying22 Try.underlying40 rfl rfl rfl rfl Try.underlying38 Try.underlying9 (by kernel_rfl) Try.underlying3 (by kernel_rfl) (by kernel_rfl) (by kernel_rfl) (hval 0 22 _ rfl rfl) h0
 obtain ⟨t,hin_t⟩:=open_term (P:=Try.prog) ⟨Try.underlying23,Try.underlying25,rfl,rfl,rfl,rfl,rfl,rfl,rfl,rfl,Try.underlying5,Try.underlying3,Try.underlying9,(by kernel_rfl),(by kernel_rfl),(by kernel_rfl),(by kernel_rfl),(by kernel_rfl)⟩ (hval 1 25 _ rfl rfl) h1
 refine Calls.mono (sieveParts_calls hin_l hin_t) fun e W' ⟨he,hw⟩=>?_
 subst he
 exact ⟨_,rfl,law_post (P:=Try.prog) (tb:=4) Try.laidOut (by kernel_rfl) (by kernel_rfl) Try.underlying4 rfl hW' hw rfl⟩
theorem sieveParts_holds:Rows.SievePartsSaid :=
 OpenClaim.holds_of_wide 5 Try.f5 rfl rfl rfl rfl rfl rfl rfl ⟨rfl,rfl,rfl,rfl,rfl⟩ rfl rfl rfl rfl rfl (by kernel_rfl) Try.func5 (by kernel_rfl)
  (of_decide_eq_true (by kernel_rfl)) (by unfold Func.isWrapper;first|(rw [if_pos (by decide +kernel)];kernel_rfl)|(rw [if_neg (by decide +kernel)];exact ⟨rfl,rfl⟩))
  (fun os started H enc _=>sieveParts_lifted os started H enc)
set_option maxRecDepth 100000 in
theorem sieveCounts_lifted (os:Os)(started:os.Started)(H:Type)(enc:TypeId×Value→H) :
  ReturnsInHanded {} Try.checked os 6 .any (Rows.sieveCountsSpec.pre6 enc Try.prog Try.f6 Rows.sieveCountsRow.domain false) (Rows.sieveCountsSpec.post enc Try.prog Try.f6 false true false false):=by
 refine returnsInHanded_of_change (C:=Try.checked) Try.own started (by kernel_rfl) Try.func6
  (ChangeSpec.witness6 (enc:=enc) (C:=Try.checked) false ⟨#[],#[.slice none 0 0,.slice none 0 0],[]⟩ 8 (by kernel_rfl) (by kernel_rfl) (by kernel_rfl) (by kernel_rfl)) ?_
 intro W base args ds gs before hval0 hW hcnd _
 have hval:∀ (j:Nat) t v,Try.f6.params[j]? = some t→args[j]? = some v→Value.okWide Try.prog W .any base t v:=hval0
 have hW':=hW
 obtain ⟨p,q,hA0,hV,rfl,hfz,hnd⟩:=hW
 have hA:DataW.TrodAll enc Try.prog W 0 (fun _=>true) true Try.f6.params.toList args.toList ds p:=hA0
 rw [Try.params6] at hA hval
 obtain ⟨v0,v1,d0,d1,p0,p1,rfl,rfl,rfl,h0,h1⟩:=trodAll_two hA
 obtain ⟨rfl,rfl⟩:=trodVars_none hV
 obtain ⟨l,hin_l,hr_l⟩:=open_times_in (P:=Try.prog) Try.underlying22 Try.underlying40 rfl rfl rfl rfl Try.underlying38 Try.underlying9 (by kernel_rfl) Try.underlying3 (by kernel_rfl) (by kernel_rfl) (by kernel_rfl) (hval 0 22 _ rfl rfl) h0
 obtain ⟨cols,hin_cols,hr_cols⟩:=open_ints_in (P:=Try.prog) Try.underlying26 Try.underlying3 (by kernel_rfl) (hval 1 26 _ rfl rfl) h1
 refine Calls.mono (sieveCounts_calls hin_l hin_cols) fun e W' ⟨he,hw⟩=>?_
 subst he
 exact ⟨_,rfl,law_post (P:=Try.prog) (tb:=4) Try.laidOut (by kernel_rfl) (by kernel_rfl) Try.underlying4 rfl hW' hw rfl⟩
theorem sieveCounts_holds:Rows.SieveCountsSaid :=
 OpenClaim.holds_of_wide 6 Try.f6 rfl rfl rfl rfl rfl rfl rfl ⟨rfl,rfl,rfl,rfl,rfl⟩ rfl rfl rfl rfl rfl (by kernel_rfl) Try.func6 (by kernel_rfl)
  (of_decide_eq_true (by kernel_rfl)) (by unfold Func.isWrapper;first|(rw [if_pos (by decide +kernel)];kernel_rfl)|(rw [if_neg (by decide +kernel)];exact ⟨rfl,rfl⟩))
  (fun os started H enc _=>sieveCounts_lifted os started H enc)
set_option maxRecDepth 100000 in
theorem sieveBoth_lifted (os:Os)(started:os.Started)(H:Type)(enc:TypeId×Value→H) :
  ReturnsInHanded {} Try.checked os 7 .any (Rows.sieveBothSpec.pre6 enc Try.prog Try.f7 Rows.sieveBothRow.domain false) (Rows.sieveBothSpec.post enc Try.prog Try.f7 false true false false):=by
 refine returnsInHanded_of_change (C:=Try.checked) Try.own started (by kernel_rfl) Try.func7
  (ChangeSpec.witness6 (enc:=enc) (C:=Try.checked) false ⟨#[],#[.slice none 0 0,.agg #[.int .u8 0,.int .i64 0,.string ⟨#[]⟩,.slice none 0 0],.agg #[.int .u8 0,.int .i64 0,.string ⟨#[]⟩,.slice none 0 0]],[]⟩ 8 (by kernel_rfl) (by kernel_rfl) (by kernel_rfl) (by kernel_rfl)) ?_
 intro W base args ds gs before hval0 hW hcnd _
 have hval:∀ (j:Nat) t v,Try.f7.params[j]? = some t→args[j]? = some v→Value.okWide Try.prog W .any base t v:=hval0
 have hW':=hW
 obtain ⟨p,q,hA0,hV,rfl,hfz,hnd⟩:=hW
 have hA:DataW.TrodAll enc Try.prog W 0 (fun _=>true) true Try.f7.params.toList args.toList ds p:=hA0
 rw [Try.params7] at hA hval
 obtain ⟨v0,v1,v2,d0,d1,d2,p0,p1,p2,rfl,rfl,rfl,h0,h1,h2⟩:=trodAll_three hA
 obtain ⟨rfl,rfl⟩:=trodVars_none hV
 obtain ⟨l,hin_l,hr_l⟩:=open_times_in (P:=Try.prog) Try.underlying22 Try.underlying40 rfl rfl rfl rfl Try.underlying38 Try.underlying9 (by kernel_rfl) Try.underlying3 (by kernel_rfl) (by kernel_rfl) (by kernel_rfl) (hval 0 22 _ rfl rfl) h0
 obtain ⟨a,hin_a⟩:=open_term (P:=Try.prog) ⟨Try.underlying23,Try.underlying25,rfl,rfl,rfl,rfl,rfl,rfl,rfl,rfl,Try.underlying5,Try.underlying3,Try.underlying9,(by kernel_rfl),(by kernel_rfl),(by kernel_rfl),(by kernel_rfl),(by kernel_rfl)⟩ (hval 1 25 _ rfl rfl) h1
 obtain ⟨b,hin_b⟩:=open_term (P:=Try.prog) ⟨Try.underlying23,Try.underlying25,rfl,rfl,rfl,rfl,rfl,rfl,rfl,rfl,Try.underlying5,Try.underlying3,Try.underlying9,(by kernel_rfl),(by kernel_rfl),(by kernel_rfl),(by kernel_rfl),(by kernel_rfl)⟩ (hval 2 25 _ rfl rfl) h2
 refine Calls.mono (sieveBoth_calls hin_l hin_a hin_b) fun e W' ⟨he,hw⟩=>?_
 subst he
 exact ⟨_,rfl,law_post (P:=Try.prog) (tb:=4) Try.laidOut (by kernel_rfl) (by kernel_rfl) Try.underlying4 rfl hW' hw rfl⟩
theorem sieveBoth_holds:Rows.SieveBothSaid :=
 OpenClaim.holds_of_wide 7 Try.f7 rfl rfl rfl rfl rfl rfl rfl ⟨rfl,rfl,rfl,rfl,rfl⟩ rfl rfl rfl rfl rfl (by kernel_rfl) Try.func7 (by kernel_rfl)
  (of_decide_eq_true (by kernel_rfl)) (by unfold Func.isWrapper;first|(rw [if_pos (by decide +kernel)];kernel_rfl)|(rw [if_neg (by decide +kernel)];exact ⟨rfl,rfl⟩))
  (fun os started H enc _=>sieveBoth_lifted os started H enc)
end Go.Proofs.Ytcofhnedidllpaa
