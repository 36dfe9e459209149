/- The laws of layer 17 (norm): each returns true, whatever it is given. -/
import Derived.Test.YtnkhkkdmjabhnaaGOpen
import Derived.Test.YtnkhkkdmjabhnaaGOpenT
import Derived.Test.YtnkhkkdmjabhnaaGZNormTells
import Derived.Test.YtnkhkkdmjabhnaaGZNormOrderLaw
import Derived.Test.YtnkhkkdmjabhnaaGZNormApart
import Derived.Test.YtnkhkkdmjabhnaaGZNormLess
import Derived.Test.YtnkhkkdmjabhnaaGZNormMeans
import Derived.ProofKit
import Derived.OpenShut
namespace Go.Proofs.Ytnkhkkdmjabhnaa
open Go.ChangeShapes Go.WideShapes Go.ChangeAt Go.RowKit
set_option maxRecDepth 100000 in
theorem normTells_lifted (os:Os)(started:os.Started)(H:Type)(enc:TypeId×Value→H) :
  ReturnsInHanded {} Try.checked os 3 .any (Rows.normTellsSpec.pre6 enc Try.prog Try.f3 Rows.normTellsRow.domain false) (Rows.normTellsSpec.post enc Try.prog Try.f3 false true false false):=by
 refine returnsInHanded_of_change (C:=Try.checked) Try.own started (by kernel_rfl) Try.func3
  (ChangeSpec.witness6 (enc:=enc) (C:=Try.checked) false ⟨#[],#[.agg #[.int .u8 0,.int .i64 0,.string ⟨#[]⟩,.slice none 0 0],.slice none 0 0],[]⟩ 8 (by kernel_rfl) (by kernel_rfl) (by kernel_rfl) (by kernel_rfl)) ?_
 intro W base args ds gs before hval0 hW hcnd _
 have hval:∀ (j:Nat) t v,Try.f3.params[j]? = some t→args[j]? = some v→Value.okWide Try.prog W .any base t v:=hval0
 have hW':=hW
 obtain ⟨p,q,hA0,hV,rfl,hfz,hnd⟩:=hW
 have hA:DataW.TrodAll enc Try.prog W 0 (fun _=>true) true Try.f3.params.toList args.toList ds p:=hA0
 rw [Try.params3] at hA hval
 obtain ⟨v0,v1,d0,d1,p0,p1,rfl,rfl,rfl,h0,h1⟩:=trodAll_two hA
 obtain ⟨rfl,rfl⟩:=trodVars_none hV
 obtain ⟨t,hin_t⟩:=open_term (P:=Try.prog) ⟨Try.underlying22,Try.underlying24,rfl,rfl,rfl,rfl,rfl,rfl,rfl,rfl,Try.underlying5,Try.underlying3,Try.underlying9,(by kernel_rfl),(by kernel_rfl),(by kernel_rfl),(by kernel_rfl),(by kernel_rfl)⟩ (hval 0 24 _ rfl rfl) h0
 obtain ⟨l,hin_l⟩:=open_terms_in (P:=Try.prog) ⟨Try.underlying22,Try.underlying24,rfl,rfl,rfl,rfl,rfl,rfl,rfl,rfl,Try.underlying5,Try.underlying3,Try.underlying9,(by kernel_rfl),(by kernel_rfl),(by kernel_rfl),(by kernel_rfl),(by kernel_rfl)⟩ (hval 1 22 _ rfl rfl) h1
 refine Calls.mono (normTells_calls hin_t hin_l) fun e W' ⟨he,hw⟩=>?_
 subst he
 exact ⟨_,rfl,law_post (P:=Try.prog) (tb:=4) Try.laidOut (by kernel_rfl) (by kernel_rfl) Try.underlying4 rfl hW' hw rfl⟩
theorem normTells_holds:Rows.NormTellsSaid :=
 OpenClaim.holds_of_wide 3 Try.f3 rfl rfl rfl rfl rfl rfl rfl ⟨rfl,rfl,rfl,rfl,rfl⟩ rfl rfl rfl rfl rfl (by kernel_rfl) Try.func3 (by kernel_rfl)
  (of_decide_eq_true (by kernel_rfl)) (by unfold Func.isWrapper;first|(rw [if_pos (by decide +kernel)];kernel_rfl)|(rw [if_neg (by decide +kernel)];exact ⟨rfl,rfl⟩))
  (fun os started H enc _=>normTells_lifted os started H enc)
set_option maxRecDepth 100000 in
theorem normMeans_lifted (os:Os)(started:os.Started)(H:Type)(enc:TypeId×Value→H) :
  ReturnsInHanded {} Try.checked os 4 .any (Rows.normMeansSpec.pre6 enc Try.prog Try.f4 Rows.normMeansRow.domain false) (Rows.normMeansSpec.post enc Try.prog Try.f4 false true false false):=by
 refine returnsInHanded_of_change (C:=Try.checked) Try.own started (by kernel_rfl) Try.func4
  (ChangeSpec.witness6 (enc:=enc) (C:=Try.checked) false ⟨#[],#[.agg #[.int .u8 0,.int .i64 0,.string ⟨#[]⟩,.slice none 0 0],.slice none 0 0],[]⟩ 8 (by kernel_rfl) (by kernel_rfl) (by kernel_rfl) (by kernel_rfl)) ?_
 intro W base args ds gs before hval0 hW hcnd _
 have hval:∀ (j:Nat) t v,Try.f4.params[j]? = some t→args[j]? = some v→Value.okWide Try.prog W .any base t v:=hval0
 have hW':=hW
 obtain ⟨p,q,hA0,hV,rfl,hfz,hnd⟩:=hW
 have hA:DataW.TrodAll enc Try.prog W 0 (fun _=>true) true Try.f4.params.toList args.toList ds p:=hA0
 rw [Try.params4] at hA hval
 obtain ⟨v0,v1,d0,d1,p0,p1,rfl,rfl,rfl,h0,h1⟩:=trodAll_two hA
 obtain ⟨rfl,rfl⟩:=trodVars_none hV
 obtain ⟨t,hin_t⟩:=open_term (P:=Try.prog) ⟨Try.underlying22,Try.underlying24,rfl,rfl,rfl,rfl,rfl,rfl,rfl,rfl,Try.underlying5,Try.underlying3,Try.underlying9,(by kernel_rfl),(by kernel_rfl),(by kernel_rfl),(by kernel_rfl),(by kernel_rfl)⟩ (hval 0 24 _ rfl rfl) h0
 obtain ⟨row,hin_row,hr_row⟩:=open_strs_in (P:=Try.prog) Try.underlying34 Try.underlying9 (by kernel_rfl) (hval 1 34 _ rfl rfl) h1
 refine Calls.mono (normMeans_calls hin_t hin_row) fun e W' ⟨he,hw⟩=>?_
 subst he
 exact ⟨_,rfl,law_post (P:=Try.prog) (tb:=4) Try.laidOut (by kernel_rfl) (by kernel_rfl) Try.underlying4 rfl hW' hw rfl⟩
theorem normMeans_holds:Rows.NormMeansSaid :=
 OpenClaim.holds_of_wide 4 Try.f4 rfl rfl rfl rfl rfl rfl rfl ⟨rfl,rfl,rfl,rfl,rfl⟩ rfl rfl rfl rfl rfl (by kernel_rfl) Try.func4 (by kernel_rfl)
  (of_decide_eq_true (by kernel_rfl)) (by unfold Func.isWrapper;first|(rw [if_pos (by decide +kernel)];kernel_rfl)|(rw [if_neg (by decide +kernel)];exact ⟨rfl,rfl⟩))
  (fun os started H enc _=>normMeans_lifted os started H enc)
set_option maxRecDepth 100000 in
theorem normOrder_lifted (os:Os)(started:os.Started)(H:Type)(enc:TypeId×Value→H) :
  ReturnsInHanded {} Try.checked os 5 .any (Rows.normOrderSpec.pre6 enc Try.prog Try.f5 Rows.normOrderRow.domain false) (Rows.normOrderSpec.post enc Try.prog Try.f5 false true false false):=by
 refine returnsInHanded_of_change (C:=Try.checked) Try.own started (by kernel_rfl) Try.func5
  (ChangeSpec.witness6 (enc:=enc) (C:=Try.checked) false ⟨#[],#[.agg #[.int .u8 0,.int .i64 0,.string ⟨#[]⟩,.slice none 0 0],.agg #[.int .u8 0,.int .i64 0,.string ⟨#[]⟩,.slice none 0 0],.agg #[.int .u8 0,.int .i64 0,.string ⟨#[]⟩,.slice none 0 0]],[]⟩ 8 (by kernel_rfl) (by kernel_rfl) (by kernel_rfl) (by kernel_rfl)) ?_
 intro W base args ds gs before hval0 hW hcnd _
 have hval:∀ (j:Nat) t v,Try.f5.params[j]? = some t→args[j]? = some v→Value.okWide Try.prog W .any base t v:=hval0
 have hW':=hW
 obtain ⟨p,q,hA0,hV,rfl,hfz,hnd⟩:=hW
 have hA:DataW.TrodAll enc Try.prog W 0 (fun _=>true) true Try.f5.params.toList args.toList ds p:=hA0
 rw [Try.params5] at hA hval
 obtain ⟨v0,v1,v2,d0,d1,d2,p0,p1,p2,rfl,rfl,rfl,h0,h1,h2⟩:=trodAll_three hA
 obtain ⟨rfl,rfl⟩:=trodVars_none hV
 obtain ⟨a,hin_a⟩:=open_term (P:=Try.prog) ⟨Try.underlying22,Try.underlying24,rfl,rfl,rfl,rfl,rfl,rfl,rfl,rfl,Try.underlying5,Try.underlying3,Try.underlying9,(by kernel_rfl),(by kernel_rfl),(by kernel_rfl),(by kernel_rfl),(by kernel_rfl)⟩ (hval 0 24 _ rfl rfl) h0
 obtain ⟨b,hin_b⟩:=open_term (P:=Try.prog) ⟨Try.underlying22,Try.underlying24,rfl,rfl,rfl,rfl,rfl,rfl,rfl,rfl,Try.underlying5,Try.underlying3,Try.underlying9,(by kernel_rfl),(by kernel_rfl),(by kernel_rfl),(by kernel_rfl),(by kernel_rfl)⟩ (hval 1 24 _ rfl rfl) h1
 obtain ⟨c,hin_c⟩:=open_term (P:=Try.prog) ⟨Try.underlying22,Try.underlying24,rfl,rfl,rfl,rfl,rfl,rfl,rfl,rfl,Try.underlying5,Try.underlying3,Try.underlying9,(by kernel_rfl),(by kernel_rfl),(by kernel_rfl),(by kernel_rfl),(by kernel_rfl)⟩ (hval 2 24 _ rfl rfl) h2
 refine Calls.mono (normOrder_calls hin_a hin_b hin_c) fun e W' ⟨he,hw⟩=>?_
 subst he
 exact ⟨_,rfl,law_post (P:=Try.prog) (tb:=4) Try.laidOut (by kernel_rfl) (by kernel_rfl) Try.underlying4 rfl hW' hw rfl⟩
theorem normOrder_holds:Rows.NormOrderSaid :=
 OpenClaim.holds_of_wide 5 Try.f5 rfl rfl rfl rfl rfl rfl rfl ⟨rfl,rfl,rfl,rfl,rfl⟩ rfl rfl rfl rfl rfl (by kernel_rfl) Try.func5 (by kernel_rfl)
  (of_decide_eq_true (by kernel_rfl)) (by unfold Func.isWrapper;first|(rw [if_pos (by decide +kernel)];kernel_rfl)|(rw [if_neg (by decide +kernel)];exact ⟨rfl,rfl⟩))
  (fun os started H enc _=>normOrder_lifted os started H enc)
set_option maxRecDepth 100000 in
theorem normApart_lifted (os:Os)(started:os.Started)(H:Type)(enc:TypeId×Value→H) :
  ReturnsInHanded {} Try.checked os 6 .any (Rows.normApartSpec.pre6 enc Try.prog Try.f6 Rows.normApartRow.domain false) (Rows.normApartSpec.post enc Try.prog Try.f6 false true false false):=by
 refine returnsInHanded_of_change (C:=Try.checked) Try.own started (by kernel_rfl) Try.func6
  (ChangeSpec.witness6 (enc:=enc) (C:=Try.checked) false ⟨#[],#[.agg #[.int .u8 0,.int .i64 0,.string ⟨#[]⟩,.slice none 0 0],.agg #[.int .u8 0,.int .i64 0,.string ⟨#[]⟩,.slice none 0 0]],[]⟩ 8 (by kernel_rfl) (by kernel_rfl) (by kernel_rfl) (by kernel_rfl)) ?_
 intro W base args ds gs before hval0 hW hcnd _
 have hval:∀ (j:Nat) t v,Try.f6.params[j]? = some t→args[j]? = some v→Value.okWide Try.prog W .any base t v:=hval0
 have hW':=hW
 obtain ⟨p,q,hA0,hV,rfl,hfz,hnd⟩:=hW
 have hA:DataW.TrodAll enc Try.prog W 0 (fun _=>true) true Try.f6.params.toList args.toList ds p:=hA0
 rw [Try.params6] at hA hval
 obtain ⟨v0,v1,d0,d1,p0,p1,rfl,rfl,rfl,h0,h1⟩:=trodAll_two hA
 obtain ⟨rfl,rfl⟩:=trodVars_none hV
 obtain ⟨a,hin_a⟩:=open_term (P:=Try.prog) ⟨Try.underlying22,Try.underlying24,rfl,rfl,rfl,rfl,rfl,rfl,rfl,rfl,Try.underlying5,Try.underlying3,Try.underlying9,(by kernel_rfl),(by kernel_rfl),(by kernel_rfl),(by kernel_rfl),(by kernel_rfl)⟩ (hval 0 24 _ rfl rfl) h0
 obtain ⟨b,hin_b⟩:=open_term (P:=Try.prog) ⟨Try.underlying22,Try.underlying24,rfl,rfl,rfl,rfl,rfl,rfl,rfl,rfl,Try.underlying5,Try.underlying3,Try.underlying9,(by kernel_rfl),(by kernel_rfl),(by kernel_rfl),(by kernel_rfl),(by kernel_rfl)⟩ (hval 1 24 _ rfl rfl) h1
 refine Calls.mono (normApart_calls hin_a hin_b) fun e W' ⟨he,hw⟩=>?_
 subst he
 exact ⟨_,rfl,law_post (P:=Try.prog) (tb:=4) Try.laidOut (by kernel_rfl) (by kernel_rfl) Try.underlying4 rfl hW' hw rfl⟩
theorem normApart_holds:Rows.NormApartSaid :=
 OpenClaim.holds_of_wide 6 Try.f6 rfl rfl rfl rfl rfl rfl rfl ⟨rfl,rfl,rfl,rfl,rfl⟩ rfl rfl rfl rfl rfl (by kernel_rfl) Try.func6 (by kernel_rfl)
  (of_decide_eq_true (by kernel_rfl)) (by unfold Func.isWrapper;first|(rw [if_pos (by decide +kernel)];kernel_rfl)|(rw [if_neg (by decide +kernel)];exact ⟨rfl,rfl⟩))
  (fun os started H enc _=>normApart_lifted os started H enc)
set_option maxRecDepth 100000 in
theorem normLess_lifted (os:Os)(started:os.Started)(H:Type)(enc:TypeId×Value→H) :
  ReturnsInHanded {} Try.checked os 7 .any (Rows.normLessSpec.pre6 enc Try.prog Try.f7 Rows.normLessRow.domain false) (Rows.normLessSpec.post enc Try.prog Try.f7 false true false false):=by
 refine returnsInHanded_of_change (C:=Try.checked) Try.own started (by kernel_rfl) Try.func7
  (ChangeSpec.witness6 (enc:=enc) (C:=Try.checked) false ⟨#[],#[.agg #[.int .u8 0,.int .i64 0,.string ⟨#[]⟩,.slice none 0 0],.agg #[.int .u8 0,.int .i64 0,.string ⟨#[]⟩,.slice none 0 0]],[]⟩ 8 (by kernel_rfl) (by kernel_rfl) (by kernel_rfl) (by kernel_rfl)) ?_
 intro W base args ds gs before hval0 hW hcnd _
 have hval:∀ (j:Nat) t v,Try.f7.params[j]? = some t→args[j]? = some v→Value.okWide Try.prog W .any base t v:=hval0
 have hW':=hW
 obtain ⟨p,q,hA0,hV,rfl,hfz,hnd⟩:=hW
 have hA:DataW.TrodAll enc Try.prog W 0 (fun _=>true) true Try.f7.params.toList args.toList ds p:=hA0
 rw [Try.params7] at hA hval
 obtain ⟨v0,v1,d0,d1,p0,p1,rfl,rfl,rfl,h0,h1⟩:=trodAll_two hA
 obtain ⟨rfl,rfl⟩:=trodVars_none hV
 obtain ⟨a,hin_a⟩:=open_term (P:=Try.prog) ⟨Try.underlying22,Try.underlying24,rfl,rfl,rfl,rfl,rfl,rfl,rfl,rfl,Try.underlying5,Try.underlying3,Try.underlying9,(by kernel_rfl),(by kernel_rfl),(by kernel_rfl),(by kernel_rfl),(by kernel_rfl)⟩ (hval 0 24 _ rfl rfl) h0
 obtain ⟨b,hin_b⟩:=open_term (P:=Try.prog) ⟨Try.underlying22,Try.underlying24,rfl,rfl,rfl,rfl,rfl,rfl,rfl,rfl,Try.underlying5,Try.underlying3,Try.underlying9,(by kernel_rfl),(by kernel_rfl),(by kernel_rfl),(by kernel_rfl),(by kernel_rfl)⟩ (hval 1 24 _ rfl rfl) h1
 refine Calls.mono (normLess_calls hin_a hin_b) fun e W' ⟨he,hw⟩=>?_
 subst he
 exact ⟨_,rfl,law_post (P:=Try.prog) (tb:=4) Try.laidOut (by kernel_rfl) (by kernel_rfl) Try.underlying4 rfl hW' hw rfl⟩
theorem normLess_holds:Rows.NormLessSaid :=
 OpenClaim.holds_of_wide 7 Try.f7 rfl rfl rfl rfl rfl rfl rfl ⟨rfl,rfl,rfl,rfl,rfl⟩ rfl rfl rfl rfl rfl (by kernel_rfl) Try.func7 (by kernel_rfl)
  (of_decide_eq_true (by kernel_rfl)) (by unfold Func.isWrapper;first|(rw [if_pos (by decide +kernel)];kernel_rfl)|(rw [if_neg (by decide +kernel)];exact ⟨rfl,rfl⟩))
  (fun os started H enc _=>normLess_lifted os started H enc)
end Go.Proofs.Ytnkhkkdmjabhnaa
