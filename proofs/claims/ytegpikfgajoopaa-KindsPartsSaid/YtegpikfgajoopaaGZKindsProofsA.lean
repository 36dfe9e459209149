/- The laws of layer 16 (kinds): each returns true, whatever it is given. -/
import Derived.Test.YtegpikfgajoopaaGOpen
import Derived.Test.YtegpikfgajoopaaGZKindsLawsB
import Derived.Test.YtegpikfgajoopaaGZKindsLawsC
import Derived.Test.YtegpikfgajoopaaGZKindsLawsD
import Derived.Test.YtegpikfgajoopaaGZKindsLawsE
import Derived.Test.YtegpikfgajoopaaGZOpenTerm
import Derived.ProofKit
import Derived.OpenShut
namespace Go.Proofs.Ytegpikfgajoopaa
open Go.ChangeShapes Go.WideShapes Go.ChangeAt Go.RowKit
set_option maxRecDepth 100000 in
theorem kindsTells_lifted (os:Os)(started:os.Started)(H:Type)(enc:TypeId×Value→H) :
  ReturnsInHanded {} Try.checked os 3 .any (Rows.kindsTellsSpec.pre6 enc Try.prog Try.f3 Rows.kindsTellsRow.domain false) (Rows.kindsTellsSpec.post enc Try.prog Try.f3 false true false false):=by
 refine returnsInHanded_of_change (C:=Try.checked) Try.own started (by kernel_rfl) Try.func3
  (ChangeSpec.witness6 (enc:=enc) (C:=Try.checked) false ⟨#[],#[.agg #[.int .u8 0,.int .i64 0,.string ⟨#[]⟩,.slice none 0 0],.slice none 0 0],[]⟩ 8 (by kernel_rfl) (by kernel_rfl) (by kernel_rfl) (by kernel_rfl)) ?_
 intro W base args ds gs before hval0 hW hcnd _
 have hval:∀ (j:Nat) t v,Try.f3.params[j]? = some t→args[j]? = some v→Value.okWide Try.prog W .any base t v:=hval0
 have hW':=hW
 obtain ⟨p,q,hA0,hV,rfl,hfz,hnd⟩:=hW
 have hA:DataW.TrodAll enc Try.prog W 0 (fun _=>true) true Try.f3.params.toList args.toList ds p:=hA0
 rw [Try.params3] at hA hval
 obtain ⟨v0,v1,d0,d1,p0,p1,rfl,rfl,rfl,h0,h1⟩:=trodAll_two hA
 obtain ⟨rfl,rfl⟩:=trodVars_none hV
 obtain ⟨t,hin_t⟩:=open_term (P:=Try.prog) ⟨Try.underlying22,Try.underlying24,rfl,rfl,rfl,rfl,rfl,rfl,rfl,rfl,Try.underlying5,Try.underlying3,Try.underlying9,(by kernel_rfl),(by kernel_rfl),(by kernel_rfl),(by kernel_rfl),(by kernel_rfl)⟩ (hval 0 24 _ rfl rfl) h0
 obtain ⟨cols,hin_cols⟩:=open_cols_in (P:=Try.prog) Try.underlying25 Try.underlying45 rfl rfl rfl rfl Try.underlying5 Try.underlying4 (by kernel_rfl) (by kernel_rfl) (by kernel_rfl) (hval 1 25 _ rfl rfl) h1
 refine Calls.mono (kindsTells_calls hin_t hin_cols) fun e W' ⟨he,hw⟩=>?_
 subst he
 exact ⟨_,rfl,law_post (P:=Try.prog) (tb:=4) Try.laidOut (by kernel_rfl) (by kernel_rfl) Try.underlying4 rfl hW' hw rfl⟩
theorem kindsTells_holds:Rows.KindsTellsSaid :=
 OpenClaim.holds_of_wide 3 Try.f3 rfl rfl rfl rfl rfl rfl rfl ⟨rfl,rfl,rfl,rfl,rfl⟩ rfl rfl rfl rfl rfl (by kernel_rfl) Try.func3 (by kernel_rfl)
  (of_decide_eq_true (by kernel_rfl)) (by unfold Func.isWrapper;first|(rw [if_pos (by decide +kernel)];kernel_rfl)|(rw [if_neg (by decide +kernel)];exact ⟨rfl,rfl⟩))
  (fun os started H enc _=>kindsTells_lifted os started H enc)
set_option maxRecDepth 100000 in
theorem kindsHold_lifted (os:Os)(started:os.Started)(H:Type)(enc:TypeId×Value→H) :
  ReturnsInHanded {} Try.checked os 4 .any (Rows.kindsHoldSpec.pre6 enc Try.prog Try.f4 Rows.kindsHoldRow.domain false) (Rows.kindsHoldSpec.post enc Try.prog Try.f4 false true false false):=by
 refine returnsInHanded_of_change (C:=Try.checked) Try.own started (by kernel_rfl) Try.func4
  (ChangeSpec.witness6 (enc:=enc) (C:=Try.checked) false ⟨#[],#[.agg #[.int .u8 0,.int .i64 0,.string ⟨#[]⟩,.slice none 0 0],.slice none 0 0,.slice none 0 0],[]⟩ 8 (by kernel_rfl) (by kernel_rfl) (by kernel_rfl) (by kernel_rfl)) ?_
 intro W base args ds gs before hval0 hW hcnd _
 have hval:∀ (j:Nat) t v,Try.f4.params[j]? = some t→args[j]? = some v→Value.okWide Try.prog W .any base t v:=hval0
 have hW':=hW
 obtain ⟨p,q,hA0,hV,rfl,hfz,hnd⟩:=hW
 have hA:DataW.TrodAll enc Try.prog W 0 (fun _=>true) true Try.f4.params.toList args.toList ds p:=hA0
 rw [Try.params4] at hA hval
 obtain ⟨v0,v1,v2,d0,d1,d2,p0,p1,p2,rfl,rfl,rfl,h0,h1,h2⟩:=trodAll_three hA
 obtain ⟨rfl,rfl⟩:=trodVars_none hV
 obtain ⟨t,hin_t⟩:=open_term (P:=Try.prog) ⟨Try.underlying22,Try.underlying24,rfl,rfl,rfl,rfl,rfl,rfl,rfl,rfl,Try.underlying5,Try.underlying3,Try.underlying9,(by kernel_rfl),(by kernel_rfl),(by kernel_rfl),(by kernel_rfl),(by kernel_rfl)⟩ (hval 0 24 _ rfl rfl) h0
 obtain ⟨cols,hin_cols⟩:=open_cols_in (P:=Try.prog) Try.underlying25 Try.underlying45 rfl rfl rfl rfl Try.underlying5 Try.underlying4 (by kernel_rfl) (by kernel_rfl) (by kernel_rfl) (hval 1 25 _ rfl rfl) h1
 obtain ⟨row,hin_row,hr_row⟩:=open_strs_in (P:=Try.prog) Try.underlying33 Try.underlying9 (by kernel_rfl) (hval 2 33 _ rfl rfl) h2
 refine Calls.mono (kindsHold_calls hin_t hin_cols hin_row) fun e W' ⟨he,hw⟩=>?_
 subst he
 exact ⟨_,rfl,law_post (P:=Try.prog) (tb:=4) Try.laidOut (by kernel_rfl) (by kernel_rfl) Try.underlying4 rfl hW' hw rfl⟩
theorem kindsHold_holds:Rows.KindsHoldSaid :=
 OpenClaim.holds_of_wide 4 Try.f4 rfl rfl rfl rfl rfl rfl rfl ⟨rfl,rfl,rfl,rfl,rfl⟩ rfl rfl rfl rfl rfl (by kernel_rfl) Try.func4 (by kernel_rfl)
  (of_decide_eq_true (by kernel_rfl)) (by unfold Func.isWrapper;first|(rw [if_pos (by decide +kernel)];kernel_rfl)|(rw [if_neg (by decide +kernel)];exact ⟨rfl,rfl⟩))
  (fun os started H enc _=>kindsHold_lifted os started H enc)
set_option maxRecDepth 100000 in
theorem kindsParts_lifted (os:Os)(started:os.Started)(H:Type)(enc:TypeId×Value→H) :
  ReturnsInHanded {} Try.checked os 5 .any (Rows.kindsPartsSpec.pre6 enc Try.prog Try.f5 Rows.kindsPartsRow.domain false) (Rows.kindsPartsSpec.post enc Try.prog Try.f5 false true false false):=by
 refine returnsInHanded_of_change (C:=Try.checked) Try.own started (by kernel_rfl) Try.func5
  (ChangeSpec.witness6 (enc:=enc) (C:=Try.checked) false ⟨#[],#[.agg #[.int .u8 0,.int .i64 0,.string ⟨#[]⟩,.slice none 0 0],.agg #[.int .u8 0,.int .i64 0,.string ⟨#[]⟩,.slice none 0 0],.slice none 0 0],[]⟩ 8 (by kernel_rfl) (by kernel_rfl) (by kernel_rfl) (by kernel_rfl)) ?_
 intro W base args ds gs before hval0 hW hcnd _
 have hval:∀ (j:Nat) t v,Try.f5.params[j]? = some t→args[j]? = some v→Value.okWide Try.prog W .any base t v:=hval0
 have hW':=hW
 obtain ⟨p,q,hA0,hV,rfl,hfz,hnd⟩:=hW
 have hA:DataW.TrodAll enc Try.prog W 0 (fun _=>true) true Try.f5.params.toList args.toList ds p:=hA0
 rw [Try.params5] at hA hval
 obtain ⟨v0,v1,v2,d0,d1,d2,p0,p1,p2,rfl,rfl,rfl,h0,h1,h2⟩:=trodAll_three hA
 obtain ⟨rfl,rfl⟩:=trodVars_none hV
 obtain ⟨a,hin_a⟩:=open_term (P:=Try.prog) ⟨Try.underlying22,Try.underlying24,rfl,rfl,rfl,rfl,rfl,rfl,rfl,rfl,Try.underlying5,Try.underlying3,Try.underlying9,(by kernel_rfl),(by kernel_rfl),(by kernel_rfl),(by kernel_rfl),(by kernel_rfl)⟩ (hval 0 24 _ rfl rfl) h0
 obtain ⟨b,hin_b⟩:=open_term (P:=Try.prog) ⟨Try.underlying22,Try.underlying24,rfl,rfl,rfl,rfl,rfl,rfl,rfl,rfl,Try.underlying5,Try.underlying3,Try.underlying9,(by kernel_rfl),(by kernel_rfl),(by kernel_rfl),(by kernel_rfl),(by kernel_rfl)⟩ (hval 1 24 _ rfl rfl) h1
 obtain ⟨cols,hin_cols⟩:=open_cols_in (P:=Try.prog) Try.underlying25 Try.underlying45 rfl rfl rfl rfl Try.underlying5 Try.underlying4 (by kernel_rfl) (by kernel_rfl) (by kernel_rfl) (hval 2 25 _ rfl rfl) h2
 refine Calls.mono (kindsParts_calls hin_a hin_b hin_cols) fun e W' ⟨he,hw⟩=>?_
 subst he
 exact ⟨_,rfl,law_post (P:=Try.prog) (tb:=4) Try.laidOut (by kernel_rfl) (by kernel_rfl) Try.underlying4 rfl hW' hw rfl⟩
theorem kindsParts_holds:Rows.KindsPartsSaid :=
 OpenClaim.holds_of_wide 5 Try.f5 rfl rfl rfl rfl rfl rfl rfl ⟨rfl,rfl,rfl,rfl,rfl⟩ rfl rfl rfl rfl rfl (by kernel_rfl) Try.func5 (by kernel_rfl)
  (of_decide_eq_true (by kernel_rfl)) (by unfold Func.isWrapper;first|(rw [if_pos (by decide +kernel)];kernel_rfl)|(rw [if_neg (by decide +kernel)];exact ⟨rfl,rfl⟩))
  (fun os started H enc _=>kindsParts_lifted os started H enc)
set_option maxRecDepth 100000 in
theorem kindsMore_lifted (os:Os)(started:os.Started)(H:Type)(enc:TypeId×Value→H) :
  ReturnsInHanded {} Try.checked os 6 .any (Rows.kindsMoreSpec.pre6 enc Try.prog Try.f6 Rows.kindsMoreRow.domain false) (Rows.kindsMoreSpec.post enc Try.prog Try.f6 false true false false):=by
 refine returnsInHanded_of_change (C:=Try.checked) Try.own started (by kernel_rfl) Try.func6
  (ChangeSpec.witness6 (enc:=enc) (C:=Try.checked) false ⟨#[],#[.agg #[.int .u8 0,.int .i64 0,.string ⟨#[]⟩,.slice none 0 0],.slice none 0 0,.slice none 0 0],[]⟩ 8 (by kernel_rfl) (by kernel_rfl) (by kernel_rfl) (by kernel_rfl)) ?_
 intro W base args ds gs before hval0 hW hcnd _
 have hval:∀ (j:Nat) t v,Try.f6.params[j]? = some t→args[j]? = some v→Value.okWide Try.prog W .any base t v:=hval0
 have hW':=hW
 obtain ⟨p,q,hA0,hV,rfl,hfz,hnd⟩:=hW
 have hA:DataW.TrodAll enc Try.prog W 0 (fun _=>true) true Try.f6.params.toList args.toList ds p:=hA0
 rw [Try.params6] at hA hval
 obtain ⟨v0,v1,v2,d0,d1,d2,p0,p1,p2,rfl,rfl,rfl,h0,h1,h2⟩:=trodAll_three hA
 obtain ⟨rfl,rfl⟩:=trodVars_none hV
 obtain ⟨t,hin_t⟩:=open_term (P:=Try.prog) ⟨Try.underlying22,Try.underlying24,rfl,rfl,rfl,rfl,rfl,rfl,rfl,rfl,Try.underlying5,Try.underlying3,Try.underlying9,(by kernel_rfl),(by kernel_rfl),(by kernel_rfl),(by kernel_rfl),(by kernel_rfl)⟩ (hval 0 24 _ rfl rfl) h0
 obtain ⟨cols,hin_cols⟩:=open_cols_in (P:=Try.prog) Try.underlying25 Try.underlying45 rfl rfl rfl rfl Try.underlying5 Try.underlying4 (by kernel_rfl) (by kernel_rfl) (by kernel_rfl) (hval 1 25 _ rfl rfl) h1
 obtain ⟨more,hin_more⟩:=open_cols_in (P:=Try.prog) Try.underlying25 Try.underlying45 rfl rfl rfl rfl Try.underlying5 Try.underlying4 (by kernel_rfl) (by kernel_rfl) (by kernel_rfl) (hval 2 25 _ rfl rfl) h2
 refine Calls.mono (kindsMore_calls hin_t hin_cols hin_more) fun e W' ⟨he,hw⟩=>?_
 subst he
 exact ⟨_,rfl,law_post (P:=Try.prog) (tb:=4) Try.laidOut (by kernel_rfl) (by kernel_rfl) Try.underlying4 rfl hW' hw rfl⟩
theorem kindsMore_holds:Rows.KindsMoreSaid :=
 OpenClaim.holds_of_wide 6 Try.f6 rfl rfl rfl rfl rfl rfl rfl ⟨rfl,rfl,rfl,rfl,rfl⟩ rfl rfl rfl rfl rfl (by kernel_rfl) Try.func6 (by kernel_rfl)
  (of_decide_eq_true (by kernel_rfl)) (by unfold Func.isWrapper;first|(rw [if_pos (by decide +kernel)];kernel_rfl)|(rw [if_neg (by decide +kernel)];exact ⟨rfl,rfl⟩))
  (fun os started H enc _=>kindsMore_lifted os started H enc)
end Go.Proofs.Ytegpikfgajoopaa
