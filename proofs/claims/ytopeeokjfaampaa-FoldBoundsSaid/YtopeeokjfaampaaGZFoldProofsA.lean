/- The last steps of the laws FoldRolls, FoldBounds, FoldOrder. -/
import Derived.Test.YtopeeokjfaampaaGOpen
import Derived.Test.YtopeeokjfaampaaGZFoldBounds
import Derived.Test.YtopeeokjfaampaaGZFoldOrder
import Derived.Test.YtopeeokjfaampaaGZOpenAggs
import Derived.ProofKit
import Derived.OpenShut
namespace Go.Proofs.Ytopeeokjfaampaa
open Go.ChangeShapes Go.WideShapes Go.ChangeAt Go.RowKit
set_option maxRecDepth 100000 in
theorem foldRolls_lifted (os:Os)(started:os.Started)(H:Type)(enc:TypeId×Value→H) :
  ReturnsInHanded {} Try.checked os 3 .any (Rows.foldRollsSpec.pre6 enc Try.prog Try.f3 Rows.foldRollsRow.domain false) (Rows.foldRollsSpec.post enc Try.prog Try.f3 false true false false):=by
 refine returnsInHanded_of_change (C:=Try.checked) Try.own started (by kernel_rfl) Try.func3
  (ChangeSpec.witness6 (enc:=enc) (C:=Try.checked) false ⟨#[],#[.slice none 0 0,.int .u8 0,.int .u8 0],[]⟩ 8 (by kernel_rfl) (by kernel_rfl) (by kernel_rfl) (by kernel_rfl)) ?_
 intro W base args ds gs before hval0 hW hcnd _
 have hval:∀ (j:Nat) t v,Try.f3.params[j]? = some t→args[j]? = some v→Value.okWide Try.prog W .any base t v:=hval0
 have hW':=hW
 obtain ⟨p,q,hA0,hV,rfl,hfz,hnd⟩:=hW
 have hA:DataW.TrodAll enc Try.prog W 0 (fun _=>true) true Try.f3.params.toList args.toList ds p:=hA0
 rw [Try.params3] at hA hval
 obtain ⟨v0,v1,v2,d0,d1,d2,p0,p1,p2,rfl,rfl,rfl,h0,h1,h2⟩:=trodAll_three hA
 obtain ⟨rfl,rfl⟩:=trodVars_none hV
 obtain ⟨l,hin_l,hr_l⟩:=open_times_in (P:=Try.prog) Try.underlying22 Try.underlying27 rfl rfl rfl rfl Try.underlying25 Try.underlying9 (by kernel_rfl) Try.underlying3 (by kernel_rfl) (by kernel_rfl) (by kernel_rfl) (hval 0 22 _ rfl rfl) h0
 obtain ⟨col_,rfl,rfl,rfl,wf_col⟩:=open_int Try.underlying5 (hval 1 5 v1 rfl rfl) h1
 have bd_col:=Go.bounds_u8 wf_col
 obtain ⟨col,rfl⟩:∃ m:Nat,col_=(m:Int):=⟨col_.toNat,by omega⟩
 obtain ⟨by__,rfl,rfl,rfl,wf_by_⟩:=open_int Try.underlying5 (hval 2 5 v2 rfl rfl) h2
 have bd_by_:=Go.bounds_u8 wf_by_
 obtain ⟨by_,rfl⟩:∃ m:Nat,by__=(m:Int):=⟨by__.toNat,by omega⟩
 refine Calls.mono (foldRolls_calls col by_ (by omega) (by omega) hin_l) fun e W' ⟨he,hw⟩=>?_
 subst he
 exact ⟨_,rfl,law_post (P:=Try.prog) (tb:=4) Try.laidOut (by kernel_rfl) (by kernel_rfl) Try.underlying4 rfl hW' hw rfl⟩
theorem foldRolls_holds:Rows.FoldRollsSaid :=
 OpenClaim.holds_of_wide 3 Try.f3 rfl rfl rfl rfl rfl rfl rfl ⟨rfl,rfl,rfl,rfl,rfl⟩ rfl rfl rfl rfl rfl (by kernel_rfl) Try.func3 (by kernel_rfl)
  (of_decide_eq_true (by kernel_rfl)) (by unfold Func.isWrapper;first|(rw [if_pos (by decide +kernel)];kernel_rfl)|(rw [if_neg (by decide +kernel)];exact ⟨rfl,rfl⟩))
  (fun os started H enc _=>foldRolls_lifted os started H enc)
set_option maxRecDepth 100000 in
theorem foldBounds_lifted (os:Os)(started:os.Started)(H:Type)(enc:TypeId×Value→H) :
  ReturnsInHanded {} Try.checked os 4 .any (Rows.foldBoundsSpec.pre6 enc Try.prog Try.f4 Rows.foldBoundsRow.domain false) (Rows.foldBoundsSpec.post enc Try.prog Try.f4 false true false false):=by
 refine returnsInHanded_of_change (C:=Try.checked) Try.own started (by kernel_rfl) Try.func4
  (ChangeSpec.witness6 (enc:=enc) (C:=Try.checked) false ⟨#[],#[.slice none 0 0,.int .u8 0],[]⟩ 8 (by kernel_rfl) (by kernel_rfl) (by kernel_rfl) (by kernel_rfl)) ?_
 intro W base args ds gs before hval0 hW hcnd _
 have hval:∀ (j:Nat) t v,Try.f4.params[j]? = some t→args[j]? = some v→Value.okWide Try.prog W .any base t v:=hval0
 have hW':=hW
 obtain ⟨p,q,hA0,hV,rfl,hfz,hnd⟩:=hW
 have hA:DataW.TrodAll enc Try.prog W 0 (fun _=>true) true Try.f4.params.toList args.toList ds p:=hA0
 rw [Try.params4] at hA hval
 obtain ⟨v0,v1,d0,d1,p0,p1,rfl,rfl,rfl,h0,h1⟩:=trodAll_two hA
 obtain ⟨rfl,rfl⟩:=trodVars_none hV
 obtain ⟨l,hin_l,hr_l⟩:=open_times_in (P:=Try.prog) Try.underlying22 Try.underlying27 rfl rfl rfl rfl Try.underlying25 Try.underlying9 (by kernel_rfl) Try.underlying3 (by kernel_rfl) (by kernel_rfl) (by kernel_rfl) (hval 0 22 _ rfl rfl) h0
 obtain ⟨col_,rfl,rfl,rfl,wf_col⟩:=open_int Try.underlying5 (hval 1 5 v1 rfl rfl) h1
 have bd_col:=Go.bounds_u8 wf_col
 obtain ⟨col,rfl⟩:∃ m:Nat,col_=(m:Int):=⟨col_.toNat,by omega⟩
 refine Calls.mono (foldBounds_calls col (by omega) hin_l) fun e W' ⟨he,hw⟩=>?_
 subst he
 exact ⟨_,rfl,law_post (P:=Try.prog) (tb:=4) Try.laidOut (by kernel_rfl) (by kernel_rfl) Try.underlying4 rfl hW' hw rfl⟩
theorem foldBounds_holds:Rows.FoldBoundsSaid :=
 OpenClaim.holds_of_wide 4 Try.f4 rfl rfl rfl rfl rfl rfl rfl ⟨rfl,rfl,rfl,rfl,rfl⟩ rfl rfl rfl rfl rfl (by kernel_rfl) Try.func4 (by kernel_rfl)
  (of_decide_eq_true (by kernel_rfl)) (by unfold Func.isWrapper;first|(rw [if_pos (by decide +kernel)];kernel_rfl)|(rw [if_neg (by decide +kernel)];exact ⟨rfl,rfl⟩))
  (fun os started H enc _=>foldBounds_lifted os started H enc)
set_option maxRecDepth 100000 in
theorem foldOrder_lifted (os:Os)(started:os.Started)(H:Type)(enc:TypeId×Value→H) :
  ReturnsInHanded {} Try.checked os 5 .any (Rows.foldOrderSpec.pre6 enc Try.prog Try.f5 Rows.foldOrderRow.domain false) (Rows.foldOrderSpec.post enc Try.prog Try.f5 false true false false):=by
 refine returnsInHanded_of_change (C:=Try.checked) Try.own started (by kernel_rfl) Try.func5
  (ChangeSpec.witness6 (enc:=enc) (C:=Try.checked) false ⟨#[],#[.slice none 0 0,.int .u8 0,.slice none 0 0],[]⟩ 8 (by kernel_rfl) (by kernel_rfl) (by kernel_rfl) (by kernel_rfl)) ?_
 intro W base args ds gs before hval0 hW hcnd _
 have hval:∀ (j:Nat) t v,Try.f5.params[j]? = some t→args[j]? = some v→Value.okWide Try.prog W .any base t v:=hval0
 have hW':=hW
 obtain ⟨p,q,hA0,hV,rfl,hfz,hnd⟩:=hW
 have hA:DataW.TrodAll enc Try.prog W 0 (fun _=>true) true Try.f5.params.toList args.toList ds p:=hA0
 rw [Try.params5] at hA hval
 obtain ⟨v0,v1,v2,d0,d1,d2,p0,p1,p2,rfl,rfl,rfl,h0,h1,h2⟩:=trodAll_three hA
 obtain ⟨rfl,rfl⟩:=trodVars_none hV
 obtain ⟨l,hin_l,hr_l⟩:=open_times_in (P:=Try.prog) Try.underlying22 Try.underlying27 rfl rfl rfl rfl Try.underlying25 Try.underlying9 (by kernel_rfl) Try.underlying3 (by kernel_rfl) (by kernel_rfl) (by kernel_rfl) (hval 0 22 _ rfl rfl) h0
 obtain ⟨turn_,rfl,rfl,rfl,wf_turn⟩:=open_int Try.underlying5 (hval 1 5 v1 rfl rfl) h1
 have bd_turn:=Go.bounds_u8 wf_turn
 obtain ⟨turn,rfl⟩:∃ m:Nat,turn_=(m:Int):=⟨turn_.toNat,by omega⟩
 obtain ⟨gs,hin_gs⟩:=open_aggs_in (P:=Try.prog) Try.underlying32 Try.underlying31 rfl rfl rfl rfl Try.underlying3 Try.underlying3 (by kernel_rfl) (by kernel_rfl) (by kernel_rfl) (hval 2 32 _ rfl rfl) h2
 refine Calls.mono (foldOrder_calls turn (by omega) hin_l hin_gs) fun e W' ⟨he,hw⟩=>?_
 subst he
 exact ⟨_,rfl,law_post (P:=Try.prog) (tb:=4) Try.laidOut (by kernel_rfl) (by kernel_rfl) Try.underlying4 rfl hW' hw rfl⟩
theorem foldOrder_holds:Rows.FoldOrderSaid :=
 OpenClaim.holds_of_wide 5 Try.f5 rfl rfl rfl rfl rfl rfl rfl ⟨rfl,rfl,rfl,rfl,rfl⟩ rfl rfl rfl rfl rfl (by kernel_rfl) Try.func5 (by kernel_rfl)
  (of_decide_eq_true (by kernel_rfl)) (by unfold Func.isWrapper;first|(rw [if_pos (by decide +kernel)];kernel_rfl)|(rw [if_neg (by decide +kernel)];exact ⟨rfl,rfl⟩))
  (fun os started H enc _=>foldOrder_lifted os started H enc)
end Go.Proofs.Ytopeeokjfaampaa
