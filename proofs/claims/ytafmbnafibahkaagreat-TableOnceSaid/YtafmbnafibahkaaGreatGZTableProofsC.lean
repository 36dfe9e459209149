/- A law of layer 14 (table): it returns true, whatever it is given. -/
import Derived.Test.YtafmbnafibahkaaGreatGOpen
import Derived.Test.YtafmbnafibahkaaGreatGZTableLawsE
import Derived.ProofKit
import Derived.OpenShut
namespace Go.Proofs.YtafmbnafibahkaaGreat
open Go.ChangeShapes Go.WideShapes Go.ChangeAt Go.RowKit
set_option maxRecDepth 100000 in
theorem tableOnce_lifted (os:Os)(started:os.Started)(H:Type)(enc:TypeId×Value→H) :
  ReturnsInHanded {} Tryz.checked os 5 .any (Rows.tableOnceSpec.pre6 enc Tryz.prog Tryz.f5 Rows.tableOnceRow.domain false) (Rows.tableOnceSpec.post enc Tryz.prog Tryz.f5 false true false false):=by
 refine returnsInHanded_of_change (C:=Tryz.checked) Tryz.own started (by kernel_rfl) Tryz.func5
  (ChangeSpec.witness6 (enc:=enc) (C:=Tryz.checked) false ⟨#[],#[.slice none 0 0,.slice none 0 0,.slice none 0 0],[]⟩ 8 (by kernel_rfl) (by kernel_rfl) (by kernel_rfl) (by kernel_rfl)) ?_
 intro W base args ds gs before hval0 hW hcnd _
 have hval:∀ (j:Nat) t v,Tryz.f5.params[j]? = some t→args[j]? = some v→Value.okWide Tryz.prog W .any base t v:=hval0
 have hW':=hW
 obtain ⟨p,q,hA0,hV,rfl,hfz,hnd⟩:=hW
 have hA:DataW.TrodAll enc Tryz.prog W 0 (fun _=>true) true Tryz.f5.params.toList args.toList ds p:=hA0
 rw [Tryz.params5] at hA hval
 obtain ⟨v0,v1,v2,d0,d1,d2,p0,p1,p2,rfl,rfl,rfl,h0,h1,h2⟩:=trodAll_three hA
 obtain ⟨rfl,rfl⟩:=trodVars_none hV
 obtain ⟨cols,hin_cols⟩:=open_cols_in (P:=Tryz.prog) Tryz.underlying22 Tryz.underlying58 rfl rfl rfl rfl Tryz.underlying5 Tryz.underlying4 (by kernel_rfl) (by kernel_rfl) (by kernel_rfl) (hval 0 22 _ rfl rfl) h0
 obtain ⟨a,hin_a,hr_a⟩:=open_times_in (P:=Tryz.prog) Tryz.underlying26 Tryz.underlying46 rfl rfl rfl rfl Tryz.underlying44 Tryz.underlying9 (by kernel_rfl) Tryz.underlying3 (by kernel_rfl) (by kernel_rfl) (by kernel_rfl) (hval 1 26 _ rfl rfl) h1
 obtain ⟨b,hin_b,hr_b⟩:=open_times_in (P:=Tryz.prog) Tryz.underlying26 Tryz.underlying46 rfl rfl rfl rfl Tryz.underlying44 Tryz.underlying9 (by kernel_rfl) Tryz.underlying3 (by kernel_rfl) (by kernel_rfl) (by kernel_rfl) (hval 2 26 _ rfl rfl) h2
 refine Calls.mono (tableOnce_calls hin_cols hin_a hin_b) fun e W' ⟨he,hw⟩=>?_
 subst he
 exact ⟨_,rfl,law_post (P:=Tryz.prog) (tb:=4) Tryz.laidOut (by kernel_rfl) (by kernel_rfl) Tryz.underlying4 rfl hW' hw rfl⟩
theorem tableOnce_holds:Rows.TableOnceSaid :=
 OpenClaim.holds_of_wide 5 Tryz.f5 rfl rfl rfl rfl rfl rfl rfl ⟨rfl,rfl,rfl,rfl,rfl⟩ rfl rfl rfl rfl rfl (by kernel_rfl) Tryz.func5 (by kernel_rfl)
  (of_decide_eq_true (by kernel_rfl)) (by unfold Func.isWrapper;first|(rw [if_pos (by decide +kernel)];kernel_rfl)|(rw [if_neg (by decide +kernel)];exact ⟨rfl,rfl⟩))
  (fun os started H enc _=>tableOnce_lifted os started H enc)
end Go.Proofs.YtafmbnafibahkaaGreat
