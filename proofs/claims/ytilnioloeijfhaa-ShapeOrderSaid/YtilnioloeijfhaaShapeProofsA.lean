/- The laws of layer 9: for every input they return true, and what they were given reads as it did. No condition. -/
import Derived.Test.YtilnioloeijfhaaShapeLawsB
import Derived.Test.YtilnioloeijfhaaShapeLawsC
import Derived.Test.YtilnioloeijfhaaShapeLawsD
import Derived.Test.YtilnioloeijfhaaLawKit
import Derived.ProofKit
import Derived.OpenShut
namespace Go.Proofs.Ytilnioloeijfhaa
open Go.ChangeShapes Go.WideShapes Go.ChangeAt Go.RowKit

set_option maxRecDepth 100000 in
theorem shapePicks_lifted (os : Os) (started : os.Started) (H : Type) (enc : TypeId × Value → H) :
    ReturnsInHanded {} Try.checked os 3 .any (Rows.shapePicksSpec.pre6 enc Try.prog Try.f3 Rows.shapePicksRow.domain false) (Rows.shapePicksSpec.post enc Try.prog Try.f3 false true false false) := by
  refine returnsInHanded_of_change (C := Try.checked) Try.own started (by kernel_rfl) Try.func3
    (ChangeSpec.witness6 (enc := enc) (C := Try.checked) false ⟨#[], #[.slice none 0 0, .slice none 0 0], []⟩ 8 (by kernel_rfl) (by kernel_rfl) (by kernel_rfl) (by kernel_rfl)) ?_
  intro W base args ds gs before hval0 hW hcnd _
  have hval : ∀ (j : Nat) t v, Try.f3.params[j]? = some t → args[j]? = some v → Value.okWide Try.prog W .any base t v := hval0
  have hW' := hW
  obtain ⟨p, q, hA0, hV, rfl, hfz, hnd⟩ := hW
  have hA : DataW.TrodAll enc Try.prog W 0 (fun _ => true) true Try.f3.params.toList args.toList ds p := hA0
  rw [Try.params3] at hA hval
  obtain ⟨v0, v1, d0, d1, p0, p1, rfl, rfl, rfl, h0, h1⟩ := trodAll_two hA
  obtain ⟨rfl, rfl⟩ := trodVars_none hV
  obtain ⟨row, hin_row, hr_row⟩ := open_strs_in (P := Try.prog) Try.underlying22 Try.underlying9 (by kernel_rfl) (hval 0 22 _ rfl rfl) h0
  obtain ⟨cols, hin_cols, hr_cols⟩ := open_ints_in (P := Try.prog) Try.underlying23 Try.underlying3 (by kernel_rfl) (hval 1 23 _ rfl rfl) h1
  refine Calls.mono (shapePicks_calls hin_row hin_cols) fun e W' ⟨he, hw⟩ => ?_
  subst he
  exact ⟨_, rfl, law_post (P := Try.prog) (tb := 4) Try.laidOut (by kernel_rfl) (by kernel_rfl) Try.underlying4 rfl hW' hw rfl⟩

theorem shapePicks_holds : Rows.ShapePicksSaid :=
  OpenClaim.holds_of_wide 3 Try.f3 rfl rfl rfl rfl rfl rfl rfl ⟨rfl, rfl, rfl, rfl, rfl⟩ rfl rfl rfl rfl rfl (by kernel_rfl) Try.func3 (by kernel_rfl)
    (of_decide_eq_true (by kernel_rfl)) (by unfold Func.isWrapper; first | (rw [if_pos (by decide +kernel)]; kernel_rfl) | (rw [if_neg (by decide +kernel)]; exact ⟨rfl, rfl⟩))
    (fun os started H enc _ => shapePicks_lifted os started H enc)

set_option maxRecDepth 100000 in
theorem shapeOrder_lifted (os : Os) (started : os.Started) (H : Type) (enc : TypeId × Value → H) :
    ReturnsInHanded {} Try.checked os 4 .any (Rows.shapeOrderSpec.pre6 enc Try.prog Try.f4 Rows.shapeOrderRow.domain false) (Rows.shapeOrderSpec.post enc Try.prog Try.f4 false true false false) := by
  refine returnsInHanded_of_change (C := Try.checked) Try.own started (by kernel_rfl) Try.func4
    (ChangeSpec.witness6 (enc := enc) (C := Try.checked) false ⟨#[], #[.slice none 0 0, .slice none 0 0, .slice none 0 0], []⟩ 8 (by kernel_rfl) (by kernel_rfl) (by kernel_rfl) (by kernel_rfl)) ?_
  intro W base args ds gs before hval0 hW hcnd _
  have hval : ∀ (j : Nat) t v, Try.f4.params[j]? = some t → args[j]? = some v → Value.okWide Try.prog W .any base t v := hval0
  have hW' := hW
  obtain ⟨p, q, hA0, hV, rfl, hfz, hnd⟩ := hW
  have hA : DataW.TrodAll enc Try.prog W 0 (fun _ => true) true Try.f4.params.toList args.toList ds p := hA0
  rw [Try.params4] at hA hval
  obtain ⟨v0, v1, v2, d0, d1, d2, p0, p1, p2, rfl, rfl, rfl, h0, h1, h2⟩ := trodAll_three hA
  obtain ⟨rfl, rfl⟩ := trodVars_none hV
  obtain ⟨a, hin_a, hr_a⟩ := open_strs_in (P := Try.prog) Try.underlying22 Try.underlying9 (by kernel_rfl) (hval 0 22 _ rfl rfl) h0
  obtain ⟨b, hin_b, hr_b⟩ := open_strs_in (P := Try.prog) Try.underlying22 Try.underlying9 (by kernel_rfl) (hval 1 22 _ rfl rfl) h1
  obtain ⟨c, hin_c, hr_c⟩ := open_strs_in (P := Try.prog) Try.underlying22 Try.underlying9 (by kernel_rfl) (hval 2 22 _ rfl rfl) h2
  refine Calls.mono (shapeOrder_calls hin_a hin_b hin_c) fun e W' ⟨he, hw⟩ => ?_
  subst he
  exact ⟨_, rfl, law_post (P := Try.prog) (tb := 4) Try.laidOut (by kernel_rfl) (by kernel_rfl) Try.underlying4 rfl hW' hw rfl⟩

theorem shapeOrder_holds : Rows.ShapeOrderSaid :=
  OpenClaim.holds_of_wide 4 Try.f4 rfl rfl rfl rfl rfl rfl rfl ⟨rfl, rfl, rfl, rfl, rfl⟩ rfl rfl rfl rfl rfl (by kernel_rfl) Try.func4 (by kernel_rfl)
    (of_decide_eq_true (by kernel_rfl)) (by unfold Func.isWrapper; first | (rw [if_pos (by decide +kernel)]; kernel_rfl) | (rw [if_neg (by decide +kernel)]; exact ⟨rfl, rfl⟩))
    (fun os started H enc _ => shapeOrder_lifted os started H enc)

set_option maxRecDepth 100000 in
theorem shapeChains_lifted (os : Os) (started : os.Started) (H : Type) (enc : TypeId × Value → H) :
    ReturnsInHanded {} Try.checked os 5 .any (Rows.shapeChainsSpec.pre6 enc Try.prog Try.f5 Rows.shapeChainsRow.domain false) (Rows.shapeChainsSpec.post enc Try.prog Try.f5 false true false false) := by
  refine returnsInHanded_of_change (C := Try.checked) Try.own started (by kernel_rfl) Try.func5
    (ChangeSpec.witness6 (enc := enc) (C := Try.checked) false ⟨#[], #[.slice none 0 0, .slice none 0 0, .slice none 0 0], []⟩ 8 (by kernel_rfl) (by kernel_rfl) (by kernel_rfl) (by kernel_rfl)) ?_
  intro W base args ds gs before hval0 hW hcnd _
  have hval : ∀ (j : Nat) t v, Try.f5.params[j]? = some t → args[j]? = some v → Value.okWide Try.prog W .any base t v := hval0
  have hW' := hW
  obtain ⟨p, q, hA0, hV, rfl, hfz, hnd⟩ := hW
  have hA : DataW.TrodAll enc Try.prog W 0 (fun _ => true) true Try.f5.params.toList args.toList ds p := hA0
  rw [Try.params5] at hA hval
  obtain ⟨v0, v1, v2, d0, d1, d2, p0, p1, p2, rfl, rfl, rfl, h0, h1, h2⟩ := trodAll_three hA
  obtain ⟨rfl, rfl⟩ := trodVars_none hV
  obtain ⟨row, hin_row, hr_row⟩ := open_strs_in (P := Try.prog) Try.underlying22 Try.underlying9 (by kernel_rfl) (hval 0 22 _ rfl rfl) h0
  obtain ⟨a, hin_a, hr_a⟩ := open_u8s_in (P := Try.prog) Try.underlying32 Try.underlying5 (by kernel_rfl) (hval 1 32 _ rfl rfl) h1
  obtain ⟨b, hin_b, hr_b⟩ := open_u8s_in (P := Try.prog) Try.underlying32 Try.underlying5 (by kernel_rfl) (hval 2 32 _ rfl rfl) h2
  refine Calls.mono (shapeChains_calls hin_row hin_a hin_b hr_a hr_b) fun e W' ⟨he, hw⟩ => ?_
  subst he
  exact ⟨_, rfl, law_post (P := Try.prog) (tb := 4) Try.laidOut (by kernel_rfl) (by kernel_rfl) Try.underlying4 rfl hW' hw rfl⟩

theorem shapeChains_holds : Rows.ShapeChainsSaid :=
  OpenClaim.holds_of_wide 5 Try.f5 rfl rfl rfl rfl rfl rfl rfl ⟨rfl, rfl, rfl, rfl, rfl⟩ rfl rfl rfl rfl rfl (by kernel_rfl) Try.func5 (by kernel_rfl)
    (of_decide_eq_true (by kernel_rfl)) (by unfold Func.isWrapper; first | (rw [if_pos (by decide +kernel)]; kernel_rfl) | (rw [if_neg (by decide +kernel)]; exact ⟨rfl, rfl⟩))
    (fun os started H enc _ => shapeChains_lifted os started H enc)

end Go.Proofs.Ytilnioloeijfhaa
