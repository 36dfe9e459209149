/- The laws of layer 13 (cutter): each returns true, whatever it is given. -/
import Derived.Test.YtkgjbldlegcajaaGreatGCutLawsA
import Derived.Test.YtkgjbldlegcajaaGreatGCutLawsZ
import Derived.Test.YtkgjbldlegcajaaGreatGOpen
import Derived.ProofKit
import Derived.OpenShut
namespace Go.Proofs.YtkgjbldlegcajaaGreat
open Go.ChangeShapes Go.WideShapes Go.ChangeAt Go.RowKit
set_option maxRecDepth 100000 in
theorem cutterTells_lifted (os : Os) (started : os.Started) (H : Type) (enc : TypeId × Value → H) :
  ReturnsInHanded {} Tryz.checked os 3 .any (Rows.cutterTellsSpec.pre6 enc Tryz.prog Tryz.f3 Rows.cutterTellsRow.domain false) (Rows.cutterTellsSpec.post enc Tryz.prog Tryz.f3 false true false false) := by
 refine returnsInHanded_of_change (C := Tryz.checked) Tryz.own started (by kernel_rfl) Tryz.func3
  (ChangeSpec.witness6 (enc := enc) (C := Tryz.checked) false ⟨#[], #[.slice none 0 0, .slice none 0 0], []⟩ 8 (by kernel_rfl) (by kernel_rfl) (by kernel_rfl) (by kernel_rfl)) ?_
 intro W base args ds gs before hval0 hW hcnd _
 have hval : ∀ (j : Nat) t v, Tryz.f3.params[j]? = some t → args[j]? = some v → Value.okWide Tryz.prog W .any base t v := hval0
 have hW' := hW
 obtain ⟨p, q, hA0, hV, rfl, hfz, hnd⟩ := hW
 have hA : DataW.TrodAll enc Tryz.prog W 0 (fun _ => true) true Tryz.f3.params.toList args.toList ds p := hA0
 rw [Tryz.params3] at hA hval
 obtain ⟨v0, v1, d0, d1, p0, p1, rfl, rfl, rfl, h0, h1⟩ := trodAll_two hA
 obtain ⟨rfl, rfl⟩ := trodVars_none hV
 obtain ⟨cols, hin_cols⟩ := open_cols_in (P := Tryz.prog) Tryz.underlying22 Tryz.underlying56 rfl rfl rfl rfl Tryz.underlying5 Tryz.underlying4 (by kernel_rfl) (by kernel_rfl) (by kernel_rfl) (hval 0 22 _ rfl rfl) h0
 obtain ⟨l, hin_l, hr_l⟩ := open_times_in (P := Tryz.prog) Tryz.underlying23 Tryz.underlying30 rfl rfl rfl rfl Tryz.underlying28 Tryz.underlying9 (by kernel_rfl) Tryz.underlying3 (by kernel_rfl) (by kernel_rfl) (by kernel_rfl) (hval 1 23 _ rfl rfl) h1
 refine Calls.mono (cutterTells_calls hin_cols hin_l (fun n hn => by obtain ⟨t, ht, rfl⟩ := List.mem_map.1 hn; exact hr_l t ht)) fun e W' ⟨he, hw⟩ => ?_
 subst he
 exact ⟨_, rfl, law_post (P := Tryz.prog) (tb := 4) Tryz.laidOut (by kernel_rfl) (by kernel_rfl) Tryz.underlying4 rfl hW' hw rfl⟩
theorem cutterTells_holds : Rows.CutterTellsSaid :=
 OpenClaim.holds_of_wide 3 Tryz.f3 rfl rfl rfl rfl rfl rfl rfl ⟨rfl, rfl, rfl, rfl, rfl⟩ rfl rfl rfl rfl rfl (by kernel_rfl) Tryz.func3 (by kernel_rfl)
  (of_decide_eq_true (by kernel_rfl)) (by unfold Func.isWrapper; first | (rw [if_pos (by decide +kernel)]; kernel_rfl) | (rw [if_neg (by decide +kernel)]; exact ⟨rfl, rfl⟩))
  (fun os started H enc _ => cutterTells_lifted os started H enc)
set_option maxRecDepth 100000 in
theorem cutterChanges_lifted (os : Os) (started : os.Started) (H : Type) (enc : TypeId × Value → H) :
  ReturnsInHanded {} Tryz.checked os 4 .any (Rows.cutterChangesSpec.pre6 enc Tryz.prog Tryz.f4 Rows.cutterChangesRow.domain false) (Rows.cutterChangesSpec.post enc Tryz.prog Tryz.f4 false true false false) := by
 refine returnsInHanded_of_change (C := Tryz.checked) Tryz.own started (by kernel_rfl) Tryz.func4
  (ChangeSpec.witness6 (enc := enc) (C := Tryz.checked) false ⟨#[], #[.slice none 0 0, .slice none 0 0, .slice none 0 0], []⟩ 8 (by kernel_rfl) (by kernel_rfl) (by kernel_rfl) (by kernel_rfl)) ?_
 intro W base args ds gs before hval0 hW hcnd _
 have hval : ∀ (j : Nat) t v, Tryz.f4.params[j]? = some t → args[j]? = some v → Value.okWide Tryz.prog W .any base t v := hval0
 have hW' := hW
 obtain ⟨p, q, hA0, hV, rfl, hfz, hnd⟩ := hW
 have hA : DataW.TrodAll enc Tryz.prog W 0 (fun _ => true) true Tryz.f4.params.toList args.toList ds p := hA0
 rw [Tryz.params4] at hA hval
 obtain ⟨v0, v1, v2, d0, d1, d2, p0, p1, p2, rfl, rfl, rfl, h0, h1, h2⟩ := trodAll_three hA
 obtain ⟨rfl, rfl⟩ := trodVars_none hV
 obtain ⟨cols, hin_cols⟩ := open_cols_in (P := Tryz.prog) Tryz.underlying22 Tryz.underlying56 rfl rfl rfl rfl Tryz.underlying5 Tryz.underlying4 (by kernel_rfl) (by kernel_rfl) (by kernel_rfl) (hval 0 22 _ rfl rfl) h0
 obtain ⟨l, hin_l, hr_l⟩ := open_times_in (P := Tryz.prog) Tryz.underlying23 Tryz.underlying30 rfl rfl rfl rfl Tryz.underlying28 Tryz.underlying9 (by kernel_rfl) Tryz.underlying3 (by kernel_rfl) (by kernel_rfl) (by kernel_rfl) (hval 1 23 _ rfl rfl) h1
 obtain ⟨more, hin_more, hr_more⟩ := open_times_in (P := Tryz.prog) Tryz.underlying23 Tryz.underlying30 rfl rfl rfl rfl Tryz.underlying28 Tryz.underlying9 (by kernel_rfl) Tryz.underlying3 (by kernel_rfl) (by kernel_rfl) (by kernel_rfl) (hval 2 23 _ rfl rfl) h2
 refine Calls.mono (cutterChanges_calls hin_cols hin_l hin_more) fun e W' ⟨he, hw⟩ => ?_
 subst he
 exact ⟨_, rfl, law_post (P := Tryz.prog) (tb := 4) Tryz.laidOut (by kernel_rfl) (by kernel_rfl) Tryz.underlying4 rfl hW' hw rfl⟩
theorem cutterChanges_holds : Rows.CutterChangesSaid :=
 OpenClaim.holds_of_wide 4 Tryz.f4 rfl rfl rfl rfl rfl rfl rfl ⟨rfl, rfl, rfl, rfl, rfl⟩ rfl rfl rfl rfl rfl (by kernel_rfl) Tryz.func4 (by kernel_rfl)
  (of_decide_eq_true (by kernel_rfl)) (by unfold Func.isWrapper; first | (rw [if_pos (by decide +kernel)]; kernel_rfl) | (rw [if_neg (by decide +kernel)]; exact ⟨rfl, rfl⟩))
  (fun os started H enc _ => cutterChanges_lifted os started H enc)
set_option maxRecDepth 100000 in
theorem cutterAnew_lifted (os : Os) (started : os.Started) (H : Type) (enc : TypeId × Value → H) :
  ReturnsInHanded {} Tryz.checked os 5 .any (Rows.cutterAnewSpec.pre6 enc Tryz.prog Tryz.f5 Rows.cutterAnewRow.domain false) (Rows.cutterAnewSpec.post enc Tryz.prog Tryz.f5 false true false false) := by
 refine returnsInHanded_of_change (C := Tryz.checked) Tryz.own started (by kernel_rfl) Tryz.func5
  (ChangeSpec.witness6 (enc := enc) (C := Tryz.checked) false ⟨#[], #[.slice none 0 0, .slice none 0 0, .slice none 0 0], []⟩ 8 (by kernel_rfl) (by kernel_rfl) (by kernel_rfl) (by kernel_rfl)) ?_
 intro W base args ds gs before hval0 hW hcnd _
 have hval : ∀ (j : Nat) t v, Tryz.f5.params[j]? = some t → args[j]? = some v → Value.okWide Tryz.prog W .any base t v := hval0
 have hW' := hW
 obtain ⟨p, q, hA0, hV, rfl, hfz, hnd⟩ := hW
 have hA : DataW.TrodAll enc Tryz.prog W 0 (fun _ => true) true Tryz.f5.params.toList args.toList ds p := hA0
 rw [Tryz.params5] at hA hval
 obtain ⟨v0, v1, v2, d0, d1, d2, p0, p1, p2, rfl, rfl, rfl, h0, h1, h2⟩ := trodAll_three hA
 obtain ⟨rfl, rfl⟩ := trodVars_none hV
 obtain ⟨cols, hin_cols⟩ := open_cols_in (P := Tryz.prog) Tryz.underlying22 Tryz.underlying56 rfl rfl rfl rfl Tryz.underlying5 Tryz.underlying4 (by kernel_rfl) (by kernel_rfl) (by kernel_rfl) (hval 0 22 _ rfl rfl) h0
 obtain ⟨l, hin_l, hr_l⟩ := open_times_in (P := Tryz.prog) Tryz.underlying23 Tryz.underlying30 rfl rfl rfl rfl Tryz.underlying28 Tryz.underlying9 (by kernel_rfl) Tryz.underlying3 (by kernel_rfl) (by kernel_rfl) (by kernel_rfl) (hval 1 23 _ rfl rfl) h1
 obtain ⟨more, hin_more⟩ := open_pieces_in (P := Tryz.prog) Tryz.underlying32 (by kernel_rfl) Tryz.underlying23 Tryz.underlying30 rfl rfl rfl rfl Tryz.underlying28 Tryz.underlying9 (by kernel_rfl) Tryz.underlying3 (by kernel_rfl) (by kernel_rfl) (by kernel_rfl) (hval 2 32 _ rfl rfl) h2
 refine Calls.mono (cutterAnew_calls hin_cols hin_l hin_more) fun e W' ⟨he, hw⟩ => ?_
 subst he
 exact ⟨_, rfl, law_post (P := Tryz.prog) (tb := 4) Tryz.laidOut (by kernel_rfl) (by kernel_rfl) Tryz.underlying4 rfl hW' hw rfl⟩
theorem cutterAnew_holds : Rows.CutterAnewSaid :=
 OpenClaim.holds_of_wide 5 Tryz.f5 rfl rfl rfl rfl rfl rfl rfl ⟨rfl, rfl, rfl, rfl, rfl⟩ rfl rfl rfl rfl rfl (by kernel_rfl) Tryz.func5 (by kernel_rfl)
  (of_decide_eq_true (by kernel_rfl)) (by unfold Func.isWrapper; first | (rw [if_pos (by decide +kernel)]; kernel_rfl) | (rw [if_neg (by decide +kernel)]; exact ⟨rfl, rfl⟩))
  (fun os started H enc _ => cutterAnew_lifted os started H enc)
set_option maxRecDepth 100000 in
theorem cutterFew_lifted (os : Os) (started : os.Started) (H : Type) (enc : TypeId × Value → H) :
  ReturnsInHanded {} Tryz.checked os 6 .any (Rows.cutterFewSpec.pre6 enc Tryz.prog Tryz.f6 Rows.cutterFewRow.domain false) (Rows.cutterFewSpec.post enc Tryz.prog Tryz.f6 false true false false) := by
 refine returnsInHanded_of_change (C := Tryz.checked) Tryz.own started (by kernel_rfl) Tryz.func6
  (ChangeSpec.witness6 (enc := enc) (C := Tryz.checked) false ⟨#[], #[.slice none 0 0, .slice none 0 0, .agg #[.slice none 0 0, .int .i64 0]], []⟩ 8 (by kernel_rfl) (by kernel_rfl) (by kernel_rfl) (by kernel_rfl)) ?_
 intro W base args ds gs before hval0 hW hcnd _
 have hval : ∀ (j : Nat) t v, Tryz.f6.params[j]? = some t → args[j]? = some v → Value.okWide Tryz.prog W .any base t v := hval0
 have hW' := hW
 obtain ⟨p, q, hA0, hV, rfl, hfz, hnd⟩ := hW
 have hA : DataW.TrodAll enc Tryz.prog W 0 (fun _ => true) true Tryz.f6.params.toList args.toList ds p := hA0
 rw [Tryz.params6] at hA hval
 obtain ⟨v0, v1, v2, d0, d1, d2, p0, p1, p2, rfl, rfl, rfl, h0, h1, h2⟩ := trodAll_three hA
 obtain ⟨rfl, rfl⟩ := trodVars_none hV
 obtain ⟨cols, hin_cols⟩ := open_cols_in (P := Tryz.prog) Tryz.underlying22 Tryz.underlying56 rfl rfl rfl rfl Tryz.underlying5 Tryz.underlying4 (by kernel_rfl) (by kernel_rfl) (by kernel_rfl) (hval 0 22 _ rfl rfl) h0
 obtain ⟨l, hin_l, hr_l⟩ := open_times_in (P := Tryz.prog) Tryz.underlying23 Tryz.underlying30 rfl rfl rfl rfl Tryz.underlying28 Tryz.underlying9 (by kernel_rfl) Tryz.underlying3 (by kernel_rfl) (by kernel_rfl) (by kernel_rfl) (hval 1 23 _ rfl rfl) h1
 obtain ⟨rv_x, x, n_x, rfl, hin_x, bd_x⟩ := open_tm (P := Tryz.prog) Tryz.underlying30 rfl rfl rfl rfl Tryz.underlying28 Tryz.underlying9 (by kernel_rfl) Tryz.underlying3 (by kernel_rfl) (by kernel_rfl) (by kernel_rfl) (hval 2 30 _ rfl rfl) h2
 refine Calls.mono (cutterFew_calls hin_cols hin_l hin_x) fun e W' ⟨he, hw⟩ => ?_
 subst he
 exact ⟨_, rfl, law_post (P := Tryz.prog) (tb := 4) Tryz.laidOut (by kernel_rfl) (by kernel_rfl) Tryz.underlying4 rfl hW' hw rfl⟩
theorem cutterFew_holds : Rows.CutterFewSaid :=
 OpenClaim.holds_of_wide 6 Tryz.f6 rfl rfl rfl rfl rfl rfl rfl ⟨rfl, rfl, rfl, rfl, rfl⟩ rfl rfl rfl rfl rfl (by kernel_rfl) Tryz.func6 (by kernel_rfl)
  (of_decide_eq_true (by kernel_rfl)) (by unfold Func.isWrapper; first | (rw [if_pos (by decide +kernel)]; kernel_rfl) | (rw [if_neg (by decide +kernel)]; exact ⟨rfl, rfl⟩))
  (fun os started H enc _ => cutterFew_lifted os started H enc)
set_option maxRecDepth 100000 in
theorem cutterPieces_lifted (os : Os) (started : os.Started) (H : Type) (enc : TypeId × Value → H) :
  ReturnsInHanded {} Tryz.checked os 7 .any (Rows.cutterPiecesSpec.pre6 enc Tryz.prog Tryz.f7 Rows.cutterPiecesRow.domain false) (Rows.cutterPiecesSpec.post enc Tryz.prog Tryz.f7 false true false false) := by
 refine returnsInHanded_of_change (C := Tryz.checked) Tryz.own started (by kernel_rfl) Tryz.func7
  (ChangeSpec.witness6 (enc := enc) (C := Tryz.checked) false ⟨#[], #[.slice none 0 0, .slice none 0 0], []⟩ 8 (by kernel_rfl) (by kernel_rfl) (by kernel_rfl) (by kernel_rfl)) ?_
 intro W base args ds gs before hval0 hW hcnd _
 have hval : ∀ (j : Nat) t v, Tryz.f7.params[j]? = some t → args[j]? = some v → Value.okWide Tryz.prog W .any base t v := hval0
 have hW' := hW
 obtain ⟨p, q, hA0, hV, rfl, hfz, hnd⟩ := hW
 have hA : DataW.TrodAll enc Tryz.prog W 0 (fun _ => true) true Tryz.f7.params.toList args.toList ds p := hA0
 rw [Tryz.params7] at hA hval
 obtain ⟨v0, v1, d0, d1, p0, p1, rfl, rfl, rfl, h0, h1⟩ := trodAll_two hA
 obtain ⟨rfl, rfl⟩ := trodVars_none hV
 obtain ⟨cols, hin_cols⟩ := open_cols_in (P := Tryz.prog) Tryz.underlying22 Tryz.underlying56 rfl rfl rfl rfl Tryz.underlying5 Tryz.underlying4 (by kernel_rfl) (by kernel_rfl) (by kernel_rfl) (hval 0 22 _ rfl rfl) h0
 obtain ⟨l, hin_l, hr_l⟩ := open_times_in (P := Tryz.prog) Tryz.underlying23 Tryz.underlying30 rfl rfl rfl rfl Tryz.underlying28 Tryz.underlying9 (by kernel_rfl) Tryz.underlying3 (by kernel_rfl) (by kernel_rfl) (by kernel_rfl) (hval 1 23 _ rfl rfl) h1
 refine Calls.mono (cutterPieces_calls hin_cols hin_l) fun e W' ⟨he, hw⟩ => ?_
 subst he
 exact ⟨_, rfl, law_post (P := Tryz.prog) (tb := 4) Tryz.laidOut (by kernel_rfl) (by kernel_rfl) Tryz.underlying4 rfl hW' hw rfl⟩
theorem cutterPieces_holds : Rows.CutterPiecesSaid :=
 OpenClaim.holds_of_wide 7 Tryz.f7 rfl rfl rfl rfl rfl rfl rfl ⟨rfl, rfl, rfl, rfl, rfl⟩ rfl rfl rfl rfl rfl (by kernel_rfl) Tryz.func7 (by kernel_rfl)
  (of_decide_eq_true (by kernel_rfl)) (by unfold Func.isWrapper; first | (rw [if_pos (by decide +kernel)]; kernel_rfl) | (rw [if_neg (by decide +kernel)]; exact ⟨rfl, rfl⟩))
  (fun os started H enc _ => cutterPieces_lifted os started H enc)
set_option maxRecDepth 100000 in
theorem cutterOnce_lifted (os : Os) (started : os.Started) (H : Type) (enc : TypeId × Value → H) :
  ReturnsInHanded {} Tryz.checked os 8 .any (Rows.cutterOnceSpec.pre6 enc Tryz.prog Tryz.f8 Rows.cutterOnceRow.domain false) (Rows.cutterOnceSpec.post enc Tryz.prog Tryz.f8 false true false false) := by
 refine returnsInHanded_of_change (C := Tryz.checked) Tryz.own started (by kernel_rfl) Tryz.func8
  (ChangeSpec.witness6 (enc := enc) (C := Tryz.checked) false ⟨#[], #[.slice none 0 0, .slice none 0 0, .agg #[.slice none 0 0, .slice none 0 0]], []⟩ 8 (by kernel_rfl) (by kernel_rfl) (by kernel_rfl) (by kernel_rfl)) ?_
 intro W base args ds gs before hval0 hW hcnd _
 have hval : ∀ (j : Nat) t v, Tryz.f8.params[j]? = some t → args[j]? = some v → Value.okWide Tryz.prog W .any base t v := hval0
 have hW' := hW
 obtain ⟨p, q, hA0, hV, rfl, hfz, hnd⟩ := hW
 have hA : DataW.TrodAll enc Tryz.prog W 0 (fun _ => true) true Tryz.f8.params.toList args.toList ds p := hA0
 rw [Tryz.params8] at hA hval
 obtain ⟨v0, v1, v2, d0, d1, d2, p0, p1, p2, rfl, rfl, rfl, h0, h1, h2⟩ := trodAll_three hA
 obtain ⟨rfl, rfl⟩ := trodVars_none hV
 obtain ⟨cols, hin_cols⟩ := open_cols_in (P := Tryz.prog) Tryz.underlying22 Tryz.underlying56 rfl rfl rfl rfl Tryz.underlying5 Tryz.underlying4 (by kernel_rfl) (by kernel_rfl) (by kernel_rfl) (hval 0 22 _ rfl rfl) h0
 obtain ⟨l, hin_l, hr_l⟩ := open_times_in (P := Tryz.prog) Tryz.underlying23 Tryz.underlying30 rfl rfl rfl rfl Tryz.underlying28 Tryz.underlying9 (by kernel_rfl) Tryz.underlying3 (by kernel_rfl) (by kernel_rfl) (by kernel_rfl) (hval 1 23 _ rfl rfl) h1
 obtain ⟨v0_two, v1_two, two0, two1, rfl, hin_two0, hin_two1⟩ := open_times2 (P := Tryz.prog) Tryz.underlying52 (by kernel_rfl) (by kernel_rfl) Tryz.underlying23 Tryz.underlying30 rfl rfl rfl rfl Tryz.underlying28 Tryz.underlying9 (by kernel_rfl) Tryz.underlying3 (by kernel_rfl) (by kernel_rfl) (by kernel_rfl) (hval 2 52 _ rfl rfl) h2
 refine Calls.mono (cutterOnce_calls hin_cols hin_l hin_two0 hin_two1) fun e W' ⟨he, hw⟩ => ?_
 subst he
 exact ⟨_, rfl, law_post (P := Tryz.prog) (tb := 4) Tryz.laidOut (by kernel_rfl) (by kernel_rfl) Tryz.underlying4 rfl hW' hw rfl⟩
theorem cutterOnce_holds : Rows.CutterOnceSaid :=
 OpenClaim.holds_of_wide 8 Tryz.f8 rfl rfl rfl rfl rfl rfl rfl ⟨rfl, rfl, rfl, rfl, rfl⟩ rfl rfl rfl rfl rfl (by kernel_rfl) Tryz.func8 (by kernel_rfl)
  (of_decide_eq_true (by kernel_rfl)) (by unfold Func.isWrapper; first | (rw [if_pos (by decide +kernel)]; kernel_rfl) | (rw [if_neg (by decide +kernel)]; exact ⟨rfl, rfl⟩))
  (fun os started H enc _ => cutterOnce_lifted os started H enc)
end Go.Proofs.YtkgjbldlegcajaaGreat
