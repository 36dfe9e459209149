/- The law StepsApart. -/
import Derived.Test.YtbpigfpkcflbkaaStepsLawsC
import Derived.Test.YtbpigfpkcflbkaaOwnStep
namespace Go.Proofs.Ytbpigfpkcflbkaa
open Go Go.RowKit

theorem stepsP_le {l m : List Int} (hl : InR l) (hm : InR m) (hn : l.length ≤ m.length) (h : stepsP l = stepsP m) : l = m := by
  obtain ⟨tl, e1, e2⟩ := stepsB_prefix 0 l m [] [] hl hm hn (by rw [List.append_nil, List.append_nil]; exact h)
  cases tl with
  | nil => rw [e1, List.append_nil]
  | cons x tl =>
    rw [List.append_nil] at e2
    have := congrArg List.length e2
    simp only [stepsB, List.length_append, List.length_nil] at this
    have := vp_pos (stepN (lastI 0 l) x)
    omega
theorem stepsP_inj {l m : List Int} (hl : InR l) (hm : InR m) (h : stepsP l = stepsP m) : l = m := by
  rcases Nat.le_total l.length m.length with hn | hn
  · exact stepsP_le hl hm hn h
  · exact (stepsP_le hm hl hn h.symm).symm
theorem stepsT_eq {l m : List Int} (hl : InR l) (hm : InR m) : ((stepsT l).toList == (stepsT m).toList) = decide (l.map cellInt = m.map cellInt) := by
  rw [Bool.eq_iff_iff, beq_iff_eq, decide_eq_true_eq]
  constructor
  · intro h
    rw [ByteArray.toList_eq, ByteArray.toList_eq] at h
    rw [stepsP_inj hl hm h]
  · intro h
    rw [← (nums_ints hl).1, ← (nums_ints hm).1, h]
theorem stepsT_front (l m : List Int) : (stepsT (l ++ m)).extract 0 (stepsT l).size = stepsT l ∧ (stepsT l).size ≤ (stepsT (l ++ m)).size := by
  have e : stepsT (l ++ m) = stepsT l ++ mkB (stepsB (lastI 0 l) m) := bytes_ext (by rw [data_append, mkB_data]; exact stepsB_append 0 l m)
  rw [e]
  refine ⟨?_, by rw [ByteArray.size_append]; omega⟩
  apply bytes_ext
  rw [data_extract, data_append, List.drop_zero, Nat.sub_zero, ← data_size, List.take_left]
theorem one_cells (l : List Int) : ∀ u ∈ cellsI l, u.oneCell' = true := by
  intro u hu
  obtain ⟨x, _, rfl⟩ := List.mem_map.1 hu
  rfl
theorem inR_both {l m : List Int} (h1 : InR l) (h2 : InR m) : InR (l ++ m) := fun x hx => (List.mem_append.1 hx).elim (h1 x) (h2 x)

set_option maxHeartbeats 4000000 in
set_option maxRecDepth 100000 in
theorem stepsApart_short {w : World} {v1 v2 : Value} {l m : List Int} (h1 : IntsIn w v1 l) (h2 : IntsIn w v2 m) (r1 : InR l) (r2 : InR m) (hl : l.length ≤ 200) (hm : m.length ≤ 200) (h0 : 0 < l.length) :
    GivesAt Try.prog 5 #[v1, v2] w (.bool true) := by
  obtain ⟨i0, hi, hz0, hz1, hz2⟩ := info_parts Try.infoN9
  obtain ⟨hb, hB⟩ := start w
  obtain ⟨A1, cap1, rfl, hat1⟩ := one_at h1
  obtain ⟨A2, cap2, rfl, hat2⟩ := one_at h2
  have HAT1 := Lib.hid hat1
  have HAT2 := Lib.hid hat2
  have HR1 := Lib.hid r1
  have HR2 := Lib.hid r2
  have HP1 := Lib.hid (stepsG_ints r1)
  have HP2 := Lib.hid (stepsG_ints r2)
  have HP3 := Lib.hid (stepsG_ints (inR_both r1 r2))
  have HEQ := Lib.hid (stepsT_eq r1 r2)
  have HMAY := Lib.hid (nums_ints r1).2
  have hfr := stepsT_front l m
  have hsz := stepsT_size (l ++ m)
  rw [List.length_append] at hsz
  have d0 : ((l.length : Int) == 0) = false := by rw [beq_eq_false_iff_ne]; omega
  clear h1 h2 hat1 hat2 r1 r2
  unfold GivesAt
  go_enter Try.func5, Try.ntmps5
  go_wp2
  go_loopw [5, 7] (fun x i wr => ∃ (k : Nat), k ≤ l.length ∧ i = .int .i64 k ∧ Own wr w.heap.size 1 x k (cellsI (l.take k)) ∧ Below w.heap.size w wr) (fun _ i _ => l.length - (intOf i).toNat)
  case atStart => exact ⟨0, by omega, rfl, Own.nil_ _ _ _, hb⟩
  case round =>
    clear hb hB
    obtain ⟨k, hk, rfl, hO, hb⟩ := hrel
    have hB := hb.size
    by_cases hlt : k < l.length
    · obtain ⟨b, off, rfl, hbl, hc⟩ := HAT1.out k hlt
      have hx := (hb.cell (p := ⟨b, off + k, none⟩) hbl).trans (hc k hlt)
      have hrk := HR1.out _ (List.getElem_mem hlt)
      have HS := Lib.hid (cellsI_step l k hlt)
      have I1 := Lib.hid (int_calls l[k] hrk.1 hrk.2)
      generalize cellsI (l.take k) = xs at *
      obtain ⟨A9, p9, rfl⟩ := hO.len
      clear hc hrk
      generalize l[k] = n at *
      go_wp2_with (first | (go_at_call 15; refine I1.out.stepB (w0 := wr) (B := wr.heap.size) (.refl _ _) (Nat.le_refl _) ?_; intro w2 _ _ hq; replace hb := hb.trans (hq.mono hB); replace hB := hb.size; replace hO := hO.later hq; clear hq hx) | (at_builtin; refine wpList_append_OwnA rfl _ _ 22 rfl 9 i0 (.string ⟨#[]⟩) 1 16 Try.underlying22 hi hz0 hz1 hz2 rfl (by decide) _ _ _ rfl (Own.alloc hO _) ⟨w2.heap.size, 0, none⟩ 1 1 [_] rfl rfl (one_new _ _ _) (one_str _) ?c1 ?c2 (below_alloc hb hB _).2 ?_))
      case c1 => unfold maxLen; omega
      case c2 => omega
      intro v3 w3 hO3 hg3 ha3
      have hb3 := (Own.alloc hO (.cells #[Value.string (cellInt n)] 9)).grown (below_alloc hb hB _).1 (below_alloc hb hB _).2 hg3
      have HX := Lib.hid hO3
      clear hO hb hB hg3 ha3 hO3
      go_wp2
      go_roundw
      case rel => exact ⟨k + 1, by omega, by go_num, by rw [HS.out]; exact HX.out, hb3⟩
      case measure => simp [intOf]; omega
    · obtain rfl : k = l.length := by omega
      rw [List.take_length] at hO
      have hOx := hO
      obtain ⟨Ax, px, rfl⟩ := hO.len
      generalize hvx : Value.slice Ax l.length px = vx at *
      go_wp2
      go_loopw [6, 8] (fun x i wr => ∃ (k : Nat), k ≤ m.length ∧ i = .int .i64 k ∧ Own wr w.heap.size 1 x k (cellsI (m.take k)) ∧ Own wr w.heap.size 1 vx l.length (cellsI l) ∧ Aside x vx ∧ Below w.heap.size w wr) (fun _ i _ => m.length - (intOf i).toNat)
      case atStart => exact ⟨0, by omega, rfl, Own.nil_ _ _ _, hOx, fun k hk => by simp [Value.ownBlock] at hk, hb⟩
      case round =>
        clear hO hOx hlt hk
        clear hb hB
        obtain ⟨k, hk, rfl, hO, hOx, hap, hb⟩ := hrel
        have hB := hb.size
        by_cases hlt : k < m.length
        · obtain ⟨b, off, rfl, hbl, hc⟩ := HAT2.out k hlt
          have hx := (hb.cell (p := ⟨b, off + k, none⟩) hbl).trans (hc k hlt)
          have hrk := HR2.out _ (List.getElem_mem hlt)
          have HS := Lib.hid (cellsI_step m k hlt)
          have I1 := Lib.hid (int_calls m[k] hrk.1 hrk.2)
          generalize cellsI (m.take k) = xs at *
          obtain ⟨A9, p9, rfl⟩ := hO.len
          clear hc hrk
          generalize m[k] = n at *
          go_wp2_with (first | (go_at_call 15; refine I1.out.stepB (w0 := wr) (B := wr.heap.size) (.refl _ _) (Nat.le_refl _) ?_; intro w2 _ _ hq; replace hb := hb.trans (hq.mono hB); replace hB := hb.size; replace hO := hO.later hq; replace hOx := hOx.later hq; clear hq hx) | (at_builtin; refine wpList_append_OwnA rfl _ _ 22 rfl 9 i0 (.string ⟨#[]⟩) 1 16 Try.underlying22 hi hz0 hz1 hz2 rfl (by decide) _ _ _ rfl (Own.alloc hO _) ⟨w2.heap.size, 0, none⟩ 1 1 [_] rfl rfl (one_new _ _ _) (one_str _) ?d1 ?d2 (below_alloc hb hB _).2 ?_))
          case d1 => unfold maxLen; omega
          case d2 => omega
          intro v3 w3 hO3 hg3 ha3
          have hb3 := (Own.alloc hO (.cells #[Value.string (cellInt n)] 9)).grown (below_alloc hb hB _).1 (below_alloc hb hB _).2 hg3
          obtain ⟨hOx', hap'⟩ := own_beside (Own.alloc hOx (.cells #[Value.string (cellInt n)] 9)) hap hg3 (fun k hk => (ha3 k hk).imp id fun h => by simpa using h)
          have HOX := Lib.hid hOx'
          have HAP := Lib.hid hap'
          clear hOx hOx' hap hap'
          have HX := Lib.hid hO3
          clear hO hb hB hg3 ha3 hO3
          go_wp2
          go_roundw
          case rel => exact ⟨k + 1, by omega, by go_num, by rw [HS.out]; exact HX.out, HOX.out, HAP.out, hb3⟩
          case measure => simp [intOf]; omega
        · obtain rfl : k = m.length := by omega
          rw [List.take_length] at hO
          obtain ⟨Ay, py, rfl⟩ := hO.len
          subst hvx
          have hs1 := hOx.slice
          have hs2 := hO.slice
          clear hO hOx hap
          go_wp2_with fail
          have hp := steps_print_calls (cellsI_in hs1 rfl) (by rw [List.length_map]; omega)
          rw [HP1.out] at hp
          refine hp.stepB (w0 := w) (B := w.heap.size) hb hB ?_
          clear hb hB hp
          intro w6 hb hB hq
          replace hs1 := SliceOf.later hs1 hq
          replace hs2 := SliceOf.later hs2 hq
          clear hq
          go_wp2_with (at_builtin; refine wpList_append_src rfl (.tmp 55) (.tmp 56) 22 rfl 9 i0 (.string ⟨#[]⟩) 1 16 Try.underlying22 hi hz0 hz1 hz2 rfl (by decide) (B := w6.heap.size) _ 0 [] rfl (own_empty 1 (Nat.le_refl _) (by simp)) _ l.length (cellsI l) rfl (hs1.alloc _) (one_cells _) (by unfold maxLen; omega) (by omega) (by simp) ?_)
          intro v7 w7 hO7 hg7 _
          have hb7 := boxed_below hg7
          go_wp2_with (at_builtin; refine wpList_append_src rfl (.tmp 57) (.tmp 58) 22 rfl 9 i0 (.string ⟨#[]⟩) 1 16 Try.underlying22 hi hz0 hz1 hz2 rfl (by decide) (B := w6.heap.size) v7 _ _ rfl hO7 _ m.length (cellsI m) rfl (SliceOf.later hs2 hb7) (one_cells _) (by unfold maxLen; omega) (by omega) hb7.size ?_)
          intro v8 w8 hO8 hg8 _
          have hb8 := hb7.grown hg8 hb7.size (fun k hk => (hO7.lt k hk).1)
          replace hb := hb.trans (hb8.mono hB)
          replace hB := hb.size
          replace hs1 := SliceOf.later hs1 hb8
          replace hs2 := SliceOf.later hs2 hb8
          have hall : StrsIn w8 v8 ((l ++ m).map cellInt) := cellsI_in (n := l.length + m.length) (by
            have h := hO8.slice
            unfold cellsI at h ⊢
            rw [List.map_append]; exact h) (by rw [List.length_append])
          have hx1 := cellsI_in hs1 rfl
          have hx2 := cellsI_in hs2 rfl
          obtain ⟨A8, p8, rfl⟩ := hO8.len
          clear hO7 hg7 hb7 hO8 hg8 hb8 hs1 hs2
          go_wp2_with fail
          have hp := steps_print_calls hall (by rw [List.length_map, List.length_append]; omega)
          rw [HP3.out] at hp
          refine hp.stepB (w0 := w) (B := w.heap.size) hb hB ?_
          clear hb hB hp hall
          intro w9 hb hB hq
          replace hx1 := StrsIn.kept hx1 hq
          replace hx2 := StrsIn.kept hx2 hq
          clear hq
          go_wp2_with fail
          refine awake_calls.stepB (w0 := w) (B := w.heap.size) hb hB ?_
          clear hb hB
          intro w10 hb hB hq
          replace hx1 := StrsIn.kept hx1 hq
          replace hx2 := StrsIn.kept hx2 hq
          clear hq
          go_wp2_with fail
          have hp := steps_print_calls hx2 (by rw [List.length_map]; omega)
          rw [HP2.out] at hp
          refine hp.stepB (w0 := w) (B := w.heap.size) hb hB ?_
          clear hb hB hp
          intro w11 hb hB hq
          replace hx1 := StrsIn.kept hx1 hq
          replace hx2 := StrsIn.kept hx2 hq
          clear hq
          go_wp2_with fail
          have hs := same_strs hx1 hx2 (by rw [List.length_map]; omega) (by rw [List.length_map]; omega)
          obtain ⟨e, he1, he2⟩ : ∃ e, ((stepsT l).toList == (stepsT m).toList) = e ∧ decide (l.map cellInt = m.map cellInt) = e := ⟨_, HEQ.out, rfl⟩
          rw [he2] at hs
          obtain ⟨f1, f2⟩ := hfr
          have g1 : decide (((stepsT l).size : Int) ≤ ((stepsT (l ++ m)).size : Int)) = true := by rw [decide_eq_true_eq]; omega
          have g2 : decide ((stepsT l).size ≤ (stepsT (l ++ m)).size) = true := by rw [decide_eq_true_eq]; omega
          have g3 : ((stepsT l).size : Int) ≤ ((stepsT (l ++ m)).size : Int) := by omega
          clear he2 HEQ HP1 HP2 HP3
          generalize stepsT l = s at *
          generalize stepsT m = t at *
          generalize stepsT (l ++ m) = u at *
          refine hs.stepB (w0 := w) (B := w.heap.size) hb hB ?_
          clear hb hB hs
          intro w12 hb hB hq
          replace hx1 := StrsIn.kept hx1 hq
          have hmy := may_calls hx1
          rw [HMAY.out] at hmy
          clear hq hx1 hx2 HMAY
          cases e
          all_goals
            go_wp2_with fail
            refine hmy.step (w0 := w) (B := w.heap.size) hb hB ?_
            clear hb hB hmy
            intro w13 hb hB
            go_wp2
            go_ret
            exact ⟨ret_bool (by simp), hb⟩

set_option maxHeartbeats 1000000 in
theorem stepsApart_calls {w : World} {v1 v2 : Value} {l m : List Int} (h1 : IntsIn w v1 l) (h2 : IntsIn w v2 m) (r1 : InR l) (r2 : InR m) : GivesAt Try.prog 5 #[v1, v2] w (.bool true) := by
  by_cases hgo : l.length ≤ 200 ∧ m.length ≤ 200 ∧ 0 < l.length
  · exact stepsApart_short h1 h2 r1 r2 hgo.1 hgo.2.1 hgo.2.2
  · obtain ⟨hb, hB⟩ := start w
    obtain ⟨A1, cap1, rfl, _⟩ := one_at h1
    obtain ⟨A2, cap2, rfl, _⟩ := one_at h2
    clear h1 h2
    unfold GivesAt
    by_cases hl : l.length ≤ 200
    · by_cases hm : m.length ≤ 200
      · have h0 : l.length = 0 := by omega
        have d1 : decide (200 < (l.length : Int)) = false := by rw [decide_eq_false_iff_not]; omega
        have d2 : decide (200 < (m.length : Int)) = false := by rw [decide_eq_false_iff_not]; omega
        have d3 : ((l.length : Int) == 0) = true := by rw [beq_iff_eq]; omega
        clear hgo h0
        go_enter Try.func5, Try.ntmps5
        go_wp2_with (go_at_call 7; refine awake_calls.step (w0 := w) (B := w.heap.size) hb hB ?_; clear hb hB; intro w' hb hB)
        go_ret
        exact ⟨rfl, hb⟩
      · have d1 : decide (200 < (l.length : Int)) = false := by rw [decide_eq_false_iff_not]; omega
        have d2 : decide (200 < (m.length : Int)) = true := by rw [decide_eq_true_eq]; omega
        clear hgo
        go_enter Try.func5, Try.ntmps5
        go_wp2_with (go_at_call 7; refine awake_calls.step (w0 := w) (B := w.heap.size) hb hB ?_; clear hb hB; intro w' hb hB)
        go_ret
        exact ⟨rfl, hb⟩
    · have d1 : decide (200 < (l.length : Int)) = true := by rw [decide_eq_true_eq]; omega
      clear hgo
      go_enter Try.func5, Try.ntmps5
      go_wp2_with (go_at_call 7; refine awake_calls.step (w0 := w) (B := w.heap.size) hb hB ?_; clear hb hB; intro w' hb hB)
      go_ret
      exact ⟨rfl, hb⟩
end Go.Proofs.Ytbpigfpkcflbkaa
