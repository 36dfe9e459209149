/- The law RunsBack. -/
import Derived.Test.YtkmmjdjckedghaaRunsLawsB
namespace Go.Proofs.Ytkmmjdjckedghaa
open Go Go.RowKit

theorem runsP_size (l : List ByteArray) (hl : l.length ≤ 300) (hs : ∀ c ∈ l, c.size ≤ 200) : (mkB (runsP l)).size ≤ 300006000 := by
  rw [mkB_size]
  have h1 := runB_size (runsOf l) (fun x hx => ⟨by have := hs _ (runsOf_mem l x hx).1; omega, by have := (runsOf_mem l x hx).2; omega⟩)
  have h2 := runs_le l
  show (runB (runsOf l)).length ≤ _
  omega

set_option maxHeartbeats 4000000 in
set_option maxRecDepth 100000 in
theorem runsBack_calls {w : World} {v : Value} {l : List ByteArray} (h : StrsIn w v l) (more : ByteArray) : GivesAt Try.prog 5 #[v, .string more] w (.bool true) := by
  obtain ⟨hb, hB⟩ := start w
  have HS := Lib.hid (small_calls h)
  unfold GivesAt
  by_cases hgd : smallL l = false ∨ ¬ more.size ≤ 100
  · have hgd2 : smallL l = false ∨ (smallL l = true ∧ decide (100 < (more.size : Int)) = true) := by
      cases hs : smallL l with
      | false => exact .inl rfl
      | true => exact .inr ⟨rfl, by rw [decide_eq_true_eq]; have := hgd.resolve_left (by rw [hs]; decide); omega⟩
    obtain ⟨_, _, rfl, _⟩ := one_at h
    clear h hgd
    rcases hgd2 with e | ⟨e, d⟩
    all_goals
      rw [e] at HS
      go_enter Try.func5, Try.ntmps5
      go_wp2_with (first | (go_at_call 7; refine HS.out.step ?_) | (go_at_call 8; refine awake_calls.step (w0 := w) (B := w.heap.size) hb hB ?_; clear hb hB; intro w' hb hB))
      go_ret
      exact ⟨rfl, hb⟩
  · have hsm : smallL l = true := by
      cases hs : smallL l with
      | true => rfl
      | false => exact absurd (.inl hs) hgd
    have hmz : more.size ≤ 100 := by
      refine Decidable.byContradiction fun hc => hgd (.inr hc)
    have d1 : decide (100 < (more.size : Int)) = false := by rw [decide_eq_false_iff_not]; omega
    rw [hsm] at HS
    obtain ⟨hl, hsz⟩ := smallL_of hsm
    have HL := Lib.hid h
    obtain ⟨A, cap, rfl, hat⟩ := one_at h
    have HAT := Lib.hid hat
    clear h hgd hsm hat
    go_enter Try.func5, Try.ntmps5
    go_wp2_with (go_at_call 7; refine HS.out.step ?_)
    go_loopw [5, 6] (fun n i wr => ∃ k : Nat, k ≤ l.length ∧ i = .int .i64 k ∧ n = .int .i64 ((runsOf (l.take k)).length : Nat) ∧ Hid (∀ c ∈ l.take k, rightB c = true) ∧ Below w.heap.size w wr) (fun _ i _ => l.length - (intOf i).toNat)
    case atStart => exact ⟨0, Nat.zero_le _, rfl, rfl, fun c hc => absurd hc (by simp), hb⟩
    case round =>
      clear hb hB
      obtain ⟨k, hk, rfl, rfl, HRt, hb⟩ := hrel
      have hB := hb.size
      by_cases hlt : k < l.length
      · obtain ⟨b, off, rfl, hbl, hc⟩ := HAT.out k hlt
        have hx := (hb.cell (p := ⟨b, off + k, none⟩) hbl).trans (hc k hlt)
        have p1 := Lib.hid (right_calls l[k])
        by_cases hr : rightB l[k] = true
        · rw [hr] at p1
          have hle := runs_le (l.take k)
          rw [List.length_take] at hle
          have hle2 : (runsOf (l.take k)).length ≤ 300 := by omega
          have HRn : Hid (∀ c ∈ l.take (k + 1), rightB c = true) := by
            intro c hc
            rw [take_add l k hlt] at hc
            rcases List.mem_append.1 hc with hc | hc
            · exact HRt.out c hc
            · rw [List.mem_singleton] at hc; rw [hc]; exact hr
          clear hle
          by_cases hnew : k = 0 ∨ (0 < k ∧ l[k] ≠ l[k - 1])
          · have HN : Hid ((runsOf (l.take (k + 1))).length = (runsOf (l.take k)).length + 1) := by show _ = _; rw [runs_newAny l k hlt hnew, List.length_append]; rfl
            rcases hnew with h0 | ⟨h0, he⟩
            case' inl =>
              subst h0
              replace hx : wr.cell? ⟨b, off, none⟩ = some (.string l[0]) := hx
              clear hc
            case' inr =>
              have hx1 := (hb.cell (p := ⟨b, off + (k - 1), none⟩) hbl).trans (hc (k - 1) (by omega))
              have q1 : ((k : Int) == 0) = false := by rw [beq_eq_false_iff_ne]; omega
              have q2 : IntKind.i64.wrap ((k : Int) - 1) = (k : Int) - 1 := IntWalk.i64_in _ (by omega)
              have q3 : (0 : Int) ≤ (k : Int) - 1 := by omega
              have q4 : ((k : Int) - 1).toNat = k - 1 := by omega
              have q5 : (k : Int) - 1 < (l.length : Int) := by omega
              obtain ⟨_, g1, g2⟩ := (str_ne_cases l[k] l[k - 1]).resolve_left (fun x => he x.1)
              have hx1' := fun wq (hq : Below wr.heap.size wr wq) => cell_kept hx1 hq
              clear he hc
            all_goals
              have hx' := fun wq (hq : Below wr.heap.size wr wq) => cell_kept hx hq
              go_wp2_with (go_at_call 20; refine p1.out.stepB (w0 := w) (B := w.heap.size) hb hB ?_; clear hb hB; intro w3 hb hB hq; clear hx)
              have hx2 := hx' w3 hq
              try have hx3 := hx1' w3 hq
              clear hx' hq
              go_quiet (fail)
              go_wp2
              go_roundw
              case rel => exact ⟨_, Nat.succ_le_of_lt hlt, by go_num, by rw [show (runsOf (l.take (Nat.succ _))).length = _ from HN.out]; first | go_num | (rw [List.take_zero, show (runsOf []).length = 0 from rfl]; simp [wrap64]), HRn, below_drewN hb _⟩
              case measure => simp [intOf]; omega
          · have h0 : 0 < k := by omega
            obtain ⟨he, g1, g2⟩ := (str_ne_cases l[k] l[k - 1]).resolve_right (fun x => hnew (.inr ⟨h0, x.1⟩))
            have HN : Hid ((runsOf (l.take (k + 1))).length = (runsOf (l.take k)).length) := by
              obtain ⟨rs, m, e1, e2, _⟩ := runs_same l k hlt h0 he
              show _ = _; rw [e1, e2, List.length_append, List.length_append]; rfl
            have hx1 := (hb.cell (p := ⟨b, off + (k - 1), none⟩) hbl).trans (hc (k - 1) (by omega))
            have q1 : ((k : Int) == 0) = false := by rw [beq_eq_false_iff_ne]; omega
            have q2 : IntKind.i64.wrap ((k : Int) - 1) = (k : Int) - 1 := IntWalk.i64_in _ (by omega)
            have q3 : (0 : Int) ≤ (k : Int) - 1 := by omega
            have q4 : ((k : Int) - 1).toNat = k - 1 := by omega
            have q5 : (k : Int) - 1 < (l.length : Int) := by omega
            clear hc hnew he
            have hx' := fun wq (hq : Below wr.heap.size wr wq) => cell_kept hx hq
            have hx1' := fun wq (hq : Below wr.heap.size wr wq) => cell_kept hx1 hq
            go_wp2_with (go_at_call 20; refine p1.out.stepB (w0 := w) (B := w.heap.size) hb hB ?_; clear hb hB; intro w3 hb hB hq; clear hx hx1)
            have hx2 := hx' w3 hq
            have hx3 := hx1' w3 hq
            clear hx' hx1' hq
            go_quiet (fail)
            go_wp2
            go_roundw
            case rel => exact ⟨_, Nat.succ_le_of_lt hlt, by go_num, by rw [show (runsOf (l.take (Nat.succ _))).length = _ from HN.out], HRn, below_drewN hb _⟩
            case measure => simp [intOf]; omega
        · have hr2 : rightB l[k] = false := by simpa using hr
          rw [hr2] at p1
          clear hc
          go_wp2_with (first | (go_at_call 20; refine p1.out.step (w0 := w) (B := w.heap.size) hb hB ?_; clear hb hB hx; intro w3 hb hB) | (go_at_call 8; refine awake_calls.step (w0 := w) (B := w.heap.size) hb hB ?_; clear hb hB; intro w' hb hB))
          go_ret
          exact ⟨rfl, hb⟩
      · obtain rfl : k = l.length := by omega
        rw [List.take_length] at HRt ⊢
        have hR : RunsAt (mkB (runsP l) ++ more).data.toList (l.length : Int) l more.data.toList := ⟨by omega, by omega, rfl, HRt.out, by rw [data_append]; rfl⟩
        have hz := runsP_size l hl hsz
        have hzz : (mkB (runsP l) ++ more).size ≤ 9223372036854775807 := by rw [ByteArray.size_append]; omega
        have hRd := fun b => runs_read_some b _ hzz hR
        rw [mkB_of] at hRd
        have HRd := Lib.hid hRd
        clear hRd hR hzz
        have hrl := runs_le l
        have hl1 := StrsIn.kept HL.out hb
        have hs1 := fun c hc => Nat.le_trans (hsz c hc) (by decide : 200 ≤ 1000000)
        go_wp2_with (go_at_call 14; refine (runs_print_calls hl1 (by omega) hs1).stepB (w0 := w) (B := w.heap.size) hb hB ?_; clear hb hB; intro w6 hb hB hq; replace hl1 := StrsIn.kept hl1 hq; clear hq)
        refine (HRd.out _).stepB (w0 := w) (B := w.heap.size) (box_tape w6 _ _ _) (below_alloc hb hB _).1 (below_alloc hb hB _).2 (by go_size) ?_
        clear hb hB
        intro v7 w7 hi7 _ hT7 hb hB hg
        have hq := boxed_below hg
        replace hl1 := StrsIn.kept hl1 hq
        clear hq hg
        go_wp2_with fail
        refine (runs_calls hl1 (by omega)).mono ?_
        rintro e w8 ⟨c8, n8, rfl, hr8, hk8⟩
        replace hb := hb.trans (hk8.mono hB)
        replace hB := hb.size
        replace hl1 := StrsIn.kept hl1 hk8
        replace hi7 := StrsIn.kept hi7 hk8
        replace hT7 := hT7.kept hk8
        obtain ⟨_, _, rfl⟩ := hr8.1.len
        obtain ⟨_, _, rfl⟩ := hr8.2.1.len
        clear hr8 hk8
        obtain ⟨_, _, rfl, _⟩ := one_at hi7
        go_wp2_with (go_at_call 8; refine awake_calls.stepB (w0 := w) (B := w.heap.size) hb hB ?_; clear hb hB; intro w9 hb hB hq; replace hl1 := StrsIn.kept hl1 hq; replace hi7 := StrsIn.kept hi7 hq; replace hT7 := hT7.kept hq; clear hq)
        have hs := same_strs hi7 hl1 (by omega) (by omega)
        rw [decide_eq_true rfl] at hs
        refine hs.stepB (w0 := w) (B := w.heap.size) hb hB ?_
        clear hb hB
        intro w10 hb hB hq
        have t1 := (hT7.kept hq).c0
        have t2 := (hT7.kept hq).c1
        clear hq hT7 hi7 hl1 hs
        go_wp2
        go_ret
        exact ⟨ret_bool (by simp), hb⟩
end Go.Proofs.Ytkmmjdjckedghaa
