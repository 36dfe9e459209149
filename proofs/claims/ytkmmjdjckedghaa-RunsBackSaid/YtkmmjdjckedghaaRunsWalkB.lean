/- The contract of the answer's Runs of layer 4. -/
import Derived.Test.YtkmmjdjckedghaaRunsWalkA
namespace Go.Proofs.Ytkmmjdjckedghaa
open Go Go.RowKit

theorem NewRun.made {w : World} {B : Nat} {c n : Value} {rs : List (ByteArray × Nat)} {d : ByteArray} (h1 : Own w B 1 c (rs.length + 1) (cellsV rs ++ [.string d])) (h2 : Own w B 1 n (rs.length + 1) (oftenV rs ++ [.int .i64 1]))
    (h3 : ∀ k, c.ownBlock = some k → n.ownBlock ≠ some k) : OwnRuns w B c n (rs ++ [(d, 1)]) := by
  refine ⟨?_, ?_, h3⟩
  · rw [List.length_append, cellsV_append]; exact h1
  · rw [List.length_append, oftenV_append]; exact h2

set_option maxHeartbeats 2000000 in
theorem ref_runs_calls {w : World} {v : Value} {l : List ByteArray} (h : StrsIn w v l) (hlen : l.length ≤ 1000000) : GivesRuns Try.prog 10 #[v] w (runsOf l) := by
  obtain ⟨s0, hs, hsz0, hsz1, hsz2⟩ := info_parts Try.infoS9
  obtain ⟨i0, hi, hz0, hz1, hz2⟩ := info_parts Try.infoI3
  obtain ⟨hb, hB⟩ := start w
  obtain ⟨A, cap, rfl, hat⟩ := one_at h
  have HAT := Lib.hid hat
  clear h hat
  go_enter Try.func10, Try.ntmps10
  go_wp2
  go_loopw [4, 5, 6] (fun c n i wr => ∃ (k : Nat), k ≤ l.length ∧ i = .int .i64 k ∧ OwnRuns wr w.heap.size c n (runsOf (l.take k)) ∧ Below w.heap.size w wr ∧ w.heap.size ≤ wr.heap.size) (fun _ _ i _ => l.length - (intOf i).toNat)
  case atStart => exact ⟨0, by omega, rfl, OwnRuns.nil_ _ _, hb, hB⟩
  case round =>
    clear hb hB
    obtain ⟨k, hk, rfl, hown, hb, hB⟩ := hrel
    by_cases hlt : k < l.length
    · obtain ⟨b, off, rfl, hbl, hc⟩ := HAT.out k hlt
      have hx := (hb.cell (p := ⟨b, off + k, none⟩) hbl).trans (hc k hlt)
      have hle := runs_le (l.take k)
      rw [List.length_take] at hle
      have hle2 : (runsOf (l.take k)).length ≤ 1000000 := by omega
      clear hle
      by_cases hnew : k = 0 ∨ (0 < k ∧ l[k] ≠ l[k - 1])
      · have HN := runs_newAny l k hlt hnew
        rcases hnew with h0 | ⟨h0, he⟩
        case' inl =>
          subst h0
          replace hx : wr.cell? ⟨b, off, none⟩ = some (.string l[0]) := hx
          clear hc
          generalize l[0] = x at hx HN
          obtain ⟨rs, hrs⟩ : ∃ rs, rs = runsOf (l.take 0) := ⟨_, rfl⟩
          rw [← hrs] at hown HN hle2
          replace HN := Lib.hid HN
          obtain rfl : rs = [] := by rw [hrs]; rfl
          obtain ⟨hw1, hw2, hw3⟩ := hown
          obtain ⟨_, cpc, rfl⟩ := hw1.len
          clear hrs
        case' inr =>
          obtain ⟨he, g1, g2⟩ := (str_ne_cases l[k - 1] l[k]).resolve_left (fun x => he x.1.symm)
          obtain ⟨rs0, m, e1⟩ := runs_last l k hlt h0
          clear he hc
          generalize l[k - 1] = y at e1 g1 g2
          generalize l[k] = x at hx HN g1 g2
          obtain ⟨hw1, hw2, hw3⟩ := hown
          generalize hrs : runsOf (l.take k) = rs at *
          have hrl : rs.length = rs0.length + 1 := by rw [e1]; simp
          obtain ⟨gc, oc, cpc, rfl⟩ := hw1.some_ (by omega)
          obtain ⟨_, _, _, hcv, _⟩ := hw1.parts
          have hcc : wr.cell? ⟨gc, oc + rs0.length, none⟩ = some (.string y) := hcv rs0.length _ (by rw [e1]; exact cellsV_last rs0 (y, m))
          have d1 : decide (0 ≤ (rs.length : Int) - 1) = true := by rw [decide_eq_true_eq]; omega
          have q2 : IntKind.i64.wrap ((rs.length : Int) - 1) = (rs.length : Int) - 1 := IntWalk.i64_in _ (by omega)
          have q3 : (0 : Int) ≤ (rs.length : Int) - 1 := by omega
          have q4 : ((rs.length : Int) - 1).toNat = rs0.length := by omega
          have q5 : (rs.length : Int) - 1 < (rs.length : Int) := by omega
          replace HN := Lib.hid HN
          have d2 : decide (1 ≤ (rs.length : Int)) = true := by rw [decide_eq_true_eq]; omega
          have q6 : rs0.length < rs.length := by omega
          clear hcv e1 hrs hrl
        all_goals
          go_wp2
          go_quiet (fail)
          have hw1q := Own.drewN hw1 nq
          have hw2q := Own.drewN hw2 nq
          have hbq := below_drewN hb nq
          have hBq : w.heap.size ≤ (wr.drewN nq).heap.size := hB
          clear hw1 hw2 hb hB
          go_wp2_with (at_builtin; refine wpList_append_OwnA rfl _ _ 22 rfl 9 s0 (.string ⟨#[]⟩) 1 16 Try.underlying22 hs hsz0 hsz1 hsz2 rfl (by decide) _ _ _ rfl (Own.alloc hw1q _) ⟨wr.heap.size, 0, none⟩ 1 1 [_] rfl rfl (one_new (wr.drewN nq) _ _) (one_str _) ?c1 ?c2 (below_alloc hbq hBq _).2 ?_)
          case c1 => unfold maxLen; omega
          case c2 => omega
          intro v1 w1 hown1 hg1 hap1
          have hn0 := Own.alloc hw2q (.cells #[Value.string x] 9)
          obtain ⟨hn1, hap2⟩ := own_apart (c1 := v1) (Own.alloc hw1q (.cells #[Value.string x] 9)) hn0 hw3 hg1 (by simpa using hap1)
          have hb1 := (Own.alloc hw1q (.cells #[Value.string x] 9)).grown (below_alloc hbq hBq _).1 (below_alloc hbq hBq _).2 hg1
          have hB1 : w.heap.size ≤ w1.heap.size := hb1.size
          clear hn0 hw1q hw2q hw3 hg1 hap1 hbq hBq hx
          go_wp2_with (at_builtin; refine wpList_append_OwnA rfl _ _ 25 rfl 3 i0 (.int .i64 0) 1 8 Try.underlying25 hi hz0 hz1 hz2 rfl (by decide) _ _ _ rfl (Own.alloc hn1 _) ⟨w1.heap.size, 0, none⟩ 1 1 [_] rfl rfl (one_new _ _ _) (one_int _ _) ?c1 ?c2 (below_alloc hb1 hB1 _).2 ?_)
          case c1 => unfold maxLen; omega
          case c2 => omega
          intro v2 w2 hown2 hg2 hap3
          obtain ⟨hc2, hap4⟩ := own_apart (c1 := v2) (Own.alloc hn1 (.cells #[Value.int .i64 1] 3)) (Own.alloc hown1 (.cells #[Value.int .i64 1] 3)) (fun k h1 h2 => hap2 k h2 h1) hg2 (by simpa using hap3)
          have hb2 := (Own.alloc hn1 (.cells #[Value.int .i64 1] 3)).grown (below_alloc hb1 hB1 _).1 (below_alloc hb1 hB1 _).2 hg2
          have hO := Lib.hid (NewRun.made hc2 hown2 (fun k h1 h2 => hap4 k h2 h1))
          clear hn1 hown1 hg2 hap2 hap3 hap4 hb1 hB1 hown2 hc2
          go_wp2
          go_roundw
          case rel => exact ⟨_, Nat.succ_le_of_lt hlt, by go_num, Eq.subst (motive := fun r => OwnRuns _ _ _ _ r) HN.out.symm hO.out, hb2, hb2.size⟩
          case measure => simp [intOf]; omega
      · have h0 : 0 < k := by omega
        obtain ⟨he, g1, g2⟩ := (str_ne_cases l[k] l[k - 1]).resolve_right (fun x => hnew (.inr ⟨h0, x.1⟩))
        obtain ⟨rs, m, e1, e2, hm⟩ := runs_same l k hlt h0 he
        rw [e1] at hown hle2
        rw [List.length_append] at hle2
        simp only [List.length_singleton] at hle2
        obtain ⟨hw1, hw2, hw3⟩ := hown
        rw [List.length_append] at hw1 hw2
        simp only [List.length_singleton] at hw1 hw2
        clear hc he hnew e1 g1 g2
        generalize l[k - 1] = y at *
        generalize l[k] = x at hx hw1 hw2 e2
        have HN := Lib.hid e2
        clear e2
        obtain ⟨gc, oc, cpc, rfl⟩ := hw1.some_ (by omega)
        obtain ⟨_, _, _, hcc, _⟩ := hw1.parts
        have hcc := hcc rs.length _ (cellsV_last rs (x, m))
        obtain ⟨g, o, cp, rfl⟩ := hw2.some_ (by omega)
        obtain ⟨hBg, hgl, _, hcv, hcell⟩ := hw2.parts
        have hcl : wr.cell? ⟨g, o + rs.length, none⟩ = some (.int .i64 m) := hcv rs.length _ (oftenV_last rs (x, m))
        have hfr : wr.frozen? ⟨g, o + rs.length, none⟩ = false := (hcell rs.length (by omega)).2
        have hO := fun nq => OwnRuns.bumped (w := wr.drewN nq) (rs := rs) (d := x) (m := m) ⟨by rw [List.length_append]; exact hw1, by rw [List.length_append]; exact hw2, hw3⟩
        have hb3 := fun nq => (below_drewN hb nq).grown (grown_set (grown_refl (wr.drewN nq) (some g)) (o + rs.length) (.int .i64 ((m : Int) + 1))) hB (fun k hk => by cases hk; exact hBg)
        clear hcv hcell hw1 hw2 hw3 hb
        go_wp2
        go_quiet (fail)
        replace hO := Lib.hid (hO nq)
        replace hb3 := Lib.hid (hb3 nq)
        go_wp2
        go_roundw
        case rel => exact ⟨_, Nat.succ_le_of_lt hlt, by go_num, Eq.subst (motive := fun r => OwnRuns _ _ _ _ r) HN.out.symm hO.out, hb3.out, hb3.out.size⟩
        case measure => simp [intOf]; omega
    · obtain rfl : k = l.length := by omega
      rw [List.take_length] at hown
      go_wp2
      go_ret2
      exact ⟨_, _, rfl, hown, hb⟩
end Go.Proofs.Ytkmmjdjckedghaa
