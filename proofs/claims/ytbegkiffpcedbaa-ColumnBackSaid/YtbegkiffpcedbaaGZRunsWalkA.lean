/- The contract of layer 4's Runs. -/
import Derived.Test.YtbegkiffpcedbaaGRuns
namespace Go.Proofs.Ytbegkiffpcedbaa
open Go Go.RowKit

theorem own_apart {w w' : World} {B nc nn : Nat} {c0 c1 nv : Value} {cs ns : List Value} (_hc : Own w B 1 c0 nc cs) (hn : Own w B 1 nv nn ns) (hap : ∀ k, c0.ownBlock = some k → nv.ownBlock ≠ some k)
    (hg : w.grownBy w' c0.ownBlock) (hc' : ∀ k, c1.ownBlock = some k → c0.ownBlock = some k ∨ w.heap.size ≤ k) : Own w' B 1 nv nn ns ∧ ∀ k, c1.ownBlock = some k → nv.ownBlock ≠ some k := by
  refine ⟨hn.other hg (fun k hk e => hap k e.symm hk), fun k hk e => ?_⟩
  rcases hc' k hk with h | h
  · exact hap k h e
  · have := (hn.lt k e).2; omega
/-- What is known behind the two appends of a new run. -/
def NewRun (w : World) (B : Nat) (c n : Value) (rs : List (ByteArray × Nat)) (d : ByteArray) : Prop :=
  Own w B 1 c (rs.length + 1) (cellsV (rs ++ [(d, 1)])) ∧ Own w B 1 n (rs.length + 1) (oftenV rs ++ [.int .i64 0]) ∧ ∀ k, c.ownBlock = some k → n.ownBlock ≠ some k
theorem NewRun.stored {w : World} {B : Nat} {c : Value} {g off cap : Nat} {rs : List (ByteArray × Nat)} {d : ByteArray} (h : NewRun w B c (.slice (some ⟨g, off, none⟩) (rs.length + 1) cap) rs d) :
    OwnRuns (w.setCell ⟨g, off + rs.length, none⟩ (.int .i64 1)) B c (.slice (some ⟨g, off, none⟩) (rs.length + 1) cap) (rs ++ [(d, 1)]) := by
  obtain ⟨h1, h2, h3⟩ := h
  have h4 := h2.stored rs.length (by omega) (.int .i64 1)
  have e : (oftenV rs ++ [Value.int .i64 0]).set rs.length (.int .i64 1) = oftenV (rs ++ [(d, 1)]) := by
    rw [List.set_append_right _ _ (by rw [oftenV_length]; exact Nat.le_refl _), oftenV_length, Nat.sub_self, oftenV_append]; rfl
  rw [e] at h4
  refine ⟨?_, ?_, h3⟩
  · rw [List.length_append]
    exact h1.other (grown_set (grown_refl w (some g)) _ _) (fun k hk e => h3 k hk (by rw [e]; rfl))
  · rw [List.length_append]; exact h4
theorem OwnRuns.bumped {w : World} {B : Nat} {c : Value} {g off cap : Nat} {rs : List (ByteArray × Nat)} {d : ByteArray} {m : Nat} (h : OwnRuns w B c (.slice (some ⟨g, off, none⟩) (rs.length + 1) cap) (rs ++ [(d, m)])) :
    OwnRuns (w.setCell ⟨g, off + rs.length, none⟩ (.int .i64 ((m : Int) + 1))) B c (.slice (some ⟨g, off, none⟩) (rs.length + 1) cap) (rs ++ [(d, m + 1)]) := by
  obtain ⟨h1, h2, h3⟩ := h
  rw [List.length_append] at h1 h2
  rw [show (m : Int) + 1 = ((m + 1 : Nat) : Int) by omega]
  have h4 := h2.stored rs.length (by simp) (.int .i64 ((m + 1 : Nat) : Int))
  rw [oftenV_set] at h4
  refine ⟨?_, ?_, h3⟩
  · rw [List.length_append]
    rw [cellsV_append] at h1 ⊢
    exact h1.other (grown_set (grown_refl w (some g)) _ _) (fun k hk e => h3 k hk (by rw [e]; rfl))
  · rw [List.length_append]; exact h4

theorem runs_newAny (l : List ByteArray) (k : Nat) (h : k < l.length) (hn : k = 0 ∨ (0 < k ∧ l[k] ≠ l[k - 1])) : runsOf (l.take (k + 1)) = runsOf (l.take k) ++ [(l[k], 1)] := by
  rcases hn with rfl | ⟨h0, he⟩
  · exact runs_first l h
  · exact runs_new l k h h0 he

set_option maxHeartbeats 2000000 in
theorem runs_calls {w : World} {v : Value} {l : List ByteArray} (h : StrsIn w v l) (hlen : l.length ≤ 1000000) : GivesRuns Try.prog 38 #[v] w (runsOf l) := by
  obtain ⟨s0, hs, hsz0, hsz1, hsz2⟩ := info_parts Try.infoS9
  obtain ⟨i0, hi, hz0, hz1, hz2⟩ := info_parts Try.infoI3
  obtain ⟨hb, hB⟩ := start w
  obtain ⟨A, cap, rfl, hat⟩ := one_at h
  have HAT := Lib.hid hat
  clear h hat
  go_enter Try.func38, Try.ntmps38
  go_wp2
  go_loopw [4, 5, 10] (fun c n i wr => ∃ (k : Nat), k ≤ l.length ∧ i = .int .i64 k ∧ OwnRuns wr w.heap.size c n (runsOf (l.take k)) ∧ Below w.heap.size w wr ∧ w.heap.size ≤ wr.heap.size) (fun _ _ i _ => l.length - (intOf i).toNat)
  case atStart => exact ⟨0, by omega, rfl, OwnRuns.nil_ _ _, hb, hB⟩
  case round =>
    clear hb hB
    obtain ⟨k, hk, rfl, hown, hb, hB⟩ := hrel
    by_cases hlt : k < l.length
    · obtain ⟨b, off, rfl, hbl, hc⟩ := HAT.out k hlt
      have hx := (hb.cell (p := ⟨b, off + k, none⟩) hbl).trans (hc k hlt)
      have hle := runs_le (l.take k)
      rw [List.length_take] at hle
      have hle2 : (runsOf (l.take k)).length ≤ 1000000 := by omega
      clear hle
      by_cases hnew : k = 0 ∨ (0 < k ∧ l[k] ≠ l[k - 1])
      · have HN := Lib.hid (runs_newAny l k hlt hnew)
        generalize runsOf (l.take k) = rs at *
        rcases hnew with h0 | ⟨h0, he⟩
        case' inl =>
          subst h0
          replace hx : wr.cell? ⟨b, off, none⟩ = some (.string l[0]) := hx
          replace HN := HN.out
          clear hc
          generalize l[0] = x at hx HN
          replace HN := Lib.hid HN
        case' inr =>
          have hx1 := (hb.cell (p := ⟨b, off + (k - 1), none⟩) hbl).trans (hc (k - 1) (by omega))
          have q1 : ((k : Int) == 0) = false := by rw [beq_eq_false_iff_ne]; omega
          have q2 : IntKind.i64.wrap ((k : Int) - 1) = (k : Int) - 1 := IntWalk.i64_in _ (by omega)
          have q3 : (0 : Int) ≤ (k : Int) - 1 := by omega
          have q4 : ((k : Int) - 1).toNat = k - 1 := by omega
          have q5 : (k : Int) - 1 < (l.length : Int) := by omega
          obtain ⟨he, g1, g2⟩ := (str_ne_cases l[k] l[k - 1]).resolve_left (fun x => he x.1)
          replace HN := HN.out
          clear he hc
          generalize l[k - 1] = y at hx1 g1 g2
          generalize l[k] = x at hx HN g1 g2
          replace HN := Lib.hid HN
        all_goals
          go_wp2_with (at_builtin; refine wpList_append_OwnA rfl _ _ 22 rfl 9 s0 (.string ⟨#[]⟩) 1 16 Try.underlying22 hs hsz0 hsz1 hsz2 rfl (by decide) _ _ _ rfl (Own.alloc hown.1 _) ⟨wr.heap.size, 0, none⟩ 1 1 [_] rfl rfl (one_new _ _ _) (one_str _) ?c1 ?c2 (below_alloc hb hB _).2 ?_)
          case c1 => unfold maxLen; omega
          case c2 => omega
          intro v1 w1 hown1 hg1 hap1
          have hn0 := Own.alloc hown.2.1 (.cells #[Value.string x] 9)
          obtain ⟨hn1, hap2⟩ := own_apart (c1 := v1) (Own.alloc hown.1 (.cells #[Value.string x] 9)) hn0 hown.2.2 hg1 (by simpa using hap1)
          have hb1 := (Own.alloc hown.1 (.cells #[Value.string x] 9)).grown (below_alloc hb hB _).1 (below_alloc hb hB _).2 hg1
          have hB1 : w.heap.size ≤ w1.heap.size := hb1.size
          clear hn0 hown hg1 hap1 hb hB hx
          go_wp2_with (at_builtin; refine wpList_append_OwnA rfl _ _ 60 rfl 3 i0 (.int .i64 0) 1 8 Try.underlying60 hi hz0 hz1 hz2 rfl (by decide) _ _ _ rfl (Own.alloc hn1 _) ⟨w1.heap.size, 0, none⟩ 1 1 [_] rfl rfl (one_new _ _ _) (one_int _ _) ?c1 ?c2 (below_alloc hb1 hB1 _).2 ?_)
          case c1 => unfold maxLen; omega
          case c2 => omega
          intro v2 w2 hown2 hg2 hap3
          obtain ⟨hc2, hap4⟩ := own_apart (c1 := v2) (Own.alloc hn1 (.cells #[Value.int .i64 0] 3)) (Own.alloc hown1 (.cells #[Value.int .i64 0] 3)) (fun k h1 h2 => hap2 k h2 h1) hg2 (by simpa using hap3)
          have hb2 := (Own.alloc hn1 (.cells #[Value.int .i64 0] 3)).grown (below_alloc hb1 hB1 _).1 (below_alloc hb1 hB1 _).2 hg2
          have hB2 : w.heap.size ≤ w2.heap.size := hb2.size
          clear hn1 hown1 hg2 hap2 hap3 hb1 hB1
          obtain ⟨g, o, cp, rfl⟩ := hown2.some_ (by omega)
          have hO := Lib.hid (NewRun.stored (d := x) ⟨by rw [cellsV_append]; exact hc2, hown2, fun k h1 h2 => hap4 k h2 h1⟩)
          obtain ⟨hBg, _, _, hcv, hcell⟩ := hown2.parts
          have hcl : w2.cell? ⟨g, o + rs.length, none⟩ = some (.int .i64 0) := hcv rs.length _ (by rw [List.getElem?_append_right (by rw [oftenV_length]; exact Nat.le_refl _), oftenV_length, Nat.sub_self]; rfl)
          have hfr : w2.frozen? ⟨g, o + rs.length, none⟩ = false := (hcell rs.length (by omega)).2
          have hb3 := Lib.hid (hb2.grown (grown_set (grown_refl w2 (some g)) (o + rs.length) (.int .i64 1)) hB2 (fun k hk => by cases hk; exact hBg))
          clear hcv hcell hown2 hc2 hap4 hb2
          go_wp2
          go_roundw
          case rel => exact ⟨_, Nat.succ_le_of_lt hlt, by go_num, Eq.subst (motive := fun r => OwnRuns _ _ _ _ r) HN.out.symm hO.out, hb3.out, hb3.out.size⟩
          case measure => simp [intOf]; omega
      · have h0 : 0 < k := by omega
        obtain ⟨he, g1, g2⟩ := (str_ne_cases l[k] l[k - 1]).resolve_right (fun x => hnew (.inr ⟨h0, x.1⟩))
        obtain ⟨rs, m, e1, e2, hm⟩ := runs_same l k hlt h0 he
        have hx1 := (hb.cell (p := ⟨b, off + (k - 1), none⟩) hbl).trans (hc (k - 1) (by omega))
        have q1 : ((k : Int) == 0) = false := by rw [beq_eq_false_iff_ne]; omega
        have q2 : IntKind.i64.wrap ((k : Int) - 1) = (k : Int) - 1 := IntWalk.i64_in _ (by omega)
        have q3 : (0 : Int) ≤ (k : Int) - 1 := by omega
        have q4 : ((k : Int) - 1).toNat = k - 1 := by omega
        have q5 : (k : Int) - 1 < (l.length : Int) := by omega
        rw [e1] at hown hle2
        rw [List.length_append] at hle2
        simp only [List.length_singleton] at hle2
        obtain ⟨hw1, hw2, hw3⟩ := hown
        rw [List.length_append] at hw1 hw2
        simp only [List.length_singleton] at hw1 hw2
        clear hc he hnew e1
        generalize l[k - 1] = y at hx1 g1 g2
        generalize l[k] = x at hx g1 g2 hw1 hw2 e2
        have HN := Lib.hid e2
        clear e2
        obtain ⟨g, o, cp, rfl⟩ := hw2.some_ (by omega)
        obtain ⟨hBg, hgl, _, hcv, hcell⟩ := hw2.parts
        have hcl : wr.cell? ⟨g, o + rs.length, none⟩ = some (.int .i64 m) := hcv rs.length _ (oftenV_last rs (x, m))
        have hfr : wr.frozen? ⟨g, o + rs.length, none⟩ = false := (hcell rs.length (by omega)).2
        have hO := Lib.hid (OwnRuns.bumped (rs := rs) (d := x) (m := m) ⟨by rw [List.length_append]; exact hw1, by rw [List.length_append]; exact hw2, hw3⟩)
        have hb3 := Lib.hid (hb.grown (grown_set (grown_refl wr (some g)) (o + rs.length) (.int .i64 ((m : Int) + 1))) hB (fun k hk => by cases hk; exact hBg))
        clear hcv hcell hw1 hw2 hw3 hb
        go_wp2
        go_roundw
        case rel => exact ⟨_, Nat.succ_le_of_lt hlt, by go_num, Eq.subst (motive := fun r => OwnRuns _ _ _ _ r) HN.out.symm hO.out, hb3.out, hb3.out.size⟩
        case measure => simp [intOf]; omega
    · obtain rfl : k = l.length := by omega
      rw [List.take_length] at hown
      go_wp2
      go_ret2
      exact ⟨_, _, rfl, hown, hb⟩
end Go.Proofs.Ytbegkiffpcedbaa
