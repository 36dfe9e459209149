/- The contract of the answer's Read of layer 7. -/
import Derived.Test.YtclkkffeaabloaaGapsTake
import Derived.Test.YtclkkffeaabloaaVaryReadRef2
import Derived.Test.YtclkkffeaabloaaTapeBad
namespace Go.Proofs.Ytclkkffeaabloaa
open Go Go.RowKit

def boolOne : Value → Nat
  | .bool true => 1
  | _ => 0
/-- What is known at the head of the answer's loop. -/
def GRefIn (T : TypeId) (w : World) (b : Nat) (s : ByteArray) (bad : Bool) (M : Nat) (v y f : Value) (wr : World) : Prop :=
  ∃ (K : Nat) (xs : List Value) (cur : ByteArray) (bb yy ff : Bool), K ≤ M ∧ Own wr w.heap.size 1 v K xs ∧ y = .bool yy ∧ f = .bool ff ∧ TapeIn T wr b cur bb ∧ w.grownBy wr (some b) ∧
    Hid ((bb = false ∧ ∃ ls, GState s bad M ls cur false ∧ K = sumN ls ∧ xs = (spreadG true ls).map Value.bool ∧ yy = flip true ls.length ∧ ff = decide (ls = [])) ∨ (bb = true ∧ (bad = true ∨ ¬ ∃ l r, GapsAt s.data.toList M l r)))

set_option maxHeartbeats 1000000 in
set_option maxRecDepth 100000 in
theorem ref_gaps_over (b : Nat) (s : ByteArray) (bad : Bool) (many : Int) (h : many < 0 ∨ 4096 < many) (w : World) (hT : TapeIn 38 w b s bad) :
    Calls Try.prog 18 #[.pointer (some ⟨b, 0, none⟩), .int .i64 many] w (GapsRead 38 w b s bad many) := by
  have hc1 := hT.c1
  have hf1 := hT.f0 1
  have hg := grown_refl w (some b)
  have HN := Lib.hid (gaps_over (s := s.data.toList) h)
  by_cases h0 : many < 0
  · have d1 : decide (many < 0) = true := by rw [decide_eq_true_eq]; exact h0
    clear h
    go_enter Try.func18, Try.ntmps18
    go_wp2
    go_ret
    exact .inr ⟨s, rfl, hT.set1 true, grown_set hg 1 (.bool true), .inr HN.out⟩
  · have d1 : decide (many < 0) = false := by rw [decide_eq_false_iff_not]; exact h0
    have d2 : decide (4096 < many) = true := by rw [decide_eq_true_eq]; omega
    clear h
    go_enter Try.func18, Try.ntmps18
    go_wp2
    go_ret
    exact .inr ⟨s, rfl, hT.set1 true, grown_set hg 1 (.bool true), .inr HN.out⟩

set_option maxHeartbeats 4000000 in
set_option maxRecDepth 100000 in
theorem ref_gaps_in (b : Nat) (s : ByteArray) (bad : Bool) (M : Nat) (hM : M ≤ 4096) (w : World) (hT : TapeIn 38 w b s bad) :
    Calls Try.prog 18 #[.pointer (some ⟨b, 0, none⟩), .int .i64 M] w (GapsRead 38 w b s bad M) := by
  obtain ⟨i0, hi, hz0, hz1, hz2⟩ := info_parts Try.infoS4
  have hg := grown_refl w (some b)
  have hbw := hT.lt
  have HF0 := Lib.hid (GState.first s bad (many := (M : Int)) (by omega))
  go_enter Try.func18, Try.ntmps18
  go_wp2
  go_loopw [5, 6, 7] (fun v y f wr => GRefIn 38 w b s bad M v y f wr) (fun v _ f wr => if tapeBad wr b then 0 else M + 1 - lenB v + boolOne f)
  case atStart =>
    refine ⟨0, [], s, bad, true, true, Nat.zero_le _, Own.nil_ _ _ _, rfl, rfl, hT, hg, ?_⟩
    show _ ∨ _
    cases bad with
    | false => exact .inl ⟨rfl, [], HF0.out, rfl, rfl, rfl, rfl⟩
    | true => exact .inr ⟨rfl, .inl rfl⟩
  case round =>
    clear hT hg HF0
    obtain ⟨K, xs, cur, bb, yy, ff, hKM, hO, rfl, rfl, hT, hg, HS⟩ := hrel
    have hbad0 := hT.isBad
    obtain ⟨A, cap, rfl⟩ := hO.len
    have c1 := hT.c1
    cases bb with
    | true =>
      have HN : Hid (bad = true ∨ ¬ ∃ l r, GapsAt s.data.toList M l r) := by
        rcases HS.out with ⟨h, _⟩ | ⟨_, h⟩
        · exact absurd h (by decide)
        · exact h
      clear HS
      by_cases hlt : K < M
      · go_wp2
        go_ret
        exact .inr ⟨cur, rfl, hT, hg, HN.out⟩
      · cases ff
        all_goals
          go_wp2
          go_ret
          exact .inr ⟨cur, rfl, hT, hg, HN.out⟩
    | false =>
      obtain ⟨ls, hS, hK, hxs, hyy, hff⟩ := (HS.out.resolve_right (fun h => absurd h.1 (by decide))).2
      clear HS
      by_cases hgo : K < M ∨ ff = true
      · have hnx : ls = [] ∨ (sumN ls : Int) < M := by
          rcases hgo with h | h
          · right; omega
          · left; rw [h] at hff; exact of_decide_eq_true hff.symm
        obtain ⟨n1, n2, n3⟩ := hS.next hnx
        have hD : (M : Int) - (sumN ls : Int) = ((M - K : Nat) : Int) := by omega
        rw [hD] at n1 n2 n3
        have H1 := Lib.hid (ref_tnum_calls b cur false ((M - K : Nat) : Int))
        generalize numT cur false ((M - K : Nat) : Int) = Y at *
        obtain ⟨n, r1, b1⟩ := Y
        simp only at n1 n2 n3 H1
        have q0 : (M : Int) - (K : Int) = ((M - K : Nat) : Int) := by omega
        have q2 : IntKind.u64.wrap ((M - K : Nat) : Int) = ((M - K : Nat) : Int) := wrap_lt _ (by omega)
        have hl0 : ls = [] → K = 0 := by rintro rfl; rw [hK]; rfl
        by_cases hn0 : n = 0 ∧ ff = false
        · obtain ⟨rfl, rfl⟩ := hn0
          have HNE : ls ≠ [] := of_decide_eq_false hff.symm
          have HN := Lib.hid (n2 (.inr ⟨HNE, rfl⟩))
          have hKM2 : K < M := hgo.resolve_right (by decide)
          clear n1 n2 n3 hS hK hxs hyy hff HNE hnx hl0 hgo hD
          go_wp2_with (go_at_call 22; refine H1.out.stepG hT hg ?_; clear hT hg c1; intro w2 hT hg hq; replace hO := own_aside hO hbw hq; clear hq; have c1 := hT.c1; have f1 := hT.f0 1)
          have HO := Lib.hid (own_aside hO hbw (grown_set (grown_refl w2 (some b)) 1 (.bool true)))
          have HTS := hT.set1 true
          have HGS := grown_set hg 1 (.bool true)
          clear hO hT hg c1 f1
          generalize w2.setCell ⟨b, 1, none⟩ (.bool true) = w3 at *
          refine wp_loop_rounds 1 ?_
          rw [rounds_succ]
          go_wp2
          go_roundw
          case rel => exact ⟨K, xs, r1, true, _, false, hKM, HO.out, rfl, rfl, HTS, HGS, .inr ⟨rfl, HN.out⟩⟩
          case measure => rw [HTS.isBad, hbad0]; simp [lenB]; omega
        · have hln : ls = [] ∨ n ≠ 0 := by
            cases ff with
            | true => exact .inl (of_decide_eq_true hff.symm)
            | false => exact .inr (fun h => hn0 ⟨h, rfl⟩)
          have HSN := n3 hln
          have HEND : Hid ((b1 = false ∧ ∃ ls, GState s bad M ls r1 false ∧ K + n = sumN ls ∧ xs ++ List.replicate n (Value.bool yy) = (spreadG true ls).map Value.bool ∧ (!yy) = flip true ls.length ∧ false = decide (ls = [])) ∨ (b1 = true ∧ (bad = true ∨ ¬ ∃ l r, GapsAt s.data.toList M l r))) := by
            show _ ∨ _
            cases b1 with
            | true => exact .inr ⟨rfl, n2 (.inl rfl)⟩
            | false => exact .inl ⟨rfl, ls ++ [n], HSN, by rw [sumN_snoc, hK], by rw [spread_vals, hxs, hyy], by rw [flip_snoc, hyy], by simp⟩
          have hKn : K + n ≤ M := by omega
          have hgd : (n = 0 ∧ ff = true ∧ K = 0) ∨ ((n : Int) == 0) = false := by
            by_cases h : n = 0
            · have hf : ff = true := by
                cases ff with
                | true => rfl
                | false => exact absurd ⟨h, rfl⟩ hn0
              exact .inl ⟨h, hf, hl0 (of_decide_eq_true (by rw [← hff, hf]))⟩
            · right; rw [beq_eq_false_iff_ne]; omega
          have hms : n = 0 → ff = true := fun h => by
            rcases hgd with ⟨_, h2, _⟩ | h2
            · exact h2
            · rw [beq_eq_false_iff_ne] at h2; omega
          have HMS : Hid (M + 1 - (K + n) < M + 1 - K + boolOne (.bool ff)) := by
            show _ < _
            by_cases h : n = 0
            · rw [hms h]; simp only [boolOne]; omega
            · omega
          clear n1 n2 n3 hS hK hxs hyy hff hnx hl0 hD hln HSN hn0 hms
          have hMz : ((M : Int) == 0) = true ∨ ((M : Int) == 0) = false := by cases ((M : Int) == 0) <;> simp
          clear hgo
          have h4 : ((((n : Int) == 0) = true ∧ ff = true ∧ ¬ 0 < K ∧ ((M : Int) == 0) = true ∧ ¬ K < M) ∨ (((n : Int) == 0) = true ∧ ff = true ∧ ¬ 0 < K ∧ ((M : Int) == 0) = false ∧ K < M)) ∨ (((n : Int) == 0) = false ∧ K < M) := by
            rcases hgd with ⟨h1, h2, h3⟩ | h1
            · have h1' : ((n : Int) == 0) = true := by rw [h1]; rfl
              rcases hMz with h | h
              · have h' := beq_iff_eq.1 h
                exact .inl (.inl ⟨h1', h2, by omega, h, by omega⟩)
              · have h' := beq_eq_false_iff_ne.1 h
                exact .inl (.inr ⟨h1', h2, by omega, h, by omega⟩)
            · have h' := beq_eq_false_iff_ne.1 h1
              exact .inr ⟨h1, by omega⟩
          clear hgd hMz
          rcases h4 with h4 | h4
          · have HN0 : Hid (n = 0) := by
              show _ = _
              rcases h4 with ⟨h, _⟩ | ⟨h, _⟩
              · have := beq_iff_eq.1 h; omega
              · have := beq_iff_eq.1 h; omega
            have p0 : ¬ (0 : Int) < (n : Int) := by have := HN0.out; omega
            rcases h4 with ⟨g1, rfl, g4, g2, g3⟩ | ⟨g1, rfl, g4, g2, g3⟩
            all_goals
              go_wp2_with (go_at_call 22; refine H1.out.stepG hT hg ?_; clear hT hg c1; intro w2 hT hg hq; replace hO := own_aside hO hbw hq; clear hq; have c1 := hT.c1; have f1 := hT.f0 1)
              have HO2 : Hid (Own w2 w.heap.size 1 (.slice A K cap) (K + n) (xs ++ List.replicate n (Value.bool yy))) := by show Own _ _ _ _ _ _; rw [HN0.out]; simpa using hO
              clear hO
              refine wp_loop_rounds 1 ?_
              rw [rounds_succ]
              go_wp2
              go_roundw
              case rel => exact ⟨_, _, r1, b1, !yy, false, hKn, HO2.out, rfl, rfl, hT, hg, HEND.out⟩
              case measure => rw [hT.isBad, hbad0]; have h7 := HMS.out; simp only [boolOne] at h7; cases b1 <;> simp [lenB, boolOne] <;> omega
          · obtain ⟨g1, g3⟩ := h4
            go_wp2_with (go_at_call 22; refine H1.out.stepG hT hg ?_; clear hT hg c1; intro w2 hT hg hq; replace hO := own_aside hO hbw hq; clear hq; have c1 := hT.c1; have f1 := hT.f0 1)
            go_loopw [5, 8] (fun v m wr => ∃ k : Nat, k ≤ n ∧ m = .int .u64 ((n - k : Nat) : Int) ∧ Own wr w.heap.size 1 v (K + k) (xs ++ List.replicate k (Value.bool yy)) ∧ TapeIn 38 wr b r1 b1 ∧ w.grownBy wr (some b)) (fun _ m _ => (intOf m).toNat)
            case atStart => exact ⟨0, by omega, rfl, by simpa using hO, hT, hg⟩
            case round =>
              obtain ⟨w9, hw9⟩ : ∃ w9, w9 = w2 := ⟨_, rfl⟩
              clear hT hg hO c1 f1
              obtain ⟨k, hk, rfl, hO, hT, hg⟩ := hrel
              have c1 := hT.c1
              obtain ⟨A2, cap2, rfl⟩ := hO.len
              by_cases hkn : k < n
              · have hB3 : w.heap.size ≤ wr.heap.size := hg.size
                have p0 : (0 : Int) < ((n - k : Nat) : Int) := by omega
                have p1 : IntKind.u64.wrap (((n - k : Nat) : Int) - 1) = ((n - (k + 1) : Nat) : Int) := by rw [show ((n - k : Nat) : Int) - 1 = ((n - (k + 1) : Nat) : Int) by omega]; exact wrap_lt _ (by omega)
                go_wp2_with (at_builtin; refine wpList_append_Own rfl _ _ 23 rfl 4 i0 (.bool false) 1 1 Try.underlying23 hi hz0 hz1 hz2 rfl (by decide) _ _ _ rfl (Own.alloc hO _) ⟨wr.heap.size, 0, none⟩ 1 1 [_] rfl rfl (one_new _ _ _) (one_bool _) ?c1 ?c2 (Nat.le_trans hB3 (by simp)) ?_)
                case c1 => unfold maxLen; omega
                case c2 => omega
                intro v4 w4 hO4 hg4
                have hO1 := Own.alloc hO (.cells #[Value.bool yy] 4)
                have hT4 := (hT.alloc (.cells #[Value.bool yy] 4)).appended hO1 hbw hg4
                have hgg := grown_appended (grown_alloc hg (.cells #[Value.bool yy] 4)) hO1 hg4
                rw [show List.replicate k (Value.bool yy) ++ [Value.bool yy] = List.replicate (k + 1) (Value.bool yy) from List.replicate_succ'.symm] at hO4
                have HO4 := Lib.hid hO4
                clear hO hT hg hg4 hO1 c1 hO4
                go_wp2
                go_roundw
                case rel => exact ⟨k + 1, by omega, by first | rfl | (congr 1), HO4.out, hT4, hgg⟩
                case measure => simp [intOf]; omega
              · obtain rfl : k = n := by omega
                have HO2 := Lib.hid hO
                clear hO
                have p0 : ¬ (0 : Int) < ((k - k : Nat) : Int) := by omega
                go_wp2
                go_roundw
                case rel => exact ⟨_, _, r1, b1, !yy, false, hKn, HO2.out, rfl, rfl, hT, hg, HEND.out⟩
                case measure => rw [hT.isBad, hbad0]; have h7 := HMS.out; try simp only [boolOne] at h7; cases b1 <;> simp [lenB, boolOne] <;> omega
      · obtain rfl : K = M := by
          rcases Nat.lt_or_ge K M with h | h
          · exact absurd (.inl h) hgo
          · omega
        have hf2 : ff = false := by cases ff; rfl; exact absurd (.inr rfl) hgo
        subst hf2
        have HNE : ls ≠ [] := of_decide_eq_false hff.symm
        have HE := Lib.hid (hS.last (hS.1.resolve_left HNE) (by omega) (by omega))
        have HB := Lib.hid (bools_of (hxs ▸ hO) (by rw [spreadG_length]; exact hK))
        have HFR := Lib.hid (fun k hk => (hO.lt k hk).1)
        clear hS hK hxs hyy hff HNE hgo hO
        go_wp2
        go_ret
        obtain ⟨_, hb0, hG⟩ := HE.out.resolve_right (fun h => absurd h.1 (by decide))
        exact .inl ⟨_, spreadG true ls, cur.data.toList, rfl, hb0, hG, HB.out, HFR.out, by rw [mkB_of]; exact hT, hg⟩
theorem ref_gaps_read_calls (b : Nat) (s : ByteArray) (bad : Bool) (many : Int) (w : World) (hT : TapeIn 38 w b s bad) :
    Calls Try.prog 18 #[.pointer (some ⟨b, 0, none⟩), .int .i64 many] w (GapsRead 38 w b s bad many) := by
  by_cases h : many < 0 ∨ 4096 < many
  · exact ref_gaps_over b s bad many h w hT
  · obtain ⟨M, rfl⟩ : ∃ M : Nat, many = (M : Int) := ⟨many.toNat, by omega⟩
    exact ref_gaps_in b s bad M (by omega) w hT
end Go.Proofs.Ytclkkffeaabloaa
