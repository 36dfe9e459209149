/- The contracts of layer 7's take and Read. -/
import Derived.Test.YtclkkffeaabloaaGapsState
import Derived.Test.YtclkkffeaabloaaGapsRepeat
import Derived.Test.YtclkkffeaabloaaOwnStep
import Derived.Test.YtclkkffeaabloaaAside
import Derived.Test.YtclkkffeaabloaaVaryRead
namespace Go.Proofs.Ytclkkffeaabloaa
open Go Go.RowKit

def lenB : Value → Nat
  | .slice _ n _ => n
  | _ => 0
theorem spread_vals (ls : List Nat) (n : Nat) : (spreadG true (ls ++ [n])).map Value.bool = (spreadG true ls).map Value.bool ++ List.replicate n (Value.bool (flip true ls.length)) := by
  rw [spread_snoc, List.map_append, List.map_replicate]
set_option maxHeartbeats 1000000 in
set_option maxRecDepth 100000 in
theorem gaps_take_over (b : Nat) (s : ByteArray) (bad : Bool) (many : Int) (h : many < 0 ∨ 4096 < many) (w : World) (hT : TapeIn 36 w b s bad) :
    Calls Try.prog 21 #[.pointer (some ⟨b, 0, none⟩), .int .i64 many] w (GapsEnd 36 w b s bad many) := by
  have hc1 := hT.c1
  have hf1 := hT.f0 1
  have hg := grown_refl w (some b)
  have HN := Lib.hid (gaps_over (s := s.data.toList) h)
  by_cases h0 : many < 0
  · have d1 : decide (many < 0) = true := by rw [decide_eq_true_eq]; exact h0
    clear h
    go_enter Try.func21, Try.ntmps21
    go_wp2
    go_ret
    exact ⟨_, [], s, true, rfl, SliceOf.nil_ _ _ _ _, fresh_nil _, hT.set1 true, grown_set hg _ _, by simp, .inr ⟨rfl, .inr HN.out⟩⟩
  · have d1 : decide (many < 0) = false := by rw [decide_eq_false_iff_not]; exact h0
    have d2 : decide (4096 < many) = true := by rw [decide_eq_true_eq]; omega
    clear h
    go_enter Try.func21, Try.ntmps21
    go_wp2
    go_ret
    exact ⟨_, [], s, true, rfl, SliceOf.nil_ _ _ _ _, fresh_nil _, hT.set1 true, grown_set hg _ _, by simp, .inr ⟨rfl, .inr HN.out⟩⟩

set_option maxHeartbeats 2000000 in
set_option maxRecDepth 100000 in
theorem gaps_take_in (b : Nat) (s : ByteArray) (bad : Bool) (M : Nat) (hM : M ≤ 4096) (w : World) (hT : TapeIn 36 w b s bad) :
    Calls Try.prog 21 #[.pointer (some ⟨b, 0, none⟩), .int .i64 M] w (GapsEnd 36 w b s bad M) := by
  obtain ⟨i0, hi, hz0, hz1, hz2⟩ := info_parts Try.infoS4
  have hbw := hT.lt
  have hg := grown_refl w (some b)
  obtain ⟨n1, _, n3⟩ := (GState.first s bad (many := (M : Int)) (by omega)).next (.inl rfl)
  have n3 := n3 (.inl rfl)
  rw [show ((M : Int) - (sumN [] : Nat)) = M by simp [sumN]] at n1 n3
  have H1 := Lib.hid (tnum_calls b s bad (M : Int))
  generalize numT s bad (M : Int) = Y at *
  obtain ⟨n, r1, b1⟩ := Y
  simp only [List.nil_append] at n1 n3 H1
  have HS := Lib.hid n3
  have q1 : IntKind.u64.wrap (M : Int) = (M : Int) := wrap_lt _ (by omega)
  have q2 : IntKind.i64.wrap (n : Int) = (n : Int) := wrap_i64_nat _ (by omega)
  have hnM : n ≤ M := by omega
  have hl0 : BoolsIn (w.alloc (.cells #[.bool true] 4)) (.slice (some ⟨w.heap.size, 0, none⟩) 1 1) [true] := lit_ones Value.bool w 4 [true] (by decide)
  clear n1 n3
  go_enter Try.func21, Try.ntmps21
  go_wp2_with fail
  refine H1.out.stepG (hT.alloc _) (grown_alloc hg _) ?_
  clear hT hg
  intro w3 hT hg hq
  replace hl0 := SliceOf.fresh hl0 (fresh_at (Nat.le_refl w.heap.size)) hq hbw
  clear hq
  go_wp2_with fail
  refine (repeat_bools hl0 n (by omega)).mono ?_
  rintro e w4 ⟨v, rfl, hO, hq⟩
  replace hT := hT.kept hq
  replace hO := hO.mono hg.size
  replace hg := grown_trans hg (grown_below hq _)
  clear hq hl0 H1
  go_wp2
  go_loopw [5, 6] (fun v y wr => ∃ ls cur bb, Hid (GState s bad M ls cur bb) ∧ Hid (GoodG ls) ∧ sumN ls ≤ M ∧ y = .bool (flip true ls.length) ∧ Own wr w.heap.size 1 v (sumN ls) ((spreadG true ls).map Value.bool) ∧ TapeIn 36 wr b cur bb ∧ w.grownBy wr (some b)) (fun v _ _ => M - lenB v)
  case atStart =>
    have e0 : sumN [n] = n := by simp [sumN]
    exact ⟨[n], r1, b1, HS.out, ⟨n, [], rfl, by simp⟩, by rw [e0]; exact hnM, rfl, by rw [e0]; simpa [spreadG] using hO, hT, hg⟩
  case round =>
    clear hT hg HS hO q2 hnM
    obtain ⟨ls, cur, bb, HS, HG, hsl, rfl, hO, hT, hg⟩ := hrel
    obtain ⟨A, cap, rfl⟩ := hO.len
    have c1 := hT.c1
    have f1 := hT.f0 1
    by_cases hlt : sumN ls < M
    · obtain ⟨n1, n2, n3⟩ := HS.out.next (.inr (by omega))
      have hD : (M : Int) - (sumN ls : Int) = ((M - sumN ls : Nat) : Int) := by omega
      rw [hD] at n1 n2 n3
      have H1 := Lib.hid (tnum_calls b cur bb ((M - sumN ls : Nat) : Int))
      have HNE := Lib.hid HG.out.ne
      generalize numT cur bb ((M - sumN ls : Nat) : Int) = Y at *
      obtain ⟨n, r1, b1⟩ := Y
      simp only at n1 n2 n3 H1
      have q2 : IntKind.u64.wrap ((M - sumN ls : Nat) : Int) = ((M - sumN ls : Nat) : Int) := wrap_lt _ (by omega)
      by_cases hn0 : n = 0
      · subst hn0
        have HN := Lib.hid (n2 (.inr ⟨HNE.out, rfl⟩))
        clear n1 n2 n3 HS HG HNE
        generalize sumN ls = K at *
        generalize flip true ls.length = y at *
        go_wp2_with fail
        refine H1.out.stepG hT hg ?_
        clear hT hg c1 f1
        intro w3 hT hg hq
        have c1 := hT.c1
        have f1 := hT.f0 1
        go_wp2
        go_ret
        exact ⟨_, [], r1, true, rfl, SliceOf.nil_ _ _ _ _, fresh_nil _, hT.set1 true, grown_set hg _ _, by simp, .inr ⟨rfl, HN.out⟩⟩
      · have HSN := Lib.hid (n3 (.inr hn0))
        have HGN := Lib.hid (Beg.snoc (ls := ls) (.inr HG.out) (n := n) (fun _ => by omega))
        have HSV := Lib.hid (spread_vals ls n)
        have HSN2 := Lib.hid (sumN_snoc ls n)
        have HFS := Lib.hid (flip_snoc ls n)
        have dn : ((n : Int) == 0) = false := by rw [beq_eq_false_iff_ne]; omega
        have q3 : IntKind.i64.wrap (n : Int) = (n : Int) := wrap_i64_nat _ (by omega)
        generalize hK : sumN ls = K at *
        generalize hy : flip true ls.length = y at *
        generalize (spreadG true ls).map Value.bool = xs at *
        clear n2 n3 HS HG HNE hK hy
        go_wp2_with fail
        refine H1.out.stepG hT hg ?_
        clear hT hg c1 f1
        intro w3 hT hg hq
        replace hO := own_aside hO hbw hq
        have hl0 : BoolsIn (w3.alloc (.cells #[.bool y] 4)) (.slice (some ⟨w3.heap.size, 0, none⟩) 1 1) [y] := lit_ones Value.bool w3 4 [y] (by show 1 ≤ 1000; decide)
        clear hq H1
        go_wp2_with fail
        refine (repeat_bools hl0 n (by omega)).mono ?_
        rintro e w4 ⟨v4, rfl, hO4, hq⟩
        replace hq := lit_below hq
        replace hT := hT.kept hq
        replace hO := hO.later hq
        replace hg := grown_trans hg (grown_below hq _)
        have hB4 : w.heap.size ≤ w4.heap.size := hg.size
        have hs4 := hO4.slice
        clear hl0 hq hO4
        go_wp2_with (at_builtin; refine wpList_append_src rfl (.tmp 42) (.tmp 47) 23 rfl 4 i0 (.bool false) 1 1 Try.underlying23 hi hz0 hz1 hz2 rfl (by decide) _ K xs rfl hO _ n _ rfl hs4 (one_rep _ _ rfl) (by unfold maxLen; omega) (by omega) hB4 ?_)
        intro v5 w5 hO5 hg5 _
        have hT5 := hT.appended hO hbw hg5
        have hgg := grown_appended hg hO hg5
        have hlen : lenB v5 = K + n := by obtain ⟨_, _, rfl⟩ := hO5.len; rfl
        clear hO hT hg hg5 hs4
        go_wp2
        go_roundw
        case rel => exact ⟨ls ++ [n], r1, b1, HSN.out, HGN.out, by rw [HSN2.out]; omega, by rw [HFS.out], by rw [HSN2.out, HSV.out]; exact hO5, hT5, hgg⟩
        case measure => rw [hlen]; simp [lenB]; omega
    · have hK : sumN ls = M := by omega
      have HE := Lib.hid (HS.out.last HG.out (by omega) (by omega))
      have HL := Lib.hid (show sumN ls = (spreadG true ls).length from (spreadG_length true ls).symm)
      have HB := Lib.hid (bools_of hO HL.out)
      have HF := Lib.hid (fun k hk => (hO.lt k hk).1)
      clear HS HG hO
      go_wp2
      go_ret
      exact ⟨_, spreadG true ls, cur, bb, rfl, HB.out, HF.out, hT, hg, by rw [← HL.out]; omega, HE.out⟩

theorem gaps_take_calls (b : Nat) (s : ByteArray) (bad : Bool) (many : Int) (w : World) (hT : TapeIn 36 w b s bad) :
    Calls Try.prog 21 #[.pointer (some ⟨b, 0, none⟩), .int .i64 many] w (GapsEnd 36 w b s bad many) := by
  by_cases h : many < 0 ∨ 4096 < many
  · exact gaps_take_over b s bad many h w hT
  · obtain ⟨M, rfl⟩ : ∃ M : Nat, many = (M : Int) := ⟨many.toNat, by omega⟩
    exact gaps_take_in b s bad M (by omega) w hT

set_option maxHeartbeats 1000000 in
set_option maxRecDepth 100000 in
theorem gaps_read_calls (b : Nat) (s : ByteArray) (bad : Bool) (many : Int) (w : World) (hT : TapeIn 36 w b s bad) :
    Calls Try.prog 17 #[.pointer (some ⟨b, 0, none⟩), .int .i64 many] w (GapsRead 36 w b s bad many) := by
  have hc0 := hT.c0
  have hc1 := hT.c1
  have hbw := hT.lt
  have HK := Lib.hid (fun b' w hT => gaps_take_calls b' s bad many w hT)
  go_enter Try.func17, Try.ntmps17
  go_wp2_with fail
  refine (HK.out _ _ (box_tape w s bad _)).mono ?_
  rintro e w1 ⟨v, l, r, bad', rfl, hi, hfr, hA, hg, hll, hend⟩
  have hb1 := boxed_below hg
  have hT1 := hT.kept hb1
  have hfr' : Fresh (w.heap.size + 1) v := by simpa using hfr
  have hB1 := hb1.size
  have HF := Lib.hid hfr'
  have HI := Lib.hid hi
  have HTT := Lib.hid hT1
  have HBB := Lib.hid hb1
  have c0 := hT1.c0
  have c1 := hT1.c1
  have a0 := hA.c0
  have a1 := hA.c1
  have f0 := hT1.f0 0
  have f1 := hT1.f0 1
  obtain ⟨A, cap, rfl, _⟩ := one_at hi
  clear hT hc0 hc1 hg hfr hfr' hi
  rcases hend with ⟨rfl, rfl, hS⟩ | ⟨rfl, hN⟩
  · have HS := Lib.hid hS
    clear hS
    go_wp2
    go_ret
    have hF2 := Fresh.mono HF.out (show w.heap.size ≤ w.heap.size + 1 by omega)
    refine .inl ⟨_, l, r.data.toList, rfl, rfl, HS.out, ?_, hF2, by rw [mkB_of]; exact (HTT.out.set0 _).set1 _, grown_set (grown_set (grown_below HBB.out _) _ _) _ _⟩
    exact SliceOf.fresh HI.out HF.out (grown_set (grown_set (grown_refl w1 (some b)) 0 (.string r)) 1 (.bool false)) (by omega)
  · have HN := Lib.hid hN
    clear hN
    go_wp2
    go_ret
    exact .inr ⟨s, rfl, HTT.out.set1 _, grown_set (grown_below HBB.out _) _ _, HN.out⟩
end Go.Proofs.Ytclkkffeaabloaa
