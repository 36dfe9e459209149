/- The contract of the answer's Read of layer 4. -/
import Derived.Test.YtkmmjdjckedghaaRunsTakeWalk
namespace Go.Proofs.Ytkmmjdjckedghaa
open Go Go.RowKit

def tapeBad (w : World) (b : Nat) : Bool := match w.cell? ⟨b, 1, none⟩ with
  | some (.bool true) => true
  | _ => false
theorem TapeIn.isBad {T : TypeId} {w : World} {b : Nat} {s : ByteArray} {bad : Bool} (h : TapeIn T w b s bad) : tapeBad w b = bad := by
  unfold tapeBad
  rw [h.c1]; cases bad <;> rfl

/-- What is known at the head of the answer's loop. -/
def RefIn (T : TypeId) (w : World) (b : Nat) (s : ByteArray) (M : Nat) (v la fi : Value) (wr : World) : Prop :=
  (∃ rs cur, Hid (Stage s M rs cur) ∧ Own wr w.heap.size 1 v (many rs) ((spread rs).map Value.string) ∧ TapeIn T wr b cur false ∧ w.grownBy wr (some b) ∧
    ∃ x f, la = .string x ∧ fi = .bool f ∧ ((rs = [] ∧ f = true) ∨ (∃ y, rs.getLast? = some y ∧ f = false ∧ x = y.1))) ∨
  (∃ s' A n cap x f, v = .slice A n cap ∧ n ≤ M ∧ la = .string x ∧ fi = .bool f ∧ TapeIn T wr b s' true ∧ w.grownBy wr (some b) ∧ s'.size ≤ s.size ∧ Hid (¬ ∃ l r, RunsAt s.data.toList M l r))

set_option maxHeartbeats 2000000 in
set_option maxRecDepth 100000 in
theorem ref_runsRead_in (b : Nat) (s : ByteArray) (M : Nat) (hM : M ≤ 4096) (hs : s.size ≤ 9223372036854775807) (w : World) (hT : TapeIn 35 w b s false) :
    Calls Try.prog 17 #[.pointer (some ⟨b, 0, none⟩), .int .i64 M] w (TakeEnd 35 w b s M) := by
  obtain ⟨s0, hs0, hsz0, hsz1, hsz2⟩ := info_parts Try.infoS9
  have hg := grown_refl w (some b)
  have hbw := hT.lt
  go_enter Try.func17, Try.ntmps17
  go_wp2
  go_loopw [5, 6, 7] (fun v la fi wr => RefIn 35 w b s M v la fi wr) (fun v _ _ wr => if tapeBad wr b then 0 else M + 1 - lenI v)
  case atStart => exact .inl ⟨[], s, Stage.first s M, Own.nil_ _ _ _, hT, hg, _, _, rfl, rfl, .inl ⟨rfl, rfl⟩⟩
  case round =>
    clear hT hg
    rcases hrel with ⟨rs, cur, hS, hO, hT, hg, x, f, rfl, rfl, hl⟩ | ⟨s', A, n, cap, x, f, rfl, hn, rfl, rfl, hT, hg, hss, HN⟩
    · have hml := hS.out.le
      have hbad0 := hT.isBad
      have hcs := hS.out.size
      obtain ⟨A, cap, rfl⟩ := hO.len
      have c1 := hT.c1
      by_cases hlt : many rs < M
      · have HA := readRT_as cur
        have H1 := Lib.hid (ref_readCell_calls b cur false (by omega))
        have hx1 : (readRT cur false).2.1.size ≤ cur.size := by
          unfold readRT; split
          · exact cellT_size _ _
          · exact cellT_size _ _
        have hNone := hS.out.none HA hlt
        have hNext := hS.out.next HA
        generalize readRT cur false = X at *
        obtain ⟨c, r1, b1⟩ := X
        have H2 := Lib.hid (ref_tnum_calls b r1 b1 ((M - many rs : Nat) : Int))
        have hx2 := numT_size r1 b1 ((M - many rs : Nat) : Int)
        simp only at hNone hNext hx1 H1
        generalize numT r1 b1 ((M - many rs : Nat) : Int) = Y at *
        obtain ⟨n, r2, b2⟩ := Y
        simp only at hNone hNext hx2 H2
        have q1 : (M : Int) - (many rs : Int) = ((M - many rs : Nat) : Int) := by omega
        have q2 : IntKind.u64.wrap ((M - many rs : Nat) : Int) = ((M - many rs : Nat) : Int) := wrap_lt _ (by omega)
        have hr2s : r2.size ≤ s.size := by omega
        by_cases hfail : n = 0 ∨ ∃ y, rs.getLast? = some y ∧ y.1 = c
        · have HN := Lib.hid (hNone hfail)
          generalize hK : many rs = K at *
          have hgd : ((n : Int) == 0) = true ∨ (((n : Int) == 0) = false ∧ f = false ∧ (c.toList == x.toList) = true) := by
            by_cases hn0 : n = 0
            · subst hn0; exact .inl rfl
            · obtain ⟨y, hy, hyc⟩ := hfail.resolve_left hn0
              rcases hl with ⟨h1, _⟩ | ⟨y', hy', h2, h3⟩
              · rw [h1] at hy; simp at hy
              · rw [hy] at hy'
                cases hy'
                exact .inr ⟨by rw [beq_eq_false_iff_ne]; omega, h2, by rw [h3, hyc]; simp⟩
          clear hNone hNext HA hS hl hfail hK
          rcases hgd with g1 | ⟨g1, rfl, g2⟩
          all_goals
            go_wp2_with (first | (go_at_call 19; refine H1.out.stepG hT hg ?_; clear hT hg c1; intro w1 hT hg _) | (go_at_call 26; refine H2.out.stepG hT hg ?_; clear hT hg; intro w2 hT hg _; have c1 := hT.c1; have f1 := hT.f0 1))
            go_loopw [5, 9] (fun v m wr => v = .slice A K cap ∧ m = .int .u64 n ∧ TapeIn 35 wr b r2 true ∧ w.grownBy wr (some b)) (fun _ _ _ => 0)
            case atStart => exact ⟨rfl, rfl, hT.set1 true, grown_set hg _ _⟩
            case round =>
              clear hT hg c1 f1
              obtain ⟨rfl, rfl, hT, hg⟩ := hrel
              have c1 := hT.c1
              go_wp2
              all_goals
                go_roundw
                case rel => exact .inr ⟨r2, A, K, cap, c, false, rfl, by omega, rfl, rfl, hT, hg, hr2s, HN⟩
                case measure => rw [hT.isBad, hbad0]; simp only [lenI]; simp; omega
        · obtain ⟨e1, e2, hnM, hSt⟩ := hNext (fun h => hfail (.inl h)) (fun y hy he => hfail (.inr ⟨y, hy, he⟩))
          subst e1
          subst e2
          have HSt := Lib.hid hSt
          obtain ⟨m1, m2⟩ := spread_more rs c n
          have HM1 := Lib.hid m1
          have HM2 := Lib.hid m2
          have hgd : f = true ∨ (f = false ∧ (c.toList == x.toList) = false) := by
            rcases hl with ⟨_, h2⟩ | ⟨y, hy, h2, h3⟩
            · exact .inl h2
            · refine .inr ⟨h2, ?_⟩
              rcases str_ne_cases c x with ⟨h4, _⟩ | ⟨_, h4, _⟩
              · exact absurd ⟨y, hy, by rw [← h3, h4]⟩ (fun h => hfail (.inr h))
              · exact h4
          have hn1 : ((n : Int) == 0) = false := by rw [beq_eq_false_iff_ne]; intro h; exact hfail (.inl (by omega))
          have hlastn : (rs ++ [(c, n)]).getLast? = some (c, n) := by simp
          have HLN := Lib.hid hlastn
          generalize hK : many rs = K at *
          generalize hXS : (spread rs).map Value.string = xs at *
          clear hNone hNext HA hS hSt hl hfail m1 m2 hK hXS hlastn
          rcases hgd with rfl | ⟨rfl, g2⟩
          all_goals
            go_wp2_with (first | (go_at_call 19; refine H1.out.stepG hT hg ?_; clear hT hg c1; intro w1 hT hg hq; replace hO := own_kept hO hbw hq; clear hq) | (go_at_call 26; refine H2.out.stepG hT hg ?_; clear hT hg; intro w2 hT hg hq; replace hO := own_kept hO hbw hq; clear hq))
            go_loopw [5, 9] (fun v m wr => ∃ k : Nat, k ≤ n ∧ m = .int .u64 ((n - k : Nat) : Int) ∧ Own wr w.heap.size 1 v (K + k) (xs ++ List.replicate k (Value.string c)) ∧ TapeIn 35 wr b r2 false ∧ w.grownBy wr (some b)) (fun _ m _ => (intOf m).toNat)
            case atStart => exact ⟨0, by omega, rfl, by simpa using hO, hT, hg⟩
            case round =>
              clear hT hg hO
              obtain ⟨k, hk, rfl, hO, hT, hg⟩ := hrel
              have c1 := hT.c1
              obtain ⟨A2, cap2, rfl⟩ := hO.len
              by_cases hkn : k < n
              · have hB3 : w.heap.size ≤ wr.heap.size := hg.size
                have p0 : (0 : Int) < ((n - k : Nat) : Int) := by omega
                have p1 : IntKind.u64.wrap (((n - k : Nat) : Int) - 1) = ((n - (k + 1) : Nat) : Int) := by rw [show ((n - k : Nat) : Int) - 1 = ((n - (k + 1) : Nat) : Int) by omega]; exact wrap_lt _ (by omega)
                go_wp2_with (at_builtin; refine wpList_append_Own rfl _ _ 22 rfl 9 s0 (.string ⟨#[]⟩) 1 16 Try.underlying22 hs0 hsz0 hsz1 hsz2 rfl (by decide) _ _ _ rfl (Own.alloc hO _) ⟨wr.heap.size, 0, none⟩ 1 1 [_] rfl rfl (one_new _ _ _) (one_str _) ?c1 ?c2 (Nat.le_trans hB3 (by simp)) ?_)
                case c1 => unfold maxLen; omega
                case c2 => omega
                intro v4 w4 hO4 hg4
                have hO1 := Own.alloc hO (.cells #[Value.string c] 9)
                have hT4 := (hT.alloc (.cells #[Value.string c] 9)).appended hO1 hbw hg4
                have hgg := grown_appended (grown_alloc hg (.cells #[Value.string c] 9)) hO1 hg4
                rw [show List.replicate k (Value.string c) ++ [Value.string c] = List.replicate (k + 1) (Value.string c) from List.replicate_succ'.symm] at hO4
                clear hO hT hg hg4 hO1 c1
                go_wp2
                go_roundw
                case rel => exact ⟨k + 1, by omega, by first | rfl | (congr 1), hO4, hT4, hgg⟩
                case measure => simp [intOf]; omega
              · obtain rfl : k = n := by omega
                have hO2 : Hid (Own wr w.heap.size 1 (.slice A2 (K + k) cap2) (many (rs ++ [(c, k)])) ((spread (rs ++ [(c, k)])).map Value.string)) := by show Own _ _ _ _ _ _; rw [HM1.out, HM2.out]; exact hO
                have hk1 : 1 ≤ k := by have := beq_eq_false_iff_ne.1 hn1; omega
                clear hO
                have p0 : ¬ (0 : Int) < ((k - k : Nat) : Int) := by omega
                go_wp2
                go_roundw
                case rel => exact .inl ⟨_, r2, HSt.out, hO2.out, hT, hg, c, false, rfl, rfl, .inr ⟨_, HLN.out, rfl, rfl⟩⟩
                case measure => rw [hT.isBad, hbad0]; simp only [lenI]; simp; omega
      · obtain hK : many rs = M := by omega
        have HL := Lib.hid (hS.out.last hM hK)
        clear hS hl
        go_wp2
        go_ret
        exact ⟨_, spread rs, cur, false, rfl, by unfold StrsIn; rw [spread_length]; exact hO.slice, fun k hk => (hO.lt k hk).1, hT, hg, hcs, .inl ⟨rfl, HL.out⟩⟩
    · have c1 := hT.c1
      by_cases hlt : n < M
      · go_wp2
        go_ret
        exact TakeEnd.no hT hg hss HN.out
      · go_wp2
        go_ret
        exact TakeEnd.no hT hg hss HN.out
end Go.Proofs.Ytkmmjdjckedghaa
