/- The contracts of layer 8's count and read. -/
import Derived.Test.YtbegkiffpcedbaaGStepsRead
import Derived.Test.YtbegkiffpcedbaaGCol
import Derived.Test.YtbegkiffpcedbaaGDictRead
import Derived.Test.YtbegkiffpcedbaaGZRunsRead
namespace Go.Proofs.Ytbegkiffpcedbaa
open Go Go.RowKit

set_option maxHeartbeats 1000000 in
theorem count_calls {w : World} {v : Value} {is : List Bool} (h : BoolsIn w v is) (hl : is.length ≤ 1000000) : Reads Try.prog 19 #[v] w (.int .i64 (cnt is)) := by
  obtain ⟨A, cap, rfl, hat⟩ := one_at h
  have HAT := Lib.hid hat
  clear h hat
  unfold Reads
  go_enter Try.func19, Try.ntmps19
  go_wp2
  go_loop [3, 8] (fun y i => ∃ k m : Nat, k ≤ is.length ∧ i = .int .i64 k ∧ y = .int .i64 m ∧ m ≤ 1000000 ∧ Hid (cnt (is.take k) = m)) (fun _ i => is.length - (intOf i).toNat)
  case atStart => exact ⟨0, 0, Nat.zero_le _, rfl, rfl, by omega, rfl⟩
  case round =>
    obtain ⟨k, m, hk, rfl, rfl, hm, HM⟩ := hrel
    by_cases hlt : k < is.length
    · obtain ⟨b, off, rfl, hbl, hc⟩ := HAT.out k hlt
      have hx := hc k hlt
      have hle := cnt_le (is.take (k + 1))
      rw [List.length_take] at hle
      have HC := Lib.hid (cnt_take is k hlt)
      have HLE := Lib.hid hle
      clear hc hle
      generalize is[k] = x at *
      cases x with
      | true =>
        have HN : Hid (cnt (is.take (k + 1)) = m + 1) := by show _ = _; rw [HC.out, HM.out]; rfl
        have hm1 : m + 1 ≤ 1000000 := by have h1 := HN.out; have h2 := HLE.out; omega
        go_wp2
        go_round
        case rel => exact ⟨k + 1, m + 1, by omega, by go_num, by go_num, hm1, HN⟩
        case measure => simp [intOf]; omega
      | false =>
        have HN : Hid (cnt (is.take (k + 1)) = m) := by show _ = _; rw [HC.out, HM.out]; rfl
        go_wp2
        go_round
        case rel => exact ⟨k + 1, m, by omega, by go_num, rfl, hm, HN⟩
        case measure => simp [intOf]; omega
    · obtain rfl : k = is.length := by omega
      go_wp2
      go_ret
      have h1 := HM.out
      rw [List.take_length] at h1
      exact ⟨by rw [h1]; rfl, rfl⟩

/-- How a tape's call that reads a way, and so many cells by it, ends. -/
def WayEnd (T : TypeId) (w : World) (b : Nat) (s : ByteArray) (bad : Bool) (many : Int) (e : Ending) (w' : World) : Prop :=
  ∃ v l s' bad', e = .returned v ∧ StrsIn w' v l ∧ TapeIn T w' b s' bad' ∧ w.grownBy w' (some b) ∧ l.length ≤ 4096 ∧ (∀ c ∈ l, rightB c = true) ∧
    ((bad' = false ∧ bad = false ∧ WayAt s.data.toList many l s'.data.toList) ∨ (bad' = true ∧ (bad = true ∨ ¬ ∃ l r, WayAt s.data.toList many l r)))
theorem WayEnd.bad {T : TypeId} {w w' : World} {b : Nat} {s s' : ByteArray} {bad : Bool} {many : Int} (hT : TapeIn T w' b s' true) (hg : w.grownBy w' (some b)) (h : bad = true ∨ ¬ ∃ l r, WayAt s.data.toList many l r) :
    WayEnd T w b s bad many (.returned (.slice none 0 0)) w' :=
  ⟨_, [], s', true, rfl, SliceOf.nil_ _ _ _ _, hT, hg, by simp, by simp, .inr ⟨rfl, h⟩⟩
theorem WayEnd.good {T : TypeId} {w w' : World} {b : Nat} {s r : ByteArray} {many : Int} {v : Value} {l : List ByteArray} {r2 : List UInt8} (hv : StrsIn w' v l) (hT : TapeIn T w' b (mkB r2) false) (hg : w.grownBy w' (some b)) {n : Nat}
    (hs : s = printB n ++ r) (h : ByWay r.data.toList n many l r2) : WayEnd T w b s false many (.returned v) w' :=
  ⟨_, l, _, false, rfl, hv, hT, hg, h.facts.2.1, h.facts.2.2, .inl ⟨rfl, rfl, n, r.data.toList, by rw [hs, data_append, print_data], h⟩⟩
/-- Where the way is none, or no cells are by it, there are none. -/
theorem way_none {s : ByteArray} {many : Int} (h : (numT s false 2).2.2 = true) : ¬ ∃ l r, WayAt s.data.toList many l r := by
  rintro ⟨l, r, n, r1, e, k⟩
  have hn := k.le
  have hs : s = printB n ++ mkB r1 := bytes_ext (by rw [data_append, print_data, mkB_data, e])
  rw [hs, numT_print n (by omega) (mkB r1) 2 (by omega)] at h
  exact absurd h (by show ¬ false = true; decide)
theorem way_no {s r : ByteArray} {many : Int} {n : Nat} (hn : n ≤ 2) (hs : s = printB n ++ r) (h : ¬ ∃ l r2, ByWay r.data.toList n many l r2) : ¬ ∃ l r, WayAt s.data.toList many l r := by
  rintro ⟨l, r2, m, r1, e, k⟩
  have hm := k.le
  rw [hs, data_append, print_data] at e
  obtain ⟨rfl, rfl⟩ := vp_front (by omega) (by omega) e
  exact h ⟨_, _, k⟩

set_option maxHeartbeats 1000000 in
set_option maxRecDepth 100000 in
theorem col_read_calls (b : Nat) (s : ByteArray) (bad : Bool) (many : Int) (hs : s.size ≤ 9223372036854775807) (w : World) (hT : TapeIn 40 w b s bad) :
    Calls Try.prog 18 #[.pointer (some ⟨b, 0, none⟩), .int .i64 many] w (WayEnd 40 w b s bad many) := by
  have HT := Lib.hid hT
  have HN := Lib.hid (tnum_calls b s bad 2)
  have hle := numT_le s bad 2 (by omega)
  have hsz := (numT_suf s bad 2).split.2
  cases hq : (numT s bad 2).2.2 with
  | true =>
    have h0 : (numT s bad 2).1 = 0 := by
      rcases Nat.eq_zero_or_pos (numT s bad 2).1 with h | h
      · exact h
      · have := numT_pos (s := s) (bad := bad) (m := 2) (by omega)
        rw [hq] at this; exact absurd this (by decide)
    rw [hq, h0] at HN
    have HB := Lib.hid (runs_read_badtape b (numT s bad 2).2.1 (by omega) many)
    have HE : Hid (bad = true ∨ ¬ ∃ l r, WayAt s.data.toList many l r) := by
      cases bad with
      | true => exact .inl rfl
      | false => exact .inr (way_none hq)
    clear hq h0 hle hsz hT
    generalize (numT s bad 2).2.1 = r at *
    go_enter Try.func18, Try.ntmps18
    go_wp2_with (first | (go_at_call 33; refine HN.out.stepG HT.out (grown_refl w (some b)) ?_; intro w1 hT1 hg1 _) | (go_at_call 34; refine HB.out.stepG hT1 hg1 ?_; intro w2 hT2 hg2 _))
    go_ret
    exact WayEnd.bad hT2 hg2 HE.out
  | false =>
    obtain ⟨rfl, e⟩ := numT_good hq
    rw [hq] at HN
    have HS := Lib.hid e
    clear hq e hT
    generalize (numT s false 2).2.1 = r at *
    generalize (numT s false 2).1 = n at *
    have HR0 := Lib.hid (show r.size ≤ 9223372036854775807 by omega)
    clear hsz
    have hgr := grown_refl w (some b)
    obtain rfl | rfl | rfl : n = 0 ∨ n = 1 ∨ n = 2 := by omega
    all_goals clear hle
    · go_enter Try.func18, Try.ntmps18
      go_wp2_with (go_at_call 33; refine HN.out.stepG HT.out hgr ?_; clear hgr; intro w1 hT1 hg1 _)
      by_cases h : ∃ l r2, RunsAt r.data.toList many l r2
      · obtain ⟨l, r2, h⟩ := h
        have HR := Lib.hid h
        refine (runs_read_some b r HR0.out h w1 hT1).mono ?_
        rintro e w2 ⟨v, rfl, hi, _, hT2, hg2⟩
        clear h
        go_wp2
        go_ret
        exact WayEnd.good hi hT2 (grown_trans hg1 hg2) HS.out (.inl ⟨rfl, HR.out⟩)
      · refine (runs_read_none b r HR0.out many h w1 hT1).mono ?_
        rintro e w2 ⟨rfl, hT2, hg2⟩
        have HE : Hid (¬ ∃ l r, WayAt s.data.toList many l r) := way_no (by omega) HS.out (by
          rintro ⟨l, r2, ⟨_, k⟩ | ⟨k, _⟩ | ⟨k, _⟩⟩
          · exact h ⟨l, r2, k⟩
          · omega
          · omega)
        clear h
        go_wp2
        go_ret
        exact WayEnd.bad hT2 (grown_trans hg1 hg2) (.inr HE.out)
    · go_enter Try.func18, Try.ntmps18
      go_wp2_with (go_at_call 33; refine HN.out.stepG HT.out hgr ?_; clear hgr; intro w1 hT1 hg1 _)
      refine (dict_read_calls b r many HR0.out w1 hT1).mono ?_
      rintro e w2 (⟨v, l, r2, rfl, h, hi, _, hT2, hg2⟩ | ⟨rfl, hT2, hg2, h⟩)
      · have HR := Lib.hid h
        clear h
        go_wp2
        go_ret
        exact WayEnd.good hi hT2 (grown_trans hg1 hg2) HS.out (.inr (.inl ⟨rfl, HR.out⟩))
      · have HE : Hid (¬ ∃ l r, WayAt s.data.toList many l r) := way_no (by omega) HS.out (by
          rintro ⟨l, r2, ⟨k, _⟩ | ⟨_, k⟩ | ⟨k, _⟩⟩
          · omega
          · exact h ⟨l, r2, k⟩
          · omega)
        clear h
        go_wp2
        go_ret
        exact WayEnd.bad hT2 (grown_trans hg1 hg2) (.inr HE.out)
    · go_enter Try.func18, Try.ntmps18
      go_wp2_with (go_at_call 33; refine HN.out.stepG HT.out hgr ?_; clear hgr; intro w1 hT1 hg1 _)
      refine (steps_read_calls b r false many w1 hT1).mono ?_
      rintro e w2 (⟨v, xs, r2, rfl, _, h, hi, _, hT2, hg2⟩ | ⟨s0, rfl, hT2, hg2, h⟩)
      · have HR := Lib.hid h
        have HI := Lib.hid hi
        clear h hi
        go_wp2
        go_ret
        exact WayEnd.good HI.out hT2 (grown_trans hg1 hg2) HS.out (.inr (.inr ⟨rfl, xs, rfl, HR.out⟩))
      · have HE : Hid (¬ ∃ l r, WayAt s.data.toList many l r) := way_no (by omega) HS.out (by
          rintro ⟨l, r2, ⟨k, _⟩ | ⟨k, _⟩ | ⟨_, xs, _, k⟩⟩
          · omega
          · omega
          · rcases h with h | h
            · exact absurd h (by decide)
            · exact h ⟨xs, r2, k⟩)
        clear h
        go_wp2
        go_ret
        exact WayEnd.bad hT2 (grown_trans hg1 hg2) (.inr HE.out)
end Go.Proofs.Ytbegkiffpcedbaa
