/- The law TermCompares of layer 15. -/
import Derived.Test.YtppmmkmlngmafaaTermAwake
import Derived.Test.YtppmmkmlngmafaaTermLawKit
import Derived.Test.YtppmmkmlngmafaaLawKit
namespace Go.Proofs.Ytppmmkmlngmafaa
open Go Go.RowKit

theorem no_of {a : ByteArray} (h : a.toList.isEmpty = true) : a = noC := by rw [← empty_no] at h; exact of_decide_eq_true h
theorem some_of {a : ByteArray} (h : a.toList.isEmpty = false) : a ≠ noC := by rw [← empty_no] at h; exact of_decide_eq_false h
theorem TermQ.off {Q : Value → Prop} {w w' : World} {v u : Value} {t : Trm} (h : TermQ Q w u t) (hq : ∀ x, Q x → RowOff v x) (hg : w.grownBy w' v.ownBlock) : TermQ Q w' u t := by
  obtain ⟨kv, e, ho, hk⟩ := h
  exact ⟨kv, e, ho, hk.off hq hg⟩
set_option maxHeartbeats 16000000 in
set_option maxRecDepth 100000 in
theorem termCompares_calls {w : World} (x y : ByteArray) : GivesAt Try.prog 5 #[.string x, .string y] w (.bool true) := by
  obtain ⟨hb, hB⟩ := start w
  have HAW := Lib.hid awake15_calls
  unfold GivesAt
  by_cases h1 : x.size ≤ 100
  · have d1 : decide ((100 : Int) < (x.size : Int)) = false := decide_eq_false (by omega)
    have d2 : decide (100 < x.size) = false := decide_eq_false (by omega)
    by_cases h2 : y.size ≤ 100
    · have d3 : decide ((100 : Int) < (y.size : Int)) = false := decide_eq_false (by omega)
      have d4 : decide (100 < y.size) = false := decide_eq_false (by omega)
      have ha1 := Below.alloc (.refl w.heap.size w) (Nat.le_refl _) (.cells #[.int .u8 107, .int .i64 0, .string x, .slice none 0 0] 24)
      have ha2 := Below.alloc (.refl (w.alloc (.cells #[.int .u8 107, .int .i64 0, .string x, .slice none 0 0] 24)).heap.size (w.alloc (.cells #[.int .u8 107, .int .i64 0, .string x, .slice none 0 0] 24))) (Nat.le_refl _) (.cells #[.int .u8 107, .int .i64 0, .string y, .slice none 0 0] 24)
      have HB2 := Lib.hid (ha1.trans (ha2.mono ha1.size))
      have HXA := Lib.hid ((trmbox_lit w 24 107 0 x (.slice none 0 0)).later ha2)
      have hyy := trmbox_lit (w.alloc (.cells #[.int .u8 107, .int .i64 0, .string x, .slice none 0 0] 24)) 24 107 0 y (.slice none 0 0)
      rw [show (w.alloc (.cells #[.int .u8 107, .int .i64 0, .string x, .slice none 0 0] 24)).heap.size = w.heap.size + 1 by simp] at hyy
      have HXB := Lib.hid hyy
      clear ha1 ha2 hyy hb hB h1 h2
      go_enter Try.func5, Try.ntmps5
      go_wp2
      generalize World.alloc (World.alloc w _) _ = w2 at *
      clear d1 d2 d3 d4
      cases hx : x.toList.isEmpty with
      | true =>
        cases hy : y.toList.isEmpty with
        | true =>
          have HCE : Hid (∀ k, (cmpV x y k).toList.isEmpty = true) := fun k => by rw [cmpV_empty, hx, hy]; rfl
          have HC3 : Hid (cntV x y 3 = 0) := Lib.hid (by rw [cntV_three]; exact if_pos (.inl (no_of hx)))
          go_loopw [7, 8] (fun n i wr => ∃ k : Nat, k ≤ 3 ∧ i = .int .i64 k ∧ n = .int .i64 (cntV x y k : Nat) ∧ Hid (TrmBox wr w.heap.size 107 0 x (.slice none 0 0)) ∧ Hid (TrmBox wr (w.heap.size + 1) 107 0 y (.slice none 0 0)) ∧ Below w.heap.size w wr) (fun _ i _ => 3 - (intOf i).toNat)
          case atStart => exact ⟨0, Nat.zero_le _, rfl, rfl, HXA, HXB, HB2.out⟩
          case round =>
            obtain ⟨k, hk, rfl, rfl, HXA, HXB, hb⟩ := hrel
            obtain ⟨n, hn⟩ : ∃ n, cntV x y k = n := ⟨_, rfl⟩
            have hnb : n ≤ 3 := by have := cntV_le x y k; omega
            have HN := Lib.hid hn
            by_cases hlt : k < 3
            · rw [hn]
              clear hn
              obtain rfl | rfl | rfl : k = 0 ∨ k = 1 ∨ k = 2 := by omega
              · clear hk hlt
                obtain ⟨cv, hcv⟩ : ∃ c, cmpV x y 0 = c := ⟨_, rfl⟩
                have hem := HCE.out 0
                have HNX : Hid (cntV x y 1 = n + if cmpV x y 0 = boolCell true then 1 else 0) := Lib.hid (by rw [cntV, HN.out])
                rw [hcv] at hem HNX
                have HCV := Lib.hid hcv
                clear hcv
                obtain ⟨y0, y1, y2, y3, _⟩ := HXA.out.cells
                obtain ⟨z0, z1, z2, z3, _⟩ := HXB.out.cells
                go_wp2_with fail
                clear y0 y1 y2 y3 z0 z1 z2 z3
                refine Calls.mono (two15_calls 60 (by decide) (by decide) (constT_in _ x) (constT_in _ y)) ?_
                intro e w3 hend
                obtain ⟨A9, c9, e1, ht9, hq⟩ := TermEnd.out hend
                have e2 : e = .returned (.agg #[.int .u8 60, .int .i64 0, .string ⟨#[]⟩, .slice A9 2 c9]) := e1
                subst e2
                have HT9 := Lib.hid ht9
                clear hend e1 ht9
                replace HXA := Lib.hid (HXA.out.later hq)
                replace HXB := Lib.hid (HXB.out.later hq)
                replace hb := hb.trans (hq.mono hb.size)
                clear hq
                have hq := Below.alloc (.refl w3.heap.size w3) (Nat.le_refl _) (.cells #[.int .u8 60, .int .i64 0, .string ⟨#[]⟩, .slice A9 2 c9] 24)
                have HX9 := Lib.hid (trmbox_lit w3 24 60 0 ⟨#[]⟩ (.slice A9 2 c9))
                replace HT9 := Lib.hid (HT9.out.kept hq)
                replace HXA := Lib.hid (HXA.out.later hq)
                replace HXB := Lib.hid (HXB.out.later hq)
                replace hb := hb.trans (hq.mono hb.size)
                clear hq
                go_wp2_with fail
                generalize World.alloc w3 _ = w4 at *
                have hs := term_eval_calls _ HT9.out (show StrsIn w4 (.slice none 0 0) [] from SliceOf.nil_ _ _ _ _)
                rw [cmp_zero, HCV.out] at hs
                clear HT9
                refine Calls.mono (hs) ?_
                rintro e w5 ⟨rfl, hq⟩
                clear hs
                replace HXA := Lib.hid (HXA.out.later hq)
                replace HXB := Lib.hid (HXB.out.later hq)
                replace HX9 := Lib.hid (HX9.out.later hq)
                replace hb := hb.trans (hq.mono hb.size)
                clear hq
                clear HX9
                have h2 : (cv.toList == (boolCell true).toList) = false := by
                  rcases str_ne_cases cv (boolCell true) with ⟨h, _, _⟩ | ⟨_, h, _⟩
                  · rw [h] at hem; exact absurd hem (by decide +kernel)
                  · exact h
                have HNN : Hid (cntV x y 1 = n) := HNX.out.trans (by
                  rcases str_ne_cases cv (boolCell true) with ⟨h, _, _⟩ | ⟨h, _, _⟩
                  · rw [h] at hem; exact absurd hem (by decide +kernel)
                  · rw [if_neg h, Nat.add_zero])
                go_wp2_with fail
                refine Calls.mono (bool_calls _ w5) ?_
                rintro e wb ⟨rfl, hq⟩
                replace HXA := Lib.hid (HXA.out.later hq)
                replace HXB := Lib.hid (HXB.out.later hq)
                replace hb := hb.trans (hq.mono hb.size)
                clear hq
                go_wp2
                go_roundw
                case rel => exact ⟨1, by omega, by go_num, by rw [HNN.out], HXA, HXB, hb⟩
                case measure => simp [intOf]
              · clear hk hlt
                obtain ⟨cv, hcv⟩ : ∃ c, cmpV x y 1 = c := ⟨_, rfl⟩
                have hem := HCE.out 1
                have HNX : Hid (cntV x y 2 = n + if cmpV x y 1 = boolCell true then 1 else 0) := Lib.hid (by rw [cntV, HN.out])
                rw [hcv] at hem HNX
                have HCV := Lib.hid hcv
                clear hcv
                obtain ⟨y0, y1, y2, y3, _⟩ := HXA.out.cells
                obtain ⟨z0, z1, z2, z3, _⟩ := HXB.out.cells
                go_wp2_with fail
                clear y0 y1 y2 y3 z0 z1 z2 z3
                refine Calls.mono (two15_calls 60 (by decide) (by decide) (constT_in _ x) (constT_in _ y)) ?_
                intro e w3 hend
                obtain ⟨A9, c9, e1, ht9, hq⟩ := TermEnd.out hend
                have e2 : e = .returned (.agg #[.int .u8 60, .int .i64 0, .string ⟨#[]⟩, .slice A9 2 c9]) := e1
                subst e2
                have HT9 := Lib.hid ht9
                clear hend e1 ht9
                replace HXA := Lib.hid (HXA.out.later hq)
                replace HXB := Lib.hid (HXB.out.later hq)
                replace hb := hb.trans (hq.mono hb.size)
                clear hq
                have HXB3 := HXB
                have hq := Below.alloc (.refl w3.heap.size w3) (Nat.le_refl _) (.cells #[.int .u8 60, .int .i64 0, .string ⟨#[]⟩, .slice A9 2 c9] 24)
                have HX9 := Lib.hid (trmbox_lit w3 24 60 0 ⟨#[]⟩ (.slice A9 2 c9))
                replace HT9 := Lib.hid (HT9.out.kept hq)
                replace HXA := Lib.hid (HXA.out.later hq)
                replace HXB := Lib.hid (HXB.out.later hq)
                replace hb := hb.trans (hq.mono hb.size)
                clear hq
                clear HT9
                have hlt9 := HX9.out.cells.2.2.2.2
                obtain ⟨y0, y1, y2, y3, _⟩ := HXA.out.cells
                obtain ⟨z0, z1, z2, z3, _⟩ := HXB.out.cells
                go_wp2_with fail
                clear y0 y1 y2 y3 z0 z1 z2 z3
                generalize World.alloc w3 _ = w4 at *
                refine Calls.mono (two15_q (RowOff (.slice (some ⟨w3.heap.size, 0, none⟩) 1 1)) 61 (by decide) (by decide) (constT_q _ _ x (RowOff.nil_ _)) (constT_q _ _ y (RowOff.nil_ _)) (fun u hu => RowOff.of_fresh hu fun q hq => by simp only [Value.ownBlock, Option.some.injEq] at hq; omega)) ?_
                intro e w5 hend
                obtain ⟨A8, c8, e1, ht8, hq⟩ := TermEndQ.out hend
                have e2 : e = .returned (.agg #[.int .u8 61, .int .i64 0, .string ⟨#[]⟩, .slice A8 2 c8]) := e1
                subst e2
                have HT8 := Lib.hid ht8
                clear hend e1 ht8 hlt9
                replace HXA := Lib.hid (HXA.out.later hq)
                replace HXB := Lib.hid (HXB.out.later hq)
                replace HX9 := Lib.hid (HX9.out.later hq)
                replace hb := hb.trans (hq.mono hb.size)
                clear hq
                have hg := setCells_grown w3.heap.size [.int .u8 61, .int .i64 0, .string ⟨#[]⟩, .slice A8 2 c8] 0 w5
                simp only [World.setCells, Nat.zero_add, Nat.reduceAdd] at hg
                have hne : w.heap.size + 1 < w3.heap.size := HXB3.out.cells.2.2.2.2
                obtain ⟨y0, y1, y2, y3, _⟩ := HX9.out.cells
                obtain ⟨f0, f1, f2, f3⟩ := HX9.out.free
                have HP := Lib.hid (HX9.out.putAll 61 0 ⟨#[]⟩ (.slice A8 2 c8))
                replace HXA := Lib.hid (HXA.out.other hg (by simp only [ne_eq, Option.some.injEq]; omega))
                replace HXB := Lib.hid (HXB.out.other hg (by simp only [ne_eq, Option.some.injEq]; omega))
                have HT8' := Lib.hid (TermQ.off (v := (.slice (some ⟨w3.heap.size, 0, none⟩) 1 1)) HT8.out (fun u hu => hu) hg)
                have hle : w.heap.size ≤ w3.heap.size := by omega
                have hbe := (((hb.setCell (p := ⟨w3.heap.size, 0, none⟩) hle (.int .u8 61)).setCell (p := ⟨w3.heap.size, 1, none⟩) hle (.int .i64 0)).setCell (p := ⟨w3.heap.size, 2, none⟩) hle (.string ⟨#[]⟩)).setCell (p := ⟨w3.heap.size, 3, none⟩) hle (.slice A8 2 c8)
                obtain ⟨g0, g1, g2, g3, _⟩ := HP.out.cells
                have HBE := Lib.hid hbe
                clear hb hbe hg HT8 hne hle
                go_wp2_with fail
                clear y0 y1 y2 y3 f0 f1 f2 f3 g0 g1 g2 g3
                have hb := HBE.out
                clear HBE
                generalize World.setCell (World.setCell (World.setCell (World.setCell w5 _ _) _ _) _ _) _ _ = w4b at *
                have hs := term_eval_calls _ HT8'.out.any (show StrsIn w4b (.slice none 0 0) [] from SliceOf.nil_ _ _ _ _)
                rw [cmp_one, HCV.out] at hs
                clear HT8' HP
                refine Calls.mono (hs) ?_
                rintro e w6 ⟨rfl, hq⟩
                clear hs
                replace HXA := Lib.hid (HXA.out.later hq)
                replace HXB := Lib.hid (HXB.out.later hq)
                replace hb := hb.trans (hq.mono hb.size)
                clear hq
                clear HX9
                have h2 : (cv.toList == (boolCell true).toList) = false := by
                  rcases str_ne_cases cv (boolCell true) with ⟨h, _, _⟩ | ⟨_, h, _⟩
                  · rw [h] at hem; exact absurd hem (by decide +kernel)
                  · exact h
                have HNN : Hid (cntV x y 2 = n) := HNX.out.trans (by
                  rcases str_ne_cases cv (boolCell true) with ⟨h, _, _⟩ | ⟨h, _, _⟩
                  · rw [h] at hem; exact absurd hem (by decide +kernel)
                  · rw [if_neg h, Nat.add_zero])
                go_wp2_with fail
                refine Calls.mono (bool_calls _ w6) ?_
                rintro e wb ⟨rfl, hq⟩
                replace HXA := Lib.hid (HXA.out.later hq)
                replace HXB := Lib.hid (HXB.out.later hq)
                replace hb := hb.trans (hq.mono hb.size)
                clear hq
                go_wp2
                go_roundw
                case rel => exact ⟨2, by omega, by go_num, by rw [HNN.out], HXA, HXB, hb⟩
                case measure => simp [intOf]
              · clear hk hlt
                obtain ⟨cv, hcv⟩ : ∃ c, cmpV x y 2 = c := ⟨_, rfl⟩
                have hem := HCE.out 2
                have HNX : Hid (cntV x y 3 = n + if cmpV x y 2 = boolCell true then 1 else 0) := Lib.hid (by rw [cntV, HN.out])
                rw [hcv] at hem HNX
                have HCV := Lib.hid hcv
                clear hcv
                obtain ⟨y0, y1, y2, y3, _⟩ := HXA.out.cells
                obtain ⟨z0, z1, z2, z3, _⟩ := HXB.out.cells
                go_wp2_with fail
                clear y0 y1 y2 y3 z0 z1 z2 z3
                refine Calls.mono (two15_calls 60 (by decide) (by decide) (constT_in _ x) (constT_in _ y)) ?_
                intro e w3 hend
                obtain ⟨A9, c9, e1, ht9, hq⟩ := TermEnd.out hend
                have e2 : e = .returned (.agg #[.int .u8 60, .int .i64 0, .string ⟨#[]⟩, .slice A9 2 c9]) := e1
                subst e2
                have HT9 := Lib.hid ht9
                clear hend e1 ht9
                replace HXA := Lib.hid (HXA.out.later hq)
                replace HXB := Lib.hid (HXB.out.later hq)
                replace hb := hb.trans (hq.mono hb.size)
                clear hq
                have HXB3 := HXB
                have hq := Below.alloc (.refl w3.heap.size w3) (Nat.le_refl _) (.cells #[.int .u8 60, .int .i64 0, .string ⟨#[]⟩, .slice A9 2 c9] 24)
                have HX9 := Lib.hid (trmbox_lit w3 24 60 0 ⟨#[]⟩ (.slice A9 2 c9))
                replace HT9 := Lib.hid (HT9.out.kept hq)
                replace HXA := Lib.hid (HXA.out.later hq)
                replace HXB := Lib.hid (HXB.out.later hq)
                replace hb := hb.trans (hq.mono hb.size)
                clear hq
                clear HT9
                have hlt9 := HX9.out.cells.2.2.2.2
                obtain ⟨y0, y1, y2, y3, _⟩ := HXA.out.cells
                obtain ⟨z0, z1, z2, z3, _⟩ := HXB.out.cells
                go_wp2_with fail
                clear y0 y1 y2 y3 z0 z1 z2 z3
                generalize World.alloc w3 _ = w4 at *
                refine Calls.mono (two15_q (RowOff (.slice (some ⟨w3.heap.size, 0, none⟩) 1 1)) 60 (by decide) (by decide) (constT_q _ _ y (RowOff.nil_ _)) (constT_q _ _ x (RowOff.nil_ _)) (fun u hu => RowOff.of_fresh hu fun q hq => by simp only [Value.ownBlock, Option.some.injEq] at hq; omega)) ?_
                intro e w5 hend
                obtain ⟨A8, c8, e1, ht8, hq⟩ := TermEndQ.out hend
                have e2 : e = .returned (.agg #[.int .u8 60, .int .i64 0, .string ⟨#[]⟩, .slice A8 2 c8]) := e1
                subst e2
                have HT8 := Lib.hid ht8
                clear hend e1 ht8 hlt9
                replace HXA := Lib.hid (HXA.out.later hq)
                replace HXB := Lib.hid (HXB.out.later hq)
                replace HX9 := Lib.hid (HX9.out.later hq)
                replace hb := hb.trans (hq.mono hb.size)
                clear hq
                have hg := setCells_grown w3.heap.size [.int .u8 60, .int .i64 0, .string ⟨#[]⟩, .slice A8 2 c8] 0 w5
                simp only [World.setCells, Nat.zero_add, Nat.reduceAdd] at hg
                have hne : w.heap.size + 1 < w3.heap.size := HXB3.out.cells.2.2.2.2
                obtain ⟨y0, y1, y2, y3, _⟩ := HX9.out.cells
                obtain ⟨f0, f1, f2, f3⟩ := HX9.out.free
                have HP := Lib.hid (HX9.out.putAll 60 0 ⟨#[]⟩ (.slice A8 2 c8))
                replace HXA := Lib.hid (HXA.out.other hg (by simp only [ne_eq, Option.some.injEq]; omega))
                replace HXB := Lib.hid (HXB.out.other hg (by simp only [ne_eq, Option.some.injEq]; omega))
                have HT8' := Lib.hid (TermQ.off (v := (.slice (some ⟨w3.heap.size, 0, none⟩) 1 1)) HT8.out (fun u hu => hu) hg)
                have hle : w.heap.size ≤ w3.heap.size := by omega
                have hbe := (((hb.setCell (p := ⟨w3.heap.size, 0, none⟩) hle (.int .u8 60)).setCell (p := ⟨w3.heap.size, 1, none⟩) hle (.int .i64 0)).setCell (p := ⟨w3.heap.size, 2, none⟩) hle (.string ⟨#[]⟩)).setCell (p := ⟨w3.heap.size, 3, none⟩) hle (.slice A8 2 c8)
                obtain ⟨g0, g1, g2, g3, _⟩ := HP.out.cells
                have HBE := Lib.hid hbe
                clear hb hbe hg HT8 hne hle
                go_wp2_with fail
                clear y0 y1 y2 y3 f0 f1 f2 f3 g0 g1 g2 g3
                have hb := HBE.out
                clear HBE
                generalize World.setCell (World.setCell (World.setCell (World.setCell w5 _ _) _ _) _ _) _ _ = w4b at *
                have hs := term_eval_calls _ HT8'.out.any (show StrsIn w4b (.slice none 0 0) [] from SliceOf.nil_ _ _ _ _)
                rw [cmp_two, HCV.out] at hs
                clear HT8' HP
                refine Calls.mono (hs) ?_
                rintro e w6 ⟨rfl, hq⟩
                clear hs
                replace HXA := Lib.hid (HXA.out.later hq)
                replace HXB := Lib.hid (HXB.out.later hq)
                replace hb := hb.trans (hq.mono hb.size)
                clear hq
                clear HX9
                have h2 : (cv.toList == (boolCell true).toList) = false := by
                  rcases str_ne_cases cv (boolCell true) with ⟨h, _, _⟩ | ⟨_, h, _⟩
                  · rw [h] at hem; exact absurd hem (by decide +kernel)
                  · exact h
                have HNN : Hid (cntV x y 3 = n) := HNX.out.trans (by
                  rcases str_ne_cases cv (boolCell true) with ⟨h, _, _⟩ | ⟨h, _, _⟩
                  · rw [h] at hem; exact absurd hem (by decide +kernel)
                  · rw [if_neg h, Nat.add_zero])
                go_wp2_with fail
                refine Calls.mono (bool_calls _ w6) ?_
                rintro e wb ⟨rfl, hq⟩
                replace HXA := Lib.hid (HXA.out.later hq)
                replace HXB := Lib.hid (HXB.out.later hq)
                replace hb := hb.trans (hq.mono hb.size)
                clear hq
                go_wp2
                go_roundw
                case rel => exact ⟨3, by omega, by go_num, by rw [HNN.out], HXA, HXB, hb⟩
                case measure => simp [intOf]
            · obtain rfl : k = 3 := by omega
              rw [HC3.out]
              clear hn hk hlt hnb HN HXA HXB
              have hB := hb.size
              go_wp2_with (go_at_call 10; refine HAW.out.step (w0 := w) (B := w.heap.size) hb hB ?_; clear hb hB; intro wa hb hB)
              go_ret
              exact ⟨rfl, hb⟩
        | false =>
          have HCE : Hid (∀ k, (cmpV x y k).toList.isEmpty = true) := fun k => by rw [cmpV_empty, hx, hy]; rfl
          have HC3 : Hid (cntV x y 3 = 0) := Lib.hid (by rw [cntV_three]; exact if_pos (.inl (no_of hx)))
          go_loopw [7, 8] (fun n i wr => ∃ k : Nat, k ≤ 3 ∧ i = .int .i64 k ∧ n = .int .i64 (cntV x y k : Nat) ∧ Hid (TrmBox wr w.heap.size 107 0 x (.slice none 0 0)) ∧ Hid (TrmBox wr (w.heap.size + 1) 107 0 y (.slice none 0 0)) ∧ Below w.heap.size w wr) (fun _ i _ => 3 - (intOf i).toNat)
          case atStart => exact ⟨0, Nat.zero_le _, rfl, rfl, HXA, HXB, HB2.out⟩
          case round =>
            obtain ⟨k, hk, rfl, rfl, HXA, HXB, hb⟩ := hrel
            obtain ⟨n, hn⟩ : ∃ n, cntV x y k = n := ⟨_, rfl⟩
            have hnb : n ≤ 3 := by have := cntV_le x y k; omega
            have HN := Lib.hid hn
            by_cases hlt : k < 3
            · rw [hn]
              clear hn
              obtain rfl | rfl | rfl : k = 0 ∨ k = 1 ∨ k = 2 := by omega
              · clear hk hlt
                obtain ⟨cv, hcv⟩ : ∃ c, cmpV x y 0 = c := ⟨_, rfl⟩
                have hem := HCE.out 0
                have HNX : Hid (cntV x y 1 = n + if cmpV x y 0 = boolCell true then 1 else 0) := Lib.hid (by rw [cntV, HN.out])
                rw [hcv] at hem HNX
                have HCV := Lib.hid hcv
                clear hcv
                obtain ⟨y0, y1, y2, y3, _⟩ := HXA.out.cells
                obtain ⟨z0, z1, z2, z3, _⟩ := HXB.out.cells
                go_wp2_with fail
                clear y0 y1 y2 y3 z0 z1 z2 z3
                refine Calls.mono (two15_calls 60 (by decide) (by decide) (constT_in _ x) (constT_in _ y)) ?_
                intro e w3 hend
                obtain ⟨A9, c9, e1, ht9, hq⟩ := TermEnd.out hend
                have e2 : e = .returned (.agg #[.int .u8 60, .int .i64 0, .string ⟨#[]⟩, .slice A9 2 c9]) := e1
                subst e2
                have HT9 := Lib.hid ht9
                clear hend e1 ht9
                replace HXA := Lib.hid (HXA.out.later hq)
                replace HXB := Lib.hid (HXB.out.later hq)
                replace hb := hb.trans (hq.mono hb.size)
                clear hq
                have hq := Below.alloc (.refl w3.heap.size w3) (Nat.le_refl _) (.cells #[.int .u8 60, .int .i64 0, .string ⟨#[]⟩, .slice A9 2 c9] 24)
                have HX9 := Lib.hid (trmbox_lit w3 24 60 0 ⟨#[]⟩ (.slice A9 2 c9))
                replace HT9 := Lib.hid (HT9.out.kept hq)
                replace HXA := Lib.hid (HXA.out.later hq)
                replace HXB := Lib.hid (HXB.out.later hq)
                replace hb := hb.trans (hq.mono hb.size)
                clear hq
                go_wp2_with fail
                generalize World.alloc w3 _ = w4 at *
                have hs := term_eval_calls _ HT9.out (show StrsIn w4 (.slice none 0 0) [] from SliceOf.nil_ _ _ _ _)
                rw [cmp_zero, HCV.out] at hs
                clear HT9
                refine Calls.mono (hs) ?_
                rintro e w5 ⟨rfl, hq⟩
                clear hs
                replace HXA := Lib.hid (HXA.out.later hq)
                replace HXB := Lib.hid (HXB.out.later hq)
                replace HX9 := Lib.hid (HX9.out.later hq)
                replace hb := hb.trans (hq.mono hb.size)
                clear hq
                clear HX9
                have h2 : (cv.toList == (boolCell true).toList) = false := by
                  rcases str_ne_cases cv (boolCell true) with ⟨h, _, _⟩ | ⟨_, h, _⟩
                  · rw [h] at hem; exact absurd hem (by decide +kernel)
                  · exact h
                have HNN : Hid (cntV x y 1 = n) := HNX.out.trans (by
                  rcases str_ne_cases cv (boolCell true) with ⟨h, _, _⟩ | ⟨h, _, _⟩
                  · rw [h] at hem; exact absurd hem (by decide +kernel)
                  · rw [if_neg h, Nat.add_zero])
                go_wp2_with fail
                refine Calls.mono (bool_calls _ w5) ?_
                rintro e wb ⟨rfl, hq⟩
                replace HXA := Lib.hid (HXA.out.later hq)
                replace HXB := Lib.hid (HXB.out.later hq)
                replace hb := hb.trans (hq.mono hb.size)
                clear hq
                go_wp2
                go_roundw
                case rel => exact ⟨1, by omega, by go_num, by rw [HNN.out], HXA, HXB, hb⟩
                case measure => simp [intOf]
              · clear hk hlt
                obtain ⟨cv, hcv⟩ : ∃ c, cmpV x y 1 = c := ⟨_, rfl⟩
                have hem := HCE.out 1
                have HNX : Hid (cntV x y 2 = n + if cmpV x y 1 = boolCell true then 1 else 0) := Lib.hid (by rw [cntV, HN.out])
                rw [hcv] at hem HNX
                have HCV := Lib.hid hcv
                clear hcv
                obtain ⟨y0, y1, y2, y3, _⟩ := HXA.out.cells
                obtain ⟨z0, z1, z2, z3, _⟩ := HXB.out.cells
                go_wp2_with fail
                clear y0 y1 y2 y3 z0 z1 z2 z3
                refine Calls.mono (two15_calls 60 (by decide) (by decide) (constT_in _ x) (constT_in _ y)) ?_
                intro e w3 hend
                obtain ⟨A9, c9, e1, ht9, hq⟩ := TermEnd.out hend
                have e2 : e = .returned (.agg #[.int .u8 60, .int .i64 0, .string ⟨#[]⟩, .slice A9 2 c9]) := e1
                subst e2
                have HT9 := Lib.hid ht9
                clear hend e1 ht9
                replace HXA := Lib.hid (HXA.out.later hq)
                replace HXB := Lib.hid (HXB.out.later hq)
                replace hb := hb.trans (hq.mono hb.size)
                clear hq
                have HXB3 := HXB
                have hq := Below.alloc (.refl w3.heap.size w3) (Nat.le_refl _) (.cells #[.int .u8 60, .int .i64 0, .string ⟨#[]⟩, .slice A9 2 c9] 24)
                have HX9 := Lib.hid (trmbox_lit w3 24 60 0 ⟨#[]⟩ (.slice A9 2 c9))
                replace HT9 := Lib.hid (HT9.out.kept hq)
                replace HXA := Lib.hid (HXA.out.later hq)
                replace HXB := Lib.hid (HXB.out.later hq)
                replace hb := hb.trans (hq.mono hb.size)
                clear hq
                clear HT9
                have hlt9 := HX9.out.cells.2.2.2.2
                obtain ⟨y0, y1, y2, y3, _⟩ := HXA.out.cells
                obtain ⟨z0, z1, z2, z3, _⟩ := HXB.out.cells
                go_wp2_with fail
                clear y0 y1 y2 y3 z0 z1 z2 z3
                generalize World.alloc w3 _ = w4 at *
                refine Calls.mono (two15_q (RowOff (.slice (some ⟨w3.heap.size, 0, none⟩) 1 1)) 61 (by decide) (by decide) (constT_q _ _ x (RowOff.nil_ _)) (constT_q _ _ y (RowOff.nil_ _)) (fun u hu => RowOff.of_fresh hu fun q hq => by simp only [Value.ownBlock, Option.some.injEq] at hq; omega)) ?_
                intro e w5 hend
                obtain ⟨A8, c8, e1, ht8, hq⟩ := TermEndQ.out hend
                have e2 : e = .returned (.agg #[.int .u8 61, .int .i64 0, .string ⟨#[]⟩, .slice A8 2 c8]) := e1
                subst e2
                have HT8 := Lib.hid ht8
                clear hend e1 ht8 hlt9
                replace HXA := Lib.hid (HXA.out.later hq)
                replace HXB := Lib.hid (HXB.out.later hq)
                replace HX9 := Lib.hid (HX9.out.later hq)
                replace hb := hb.trans (hq.mono hb.size)
                clear hq
                have hg := setCells_grown w3.heap.size [.int .u8 61, .int .i64 0, .string ⟨#[]⟩, .slice A8 2 c8] 0 w5
                simp only [World.setCells, Nat.zero_add, Nat.reduceAdd] at hg
                have hne : w.heap.size + 1 < w3.heap.size := HXB3.out.cells.2.2.2.2
                obtain ⟨y0, y1, y2, y3, _⟩ := HX9.out.cells
                obtain ⟨f0, f1, f2, f3⟩ := HX9.out.free
                have HP := Lib.hid (HX9.out.putAll 61 0 ⟨#[]⟩ (.slice A8 2 c8))
                replace HXA := Lib.hid (HXA.out.other hg (by simp only [ne_eq, Option.some.injEq]; omega))
                replace HXB := Lib.hid (HXB.out.other hg (by simp only [ne_eq, Option.some.injEq]; omega))
                have HT8' := Lib.hid (TermQ.off (v := (.slice (some ⟨w3.heap.size, 0, none⟩) 1 1)) HT8.out (fun u hu => hu) hg)
                have hle : w.heap.size ≤ w3.heap.size := by omega
                have hbe := (((hb.setCell (p := ⟨w3.heap.size, 0, none⟩) hle (.int .u8 61)).setCell (p := ⟨w3.heap.size, 1, none⟩) hle (.int .i64 0)).setCell (p := ⟨w3.heap.size, 2, none⟩) hle (.string ⟨#[]⟩)).setCell (p := ⟨w3.heap.size, 3, none⟩) hle (.slice A8 2 c8)
                obtain ⟨g0, g1, g2, g3, _⟩ := HP.out.cells
                have HBE := Lib.hid hbe
                clear hb hbe hg HT8 hne hle
                go_wp2_with fail
                clear y0 y1 y2 y3 f0 f1 f2 f3 g0 g1 g2 g3
                have hb := HBE.out
                clear HBE
                generalize World.setCell (World.setCell (World.setCell (World.setCell w5 _ _) _ _) _ _) _ _ = w4b at *
                have hs := term_eval_calls _ HT8'.out.any (show StrsIn w4b (.slice none 0 0) [] from SliceOf.nil_ _ _ _ _)
                rw [cmp_one, HCV.out] at hs
                clear HT8' HP
                refine Calls.mono (hs) ?_
                rintro e w6 ⟨rfl, hq⟩
                clear hs
                replace HXA := Lib.hid (HXA.out.later hq)
                replace HXB := Lib.hid (HXB.out.later hq)
                replace hb := hb.trans (hq.mono hb.size)
                clear hq
                clear HX9
                have h2 : (cv.toList == (boolCell true).toList) = false := by
                  rcases str_ne_cases cv (boolCell true) with ⟨h, _, _⟩ | ⟨_, h, _⟩
                  · rw [h] at hem; exact absurd hem (by decide +kernel)
                  · exact h
                have HNN : Hid (cntV x y 2 = n) := HNX.out.trans (by
                  rcases str_ne_cases cv (boolCell true) with ⟨h, _, _⟩ | ⟨h, _, _⟩
                  · rw [h] at hem; exact absurd hem (by decide +kernel)
                  · rw [if_neg h, Nat.add_zero])
                go_wp2_with fail
                refine Calls.mono (bool_calls _ w6) ?_
                rintro e wb ⟨rfl, hq⟩
                replace HXA := Lib.hid (HXA.out.later hq)
                replace HXB := Lib.hid (HXB.out.later hq)
                replace hb := hb.trans (hq.mono hb.size)
                clear hq
                go_wp2
                go_roundw
                case rel => exact ⟨2, by omega, by go_num, by rw [HNN.out], HXA, HXB, hb⟩
                case measure => simp [intOf]
              · clear hk hlt
                obtain ⟨cv, hcv⟩ : ∃ c, cmpV x y 2 = c := ⟨_, rfl⟩
                have hem := HCE.out 2
                have HNX : Hid (cntV x y 3 = n + if cmpV x y 2 = boolCell true then 1 else 0) := Lib.hid (by rw [cntV, HN.out])
                rw [hcv] at hem HNX
                have HCV := Lib.hid hcv
                clear hcv
                obtain ⟨y0, y1, y2, y3, _⟩ := HXA.out.cells
                obtain ⟨z0, z1, z2, z3, _⟩ := HXB.out.cells
                go_wp2_with fail
                clear y0 y1 y2 y3 z0 z1 z2 z3
                refine Calls.mono (two15_calls 60 (by decide) (by decide) (constT_in _ x) (constT_in _ y)) ?_
                intro e w3 hend
                obtain ⟨A9, c9, e1, ht9, hq⟩ := TermEnd.out hend
                have e2 : e = .returned (.agg #[.int .u8 60, .int .i64 0, .string ⟨#[]⟩, .slice A9 2 c9]) := e1
                subst e2
                have HT9 := Lib.hid ht9
                clear hend e1 ht9
                replace HXA := Lib.hid (HXA.out.later hq)
                replace HXB := Lib.hid (HXB.out.later hq)
                replace hb := hb.trans (hq.mono hb.size)
                clear hq
                have HXB3 := HXB
                have hq := Below.alloc (.refl w3.heap.size w3) (Nat.le_refl _) (.cells #[.int .u8 60, .int .i64 0, .string ⟨#[]⟩, .slice A9 2 c9] 24)
                have HX9 := Lib.hid (trmbox_lit w3 24 60 0 ⟨#[]⟩ (.slice A9 2 c9))
                replace HT9 := Lib.hid (HT9.out.kept hq)
                replace HXA := Lib.hid (HXA.out.later hq)
                replace HXB := Lib.hid (HXB.out.later hq)
                replace hb := hb.trans (hq.mono hb.size)
                clear hq
                clear HT9
                have hlt9 := HX9.out.cells.2.2.2.2
                obtain ⟨y0, y1, y2, y3, _⟩ := HXA.out.cells
                obtain ⟨z0, z1, z2, z3, _⟩ := HXB.out.cells
                go_wp2_with fail
                clear y0 y1 y2 y3 z0 z1 z2 z3
                generalize World.alloc w3 _ = w4 at *
                refine Calls.mono (two15_q (RowOff (.slice (some ⟨w3.heap.size, 0, none⟩) 1 1)) 60 (by decide) (by decide) (constT_q _ _ y (RowOff.nil_ _)) (constT_q _ _ x (RowOff.nil_ _)) (fun u hu => RowOff.of_fresh hu fun q hq => by simp only [Value.ownBlock, Option.some.injEq] at hq; omega)) ?_
                intro e w5 hend
                obtain ⟨A8, c8, e1, ht8, hq⟩ := TermEndQ.out hend
                have e2 : e = .returned (.agg #[.int .u8 60, .int .i64 0, .string ⟨#[]⟩, .slice A8 2 c8]) := e1
                subst e2
                have HT8 := Lib.hid ht8
                clear hend e1 ht8 hlt9
                replace HXA := Lib.hid (HXA.out.later hq)
                replace HXB := Lib.hid (HXB.out.later hq)
                replace HX9 := Lib.hid (HX9.out.later hq)
                replace hb := hb.trans (hq.mono hb.size)
                clear hq
                have hg := setCells_grown w3.heap.size [.int .u8 60, .int .i64 0, .string ⟨#[]⟩, .slice A8 2 c8] 0 w5
                simp only [World.setCells, Nat.zero_add, Nat.reduceAdd] at hg
                have hne : w.heap.size + 1 < w3.heap.size := HXB3.out.cells.2.2.2.2
                obtain ⟨y0, y1, y2, y3, _⟩ := HX9.out.cells
                obtain ⟨f0, f1, f2, f3⟩ := HX9.out.free
                have HP := Lib.hid (HX9.out.putAll 60 0 ⟨#[]⟩ (.slice A8 2 c8))
                replace HXA := Lib.hid (HXA.out.other hg (by simp only [ne_eq, Option.some.injEq]; omega))
                replace HXB := Lib.hid (HXB.out.other hg (by simp only [ne_eq, Option.some.injEq]; omega))
                have HT8' := Lib.hid (TermQ.off (v := (.slice (some ⟨w3.heap.size, 0, none⟩) 1 1)) HT8.out (fun u hu => hu) hg)
                have hle : w.heap.size ≤ w3.heap.size := by omega
                have hbe := (((hb.setCell (p := ⟨w3.heap.size, 0, none⟩) hle (.int .u8 60)).setCell (p := ⟨w3.heap.size, 1, none⟩) hle (.int .i64 0)).setCell (p := ⟨w3.heap.size, 2, none⟩) hle (.string ⟨#[]⟩)).setCell (p := ⟨w3.heap.size, 3, none⟩) hle (.slice A8 2 c8)
                obtain ⟨g0, g1, g2, g3, _⟩ := HP.out.cells
                have HBE := Lib.hid hbe
                clear hb hbe hg HT8 hne hle
                go_wp2_with fail
                clear y0 y1 y2 y3 f0 f1 f2 f3 g0 g1 g2 g3
                have hb := HBE.out
                clear HBE
                generalize World.setCell (World.setCell (World.setCell (World.setCell w5 _ _) _ _) _ _) _ _ = w4b at *
                have hs := term_eval_calls _ HT8'.out.any (show StrsIn w4b (.slice none 0 0) [] from SliceOf.nil_ _ _ _ _)
                rw [cmp_two, HCV.out] at hs
                clear HT8' HP
                refine Calls.mono (hs) ?_
                rintro e w6 ⟨rfl, hq⟩
                clear hs
                replace HXA := Lib.hid (HXA.out.later hq)
                replace HXB := Lib.hid (HXB.out.later hq)
                replace hb := hb.trans (hq.mono hb.size)
                clear hq
                clear HX9
                have h2 : (cv.toList == (boolCell true).toList) = false := by
                  rcases str_ne_cases cv (boolCell true) with ⟨h, _, _⟩ | ⟨_, h, _⟩
                  · rw [h] at hem; exact absurd hem (by decide +kernel)
                  · exact h
                have HNN : Hid (cntV x y 3 = n) := HNX.out.trans (by
                  rcases str_ne_cases cv (boolCell true) with ⟨h, _, _⟩ | ⟨h, _, _⟩
                  · rw [h] at hem; exact absurd hem (by decide +kernel)
                  · rw [if_neg h, Nat.add_zero])
                go_wp2_with fail
                refine Calls.mono (bool_calls _ w6) ?_
                rintro e wb ⟨rfl, hq⟩
                replace HXA := Lib.hid (HXA.out.later hq)
                replace HXB := Lib.hid (HXB.out.later hq)
                replace hb := hb.trans (hq.mono hb.size)
                clear hq
                go_wp2
                go_roundw
                case rel => exact ⟨3, by omega, by go_num, by rw [HNN.out], HXA, HXB, hb⟩
                case measure => simp [intOf]
            · obtain rfl : k = 3 := by omega
              rw [HC3.out]
              clear hn hk hlt hnb HN HXA HXB
              have hB := hb.size
              go_wp2_with (go_at_call 10; refine HAW.out.step (w0 := w) (B := w.heap.size) hb hB ?_; clear hb hB; intro wa hb hB)
              go_ret
              exact ⟨rfl, hb⟩
      | false =>
        cases hy : y.toList.isEmpty with
        | true =>
          have HCE : Hid (∀ k, (cmpV x y k).toList.isEmpty = true) := fun k => by rw [cmpV_empty, hx, hy]; rfl
          have HC3 : Hid (cntV x y 3 = 0) := Lib.hid (by rw [cntV_three]; exact if_pos (.inr (no_of hy)))
          go_loopw [7, 8] (fun n i wr => ∃ k : Nat, k ≤ 3 ∧ i = .int .i64 k ∧ n = .int .i64 (cntV x y k : Nat) ∧ Hid (TrmBox wr w.heap.size 107 0 x (.slice none 0 0)) ∧ Hid (TrmBox wr (w.heap.size + 1) 107 0 y (.slice none 0 0)) ∧ Below w.heap.size w wr) (fun _ i _ => 3 - (intOf i).toNat)
          case atStart => exact ⟨0, Nat.zero_le _, rfl, rfl, HXA, HXB, HB2.out⟩
          case round =>
            obtain ⟨k, hk, rfl, rfl, HXA, HXB, hb⟩ := hrel
            obtain ⟨n, hn⟩ : ∃ n, cntV x y k = n := ⟨_, rfl⟩
            have hnb : n ≤ 3 := by have := cntV_le x y k; omega
            have HN := Lib.hid hn
            by_cases hlt : k < 3
            · rw [hn]
              clear hn
              obtain rfl | rfl | rfl : k = 0 ∨ k = 1 ∨ k = 2 := by omega
              · clear hk hlt
                obtain ⟨cv, hcv⟩ : ∃ c, cmpV x y 0 = c := ⟨_, rfl⟩
                have hem := HCE.out 0
                have HNX : Hid (cntV x y 1 = n + if cmpV x y 0 = boolCell true then 1 else 0) := Lib.hid (by rw [cntV, HN.out])
                rw [hcv] at hem HNX
                have HCV := Lib.hid hcv
                clear hcv
                obtain ⟨y0, y1, y2, y3, _⟩ := HXA.out.cells
                obtain ⟨z0, z1, z2, z3, _⟩ := HXB.out.cells
                go_wp2_with fail
                clear y0 y1 y2 y3 z0 z1 z2 z3
                refine Calls.mono (two15_calls 60 (by decide) (by decide) (constT_in _ x) (constT_in _ y)) ?_
                intro e w3 hend
                obtain ⟨A9, c9, e1, ht9, hq⟩ := TermEnd.out hend
                have e2 : e = .returned (.agg #[.int .u8 60, .int .i64 0, .string ⟨#[]⟩, .slice A9 2 c9]) := e1
                subst e2
                have HT9 := Lib.hid ht9
                clear hend e1 ht9
                replace HXA := Lib.hid (HXA.out.later hq)
                replace HXB := Lib.hid (HXB.out.later hq)
                replace hb := hb.trans (hq.mono hb.size)
                clear hq
                have hq := Below.alloc (.refl w3.heap.size w3) (Nat.le_refl _) (.cells #[.int .u8 60, .int .i64 0, .string ⟨#[]⟩, .slice A9 2 c9] 24)
                have HX9 := Lib.hid (trmbox_lit w3 24 60 0 ⟨#[]⟩ (.slice A9 2 c9))
                replace HT9 := Lib.hid (HT9.out.kept hq)
                replace HXA := Lib.hid (HXA.out.later hq)
                replace HXB := Lib.hid (HXB.out.later hq)
                replace hb := hb.trans (hq.mono hb.size)
                clear hq
                go_wp2_with fail
                generalize World.alloc w3 _ = w4 at *
                have hs := term_eval_calls _ HT9.out (show StrsIn w4 (.slice none 0 0) [] from SliceOf.nil_ _ _ _ _)
                rw [cmp_zero, HCV.out] at hs
                clear HT9
                refine Calls.mono (hs) ?_
                rintro e w5 ⟨rfl, hq⟩
                clear hs
                replace HXA := Lib.hid (HXA.out.later hq)
                replace HXB := Lib.hid (HXB.out.later hq)
                replace HX9 := Lib.hid (HX9.out.later hq)
                replace hb := hb.trans (hq.mono hb.size)
                clear hq
                clear HX9
                have h2 : (cv.toList == (boolCell true).toList) = false := by
                  rcases str_ne_cases cv (boolCell true) with ⟨h, _, _⟩ | ⟨_, h, _⟩
                  · rw [h] at hem; exact absurd hem (by decide +kernel)
                  · exact h
                have HNN : Hid (cntV x y 1 = n) := HNX.out.trans (by
                  rcases str_ne_cases cv (boolCell true) with ⟨h, _, _⟩ | ⟨h, _, _⟩
                  · rw [h] at hem; exact absurd hem (by decide +kernel)
                  · rw [if_neg h, Nat.add_zero])
                go_wp2_with fail
                refine Calls.mono (bool_calls _ w5) ?_
                rintro e wb ⟨rfl, hq⟩
                replace HXA := Lib.hid (HXA.out.later hq)
                replace HXB := Lib.hid (HXB.out.later hq)
                replace hb := hb.trans (hq.mono hb.size)
                clear hq
                go_wp2
                go_roundw
                case rel => exact ⟨1, by omega, by go_num, by rw [HNN.out], HXA, HXB, hb⟩
                case measure => simp [intOf]
              · clear hk hlt
                obtain ⟨cv, hcv⟩ : ∃ c, cmpV x y 1 = c := ⟨_, rfl⟩
                have hem := HCE.out 1
                have HNX : Hid (cntV x y 2 = n + if cmpV x y 1 = boolCell true then 1 else 0) := Lib.hid (by rw [cntV, HN.out])
                rw [hcv] at hem HNX
                have HCV := Lib.hid hcv
                clear hcv
                obtain ⟨y0, y1, y2, y3, _⟩ := HXA.out.cells
                obtain ⟨z0, z1, z2, z3, _⟩ := HXB.out.cells
                go_wp2_with fail
                clear y0 y1 y2 y3 z0 z1 z2 z3
                refine Calls.mono (two15_calls 60 (by decide) (by decide) (constT_in _ x) (constT_in _ y)) ?_
                intro e w3 hend
                obtain ⟨A9, c9, e1, ht9, hq⟩ := TermEnd.out hend
                have e2 : e = .returned (.agg #[.int .u8 60, .int .i64 0, .string ⟨#[]⟩, .slice A9 2 c9]) := e1
                subst e2
                have HT9 := Lib.hid ht9
                clear hend e1 ht9
                replace HXA := Lib.hid (HXA.out.later hq)
                replace HXB := Lib.hid (HXB.out.later hq)
                replace hb := hb.trans (hq.mono hb.size)
                clear hq
                have HXB3 := HXB
                have hq := Below.alloc (.refl w3.heap.size w3) (Nat.le_refl _) (.cells #[.int .u8 60, .int .i64 0, .string ⟨#[]⟩, .slice A9 2 c9] 24)
                have HX9 := Lib.hid (trmbox_lit w3 24 60 0 ⟨#[]⟩ (.slice A9 2 c9))
                replace HT9 := Lib.hid (HT9.out.kept hq)
                replace HXA := Lib.hid (HXA.out.later hq)
                replace HXB := Lib.hid (HXB.out.later hq)
                replace hb := hb.trans (hq.mono hb.size)
                clear hq
                clear HT9
                have hlt9 := HX9.out.cells.2.2.2.2
                obtain ⟨y0, y1, y2, y3, _⟩ := HXA.out.cells
                obtain ⟨z0, z1, z2, z3, _⟩ := HXB.out.cells
                go_wp2_with fail
                clear y0 y1 y2 y3 z0 z1 z2 z3
                generalize World.alloc w3 _ = w4 at *
                refine Calls.mono (two15_q (RowOff (.slice (some ⟨w3.heap.size, 0, none⟩) 1 1)) 61 (by decide) (by decide) (constT_q _ _ x (RowOff.nil_ _)) (constT_q _ _ y (RowOff.nil_ _)) (fun u hu => RowOff.of_fresh hu fun q hq => by simp only [Value.ownBlock, Option.some.injEq] at hq; omega)) ?_
                intro e w5 hend
                obtain ⟨A8, c8, e1, ht8, hq⟩ := TermEndQ.out hend
                have e2 : e = .returned (.agg #[.int .u8 61, .int .i64 0, .string ⟨#[]⟩, .slice A8 2 c8]) := e1
                subst e2
                have HT8 := Lib.hid ht8
                clear hend e1 ht8 hlt9
                replace HXA := Lib.hid (HXA.out.later hq)
                replace HXB := Lib.hid (HXB.out.later hq)
                replace HX9 := Lib.hid (HX9.out.later hq)
                replace hb := hb.trans (hq.mono hb.size)
                clear hq
                have hg := setCells_grown w3.heap.size [.int .u8 61, .int .i64 0, .string ⟨#[]⟩, .slice A8 2 c8] 0 w5
                simp only [World.setCells, Nat.zero_add, Nat.reduceAdd] at hg
                have hne : w.heap.size + 1 < w3.heap.size := HXB3.out.cells.2.2.2.2
                obtain ⟨y0, y1, y2, y3, _⟩ := HX9.out.cells
                obtain ⟨f0, f1, f2, f3⟩ := HX9.out.free
                have HP := Lib.hid (HX9.out.putAll 61 0 ⟨#[]⟩ (.slice A8 2 c8))
                replace HXA := Lib.hid (HXA.out.other hg (by simp only [ne_eq, Option.some.injEq]; omega))
                replace HXB := Lib.hid (HXB.out.other hg (by simp only [ne_eq, Option.some.injEq]; omega))
                have HT8' := Lib.hid (TermQ.off (v := (.slice (some ⟨w3.heap.size, 0, none⟩) 1 1)) HT8.out (fun u hu => hu) hg)
                have hle : w.heap.size ≤ w3.heap.size := by omega
                have hbe := (((hb.setCell (p := ⟨w3.heap.size, 0, none⟩) hle (.int .u8 61)).setCell (p := ⟨w3.heap.size, 1, none⟩) hle (.int .i64 0)).setCell (p := ⟨w3.heap.size, 2, none⟩) hle (.string ⟨#[]⟩)).setCell (p := ⟨w3.heap.size, 3, none⟩) hle (.slice A8 2 c8)
                obtain ⟨g0, g1, g2, g3, _⟩ := HP.out.cells
                have HBE := Lib.hid hbe
                clear hb hbe hg HT8 hne hle
                go_wp2_with fail
                clear y0 y1 y2 y3 f0 f1 f2 f3 g0 g1 g2 g3
                have hb := HBE.out
                clear HBE
                generalize World.setCell (World.setCell (World.setCell (World.setCell w5 _ _) _ _) _ _) _ _ = w4b at *
                have hs := term_eval_calls _ HT8'.out.any (show StrsIn w4b (.slice none 0 0) [] from SliceOf.nil_ _ _ _ _)
                rw [cmp_one, HCV.out] at hs
                clear HT8' HP
                refine Calls.mono (hs) ?_
                rintro e w6 ⟨rfl, hq⟩
                clear hs
                replace HXA := Lib.hid (HXA.out.later hq)
                replace HXB := Lib.hid (HXB.out.later hq)
                replace hb := hb.trans (hq.mono hb.size)
                clear hq
                clear HX9
                have h2 : (cv.toList == (boolCell true).toList) = false := by
                  rcases str_ne_cases cv (boolCell true) with ⟨h, _, _⟩ | ⟨_, h, _⟩
                  · rw [h] at hem; exact absurd hem (by decide +kernel)
                  · exact h
                have HNN : Hid (cntV x y 2 = n) := HNX.out.trans (by
                  rcases str_ne_cases cv (boolCell true) with ⟨h, _, _⟩ | ⟨h, _, _⟩
                  · rw [h] at hem; exact absurd hem (by decide +kernel)
                  · rw [if_neg h, Nat.add_zero])
                go_wp2_with fail
                refine Calls.mono (bool_calls _ w6) ?_
                rintro e wb ⟨rfl, hq⟩
                replace HXA := Lib.hid (HXA.out.later hq)
                replace HXB := Lib.hid (HXB.out.later hq)
                replace hb := hb.trans (hq.mono hb.size)
                clear hq
                go_wp2
                go_roundw
                case rel => exact ⟨2, by omega, by go_num, by rw [HNN.out], HXA, HXB, hb⟩
                case measure => simp [intOf]
              · clear hk hlt
                obtain ⟨cv, hcv⟩ : ∃ c, cmpV x y 2 = c := ⟨_, rfl⟩
                have hem := HCE.out 2
                have HNX : Hid (cntV x y 3 = n + if cmpV x y 2 = boolCell true then 1 else 0) := Lib.hid (by rw [cntV, HN.out])
                rw [hcv] at hem HNX
                have HCV := Lib.hid hcv
                clear hcv
                obtain ⟨y0, y1, y2, y3, _⟩ := HXA.out.cells
                obtain ⟨z0, z1, z2, z3, _⟩ := HXB.out.cells
                go_wp2_with fail
                clear y0 y1 y2 y3 z0 z1 z2 z3
                refine Calls.mono (two15_calls 60 (by decide) (by decide) (constT_in _ x) (constT_in _ y)) ?_
                intro e w3 hend
                obtain ⟨A9, c9, e1, ht9, hq⟩ := TermEnd.out hend
                have e2 : e = .returned (.agg #[.int .u8 60, .int .i64 0, .string ⟨#[]⟩, .slice A9 2 c9]) := e1
                subst e2
                have HT9 := Lib.hid ht9
                clear hend e1 ht9
                replace HXA := Lib.hid (HXA.out.later hq)
                replace HXB := Lib.hid (HXB.out.later hq)
                replace hb := hb.trans (hq.mono hb.size)
                clear hq
                have HXB3 := HXB
                have hq := Below.alloc (.refl w3.heap.size w3) (Nat.le_refl _) (.cells #[.int .u8 60, .int .i64 0, .string ⟨#[]⟩, .slice A9 2 c9] 24)
                have HX9 := Lib.hid (trmbox_lit w3 24 60 0 ⟨#[]⟩ (.slice A9 2 c9))
                replace HT9 := Lib.hid (HT9.out.kept hq)
                replace HXA := Lib.hid (HXA.out.later hq)
                replace HXB := Lib.hid (HXB.out.later hq)
                replace hb := hb.trans (hq.mono hb.size)
                clear hq
                clear HT9
                have hlt9 := HX9.out.cells.2.2.2.2
                obtain ⟨y0, y1, y2, y3, _⟩ := HXA.out.cells
                obtain ⟨z0, z1, z2, z3, _⟩ := HXB.out.cells
                go_wp2_with fail
                clear y0 y1 y2 y3 z0 z1 z2 z3
                generalize World.alloc w3 _ = w4 at *
                refine Calls.mono (two15_q (RowOff (.slice (some ⟨w3.heap.size, 0, none⟩) 1 1)) 60 (by decide) (by decide) (constT_q _ _ y (RowOff.nil_ _)) (constT_q _ _ x (RowOff.nil_ _)) (fun u hu => RowOff.of_fresh hu fun q hq => by simp only [Value.ownBlock, Option.some.injEq] at hq; omega)) ?_
                intro e w5 hend
                obtain ⟨A8, c8, e1, ht8, hq⟩ := TermEndQ.out hend
                have e2 : e = .returned (.agg #[.int .u8 60, .int .i64 0, .string ⟨#[]⟩, .slice A8 2 c8]) := e1
                subst e2
                have HT8 := Lib.hid ht8
                clear hend e1 ht8 hlt9
                replace HXA := Lib.hid (HXA.out.later hq)
                replace HXB := Lib.hid (HXB.out.later hq)
                replace HX9 := Lib.hid (HX9.out.later hq)
                replace hb := hb.trans (hq.mono hb.size)
                clear hq
                have hg := setCells_grown w3.heap.size [.int .u8 60, .int .i64 0, .string ⟨#[]⟩, .slice A8 2 c8] 0 w5
                simp only [World.setCells, Nat.zero_add, Nat.reduceAdd] at hg
                have hne : w.heap.size + 1 < w3.heap.size := HXB3.out.cells.2.2.2.2
                obtain ⟨y0, y1, y2, y3, _⟩ := HX9.out.cells
                obtain ⟨f0, f1, f2, f3⟩ := HX9.out.free
                have HP := Lib.hid (HX9.out.putAll 60 0 ⟨#[]⟩ (.slice A8 2 c8))
                replace HXA := Lib.hid (HXA.out.other hg (by simp only [ne_eq, Option.some.injEq]; omega))
                replace HXB := Lib.hid (HXB.out.other hg (by simp only [ne_eq, Option.some.injEq]; omega))
                have HT8' := Lib.hid (TermQ.off (v := (.slice (some ⟨w3.heap.size, 0, none⟩) 1 1)) HT8.out (fun u hu => hu) hg)
                have hle : w.heap.size ≤ w3.heap.size := by omega
                have hbe := (((hb.setCell (p := ⟨w3.heap.size, 0, none⟩) hle (.int .u8 60)).setCell (p := ⟨w3.heap.size, 1, none⟩) hle (.int .i64 0)).setCell (p := ⟨w3.heap.size, 2, none⟩) hle (.string ⟨#[]⟩)).setCell (p := ⟨w3.heap.size, 3, none⟩) hle (.slice A8 2 c8)
                obtain ⟨g0, g1, g2, g3, _⟩ := HP.out.cells
                have HBE := Lib.hid hbe
                clear hb hbe hg HT8 hne hle
                go_wp2_with fail
                clear y0 y1 y2 y3 f0 f1 f2 f3 g0 g1 g2 g3
                have hb := HBE.out
                clear HBE
                generalize World.setCell (World.setCell (World.setCell (World.setCell w5 _ _) _ _) _ _) _ _ = w4b at *
                have hs := term_eval_calls _ HT8'.out.any (show StrsIn w4b (.slice none 0 0) [] from SliceOf.nil_ _ _ _ _)
                rw [cmp_two, HCV.out] at hs
                clear HT8' HP
                refine Calls.mono (hs) ?_
                rintro e w6 ⟨rfl, hq⟩
                clear hs
                replace HXA := Lib.hid (HXA.out.later hq)
                replace HXB := Lib.hid (HXB.out.later hq)
                replace hb := hb.trans (hq.mono hb.size)
                clear hq
                clear HX9
                have h2 : (cv.toList == (boolCell true).toList) = false := by
                  rcases str_ne_cases cv (boolCell true) with ⟨h, _, _⟩ | ⟨_, h, _⟩
                  · rw [h] at hem; exact absurd hem (by decide +kernel)
                  · exact h
                have HNN : Hid (cntV x y 3 = n) := HNX.out.trans (by
                  rcases str_ne_cases cv (boolCell true) with ⟨h, _, _⟩ | ⟨h, _, _⟩
                  · rw [h] at hem; exact absurd hem (by decide +kernel)
                  · rw [if_neg h, Nat.add_zero])
                go_wp2_with fail
                refine Calls.mono (bool_calls _ w6) ?_
                rintro e wb ⟨rfl, hq⟩
                replace HXA := Lib.hid (HXA.out.later hq)
                replace HXB := Lib.hid (HXB.out.later hq)
                replace hb := hb.trans (hq.mono hb.size)
                clear hq
                go_wp2
                go_roundw
                case rel => exact ⟨3, by omega, by go_num, by rw [HNN.out], HXA, HXB, hb⟩
                case measure => simp [intOf]
            · obtain rfl : k = 3 := by omega
              rw [HC3.out]
              clear hn hk hlt hnb HN HXA HXB
              have hB := hb.size
              go_wp2_with (go_at_call 10; refine HAW.out.step (w0 := w) (B := w.heap.size) hb hB ?_; clear hb hB; intro wa hb hB)
              go_ret
              exact ⟨rfl, hb⟩
        | false =>
          have HCE : Hid (∀ k, (cmpV x y k).toList.isEmpty = false) := fun k => by rw [cmpV_empty, hx, hy]; rfl
          have HC3 : Hid (cntV x y 3 = 1) := Lib.hid (by rw [cntV_three]; exact if_neg (fun h => h.elim (some_of hx) (some_of hy)))
          go_loopw [7, 8] (fun n i wr => ∃ k : Nat, k ≤ 3 ∧ i = .int .i64 k ∧ n = .int .i64 (cntV x y k : Nat) ∧ Hid (TrmBox wr w.heap.size 107 0 x (.slice none 0 0)) ∧ Hid (TrmBox wr (w.heap.size + 1) 107 0 y (.slice none 0 0)) ∧ Below w.heap.size w wr) (fun _ i _ => 3 - (intOf i).toNat)
          case atStart => exact ⟨0, Nat.zero_le _, rfl, rfl, HXA, HXB, HB2.out⟩
          case round =>
            obtain ⟨k, hk, rfl, rfl, HXA, HXB, hb⟩ := hrel
            obtain ⟨n, hn⟩ : ∃ n, cntV x y k = n := ⟨_, rfl⟩
            have hnb : n ≤ 3 := by have := cntV_le x y k; omega
            have HN := Lib.hid hn
            by_cases hlt : k < 3
            · rw [hn]
              clear hn
              obtain rfl | rfl | rfl : k = 0 ∨ k = 1 ∨ k = 2 := by omega
              · clear hk hlt
                obtain ⟨cv, hcv⟩ : ∃ c, cmpV x y 0 = c := ⟨_, rfl⟩
                have hem := HCE.out 0
                have HNX : Hid (cntV x y 1 = n + if cmpV x y 0 = boolCell true then 1 else 0) := Lib.hid (by rw [cntV, HN.out])
                rw [hcv] at hem HNX
                have HCV := Lib.hid hcv
                clear hcv
                obtain ⟨y0, y1, y2, y3, _⟩ := HXA.out.cells
                obtain ⟨z0, z1, z2, z3, _⟩ := HXB.out.cells
                go_wp2_with fail
                clear y0 y1 y2 y3 z0 z1 z2 z3
                refine Calls.mono (two15_calls 60 (by decide) (by decide) (constT_in _ x) (constT_in _ y)) ?_
                intro e w3 hend
                obtain ⟨A9, c9, e1, ht9, hq⟩ := TermEnd.out hend
                have e2 : e = .returned (.agg #[.int .u8 60, .int .i64 0, .string ⟨#[]⟩, .slice A9 2 c9]) := e1
                subst e2
                have HT9 := Lib.hid ht9
                clear hend e1 ht9
                replace HXA := Lib.hid (HXA.out.later hq)
                replace HXB := Lib.hid (HXB.out.later hq)
                replace hb := hb.trans (hq.mono hb.size)
                clear hq
                have hq := Below.alloc (.refl w3.heap.size w3) (Nat.le_refl _) (.cells #[.int .u8 60, .int .i64 0, .string ⟨#[]⟩, .slice A9 2 c9] 24)
                have HX9 := Lib.hid (trmbox_lit w3 24 60 0 ⟨#[]⟩ (.slice A9 2 c9))
                replace HT9 := Lib.hid (HT9.out.kept hq)
                replace HXA := Lib.hid (HXA.out.later hq)
                replace HXB := Lib.hid (HXB.out.later hq)
                replace hb := hb.trans (hq.mono hb.size)
                clear hq
                go_wp2_with fail
                generalize World.alloc w3 _ = w4 at *
                have hs := term_eval_calls _ HT9.out (show StrsIn w4 (.slice none 0 0) [] from SliceOf.nil_ _ _ _ _)
                rw [cmp_zero, HCV.out] at hs
                clear HT9
                refine Calls.mono (hs) ?_
                rintro e w5 ⟨rfl, hq⟩
                clear hs
                replace HXA := Lib.hid (HXA.out.later hq)
                replace HXB := Lib.hid (HXB.out.later hq)
                replace HX9 := Lib.hid (HX9.out.later hq)
                replace hb := hb.trans (hq.mono hb.size)
                clear hq
                clear HX9
                rcases str_ne_cases cv (boolCell true) with ⟨h1, h2, h3⟩ | ⟨h1, h2, h3⟩
                · have HNN : Hid (cntV x y 1 = n + 1) := HNX.out.trans (by rw [if_pos h1])
                  clear h1 h3
                  go_wp2_with fail
                  refine Calls.mono (bool_calls _ w5) ?_
                  rintro e wb ⟨rfl, hq⟩
                  replace HXA := Lib.hid (HXA.out.later hq)
                  replace HXB := Lib.hid (HXB.out.later hq)
                  replace hb := hb.trans (hq.mono hb.size)
                  clear hq
                  go_wp2
                  go_roundw
                  case rel => exact ⟨1, by omega, by go_num, by rw [HNN.out]; go_num, HXA, HXB, hb⟩
                  case measure => simp [intOf]
                · have HNN : Hid (cntV x y 1 = n) := HNX.out.trans (by rw [if_neg h1, Nat.add_zero])
                  clear h1 h3
                  go_wp2_with fail
                  refine Calls.mono (bool_calls _ w5) ?_
                  rintro e wb ⟨rfl, hq⟩
                  replace HXA := Lib.hid (HXA.out.later hq)
                  replace HXB := Lib.hid (HXB.out.later hq)
                  replace hb := hb.trans (hq.mono hb.size)
                  clear hq
                  go_wp2
                  go_roundw
                  case rel => exact ⟨1, by omega, by go_num, by rw [HNN.out], HXA, HXB, hb⟩
                  case measure => simp [intOf]
              · clear hk hlt
                obtain ⟨cv, hcv⟩ : ∃ c, cmpV x y 1 = c := ⟨_, rfl⟩
                have hem := HCE.out 1
                have HNX : Hid (cntV x y 2 = n + if cmpV x y 1 = boolCell true then 1 else 0) := Lib.hid (by rw [cntV, HN.out])
                rw [hcv] at hem HNX
                have HCV := Lib.hid hcv
                clear hcv
                obtain ⟨y0, y1, y2, y3, _⟩ := HXA.out.cells
                obtain ⟨z0, z1, z2, z3, _⟩ := HXB.out.cells
                go_wp2_with fail
                clear y0 y1 y2 y3 z0 z1 z2 z3
                refine Calls.mono (two15_calls 60 (by decide) (by decide) (constT_in _ x) (constT_in _ y)) ?_
                intro e w3 hend
                obtain ⟨A9, c9, e1, ht9, hq⟩ := TermEnd.out hend
                have e2 : e = .returned (.agg #[.int .u8 60, .int .i64 0, .string ⟨#[]⟩, .slice A9 2 c9]) := e1
                subst e2
                have HT9 := Lib.hid ht9
                clear hend e1 ht9
                replace HXA := Lib.hid (HXA.out.later hq)
                replace HXB := Lib.hid (HXB.out.later hq)
                replace hb := hb.trans (hq.mono hb.size)
                clear hq
                have HXB3 := HXB
                have hq := Below.alloc (.refl w3.heap.size w3) (Nat.le_refl _) (.cells #[.int .u8 60, .int .i64 0, .string ⟨#[]⟩, .slice A9 2 c9] 24)
                have HX9 := Lib.hid (trmbox_lit w3 24 60 0 ⟨#[]⟩ (.slice A9 2 c9))
                replace HT9 := Lib.hid (HT9.out.kept hq)
                replace HXA := Lib.hid (HXA.out.later hq)
                replace HXB := Lib.hid (HXB.out.later hq)
                replace hb := hb.trans (hq.mono hb.size)
                clear hq
                clear HT9
                have hlt9 := HX9.out.cells.2.2.2.2
                obtain ⟨y0, y1, y2, y3, _⟩ := HXA.out.cells
                obtain ⟨z0, z1, z2, z3, _⟩ := HXB.out.cells
                go_wp2_with fail
                clear y0 y1 y2 y3 z0 z1 z2 z3
                generalize World.alloc w3 _ = w4 at *
                refine Calls.mono (two15_q (RowOff (.slice (some ⟨w3.heap.size, 0, none⟩) 1 1)) 61 (by decide) (by decide) (constT_q _ _ x (RowOff.nil_ _)) (constT_q _ _ y (RowOff.nil_ _)) (fun u hu => RowOff.of_fresh hu fun q hq => by simp only [Value.ownBlock, Option.some.injEq] at hq; omega)) ?_
                intro e w5 hend
                obtain ⟨A8, c8, e1, ht8, hq⟩ := TermEndQ.out hend
                have e2 : e = .returned (.agg #[.int .u8 61, .int .i64 0, .string ⟨#[]⟩, .slice A8 2 c8]) := e1
                subst e2
                have HT8 := Lib.hid ht8
                clear hend e1 ht8 hlt9
                replace HXA := Lib.hid (HXA.out.later hq)
                replace HXB := Lib.hid (HXB.out.later hq)
                replace HX9 := Lib.hid (HX9.out.later hq)
                replace hb := hb.trans (hq.mono hb.size)
                clear hq
                have hg := setCells_grown w3.heap.size [.int .u8 61, .int .i64 0, .string ⟨#[]⟩, .slice A8 2 c8] 0 w5
                simp only [World.setCells, Nat.zero_add, Nat.reduceAdd] at hg
                have hne : w.heap.size + 1 < w3.heap.size := HXB3.out.cells.2.2.2.2
                obtain ⟨y0, y1, y2, y3, _⟩ := HX9.out.cells
                obtain ⟨f0, f1, f2, f3⟩ := HX9.out.free
                have HP := Lib.hid (HX9.out.putAll 61 0 ⟨#[]⟩ (.slice A8 2 c8))
                replace HXA := Lib.hid (HXA.out.other hg (by simp only [ne_eq, Option.some.injEq]; omega))
                replace HXB := Lib.hid (HXB.out.other hg (by simp only [ne_eq, Option.some.injEq]; omega))
                have HT8' := Lib.hid (TermQ.off (v := (.slice (some ⟨w3.heap.size, 0, none⟩) 1 1)) HT8.out (fun u hu => hu) hg)
                have hle : w.heap.size ≤ w3.heap.size := by omega
                have hbe := (((hb.setCell (p := ⟨w3.heap.size, 0, none⟩) hle (.int .u8 61)).setCell (p := ⟨w3.heap.size, 1, none⟩) hle (.int .i64 0)).setCell (p := ⟨w3.heap.size, 2, none⟩) hle (.string ⟨#[]⟩)).setCell (p := ⟨w3.heap.size, 3, none⟩) hle (.slice A8 2 c8)
                obtain ⟨g0, g1, g2, g3, _⟩ := HP.out.cells
                have HBE := Lib.hid hbe
                clear hb hbe hg HT8 hne hle
                go_wp2_with fail
                clear y0 y1 y2 y3 f0 f1 f2 f3 g0 g1 g2 g3
                have hb := HBE.out
                clear HBE
                generalize World.setCell (World.setCell (World.setCell (World.setCell w5 _ _) _ _) _ _) _ _ = w4b at *
                have hs := term_eval_calls _ HT8'.out.any (show StrsIn w4b (.slice none 0 0) [] from SliceOf.nil_ _ _ _ _)
                rw [cmp_one, HCV.out] at hs
                clear HT8' HP
                refine Calls.mono (hs) ?_
                rintro e w6 ⟨rfl, hq⟩
                clear hs
                replace HXA := Lib.hid (HXA.out.later hq)
                replace HXB := Lib.hid (HXB.out.later hq)
                replace hb := hb.trans (hq.mono hb.size)
                clear hq
                clear HX9
                rcases str_ne_cases cv (boolCell true) with ⟨h1, h2, h3⟩ | ⟨h1, h2, h3⟩
                · have HNN : Hid (cntV x y 2 = n + 1) := HNX.out.trans (by rw [if_pos h1])
                  clear h1 h3
                  go_wp2_with fail
                  refine Calls.mono (bool_calls _ w6) ?_
                  rintro e wb ⟨rfl, hq⟩
                  replace HXA := Lib.hid (HXA.out.later hq)
                  replace HXB := Lib.hid (HXB.out.later hq)
                  replace hb := hb.trans (hq.mono hb.size)
                  clear hq
                  go_wp2
                  go_roundw
                  case rel => exact ⟨2, by omega, by go_num, by rw [HNN.out]; go_num, HXA, HXB, hb⟩
                  case measure => simp [intOf]
                · have HNN : Hid (cntV x y 2 = n) := HNX.out.trans (by rw [if_neg h1, Nat.add_zero])
                  clear h1 h3
                  go_wp2_with fail
                  refine Calls.mono (bool_calls _ w6) ?_
                  rintro e wb ⟨rfl, hq⟩
                  replace HXA := Lib.hid (HXA.out.later hq)
                  replace HXB := Lib.hid (HXB.out.later hq)
                  replace hb := hb.trans (hq.mono hb.size)
                  clear hq
                  go_wp2
                  go_roundw
                  case rel => exact ⟨2, by omega, by go_num, by rw [HNN.out], HXA, HXB, hb⟩
                  case measure => simp [intOf]
              · clear hk hlt
                obtain ⟨cv, hcv⟩ : ∃ c, cmpV x y 2 = c := ⟨_, rfl⟩
                have hem := HCE.out 2
                have HNX : Hid (cntV x y 3 = n + if cmpV x y 2 = boolCell true then 1 else 0) := Lib.hid (by rw [cntV, HN.out])
                rw [hcv] at hem HNX
                have HCV := Lib.hid hcv
                clear hcv
                obtain ⟨y0, y1, y2, y3, _⟩ := HXA.out.cells
                obtain ⟨z0, z1, z2, z3, _⟩ := HXB.out.cells
                go_wp2_with fail
                clear y0 y1 y2 y3 z0 z1 z2 z3
                refine Calls.mono (two15_calls 60 (by decide) (by decide) (constT_in _ x) (constT_in _ y)) ?_
                intro e w3 hend
                obtain ⟨A9, c9, e1, ht9, hq⟩ := TermEnd.out hend
                have e2 : e = .returned (.agg #[.int .u8 60, .int .i64 0, .string ⟨#[]⟩, .slice A9 2 c9]) := e1
                subst e2
                have HT9 := Lib.hid ht9
                clear hend e1 ht9
                replace HXA := Lib.hid (HXA.out.later hq)
                replace HXB := Lib.hid (HXB.out.later hq)
                replace hb := hb.trans (hq.mono hb.size)
                clear hq
                have HXB3 := HXB
                have hq := Below.alloc (.refl w3.heap.size w3) (Nat.le_refl _) (.cells #[.int .u8 60, .int .i64 0, .string ⟨#[]⟩, .slice A9 2 c9] 24)
                have HX9 := Lib.hid (trmbox_lit w3 24 60 0 ⟨#[]⟩ (.slice A9 2 c9))
                replace HT9 := Lib.hid (HT9.out.kept hq)
                replace HXA := Lib.hid (HXA.out.later hq)
                replace HXB := Lib.hid (HXB.out.later hq)
                replace hb := hb.trans (hq.mono hb.size)
                clear hq
                clear HT9
                have hlt9 := HX9.out.cells.2.2.2.2
                obtain ⟨y0, y1, y2, y3, _⟩ := HXA.out.cells
                obtain ⟨z0, z1, z2, z3, _⟩ := HXB.out.cells
                go_wp2_with fail
                clear y0 y1 y2 y3 z0 z1 z2 z3
                generalize World.alloc w3 _ = w4 at *
                refine Calls.mono (two15_q (RowOff (.slice (some ⟨w3.heap.size, 0, none⟩) 1 1)) 60 (by decide) (by decide) (constT_q _ _ y (RowOff.nil_ _)) (constT_q _ _ x (RowOff.nil_ _)) (fun u hu => RowOff.of_fresh hu fun q hq => by simp only [Value.ownBlock, Option.some.injEq] at hq; omega)) ?_
                intro e w5 hend
                obtain ⟨A8, c8, e1, ht8, hq⟩ := TermEndQ.out hend
                have e2 : e = .returned (.agg #[.int .u8 60, .int .i64 0, .string ⟨#[]⟩, .slice A8 2 c8]) := e1
                subst e2
                have HT8 := Lib.hid ht8
                clear hend e1 ht8 hlt9
                replace HXA := Lib.hid (HXA.out.later hq)
                replace HXB := Lib.hid (HXB.out.later hq)
                replace HX9 := Lib.hid (HX9.out.later hq)
                replace hb := hb.trans (hq.mono hb.size)
                clear hq
                have hg := setCells_grown w3.heap.size [.int .u8 60, .int .i64 0, .string ⟨#[]⟩, .slice A8 2 c8] 0 w5
                simp only [World.setCells, Nat.zero_add, Nat.reduceAdd] at hg
                have hne : w.heap.size + 1 < w3.heap.size := HXB3.out.cells.2.2.2.2
                obtain ⟨y0, y1, y2, y3, _⟩ := HX9.out.cells
                obtain ⟨f0, f1, f2, f3⟩ := HX9.out.free
                have HP := Lib.hid (HX9.out.putAll 60 0 ⟨#[]⟩ (.slice A8 2 c8))
                replace HXA := Lib.hid (HXA.out.other hg (by simp only [ne_eq, Option.some.injEq]; omega))
                replace HXB := Lib.hid (HXB.out.other hg (by simp only [ne_eq, Option.some.injEq]; omega))
                have HT8' := Lib.hid (TermQ.off (v := (.slice (some ⟨w3.heap.size, 0, none⟩) 1 1)) HT8.out (fun u hu => hu) hg)
                have hle : w.heap.size ≤ w3.heap.size := by omega
                have hbe := (((hb.setCell (p := ⟨w3.heap.size, 0, none⟩) hle (.int .u8 60)).setCell (p := ⟨w3.heap.size, 1, none⟩) hle (.int .i64 0)).setCell (p := ⟨w3.heap.size, 2, none⟩) hle (.string ⟨#[]⟩)).setCell (p := ⟨w3.heap.size, 3, none⟩) hle (.slice A8 2 c8)
                obtain ⟨g0, g1, g2, g3, _⟩ := HP.out.cells
                have HBE := Lib.hid hbe
                clear hb hbe hg HT8 hne hle
                go_wp2_with fail
                clear y0 y1 y2 y3 f0 f1 f2 f3 g0 g1 g2 g3
                have hb := HBE.out
                clear HBE
                generalize World.setCell (World.setCell (World.setCell (World.setCell w5 _ _) _ _) _ _) _ _ = w4b at *
                have hs := term_eval_calls _ HT8'.out.any (show StrsIn w4b (.slice none 0 0) [] from SliceOf.nil_ _ _ _ _)
                rw [cmp_two, HCV.out] at hs
                clear HT8' HP
                refine Calls.mono (hs) ?_
                rintro e w6 ⟨rfl, hq⟩
                clear hs
                replace HXA := Lib.hid (HXA.out.later hq)
                replace HXB := Lib.hid (HXB.out.later hq)
                replace hb := hb.trans (hq.mono hb.size)
                clear hq
                clear HX9
                rcases str_ne_cases cv (boolCell true) with ⟨h1, h2, h3⟩ | ⟨h1, h2, h3⟩
                · have HNN : Hid (cntV x y 3 = n + 1) := HNX.out.trans (by rw [if_pos h1])
                  clear h1 h3
                  go_wp2_with fail
                  refine Calls.mono (bool_calls _ w6) ?_
                  rintro e wb ⟨rfl, hq⟩
                  replace HXA := Lib.hid (HXA.out.later hq)
                  replace HXB := Lib.hid (HXB.out.later hq)
                  replace hb := hb.trans (hq.mono hb.size)
                  clear hq
                  go_wp2
                  go_roundw
                  case rel => exact ⟨3, by omega, by go_num, by rw [HNN.out]; go_num, HXA, HXB, hb⟩
                  case measure => simp [intOf]
                · have HNN : Hid (cntV x y 3 = n) := HNX.out.trans (by rw [if_neg h1, Nat.add_zero])
                  clear h1 h3
                  go_wp2_with fail
                  refine Calls.mono (bool_calls _ w6) ?_
                  rintro e wb ⟨rfl, hq⟩
                  replace HXA := Lib.hid (HXA.out.later hq)
                  replace HXB := Lib.hid (HXB.out.later hq)
                  replace hb := hb.trans (hq.mono hb.size)
                  clear hq
                  go_wp2
                  go_roundw
                  case rel => exact ⟨3, by omega, by go_num, by rw [HNN.out], HXA, HXB, hb⟩
                  case measure => simp [intOf]
            · obtain rfl : k = 3 := by omega
              rw [HC3.out]
              clear hn hk hlt hnb HN HXA HXB
              have hB := hb.size
              go_wp2_with (go_at_call 10; refine HAW.out.step (w0 := w) (B := w.heap.size) hb hB ?_; clear hb hB; intro wa hb hB)
              go_ret
              exact ⟨rfl, hb⟩
    · have d3 : decide ((100 : Int) < (y.size : Int)) = true := decide_eq_true (by omega)
      have d4 : decide (100 < y.size) = true := decide_eq_true (by omega)
      go_enter Try.func5, Try.ntmps5
      go_wp2_with (go_at_call 10; refine HAW.out.step (w0 := w) (B := w.heap.size) hb hB ?_; clear hb hB; intro wa hb hB)
      go_ret
      exact ⟨rfl, hb⟩
  · have d1 : decide ((100 : Int) < (x.size : Int)) = true := decide_eq_true (by omega)
    have d2 : decide (100 < x.size) = true := decide_eq_true (by omega)
    go_enter Try.func5, Try.ntmps5
    go_wp2_with (go_at_call 10; refine HAW.out.step (w0 := w) (B := w.heap.size) hb hB ?_; clear hb hB; intro wa hb hB)
    go_ret
    exact ⟨rfl, hb⟩
end Go.Proofs.Ytppmmkmlngmafaa
