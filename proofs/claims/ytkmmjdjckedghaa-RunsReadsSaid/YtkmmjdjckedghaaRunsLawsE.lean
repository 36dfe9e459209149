/- The law RunsWhole. -/
import Derived.Test.YtkmmjdjckedghaaRunsLawsD
namespace Go.Proofs.Ytkmmjdjckedghaa
open Go Go.RowKit

theorem good_ne (rs : List (ByteArray × Nat)) (hg : Good rs) (i : Nat) (h : i + 1 < rs.length) : rs[i].1 ≠ rs[i + 1].1 := by
  have e : rs = rs.take (i + 1) ++ rs[i + 1] :: rs.drop (i + 1 + 1) := by rw [← List.drop_eq_getElem_cons, List.take_append_drop]
  rw [e] at hg
  have hl : (rs.take (i + 1)).getLast? = some rs[i] := by rw [take_add rs i (by omega), List.getLast?_append, List.getLast?_singleton]; rfl
  exact good_meet (rs.take (i + 1)) (rs.drop (i + 1 + 1)) rs[i] rs[i + 1] hg hl
theorem many_take (rs : List (ByteArray × Nat)) (i : Nat) (h : i < rs.length) : many (rs.take (i + 1)) = many (rs.take i) + rs[i].2 := by
  rw [take_add rs i h, many_append, many_cons, many_nil]; simp
theorem spread_at (rs : List (ByteArray × Nat)) (i j : Nat) (h : i < rs.length) (hj : j < rs[i].2) : (spread rs)[many (rs.take i) + j]? = some rs[i].1 := by
  have e : rs = rs.take i ++ rs[i] :: rs.drop (i + 1) := by rw [← List.drop_eq_getElem_cons, List.take_append_drop]
  have e2 : spread rs = spread (rs.take i) ++ (List.replicate rs[i].2 rs[i].1 ++ spread (rs.drop (i + 1))) := by
    have := congrArg spread e
    rw [spread_append] at this
    exact this
  rw [e2, List.getElem?_append_right (by rw [spread_length]; omega), spread_length, Nat.add_sub_cancel_left, List.getElem?_append_left (by rw [List.length_replicate]; exact hj), List.getElem?_replicate, if_pos hj]
theorem many_take_le (rs : List (ByteArray × Nat)) (i : Nat) : many (rs.take i) ≤ many rs := by
  have := many_append (rs.take i) (rs.drop i)
  rw [List.take_append_drop] at this
  omega
theorem print_same (l m : List ByteArray) (h1 : ∀ c ∈ l, c.size ≤ 200) (h2 : ∀ c ∈ m, c.size ≤ 200) (hl : l.length = m.length) (hz : l.length ≤ 300) : ((mkB (runsP l)).toList == (mkB (runsP m)).toList) = decide (l = m) := by
  rw [ByteArray.toList_eq, ByteArray.toList_eq, mkB_data, mkB_data, Bool.eq_iff_iff, beq_iff_eq, decide_eq_true_eq]
  constructor
  · intro h
    exact (runsP_prefix l m [] [] (fun c hc => by have := h1 c hc; unfold Small; omega) (fun c hc => by have := h2 c hc; unfold Small; omega) hl (by omega) (by rw [h])).1
  · intro h; rw [h]

set_option maxHeartbeats 4000000 in
set_option maxRecDepth 100000 in
theorem runsWhole_calls {w : World} {v u : Value} {l m : List ByteArray} (h : StrsIn w v l) (h' : StrsIn w u m) : GivesAt Try.prog 6 #[v, u] w (.bool true) := by
  obtain ⟨hb, hB⟩ := start w
  have HS := Lib.hid (small_calls h)
  have HS2 := Lib.hid (small_calls h')
  unfold GivesAt
  by_cases hgd : smallL l = false ∨ (smallL l = true ∧ smallL m = false)
  · obtain ⟨A, cap, rfl, _⟩ := one_at h
    obtain ⟨A2, cap2, rfl, _⟩ := one_at h'
    clear h h'
    rcases hgd with e | ⟨e, e2⟩
    case' inl => rw [e] at HS
    case' inr => rw [e] at HS; rw [e2] at HS2
    all_goals
      go_enter Try.func6, Try.ntmps6
      go_wp2_with (first | (go_at_call_of 7 (Value.slice A l.length cap); refine HS.out.step ?_) | (go_at_call_of 7 (Value.slice A2 m.length cap2); refine HS2.out.step ?_) | (go_at_call 8; refine awake_calls.step (w0 := w) (B := w.heap.size) hb hB ?_; clear hb hB; intro w' hb hB))
      go_ret
      exact ⟨rfl, hb⟩
  · have hsm : smallL l = true := by
      cases hs : smallL l with
      | true => rfl
      | false => exact absurd (.inl hs) hgd
    have hsm2 : smallL m = true := by
      cases hs : smallL m with
      | true => rfl
      | false => exact absurd (.inr ⟨hsm, hs⟩) hgd
    rw [hsm] at HS
    rw [hsm2] at HS2
    obtain ⟨hl, hsz⟩ := smallL_of hsm
    obtain ⟨hl2, hsz2⟩ := smallL_of hsm2
    have HL := Lib.hid h
    have HL2 := Lib.hid h'
    obtain ⟨A, cap, rfl, hat⟩ := one_at h
    obtain ⟨A2, cap2, rfl, _⟩ := one_at h'
    have HAT := Lib.hid hat
    obtain ⟨hgood, hspread⟩ := runsOf_good l
    have hmany := many_runsOf l
    have hrl := runs_le l
    clear h h' hgd hsm hsm2 hat
    have H1 := Lib.hid (runs_calls HL.out (by omega))
    generalize runsOf l = rs at *
    go_enter Try.func6, Try.ntmps6
    go_wp2_with (first | (go_at_call_of 7 (Value.slice A l.length cap); refine HS.out.step ?_) | (go_at_call_of 7 (Value.slice A2 m.length cap2); refine HS2.out.step ?_))
    refine H1.out.mono ?_
    rintro e w1 ⟨c1, n1, rfl, hr1, hk1⟩
    have hc1' := hr1.1.slice
    have hn1' := hr1.2.1.slice
    obtain ⟨a1, d1, rfl, hat1⟩ := one_at (f := fun x : ByteArray × Nat => Value.string x.1) (l := rs) hc1'
    obtain ⟨a3, d3, rfl, hat3⟩ := one_at (f := fun x : ByteArray × Nat => Value.int .i64 x.2) (l := rs) hn1'
    replace hb := hb.trans (hk1.mono hB)
    replace hB := hb.size
    clear hr1 hc1' hn1' HS HS2 H1
    go_wp2
    go_loopw [7, 8] (fun kk ii wr => ∃ i : Nat, i ≤ rs.length ∧ ii = .int .i64 i ∧ kk = .int .i64 (many (rs.take i) : Nat) ∧ Below w1.heap.size w1 wr) (fun _ ii _ => rs.length - (intOf ii).toNat)
    case atStart => exact ⟨0, Nat.zero_le _, rfl, rfl, .refl _ _⟩
    case round =>
      obtain ⟨i, hi, rfl, rfl, hbr⟩ := hrel
      have hBr := hbr.size
      by_cases hlt : i < rs.length
      · obtain ⟨b1, o1, rfl, hbl1, hc1⟩ := hat1 i hlt
        obtain ⟨b3, o3, rfl, hbl3, hc3⟩ := hat3 i hlt
        have hx1 := cell_kept (hc1 i hlt) hbr
        have hx3 := cell_kept (hc3 i hlt) hbr
        have hn1 := hgood.one_le rs[i] (List.getElem_mem hlt)
        have HMT := Lib.hid (many_take rs i hlt)
        have HML := many_take_le rs (i + 1)
        rw [HMT.out, hmany] at HML
        have HSP : Hid (∀ j, j < rs[i].2 → l[many (rs.take i) + j]? = some rs[i].1) := by intro j hj; have := spread_at rs i j hlt hj; rwa [hspread] at this
        have dn : decide ((rs[i].2 : Int) < 1) = false := by rw [decide_eq_false_iff_not]; omega
        by_cases h0 : i = 0
        case' pos =>
          subst h0
          replace hx1 : wr.cell? ⟨b1, o1, none⟩ = some (.string rs[0].1) := hx1
          replace hx3 : wr.cell? ⟨b3, o3, none⟩ = some (.int .i64 rs[0].2) := hx3
          generalize rs[0] = x at *
          generalize many (rs.take 0) = K at *
        case' neg =>
          have hne := good_ne rs hgood (i - 1) (by omega)
          have hx1b := cell_kept (hc1 (i - 1) (by omega)) hbr
          simp only [show i - 1 + 1 = i by omega] at hne
          obtain ⟨_, g1, g2⟩ := (str_ne_cases rs[i - 1].1 rs[i].1).resolve_left (fun x => hne x.1)
          have dp : decide (0 < (i : Int)) = true := by rw [decide_eq_true_eq]; omega
          have dp2 : decide (0 < i) = true := by rw [decide_eq_true_eq]; omega
          have q2 : IntKind.i64.wrap ((i : Int) - 1) = (i : Int) - 1 := IntWalk.i64_in _ (by omega)
          have q3 : (0 : Int) ≤ (i : Int) - 1 := by omega
          have q4 : ((i : Int) - 1).toNat = i - 1 := by omega
          have q5 : (i : Int) - 1 < (rs.length : Int) := by omega
          clear hne hc1 hc3
          generalize rs[i - 1] = y at *
          generalize rs[i] = x at *
          generalize many (rs.take i) = K at *
        all_goals
          try clear hc1 hc3
          go_wp2
          go_quiet (fail)
          have hbq := below_drewN hbr nq
          have hx1q : (wr.drewN nq).cell? _ = _ := hx1
          have hx3q : (wr.drewN nq).cell? _ = _ := hx3
          clear hx1 hx3 hbr
          try clear hx1b
          go_wp2
          go_loopw [7, 9] (fun kk jj wq => ∃ j t : Nat, j ≤ x.2 ∧ jj = .int .i64 j ∧ kk = .int .i64 t ∧ Hid (t = K + j) ∧ Below (wr.drewN nq).heap.size (wr.drewN nq) wq) (fun _ jj _ => x.2 - (intOf jj).toNat)
          case atStart => exact ⟨0, K, Nat.zero_le _, rfl, rfl, show K = K + 0 from rfl, .refl _ _⟩
          case round =>
            obtain ⟨j, t, hj, rfl, rfl, HTt, hbj⟩ := hrel
            have hx1j := cell_kept hx1q hbj
            have hx3j := cell_kept hx3q hbj
            by_cases hjx : j < x.2
            · have hlj := HSP.out j hjx
              rw [← HTt.out] at hlj
              obtain ⟨hkl, hlv⟩ := List.getElem?_eq_some_iff.1 hlj
              obtain ⟨bl, ol, rfl, hbll, hcl⟩ := HAT.out t hkl
              have hxl : w.cell? ⟨bl, ol + t, none⟩ = some (.string x.1) := by rw [hcl t hkl, hlv]
              have hxl1 := (hb.cell (p := ⟨bl, ol + t, none⟩) hbll).trans hxl
              have hxl2 := cell_kept (cell_kept hxl1 hbq) hbj
              have dk : decide ((l.length : Int) ≤ (t : Int)) = false := by rw [decide_eq_false_iff_not]; omega
              have dk2 : decide (l.length ≤ t) = false := by rw [decide_eq_false_iff_not]; omega
              clear hlj hlv hcl hxl hxl1
              go_wp2
              go_quiet (fail)
              go_wp2
              go_roundw
              case rel => exact ⟨j + 1, t + 1, by omega, by go_num, by go_num, show t + 1 = K + (j + 1) by rw [HTt.out]; omega, below_drewN hbj _⟩
              case measure => simp [intOf]; omega
            · obtain rfl : j = x.2 := by omega
              go_wp2
              go_roundw
              case rel => exact ⟨_, Nat.succ_le_of_lt hlt, by go_num, by rw [show many (rs.take (Nat.succ _)) = _ from HMT.out, HTt.out], hbq.trans (hbj.mono hbq.size)⟩
              case measure => simp [intOf]; omega
      · obtain rfl : i = rs.length := by omega
        rw [List.take_length, hmany]
        have hl1 := StrsIn.kept (StrsIn.kept HL.out hk1) hbr
        have hl2 := StrsIn.kept (StrsIn.kept HL2.out hk1) hbr
        have hs1 := fun c hc => Nat.le_trans (hsz c hc) (by decide : 200 ≤ 1000000)
        have hs2 := fun c hc => Nat.le_trans (hsz2 c hc) (by decide : 200 ≤ 1000000)
        replace hb := hb.trans (hbr.mono hB)
        replace hB := hb.size
        clear hbr hBr hat1 hat3 hk1
        by_cases hlm : l.length = m.length
        · have d1 : ((l.length : Int) == (m.length : Int)) = true := by rw [beq_iff_eq]; omega
          have hP := print_same l m hsz hsz2 hlm hl
          generalize hdl : decide (l = m) = d at *
          have HD := Lib.hid hdl
          clear hdl hlm
          go_wp2_with (first | (go_at_call 8; refine awake_calls.stepB (w0 := w) (B := w.heap.size) hb hB ?_; clear hb hB; intro w5 hb hB hq; replace hl1 := StrsIn.kept hl1 hq; replace hl2 := StrsIn.kept hl2 hq; clear hq) | (go_at_call_of 14 (Value.slice A l.length cap); refine (runs_print_calls hl1 (by omega) hs1).stepB (w0 := w) (B := w.heap.size) hb hB ?_; clear hb hB; intro w6 hb hB hq; replace hl1 := StrsIn.kept hl1 hq; replace hl2 := StrsIn.kept hl2 hq; clear hq) | (go_at_call_of 14 (Value.slice A2 m.length cap2); refine (runs_print_calls hl2 (by omega) hs2).stepB (w0 := w) (B := w.heap.size) hb hB ?_; clear hb hB; intro w6 hb hB hq; replace hl1 := StrsIn.kept hl1 hq; replace hl2 := StrsIn.kept hl2 hq; clear hq))
          have hs := same_strs hl1 hl2 (by omega) (by omega)
          rw [HD.out] at hs
          refine hs.step (w0 := w) (B := w.heap.size) hb hB ?_
          clear hb hB hl1 hl2 hs
          intro w10 hb hB
          go_wp2
          all_goals
            go_ret
            exact ⟨ret_bool (by simp_all), hb⟩
        · have d1 : ((l.length : Int) == (m.length : Int)) = false := by rw [beq_eq_false_iff_ne]; omega
          go_wp2_with (first | (go_at_call 8; refine awake_calls.step (w0 := w) (B := w.heap.size) hb hB ?_; clear hb hB; intro w5 hb hB))
          go_ret
          exact ⟨ret_bool (by simp_all), hb⟩
end Go.Proofs.Ytkmmjdjckedghaa
