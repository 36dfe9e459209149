/- Plain facts on the document's examples of layer 12; no program. -/
import Derived.Test.YtofepmdfciijeaaGreatGStrs
import Derived.Test.YtofepmdfciijeaaGreatGTimes
import Derived.Test.YtofepmdfciijeaaGreatGBlocks
import Derived.Test.YtofepmdfciijeaaGreatGZColKind
import Derived.Test.YtofepmdfciijeaaGreatGZShapeCols
/- Columns beside cells, one more of each; no program. -/
namespace Go.Proofs.YtofepmdfciijeaaGreat
open Go Go.RowKit

theorem zip_take (l : List (Int × Bool)) (r : List ByteArray) (k : Nat) (h1 : k < l.length) (h2 : k < r.length) : (l.take (k + 1)).zip (r.take (k + 1)) = (l.take k).zip (r.take k) ++ [(l[k], r[k])] := by
  rw [take_add l k h1, take_add r k h2, List.zip_append (by rw [List.length_take, List.length_take]; omega)]; rfl
theorem fitsL_no {l : List (Int × Bool)} {r : List ByteArray} (k : Nat) (h1 : k < l.length) (h2 : k < r.length) (h : fitsC l[k] r[k] = false) : fitsL l r = false := by
  cases ha : fitsL l r with
  | false => rfl
  | true =>
    unfold fitsL at ha
    rw [List.all_eq_true] at ha
    have hm : (l[k], r[k]) ∈ l.zip r := by
      refine List.mem_iff_getElem.2 ⟨k, by rw [List.length_zip]; omega, ?_⟩
      rw [List.getElem_zip]
    rw [ha _ hm] at h
    exact absurd h (by decide)
end Go.Proofs.YtofepmdfciijeaaGreat
/- The contracts of the answer's Fits and Row of layer 9. -/
namespace Go.Proofs.YtofepmdfciijeaaGreat
open Go Go.RowKit

set_option maxHeartbeats 2000000 in
theorem ref_fits_calls (c : Int × Bool) (s : ByteArray) : Gives Tryz.prog 33 #[colA c, .string s] (.bool (fitsC c s)) := by
  obtain ⟨kd, nl⟩ := c
  intro w
  obtain ⟨hb, hB⟩ := start w
  unfold colA
  have hc0 : (w.alloc (.cells #[.int .u8 kd, .bool nl] 42)).cell? ⟨w.heap.size, 0, none⟩ = some (.int .u8 kd) := by simp [go_sem]
  have hc1 : (w.alloc (.cells #[.int .u8 kd, .bool nl] 42)).cell? ⟨w.heap.size, 1, none⟩ = some (.bool nl) := by simp [go_sem]
  have hb1 : Below w.heap.size w (w.alloc (.cells #[.int .u8 kd, .bool nl] 42)) := (below_alloc hb hB _).1
  have HN := Lib.hid (ref_right_calls s)
  have HK := Lib.hid (ref_kind_calls s)
  dsimp only
  cases he : s.toList.isEmpty with
  | true =>
    have HR := Lib.hid (show fitsC (kd, nl) s = nl by unfold fitsC; rw [he]; rfl)
    have g1 : (s.toList == []) = true := by rw [beq_iff_eq]; exact List.isEmpty_iff.1 he
    have g2 : (s.toList != []) = false := by simp [List.isEmpty_iff.1 he]
    have hr : rightB s = true := by unfold rightB; rw [he]; rfl
    rw [hr] at HN
    clear hr
    generalize kindI s = kk at *
    cases nl with
    | true =>
      go_enter Tryz.func33, Tryz.ntmps33
      go_wp2
      generalize hW : w.alloc (.cells #[.int .u8 kd, .bool true] 42) = w1 at *
      clear hW hb hB
      have hb := hb1
      clear hb1
      have a0 := fun d os => cell_regrown hc0 d os
      have a1 := fun d os => cell_regrown hc1 d os
      refine wp_region_quiet_below (by kernel_rfl) (by kernel_rfl) ?_
      repeat (first | go_big_quiet_skip | (go_big_quiet_want; go_big_quiet_op; first | go_big_quiet_on | (apply Exists.intro; refine ⟨fun _ => ?_, ?_⟩; (first | (go_at_call 65; exact Calls.regrown_of (HN.out _)) | (go_at_call 64; exact Calls.regrown_of (HK.out _))); go_big_quiet_on)))
      refine wpQuiet_nil ?_
      rintro w3 ⟨p, hw3⟩
      have hb2 : Below w1.heap.size w1 w3 := hw3 ▸ below_regrown w1 p.d p.os
      clear hw3
      clear a0 a1
      go_wp2
      go_ret
      exact ⟨ret_bool HR.out.symm, hb.trans (hb2.mono hb.size)⟩
    | false =>
      go_enter Tryz.func33, Tryz.ntmps33
      go_wp2
      generalize hW : w.alloc (.cells #[.int .u8 kd, .bool false] 42) = w1 at *
      clear hW hb hB
      have hb := hb1
      clear hb1
      have a0 := fun d os => cell_regrown hc0 d os
      have a1 := fun d os => cell_regrown hc1 d os
      refine wp_region_quiet_below (by kernel_rfl) (by kernel_rfl) ?_
      repeat (first | go_big_quiet_skip | (go_big_quiet_want; go_big_quiet_op; first | go_big_quiet_on | (apply Exists.intro; refine ⟨fun _ => ?_, ?_⟩; (first | (go_at_call 65; exact Calls.regrown_of (HN.out _)) | (go_at_call 64; exact Calls.regrown_of (HK.out _))); go_big_quiet_on)))
      refine wpQuiet_nil ?_
      rintro w3 ⟨p, hw3⟩
      have hb2 : Below w1.heap.size w1 w3 := hw3 ▸ below_regrown w1 p.d p.os
      clear hw3
      clear a0 a1
      go_wp2
      go_ret
      exact ⟨ret_bool HR.out.symm, hb.trans (hb2.mono hb.size)⟩
  | false =>
    have HR := Lib.hid (show fitsC (kd, nl) s = (rightB s && (kindI s == kd)) by unfold fitsC; rw [he]; rfl)
    have g1 : (s.toList == []) = false := by rw [beq_eq_false_iff_ne]; intro e; rw [e] at he; exact absurd he (by decide)
    have g2 : (s.toList != []) = true := by rw [bne_iff_ne]; intro e; rw [e] at he; exact absurd he (by decide)
    cases hr : rightB s with
    | true =>
      rw [hr] at HN HR
      rw [Bool.true_and] at HR
      clear hr
      generalize kindI s = kk at *
      go_enter Tryz.func33, Tryz.ntmps33
      go_wp2
      generalize hW : w.alloc (.cells #[.int .u8 kd, .bool nl] 42) = w1 at *
      clear hW hb hB
      have hb := hb1
      clear hb1
      have a0 := fun d os => cell_regrown hc0 d os
      have a1 := fun d os => cell_regrown hc1 d os
      refine wp_region_quiet_below (by kernel_rfl) (by kernel_rfl) ?_
      repeat (first | go_big_quiet_skip | (go_big_quiet_want; go_big_quiet_op; first | go_big_quiet_on | (apply Exists.intro; refine ⟨fun _ => ?_, ?_⟩; (first | (go_at_call 65; exact Calls.regrown_of (HN.out _)) | (go_at_call 64; exact Calls.regrown_of (HK.out _))); go_big_quiet_on)))
      refine wpQuiet_nil ?_
      rintro w3 ⟨p, hw3⟩
      have hb2 : Below w1.heap.size w1 w3 := hw3 ▸ below_regrown w1 p.d p.os
      clear hw3
      clear a0 a1
      go_wp2
      go_ret
      exact ⟨ret_bool HR.out.symm, hb.trans (hb2.mono hb.size)⟩
    | false =>
      rw [hr] at HN HR
      rw [Bool.false_and] at HR
      clear hr
      generalize kindI s = kk at *
      go_enter Tryz.func33, Tryz.ntmps33
      go_wp2
      generalize hW : w.alloc (.cells #[.int .u8 kd, .bool nl] 42) = w1 at *
      clear hW hb hB
      have hb := hb1
      clear hb1
      have a0 := fun d os => cell_regrown hc0 d os
      have a1 := fun d os => cell_regrown hc1 d os
      refine wp_region_quiet_below (by kernel_rfl) (by kernel_rfl) ?_
      repeat (first | go_big_quiet_skip | (go_big_quiet_want; go_big_quiet_op; first | go_big_quiet_on | (apply Exists.intro; refine ⟨fun _ => ?_, ?_⟩; (first | (go_at_call 65; exact Calls.regrown_of (HN.out _)) | (go_at_call 64; exact Calls.regrown_of (HK.out _))); go_big_quiet_on)))
      refine wpQuiet_nil ?_
      rintro w3 ⟨p, hw3⟩
      have hb2 : Below w1.heap.size w1 w3 := hw3 ▸ below_regrown w1 p.d p.os
      clear hw3
      clear a0 a1
      go_wp2
      go_ret
      exact ⟨ret_bool HR.out.symm, hb.trans (hb2.mono hb.size)⟩

set_option maxHeartbeats 1000000 in
theorem ref_row_calls {w : World} {v u : Value} {l : List (Int × Bool)} {r : List ByteArray} (h : ColsIn w v l) (hr : StrsIn w u r) : GivesAt Tryz.prog 13 #[v, u] w (.int .i64 (rowN l r)) := by
  have hm := h.len
  unfold maxLen at hm
  obtain ⟨hb, hB⟩ := start w
  obtain ⟨A, cap, rfl, hat⟩ := cols_at h
  obtain ⟨A2, cap2, rfl, hat2⟩ := one_at hr
  have HAT := Lib.hid hat
  have HAT2 := Lib.hid hat2
  clear h hat hr hat2
  unfold GivesAt
  by_cases hl : r.length = l.length
  · have HL := Lib.hid hl
    have d1 : ((r.length : Int) != (l.length : Int)) = false := by simp [hl]
    have hle : l.length ≤ r.length := by omega
    go_enter Tryz.func13, Tryz.ntmps13
    rw [hl] at d1 ⊢
    clear hl
    go_wp2
    go_loopw [5] (fun i wr => ∃ k : Nat, k ≤ l.length ∧ i = .int .i64 k ∧ Hid (((l.take k).zip (r.take k)).all (fun p => fitsC p.1 p.2) = true) ∧ Below w.heap.size w wr) (fun i _ => l.length - (intOf i).toNat)
    case atStart => exact ⟨0, Nat.zero_le _, rfl, rfl, hb⟩
    case round =>
      clear hb hB
      obtain ⟨k, hk, rfl, HS, hb⟩ := hrel
      have hB := hb.size
      by_cases hlt : k < l.length
      · have hlt2 : k < r.length := by omega
        obtain ⟨b, off, rfl, hbl, hc⟩ := HAT.out k hlt
        obtain ⟨b2, off2, rfl, hbl2, hc2⟩ := HAT2.out k hlt2
        have hx1 := (hb.cell (p := ⟨b, off + k * 2, none⟩) hbl).trans (hc k hlt).1
        have hx2 := (hb.cell (p := ⟨b, off + k * 2 + 1, none⟩) hbl).trans (hc k hlt).2
        have hx3 := (hb.cell (p := ⟨b2, off2 + k, none⟩) hbl2).trans (hc2 k hlt2)
        have HZ := Lib.hid (zip_take l r k hlt hlt2)
        have HNO := Lib.hid (fitsL_no k hlt hlt2)
        clear hc hc2
        generalize l[k] = c at *
        generalize r[k] = s at *
        obtain ⟨kd, nl⟩ := c
        have HN := Lib.hid (ref_fits_calls (kd, nl) s)
        have i0 : (0 : Int) ≤ (k : Int) := by omega
        have i1 : (k : Int) < (l.length : Int) := by omega
        unfold colA at HN
        cases hi : fitsC (kd, nl) s with
        | true =>
          rw [hi] at HN
          have HI : Hid (((l.take (k + 1)).zip (r.take (k + 1))).all (fun p => fitsC p.1 p.2) = true) := by
            show _ = _
            rw [HZ.out, List.all_append, HS.out, List.all_cons, hi]; rfl
          clear hi HNO HZ
          have a0 := fun d os => cell_regrown hx1 d os
          have a1 := fun d os => cell_regrown hx2 d os
          have a2 := fun d os => cell_regrown hx3 d os
          go_wp2
          clear hx1 hx2 hx3
          refine wp_region_quiet_below (by kernel_rfl) (by kernel_rfl) ?_
          repeat (first | go_big_quiet_skip | (go_big_quiet_want; go_big_quiet_op; first | go_big_quiet_on | (apply Exists.intro; refine ⟨fun _ => ?_, ?_⟩; (first | (go_at_call 33; exact Calls.regrown_of (HN.out _))); go_big_quiet_on)))
          refine wpQuiet_nil ?_
          rintro w3 ⟨p, hw3⟩
          have hb2 : Below wr.heap.size wr w3 := hw3 ▸ below_regrown wr p.d p.os
          clear hw3 a0 a1 a2
          replace hb := hb.trans (hb2.mono hb.size)
          clear hb2
          go_wp2
          go_roundw
          case rel => exact ⟨k + 1, by omega, by go_num, HI, hb⟩
          case measure => simp [intOf]; omega
        | false =>
          rw [hi] at HN
          have HI : Hid (rowN l r = 5) := by
            show _ = _
            unfold rowN
            rw [if_pos HL.out, HNO.out hi]; rfl
          clear hi HNO HZ
          have a0 := fun d os => cell_regrown hx1 d os
          have a1 := fun d os => cell_regrown hx2 d os
          have a2 := fun d os => cell_regrown hx3 d os
          go_wp2
          clear hx1 hx2 hx3
          refine wp_region_quiet_below (by kernel_rfl) (by kernel_rfl) ?_
          repeat (first | go_big_quiet_skip | (go_big_quiet_want; go_big_quiet_op; first | go_big_quiet_on | (apply Exists.intro; refine ⟨fun _ => ?_, ?_⟩; (first | (go_at_call 33; exact Calls.regrown_of (HN.out _))); go_big_quiet_on)))
          refine wpQuiet_nil ?_
          rintro w3 ⟨p, hw3⟩
          have hb2 : Below wr.heap.size wr w3 := hw3 ▸ below_regrown wr p.d p.os
          clear hw3 a0 a1 a2
          replace hb := hb.trans (hb2.mono hb.size)
          clear hb2
          go_wp2
          go_ret
          exact ⟨ret_int HI.out.symm, hb⟩
      · obtain rfl : k = l.length := by omega
        have HI : Hid (rowN l r = 0) := by
          show _ = _
          have := HS.out
          rw [List.take_length, List.take_of_length_le (by have := HL.out; omega)] at this
          unfold rowN fitsL
          rw [if_pos HL.out, this]; rfl
        go_wp2
        go_ret
        exact ⟨ret_int HI.out.symm, hb⟩
  · have d1 : ((r.length : Int) == (l.length : Int)) = false := by rw [beq_eq_false_iff_ne]; omega
    have HD := Lib.hid (show rowN l r = 1 from if_neg hl)
    go_enter Tryz.func13, Tryz.ntmps13
    go_wp2
    go_ret
    exact ⟨ret_int HD.out.symm, hb⟩
end Go.Proofs.YtofepmdfciijeaaGreat
/- Layer 12's law: rows under columns, and few. -/
namespace Go.Proofs.YtofepmdfciijeaaGreat
open Go Go.RowKit

/-- May a row stand under columns, and is it there, or gone, not too often? -/
def underT (cols : List (Int × Bool)) (t : Tm) : Bool := decide (rowN cols t.1 = 0) && decide (t.2 ≤ 1099511627776) && decide (-1099511627776 ≤ t.2)
def underB (l : List Tm) (cols : List (Int × Bool)) : Bool := l.all (underT cols) && decide (l.length ≤ 100)
theorem underB_no {l : List Tm} {cols : List (Int × Bool)} {t : Tm} (h : t ∈ l) (hn : underT cols t = false) : underB l cols = false := by
  unfold underB
  rw [Bool.and_eq_false_iff]
  left
  rw [List.all_eq_false]
  exact ⟨t, h, by rw [hn]; decide⟩

set_option maxHeartbeats 2000000 in
theorem under_calls {w : World} {v vc : Value} {l : List Tm} {cols : List (Int × Bool)} (h : TimesIn w v l) (hc : ColsIn w vc cols) : GivesAt Tryz.prog 5 #[v, vc] w (.bool (underB l cols)) := by
  have hm := h.len
  unfold maxLen at hm
  obtain ⟨hb, hB⟩ := start w
  obtain ⟨tv, A1, cap1, rfl, _, hat1⟩ := times_at h
  have HAT1 := Lib.hid hat1
  have HCC := Lib.hid hc
  obtain ⟨A2, p2, rfl, _⟩ := cols_at hc
  clear h hat1 hc
  unfold GivesAt
  go_enter Tryz.func5, Tryz.ntmps5
  go_wp2
  go_loopw [5] (fun i wr => ∃ k : Nat, k ≤ l.length ∧ i = .int .i64 k ∧ Hid (∀ t ∈ l.take k, underT cols t = true) ∧ Below w.heap.size w wr) (fun i _ => l.length - (intOf i).toNat)
  case atStart => exact ⟨0, Nat.zero_le _, rfl, fun t ht => absurd ht (by simp), hb⟩
  case round =>
    clear hb hB
    obtain ⟨k, hk, rfl, HS, hb⟩ := hrel
    have hB := hb.size
    by_cases hlt : k < l.length
    · obtain ⟨b, off, rfl, hbl, hcc⟩ := HAT1.out k hlt
      obtain ⟨rv, s1, _, c1, c2⟩ := hcc k hlt
      have x1 := (hb.cell (p := ⟨b, off + k * 2, none⟩) hbl).trans c1
      have HX2 := Lib.hid c2
      have HBL := Lib.hid hbl
      have HC := Lib.hid (ref_row_calls (HCC.out.kept hb) (StrsIn.kept s1 hb))
      have HM := Lib.hid (List.getElem_mem hlt)
      have HT := Lib.hid (take_add l k hlt)
      clear hcc c1 c2 s1 hbl
      generalize l[k] = t at *
      obtain ⟨row, n⟩ := t
      dsimp only at *
      have HU : Hid (underT cols (row, n) = (decide (rowN cols row = 0) && decide (n ≤ 1099511627776) && decide (-1099511627776 ≤ n))) := rfl
      generalize rowN cols row = rn at *
      by_cases hr : rn = 0
      · have d1 : (rn != 0) = false := by simp [hr]
        by_cases h1 : 1099511627776 < n
        · have d2 : decide (1099511627776 < n) = true := decide_eq_true h1
          have HD : Hid (underB l cols = false) := underB_no HM.out (by rw [HU.out, decide_eq_false (show ¬ n ≤ 1099511627776 by omega), Bool.and_false, Bool.false_and])
          clear hr h1
          go_wp2_with (go_at_call 13; refine HC.out.step (w0 := w) (B := w.heap.size) hb hB ?_; clear hb hB; intro w2 hb hB; have x2 := (hb.cell (p := ⟨b, off + k * 2 + 1, none⟩) HBL.out).trans HX2.out)
          go_ret
          exact ⟨ret_bool HD.out.symm, hb⟩
        · have d2 : decide (1099511627776 < n) = false := decide_eq_false h1
          by_cases h2 : n < -1099511627776
          · have d3 : decide (n < -1099511627776) = true := decide_eq_true h2
            have HD : Hid (underB l cols = false) := underB_no HM.out (by rw [HU.out, decide_eq_false (show ¬ -1099511627776 ≤ n by omega), Bool.and_false])
            clear hr h1 h2
            go_wp2_with (go_at_call 13; refine HC.out.step (w0 := w) (B := w.heap.size) hb hB ?_; clear hb hB; intro w2 hb hB; have x2 := (hb.cell (p := ⟨b, off + k * 2 + 1, none⟩) HBL.out).trans HX2.out)
            go_ret
            exact ⟨ret_bool HD.out.symm, hb⟩
          · have d3 : decide (n < -1099511627776) = false := decide_eq_false h2
            have HY : Hid (∀ t ∈ l.take (k + 1), underT cols t = true) := fun t ht => by
              rw [HT.out] at ht
              rcases List.mem_append.1 ht with ht | ht
              · exact HS.out t ht
              · rw [List.mem_singleton.1 ht, HU.out, decide_eq_true hr, decide_eq_true (show n ≤ 1099511627776 by omega), decide_eq_true (show -1099511627776 ≤ n by omega)]; rfl
            clear hr h1 h2
            go_wp2_with (go_at_call 13; refine HC.out.step (w0 := w) (B := w.heap.size) hb hB ?_; clear hb hB; intro w2 hb hB; have x2 := (hb.cell (p := ⟨b, off + k * 2 + 1, none⟩) HBL.out).trans HX2.out)
            go_roundw
            case rel => exact ⟨k + 1, by omega, by go_num, HY, hb⟩
            case measure => simp [intOf]; omega
      · have d1 : (rn != 0) = true := by rw [bne_iff_ne]; exact hr
        have HD : Hid (underB l cols = false) := underB_no HM.out (by rw [HU.out, decide_eq_false hr, Bool.false_and, Bool.false_and])
        clear hr
        go_wp2_with (go_at_call 13; refine HC.out.step (w0 := w) (B := w.heap.size) hb hB ?_; clear hb hB; intro w2 hb hB; have x2 := (hb.cell (p := ⟨b, off + k * 2 + 1, none⟩) HBL.out).trans HX2.out)
        go_ret
        exact ⟨ret_bool HD.out.symm, hb⟩
    · obtain rfl : k = l.length := by omega
      rw [List.take_length] at HS
      have HD : Hid (underB l cols = decide (l.length ≤ 100)) := by
        show _ = _
        unfold underB
        rw [show l.all (underT cols) = true from List.all_eq_true.2 HS.out, Bool.true_and]
      go_wp2
      go_ret
      exact ⟨ret_bool (by rw [HD.out]; exact decide_eq_decide.2 (by omega)), hb⟩
end Go.Proofs.YtofepmdfciijeaaGreat
/- What is read of a block that rows make, under any columns; rows that stand under columns; no program. -/
namespace Go.Proofs.YtofepmdfciijeaaGreat
open Go Go.RowKit

/-- Are all cells of each column of its kind? -/
def kindsB (l : List Tm) (cols : List (Int × Bool)) : Bool := (List.range cols.length).all fun c => kindL (downL l c) (cols.getD c (0, false)).1 (cols.getD c (0, false)).2
/-- Is a block of so many columns one under columns? -/
def readB (l : List Tm) (K : Nat) (cols : List (Int × Bool)) : Bool := decide (cols.length = K) && kindsB l cols && goodB l
/-- How Rows ends: the rows, or none and ErrForm. -/
def ReadEnd (w : World) (ok : Bool) (l : List Tm) (e : Ending) (w' : World) : Prop :=
  ∃ v, e = .returned (.tuple #[v, .int .i64 (if ok = true then 0 else 2)]) ∧ TimesIn w' v (if ok = true then l else []) ∧ Below w.heap.size w w'
theorem fits_both (c : Int × Bool) (s : ByteArray) (h : fitsC c s = true) : fitsB s c.1 c.2 = true ∧ rightB s = true := by
  unfold fitsC at h
  unfold fitsB
  by_cases he : s.toList.isEmpty = true
  · rw [if_pos he] at h
    have e : s = ⟨#[]⟩ := by
      rw [ByteArray.toList_eq, List.isEmpty_iff] at he
      exact bytes_ext he
    rw [if_pos e]
    exact ⟨h, by rw [e]; exact right_empty⟩
  · rw [if_neg he] at h
    have e : ¬ s = ⟨#[]⟩ := fun e => he (by rw [e, empty_toList]; rfl)
    rw [if_neg e]
    exact ⟨h, (Bool.and_eq_true_iff.1 h).1⟩
theorem row_fits {cols : List (Int × Bool)} {r : List ByteArray} (h : rowN cols r = 0) : r.length = cols.length ∧ ∀ c (h1 : c < cols.length) (h2 : c < r.length), fitsC cols[c] r[c] = true := by
  unfold rowN at h
  by_cases hl : r.length = cols.length
  · rw [if_pos hl] at h
    refine ⟨hl, fun c h1 h2 => ?_⟩
    cases hf : fitsC cols[c] r[c] with
    | true => rfl
    | false =>
      rw [fitsL_no c h1 h2 hf] at h
      exact absurd h (by decide)
  · rw [if_neg hl] at h
    exact absurd h (by decide)
theorem under_facts {l : List Tm} {cols : List (Int × Bool)} (h : underB l cols = true) : l.length ≤ 100 ∧ RowsK l cols.length ∧ InR (l.map Prod.snd) ∧ ∀ c (hc : c < cols.length), kindL (downL l c) cols[c].1 cols[c].2 = true := by
  unfold underB at h
  obtain ⟨h1, h2⟩ := Bool.and_eq_true_iff.1 h
  have hl : l.length ≤ 100 := of_decide_eq_true h2
  rw [List.all_eq_true] at h1
  have each : ∀ t ∈ l, rowN cols t.1 = 0 ∧ t.2 ≤ 1099511627776 ∧ -1099511627776 ≤ t.2 := fun t ht => by
    have := h1 t ht
    unfold underT at this
    rw [Bool.and_eq_true, Bool.and_eq_true, decide_eq_true_eq, decide_eq_true_eq, decide_eq_true_eq] at this
    exact ⟨this.1.1, this.1.2, this.2⟩
  refine ⟨hl, fun t ht => ?_, fun n hn => ?_, fun c hc => ?_⟩
  · obtain ⟨e, hf⟩ := row_fits (each t ht).1
    refine ⟨e, fun s hs => ?_⟩
    obtain ⟨j, hj, rfl⟩ := List.mem_iff_getElem.1 hs
    exact (fits_both _ _ (hf j (by omega) hj)).2
  · obtain ⟨t, ht, rfl⟩ := List.mem_map.1 hn
    have := each t ht
    constructor <;> omega
  · unfold kindL
    rw [List.all_eq_true]
    intro s hs
    obtain ⟨t, ht, rfl⟩ := List.mem_map.1 hs
    obtain ⟨e, hf⟩ := row_fits (each t ht).1
    rw [List.getD_eq_getElem?_getD, List.getElem?_eq_getElem (by omega)]
    exact (fits_both _ _ (hf c hc (by omega))).1
theorem under_kinds {l : List Tm} {cols : List (Int × Bool)} (h : underB l cols = true) : kindsB l cols = true := by
  unfold kindsB
  rw [List.all_eq_true]
  intro c hc
  have hc' := List.mem_range.1 hc
  rw [List.getD_eq_getElem?_getD, List.getElem?_eq_getElem hc']
  exact (under_facts h).2.2.2 c hc'
theorem under_read {l : List Tm} {cols : List (Int × Bool)} (h : underB l cols = true) : readB l cols.length cols = goodB l := by
  unfold readB
  rw [under_kinds h, decide_eq_true rfl, Bool.and_true, Bool.true_and]
end Go.Proofs.YtofepmdfciijeaaGreat
namespace Go.Proofs.YtofepmdfciijeaaGreat
open Go Go.RowKit

def tA12 : ByteArray := ⟨#[116, 97]⟩
/-- The examples' rows. -/
def rowsE : List Tm := [([cellInt 1, ⟨#[]⟩], 2), ([cellInt 2, tA12], 1)]
def rowsX : List Tm := [([cellInt 2, tA12], 1), ([cellInt 1, ⟨#[]⟩], 2)]
def colsE : List (Int × Bool) := [(105, false), (116, true)]
def colsN : List (Int × Bool) := [(105, false), (116, false)]
theorem good_E : goodB rowsE = true := by decide +kernel
theorem good_X : goodB rowsX = false := by decide +kernel
theorem kinds_E : kindsB rowsE colsE = true := by decide +kernel
theorem kinds_N : kindsB rowsE colsN = false := by decide +kernel
theorem read_E : readB rowsE 2 colsE = true := by unfold readB; rw [good_E, kinds_E]; rfl
theorem read_1 : readB rowsE 2 [(105, false)] = false := by unfold readB; rfl
theorem read_X : readB rowsX 2 colsE = false := by unfold readB; rw [good_X, Bool.and_false]
theorem read_0 : readB [] 2 colsE = false := by unfold readB; rw [goodB_none, Bool.and_false]
theorem read_N : readB rowsE 2 colsN = false := by unfold readB; rw [kinds_N, Bool.and_false, Bool.false_and]
theorem rows_E : RowsK rowsE 2 := by
  intro t ht
  simp only [rowsE, List.mem_cons, List.not_mem_nil, or_false] at ht
  rcases ht with rfl | rfl
  · refine ⟨rfl, fun c hc => ?_⟩
    simp only [List.mem_cons, List.not_mem_nil, or_false] at hc
    rcases hc with rfl | rfl
    · exact cellInt_right 1
    · exact right_empty
  · refine ⟨rfl, fun c hc => ?_⟩
    simp only [List.mem_cons, List.not_mem_nil, or_false] at hc
    rcases hc with rfl | rfl
    · exact cellInt_right 2
    · decide +kernel
theorem rows_X : RowsK rowsX 2 := by
  intro t ht
  have : t ∈ rowsE := by
    simp only [rowsX, rowsE, List.mem_cons, List.not_mem_nil, or_false] at ht ⊢
    rcases ht with h | h
    · exact .inr h
    · exact .inl h
  exact rows_E t this
theorem rows_0 : RowsK [] 2 := fun t ht => absurd ht (by simp)
theorem in_E : InR (rowsE.map Prod.snd) := by
  intro n hn
  simp [rowsE] at hn
  rcases hn with rfl | rfl <;> decide
theorem in_X : InR (rowsX.map Prod.snd) := by
  intro n hn
  simp [rowsX] at hn
  rcases hn with rfl | rfl <;> decide
theorem sizes_of {l : List Tm} (h : RowsK l 2) : ∀ t ∈ l, 2 ≤ t.1.length ∧ ∀ c ∈ t.1, c.size ≤ 1000000 := fun t ht => by
  obtain ⟨e, hr⟩ := h t ht
  exact ⟨by omega, fun c hc => Nat.le_trans (rightB_size (hr c hc)) (by decide)⟩
end Go.Proofs.YtofepmdfciijeaaGreat
