/- The contracts of layer 9's Fits and Row. -/
import Derived.Test.YtilnioloeijfhaaShapeCols
import Derived.Test.YtilnioloeijfhaaAside
namespace Go.Proofs.Ytilnioloeijfhaa
open Go Go.RowKit

set_option maxHeartbeats 1000000 in
theorem shape_fits_calls (c : Int × Bool) (s : ByteArray) : Gives Try.prog 16 #[colA c, .string s] (.bool (fitsC c s)) := by
  obtain ⟨kd, nl⟩ := c
  intro w
  obtain ⟨hb, hB⟩ := start w
  unfold colA
  cases he : s.toList.isEmpty with
  | true =>
    have HR := Lib.hid (show fitsC (kd, nl) s = nl by unfold fitsC; rw [he]; rfl)
    have g1 : (s.toList == []) = true := by rw [beq_iff_eq]; exact List.isEmpty_iff.1 he
    go_enter Try.func16, Try.ntmps16
    go_wp2
    go_ret
    exact ⟨ret_bool HR.out.symm, by go_grown⟩
  | false =>
    have HR := Lib.hid (show fitsC (kd, nl) s = (rightB s && (kindI s == kd)) by unfold fitsC; rw [he]; rfl)
    have hc0 : (w.alloc (.cells #[.int .u8 kd, .bool nl] 35)).cell? ⟨w.heap.size, 0, none⟩ = some (.int .u8 kd) := by simp [go_sem]
    have hb1 : Below w.heap.size w (w.alloc (.cells #[.int .u8 kd, .bool nl] 35)) := (below_alloc hb hB _).1
    have HN := Lib.hid (right_calls s)
    have HK := Lib.hid (kind_calls s)
    cases hr : rightB s with
    | true =>
      rw [hr] at HN HR
      clear hr
      go_enter Try.func16, Try.ntmps16
      go_wp2
      generalize hW : w.alloc (.cells #[.int .u8 kd, .bool nl] 35) = w1 at *
      clear hW hb hB
      have hb := hb1
      clear hb1
      have a0 := fun d os => cell_regrown hc0 d os
      refine wp_region_quiet_below (by kernel_rfl) (by kernel_rfl) ?_
      repeat (first | go_big_quiet_skip | (go_big_quiet_want; go_big_quiet_op; first | go_big_quiet_on | (apply Exists.intro; refine ⟨fun _ => ?_, ?_⟩; (first | (go_at_call 19; exact Calls.regrown_of (HN.out _)) | (go_at_call 20; exact Calls.regrown_of (HK.out _))); go_big_quiet_on)))
      refine wpQuiet_nil ?_
      rintro w3 ⟨p, hw3⟩
      have hb2 : Below w1.heap.size w1 w3 := hw3 ▸ below_regrown w1 p.d p.os
      clear hw3
      go_wp2
      go_ret
      exact ⟨ret_bool HR.out.symm, hb.trans (hb2.mono hb.size)⟩
    | false =>
      rw [hr] at HN HR
      clear hr
      go_enter Try.func16, Try.ntmps16
      go_wp2
      generalize hW : w.alloc (.cells #[.int .u8 kd, .bool nl] 35) = w1 at *
      clear hW hb hB
      have hb := hb1
      clear hb1
      have a0 := fun d os => cell_regrown hc0 d os
      refine wp_region_quiet_below (by kernel_rfl) (by kernel_rfl) ?_
      repeat (first | go_big_quiet_skip | (go_big_quiet_want; go_big_quiet_op; first | go_big_quiet_on | (apply Exists.intro; refine ⟨fun _ => ?_, ?_⟩; (first | (go_at_call 19; exact Calls.regrown_of (HN.out _)) | (go_at_call 20; exact Calls.regrown_of (HK.out _))); go_big_quiet_on)))
      refine wpQuiet_nil ?_
      rintro w3 ⟨p, hw3⟩
      have hb2 : Below w1.heap.size w1 w3 := hw3 ▸ below_regrown w1 p.d p.os
      clear hw3
      go_wp2
      go_ret
      exact ⟨ret_bool HR.out.symm, hb.trans (hb2.mono hb.size)⟩

theorem zip_take (l : List (Int × Bool)) (r : List ByteArray) (k : Nat) (h1 : k < l.length) (h2 : k < r.length) : (l.take (k + 1)).zip (r.take (k + 1)) = (l.take k).zip (r.take k) ++ [(l[k], r[k])] := by
  rw [take_add l k h1, take_add r k h2, List.zip_append (by rw [List.length_take, List.length_take]; omega)]; rfl
theorem fitsL_no {l : List (Int × Bool)} {r : List ByteArray} (k : Nat) (h1 : k < l.length) (h2 : k < r.length) (h : fitsC l[k] r[k] = false) : fitsL l r = false := by
  cases ha : fitsL l r with
  | false => rfl
  | true =>
    unfold fitsL at ha
    rw [List.all_eq_true] at ha
    have hm : (l[k], r[k]) ∈ l.zip r := by
      refine List.mem_iff_getElem.2 ⟨k, by rw [List.length_zip]; omega, ?_⟩
      rw [List.getElem_zip]
    rw [ha _ hm] at h
    exact absurd h (by decide)

set_option maxHeartbeats 1000000 in
theorem shape_row_calls {w : World} {v u : Value} {l : List (Int × Bool)} {r : List ByteArray} (h : ColsIn w v l) (hr : StrsIn w u r) : GivesAt Try.prog 15 #[v, u] w (.int .i64 (rowN l r)) := by
  have hm := h.len
  unfold maxLen at hm
  obtain ⟨hb, hB⟩ := start w
  obtain ⟨A, cap, rfl, hat⟩ := cols_at h
  obtain ⟨A2, cap2, rfl, hat2⟩ := one_at hr
  have HAT := Lib.hid hat
  have HAT2 := Lib.hid hat2
  clear h hat hr hat2
  unfold GivesAt
  by_cases hl : r.length = l.length
  · have HL := Lib.hid hl
    have d1 : ((r.length : Int) == (l.length : Int)) = true := by rw [beq_iff_eq]; omega
    have hle : l.length ≤ r.length := by omega
    go_enter Try.func15, Try.ntmps15
    rw [hl] at d1 ⊢
    clear hl
    go_wp2
    go_loopw [14] (fun i wr => ∃ k : Nat, k ≤ l.length ∧ i = .int .i64 k ∧ Hid (((l.take k).zip (r.take k)).all (fun p => fitsC p.1 p.2) = true) ∧ Below w.heap.size w wr) (fun i _ => l.length - (intOf i).toNat)
    case atStart => exact ⟨0, Nat.zero_le _, rfl, rfl, hb⟩
    case round =>
      clear hb hB
      obtain ⟨k, hk, rfl, HS, hb⟩ := hrel
      have hB := hb.size
      by_cases hlt : k < l.length
      · have hlt2 : k < r.length := by omega
        obtain ⟨b, off, rfl, hbl, hc⟩ := HAT.out k hlt
        obtain ⟨b2, off2, rfl, hbl2, hc2⟩ := HAT2.out k hlt2
        have hx1 := (hb.cell (p := ⟨b, off + k * 2, none⟩) hbl).trans (hc k hlt).1
        have hx2 := (hb.cell (p := ⟨b, off + k * 2 + 1, none⟩) hbl).trans (hc k hlt).2
        have hx3 := (hb.cell (p := ⟨b2, off2 + k, none⟩) hbl2).trans (hc2 k hlt2)
        have HZ := Lib.hid (zip_take l r k hlt hlt2)
        have HNO := Lib.hid (fitsL_no k hlt hlt2)
        clear hc hc2
        generalize l[k] = c at *
        generalize r[k] = s at *
        obtain ⟨kd, nl⟩ := c
        have HN := Lib.hid (shape_fits_calls (kd, nl) s)
        have hcb := (below_alloc hb hB (.cells #[.int .u8 kd, .bool nl] 35)).1
        have hc0 : (wr.alloc (.cells #[.int .u8 kd, .bool nl] 35)).cell? ⟨wr.heap.size, 0, none⟩ = some (.int .u8 kd) := by simp [go_sem]
        have hc1 : (wr.alloc (.cells #[.int .u8 kd, .bool nl] 35)).cell? ⟨wr.heap.size, 1, none⟩ = some (.bool nl) := by simp [go_sem]
        have hc2 : (wr.alloc (.cells #[.int .u8 kd, .bool nl] 35)).cell? ⟨b2, off2 + k, none⟩ = some (.string s) := cell_kept hx3 ((Below.refl _ wr).alloc (Nat.le_refl _) _)
        cases hi : fitsC (kd, nl) s with
        | true =>
          rw [hi] at HN
          have HI : Hid (((l.take (k + 1)).zip (r.take (k + 1))).all (fun p => fitsC p.1 p.2) = true) := by
            show _ = _
            rw [HZ.out, List.all_append, HS.out, List.all_cons, hi]; rfl
          clear hi HNO HZ
          go_wp2
          generalize hW : wr.alloc (.cells #[.int .u8 kd, .bool nl] 35) = w1 at *
          clear hW hb hB hx1 hx2 hx3
          have hb := hcb
          clear hcb
          have a0 := fun d os => cell_regrown hc0 d os
          have a1 := fun d os => cell_regrown hc1 d os
          have a2 := fun d os => cell_regrown hc2 d os
          clear hc0 hc1 hc2
          refine wp_region_quiet_below (by kernel_rfl) (by kernel_rfl) ?_
          repeat (first | go_big_quiet_skip | (go_big_quiet_want; go_big_quiet_op; first | go_big_quiet_on | (apply Exists.intro; refine ⟨fun _ => ?_, ?_⟩; (first | (go_at_call 16; exact Calls.regrown_of (HN.out _))); go_big_quiet_on)))
          refine wpQuiet_nil ?_
          rintro w3 ⟨p, hw3⟩
          have hb2 : Below w1.heap.size w1 w3 := hw3 ▸ below_regrown w1 p.d p.os
          clear hw3 a0 a1 a2
          replace hb := hb.trans (hb2.mono hb.size)
          clear hb2
          go_wp2
          go_roundw
          case rel => exact ⟨k + 1, by omega, by go_num, HI, hb⟩
          case measure => simp [intOf]; omega
        | false =>
          rw [hi] at HN
          have HI : Hid (rowN l r = 5) := by
            show _ = _
            unfold rowN
            rw [if_pos HL.out, HNO.out hi]; rfl
          clear hi HNO HZ
          go_wp2
          generalize hW : wr.alloc (.cells #[.int .u8 kd, .bool nl] 35) = w1 at *
          clear hW hb hB hx1 hx2 hx3
          have hb := hcb
          clear hcb
          have a0 := fun d os => cell_regrown hc0 d os
          have a1 := fun d os => cell_regrown hc1 d os
          have a2 := fun d os => cell_regrown hc2 d os
          clear hc0 hc1 hc2
          refine wp_region_quiet_below (by kernel_rfl) (by kernel_rfl) ?_
          repeat (first | go_big_quiet_skip | (go_big_quiet_want; go_big_quiet_op; first | go_big_quiet_on | (apply Exists.intro; refine ⟨fun _ => ?_, ?_⟩; (first | (go_at_call 16; exact Calls.regrown_of (HN.out _))); go_big_quiet_on)))
          refine wpQuiet_nil ?_
          rintro w3 ⟨p, hw3⟩
          have hb2 : Below w1.heap.size w1 w3 := hw3 ▸ below_regrown w1 p.d p.os
          clear hw3 a0 a1 a2
          replace hb := hb.trans (hb2.mono hb.size)
          clear hb2
          go_wp2
          go_ret
          exact ⟨ret_int HI.out.symm, hb⟩
      · obtain rfl : k = l.length := by omega
        have HI : Hid (rowN l r = 0) := by
          show _ = _
          have := HS.out
          rw [List.take_length, List.take_of_length_le (by have := HL.out; omega)] at this
          unfold rowN fitsL
          rw [if_pos HL.out, this]; rfl
        go_wp2
        go_ret
        exact ⟨ret_int HI.out.symm, hb⟩
  · have d1 : ((r.length : Int) == (l.length : Int)) = false := by rw [beq_eq_false_iff_ne]; omega
    have HD := Lib.hid (show rowN l r = 1 from if_neg hl)
    go_enter Try.func15, Try.ntmps15
    go_wp2
    go_ret
    exact ⟨ret_int HD.out.symm, hb⟩
end Go.Proofs.Ytilnioloeijfhaa
