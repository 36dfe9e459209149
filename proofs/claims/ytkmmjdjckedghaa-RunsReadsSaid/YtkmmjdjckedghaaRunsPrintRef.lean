/- The contract of the answer's Print of layer 4. -/
import Derived.Test.YtkmmjdjckedghaaRunsPrint
namespace Go.Proofs.Ytkmmjdjckedghaa
open Go Go.RowKit

theorem runB_takeB (rs : List (ByteArray × Nat)) (k : Nat) (h : k < rs.length) : mkB (runB (rs.take k)) ++ mkB (cellP rs[k].1) ++ printB rs[k].2 = mkB (runB (rs.take (k + 1))) := by
  apply bytes_ext
  rw [data_append, data_append, mkB_data, mkB_data, runB_take rs k h]; rfl

set_option maxHeartbeats 1000000 in
theorem ref_runs_print_calls {w : World} {v : Value} {l : List ByteArray} (h : StrsIn w v l) (hlen : l.length ≤ 1000000) (hs : ∀ c ∈ l, c.size ≤ 1000000) : GivesAt Try.prog 15 #[v] w (.string (mkB (runsP l))) := by
  have H1 := Lib.hid (ref_runs_calls h hlen)
  have hm := runsOf_mem l
  have hrl := runs_le l
  obtain ⟨A, cap, rfl, _⟩ := one_at h
  unfold runsP
  clear h
  generalize hrs : runsOf l = rs at *
  have HR : ∀ x ∈ rs, x.1.size ≤ 1000000 ∧ x.2 ≤ 1000000 := fun x hx => ⟨hs _ (hm x hx).1, Nat.le_trans (hm x hx).2 hlen⟩
  have hrl2 : rs.length ≤ 1000000 := by omega
  clear hm hrl hs hlen hrs
  unfold GivesAt
  go_enter Try.func15, Try.ntmps15
  go_wp2_with fail
  refine H1.out.mono ?_
  rintro e w1 ⟨c, n, rfl, ⟨hc, hn, _⟩, hb⟩
  have hc := hc.slice
  have hn := hn.slice
  obtain ⟨A1, cap1, rfl, hat1⟩ := one_at (f := fun x : ByteArray × Nat => Value.string x.1) (l := rs) hc
  obtain ⟨A2, cap2, rfl, hat2⟩ := one_at (f := fun x : ByteArray × Nat => Value.int .i64 x.2) (l := rs) hn
  clear hc hn
  go_wp2
  go_loopw [5, 6] (fun v i wr => ∃ (k : Nat), k ≤ rs.length ∧ i = .int .i64 k ∧ v = .string (mkB (runB (rs.take k))) ∧ Below w1.heap.size w1 wr) (fun _ i _ => rs.length - (intOf i).toNat)
  case atStart => exact ⟨0, by omega, rfl, rfl, .refl _ _⟩
  case round =>
    obtain ⟨k, hk, rfl, rfl, hb1⟩ := hrel
    by_cases hlt : k < rs.length
    · obtain ⟨b, off, rfl, hbl, hcc⟩ := hat1 k hlt
      obtain ⟨b2, off2, rfl, hbl2, hcn⟩ := hat2 k hlt
      have hx1 := (hb1.cell (p := ⟨b, off + k, none⟩) hbl).trans (hcc k hlt)
      have hx2 := (hb1.cell (p := ⟨b2, off2 + k, none⟩) hbl2).trans (hcn k hlt)
      have k1 := fun d os => cell_regrown hx1 d os
      have k2 := fun d os => cell_regrown hx2 d os
      have hsz := runB_size (rs.take k) (fun x hx => HR x (List.mem_of_mem_take hx))
      rw [List.length_take] at hsz
      have hsz2 : (mkB (runB (rs.take k))).size ≤ 1000020000000 := by rw [mkB_size]; omega
      have HT := Lib.hid (runB_takeB rs k hlt)
      obtain ⟨hr1, hr2⟩ := HR _ (List.getElem_mem hlt)
      have hw2 : IntKind.u64.wrap (rs[k].2 : Int) = (rs[k].2 : Int) := wrap_lt _ (by omega)
      have p1 := Lib.hid (ref_runs_cell_calls rs[k].1 (by omega))
      have p2 := Lib.hid (ref_print_calls rs[k].2 (by omega))
      have z1 : (mkB (cellP rs[k].1)).size ≤ 1000010 := by rw [mkB_size]; have := (cellP_length rs[k].1).resolve_right (by omega); omega
      have z2 : (printB rs[k].2).size ≤ 10 := by rw [print_len]; exact vp_len_10 (by omega)
      generalize mkB (cellP rs[k].1) = X at *
      generalize printB rs[k].2 = Y at *
      generalize mkB (runB (rs.take k)) = L at *
      generalize rs[k].1 = c at *
      generalize rs[k].2 = m at *
      have hB1 := hb1.size
      have t1 : ¬ 9223372036854775807 < L.size + X.size := by omega
      have t2 : ¬ 9223372036854775807 < L.size + X.size + Y.size := by omega
      have t3 : ¬ 9223372036854775807 < L.size + (X.size + Y.size) := by omega
      clear hsz hcc hcn hx1 hx2 hr1 hr2 hsz2 z1 z2
      go_wp2_with fail
      refine wp_region_quiet_below (by kernel_rfl) (by kernel_rfl) ?_
      repeat (first | go_big_quiet_skip | (go_big_quiet_want; go_big_quiet_op; first | go_big_quiet_on | (apply Exists.intro; refine ⟨fun _ => ?_, ?_⟩; (first | (go_at_call 13; exact Calls.regrown_of (p1.out _)) | (go_at_call 24; exact Calls.regrown_of (p2.out _))); go_big_quiet_on)))
      refine wpQuiet_nil ?_
      rintro w3 ⟨p, hw3⟩
      have hb : Below wr.heap.size wr w3 := hw3 ▸ below_regrown wr p.d p.os
      clear hw3 k1 k2
      go_wp2
      go_roundw
      case rel => exact ⟨k + 1, by omega, by go_num, by rw [HT.out], hb1.trans (hb.mono hB1)⟩
      case measure => simp [intOf]; omega
    · obtain rfl : k = rs.length := by omega
      rw [List.take_length]
      go_wp2
      go_ret
      exact ⟨rfl, hb.trans (hb1.mono hb.size)⟩
end Go.Proofs.Ytkmmjdjckedghaa
