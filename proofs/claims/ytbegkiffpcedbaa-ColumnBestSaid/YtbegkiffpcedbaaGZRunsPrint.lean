/- The contracts of layer 4's Print, and of its answer's. -/
import Derived.Test.YtbegkiffpcedbaaGStrs
import Derived.Test.YtbegkiffpcedbaaGRuns
import Derived.Test.YtbegkiffpcedbaaGZRunsWalkB
namespace Go.Proofs.Ytbegkiffpcedbaa
open Go Go.RowKit

theorem runB_size (rs : List (ByteArray × Nat)) (h : ∀ x ∈ rs, x.1.size ≤ 1000000 ∧ x.2 ≤ 1000000) : (runB rs).length ≤ 1000020 * rs.length := by
  induction rs with
  | nil => simp [runB]
  | cons x rs ih =>
    have h1 := h x List.mem_cons_self
    have ih := ih (fun y hy => h y (List.mem_cons_of_mem _ hy))
    rw [runB_cons, List.length_append, List.length_append, List.length_cons]
    have h2 := (cellP_length x.1).resolve_right (by omega)
    have h3 : (vp x.2).length ≤ 10 := vp_len_10 (by omega)
    omega
theorem runB_take (rs : List (ByteArray × Nat)) (k : Nat) (h : k < rs.length) : runB (rs.take (k + 1)) = runB (rs.take k) ++ (mkB (cellP rs[k].1)).data.toList ++ (printB rs[k].2).data.toList := by
  rw [List.take_add_one, List.getElem?_eq_getElem h, runB_append, List.append_assoc]
  congr 1
  rw [mkB_data, print_data]
  simp [runB]
theorem runsOf_mem (l : List ByteArray) (x : ByteArray × Nat) (h : x ∈ runsOf l) : x.1 ∈ l ∧ x.2 ≤ l.length := by
  obtain ⟨g, e⟩ := runsOf_good l
  refine ⟨?_, ?_⟩
  · have := mem_spread g x h; rwa [e] at this
  · have := many_le x h; rwa [many_runsOf] at this

set_option maxHeartbeats 1000000 in
theorem runs_print_calls {w : World} {v : Value} {l : List ByteArray} (h : StrsIn w v l) (hlen : l.length ≤ 1000000) (hs : ∀ c ∈ l, c.size ≤ 1000000) : GivesAt Try.prog 27 #[v] w (.string (mkB (runsP l))) := by
  obtain ⟨i0, hi, hz0, hz1, hz2⟩ := info_parts Try.infoB5
  have H1 := Lib.hid (runs_calls h hlen)
  have hm := runsOf_mem l
  have hrl := runs_le l
  obtain ⟨A, cap, rfl, _⟩ := one_at h
  unfold runsP
  clear h
  generalize hrs : runsOf l = rs at *
  have HR : ∀ x ∈ rs, x.1.size ≤ 1000000 ∧ x.2 ≤ 1000000 := fun x hx => ⟨hs _ (hm x hx).1, Nat.le_trans (hm x hx).2 hlen⟩
  have hrl2 : rs.length ≤ 1000000 := by omega
  clear hm hrl hs hlen hrs
  unfold GivesAt
  go_enter Try.func27, Try.ntmps27
  go_wp2_with fail
  refine H1.out.mono ?_
  rintro e w1 ⟨c, n, rfl, ⟨hc, hn, _⟩, hb⟩
  have hc := hc.slice
  have hn := hn.slice
  obtain ⟨A1, cap1, rfl, hat1⟩ := one_at (f := fun x : ByteArray × Nat => Value.string x.1) (l := rs) hc
  obtain ⟨A2, cap2, rfl, hat2⟩ := one_at (f := fun x : ByteArray × Nat => Value.int .i64 x.2) (l := rs) hn
  clear hc hn
  go_wp2
  go_loopw [3, 15] (fun v i wr => ∃ (k : Nat), k ≤ rs.length ∧ i = .int .i64 k ∧ RowB wr w1.heap.size 5 v (runB (rs.take k)) ∧ Below w1.heap.size w1 wr) (fun _ i _ => rs.length - (intOf i).toNat)
  case atStart => exact ⟨0, by omega, rfl, World.ownsRow_nil _ _ _ _, .refl _ _⟩
  case round =>
    obtain ⟨k, hk, rfl, hrow, hb1⟩ := hrel
    by_cases hlt : k < rs.length
    · obtain ⟨b, off, rfl, hbl, hcc⟩ := hat1 k hlt
      obtain ⟨b2, off2, rfl, hbl2, hcn⟩ := hat2 k hlt
      have hx1 := (hb1.cell (p := ⟨b, off + k, none⟩) hbl).trans (hcc k hlt)
      have hsz := runB_size (rs.take k) (fun x hx => HR x (List.mem_of_mem_take hx))
      rw [List.length_take] at hsz
      have hsz2 : (runB (rs.take k)).length ≤ 1000020000000 := by omega
      have HT := Lib.hid (runB_take rs k hlt)
      obtain ⟨hr1, hr2⟩ := HR _ (List.getElem_mem hlt)
      have hw2 : IntKind.u64.wrap (rs[k].2 : Int) = (rs[k].2 : Int) := wrap_lt _ (by omega)
      have p1 := Lib.hid (runs_cell_calls rs[k].1 (by omega))
      have p2 := Lib.hid (print_calls rs[k].2 (by omega))
      have z1 : (mkB (cellP rs[k].1)).size ≤ 1000010 := by rw [mkB_size]; have := (cellP_length rs[k].1).resolve_right (by omega); omega
      have z2 : (printB rs[k].2).size ≤ 10 := by rw [print_len]; exact vp_len_10 (by omega)
      generalize hW : runB (rs.take k) = L at *
      have hB1 := hb1.size
      clear hsz hcc hW
      obtain ⟨_, _, rfl⟩ := (hrow.own (by unfold maxLen; omega)).len
      go_wp2_with (first | (go_at_call 39; refine p1.out.stepB (w0 := wr) (B := wr.heap.size) (.refl _ _) (Nat.le_refl _) ?_; intro w2 _ _ hq; replace hrow := RowB.later hrow hq; replace hb1 := hb1.trans (hq.mono hB1); replace hB1 := Nat.le_trans hB1 hq.size; clear hx1 hq) | (at_builtin; refine Lib.wpList_append_own_string _ rfl _ _ 56 9 rfl w1.heap.size 5 i0 Try.underlying56 Try.underlying9 hi hz0 hz1 hz2 _ _ _ rfl hrow (mkB (cellP rs[k].1)) rfl ?c1 ?c2 hB1 ?_))
      case c1 => unfold maxLen; omega
      case c2 => omega
      intro v3 w3 hrow3 hg3 _
      have hb3 := hb1.grown hg3 hB1 (fun k hk => (hrow.lt k hk).1)
      have hB3 := hb3.size
      replace hrow3 := RowB.step hrow3 rfl rfl
      have hx2 := (hb3.cell (p := ⟨b2, off2 + k, none⟩) hbl2).trans (hcn k hlt)
      have hl3 : (L ++ (mkB (cellP rs[k].1)).data.toList).length ≤ 1000021000010 := by rw [List.length_append, data_size]; omega
      clear hrow hb1 hB1 hg3 hcn
      generalize hW : L ++ (mkB (cellP rs[k].1)).data.toList = L2 at *
      obtain ⟨_, _, rfl⟩ := (hrow3.own (by unfold maxLen; omega)).len
      go_wp2_with (first | (go_at_call 25; refine p2.out.stepB (w0 := w3) (B := w3.heap.size) (.refl _ _) (Nat.le_refl _) ?_; intro w4 _ _ hq; replace hrow3 := RowB.later hrow3 hq; replace hb3 := hb3.trans (hq.mono hB3); replace hB3 := Nat.le_trans hB3 hq.size; clear hx2 hq) | (at_builtin; refine Lib.wpList_append_own_string _ rfl _ _ 56 9 rfl w1.heap.size 5 i0 Try.underlying56 Try.underlying9 hi hz0 hz1 hz2 _ _ _ rfl hrow3 (printB rs[k].2) rfl ?c1 ?c2 hB3 ?_))
      case c1 => unfold maxLen; omega
      case c2 => omega
      intro v5 w5 hrow5 hg5 _
      have hb5 := hb3.grown hg5 hB3 (fun k hk => (hrow3.lt k hk).1)
      have HO := Lib.hid (RowB.step hrow5 HT.out rfl)
      clear hrow3 hb3 hB3 hg5 hrow5
      go_wp2
      go_roundw
      case rel => exact ⟨k + 1, by omega, by go_num, HO.out, hb5⟩
      case measure => simp [intOf]; omega
    · obtain rfl : k = rs.length := by omega
      rw [List.take_length] at hrow
      have hsz := runB_size rs HR
      have hconv := run_string_own (hrow.own (by unfold maxLen; omega)) 56 9 5 Try.underlying56 Try.underlying5 Try.underlying9
      obtain ⟨_, _, rfl⟩ := (hrow.own (by unfold maxLen; omega)).len
      clear hrow
      go_wp2
      go_ret
      exact ⟨ret_str rfl, hb.trans (hb1.mono hb.size)⟩
end Go.Proofs.Ytbegkiffpcedbaa
