/- The contract of layer 6's Print. -/
import Derived.Test.YtbpigfpkcflbkaaStepsMay
import Derived.Test.YtbpigfpkcflbkaaRowBytes
namespace Go.Proofs.Ytbpigfpkcflbkaa
open Go Go.RowKit

theorem stepsB_size : ∀ (p : Int) (l : List Int), (stepsB p l).length ≤ 10 * l.length
  | _, [] => Nat.le_refl _
  | p, x :: l => by
    have h1 := stepsB_size x l
    have h2 := vp_len_10 (stepN_lt p x)
    show (vp (stepN p x) ++ stepsB x l).length ≤ 10 * (l.length + 1)
    rw [List.length_append]
    omega
theorem steps_step (l : List Int) (k : Nat) (h : k < l.length) : stepsP (l.take (k + 1)) = stepsP (l.take k) ++ (printB (stepN (lastI 0 (l.take k)) l[k])).data.toList ∧ lastI 0 (l.take (k + 1)) = l[k] := by
  rw [take_add l k h]
  refine ⟨?_, lastI_snoc _ _ _⟩
  unfold stepsP
  rw [stepsB_snoc, print_data]
theorem lastI_range {l : List Int} (h : InR l) : -9223372036854775808 ≤ lastI 0 l ∧ lastI 0 l ≤ 9223372036854775807 := by
  unfold lastI
  cases hl : l.getLast? with
  | none => exact ⟨by decide, by decide⟩
  | some x => exact h x (List.mem_of_getLast? hl)
theorem inR_take {l : List Int} (h : InR l) (k : Nat) : InR (l.take k) := fun x hx => h x (List.mem_of_mem_take hx)
theorem numsL_get (l : List ByteArray) (k : Nat) (h : k < l.length) : (numsL l)[k]? = some (numOf l[k]) := by unfold numsL; rw [List.getElem?_map, List.getElem?_eq_getElem h]; rfl
def stepsT (l : List Int) : ByteArray := mkB (stepsP l)
/-- What Print gives of any cells. -/
def stepsG (l : List ByteArray) : ByteArray := if mayL l then stepsT (numsL l) else ⟨#[]⟩
theorem stepN_nat (p x : Int) : ((stepN p x : Nat) : Int) = foldI (wrap64 (x - p)) := by
  have := (foldI_range _ (wrap64_range (x - p)).1 (wrap64_range (x - p)).2).1
  unfold stepN; omega
theorem fold_step (p x : Int) (w : World) : Calls Try.prog 23 #[.int .i64 (wrap64 (x - p))] w fun e w' => e = .returned (.int .u64 (stepN p x)) ∧ w = w' := by
  rw [stepN_nat]
  exact fold_calls _ (wrap64_range _).1 (wrap64_range _).2 w
theorem ref_fold_step (p x : Int) (w : World) : Calls Try.prog 25 #[.int .i64 (wrap64 (x - p))] w fun e w' => e = .returned (.int .u64 (stepN p x)) ∧ w = w' := by
  rw [stepN_nat]
  exact ref_fold_calls _ (wrap64_range _).1 (wrap64_range _).2 w

set_option maxHeartbeats 1000000 in
set_option maxRecDepth 100000 in
theorem steps_print_calls {w : World} {v : Value} {l : List ByteArray} (h : StrsIn w v l) (hlen : l.length ≤ 1000000) : GivesAt Try.prog 12 #[v] w (.string (stepsG l)) := by
  obtain ⟨i0, hi, hz0, hz1, hz2⟩ := info_parts Try.infoB5
  obtain ⟨hb, hB⟩ := start w
  have H1 := Lib.hid (may_calls h)
  obtain ⟨A, cap, rfl, hat⟩ := one_at h
  have HAT := Lib.hid hat
  clear h hat
  unfold GivesAt
  cases hm : mayL l with
  | false =>
    have HG := Lib.hid (show stepsG l = ⟨#[]⟩ by unfold stepsG; rw [hm]; rfl)
    rw [hm] at H1
    clear hm
    go_enter Try.func12, Try.ntmps12
    go_wp2_with (go_at_call 10; refine H1.out.step (w0 := w) (B := w.heap.size) hb hB ?_; clear hb hB; intro w' hb hB)
    go_ret
    exact ⟨ret_str HG.out.symm, hb⟩
  | true =>
    have HG := Lib.hid (show stepsG l = mkB (stepsP (numsL l)) by unfold stepsG; rw [hm]; rfl)
    rw [hm] at H1
    have HA := Lib.hid (mayL_of hm)
    have HR := Lib.hid (numsL_range l)
    have HL := Lib.hid (numsL_length l)
    have HGET := Lib.hid (numsL_get l)
    generalize numsL l = ns at *
    clear hm
    go_enter Try.func12, Try.ntmps12
    go_wp2_with (go_at_call 10; refine H1.out.step (w0 := w) (B := w.heap.size) hb hB ?_; clear hb hB; intro w1 hb hB)
    go_loopw [3, 4, 14] (fun v p i wr => ∃ (k : Nat), k ≤ l.length ∧ i = .int .i64 k ∧ p = .int .i64 (lastI 0 (ns.take k)) ∧ RowB wr w.heap.size 5 v (stepsP (ns.take k)) ∧ Below w.heap.size w wr) (fun _ _ i _ => l.length - (intOf i).toNat)
    case atStart => exact ⟨0, by omega, rfl, rfl, World.ownsRow_nil _ _ _ _, hb⟩
    case round =>
      clear hb hB
      obtain ⟨k, hk, rfl, rfl, hrow, hb⟩ := hrel
      have hB := hb.size
      by_cases hlt : k < l.length
      · obtain ⟨b, off, rfl, hbl, hc⟩ := HAT.out k hlt
        have hx := (hb.cell (p := ⟨b, off + k, none⟩) hbl).trans (hc k hlt)
        obtain ⟨hkn, hge⟩ := List.getElem?_eq_some_iff.1 (HGET.out k hlt)
        have hS := steps_step ns k hkn
        have hsz := stepsB_size 0 (ns.take k)
        rw [List.length_take] at hsz
        have hszz : (stepsP (ns.take k)).length ≤ 10000000 := by show (stepsB 0 (ns.take k)).length ≤ _; omega
        have HN := Lib.hid (num_yes l[k] (HA.out _ (List.getElem_mem hlt)))
        rw [← hge] at HN
        have p1 := Lib.hid (fold_step (lastI 0 (ns.take k)) ns[k])
        have p2 := Lib.hid (print_calls (stepN (lastI 0 (ns.take k)) ns[k]) (stepN_lt _ _))
        have z2 : (printB (stepN (lastI 0 (ns.take k)) ns[k])).size ≤ 10 := by rw [print_len]; exact vp_len_10 (stepN_lt _ _)
        have hwr : IntKind.i64.wrap (ns[k] - lastI 0 (ns.take k)) = wrap64 (ns[k] - lastI 0 (ns.take k)) := by unfold wrap64; rw [IntKind.wrap_i64]
        have HS1 := Lib.hid hS.1
        have HS2 := Lib.hid hS.2
        clear hc hS hsz hge
        generalize ns[k] = x at *
        generalize stepsP (ns.take k) = L at *
        generalize lastI 0 (ns.take k) = p at *
        generalize stepN p x = q at *
        generalize l[k] = c at *
        obtain ⟨_, _, rfl⟩ := (hrow.own (by unfold maxLen; omega)).len
        go_wp2_with (first | (go_at_call 20; refine HN.out.stepB (w0 := wr) (B := wr.heap.size) (.refl _ _) (Nat.le_refl _) ?_; intro w2 _ _ hq; replace hrow := RowB.later hrow hq; replace hb := hb.trans (hq.mono hB); replace hB := Nat.le_trans hB hq.size; clear hx hq) | (go_at_call 23; refine (p1.out _).mono ?_; rintro e w' ⟨rfl, rfl⟩) | (go_at_call 22; refine p2.out.stepB (w0 := w2) (B := w2.heap.size) (.refl _ _) (Nat.le_refl _) ?_; intro w4 _ _ hq; replace hrow := RowB.later hrow hq; replace hb := hb.trans (hq.mono hB); replace hB := Nat.le_trans hB hq.size; clear hq) | (at_builtin; refine Lib.wpList_append_own_string _ rfl _ _ 43 9 rfl w.heap.size 5 i0 Try.underlying43 Try.underlying9 hi hz0 hz1 hz2 _ _ _ rfl hrow (printB q) rfl ?c1 ?c2 hB ?_))
        case c1 => unfold maxLen; omega
        case c2 => omega
        intro v5 w5 hrow5 hg5 _
        have hb5 := hb.grown hg5 hB (fun k hk => (hrow.lt k hk).1)
        have HO := Lib.hid (RowB.step hrow5 HS1.out rfl)
        clear hrow hb hB hg5 hrow5
        go_wp2
        go_roundw
        case rel => exact ⟨k + 1, by omega, by go_num, by rw [HS2.out], HO.out, hb5⟩
        case measure => simp [intOf]; omega
      · obtain rfl : k = l.length := by omega
        have hsz := stepsB_size 0 ns
        have hln := HL.out
        rw [List.take_of_length_le (by omega)] at hrow
        have hszz : (stepsP ns).length ≤ 10000000 := by show (stepsB 0 ns).length ≤ _; omega
        have hconv := run_string_own (hrow.own (by unfold maxLen; omega)) 43 9 5 Try.underlying43 Try.underlying5 Try.underlying9
        obtain ⟨_, _, rfl⟩ := (hrow.own (by unfold maxLen; omega)).len
        clear hrow hsz hln
        go_wp2
        go_ret
        exact ⟨ret_str HG.out.symm, hb⟩
end Go.Proofs.Ytbpigfpkcflbkaa
