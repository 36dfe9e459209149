/- Layer 15's laws: great, small. -/
import Derived.Test.YtppmmkmlngmafaaTermParts
import Derived.Test.YtppmmkmlngmafaaTermKit
import Derived.Test.YtppmmkmlngmafaaTermOwn
namespace Go.Proofs.Ytppmmkmlngmafaa
open Go Go.RowKit

def smallS (l : List ByteArray) : Bool := l.all (fun c => decide (c.size ≤ 100)) && decide (l.length ≤ 20)
theorem small15_calls {w : World} {v : Value} {l : List ByteArray} (h : StrsIn w v l) : Reads Try.prog 9 #[v] w (.bool (smallS l)) := by
  have hm := h.len
  unfold maxLen at hm
  obtain ⟨A, cap, rfl, hat⟩ := one_at h
  have HAT := Lib.hid hat
  clear hat h
  unfold Reads
  go_enter Try.func9, Try.ntmps9
  go_wp2
  go_loop [3] (fun i => ∃ k : Nat, k ≤ l.length ∧ i = .int .i64 k ∧ Hid (∀ c ∈ l.take k, c.size ≤ 100)) (fun i => l.length - (intOf i).toNat)
  case atStart => exact ⟨0, Nat.zero_le _, rfl, by rw [List.take_zero]; exact fun c hc => absurd hc (by simp)⟩
  case round =>
    obtain ⟨k, hk, rfl, HS⟩ := hrel
    by_cases hlt : k < l.length
    · obtain ⟨b, off, ea, hbl, hc⟩ := HAT.out k hlt
      subst ea
      have x1 := hc k hlt
      have i0 : (0 : Int) ≤ (k : Int) := by omega
      have i1 : (k : Int) < (l.length : Int) := by omega
      by_cases h1 : l[k].size ≤ 100
      · have HS2 : Hid (∀ c ∈ l.take (k + 1), c.size ≤ 100) := fun c hc => by
          rw [take_add l k hlt] at hc
          rcases List.mem_append.1 hc with hc | hc
          · exact HS.out c hc
          · rw [List.mem_singleton.1 hc]; exact h1
        have d1 : decide ((100 : Int) < (l[k].size : Int)) = false := decide_eq_false (by omega)
        have d2 : decide (100 < l[k].size) = false := decide_eq_false (by omega)
        clear hc h1
        generalize l[k] = c at *
        go_wp2
        go_round
        case rel => exact ⟨k + 1, by omega, by go_num, HS2⟩
        case measure => simp [intOf]; omega
      · have HV : Hid (smallS l = false) := Lib.hid (by
          unfold smallS
          have : l.all (fun c => decide (c.size ≤ 100)) = false := by
            rw [List.all_eq_false]
            exact ⟨l[k], List.getElem_mem hlt, by simpa using h1⟩
          rw [this]; rfl)
        have d1 : decide ((100 : Int) < (l[k].size : Int)) = true := decide_eq_true (by omega)
        have d2 : decide (100 < l[k].size) = true := decide_eq_true (by omega)
        clear hc h1
        generalize l[k] = c at *
        go_wp2
        go_ret
        exact ⟨ret_bool HV.out.symm, rfl⟩
    · obtain rfl : k = l.length := by omega
      have HV : Hid (smallS l = decide (l.length ≤ 20)) := Lib.hid (by
        unfold smallS
        have : l.all (fun c => decide (c.size ≤ 100)) = true := by
          rw [List.all_eq_true]
          intro c hc
          exact decide_eq_true (HS.out c (by rwa [List.take_length]))
        rw [this]; rfl)
      go_wp2
      go_ret
      exact ⟨ret_bool (by rw [HV.out]; exact decide_eq_decide.2 (by omega)), rfl⟩

theorem few_leaf {op col : Int} {cell : ByteArray} : FewT (.mk op col cell []) := ⟨by show 0 ≤ 1000; decide, fun k hk => absurd (show k ∈ [] from hk) (by simp)⟩
theorem few_one {op : Int} {a : Trm} (ha : FewT a) : FewT (oneT15 op a) := ⟨by show 1 ≤ 1000; decide, fun k hk => by rw [List.mem_singleton.1 (show k ∈ [a] from hk)]; exact ha⟩
theorem few_two {op : Int} {a b : Trm} (ha : FewT a) (hb : FewT b) : FewT (twoT15 op a b) := ⟨by show 2 ≤ 1000; decide, fun k hk => by
  rcases List.mem_cons.1 (show k ∈ [a, b] from hk) with rfl | hk
  · exact ha
  · rw [List.mem_singleton.1 hk]; exact hb⟩
mutual
def greatT (deep : Nat) : Trm → Bool
  | .mk op col cell ks => decide (8 < deep) || (decide (4 < ks.length) || (decide (100 < cell.size) || (decide (wrap64 (sizeT (.mk op col cell ks) : Nat) < 0) || greatTs (deep + 1) ks)))
def greatTs (deep : Nat) : List Trm → Bool
  | [] => false
  | k :: ks => greatT deep k || greatTs deep ks
end
theorem greatTs_any (deep : Nat) : ∀ ks : List Trm, greatTs deep ks = ks.any (greatT deep)
  | [] => rfl
  | k :: ks => by rw [greatTs, greatTs_any deep ks]; rfl
theorem great_few (t : Trm) : ∀ deep, greatT deep t = false → FewT t := by
  refine Trm.ind (P := fun t => ∀ deep, greatT deep t = false → FewT t) (fun t ih => ?_) t
  intro deep h
  obtain ⟨op, col, cell, ks⟩ := t
  rw [greatT] at h
  simp only [Bool.or_eq_false_iff, decide_eq_false_iff_not] at h
  obtain ⟨_, h2, _, _, h5⟩ := h
  rw [greatTs_any, List.any_eq_false] at h5
  exact ⟨by show ks.length ≤ 1000; omega, fun k hk => ih k hk (deep + 1) (by simpa using h5 k hk)⟩
def GreatAt (t : Trm) : Prop := ∀ (w : World) (v : Value) (deep : Nat), deep ≤ 9 → TermIn w v t → GivesAt Try.prog 8 #[v, .int .i64 deep] w (.bool (greatT deep t))
set_option maxHeartbeats 2000000 in
theorem great15_calls (t : Trm) : GreatAt t := by
  refine Trm.ind (P := GreatAt) (fun t ih => ?_) t
  intro w v deep hd ht
  have HSZ0 : Hid (∀ W, Below w.heap.size w W → GivesAt Try.prog 15 #[v] W (.int .i64 (wrap64 (sizeT t : Nat)))) := fun W hW => term_size_calls t (ht.kept hW)
  obtain ⟨op, col, cell, ks⟩ := t
  obtain ⟨kv, rfl, ho, hk⟩ := ht
  replace hk : KidsIn w kv ks := hk
  have hm := hk.len
  unfold maxLen at hm
  obtain ⟨A, cap, rfl, hat⟩ := kids_at hk
  have HAT := Lib.hid hat
  have HIH : Hid (∀ k ∈ ks, GreatAt k) := fun k hk => ih k hk
  have hb := Below.alloc (.refl w.heap.size w) (Nat.le_refl _) (.cells #[.int .u8 op, .int .i64 col, .string cell, .slice A ks.length cap] 24)
  have hB := hb.size
  have HX := Lib.hid (trmbox_lit w 24 op col cell (.slice A ks.length cap))
  have hv0 : greatT deep (.mk op col cell ks) = (decide (8 < deep) || (decide (4 < ks.length) || (decide (100 < cell.size) || (decide (wrap64 (sizeT (.mk op col cell ks) : Nat) < 0) || greatTs (deep + 1) ks)))) := by rw [greatT]
  rw [hv0]
  generalize wrap64 (sizeT (.mk op col cell ks) : Nat) = sz at *
  dsimp only [trmA, Trm.op, Trm.col, Trm.cell] at HSZ0 ⊢
  unfold GivesAt
  clear ho hk hat ih hv0
  by_cases g1 : 8 < deep
  · have d1 : decide ((8 : Int) < (deep : Int)) = true := decide_eq_true (by omega)
    have e1 : decide (8 < deep) = true := decide_eq_true g1
    rw [e1, Bool.true_or]
    go_enter Try.func8, Try.ntmps8
    go_wp2
    go_ret
    exact ⟨rfl, hb⟩
  · have d1 : decide ((8 : Int) < (deep : Int)) = false := decide_eq_false (by omega)
    have e1 : decide (8 < deep) = false := decide_eq_false g1
    rw [e1, Bool.false_or]
    by_cases g2 : 4 < ks.length
    · have d2 : decide ((4 : Int) < (ks.length : Int)) = true := decide_eq_true (by omega)
      have e2 : decide (4 < ks.length) = true := decide_eq_true g2
      rw [e2, Bool.true_or]
      go_enter Try.func8, Try.ntmps8
      go_wp2
      go_ret
      exact ⟨rfl, hb⟩
    · have d2 : decide ((4 : Int) < (ks.length : Int)) = false := decide_eq_false (by omega)
      have e2 : decide (4 < ks.length) = false := decide_eq_false g2
      rw [e2, Bool.false_or]
      by_cases g3 : 100 < cell.size
      · have d3 : decide ((100 : Int) < (cell.size : Int)) = true := decide_eq_true (by omega)
        have e3 : decide (100 < cell.size) = true := decide_eq_true g3
        rw [e3, Bool.true_or]
        go_enter Try.func8, Try.ntmps8
        go_wp2
        go_ret
        exact ⟨rfl, hb⟩
      · have d3 : decide ((100 : Int) < (cell.size : Int)) = false := decide_eq_false (by omega)
        have e3 : decide (100 < cell.size) = false := decide_eq_false g3
        rw [e3, Bool.false_or]
        have HSZ := Lib.hid (HSZ0.out _ hb)
        by_cases g4 : sz < 0
        · have d4 : decide (sz < 0) = true := decide_eq_true g4
          rw [d4, Bool.true_or]
          clear g1 g2 g3 g4
          go_enter Try.func8, Try.ntmps8
          go_wp2_with (go_at_call 15; refine HSZ.out.step (w0 := w) (B := w.heap.size) hb hB ?_; clear hb hB; intro w1 hb hB)
          go_ret
          exact ⟨rfl, hb⟩
        · have d4 : decide (sz < 0) = false := decide_eq_false g4
          rw [d4, Bool.false_or]
          have HD : Hid (deep + 1 ≤ 9) := Lib.hid (by omega)
          have hdi : (deep : Int) ≤ 8 := by omega
          have hdj : (0 : Int) ≤ deep := by omega
          clear g1 g2 g3 g4 hd
          go_enter Try.func8, Try.ntmps8
          go_wp2_with (go_at_call 15; refine HSZ.out.stepB (w0 := w) (B := w.heap.size) hb hB ?_; clear hb hB; intro w1 hb hB hq1)
          have HX1 := Lib.hid (HX.out.later hq1)
          have HB1 := Lib.hid hb
          clear hq1 hb hB HX HSZ HSZ0
          go_loopw [5] (fun i wr => ∃ j : Nat, j ≤ ks.length ∧ i = .int .i64 j ∧ Hid (greatTs (deep + 1) (ks.take j) = false) ∧ Below w1.heap.size w1 wr) (fun i _ => ks.length - (intOf i).toNat)
          case atStart => exact ⟨0, Nat.zero_le _, rfl, by rw [List.take_zero]; exact Lib.hid rfl, .refl _ _⟩
          case round =>
            obtain ⟨j, hj, rfl, HG, hbr⟩ := hrel
            have hb := HB1.out.trans (hbr.mono HB1.out.size)
            have hB := hb.size
            obtain ⟨y0, y1, y2, y3, _⟩ := (HX1.out.later hbr).cells
            by_cases hlt : j < ks.length
            · obtain ⟨b, off, ea, hb0, hc⟩ := HAT.out j hlt
              subst ea
              obtain ⟨kkv, ok, hkk, c0, c1, c2, c3⟩ := hc j hlt
              have x0 := (hb.cell (p := ⟨b, off + j * 4, none⟩) hb0).trans c0
              have x1 := (hb.cell (p := ⟨b, off + j * 4 + 1, none⟩) hb0).trans c1
              have x2 := (hb.cell (p := ⟨b, off + j * 4 + 2, none⟩) hb0).trans c2
              have x3 := (hb.cell (p := ⟨b, off + j * 4 + 3, none⟩) hb0).trans c3
              have i0 : (0 : Int) ≤ (j : Int) := by omega
              have i1 : (j : Int) < (ks.length : Int) := by omega
              have hcc := HIH.out ks[j] (List.getElem_mem hlt) wr (trmA (kkv, ks[j])) (deep + 1) HD.out ⟨kkv, rfl, ok, hkk.kept hb⟩
              rw [show ((deep + 1 : Nat) : Int) = (deep : Int) + 1 by omega] at hcc
              dsimp only [trmA] at hcc
              have HC := Lib.hid hcc
              obtain ⟨Ak, pk, rfl, -⟩ := kids_at hkk
              have HTK : Hid (greatTs (deep + 1) (ks.take (j + 1)) = greatT (deep + 1) ks[j]) := Lib.hid (by rw [greatTs_any, take_add ks j hlt, List.any_append, ← greatTs_any, HG.out]; simp)
              have HTE : Hid (greatT (deep + 1) ks[j] = true → greatTs (deep + 1) ks = true) := fun h => by rw [greatTs_any, List.any_eq_true]; exact ⟨ks[j], List.getElem_mem hlt, h⟩
              clear hc c0 c1 c2 c3 hkk ok hcc
              generalize ks[j].kids.length = nk at *
              generalize ks[j].op = ok1 at *
              generalize ks[j].col = ok2 at *
              generalize ks[j].cell = ok3 at *
              generalize greatT (deep + 1) ks[j] = g at *
              cases g with
              | true =>
                have HTF := Lib.hid (HTE.out rfl)
                clear HTE
                go_wp2_with (go_at_call 8; refine HC.out.step (w0 := w) (B := w.heap.size) hb hB ?_; clear hb hB x0 x1 x2 x3 y0 y1 y2 y3; intro w3 hb hB)
                go_ret
                exact ⟨ret_bool HTF.out.symm, hb⟩
              | false =>
                go_wp2_with (go_at_call 8; refine HC.out.step (w0 := w1) (B := w1.heap.size) hbr hbr.size ?_; clear hb hB hbr x0 x1 x2 x3 y0 y1 y2 y3; intro w3 hbr _)
                go_roundw
                case rel => exact ⟨j + 1, by omega, by go_num, HTK, hbr⟩
                case measure => simp [intOf]; omega
            · obtain rfl : j = ks.length := by omega
              rw [List.take_length] at HG
              go_wp2
              go_ret
              exact ⟨ret_bool HG.out.symm, hb⟩
end Go.Proofs.Ytppmmkmlngmafaa
