/- Plain facts of the document's examples of layer 10. -/
import Derived.Test.YtoamnoafamoldaaGStrs
import Derived.Test.YtoamnoafamoldaaGTimes
import Derived.Test.YtoamnoafamoldaaGWeighRef
/- The walks of 'small' and 'at' of layer 10's laws. -/
namespace Go.Proofs.Ytoamnoafamoldaa
open Go Go.RowKit

/-- Is a row few cells, short ones, and there not too often? -/
def smallT (t : Tm) : Bool := decide (t.1.length ≤ 10) && decide (t.2 ≤ 1099511627776) && decide (-1099511627776 ≤ t.2) && t.1.all fun c => decide (c.size ≤ 100)
def smallW (l : List Tm) : Bool := l.all smallT && decide (l.length ≤ 100)
theorem smallT_of {t : Tm} (h : smallT t = true) : t.1.length ≤ 10 ∧ t.2 ≤ 1099511627776 ∧ -1099511627776 ≤ t.2 ∧ ∀ c ∈ t.1, c.size ≤ 100 := by
  unfold smallT at h
  rw [Bool.and_eq_true, Bool.and_eq_true, Bool.and_eq_true, decide_eq_true_eq, decide_eq_true_eq, decide_eq_true_eq, List.all_eq_true] at h
  exact ⟨h.1.1.1, h.1.1.2, h.1.2, fun c hc => by have := h.2 c hc; rwa [decide_eq_true_eq] at this⟩
theorem smallT_yes {t : Tm} (h1 : t.1.length ≤ 10) (h2 : t.2 ≤ 1099511627776) (h3 : -1099511627776 ≤ t.2) (h4 : ∀ c ∈ t.1, c.size ≤ 100) : smallT t = true := by
  unfold smallT
  rw [decide_eq_true h1, decide_eq_true h2, decide_eq_true h3, List.all_eq_true.2 fun c hc => decide_eq_true (h4 c hc)]; rfl
theorem smallW_of {l : List Tm} (h : smallW l = true) : l.length ≤ 100 ∧ ∀ t ∈ l, smallT t = true := by
  unfold smallW at h
  rw [Bool.and_eq_true, List.all_eq_true, decide_eq_true_eq] at h
  exact ⟨h.2, h.1⟩
theorem smallW_no {l : List Tm} {t : Tm} (ht : t ∈ l) (h : smallT t = false) : smallW l = false := by
  cases hs : smallW l with
  | false => rfl
  | true => rw [(smallW_of hs).2 t ht] at h; exact absurd h (by decide)
theorem smallT_no {t : Tm} (h : ¬ (t.1.length ≤ 10 ∧ t.2 ≤ 1099511627776 ∧ -1099511627776 ≤ t.2 ∧ ∀ c ∈ t.1, c.size ≤ 100)) : smallT t = false := by
  cases hs : smallT t with
  | false => rfl
  | true => exact absurd (smallT_of hs) h
theorem smallW_end {l : List Tm} (h : ∀ t ∈ l.take l.length, smallT t = true) : decide ((l.length : Int) ≤ 100) = smallW l := by
  rw [List.take_length] at h
  unfold smallW
  rw [List.all_eq_true.2 h, Bool.true_and]
  congr 1
  rw [eq_iff_iff]
  omega
/-- No sum of few such rows is beyond all numbers. -/
theorem small_wt {l : List Tm} (h : smallW l = true) : wtW l ≤ 109951162777600 := by
  obtain ⟨h1, h2⟩ := smallW_of h
  have := wt_each (l := l) (n := 1099511627776) fun t ht => by have := smallT_of (h2 t ht); omega
  have h3 : l.length * 1099511627776 ≤ 100 * 1099511627776 := Nat.mul_le_mul_right _ h1
  omega

set_option maxHeartbeats 2000000 in
theorem small_calls {w : World} {v : Value} {l : List Tm} (h : TimesIn w v l) : Reads Try.prog 8 #[v] w (.bool (smallW l)) := by
  have hm := h.len
  unfold maxLen at hm
  obtain ⟨tv, A, cap, rfl, _, hat⟩ := times_at h
  have HAT := Lib.hid hat
  clear h hat
  unfold Reads
  go_enter Try.func8, Try.ntmps8
  go_wp2
  go_loop [3] (fun i => ∃ k : Nat, k ≤ l.length ∧ i = .int .i64 k ∧ Hid (∀ t ∈ l.take k, smallT t = true)) (fun i => l.length - (intOf i).toNat)
  case atStart => exact ⟨0, Nat.zero_le _, rfl, fun c hc => absurd hc (by simp)⟩
  case round =>
    obtain ⟨k, hk, rfl, HS⟩ := hrel
    by_cases hlt : k < l.length
    · obtain ⟨b, off, rfl, hbl, hc⟩ := HAT.out k hlt
      obtain ⟨rv, hs, _, c1, c2⟩ := hc k hlt
      have HT := Lib.hid (take_add l k hlt)
      have HM := Lib.hid (List.getElem_mem hlt)
      clear hc
      generalize l[k] = t at *
      obtain ⟨row, n⟩ := t
      dsimp only at *
      have hrl := hs.len
      unfold maxLen at hrl
      obtain ⟨Ar, pr, rfl, hrat⟩ := one_at hs
      have HRAT := Lib.hid hrat
      clear hs hrat
      by_cases hsh : row.length ≤ 10 ∧ n ≤ 1099511627776 ∧ -1099511627776 ≤ n
      · obtain ⟨g1, g2, g3⟩ := hsh
        have d1 : decide (10 < (row.length : Int)) = false := by rw [decide_eq_false_iff_not]; omega
        have d2 : decide (1099511627776 < n) = false := by rw [decide_eq_false_iff_not]; omega
        have d3 : decide (n < -1099511627776) = false := by rw [decide_eq_false_iff_not]; omega
        go_wp2
        go_loop [4] (fun i => ∃ q : Nat, q ≤ row.length ∧ i = .int .i64 q ∧ Hid (∀ c ∈ row.take q, c.size ≤ 100)) (fun i => row.length - (intOf i).toNat)
        case atStart => exact ⟨0, Nat.zero_le _, rfl, fun c hc => absurd hc (by simp)⟩
        case round =>
          obtain ⟨q, hq, rfl, HQ⟩ := hrel
          by_cases hql : q < row.length
          · obtain ⟨b2, off2, rfl, _, hcr⟩ := HRAT.out q hql
            have hx := hcr q hql
            have HTQ := Lib.hid (take_add row q hql)
            have HMQ := Lib.hid (List.getElem_mem hql)
            clear hcr
            generalize row[q] = c at *
            by_cases hz : c.size ≤ 100
            · have d4 : decide (100 < (c.size : Int)) = false := by rw [decide_eq_false_iff_not]; omega
              go_wp2
              go_round
              case rel => exact ⟨q + 1, by omega, by go_num, fun d hd => by
                rw [HTQ.out] at hd
                rcases List.mem_append.1 hd with hd | hd
                · exact HQ.out d hd
                · rw [List.mem_singleton.1 hd]; exact hz⟩
              case measure => simp [intOf]; omega
            · have d4 : decide (100 < (c.size : Int)) = true := by rw [decide_eq_true_eq]; omega
              have HD := Lib.hid (smallW_no HM.out (smallT_no fun h => hz (h.2.2.2 c HMQ.out)))
              go_wp2
              go_ret
              exact ⟨ret_bool HD.out.symm, rfl⟩
          · obtain rfl : q = row.length := by omega
            rw [List.take_length] at HQ
            have HI := Lib.hid (smallT_yes (t := (row, n)) g1 g2 g3 HQ.out)
            go_wp2
            go_round
            case rel => exact ⟨k + 1, by omega, by go_num, fun d hd => by
              rw [HT.out] at hd
              rcases List.mem_append.1 hd with hd | hd
              · exact HS.out d hd
              · rw [List.mem_singleton.1 hd]; exact HI.out⟩
            case measure => simp [intOf]; omega
      · have HD := Lib.hid (smallW_no HM.out (smallT_no fun h => hsh ⟨h.1, h.2.1, h.2.2.1⟩))
        by_cases g1 : row.length ≤ 10
        · have d1 : decide (10 < (row.length : Int)) = false := by rw [decide_eq_false_iff_not]; omega
          by_cases g2 : n ≤ 1099511627776
          · have d2 : decide (1099511627776 < n) = false := by rw [decide_eq_false_iff_not]; omega
            have d3 : decide (n < -1099511627776) = true := by rw [decide_eq_true_eq]; omega
            clear hsh
            go_wp2
            go_ret
            exact ⟨ret_bool HD.out.symm, rfl⟩
          · have d2 : decide (1099511627776 < n) = true := by rw [decide_eq_true_eq]; omega
            clear hsh
            go_wp2
            go_ret
            exact ⟨ret_bool HD.out.symm, rfl⟩
        · have d1 : decide (10 < (row.length : Int)) = true := by rw [decide_eq_true_eq]; omega
          clear hsh
          go_wp2
          go_ret
          exact ⟨ret_bool HD.out.symm, rfl⟩
    · obtain rfl : k = l.length := by omega
      have HD := Lib.hid (smallW_end HS.out)
      go_wp2
      go_ret
      exact ⟨ret_bool HD.out, rfl⟩

/-- A row of one cell. -/
def AtEnd (w : World) (s : ByteArray) (n : Int) (e : Ending) (w' : World) : Prop := ∃ A p, e = .returned (.agg #[.slice A 1 p, .int .i64 n]) ∧ StrsIn w' (.slice A 1 p) [s] ∧ Below w.heap.size w w'
set_option maxHeartbeats 1000000 in
theorem at_calls (w : World) (s : ByteArray) (n : Int) : Calls Try.prog 26 #[.string s, .int .i64 n] w (AtEnd w s n) := by
  obtain ⟨hb, hB⟩ := start w
  unfold AtEnd
  go_enter Try.func26, Try.ntmps26
  go_wp2
  refine ⟨rfl, .agg #[.slice (some ⟨w.heap.size + 1, 0, none⟩) 1 1, .int .i64 n], ?_, _, _, rfl, ?_, ?_⟩
  · simp [results, Try.results26, go_sem]
  · have := lit_strs (w.alloc (.cells #[.slice (some ⟨w.heap.size + 1, 0, none⟩) 1 1, .int .i64 n] 26)) 9 [s] (by show 1 ≤ 1000; decide)
    simpa using this
  · exact (hb.alloc hB _).alloc (by simp) _

/-- A slice of rows that isn't empty has a block; its cells. -/
theorem times_some {w : World} {v : Value} {l : List Tm} (h : TimesIn w v l) (h0 : 0 < l.length) : ∃ b off cap, v = .slice (some ⟨b, off, none⟩) l.length cap := by
  obtain ⟨tv, A, cap, rfl, _, hat⟩ := times_at h
  obtain ⟨b, off, rfl, _⟩ := hat 0 h0
  exact ⟨b, off, cap, rfl⟩
theorem times_cellAt {w : World} {b off n cap : Nat} {l : List Tm} (h : TimesIn w (.slice (some ⟨b, off, none⟩) n cap) l) (j : Nat) (hj : j < l.length) :
    ∃ rv, StrsIn w rv l[j].1 ∧ w.cell? ⟨b, off + j * 2, none⟩ = some rv ∧ w.cell? ⟨b, off + j * 2 + 1, none⟩ = some (.int .i64 l[j].2) := by
  obtain ⟨tv, A, cap', e, _, hat⟩ := times_at h
  cases e
  obtain ⟨b', off', e1, _, hc⟩ := hat j hj
  cases e1
  obtain ⟨rv, hs, _, c1, c2⟩ := hc j hj
  exact ⟨rv, hs, c1, c2⟩
theorem times_slice {w : World} {v : Value} {l : List Tm} (h : TimesIn w v l) : ∃ A cap, v = .slice A l.length cap := by
  obtain ⟨tv, A, cap, e, _⟩ := times_at h
  exact ⟨A, cap, e⟩
end Go.Proofs.Ytoamnoafamoldaa
/- Rows of few cells stay rows of few cells; no program. -/
namespace Go.Proofs.Ytoamnoafamoldaa
open Go Go.RowKit

def ShortR (l : List Tm) : Prop := ∀ t ∈ l, t.1.length ≤ 1000000
theorem ShortR.of {l : List Tm} (h : ShortR l) : ShortR (ofW l) := fun t ht => by
  obtain ⟨u, hu, e⟩ := mem_of ht
  rw [← e]; exact h u hu
theorem ShortR.put {l : List Tm} (h : ShortR l) {x : Tm} (hx : x.1.length ≤ 1000000) : ShortR (putW l x) := fun t ht => by
  rcases mem_put ht with ht | ht
  · exact h t ht
  · rw [ht]; exact hx
theorem ShortR.foldl {m l : List Tm} (h : ShortR l) (hm : ShortR m) : ShortR (m.foldl putW l) := by
  induction m generalizing l with
  | nil => exact h
  | cons x m ih => exact ih (h.put (hm x (List.mem_cons_self ..))) (fun t ht => hm t (List.mem_cons_of_mem _ ht))
theorem ShortR.sum {a b : List Tm} (h : ShortR a) (k : ShortR b) : ShortR (sumW a b) := (h.of).foldl k
theorem ShortR.minus {l : List Tm} (h : ShortR l) : ShortR (minusW l) := fun t ht => by
  obtain ⟨u, hu, rfl⟩ := List.mem_map.1 ht
  exact h u hu
theorem ShortR.nil : ShortR [] := fun t ht => absurd ht (by simp)
theorem short_small {l : List Tm} (h : smallW l = true) : ShortR l := fun t ht => by
  have := (smallT_of ((smallW_of h).2 t ht)).1; omega
end Go.Proofs.Ytoamnoafamoldaa
namespace Go.Proofs.Ytoamnoafamoldaa
open Go Go.RowKit

theorem lit_list (l : List UInt8) : (⟨l.toArray⟩ : ByteArray).toList = l := by rw [ByteArray.toList_eq]
abbrev cTa : ByteArray := ⟨#[116, 97]⟩
abbrev cTb : ByteArray := ⟨#[116, 98]⟩
abbrev cTc : ByteArray := ⟨#[116, 99]⟩
theorem lt_lit (a b : List UInt8) : ltB ⟨a.toArray⟩ ⟨b.toArray⟩ = Op.bytesLess a b := by unfold ltB; rw [lit_list, lit_list]
theorem lt_ab : ltB cTa cTb = true := (lt_lit [116, 97] [116, 98]).trans (by decide)
theorem lt_ac : ltB cTa cTc = true := (lt_lit [116, 97] [116, 99]).trans (by decide)
theorem lt_bc : ltB cTb cTc = true := (lt_lit [116, 98] [116, 99]).trans (by decide)
theorem cm_ab : cmpL [cTa] [cTb] = -1 := cmpL_less _ _ _ _ lt_ab
theorem cm_ac : cmpL [cTa] [cTc] = -1 := cmpL_less _ _ _ _ lt_ac
theorem cm_bc : cmpL [cTb] [cTc] = -1 := cmpL_less _ _ _ _ lt_bc
theorem cm_ba : cmpL [cTb] [cTa] = 1 := cmpL_more _ _ _ _ lt_ab
theorem cm_ca : cmpL [cTc] [cTa] = 1 := cmpL_more _ _ _ _ lt_ac
theorem cm_cb : cmpL [cTc] [cTb] = 1 := cmpL_more _ _ _ _ lt_bc
theorem ne_ba : ¬ [cTb] = [cTa] := fun e => cmpL_ne cm_ab e.symm
theorem ne_ab : ¬ [cTa] = [cTb] := fun e => cmpL_ne cm_ab e
theorem ne_ac : ¬ [cTa] = [cTc] := fun e => cmpL_ne cm_ac e
theorem ne_ca : ¬ [cTc] = [cTa] := fun e => cmpL_ne cm_ac e.symm
abbrev awA : Tm := ([cTa], 1)
abbrev awC : Tm := ([cTc], -1)
theorem aw_right : RightP [awA, awC] := RightP.cons_iff.2 ⟨by decide, fun u hu => by rw [List.mem_singleton.1 hu]; exact cm_ac, RightP.cons_iff.2 ⟨by decide, fun u hu => absurd hu (by simp), .nil⟩⟩
theorem right_one (row : List ByteArray) (n : Int) (h : n ≠ 0) : RightP [(row, n)] := RightP.cons_iff.2 ⟨h, fun u hu => absurd hu (by simp), .nil⟩
theorem aw_of : ofW [([cTb], 2), ([cTa], 1), ([cTb], -2), ([cTc], -1)] = [awA, awC] := right_ext (of_right _) aw_right fun r => by
  rw [cnt_of]
  simp only [cntW]
  split <;> split <;> split <;> omega
theorem aw_sum : sumW [awA, awC] [([cTc], 1)] = [awA] := right_ext (sum_right _ _) (right_one _ _ (by decide)) fun r => by
  rw [cnt_sum]
  simp only [cntW]
  split <;> split <;> omega
theorem aw_minus : minusW [awA, awC] = [([cTa], -1), ([cTc], 1)] := rfl
theorem aw_rightW : rightW [awA, awC] = true := decide_eq_true aw_right
theorem aw_whole1 : wholeW [awA, awC] = false := rfl
theorem aw_whole2 : wholeW [awA] = true := rfl
theorem aw_find1 : cntW [awA, awC] [cTc] = -1 := by
  simp only [cntW]
  rw [if_neg ne_ac]; rfl
theorem aw_find2 : cntW [awA, awC] [] = 0 := by
  simp only [cntW]
  rw [if_neg (by simp), if_neg (by simp)]; rfl
theorem aw_right2 : rightW [([cTb], 1), ([cTa], 1)] = false := right_order (j := 0) (by decide) (by show ¬ cmpL [cTb] [cTa] = -1; rw [cm_ba]; decide)
theorem aw_right3 : rightW [([cTa], 0)] = false := right_zero (List.mem_singleton.2 rfl) rfl
theorem aw_put : putW [] ([cTa], 0) = [] := rfl
end Go.Proofs.Ytoamnoafamoldaa
