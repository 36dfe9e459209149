/- The walk of the law ShelfApart. -/
import Derived.Test.YtcoodplomnjkcaaShelfLawsD
namespace Go.Proofs.Ytcoodplomnjkcaa
open Go Go.RowKit

theorem Own.some_ {w : World} {B size n : Nat} {v : Value} {xs : List Value} (h : Own w B size v n xs) (h0 : 0 < n) : ∃ g off cap, v = .slice (some ⟨g, off, none⟩) n cap := by
  rcases h.2.2 with ⟨_, hn⟩ | ⟨g, off, cap, hv, _⟩
  · omega
  · exact ⟨g, off, cap, hv⟩
theorem ints_at {w : World} {b off : Nat} {l : List Int} (hc : ∀ j (hj : j < l.length), w.cell? ⟨b, off + j, none⟩ = some (.int .i64 l[j])) : ∀ (j : Nat) (u : Value), (l.map (Value.int .i64))[j]? = some u → w.cell? ((⟨b, off, none⟩ : Addr).add j) = some u := by
  intro j u hu
  rw [List.getElem?_map] at hu
  cases hq : l[j]? with
  | none => rw [hq] at hu; simp at hu
  | some x =>
    rw [hq] at hu
    obtain ⟨h1, h2⟩ := List.getElem?_eq_some_iff.1 hq
    simp only [Option.map_some, Option.some.injEq] at hu
    rw [Addr.add_lit, hc j h1, h2, hu]
theorem ints_one (l : List Int) : ∀ u ∈ l.map (Value.int .i64), u.oneCell' = true := by
  intro u hu
  obtain ⟨x, _, rfl⟩ := List.mem_map.1 hu
  rfl
theorem shelfB_inj {l m : List Int} (h1 : InR l) (h2 : InR m) (hl : l.length = m.length) (h : shelfB l = shelfB m) : l = m := by
  have : shelfP l ++ [] = shelfP m ++ [] := by rw [List.append_nil, List.append_nil, ← shelfB_data, ← shelfB_data, h]
  exact (shelfP_prefix l m [] [] h1 h2 hl this).1
theorem set_range {l : List Int} (h : InR l) (K : Nat) (n : Int) (h0 : -9223372036854775808 ≤ n) (h1 : n ≤ 9223372036854775807) : InR (l.set K n) := by
  intro x hx
  rcases List.mem_or_eq_of_mem_set hx with hx | rfl
  · exact h x hx
  · exact ⟨h0, h1⟩
theorem apart_cases (l : List Int) (K : Nat) (n : Int) (hK : K < l.length) (h : InR l) (h0 : -9223372036854775808 ≤ n) (h1 : n ≤ 9223372036854775807) :
    (((shelfB l).toList == (shelfB (l.set K n)).toList) = true ∧ (l[K] == n) = true) ∨ (((shelfB l).toList == (shelfB (l.set K n)).toList) = false ∧ (l[K] == n) = false) := by
  by_cases he : l[K] = n
  · left
    have : l.set K n = l := by rw [← he]; exact List.set_getElem_self hK
    rw [this, he]; simp
  · right
    rcases str_ne_cases (shelfB l) (shelfB (l.set K n)) with ⟨e, _⟩ | ⟨_, e, _⟩
    · exfalso
      have := shelfB_inj h (set_range h K n h0 h1) (by simp) e
      apply he
      have h2 : l[K]? = (l.set K n)[K]? := by rw [← this]
      rw [List.getElem?_set, if_pos rfl, if_pos hK, List.getElem?_eq_getElem hK] at h2
      simpa using h2
    · exact ⟨e, by rw [beq_eq_false_iff_ne]; exact he⟩

set_option maxHeartbeats 4000000 in
set_option maxRecDepth 100000 in
theorem shelfApart_short {w : World} {v : Value} {l : List Int} (h : IntsIn w v l) (hr : InR l) (at_ : Nat) (ha : at_ < 65536) (n : Int) (n0 : -9223372036854775808 ≤ n) (n1 : n ≤ 9223372036854775807) (hl : l.length ≤ 300) (h0 : 0 < l.length) :
    GivesAt Try.prog 7 #[v, .int .u16 at_, .int .i64 n] w (.bool true) := by
  obtain ⟨i0, hi, hz0, hz1, hz2⟩ := info_parts Try.info3
  obtain ⟨hb, hB⟩ := start w
  have H := Lib.hid h
  rcases h.parts with ⟨rfl, _⟩ | ⟨_, b, off, cap, rfl, hbl, hc⟩
  · simp at h0
  have HC := Lib.hid hc
  have d1 : decide (300 < (l.length : Int)) = false := by rw [decide_eq_false_iff_not]; omega
  have d2 : ((l.length : Int) == 0) = false := by rw [beq_eq_false_iff_ne]; omega
  have hK : at_ % l.length < l.length := Nat.mod_lt _ h0
  have e1 : (at_ : Int) % (l.length : Int) = ((at_ % l.length : Nat) : Int) := by simp
  have hl4 : l.length ≤ 4096 := by omega
  have HX := Lib.hid (apart_cases l (at_ % l.length) n hK hr n0 n1)
  have hsr := Lib.hid (set_range hr (at_ % l.length) n n0 n1)
  clear h hc n0 n1
  generalize at_ % l.length = K at *
  have hml : (l.set K n).length = l.length := List.length_set
  have HML := Lib.hid hml
  clear hml
  unfold GivesAt
  go_enter Try.func7, Try.ntmps7
  go_wp2_with (at_builtin; refine wpList_append_Own rfl _ _ 22 rfl 3 i0 (.int .i64 0) 1 8 Try.underlying22 hi hz0 hz1 hz2 rfl (by decide) _ 0 [] rfl (Own.lit (B := w.heap.size) (size := 1) w #[] _ 0 (Nat.le_refl _) (Nat.zero_le _) rfl) ⟨b, off, none⟩ l.length cap (l.map (Value.int .i64)) rfl (by simp) (ints_at fun j hj => ((below_alloc hb hB _).1.cell (p := ⟨b, off + j, none⟩) hbl).trans (HC.out j hj)) (ints_one l) ?c1 ?c2 (below_alloc hb hB _).2 ?_)
  case c1 => unfold maxLen; omega
  case c2 => omega
  intro v' w1 hO hg
  have hb1 : Below w.heap.size w w1 := (Own.lit (B := w.heap.size) (size := 1) w #[] 3 0 (Nat.le_refl _) (Nat.zero_le _) rfl).grown (below_alloc hb hB _).1 (below_alloc hb hB _).2 hg
  have hB1 := hb1.size
  obtain ⟨g, o, c, rfl⟩ := hO.some_ h0
  obtain ⟨hgB, hgl, _, hcv, hcell⟩ := hO.parts
  have hle : l.length ≤ c := by assumption
  have k0 : w1.cell? ⟨g, o + K, none⟩ = some (.int .i64 l[K]) := hcv K _ (by rw [List.getElem?_map, List.getElem?_eq_getElem hK]; rfl)
  have k1 : w1.frozen? ⟨g, o + K, none⟩ = false := (hcell K (by omega)).2
  have hO2 := hO.stored K (by omega) (.int .i64 n)
  rw [← List.map_set] at hO2
  have hb2 := hb1.setCell (p := ⟨g, o + K, none⟩) hgB (.int .i64 n)
  have hm2 : IntsIn (w1.setCell ⟨g, o + K, none⟩ (.int .i64 n)) (.slice (some ⟨g, o, none⟩) l.length c) (l.set K n) := by unfold IntsIn; rw [HML.out]; exact hO2.slice
  have hB2 : w.heap.size ≤ (w1.setCell ⟨g, o + K, none⟩ (.int .i64 n)).heap.size := hb2.size
  clear hO hO2 hg hb1 hB1 hcv hcell hb hB
  have i0 : (0 : Int) ≤ (K : Int) := by omega
  have i1 : (K : Int) < (l.length : Int) := by omega
  go_wp2_with (go_at_call 9; refine (shelf_print_calls (H.out.at_ hb2) hr hl4).stepB (w0 := w) (B := w.heap.size) hb2 hB2 ?_)
  clear k0 k1
  intro w3 hb hB hk
  have hm3 := IntsIn.kept hm2 (by simpa using hk)
  clear hm2 hk hb2 hB2
  go_wp2_with (go_at_call 9; refine (shelf_print_calls hm3 hsr.out (by rw [HML.out]; exact hl4)).stepB (w0 := w) (B := w.heap.size) hb hB ?_)
  clear hb hB
  intro w4 hb hB hk
  clear hk hm3
  have HT := Lib.hid (fun b => shelf_read_some b (shelfB (l.set K n)) (by have := shelfB_size _ hsr.out; have := HML.out; omega) (r := []) (many := (l.length : Int)) ⟨by omega, by omega, by rw [HML.out], hsr.out, by rw [List.append_nil]; rfl⟩)
  have e0 : (mkB []).toList = [] := by rw [ByteArray.toList_eq]; rfl
  go_wp2_with (go_at_call 13; refine (HT.out _).stepB (w0 := w) (B := w.heap.size) (box_tape w4 _ _ _) (below_alloc hb hB _).1 (below_alloc hb hB _).2 hB ?_)
  clear hb hB
  intro v5 w5 hi5 _ hT5 hb hB _
  rcases IntsIn.parts hi5 with ⟨hz, _⟩ | ⟨_, g5, o5, c5, rfl, hg5, hc5⟩
  · exfalso; have := HML.out; rw [hz] at this; simp at this; omega
  have hx5 : w5.cell? ⟨g5, o5 + K, none⟩ = some (.int .i64 n) := by rw [hc5 K (by rw [HML.out]; exact hK)]; simp
  clear hc5 hi5
  have hml := HML.out
  rcases HX.out with ⟨x1, x2⟩ | ⟨x1, x2⟩
  all_goals
    go_wp2_with (go_at_call 8; refine awake_calls.stepB (w0 := w) (B := w.heap.size) hb hB ?_)
    clear hb hB
    intro w6 hb hB hk
    have hx6 := (hk.cell (p := ⟨g5, o5 + K, none⟩) hg5).trans hx5
    have hl6 := (hb.cell (p := ⟨b, off + K, none⟩) hbl).trans (HC.out K hK)
    have hT6 := hT5.kept hk
    clear hx5 hT5 hk
    go_wp2_with (go_at_call 16; refine (tdone_calls _ _ _ _ hT6).mono ?_; rintro e w' ⟨rfl, rfl⟩)
    go_ret
    exact ⟨rfl, hb⟩

theorem shelfApart_calls {w : World} {v : Value} {l : List Int} (h : IntsIn w v l) (hr : InR l) (at_ : Nat) (ha : at_ < 65536) (n : Int) (n0 : -9223372036854775808 ≤ n) (n1 : n ≤ 9223372036854775807) :
    GivesAt Try.prog 7 #[v, .int .u16 at_, .int .i64 n] w (.bool true) := by
  by_cases hc : l.length ≤ 300 ∧ 0 < l.length
  · exact shelfApart_short h hr at_ ha n n0 n1 hc.1 hc.2
  · obtain ⟨hb, hB⟩ := start w
    have hm := h.len
    unfold maxLen at hm
    obtain ⟨A, cap, rfl, _⟩ := one_at h
    clear h
    have hd : 300 < l.length ∨ l.length = 0 := by omega
    clear hc
    unfold GivesAt
    rcases hd with hd | hd
    · have d1 : decide (300 < (l.length : Int)) = true := by rw [decide_eq_true_eq]; omega
      go_enter Try.func7, Try.ntmps7
      go_wp2_with (go_at_call 8; refine awake_calls.step (w0 := w) (B := w.heap.size) hb hB ?_; clear hb hB; intro w1 hb hB)
      go_ret
      exact ⟨rfl, hb⟩
    · rw [hd]
      clear hd
      go_enter Try.func7, Try.ntmps7
      go_wp2_with (go_at_call 8; refine awake_calls.step (w0 := w) (B := w.heap.size) hb hB ?_; clear hb hB; intro w1 hb hB)
      go_ret
      exact ⟨rfl, hb⟩
end Go.Proofs.Ytcoodplomnjkcaa
