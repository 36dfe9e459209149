/- Contracts of layer 3's small functions. -/
import Derived.Test.YtcoodplomnjkcaaKit2
import Derived.Test.YtcoodplomnjkcaaShelfPure
namespace Go.Proofs.Ytcoodplomnjkcaa
open Go Go.RowKit


def greatI : List Int → Int
  | [] => 0
  | x :: l => l.foldl max x
theorem greatI_snoc (l : List Int) (x : Int) (h : l ≠ []) : greatI (l ++ [x]) = max (greatI l) x := by
  cases l with
  | nil => exact absurd rfl h
  | cons y l => simp [greatI, List.foldl_append]
theorem foldl_max_le (l : List Int) : ∀ a : Int, a ≤ l.foldl max a ∧ (∀ x ∈ l, x ≤ l.foldl max a) ∧ (l.foldl max a = a ∨ l.foldl max a ∈ l) := by
  induction l with
  | nil => intro a; exact ⟨Int.le_refl _, by simp, .inl rfl⟩
  | cons y l ih =>
    intro a
    obtain ⟨h1, h2, h3⟩ := ih (max a y)
    simp only [List.foldl_cons]
    refine ⟨by omega, ?_, ?_⟩
    · intro x hx
      rcases List.mem_cons.1 hx with rfl | hx
      · omega
      · exact h2 x hx
    · rcases h3 with h3 | h3
      · by_cases hc : y ≤ a
        · left; rw [h3]; omega
        · right; rw [h3, show max a y = y by omega]; exact List.mem_cons_self
      · right; exact List.mem_cons_of_mem _ h3
theorem greatI_le (l : List Int) : ∀ x ∈ l, x ≤ greatI l := by
  cases l with
  | nil => simp
  | cons y l =>
    intro x hx
    obtain ⟨h1, h2, _⟩ := foldl_max_le l y
    rcases List.mem_cons.1 hx with rfl | hx
    · exact h1
    · exact h2 x hx
theorem greatI_mem (l : List Int) (h : l ≠ []) : greatI l ∈ l := by
  cases l with
  | nil => exact absurd rfl h
  | cons y l =>
    obtain ⟨_, _, h3⟩ := foldl_max_le l y
    rcases h3 with h3 | h3
    · show l.foldl max y ∈ y :: l; rw [h3]; exact List.mem_cons_self
    · exact List.mem_cons_of_mem _ h3
theorem ne_of_len {l : List Int} (h : 0 < l.length) : l ≠ [] := by intro e; subst e; simp at h
theorem bytesL_great (l : List Int) (hr : InR l) (h : l ≠ []) : bytesL l = nb (dist (greatI l) (leastI l)) := by
  have hg := greatI_mem l h
  have hl := leastI_range l hr
  refine Nat.le_antisymm ?_ ?_
  · unfold bytesL
    rw [bytesFrom_spec]
    intro x hx
    have h1 := greatI_le l x hx
    have h2 := leastI_le l x hx
    have h3 := hr x hx
    have h4 := hr _ hg
    have d1 := dist_le h2 hl.1 h3.2
    have d2 := dist_le (leastI_le l _ hg) hl.1 h4.2
    exact Nat.lt_of_le_of_lt (by omega) ((nb_spec _ _).1 (Nat.le_refl _))
  · rw [nb_spec]
    exact bytesFrom_lt _ _ _ hg
theorem nb_step {u : Nat} (h : 0 < u) : nb u = nb (u / 256) + 1 := nb_pos (by omega)

theorem wrap_sub (x m : Int) : IntKind.u64.wrap (IntKind.u64.wrap x - IntKind.u64.wrap m) = (dist x m : Int) := by
  simp only [IntKind.wrap_u64]; unfold dist; omega

theorem distance_calls (x m : Int) (w : World) : Reads Try.prog 21 #[.int .i64 x, .int .i64 m] w (.int .u64 (dist x m)) := by
  have H := Lib.hid (wrap_sub x m)
  unfold Reads
  go_enter Try.func21, Try.ntmps21
  go_wp2
  go_ret
  exact ⟨ret_int H.out, rfl⟩

set_option maxHeartbeats 400000 in
theorem min_calls {w : World} {v : Value} {l : List Int} (h : IntsIn w v l) (h0 : 0 < l.length) : Reads Try.prog 26 #[v] w (.int .i64 (leastI l)) := by
  have hm := h.len
  unfold maxLen at hm
  rcases h.parts with ⟨rfl, _⟩ | ⟨_, b, off, cap, rfl, hlt, hc⟩
  · simp at h0
  have hc0 : w.cell? ⟨b, off, none⟩ = some (.int .i64 l[0]) := hc 0 h0
  have e1 : leastI (l.take 1) = l[0] := by rw [take_add l 0 h0]; rfl
  have HC := Lib.hid hc
  have HE := Lib.hid e1
  have d1 : decide ((l.length : Int) < 1) = false := by rw [decide_eq_false_iff_not]; omega
  clear h hc e1
  unfold Reads
  go_enter Try.func26, Try.ntmps26
  go_wp2
  go_loop [3, 4] (fun n i => ∃ k : Nat, 0 < k ∧ k ≤ l.length ∧ i = .int .i64 k ∧ n = .int .i64 (leastI (l.take k))) (fun _ i => l.length - (intOf i).toNat)
  case atStart => exact ⟨1, by omega, by omega, rfl, by rw [HE.out]⟩
  case round =>
    obtain ⟨k, hk0, hk, rfl, rfl⟩ := hrel
    by_cases hlt : k < l.length
    · have hx := HC.out k hlt
      have HS := Lib.hid (show leastI (l.take (k + 1)) = min (leastI (l.take k)) l[k] by rw [take_add l k hlt]; exact leastI_snoc _ _ (by intro hz; have := congrArg List.length hz; rw [List.length_take, List.length_nil] at this; omega))
      go_wp2
      go_round
      case rel => exact ⟨k + 1, by omega, by omega, by go_num, by rw [HS.out]; congr 1; omega⟩
      case measure => simp [intOf]; omega
    · obtain rfl : k = l.length := by omega
      go_wp2
      go_ret
      exact ⟨rfl, rfl⟩
set_option maxHeartbeats 400000 in
theorem max_calls {w : World} {v : Value} {l : List Int} (h : IntsIn w v l) (h0 : 0 < l.length) : Reads Try.prog 25 #[v] w (.int .i64 (greatI l)) := by
  have hm := h.len
  unfold maxLen at hm
  rcases h.parts with ⟨rfl, _⟩ | ⟨_, b, off, cap, rfl, hlt, hc⟩
  · simp at h0
  have hc0 : w.cell? ⟨b, off, none⟩ = some (.int .i64 l[0]) := hc 0 h0
  have e1 : greatI (l.take 1) = l[0] := by rw [take_add l 0 h0]; rfl
  have HC := Lib.hid hc
  have HE := Lib.hid e1
  have d1 : decide ((l.length : Int) < 1) = false := by rw [decide_eq_false_iff_not]; omega
  clear h hc e1
  unfold Reads
  go_enter Try.func25, Try.ntmps25
  go_wp2
  go_loop [3, 4] (fun n i => ∃ k : Nat, 0 < k ∧ k ≤ l.length ∧ i = .int .i64 k ∧ n = .int .i64 (greatI (l.take k))) (fun _ i => l.length - (intOf i).toNat)
  case atStart => exact ⟨1, by omega, by omega, rfl, by rw [HE.out]⟩
  case round =>
    obtain ⟨k, hk0, hk, rfl, rfl⟩ := hrel
    by_cases hlt : k < l.length
    · have hx := HC.out k hlt
      have HS := Lib.hid (show greatI (l.take (k + 1)) = max (greatI (l.take k)) l[k] by rw [take_add l k hlt]; exact greatI_snoc _ _ (by intro hz; have := congrArg List.length hz; rw [List.length_take, List.length_nil] at this; omega))
      go_wp2
      go_round
      case rel => exact ⟨k + 1, by omega, by omega, by go_num, by rw [HS.out]; congr 1; omega⟩
      case measure => simp [intOf]; omega
    · obtain rfl : k = l.length := by omega
      go_wp2
      go_ret
      exact ⟨rfl, rfl⟩

theorem least_calls {w : World} {v : Value} {l : List Int} (h : IntsIn w v l) : Reads Try.prog 19 #[v] w (.int .i64 (leastI l)) := by
  have hm := h.len
  unfold maxLen at hm
  by_cases h0 : 0 < l.length
  · have H := Lib.hid h
    have d1 : ((l.length : Int) == 0) = false := by rw [beq_eq_false_iff_ne]; omega
    obtain ⟨A, cap, rfl, _⟩ := one_at h
    clear h
    unfold Reads
    go_enter Try.func19, Try.ntmps19
    go_wp2_with (go_at_call 26; refine (min_calls H.out h0).step ?_)
    go_ret
    exact ⟨rfl, rfl⟩
  · obtain rfl : l = [] := List.eq_nil_of_length_eq_zero (by omega)
    obtain ⟨A, cap, rfl, _⟩ := one_at h
    clear h
    unfold Reads
    go_enter Try.func19, Try.ntmps19
    go_wp2
    go_ret
    exact ⟨rfl, rfl⟩

set_option maxHeartbeats 400000 in
theorem bytes_calls {w : World} {v : Value} {l : List Int} (h : IntsIn w v l) (hr : InR l) : Reads Try.prog 11 #[v] w (.int .i64 (bytesL l)) := by
  have hm := h.len
  unfold maxLen at hm
  by_cases h0 : 0 < l.length
  · have H := Lib.hid h
    have d1 : ((l.length : Int) == 0) = false := by rw [beq_eq_false_iff_ne]; omega
    have HL := Lib.hid (bytesL_great l hr (ne_of_len h0))
    have hd := dist_lt (greatI l) (leastI l)
    obtain ⟨A, cap, rfl, _⟩ := one_at h
    have M1 := Lib.hid (distance_calls (greatI l) (leastI l))
    have h8 := nb_le_8 hd
    generalize dist (greatI l) (leastI l) = D at HL hd M1 h8
    have HD := Lib.hid hd
    clear h hd
    unfold Reads
    go_enter Try.func11, Try.ntmps11
    go_wp2_with (first | (go_at_call 25; refine (max_calls H.out h0).step ?_) | (go_at_call 26; refine (min_calls H.out h0).step ?_) | (go_at_call 21; refine (M1.out w).step ?_))
    go_loop [3, 4] (fun n u => ∃ k U : Nat, n = .int .i64 k ∧ u = .int .u64 U ∧ k + nb U = nb D) (fun _ u => (intOf u).toNat)
    case atStart => exact ⟨0, D, rfl, rfl, by omega⟩
    case round =>
      obtain ⟨k, U, rfl, rfl, hk⟩ := hrel
      by_cases hu : 0 < U
      · have hs := nb_step hu
        have HS := Lib.hid hs
        have HK := Lib.hid hk
        have hk8 : k ≤ 8 := by omega
        clear hs hk
        go_wp2
        go_round
        case rel => exact ⟨k + 1, U / 256, by go_num, by simp, by have := HS.out; have := HK.out; omega⟩
        case measure => simp [intOf]; omega
      · obtain rfl : U = 0 := by omega
        rw [nb_zero] at hk
        have HK := Lib.hid hk
        clear hk
        go_wp2
        go_ret
        exact ⟨ret_int (by rw [HL.out]; have := HK.out; omega), rfl⟩
  · obtain rfl : l = [] := List.eq_nil_of_length_eq_zero (by omega)
    obtain ⟨A, cap, rfl, _⟩ := one_at h
    clear h
    unfold Reads
    go_enter Try.func11, Try.ntmps11
    go_wp2
    go_ret
    exact ⟨rfl, rfl⟩
end Go.Proofs.Ytcoodplomnjkcaa
