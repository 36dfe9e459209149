/- The contracts of layer 9's Compare, and of what it calls of the library. -/
import Derived.Test.YtilnioloeijfhaaShapePure
import Derived.Test.YtilnioloeijfhaaStrs
namespace Go.Proofs.Ytilnioloeijfhaa
open Go Go.RowKit

def cmpB (a b : ByteArray) : Int := if a = b then 0 else if ltB a b then -1 else 1
theorem nan_calls (s : ByteArray) (w : World) : Reads Try.prog 22 #[.string s] w (.bool false) := by
  have h : (s.toList != s.toList) = false := by simp
  unfold Reads
  go_enter Try.func22, Try.ntmps22
  go_wp2
  go_ret
  exact ⟨rfl, rfl⟩
set_option maxHeartbeats 400000 in
theorem cmp_calls (a b : ByteArray) (w : World) : Reads Try.prog 21 #[.string a, .string b] w (.int .i64 (cmpB a b)) := by
  unfold Reads
  rcases lt_three a b with rfl | h | h
  · have h1 : Op.bytesLess a.toList a.toList = false := bl_irrefl _
    have h3 : (a.toList == a.toList) = true := by simp
    have HR := Lib.hid (show cmpB a a = 0 from if_pos rfl)
    go_enter Try.func21, Try.ntmps21
    go_wp2_with (go_at_call 22; refine (nan_calls _ _).step ?_)
    go_ret
    exact ⟨ret_int HR.out.symm, rfl⟩
  · have h1 : Op.bytesLess a.toList b.toList = true := h
    have HR := Lib.hid (show cmpB a b = -1 by unfold cmpB; rw [if_neg (ltB_ne h), if_pos h])
    go_enter Try.func21, Try.ntmps21
    go_wp2_with (go_at_call 22; refine (nan_calls _ _).step ?_)
    go_ret
    exact ⟨ret_int HR.out.symm, rfl⟩
  · have h1 : Op.bytesLess b.toList a.toList = true := h
    have h2 : Op.bytesLess a.toList b.toList = false := ltB_asym h
    have h3 : (a.toList == b.toList) = false := by
      rcases str_ne_cases a b with ⟨he, _⟩ | ⟨_, h3, _⟩
      · exact absurd he (ltB_ne h).symm
      · exact h3
    have HR := Lib.hid (show cmpB a b = 1 by unfold cmpB; rw [if_neg (ltB_ne h).symm, if_neg (by rw [ltB_asym h]; decide)])
    go_enter Try.func21, Try.ntmps21
    go_wp2_with (go_at_call 22; refine (nan_calls _ _).step ?_)
    go_ret
    exact ⟨ret_int HR.out.symm, rfl⟩

theorem drop_at {α : Type} (l : List α) (k : Nat) (h : k < l.length) : l.drop k = l[k] :: l.drop (k + 1) := List.drop_eq_getElem_cons h
set_option maxHeartbeats 1000000 in
theorem slices_cmp_calls {w : World} {va vb : Value} {a b : List ByteArray} (ha : StrsIn w va a) (hb : StrsIn w vb b) : Reads Try.prog 18 #[va, vb] w (.int .i64 (cmpL a b)) := by
  have hma := ha.len
  have hmb := hb.len
  unfold maxLen at hma hmb
  obtain ⟨A, ca, rfl, hata⟩ := one_at ha
  obtain ⟨B, cb, rfl, hatb⟩ := one_at hb
  have HA := Lib.hid hata
  have HB := Lib.hid hatb
  clear ha hb hata hatb
  unfold Reads
  go_enter Try.func18, Try.ntmps18
  go_wp2
  go_loop [11] (fun i => ∃ k : Nat, k ≤ a.length ∧ k ≤ b.length ∧ i = .int .i64 k ∧ Hid (cmpL a b = cmpL (a.drop k) (b.drop k))) (fun i => a.length - (intOf i).toNat)
  case atStart => exact ⟨0, Nat.zero_le _, Nat.zero_le _, rfl, rfl⟩
  case round =>
    obtain ⟨k, hka, hkb, rfl, HE⟩ := hrel
    by_cases hlt : k < a.length
    · obtain ⟨b1, o1, rfl, hl1, hc1⟩ := HA.out k hlt
      have hx1 := hc1 k hlt
      by_cases hlb : k < b.length
      · obtain ⟨b2, o2, rfl, hl2, hc2⟩ := HB.out k hlb
        have hx2 := hc2 k hlb
        have hE := HE.out
        rw [drop_at a k hlt, drop_at b k hlb] at hE
        clear hc1 hc2 HE
        generalize a[k] = x at *
        generalize b[k] = y at *
        have HC := Lib.hid (cmp_calls x y w)
        by_cases he : x = y
        · have HN := Lib.hid (show cmpL a b = cmpL (a.drop (k + 1)) (b.drop (k + 1)) by rw [hE, he, cmpL_front])
          have HC0 : Hid (Reads Try.prog 21 #[.string x, .string y] w (.int .i64 0)) := by
            have := HC.out; unfold cmpB at this; rw [if_pos he] at this; exact this
          clear hE HC he
          go_wp2_with (go_at_call 21; refine HC0.out.step ?_)
          go_round
          case rel => exact ⟨k + 1, by omega, by omega, by go_num, HN⟩
          case measure => simp [intOf]; omega
        · obtain ⟨q, hq0, hq1, hq2⟩ : ∃ q, cmpB x y = q ∧ (q == 0) = false ∧ cmpL a b = q := by
            rw [hE]
            rcases lt_three x y with h | h | h
            · exact absurd h he
            · exact ⟨-1, by unfold cmpB; rw [if_neg he, if_pos h], rfl, cmpL_less _ _ _ _ h⟩
            · exact ⟨1, by unfold cmpB; rw [if_neg he, if_neg (by rw [ltB_asym h]; decide)], rfl, cmpL_more _ _ _ _ h⟩
          have HC1 : Hid (Reads Try.prog 21 #[.string x, .string y] w (.int .i64 q)) := by
            have := HC.out; rw [hq0] at this; exact this
          have HQ := Lib.hid hq2
          clear hE HC he hq0 hq2
          go_wp2_with (go_at_call 21; refine HC1.out.step ?_)
          go_ret
          exact ⟨ret_int HQ.out.symm, rfl⟩
      · obtain rfl : k = b.length := by omega
        have HQ : Hid (cmpL a b = 1) := by
          show _ = _
          rw [HE.out, drop_at a _ hlt, List.drop_length]; rfl
        clear hc1
        go_wp2
        go_ret
        exact ⟨ret_int HQ.out.symm, rfl⟩
    · obtain rfl : k = a.length := by omega
      have hE := HE.out
      rw [List.drop_length] at hE
      by_cases hlb : a.length < b.length
      · have HQ : Hid (cmpL a b = -1) := by
          show _ = _
          rw [hE, drop_at b _ hlb]; rfl
        clear hE
        go_wp2
        go_ret
        exact ⟨ret_int HQ.out.symm, rfl⟩
      · have HQ : Hid (cmpL a b = 0) := by
          show _ = _
          rw [hE, List.drop_eq_nil_of_le (by omega)]; rfl
        clear hE
        go_wp2
        go_ret
        exact ⟨ret_int HQ.out.symm, rfl⟩
set_option maxHeartbeats 400000 in
theorem compare_calls {w : World} {va vb : Value} {a b : List ByteArray} (ha : StrsIn w va a) (hb : StrsIn w vb b) : Reads Try.prog 11 #[va, vb] w (.int .i64 (cmpL a b)) := by
  have h := slices_cmp_calls ha hb
  obtain ⟨A, ca, rfl, _⟩ := one_at ha
  obtain ⟨B, cb, rfl, _⟩ := one_at hb
  clear ha hb
  unfold Reads
  go_enter Try.func11, Try.ntmps11
  go_wp2_with (go_at_call 18; refine h.step ?_)
  go_ret
  exact ⟨rfl, rfl⟩
end Go.Proofs.Ytilnioloeijfhaa
