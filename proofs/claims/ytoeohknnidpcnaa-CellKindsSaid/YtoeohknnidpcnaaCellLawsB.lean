/- The walks of the laws of layer 1, more. -/
import Derived.Test.YtoeohknnidpcnaaCellLaws
import Derived.Lib.Strings
namespace Go.Proofs.Ytoeohknnidpcnaa
open Go Go.RowKit

set_option maxHeartbeats 1000000 in
set_option maxRecDepth 100000 in
theorem cellApart_long (a b : Int) (s : ByteArray) (_h0 : -9223372036854775808 ≤ a) (_h1 : a ≤ 9223372036854775807) (_g0 : -9223372036854775808 ≤ b) (_g1 : b ≤ 9223372036854775807) (hl : 100 < s.size) :
    Gives Try.prog 6 #[.int .i64 a, .int .i64 b, .string s] (.bool true) := by
  intro w
  obtain ⟨hb, hB⟩ := start w
  go_enter Try.func6, Try.ntmps6
  go_wp2_with (first | (go_at_call 7; refine (awake_calls).step (w0 := w) (B := w.heap.size) (by go_grown) (by go_size) ?_; intro w' hb hB))
  all_goals
    go_ret
    exact ⟨rfl, by go_grown⟩

set_option maxHeartbeats 1000000 in
set_option maxRecDepth 100000 in
theorem cellApart_short (a b : Int) (s : ByteArray) (h0 : -9223372036854775808 ≤ a) (h1 : a ≤ 9223372036854775807) (g0 : -9223372036854775808 ≤ b) (g1 : b ≤ 9223372036854775807) (hl : s.size ≤ 100) :
    Gives Try.prog 6 #[.int .i64 a, .int .i64 b, .string s] (.bool true) := by
  intro w
  obtain ⟨hb, hB⟩ := start w
  have f1 := eq_cellInt a b h0 h1 g0 g1
  have f2 : ((cellInt a).toList == (boolCell true).toList) = false := by rw [toList_cellInt, toList_boolCell]; rfl
  have f3 : ((textCell s).toList == (boolCell true).toList) = false := by rw [toList_textCell, toList_boolCell]; rfl
  have f4 := kind_textCell s
  have f5 := kind_boolCell true
  have f6 : ∀ d : Bool, ((boolCell d).toList == (boolCell true).toList) = d := by intro d; rw [toList_boolCell, toList_boolCell]; cases d <;> rfl
  go_enter Try.func6, Try.ntmps6
  go_wp2_with (first | (go_at_call 7; refine (awake_calls).step (w0 := w) (B := w.heap.size) (by go_grown) (by go_size) ?_; intro w' hb hB) | (go_at_call 10; refine (int_calls _ (by omega) (by omega)).step (w0 := w) (B := w.heap.size) (by go_grown) (by go_size) ?_; intro w' hb hB) | (go_at_call 14; refine (text_calls _ (by first | omega | (rw [ByteArray.size_extract]; omega))).step (w0 := w) (B := w.heap.size) (by go_grown) (by go_size) ?_; intro w' hb hB) | (go_at_call 12; refine (bool_calls _).step (w0 := w) (B := w.heap.size) (by go_grown) (by go_size) ?_; intro w' hb hB) | (go_at_call 8; (first | (with_reducible refine (num_int _ (by omega) (by omega)).step (w0 := w) (B := w.heap.size) (by go_grown) (by go_size) ?_) | (with_reducible refine (num_text _).step (w0 := w) (B := w.heap.size) (by go_grown) (by go_size) ?_) | (with_reducible refine (num_bool _).step (w0 := w) (B := w.heap.size) (by go_grown) (by go_size) ?_)); intro w' hb hB) | (go_at_call 16; refine (kind_calls _).step (w0 := w) (B := w.heap.size) (by go_grown) (by go_size) ?_; intro w' hb hB) | (go_at_call 20; refine (yes_calls _).step (w0 := w) (B := w.heap.size) (by go_grown) (by go_size) ?_; intro w' hb hB))
  all_goals
    go_ret
    exact ⟨rfl, by go_grown⟩

theorem cellApart_calls (a b : Int) (s : ByteArray) (h0 : -9223372036854775808 ≤ a) (h1 : a ≤ 9223372036854775807) (g0 : -9223372036854775808 ≤ b) (g1 : b ≤ 9223372036854775807) :
    Gives Try.prog 6 #[.int .i64 a, .int .i64 b, .string s] (.bool true) := by
  by_cases hl : s.size ≤ 100
  · exact cellApart_short a b s h0 h1 g0 g1 hl
  · exact cellApart_long a b s h0 h1 g0 g1 (by omega)

theorem list_nine (s : ByteArray) (h : s.size = 9) : s.data.toList = [s.data.toList.getD 0 0, s.data.toList.getD 1 0, s.data.toList.getD 2 0, s.data.toList.getD 3 0, s.data.toList.getD 4 0,
    s.data.toList.getD 5 0, s.data.toList.getD 6 0, s.data.toList.getD 7 0, s.data.toList.getD 8 0] := by
  have hl : s.data.toList.length = 9 := by rw [Array.length_toList]; exact h
  match hd : s.data.toList, hl with
  | [a, b, c, d, e, f, g, h, i], _ => rfl
theorem byteI_range (s : ByteArray) (i : Nat) : 0 ≤ byteI s i ∧ byteI s i < 256 := byte_range _
theorem byteI_ofNat (s : ByteArray) (i : Nat) : UInt8.ofNat (byteI s i).toNat = s.data.toList.getD i 0 := by
  unfold byteI
  rw [Int.toNat_natCast, UInt8.ofNat_toNat]
theorem numOf_range (s : ByteArray) : -9223372036854775808 ≤ numOf s ∧ numOf s ≤ 9223372036854775807 := by
  have b1 := byteI_range s 1
  have b2 := byteI_range s 2
  have b3 := byteI_range s 3
  have b4 := byteI_range s 4
  have b5 := byteI_range s 5
  have b6 := byteI_range s 6
  have b7 := byteI_range s 7
  have b8 := byteI_range s 8
  unfold numOf offs
  omega
theorem cellInt_numOf (s : ByteArray) (h : isInt s = true) : (cellInt (numOf s)).toList = s.toList := by
  unfold isInt at h
  simp only [Bool.and_eq_true, beq_iff_eq] at h
  obtain ⟨hk, hs⟩ := h
  rw [toList_cellInt, ByteArray.toList_eq, list_nine s hs]
  have b1 := byteI_range s 1
  have b2 := byteI_range s 2
  have b3 := byteI_range s 3
  have b4 := byteI_range s 4
  have b5 := byteI_range s 5
  have b6 := byteI_range s 6
  have b7 := byteI_range s 7
  have b8 := byteI_range s 8
  rw [← byteI_ofNat s 0, ← byteI_ofNat s 1, ← byteI_ofNat s 2, ← byteI_ofNat s 3, ← byteI_ofNat s 4, ← byteI_ofNat s 5, ← byteI_ofNat s 6, ← byteI_ofNat s 7, ← byteI_ofNat s 8]
  have e0 : byteI s 0 = 105 := hk
  rw [e0]
  unfold bytesOf numOf
  generalize byteI s 1 = c1 at *
  generalize byteI s 2 = c2 at *
  generalize byteI s 3 = c3 at *
  generalize byteI s 4 = c4 at *
  generalize byteI s 5 = c5 at *
  generalize byteI s 6 = c6 at *
  generalize byteI s 7 = c7 at *
  generalize byteI s 8 = c8 at *
  have ez : (((((((c1 * 256 + c2) * 256 + c3) * 256 + c4) * 256 + c5) * 256 + c6) * 256 + c7) * 256 + c8) - offs + offs = (((((((c1 * 256 + c2) * 256 + c3) * 256 + c4) * 256 + c5) * 256 + c6) * 256 + c7) * 256 + c8) := by omega
  rw [ez]
  generalize hu : (((((((c1 * 256 + c2) * 256 + c3) * 256 + c4) * 256 + c5) * 256 + c6) * 256 + c7) * 256 + c8) = u
  have d1 : u / 72057594037927936 % 256 = c1 := by omega
  have d2 : u / 281474976710656 % 256 = c2 := by omega
  have d3 : u / 1099511627776 % 256 = c3 := by omega
  have d4 : u / 4294967296 % 256 = c4 := by omega
  have d5 : u / 16777216 % 256 = c5 := by omega
  have d6 : u / 65536 % 256 = c6 := by omega
  have d7 : u / 256 % 256 = c7 := by omega
  have d8 : u % 256 = c8 := by omega
  rw [d1, d2, d3, d4, d5, d6, d7, d8]
  rfl

theorem list_cons (s : ByteArray) (h : s.toList.isEmpty = false) : s.toList = s.data.toList.getD 0 0 :: (s.extract 1 s.size).toList := by
  rw [ByteArray.toList_eq] at *
  rw [Lib.extract_toList]
  cases hd : s.data.toList with
  | nil => rw [hd] at h; exact absurd h (by decide)
  | cons x l =>
    have hl : s.size = l.length + 1 := by
      have := congrArg List.length hd
      rw [Array.length_toList] at this
      exact this
    simp [hl]
theorem first_of (s : ByteArray) (n : Nat) (hn : n < 256) (h : kindI s = n) : s.data.toList.getD 0 0 = UInt8.ofNat n := by
  unfold kindI at h
  rw [← UInt8.toNat_inj, UInt8.toNat_ofNat_of_lt' hn]
  omega
theorem eq_text_tail (s : ByteArray) (h : s.toList.isEmpty = false) : (s.toList == (textCell (s.extract 1 s.size)).toList) = (kindI s == 116) := by
  rw [toList_textCell, list_cons s h]
  have k := u8_of (s.data.toList.getD 0 0) 116 (by decide)
  have k' : (s.data.toList.getD 0 0 == 116) = (kindI s == 116) := k
  rw [List.cons_beq_cons, k']
  simp
theorem not_bool (s : ByteArray) (b : Bool) (h : ¬ kindI s = 98) : (s.toList == (boolCell b).toList) = false := by
  cases hx : s.toList == (boolCell b).toList with
  | false => rfl
  | true =>
    refine absurd ?_ h
    have e := beq_iff_eq.1 hx
    rw [ByteArray.toList_eq, ByteArray.toList_eq] at e
    unfold kindI
    rw [e]
    rfl
theorem not_both (s : ByteArray) (h : (s.toList == (boolCell true).toList) = true) : (s.toList == (boolCell false).toList) = false := by
  have e := beq_iff_eq.1 h
  rw [e, toList_boolCell, toList_boolCell]
  rfl

set_option maxHeartbeats 1000000 in
set_option maxRecDepth 100000 in
theorem cellKinds_long (s : ByteArray) (n : Int) (_h0 : -9223372036854775808 ≤ n) (_h1 : n ≤ 9223372036854775807) (hl : 100 < s.size) :
    Gives Try.prog 5 #[.string s, .int .i64 n] (.bool true) := by
  intro w
  obtain ⟨hb, hB⟩ := start w
  go_enter Try.func5, Try.ntmps5
  go_wp2_with (first | (go_at_call 7; refine (awake_calls).step (w0 := w) (B := w.heap.size) (by go_grown) (by go_size) ?_; intro w' hb hB))
  all_goals
    go_ret
    exact ⟨rfl, by go_grown⟩

set_option maxHeartbeats 1000000 in
set_option maxRecDepth 100000 in
theorem cellKinds_none (s : ByteArray) (n : Int) (h0 : -9223372036854775808 ≤ n) (h1 : n ≤ 9223372036854775807) (he : s.toList.isEmpty = true) (hz : s.size = 0) :
    Gives Try.prog 5 #[.string s, .int .i64 n] (.bool true) := by
  intro w
  obtain ⟨hb, hB⟩ := start w
  have hk := kind_empty s he
  have f0 := not_bool s true (by omega)
  have f1 := not_bool s false (by omega)
  have HI := Lib.hid (show isInt s = false by unfold isInt; rw [hk]; rfl)
  have f3 : rightB s = true := by unfold rightB; rw [he]; rfl
  clear hk
  have k0 := kind_cellInt n
  go_enter Try.func5, Try.ntmps5
  go_wp2_with (first | (go_at_call 7; refine (awake_calls).step (w0 := w) (B := w.heap.size) (by go_grown) (by go_size) ?_; intro w' hb hB) | (go_at_call 10; refine (int_calls _ (by omega) (by omega)).step (w0 := w) (B := w.heap.size) (by go_grown) (by go_size) ?_; intro w' hb hB) | (go_at_call 14; refine (text_calls _ (by first | omega | (rw [ByteArray.size_extract]; omega))).step (w0 := w) (B := w.heap.size) (by go_grown) (by go_size) ?_; intro w' hb hB) | (go_at_call 12; refine (bool_calls _).step (w0 := w) (B := w.heap.size) (by go_grown) (by go_size) ?_; intro w' hb hB) | (go_at_call 8; refine (num_no _ HI.out).step (w0 := w) (B := w.heap.size) (by go_grown) (by go_size) ?_; intro w' hb hB) | (go_at_call 16; refine (kind_calls _).step (w0 := w) (B := w.heap.size) (by go_grown) (by go_size) ?_; intro w' hb hB) | (go_at_call 18; refine (right_calls _).step (w0 := w) (B := w.heap.size) (by go_grown) (by go_size) ?_; intro w' hb hB) | (go_at_call 20; refine (yes_calls _).step (w0 := w) (B := w.heap.size) (by go_grown) (by go_size) ?_; intro w' hb hB))
  all_goals
    go_ret
    exact ⟨rfl, by go_grown⟩

set_option maxHeartbeats 1000000 in
set_option maxRecDepth 100000 in
theorem cellKinds_int (s : ByteArray) (n : Int) (h0 : -9223372036854775808 ≤ n) (h1 : n ≤ 9223372036854775807) (hl : s.size ≤ 100) (hi : isInt s = true) :
    Gives Try.prog 5 #[.string s, .int .i64 n] (.bool true) := by
  intro w
  obtain ⟨hb, hB⟩ := start w
  have hk : kindI s = 105 ∧ s.size = 9 := by unfold isInt at hi; simpa using hi
  have he := kind_some s (by omega)
  have hz : 0 < s.size := by omega
  have hz' : s.size ≤ 17 := by omega
  have f0 := not_bool s true (by omega)
  have f1 := not_bool s false (by omega)
  have f2 := eq_text_tail s he
  rw [hk.1] at f2
  have f2' : (s.toList == (textCell (s.extract 1 s.size)).toList) = false := f2
  have f3 : rightB s = true := by unfold rightB; rw [hk.1, hk.2]; simp
  have f4 := cellInt_numOf s hi
  have HI := Lib.hid hi
  obtain ⟨r0, r1⟩ := numOf_range s
  clear hk hi f2
  have k0 := kind_cellInt n
  go_enter Try.func5, Try.ntmps5
  go_wp2_with (first | (go_at_call 7; refine (awake_calls).step (w0 := w) (B := w.heap.size) (by go_grown) (by go_size) ?_; intro w' hb hB) | (go_at_call 10; refine (int_calls _ (by omega) (by omega)).step (w0 := w) (B := w.heap.size) (by go_grown) (by go_size) ?_; intro w' hb hB) | (go_at_call 14; refine (text_calls _ (by first | omega | (rw [ByteArray.size_extract]; omega))).step (w0 := w) (B := w.heap.size) (by go_grown) (by go_size) ?_; intro w' hb hB) | (go_at_call 12; refine (bool_calls _).step (w0 := w) (B := w.heap.size) (by go_grown) (by go_size) ?_; intro w' hb hB) | (go_at_call 8; refine (num_yes _ HI.out).step (w0 := w) (B := w.heap.size) (by go_grown) (by go_size) ?_; intro w' hb hB) | (go_at_call 16; refine (kind_calls _).step (w0 := w) (B := w.heap.size) (by go_grown) (by go_size) ?_; intro w' hb hB) | (go_at_call 18; refine (right_calls _).step (w0 := w) (B := w.heap.size) (by go_grown) (by go_size) ?_; intro w' hb hB) | (go_at_call 20; refine (yes_calls _).step (w0 := w) (B := w.heap.size) (by go_grown) (by go_size) ?_; intro w' hb hB))
  all_goals
    go_ret
    exact ⟨rfl, by go_grown⟩

set_option maxHeartbeats 1000000 in
set_option maxRecDepth 100000 in
theorem cellKinds_text (s : ByteArray) (n : Int) (h0 : -9223372036854775808 ≤ n) (h1 : n ≤ 9223372036854775807) (hl : s.size ≤ 17) (hz : 0 < s.size) (hk : kindI s = 116) :
    Gives Try.prog 5 #[.string s, .int .i64 n] (.bool true) := by
  intro w
  obtain ⟨hb, hB⟩ := start w
  have he := kind_some s (by omega)
  have f0 := not_bool s true (by omega)
  have f1 := not_bool s false (by omega)
  have f2 : (s.toList == (textCell (s.extract 1 s.size)).toList) = true := by rw [eq_text_tail s he, hk]; rfl
  have f3 : rightB s = true := by unfold rightB; rw [hk]; simp [hl]
  have HI := Lib.hid (show isInt s = false by unfold isInt; rw [hk]; rfl)
  clear hk
  have k0 := kind_cellInt n
  go_enter Try.func5, Try.ntmps5
  go_wp2_with (first | (go_at_call 7; refine (awake_calls).step (w0 := w) (B := w.heap.size) (by go_grown) (by go_size) ?_; intro w' hb hB) | (go_at_call 10; refine (int_calls _ (by omega) (by omega)).step (w0 := w) (B := w.heap.size) (by go_grown) (by go_size) ?_; intro w' hb hB) | (go_at_call 14; refine (text_calls _ (by first | omega | (rw [ByteArray.size_extract]; omega))).step (w0 := w) (B := w.heap.size) (by go_grown) (by go_size) ?_; intro w' hb hB) | (go_at_call 12; refine (bool_calls _).step (w0 := w) (B := w.heap.size) (by go_grown) (by go_size) ?_; intro w' hb hB) | (go_at_call 8; refine (num_no _ HI.out).step (w0 := w) (B := w.heap.size) (by go_grown) (by go_size) ?_; intro w' hb hB) | (go_at_call 16; refine (kind_calls _).step (w0 := w) (B := w.heap.size) (by go_grown) (by go_size) ?_; intro w' hb hB) | (go_at_call 18; refine (right_calls _).step (w0 := w) (B := w.heap.size) (by go_grown) (by go_size) ?_; intro w' hb hB) | (go_at_call 20; refine (yes_calls _).step (w0 := w) (B := w.heap.size) (by go_grown) (by go_size) ?_; intro w' hb hB))
  all_goals
    go_ret
    exact ⟨rfl, by go_grown⟩

set_option maxHeartbeats 1000000 in
set_option maxRecDepth 100000 in
theorem cellKinds_texts (s : ByteArray) (n : Int) (h0 : -9223372036854775808 ≤ n) (h1 : n ≤ 9223372036854775807) (hz : 17 < s.size) (hl : s.size ≤ 100) (hk : ¬ kindI s = 98) (hi : isInt s = false) :
    Gives Try.prog 5 #[.string s, .int .i64 n] (.bool true) := by
  intro w
  obtain ⟨hb, hB⟩ := start w
  have he : s.toList.isEmpty = false := not_empty_of s (by omega)
  have hz' : 0 < s.size := by omega
  have f0 := not_bool s true hk
  have f1 := not_bool s false hk
  have f3 : rightB s = false := by unfold rightB; rw [he]; simp [hk]; omega
  have HI := Lib.hid hi
  clear hk hi
  have k0 := kind_cellInt n
  go_enter Try.func5, Try.ntmps5
  go_wp2_with (first | (go_at_call 7; refine (awake_calls).step (w0 := w) (B := w.heap.size) (by go_grown) (by go_size) ?_; intro w' hb hB) | (go_at_call 10; refine (int_calls _ (by omega) (by omega)).step (w0 := w) (B := w.heap.size) (by go_grown) (by go_size) ?_; intro w' hb hB) | (go_at_call 14; refine (text_calls _ (by first | omega | (rw [ByteArray.size_extract]; omega))).step (w0 := w) (B := w.heap.size) (by go_grown) (by go_size) ?_; intro w' hb hB) | (go_at_call 12; refine (bool_calls _).step (w0 := w) (B := w.heap.size) (by go_grown) (by go_size) ?_; intro w' hb hB) | (go_at_call 8; refine (num_no _ HI.out).step (w0 := w) (B := w.heap.size) (by go_grown) (by go_size) ?_; intro w' hb hB) | (go_at_call 16; refine (kind_calls _).step (w0 := w) (B := w.heap.size) (by go_grown) (by go_size) ?_; intro w' hb hB) | (go_at_call 18; refine (right_calls _).step (w0 := w) (B := w.heap.size) (by go_grown) (by go_size) ?_; intro w' hb hB) | (go_at_call 20; refine (yes_calls _).step (w0 := w) (B := w.heap.size) (by go_grown) (by go_size) ?_; intro w' hb hB))
  all_goals
    go_ret
    exact ⟨rfl, by go_grown⟩

set_option maxHeartbeats 1000000 in
set_option maxRecDepth 100000 in
theorem cellKinds_other (s : ByteArray) (n : Int) (h0 : -9223372036854775808 ≤ n) (h1 : n ≤ 9223372036854775807) (hz : 0 < s.size) (hl : s.size ≤ 17) (hk : ¬ kindI s = 98) (hi : isInt s = false) (hk2 : ¬ kindI s = 116) :
    Gives Try.prog 5 #[.string s, .int .i64 n] (.bool true) := by
  intro w
  obtain ⟨hb, hB⟩ := start w
  have he : s.toList.isEmpty = false := not_empty_of s (by omega)
  have f0 := not_bool s true hk
  have f1 := not_bool s false hk
  have f2 : (s.toList == (textCell (s.extract 1 s.size)).toList) = false := by rw [eq_text_tail s he]; simpa using hk2
  have f3 : rightB s = false := by unfold rightB; unfold isInt at hi; rw [he, hi]; simp [hk, hk2]
  have HI := Lib.hid hi
  clear hk hk2 hi
  have k0 := kind_cellInt n
  go_enter Try.func5, Try.ntmps5
  go_wp2_with (first | (go_at_call 7; refine (awake_calls).step (w0 := w) (B := w.heap.size) (by go_grown) (by go_size) ?_; intro w' hb hB) | (go_at_call 10; refine (int_calls _ (by omega) (by omega)).step (w0 := w) (B := w.heap.size) (by go_grown) (by go_size) ?_; intro w' hb hB) | (go_at_call 14; refine (text_calls _ (by first | omega | (rw [ByteArray.size_extract]; omega))).step (w0 := w) (B := w.heap.size) (by go_grown) (by go_size) ?_; intro w' hb hB) | (go_at_call 12; refine (bool_calls _).step (w0 := w) (B := w.heap.size) (by go_grown) (by go_size) ?_; intro w' hb hB) | (go_at_call 8; refine (num_no _ HI.out).step (w0 := w) (B := w.heap.size) (by go_grown) (by go_size) ?_; intro w' hb hB) | (go_at_call 16; refine (kind_calls _).step (w0 := w) (B := w.heap.size) (by go_grown) (by go_size) ?_; intro w' hb hB) | (go_at_call 18; refine (right_calls _).step (w0 := w) (B := w.heap.size) (by go_grown) (by go_size) ?_; intro w' hb hB) | (go_at_call 20; refine (yes_calls _).step (w0 := w) (B := w.heap.size) (by go_grown) (by go_size) ?_; intro w' hb hB))
  all_goals
    go_ret
    exact ⟨rfl, by go_grown⟩

set_option maxHeartbeats 1000000 in
set_option maxRecDepth 100000 in
theorem cellKinds_true (s : ByteArray) (n : Int) (h0 : -9223372036854775808 ≤ n) (h1 : n ≤ 9223372036854775807) (hz : 0 < s.size) (hl : s.size ≤ 100) (hk : kindI s = 98) (f0 : (s.toList == (boolCell true).toList) = true) :
    Gives Try.prog 5 #[.string s, .int .i64 n] (.bool true) := by
  intro w
  obtain ⟨hb, hB⟩ := start w
  have he : s.toList.isEmpty = false := not_empty_of s (by omega)
  have f1 := not_both s f0
  have f2 : (s.toList == (textCell (s.extract 1 s.size)).toList) = false := by rw [eq_text_tail s he, hk]; rfl
  have f3 : rightB s = _ := (right_bools s hk).symm
  rw [f0, f1] at f3
  have HI := Lib.hid (show isInt s = false by unfold isInt; rw [hk]; rfl)
  clear hk
  have k0 := kind_cellInt n
  go_enter Try.func5, Try.ntmps5
  go_wp2_with (first | (go_at_call 7; refine (awake_calls).step (w0 := w) (B := w.heap.size) (by go_grown) (by go_size) ?_; intro w' hb hB) | (go_at_call 10; refine (int_calls _ (by omega) (by omega)).step (w0 := w) (B := w.heap.size) (by go_grown) (by go_size) ?_; intro w' hb hB) | (go_at_call 14; refine (text_calls _ (by first | omega | (rw [ByteArray.size_extract]; omega))).step (w0 := w) (B := w.heap.size) (by go_grown) (by go_size) ?_; intro w' hb hB) | (go_at_call 12; refine (bool_calls _).step (w0 := w) (B := w.heap.size) (by go_grown) (by go_size) ?_; intro w' hb hB) | (go_at_call 8; refine (num_no _ HI.out).step (w0 := w) (B := w.heap.size) (by go_grown) (by go_size) ?_; intro w' hb hB) | (go_at_call 16; refine (kind_calls _).step (w0 := w) (B := w.heap.size) (by go_grown) (by go_size) ?_; intro w' hb hB) | (go_at_call 18; refine (right_calls _).step (w0 := w) (B := w.heap.size) (by go_grown) (by go_size) ?_; intro w' hb hB) | (go_at_call 20; refine (yes_calls _).step (w0 := w) (B := w.heap.size) (by go_grown) (by go_size) ?_; intro w' hb hB))
  all_goals
    go_ret
    exact ⟨rfl, by go_grown⟩

set_option maxHeartbeats 1000000 in
set_option maxRecDepth 100000 in
theorem cellKinds_false (s : ByteArray) (n : Int) (h0 : -9223372036854775808 ≤ n) (h1 : n ≤ 9223372036854775807) (hz : 0 < s.size) (hl : s.size ≤ 100) (hk : kindI s = 98) (f0 : (s.toList == (boolCell true).toList) = false) (f1 : (s.toList == (boolCell false).toList) = true) :
    Gives Try.prog 5 #[.string s, .int .i64 n] (.bool true) := by
  intro w
  obtain ⟨hb, hB⟩ := start w
  have he : s.toList.isEmpty = false := not_empty_of s (by omega)
  have f2 : (s.toList == (textCell (s.extract 1 s.size)).toList) = false := by rw [eq_text_tail s he, hk]; rfl
  have f3 : rightB s = _ := (right_bools s hk).symm
  rw [f0, f1] at f3
  have HI := Lib.hid (show isInt s = false by unfold isInt; rw [hk]; rfl)
  clear hk
  have k0 := kind_cellInt n
  go_enter Try.func5, Try.ntmps5
  go_wp2_with (first | (go_at_call 7; refine (awake_calls).step (w0 := w) (B := w.heap.size) (by go_grown) (by go_size) ?_; intro w' hb hB) | (go_at_call 10; refine (int_calls _ (by omega) (by omega)).step (w0 := w) (B := w.heap.size) (by go_grown) (by go_size) ?_; intro w' hb hB) | (go_at_call 14; refine (text_calls _ (by first | omega | (rw [ByteArray.size_extract]; omega))).step (w0 := w) (B := w.heap.size) (by go_grown) (by go_size) ?_; intro w' hb hB) | (go_at_call 12; refine (bool_calls _).step (w0 := w) (B := w.heap.size) (by go_grown) (by go_size) ?_; intro w' hb hB) | (go_at_call 8; refine (num_no _ HI.out).step (w0 := w) (B := w.heap.size) (by go_grown) (by go_size) ?_; intro w' hb hB) | (go_at_call 16; refine (kind_calls _).step (w0 := w) (B := w.heap.size) (by go_grown) (by go_size) ?_; intro w' hb hB) | (go_at_call 18; refine (right_calls _).step (w0 := w) (B := w.heap.size) (by go_grown) (by go_size) ?_; intro w' hb hB) | (go_at_call 20; refine (yes_calls _).step (w0 := w) (B := w.heap.size) (by go_grown) (by go_size) ?_; intro w' hb hB))
  all_goals
    go_ret
    exact ⟨rfl, by go_grown⟩

set_option maxHeartbeats 1000000 in
set_option maxRecDepth 100000 in
theorem cellKinds_bool (s : ByteArray) (n : Int) (h0 : -9223372036854775808 ≤ n) (h1 : n ≤ 9223372036854775807) (hz : 0 < s.size) (hl : s.size ≤ 100) (hk : kindI s = 98) (f0 : (s.toList == (boolCell true).toList) = false) (f1 : (s.toList == (boolCell false).toList) = false) :
    Gives Try.prog 5 #[.string s, .int .i64 n] (.bool true) := by
  intro w
  obtain ⟨hb, hB⟩ := start w
  have he : s.toList.isEmpty = false := not_empty_of s (by omega)
  have f2 : (s.toList == (textCell (s.extract 1 s.size)).toList) = false := by rw [eq_text_tail s he, hk]; rfl
  have f3 : rightB s = _ := (right_bools s hk).symm
  rw [f0, f1] at f3
  have HI := Lib.hid (show isInt s = false by unfold isInt; rw [hk]; rfl)
  clear hk
  have k0 := kind_cellInt n
  go_enter Try.func5, Try.ntmps5
  go_wp2_with (first | (go_at_call 7; refine (awake_calls).step (w0 := w) (B := w.heap.size) (by go_grown) (by go_size) ?_; intro w' hb hB) | (go_at_call 10; refine (int_calls _ (by omega) (by omega)).step (w0 := w) (B := w.heap.size) (by go_grown) (by go_size) ?_; intro w' hb hB) | (go_at_call 14; refine (text_calls _ (by first | omega | (rw [ByteArray.size_extract]; omega))).step (w0 := w) (B := w.heap.size) (by go_grown) (by go_size) ?_; intro w' hb hB) | (go_at_call 12; refine (bool_calls _).step (w0 := w) (B := w.heap.size) (by go_grown) (by go_size) ?_; intro w' hb hB) | (go_at_call 8; refine (num_no _ HI.out).step (w0 := w) (B := w.heap.size) (by go_grown) (by go_size) ?_; intro w' hb hB) | (go_at_call 16; refine (kind_calls _).step (w0 := w) (B := w.heap.size) (by go_grown) (by go_size) ?_; intro w' hb hB) | (go_at_call 18; refine (right_calls _).step (w0 := w) (B := w.heap.size) (by go_grown) (by go_size) ?_; intro w' hb hB) | (go_at_call 20; refine (yes_calls _).step (w0 := w) (B := w.heap.size) (by go_grown) (by go_size) ?_; intro w' hb hB))
  all_goals
    go_ret
    exact ⟨rfl, by go_grown⟩

theorem cellKinds_calls (s : ByteArray) (n : Int) (h0 : -9223372036854775808 ≤ n) (h1 : n ≤ 9223372036854775807) :
    Gives Try.prog 5 #[.string s, .int .i64 n] (.bool true) := by
  by_cases hl : s.size ≤ 100
  · by_cases hz : 0 < s.size
    · by_cases hk : kindI s = 98
      · cases f0 : (s.toList == (boolCell true).toList) with
        | true => exact cellKinds_true s n h0 h1 hz hl hk f0
        | false =>
          cases f1 : (s.toList == (boolCell false).toList) with
          | true => exact cellKinds_false s n h0 h1 hz hl hk f0 f1
          | false => exact cellKinds_bool s n h0 h1 hz hl hk f0 f1
      · cases hi : isInt s with
        | true => exact cellKinds_int s n h0 h1 hl hi
        | false =>
          by_cases h17 : s.size ≤ 17
          · by_cases hk2 : kindI s = 116
            · exact cellKinds_text s n h0 h1 h17 hz hk2
            · exact cellKinds_other s n h0 h1 hz h17 hk hi hk2
          · exact cellKinds_texts s n h0 h1 (by omega) hl hk hi
    · exact cellKinds_none s n h0 h1 (empty_of s hz) (by omega)
  · exact cellKinds_long s n h0 h1 (by omega)

end Go.Proofs.Ytoeohknnidpcnaa
