/- The walks of the laws of layer 1. -/
import Derived.Test.YtoeohknnidpcnaaCellNum
import Derived.Test.YtoeohknnidpcnaaCellOrder
namespace Go.Proofs.Ytoeohknnidpcnaa
open Go Go.RowKit

theorem right_textCell (s : ByteArray) : rightB (textCell s) = decide (s.size ≤ 16) := by
  have he := kind_some (textCell s) (by rw [kind_textCell]; omega)
  unfold rightB
  rw [kind_textCell, size_textCell, he]
  simp
  omega
theorem right_cellInt (n : Int) : rightB (cellInt n) = true := by
  unfold rightB
  rw [kind_cellInt, size_cellInt]
  simp
theorem right_lit (l : List UInt8) : rightB ⟨l.toArray⟩ = (l.isEmpty || (((l.getD 0 0).toNat : Int) == 98 && l.length == 2 && (((l.getD 1 0).toNat : Int) == 0 || ((l.getD 1 0).toNat : Int) == 1)) ||
    (((l.getD 0 0).toNat : Int) == 105 && l.length == 9) || (((l.getD 0 0).toNat : Int) == 116 && decide (l.length ≤ 17))) := by
  unfold rightB
  rw [ByteArray.toList_eq]
  rfl
theorem boolCell_some (b : Bool) : (boolCell b).toList.isEmpty = false := by rw [ByteArray.toList_eq]; rfl

set_option maxHeartbeats 1000000 in
set_option maxRecDepth 100000 in
theorem awake_calls : Gives Try.prog 7 #[] (.bool true) := by
  intro w
  obtain ⟨hb, hB⟩ := start w
  have r0 : rightB ⟨#[]⟩ = true := (right_lit []).trans rfl
  have r1 : rightB ⟨#[98, 2]⟩ = false := (right_lit [98, 2]).trans (by decide)
  have r2 : rightB ⟨#[120]⟩ = false := (right_lit [120]).trans (by decide)
  have r3 : rightB ⟨#[105]⟩ = false := (right_lit [105]).trans (by decide)
  have r4 : rightB (textCell ⟨#[]⟩) = true := right_textCell _
  have k0 := kind_textCell
  have k1 : kindI ⟨#[]⟩ = 0 := rfl
  have i0 : ((cellInt 0).toList == [105, 128, 0, 0, 0, 0, 0, 0, 0]) = true := by rw [ByteArray.toList_eq]; rfl
  have l0 : Op.bytesLess (cellInt (-1)).toList (cellInt 0).toList = true := less_cellInt _ _ (by omega) (by omega) (by omega) (by omega)
  have l1 : Op.bytesLess (boolCell false).toList (boolCell true).toList = true := by rw [ByteArray.toList_eq, ByteArray.toList_eq]; rfl
  have e0 := boolCell_some
  go_enter Try.func7, Try.ntmps7
  go_wp2_with (first | (go_at_call 10; refine (int_calls _ (by omega) (by omega)).step (w0 := w) (B := w.heap.size) (by go_grown) (by go_size) ?_; intro w' hb hB) | (go_at_call 8; (first | (with_reducible refine (num_int _ (by omega) (by omega)).step (w0 := w) (B := w.heap.size) (by go_grown) (by go_size) ?_) | (with_reducible refine (num_text _).step (w0 := w) (B := w.heap.size) (by go_grown) (by go_size) ?_) | (with_reducible refine (num_bool _).step (w0 := w) (B := w.heap.size) (by go_grown) (by go_size) ?_)); intro w' hb hB) | (go_at_call 14; refine (text_calls _ (by decide)).step (w0 := w) (B := w.heap.size) (by go_grown) (by go_size) ?_; intro w' hb hB) | (go_at_call 12; refine (bool_calls _).step (w0 := w) (B := w.heap.size) (by go_grown) (by go_size) ?_; intro w' hb hB) | (go_at_call 16; refine (kind_calls _).step (w0 := w) (B := w.heap.size) (by go_grown) (by go_size) ?_; intro w' hb hB) | (go_at_call 18; refine (right_calls _).step (w0 := w) (B := w.heap.size) (by go_grown) (by go_size) ?_; intro w' hb hB) | (go_at_call 20; refine (yes_calls _).step (w0 := w) (B := w.heap.size) (by go_grown) (by go_size) ?_; intro w' hb hB))
  go_ret
  exact ⟨rfl, by go_grown⟩

set_option maxHeartbeats 1000000 in
set_option maxRecDepth 100000 in
theorem cellTells_long (n : Int) (s : ByteArray) (yes : Bool) (_h0 : -9223372036854775808 ≤ n) (_h1 : n ≤ 9223372036854775807) (hl : 300 < s.size) :
    Gives Try.prog 3 #[.int .i64 n, .string s, .bool yes] (.bool true) := by
  intro w
  obtain ⟨hb, hB⟩ := start w
  go_enter Try.func3, Try.ntmps3
  go_wp2_with (first | (go_at_call 7; refine (awake_calls).step (w0 := w) (B := w.heap.size) (by go_grown) (by go_size) ?_; intro w' hb hB))
  all_goals
    go_ret
    exact ⟨rfl, by go_grown⟩

set_option maxHeartbeats 1000000 in
set_option maxRecDepth 100000 in
theorem cellTells_yes (n : Int) (s : ByteArray) (yes : Bool) (h0 : -9223372036854775808 ≤ n) (h1 : n ≤ 9223372036854775807) (hl : s.size ≤ 300) (hi : isInt s = true) :
    Gives Try.prog 3 #[.int .i64 n, .string s, .bool yes] (.bool true) := by
  intro w
  obtain ⟨hb, hB⟩ := start w
  have HI := Lib.hid hi
  clear hi
  go_enter Try.func3, Try.ntmps3
  go_wp2_with (first | (go_at_call 7; refine (awake_calls).step (w0 := w) (B := w.heap.size) (by go_grown) (by go_size) ?_; intro w' hb hB) | (go_at_call 10; refine (int_calls _ (by omega) (by omega)).step (w0 := w) (B := w.heap.size) (by go_grown) (by go_size) ?_; intro w' hb hB) | (go_at_call 11; refine (ref_int_calls _ (by omega) (by omega)).step (w0 := w) (B := w.heap.size) (by go_grown) (by go_size) ?_; intro w' hb hB) | (go_at_call 14; refine (text_calls _ (by first | omega | (rw [ByteArray.size_extract]; omega))).step (w0 := w) (B := w.heap.size) (by go_grown) (by go_size) ?_; intro w' hb hB) | (go_at_call 15; refine (ref_text_calls _ (by omega)).step (w0 := w) (B := w.heap.size) (by go_grown) (by go_size) ?_; intro w' hb hB) | (go_at_call 12; refine (bool_calls _).step (w0 := w) (B := w.heap.size) (by go_grown) (by go_size) ?_; intro w' hb hB) | (go_at_call 13; refine (ref_bool_calls _).step (w0 := w) (B := w.heap.size) (by go_grown) (by go_size) ?_; intro w' hb hB) | (go_at_call 16; refine (kind_calls _).step (w0 := w) (B := w.heap.size) (by go_grown) (by go_size) ?_; intro w' hb hB) | (go_at_call 17; refine (ref_kind_calls _).step (w0 := w) (B := w.heap.size) (by go_grown) (by go_size) ?_; intro w' hb hB) | (go_at_call 18; refine (right_calls _).step (w0 := w) (B := w.heap.size) (by go_grown) (by go_size) ?_; intro w' hb hB) | (go_at_call 19; refine (ref_right_calls _).step (w0 := w) (B := w.heap.size) (by go_grown) (by go_size) ?_; intro w' hb hB) | (go_at_call 20; refine (yes_calls _).step (w0 := w) (B := w.heap.size) (by go_grown) (by go_size) ?_; intro w' hb hB) | (go_at_call 21; refine (ref_yes_calls _).step (w0 := w) (B := w.heap.size) (by go_grown) (by go_size) ?_; intro w' hb hB) | (go_at_call 8; refine (num_yes _ HI.out).step (w0 := w) (B := w.heap.size) (by go_grown) (by go_size) ?_; intro w' hb hB) | (go_at_call 9; refine (ref_num_yes _ HI.out).step (w0 := w) (B := w.heap.size) (by go_grown) (by go_size) ?_; intro w' hb hB))
  all_goals
    go_ret
    exact ⟨rfl, by go_grown⟩

set_option maxHeartbeats 1000000 in
set_option maxRecDepth 100000 in
theorem cellTells_no (n : Int) (s : ByteArray) (yes : Bool) (h0 : -9223372036854775808 ≤ n) (h1 : n ≤ 9223372036854775807) (hl : s.size ≤ 300) (hi : isInt s = false) :
    Gives Try.prog 3 #[.int .i64 n, .string s, .bool yes] (.bool true) := by
  intro w
  obtain ⟨hb, hB⟩ := start w
  have HI := Lib.hid hi
  clear hi
  go_enter Try.func3, Try.ntmps3
  go_wp2_with (first | (go_at_call 7; refine (awake_calls).step (w0 := w) (B := w.heap.size) (by go_grown) (by go_size) ?_; intro w' hb hB) | (go_at_call 10; refine (int_calls _ (by omega) (by omega)).step (w0 := w) (B := w.heap.size) (by go_grown) (by go_size) ?_; intro w' hb hB) | (go_at_call 11; refine (ref_int_calls _ (by omega) (by omega)).step (w0 := w) (B := w.heap.size) (by go_grown) (by go_size) ?_; intro w' hb hB) | (go_at_call 14; refine (text_calls _ (by first | omega | (rw [ByteArray.size_extract]; omega))).step (w0 := w) (B := w.heap.size) (by go_grown) (by go_size) ?_; intro w' hb hB) | (go_at_call 15; refine (ref_text_calls _ (by omega)).step (w0 := w) (B := w.heap.size) (by go_grown) (by go_size) ?_; intro w' hb hB) | (go_at_call 12; refine (bool_calls _).step (w0 := w) (B := w.heap.size) (by go_grown) (by go_size) ?_; intro w' hb hB) | (go_at_call 13; refine (ref_bool_calls _).step (w0 := w) (B := w.heap.size) (by go_grown) (by go_size) ?_; intro w' hb hB) | (go_at_call 16; refine (kind_calls _).step (w0 := w) (B := w.heap.size) (by go_grown) (by go_size) ?_; intro w' hb hB) | (go_at_call 17; refine (ref_kind_calls _).step (w0 := w) (B := w.heap.size) (by go_grown) (by go_size) ?_; intro w' hb hB) | (go_at_call 18; refine (right_calls _).step (w0 := w) (B := w.heap.size) (by go_grown) (by go_size) ?_; intro w' hb hB) | (go_at_call 19; refine (ref_right_calls _).step (w0 := w) (B := w.heap.size) (by go_grown) (by go_size) ?_; intro w' hb hB) | (go_at_call 20; refine (yes_calls _).step (w0 := w) (B := w.heap.size) (by go_grown) (by go_size) ?_; intro w' hb hB) | (go_at_call 21; refine (ref_yes_calls _).step (w0 := w) (B := w.heap.size) (by go_grown) (by go_size) ?_; intro w' hb hB) | (go_at_call 8; refine (num_no _ HI.out).step (w0 := w) (B := w.heap.size) (by go_grown) (by go_size) ?_; intro w' hb hB) | (go_at_call 9; refine (ref_num_no _ HI.out).step (w0 := w) (B := w.heap.size) (by go_grown) (by go_size) ?_; intro w' hb hB))
  all_goals
    go_ret
    exact ⟨rfl, by go_grown⟩

theorem cellTells_calls (n : Int) (s : ByteArray) (yes : Bool) (h0 : -9223372036854775808 ≤ n) (h1 : n ≤ 9223372036854775807) :
    Gives Try.prog 3 #[.int .i64 n, .string s, .bool yes] (.bool true) := by
  by_cases hl : s.size ≤ 300
  · cases hi : isInt s with
    | true => exact cellTells_yes n s yes h0 h1 hl hi
    | false => exact cellTells_no n s yes h0 h1 hl hi
  · exact cellTells_long n s yes h0 h1 (by omega)

theorem toList_textCell (s : ByteArray) : (textCell s).toList = 116 :: s.toList := by
  rw [ByteArray.toList_eq, ByteArray.toList_eq]
  unfold textCell
  simp
theorem toList_cellInt (n : Int) : (cellInt n).toList = 105 :: (bytesOf (n + offs)).map fun n => UInt8.ofNat n.toNat := by
  rw [ByteArray.toList_eq]; rfl
theorem toList_boolCell (b : Bool) : (boolCell b).toList = [98, if b then 1 else 0] := by
  rw [ByteArray.toList_eq]; cases b <;> rfl
theorem less_textCell (s t : ByteArray) : Op.bytesLess (textCell s).toList (textCell t).toList = Op.bytesLess s.toList t.toList := by
  rw [toList_textCell, toList_textCell]; simp [Op.bytesLess]
theorem eq_textCell (s t : ByteArray) : ((textCell s).toList == (textCell t).toList) = (s.toList == t.toList) := by
  rw [toList_textCell, toList_textCell]; simp
theorem less_nil_int (n : Int) : Op.bytesLess [] (cellInt n).toList = true := by rw [toList_cellInt]; rfl
theorem less_nil_text (s : ByteArray) : Op.bytesLess [] (textCell s).toList = true := by rw [toList_textCell]; rfl
theorem less_bool_int (b : Bool) (n : Int) : Op.bytesLess (boolCell b).toList (cellInt n).toList = true := by rw [toList_cellInt, toList_boolCell]; rfl
theorem less_int_text (n : Int) (s : ByteArray) : Op.bytesLess (cellInt n).toList (textCell s).toList = true := by rw [toList_cellInt, toList_textCell]; rfl
theorem right_textCell' (s : ByteArray) : rightB (textCell s) = decide ((s.size : Int) ≤ 16) := by
  rw [right_textCell]; exact decide_eq_decide.2 (by omega)

set_option maxHeartbeats 1000000 in
set_option maxRecDepth 100000 in
theorem cellOrder_long1 (a b : Int) (s t : ByteArray) (_h0 : -9223372036854775808 ≤ a) (_h1 : a ≤ 9223372036854775807) (_g0 : -9223372036854775808 ≤ b) (_g1 : b ≤ 9223372036854775807) (hl : 100 < s.size) :
    Gives Try.prog 4 #[.int .i64 a, .int .i64 b, .agg #[.string s, .string t]] (.bool true) := by
  intro w
  obtain ⟨hb, hB⟩ := start w
  go_enter Try.func4, Try.ntmps4
  go_wp2_with fail
  go_region
  all_goals
    go_wp2_with (first | (go_at_call 7; refine (awake_calls).step (w0 := w) (B := w.heap.size) (by go_grown) (by go_size) ?_; intro w' hb hB))
    go_ret
    exact ⟨rfl, by go_grown⟩

set_option maxHeartbeats 1000000 in
set_option maxRecDepth 100000 in
theorem cellOrder_long2 (a b : Int) (s t : ByteArray) (_h0 : -9223372036854775808 ≤ a) (_h1 : a ≤ 9223372036854775807) (_g0 : -9223372036854775808 ≤ b) (_g1 : b ≤ 9223372036854775807) (hk : s.size ≤ 100) (hl : 100 < t.size) :
    Gives Try.prog 4 #[.int .i64 a, .int .i64 b, .agg #[.string s, .string t]] (.bool true) := by
  intro w
  obtain ⟨hb, hB⟩ := start w
  go_enter Try.func4, Try.ntmps4
  go_wp2_with fail
  go_region
  all_goals
    go_wp2_with (first | (go_at_call 7; refine (awake_calls).step (w0 := w) (B := w.heap.size) (by go_grown) (by go_size) ?_; intro w' hb hB))
    go_ret
    exact ⟨rfl, by go_grown⟩

set_option maxHeartbeats 1000000 in
set_option maxRecDepth 100000 in
theorem cellOrder_short (a b : Int) (s t : ByteArray) (h0 : -9223372036854775808 ≤ a) (h1 : a ≤ 9223372036854775807) (g0 : -9223372036854775808 ≤ b) (g1 : b ≤ 9223372036854775807) (hk : s.size ≤ 100) (hl : t.size ≤ 100) :
    Gives Try.prog 4 #[.int .i64 a, .int .i64 b, .agg #[.string s, .string t]] (.bool true) := by
  intro w
  obtain ⟨hb, hB⟩ := start w
  have f0 := less_cellInt a b h0 h1 g0 g1
  have f1 := eq_cellInt a b h0 h1 g0 g1
  have f2 := less_textCell s t
  have f3 := eq_textCell s t
  have f4 := less_nil_int a
  have f5 := less_nil_text s
  have f6 := less_bool_int true a
  have f7 := less_int_text a s
  have f8 := right_cellInt a
  have f9 := right_textCell' s
  go_enter Try.func4, Try.ntmps4
  go_wp2_with fail
  go_region
  all_goals
    go_wp2_with (first | (go_at_call 7; refine (awake_calls).step (w0 := w) (B := w.heap.size) (by go_grown) (by go_size) ?_; intro w' hb hB) | (go_at_call 10; refine (int_calls _ (by omega) (by omega)).step (w0 := w) (B := w.heap.size) (by go_grown) (by go_size) ?_; intro w' hb hB) | (go_at_call 14; refine (text_calls _ (by first | omega | (rw [ByteArray.size_extract]; omega))).step (w0 := w) (B := w.heap.size) (by go_grown) (by go_size) ?_; intro w' hb hB) | (go_at_call 12; refine (bool_calls _).step (w0 := w) (B := w.heap.size) (by go_grown) (by go_size) ?_; intro w' hb hB) | (go_at_call 8; (first | (with_reducible refine (num_int _ (by omega) (by omega)).step (w0 := w) (B := w.heap.size) (by go_grown) (by go_size) ?_) | (with_reducible refine (num_text _).step (w0 := w) (B := w.heap.size) (by go_grown) (by go_size) ?_) | (with_reducible refine (num_bool _).step (w0 := w) (B := w.heap.size) (by go_grown) (by go_size) ?_)); intro w' hb hB) | (go_at_call 18; refine (right_calls _).step (w0 := w) (B := w.heap.size) (by go_grown) (by go_size) ?_; intro w' hb hB))
    go_ret
    exact ⟨rfl, by go_grown⟩

theorem cellOrder_calls (a b : Int) (s t : ByteArray) (h0 : -9223372036854775808 ≤ a) (h1 : a ≤ 9223372036854775807) (g0 : -9223372036854775808 ≤ b) (g1 : b ≤ 9223372036854775807) :
    Gives Try.prog 4 #[.int .i64 a, .int .i64 b, .agg #[.string s, .string t]] (.bool true) := by
  by_cases hk : s.size ≤ 100
  · by_cases hl : t.size ≤ 100
    · exact cellOrder_short a b s t h0 h1 g0 g1 hk hl
    · exact cellOrder_long2 a b s t h0 h1 g0 g1 hk (by omega)
  · exact cellOrder_long1 a b s t h0 h1 g0 g1 (by omega)

end Go.Proofs.Ytoeohknnidpcnaa
