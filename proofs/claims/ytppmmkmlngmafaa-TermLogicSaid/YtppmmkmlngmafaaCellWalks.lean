/- Contracts of the layer cell and of its answer. -/
import Derived.Test.YtppmmkmlngmafaaKit
import Derived.Test.YtppmmkmlngmafaaCellPure
namespace Go.Proofs.Ytppmmkmlngmafaa
open Go Go.RowKit

theorem conv9 (w : World) (T : TypeId) (a b c d e f g h i : Int) :
    (convert 53 9 (.slice (some ⟨w.heap.size, 0, none⟩) 9 9)).run Try.prog
      (w.alloc (.cells #[.int .u8 a, .int .u8 b, .int .u8 c, .int .u8 d, .int .u8 e, .int .u8 f, .int .u8 g, .int .u8 h, .int .u8 i] T)) =
      .ok (.string (strOfNums [a, b, c, d, e, f, g, h, i])) (w.alloc (.cells #[.int .u8 a, .int .u8 b, .int .u8 c, .int .u8 d, .int .u8 e, .int .u8 f, .int .u8 g, .int .u8 h, .int .u8 i] T)) :=
  conv_alloc w 53 5 9 Try.underlying53 Try.underlying5 Try.underlying9 [a, b, c, d, e, f, g, h, i] 9 T

theorem conv2 (w : World) (T : TypeId) (a b : Int) :
    (convert 53 9 (.slice (some ⟨w.heap.size, 0, none⟩) 2 2)).run Try.prog
      (w.alloc (.cells #[.int .u8 a, .int .u8 b] T)) =
      .ok (.string (strOfNums [a, b])) (w.alloc (.cells #[.int .u8 a, .int .u8 b] T)) :=
  conv_alloc w 53 5 9 Try.underlying53 Try.underlying5 Try.underlying9 [a, b] 2 T

theorem conv1 (w : World) (T : TypeId) (a : Int) (b : Nat) (hb : b = w.heap.size) :
    (convert 53 9 (.slice (some ⟨b, 0, none⟩) 1 1)).run Try.prog
      (w.alloc (.cells #[.int .u8 a] T)) =
      .ok (.string (strOfNums [a])) (w.alloc (.cells #[.int .u8 a] T)) := by
  subst hb
  exact conv_alloc w 53 5 9 Try.underlying53 Try.underlying5 Try.underlying9 [a] 1 T

theorem cell9 (U : Int) : strOfNums [105, U / 256 / 256 / 256 / 256 / 256 / 256 / 256 % 256, U / 256 / 256 / 256 / 256 / 256 / 256 % 256, U / 256 / 256 / 256 / 256 / 256 % 256,
    U / 256 / 256 / 256 / 256 % 256, U / 256 / 256 / 256 % 256, U / 256 / 256 % 256, U / 256 % 256, U % 256] = strOfNums (105 :: bytesOf U) := by
  unfold bytesOf
  have h1 : U / 256 / 256 = U / 65536 := by omega
  have h2 : U / 65536 / 256 = U / 16777216 := by omega
  have h3 : U / 16777216 / 256 = U / 4294967296 := by omega
  have h4 : U / 4294967296 / 256 = U / 1099511627776 := by omega
  have h5 : U / 1099511627776 / 256 = U / 281474976710656 := by omega
  have h6 : U / 281474976710656 / 256 = U / 72057594037927936 := by omega
  rw [h1, h2, h3, h4, h5, h6]

set_option maxHeartbeats 400000 in
theorem int_calls (n : Int) (h0 : -9223372036854775808 ≤ n) (h1 : n ≤ 9223372036854775807) :
    Gives Try.prog 21 #[.int .i64 n] (.string (cellInt n)) := by
  intro w
  obtain ⟨hb, hB⟩ := start w
  have hx := Lib.hid (xor_off n h0 h1)
  clear h0 h1
  have hc := conv9
  go_enter Try.func21, Try.ntmps21
  go_wp2
  rw [hx.out]
  generalize hU : n + offs = U
  go_rounds 9
  go_ret
  subst hU
  refine ⟨?_, by go_grown⟩
  rw [cell9]
  rfl

def boolCell (b : Bool) : ByteArray := strOfNums [98, if b then 1 else 0]

set_option maxHeartbeats 400000 in
theorem bool_calls (b : Bool) :
    Gives Try.prog 19 #[.bool b] (.string (boolCell b)) := by
  intro w
  obtain ⟨hb, hB⟩ := start w
  have hc := conv2
  cases b
  · go_enter Try.func19, Try.ntmps19
    go_wp2
    go_ret
    exact ⟨rfl, by go_grown⟩
  · go_enter Try.func19, Try.ntmps19
    go_wp2
    go_ret
    exact ⟨rfl, by go_grown⟩

set_option maxHeartbeats 400000 in
theorem ref_bool_calls (b : Bool) :
    Gives Try.prog 32 #[.bool b] (.string (boolCell b)) := by
  intro w
  obtain ⟨hb, hB⟩ := start w
  cases b
  · go_enter Try.func32, Try.ntmps32
    go_wp2
    go_ret
    exact ⟨rfl, by go_grown⟩
  · go_enter Try.func32, Try.ntmps32
    go_wp2
    go_ret
    exact ⟨rfl, by go_grown⟩

def textCell (s : ByteArray) : ByteArray := ⟨#[116]⟩ ++ s

/-- The first byte, nought if there is none. -/
def kindI (s : ByteArray) : Int := ((s.data.toList.getD 0 0).toNat : Int)

theorem empty_of (s : ByteArray) (h : ¬ 0 < s.size) : s.toList.isEmpty = true := by
  rw [ByteArray.toList_eq]; cases hd : s.data.toList with
  | nil => rfl
  | cons x y => simp [ByteArray.size, ← Array.length_toList, hd] at h
theorem not_empty_of (s : ByteArray) (h : 0 < s.size) : s.toList.isEmpty = false := by
  rw [ByteArray.toList_eq]; cases hd : s.data.toList with
  | nil => simp [ByteArray.size, ← Array.length_toList, hd] at h
  | cons x y => rfl
theorem byte_getD (s : ByteArray) (i : Nat) (h : i < s.size) : s[i] = s.data.toList.getD i 0 := by
  have h' : i < s.data.toList.length := by rw [Array.length_toList]; exact h
  rw [List.getD_eq_getElem?_getD, List.getElem?_eq_getElem h']
  rfl
theorem kindI_nil (s : ByteArray) (h : ¬ 0 < s.size) : 0 = kindI s := by
  have he := empty_of s h
  rw [ByteArray.toList_eq] at he
  unfold kindI
  rw [List.isEmpty_iff.1 he]; rfl

/-- The byte at a place, nought if there is none. -/
def byteI (s : ByteArray) (i : Nat) : Int := ((s.data.toList.getD i 0).toNat : Int)
theorem byteI_eq (s : ByteArray) (i : Nat) (h : i < s.size) : ((s[i].toNat : Nat) : Int) = byteI s i := by rw [byte_getD]; rfl

/-- May a text be a cell? -/
def rightB (s : ByteArray) : Bool :=
  s.toList.isEmpty || (kindI s == 98 && s.size == 2 && (byteI s 1 == 0 || byteI s 1 == 1)) || (kindI s == 105 && s.size == 9) || (kindI s == 116 && decide (s.size ≤ 17))

theorem kind_empty (s : ByteArray) (h : s.toList.isEmpty = true) : kindI s = 0 := by
  rw [ByteArray.toList_eq] at h
  unfold kindI
  rw [List.isEmpty_iff.1 h]; rfl
theorem kind_some (s : ByteArray) (h : ¬ kindI s = 0) : s.toList.isEmpty = false := by
  cases he : s.toList.isEmpty with
  | false => rfl
  | true => exact absurd (kind_empty s he) h

theorem list_two (s : ByteArray) (h : s.size = 2) : s.toList = [s.data.toList.getD 0 0, s.data.toList.getD 1 0] := by
  rw [ByteArray.toList_eq]
  have hl : s.data.toList.length = 2 := by rw [Array.length_toList]; exact h
  match hd : s.data.toList, hl with
  | [a, b], _ => rfl

theorem u8_of (a : UInt8) (n : Nat) (h : n < 256) : (a == UInt8.ofNat n) = ((a.toNat : Int) == (n : Int)) := by
  rw [Bool.eq_iff_iff]
  simp only [beq_iff_eq]
  constructor
  · intro e; rw [e]; simp [Nat.mod_eq_of_lt h]
  · intro e
    have : a.toNat = n := by omega
    rw [← this]; simp

theorem not_two (s : ByteArray) (b : Bool) (h : ¬ s.size = 2) : (s.toList == (boolCell b).toList) = false := by
  cases hx : s.toList == (boolCell b).toList with
  | false => rfl
  | true =>
    refine absurd ?_ h
    have e := congrArg List.length (beq_iff_eq.1 hx)
    rw [ByteArray.toList_eq, ByteArray.toList_eq, Array.length_toList] at e
    exact e

theorem bool_eq (s : ByteArray) (b : Bool) (h : s.size = 2) (h0 : kindI s = 98) : (s.toList == (boolCell b).toList) = (byteI s 1 == if b then 1 else 0) := by
  rw [list_two s h]
  have e0 : s.data.toList.getD 0 0 = 98 := by
    unfold kindI at h0
    have : (s.data.toList.getD 0 0).toNat = 98 := by omega
    rw [← UInt8.toNat_inj, this]; rfl
  rw [e0]
  rw [ByteArray.toList_eq]
  cases b
  · have k := u8_of (s.data.toList.getD 1 0) 0 (by decide)
    show ([98, s.data.toList.getD 1 0] == [98, UInt8.ofNat 0]) = (byteI s 1 == 0)
    simp only [List.cons_beq_cons, k]
    simp [byteI]
  · have k := u8_of (s.data.toList.getD 1 0) 1 (by decide)
    show ([98, s.data.toList.getD 1 0] == [98, UInt8.ofNat 1]) = (byteI s 1 == 1)
    simp only [List.cons_beq_cons, k]
    simp [byteI]

theorem right_bools (s : ByteArray) (h0 : kindI s = 98) : (s.toList == (boolCell false).toList || s.toList == (boolCell true).toList) = rightB s := by
  have he := kind_some s (by omega)
  by_cases h : s.size = 2
  · rw [bool_eq s false h h0, bool_eq s true h h0]
    unfold rightB
    rw [h0, he, h]; simp
  · rw [not_two s _ h, not_two s _ h]
    unfold rightB
    rw [h0, he]; simp [h]

set_option maxHeartbeats 400000 in
theorem yes_calls (s : ByteArray) :
    Gives Try.prog 35 #[.string s] (.bool (s.toList == (boolCell true).toList)) := by
  intro w
  obtain ⟨hb, hB⟩ := start w
  go_enter Try.func35, Try.ntmps35
  go_wp2_with (go_at_call 19; refine (bool_calls _).step (w0 := w) (B := w.heap.size) (by go_grown) (by go_size) ?_; intro w' hb hB)
  go_ret
  exact ⟨rfl, by go_grown⟩

set_option maxHeartbeats 400000 in
theorem ref_yes_calls (s : ByteArray) :
    Gives Try.prog 36 #[.string s] (.bool (s.toList == (boolCell true).toList)) := by
  intro w
  obtain ⟨hb, hB⟩ := start w
  go_enter Try.func36, Try.ntmps36
  go_wp2_with (go_at_call 32; refine (ref_bool_calls _).step (w0 := w) (B := w.heap.size) (by go_grown) (by go_size) ?_; intro w' hb hB)
  go_ret
  exact ⟨rfl, by go_grown⟩

/-- Is a text a number's cell? -/
def isInt (s : ByteArray) : Bool := kindI s == 105 && s.size == 9
def numOf (s : ByteArray) : Int :=
  (((((((byteI s 1 * 256 + byteI s 2) * 256 + byteI s 3) * 256 + byteI s 4) * 256 + byteI s 5) * 256 + byteI s 6) * 256 + byteI s 7) * 256 + byteI s 8) - offs

end Go.Proofs.Ytppmmkmlngmafaa
