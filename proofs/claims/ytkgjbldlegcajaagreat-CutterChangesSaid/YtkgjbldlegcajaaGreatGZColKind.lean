/- The contract of layer 8's Kind. -/
import Derived.Test.YtkgjbldlegcajaaGreatGCell
import Derived.Test.YtkgjbldlegcajaaGreatGStrs
namespace Go.Proofs.YtkgjbldlegcajaaGreat
open Go Go.RowKit
def fitsB (c : ByteArray) (kind : Int) (null : Bool) : Bool := if c = ⟨#[]⟩ then null else rightB c && (kindI c == kind)
def kindL (l : List ByteArray) (kind : Int) (null : Bool) : Bool := l.all fun c => fitsB c kind null
set_option maxHeartbeats 400000 in
theorem fits_calls (c : ByteArray) (kind : Int) (null : Bool) : Gives Tryz.prog 139 #[.string c, .int .u8 kind, .bool null] (.bool (fitsB c kind null)) := by
 intro w
 obtain ⟨hb, hB⟩ := start w
 have HR := Lib.hid (right_calls c)
 have HK := Lib.hid (kind_calls c)
 by_cases he : c = ⟨#[]⟩
 ·have HF : Hid (fitsB c kind null = null) := if_pos he
  have h1 : c.toList.isEmpty = true := by rw [he, empty_toList]; rfl
  clear he
  go_enter Tryz.func139, Tryz.ntmps139
  go_wp2
  go_ret
  exact ⟨ret_bool HF.out.symm, hb⟩
 ·have HF : Hid (fitsB c kind null = (rightB c && (kindI c == kind))) := if_neg he
  have h1 : c.toList.isEmpty = false := by
   rw [ByteArray.toList_eq]
   cases hd : c.data.toList with
   | nil => exact absurd (bytes_ext hd) he
   | cons x l => rfl
  clear he
  generalize rightB c = r at *
  generalize kindI c = k at *
  cases r with
  | true =>
   go_enter Tryz.func139, Tryz.ntmps139
   go_wp2_with (first | (go_at_call 157; refine HR.out.step (w0 := w) (B := w.heap.size) hb hB ?_; clear hb hB; intro w1 hb hB) | (go_at_call 158; refine HK.out.step (w0 := w) (B := w.heap.size) hb hB ?_; clear hb hB; intro w2 hb hB))
   go_ret
   exact ⟨ret_bool (by rw [HF.out, Bool.true_and]), hb⟩
  | false =>
   go_enter Tryz.func139, Tryz.ntmps139
   go_wp2_with (go_at_call 157; refine HR.out.step (w0 := w) (B := w.heap.size) hb hB ?_; clear hb hB; intro w1 hb hB)
   go_ret
   exact ⟨ret_bool (by rw [HF.out, Bool.false_and]), hb⟩
set_option maxHeartbeats 400000 in
theorem kindL_calls {w : World} {v : Value} {l : List ByteArray} (h : StrsIn w v l) (kind : Int) (null : Bool) : GivesAt Tryz.prog 112 #[v, .int .u8 kind, .bool null] w (.bool (kindL l kind null)) := by
 have hm := h.len
 unfold maxLen at hm
 obtain ⟨hb, hB⟩ := start w
 obtain ⟨A, cap, rfl, hat⟩ := one_at h
 have HAT := Lib.hid hat
 clear h hat
 unfold GivesAt
 go_enter Tryz.func112, Tryz.ntmps112
 go_wp2
 go_loopw [11] (fun i wr => ∃ k : Nat, k ≤ l.length ∧ i = .int .i64 k ∧ Hid (∀ c ∈ l.take k, fitsB c kind null = true) ∧ Below w.heap.size w wr) (fun i _ => l.length - (intOf i).toNat)
 case atStart => exact ⟨0, Nat.zero_le _, rfl, fun c hc => absurd hc (by simp), hb⟩
 case round =>
  clear hb hB
  obtain ⟨k, hk, rfl, HS, hb⟩ := hrel
  have hB := hb.size
  by_cases hlt : k < l.length
  ·obtain ⟨b, off, rfl, hbl, hc⟩ := HAT.out k hlt
   have hx := (hb.cell (p := ⟨b, off + k, none⟩) hbl).trans (hc k hlt)
   have HT := Lib.hid (take_add l k hlt)
   have HM := Lib.hid (List.getElem_mem hlt)
   clear hc
   generalize l[k] = c at *
   have HN := Lib.hid (fits_calls c kind null)
   cases hi : fitsB c kind null with
   | true =>
    rw [hi] at HN
    have HI := Lib.hid hi
    clear hi
    go_wp2_with (go_at_call 139; refine HN.out.step (w0 := w) (B := w.heap.size) hb hB ?_; clear hb hB hx; intro w' hb hB)
    go_roundw
    case rel => exact ⟨k + 1, by omega, by go_num, fun d hd => by
     rw [HT.out] at hd
     rcases List.mem_append.1 hd with hd | hd
     ·exact HS.out d hd
     ·rw [List.mem_singleton.1 hd]; exact HI.out, hb⟩
    case measure => simp [intOf]; omega
   | false =>
    rw [hi] at HN
    have HD : Hid (kindL l kind null = false) := by
     show _ = _
     unfold kindL
     rw [List.all_eq_false]
     exact ⟨c, HM.out, by rw [hi]; decide⟩
    clear hi
    go_wp2_with (go_at_call 139; refine HN.out.step (w0 := w) (B := w.heap.size) hb hB ?_; clear hb hB hx; intro w' hb hB)
    go_ret
    exact ⟨ret_bool HD.out.symm, hb⟩
  ·obtain rfl : k = l.length := by omega
   rw [List.take_length] at HS
   have HD : Hid (kindL l kind null = true) := by show _ = _; unfold kindL; rw [List.all_eq_true]; exact HS.out
   go_wp2
   go_ret
   exact ⟨ret_bool HD.out.symm, hb⟩
end Go.Proofs.YtkgjbldlegcajaaGreat
