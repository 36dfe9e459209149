/- Plain facts on texts in order: no program. -/
import Derived.Test.YtnkhkkdmjabhnaaGBase
import Derived.WalkKit
import Derived.ProofKit
namespace Go.Proofs.Ytnkhkkdmjabhnaa
open Go
def offs:Int:=9223372036854775808
theorem conv_alloc {P:Program}(w:World)(src e dst:TypeId)(hs:P.underlying src=some (.slice e))(he:P.underlying e=some (.int .u8))(hd:P.underlying dst=some .string)
  (xs:List Int) (c:Nat) (T:TypeId) :
  (convert src dst (.slice (some ⟨w.heap.size,0,none⟩) xs.length c)).run P (w.alloc (.cells (xs.map (Value.int .u8)).toArray T)) =
   .ok (.string (strOfNums xs)) (w.alloc (.cells (xs.map (Value.int .u8)).toArray T)):=by
 refine run_convert_bytes_arg _ src e hs he w.heap.size 0 xs.length c xs rfl (fun i hi=>?_) dst hd
 simp [go_sem,hi]
open Go Go.RowKit
theorem conv2 (w:World)(T:TypeId)(a b:Int) :
  (convert 42 9 (.slice (some ⟨w.heap.size,0,none⟩) 2 2)).run Try.prog
   (w.alloc (.cells #[.int .u8 a,.int .u8 b] T)) =
   .ok (.string (strOfNums [a,b])) (w.alloc (.cells #[.int .u8 a,.int .u8 b] T)) :=
 conv_alloc w 42 5 9 Try.underlying42 Try.underlying5 Try.underlying9 [a,b] 2 T
def boolCell (b:Bool):ByteArray:=strOfNums [98,if b then 1 else 0]
set_option maxHeartbeats 400000 in
theorem bool_calls (b:Bool) :
  Gives Try.prog 36 #[.bool b] (.string (boolCell b)):=by
 intro w
 obtain ⟨hb,hB⟩:=start w
 have hc:=conv2
 cases b
 ·go_enter Try.func36,Try.ntmps36
  go_wp2
  go_ret
  exact ⟨rfl,by go_grown⟩
 ·go_enter Try.func36,Try.ntmps36
  go_wp2
  go_ret
  exact ⟨rfl,by go_grown⟩
set_option maxHeartbeats 400000 in
theorem ref_bool_calls (b:Bool) :
  Gives Try.prog 37 #[.bool b] (.string (boolCell b)):=by
 intro w
 obtain ⟨hb,hB⟩:=start w
 cases b
 ·go_enter Try.func37,Try.ntmps37
  go_wp2
  go_ret
  exact ⟨rfl,by go_grown⟩
 ·go_enter Try.func37,Try.ntmps37
  go_wp2
  go_ret
  exact ⟨rfl,by go_grown⟩
theorem not_empty_of (s:ByteArray)(h:0 < s.size):s.toList.isEmpty=false:=by
 rw [ByteArray.toList_eq];cases hd:s.data.toList with
 | nil=>simp [ByteArray.size,←Array.length_toList,hd] at h
 | cons x y=>rfl
theorem list_two (s:ByteArray)(h:s.size=2):s.toList=[s.data.toList.getD 0 0,s.data.toList.getD 1 0]:=by
 rw [ByteArray.toList_eq]
 have hl:s.data.toList.length=2:=by rw [Array.length_toList];exact h
 match hd:s.data.toList,hl with
 | [a,b],_=>rfl
set_option maxHeartbeats 400000 in
theorem yes_calls (s:ByteArray) :
  Gives Try.prog 20 #[.string s] (.bool (s.toList==(boolCell true).toList)):=by
 intro w
 obtain ⟨hb,hB⟩:=start w
 go_enter Try.func20,Try.ntmps20
 go_wp2_with (go_at_call 36;refine (bool_calls _).step (w0:=w) (B:=w.heap.size) (by go_grown) (by go_size) ?_;intro w' hb hB)
 go_ret
 exact ⟨rfl,by go_grown⟩
set_option maxHeartbeats 400000 in
theorem ref_yes_calls (s:ByteArray) :
  Gives Try.prog 48 #[.string s] (.bool (s.toList==(boolCell true).toList)):=by
 intro w
 obtain ⟨hb,hB⟩:=start w
 go_enter Try.func48,Try.ntmps48
 go_wp2_with (go_at_call 37;refine (ref_bool_calls _).step (w0:=w) (B:=w.heap.size) (by go_grown) (by go_size) ?_;intro w' hb hB)
 go_ret
 exact ⟨rfl,by go_grown⟩
theorem ba_ext {a b:ByteArray}(h:a.data.toList=b.data.toList):a=b:=by
 cases a with|mk x=>cases b with|mk y=>cases x;cases y;cases h;rfl
theorem bl_irrefl:∀ a:List UInt8,Op.bytesLess a a=false
 | []=>rfl
 | x::a=>by simp [Op.bytesLess,bl_irrefl a]
theorem bl_trans:∀ a b c:List UInt8,Op.bytesLess a b=true→Op.bytesLess b c=true→Op.bytesLess a c=true
 | _,_,[],_,h=>by simp [Op.bytesLess] at h
 | _,[],_::_,h,_=>by simp [Op.bytesLess] at h
 | [],_::_,_::_,_,_=>rfl
 | x::a,y::b,z::c,h,k=>by
  simp only [Op.bytesLess,Bool.or_eq_true,Bool.and_eq_true,decide_eq_true_eq,beq_iff_eq] at h k ⊢
  rcases h with h | ⟨rfl,h⟩
  ·rcases k with k | ⟨rfl,_⟩
   ·left;rw [UInt8.lt_iff_toNat_lt] at *;omega
   ·left;exact h
  ·rcases k with k | ⟨rfl,k⟩
   ·left;exact k
   ·right;exact ⟨rfl,bl_trans a b c h k⟩
theorem bl_tri:∀ a b:List UInt8,Op.bytesLess a b=false→Op.bytesLess b a=false→a=b
 | [],[],_,_=>rfl
 | [],_::_,h,_=>by simp [Op.bytesLess] at h
 | _::_,[],_,h=>by simp [Op.bytesLess] at h
 | x::a,y::b,h,k=>by
  simp only [Op.bytesLess,Bool.or_eq_false_iff,Bool.and_eq_false_iff,decide_eq_false_iff_not,beq_eq_false_iff_ne] at h k
  obtain ⟨h1,h2⟩:=h
  obtain ⟨k1,k2⟩:=k
  have hxy:x=y:=by
   rw [UInt8.lt_iff_toNat_lt] at h1 k1
   rw [←UInt8.toNat_inj]
   omega
  subst hxy
  have h3:Op.bytesLess a b=false:=by
   rcases h2 with h2|h2
   ·exact absurd rfl h2
   ·exact h2
  have k3:Op.bytesLess b a=false:=by
   rcases k2 with k2|k2
   ·exact absurd rfl k2
   ·exact k2
  rw [bl_tri a b h3 k3]
def ltB (a b:ByteArray):Bool:=Op.bytesLess a.toList b.toList
theorem ltB_irrefl (a:ByteArray):ltB a a=false:=bl_irrefl _
theorem ltB_trans {a b c:ByteArray}(h:ltB a b=true)(k:ltB b c=true):ltB a c=true:=bl_trans _ _ _ h k
theorem ltB_tri {a b:ByteArray}(h:ltB a b=false)(k:ltB b a=false):a=b:=by
 have:=bl_tri _ _ h k
 rw [ByteArray.toList_eq,ByteArray.toList_eq] at this
 exact ba_ext this
theorem ltB_asym {a b:ByteArray}(h:ltB a b=true):ltB b a=false:=by
 cases hb:ltB b a with
 | false=>rfl
 | true=>have:=ltB_trans h hb;rw [ltB_irrefl] at this;exact this.symm
theorem ltB_ne {a b:ByteArray}(h:ltB a b=true):a≠b:=by rintro rfl;rw [ltB_irrefl] at h;exact absurd h (by decide)
end Go.Proofs.Ytnkhkkdmjabhnaa
