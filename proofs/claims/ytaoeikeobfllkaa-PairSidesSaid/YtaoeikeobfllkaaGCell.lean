/- Contracts of Num, of the layer cell and of its answer. -/
import Derived.Test.YtaoeikeobfllkaaGBase
import Derived.WalkKit
import Derived.ProofKit
namespace Go.Proofs.Ytaoeikeobfllkaa
open Go
def offs:Int:=9223372036854775808
def bytesOf (u:Int):List Int :=
 [u / 72057594037927936 % 256,u / 281474976710656 % 256,u / 1099511627776 % 256,u / 4294967296 % 256,u / 16777216 % 256,u / 65536 % 256,u / 256 % 256,u % 256]
def cellInt (n:Int):ByteArray:=strOfNums (105::bytesOf (n+offs))
theorem xor_nat (a:Nat)(h:a < 18446744073709551616):a ^^^ 9223372036854775808=if a < 9223372036854775808 then a+9223372036854775808 else a-9223372036854775808:=by
 have hm:=Nat.xor_mod_two_pow (a:=a) (b:=9223372036854775808) (n:=63)
 have hd:=Nat.xor_div_two_pow (a:=a) (b:=9223372036854775808) (n:=63)
 have e63:(2:Nat) ^ 63=9223372036854775808:=by decide
 rw [e63] at hm hd
 have em:(9223372036854775808:Nat) % 9223372036854775808=0:=by decide
 have ed:(9223372036854775808:Nat) / 9223372036854775808=1:=by decide
 rw [em,Nat.xor_zero] at hm
 rw [ed] at hd
 have hdm:=Nat.div_add_mod (a ^^^ 9223372036854775808) 9223372036854775808
 split
 ·have:a / 9223372036854775808=0:=by omega
  rw [this] at hd
  have h1:(0 ^^^ 1:Nat)=1:=by decide
  rw [h1] at hd
  omega
 ·have:a / 9223372036854775808=1:=by omega
  rw [this] at hd
  have h1:(1 ^^^ 1:Nat)=0:=by decide
  rw [h1] at hd
  omega
theorem xor_off (n:Int)(h0 : -9223372036854775808≤n)(h1:n≤9223372036854775807) :
  bits .xor .u64 (IntKind.u64.wrap n) 9223372036854775808=n+offs:=by
 rw [IntKind.wrap_u64]
 have e:n % 18446744073709551616=(((n % 18446744073709551616).toNat:Nat):Int):=by omega
 have k:=bits_xor_u64_nat (n % 18446744073709551616).toNat 9223372036854775808 (by omega) (by omega)
 rw [xor_nat _ (by omega)] at k
 rw [e]
 refine Eq.trans k ?_
 unfold offs
 split <;> omega
theorem conv_alloc {P:Program}(w:World)(src e dst:TypeId)(hs:P.underlying src=some (.slice e))(he:P.underlying e=some (.int .u8))(hd:P.underlying dst=some .string)
  (xs:List Int) (c:Nat) (T:TypeId) :
  (convert src dst (.slice (some ⟨w.heap.size,0,none⟩) xs.length c)).run P (w.alloc (.cells (xs.map (Value.int .u8)).toArray T)) =
   .ok (.string (strOfNums xs)) (w.alloc (.cells (xs.map (Value.int .u8)).toArray T)):=by
 refine run_convert_bytes_arg _ src e hs he w.heap.size 0 xs.length c xs rfl (fun i hi=>?_) dst hd
 simp [go_sem,hi]
open Go Go.RowKit
theorem ba_ext {a b:ByteArray}(h:a.data.toList=b.data.toList):a=b:=by
 cases a with|mk x=>cases b with|mk y=>cases x;cases y;cases h;rfl
theorem bl_irrefl:∀ a:List UInt8,Op.bytesLess a a=false
 | []=>rfl
 | x::a=>by simp [Op.bytesLess,bl_irrefl a]
theorem bl_trans:∀ a b c:List UInt8,Op.bytesLess a b=true→Op.bytesLess b c=true→Op.bytesLess a c=true
 | _,_,[],_,h=>by simp [Op.bytesLess] at h
 | _,[],_::_,h,_=>by simp [Op.bytesLess] at h
 | [],_::_,_::_,_,_=>rfl
 | x::a,y::b,z::c,h,k=>by
  simp only [Op.bytesLess,Bool.or_eq_true,Bool.and_eq_true,decide_eq_true_eq,beq_iff_eq] at h k ⊢
  rcases h with h | ⟨rfl,h⟩
  ·rcases k with k | ⟨rfl,_⟩
   ·left;rw [UInt8.lt_iff_toNat_lt] at *;omega
   ·left;exact h
  ·rcases k with k | ⟨rfl,k⟩
   ·left;exact k
   ·right;exact ⟨rfl,bl_trans a b c h k⟩
theorem bl_tri:∀ a b:List UInt8,Op.bytesLess a b=false→Op.bytesLess b a=false→a=b
 | [],[],_,_=>rfl
 | [],_::_,h,_=>by simp [Op.bytesLess] at h
 | _::_,[],_,h=>by simp [Op.bytesLess] at h
 | x::a,y::b,h,k=>by
  simp only [Op.bytesLess,Bool.or_eq_false_iff,Bool.and_eq_false_iff,decide_eq_false_iff_not,beq_eq_false_iff_ne] at h k
  obtain ⟨h1,h2⟩:=h
  obtain ⟨k1,k2⟩:=k
  have hxy:x=y:=by
   rw [UInt8.lt_iff_toNat_lt] at h1 k1
   rw [←UInt8.toNat_inj]
   omega
  subst hxy
  have h3:Op.bytesLess a b=false:=by
   rcases h2 with h2|h2
   ·exact absurd rfl h2
   ·exact h2
  have k3:Op.bytesLess b a=false:=by
   rcases k2 with k2|k2
   ·exact absurd rfl k2
   ·exact k2
  rw [bl_tri a b h3 k3]
def ltB (a b:ByteArray):Bool:=Op.bytesLess a.toList b.toList
theorem ltB_irrefl (a:ByteArray):ltB a a=false:=bl_irrefl _
theorem ltB_trans {a b c:ByteArray}(h:ltB a b=true)(k:ltB b c=true):ltB a c=true:=bl_trans _ _ _ h k
theorem ltB_tri {a b:ByteArray}(h:ltB a b=false)(k:ltB b a=false):a=b:=by
 have:=bl_tri _ _ h k
 rw [ByteArray.toList_eq,ByteArray.toList_eq] at this
 exact ba_ext this
theorem ltB_asym {a b:ByteArray}(h:ltB a b=true):ltB b a=false:=by
 cases hb:ltB b a with
 | false=>rfl
 | true=>have:=ltB_trans h hb;rw [ltB_irrefl] at this;exact this.symm
theorem ltB_ne {a b:ByteArray}(h:ltB a b=true):a≠b:=by rintro rfl;rw [ltB_irrefl] at h;exact absurd h (by decide)
theorem conv9 (w:World)(T:TypeId)(a b c d e f g h i:Int) :
  (convert 57 9 (.slice (some ⟨w.heap.size,0,none⟩) 9 9)).run Try.prog
   (w.alloc (.cells #[.int .u8 a,.int .u8 b,.int .u8 c,.int .u8 d,.int .u8 e,.int .u8 f,.int .u8 g,.int .u8 h,.int .u8 i] T)) =
   .ok (.string (strOfNums [a,b,c,d,e,f,g,h,i])) (w.alloc (.cells #[.int .u8 a,.int .u8 b,.int .u8 c,.int .u8 d,.int .u8 e,.int .u8 f,.int .u8 g,.int .u8 h,.int .u8 i] T)) :=
 conv_alloc w 57 5 9 Try.underlying57 Try.underlying5 Try.underlying9 [a,b,c,d,e,f,g,h,i] 9 T
theorem cell9 (U:Int):strOfNums [105,U / 256 / 256 / 256 / 256 / 256 / 256 / 256 % 256,U / 256 / 256 / 256 / 256 / 256 / 256 % 256,U / 256 / 256 / 256 / 256 / 256 % 256,
  U / 256 / 256 / 256 / 256 % 256,U / 256 / 256 / 256 % 256,U / 256 / 256 % 256,U / 256 % 256,U % 256]=strOfNums (105::bytesOf U):=by
 unfold bytesOf
 have h1:U / 256 / 256=U / 65536:=by omega
 have h2:U / 65536 / 256=U / 16777216:=by omega
 have h3:U / 16777216 / 256=U / 4294967296:=by omega
 have h4:U / 4294967296 / 256=U / 1099511627776:=by omega
 have h5:U / 1099511627776 / 256=U / 281474976710656:=by omega
 have h6:U / 281474976710656 / 256=U / 72057594037927936:=by omega
 rw [h1,h2,h3,h4,h5,h6]
set_option maxHeartbeats 400000 in
theorem int_calls (n:Int)(h0 : -9223372036854775808≤n)(h1:n≤9223372036854775807) :
  Gives Try.prog 17 #[.int .i64 n] (.string (cellInt n)):=by
 intro w
 obtain ⟨hb,hB⟩:=start w
 have hx:=Lib.hid (xor_off n h0 h1)
 clear h0 h1
 have hc:=conv9
 go_enter Try.func17,Try.ntmps17
 go_wp2
 rw [hx.out]
 generalize hU:n+offs=U
 go_rounds 9
 go_ret
 subst hU
 refine ⟨?_,by go_grown⟩
 rw [cell9]
 rfl
def boolCell (b:Bool):ByteArray:=strOfNums [98,if b then 1 else 0]
def kindI (s:ByteArray):Int:=((s.data.toList.getD 0 0).toNat:Int)
theorem not_empty_of (s:ByteArray)(h:0 < s.size):s.toList.isEmpty=false:=by
 rw [ByteArray.toList_eq];cases hd:s.data.toList with
 | nil=>simp [ByteArray.size,←Array.length_toList,hd] at h
 | cons x y=>rfl
theorem list_two (s:ByteArray)(h:s.size=2):s.toList=[s.data.toList.getD 0 0,s.data.toList.getD 1 0]:=by
 rw [ByteArray.toList_eq]
 have hl:s.data.toList.length=2:=by rw [Array.length_toList];exact h
 match hd:s.data.toList,hl with
 | [a,b],_=>rfl
def isInt (s:ByteArray):Bool:=kindI s==105&&s.size==9
theorem kind_cellInt (n:Int):kindI (cellInt n)=105:=rfl
theorem size_cellInt (n:Int):(cellInt n).size=9:=rfl
theorem kind_boolCell (b:Bool):kindI (boolCell b)=98:=rfl
theorem isInt_boolCell (b:Bool):isInt (boolCell b)=false:=rfl
end Go.Proofs.Ytaoeikeobfllkaa
