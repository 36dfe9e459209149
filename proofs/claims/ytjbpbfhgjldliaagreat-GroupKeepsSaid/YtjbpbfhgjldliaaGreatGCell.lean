/- Contracts of Num, of the layer cell and of its answer. -/
import Derived.Test.YtjbpbfhgjldliaaGreatGBase
import Derived.WalkKit
import Derived.ProofKit
namespace Go.Proofs.YtjbpbfhgjldliaaGreat
open Go
def offs:Int:=9223372036854775808
def bytesOf (u:Int):List Int :=
 [u / 72057594037927936 % 256,u / 281474976710656 % 256,u / 1099511627776 % 256,u / 4294967296 % 256,u / 16777216 % 256,u / 65536 % 256,u / 256 % 256,u % 256]
def cellInt (n:Int):ByteArray:=strOfNums (105::bytesOf (n+offs))
theorem xor_nat (a:Nat)(h:a < 18446744073709551616):a ^^^ 9223372036854775808=if a < 9223372036854775808 then a+9223372036854775808 else a-9223372036854775808:=by
 have hm:=Nat.xor_mod_two_pow (a:=a) (b:=9223372036854775808) (n:=63)
 have hd:=Nat.xor_div_two_pow (a:=a) (b:=9223372036854775808) (n:=63)
 have e63:(2:Nat) ^ 63=9223372036854775808:=by decide
 rw [e63] at hm hd
 have em:(9223372036854775808:Nat) % 9223372036854775808=0:=by decide
 have ed:(9223372036854775808:Nat) / 9223372036854775808=1:=by decide
 rw [em,Nat.xor_zero] at hm
 rw [ed] at hd
 have hdm:=Nat.div_add_mod (a ^^^ 9223372036854775808) 9223372036854775808
 split
 ·have:a / 9223372036854775808=0:=by omega
  rw [this] at hd
  have h1:(0 ^^^ 1:Nat)=1:=by decide
  rw [h1] at hd
  omega
 ·have:a / 9223372036854775808=1:=by omega
  rw [this] at hd
  have h1:(1 ^^^ 1:Nat)=0:=by decide
  rw [h1] at hd
  omega
theorem xor_off (n:Int)(h0 : -9223372036854775808≤n)(h1:n≤9223372036854775807) :
  bits .xor .u64 (IntKind.u64.wrap n) 9223372036854775808=n+offs:=by
 rw [IntKind.wrap_u64]
 have e:n % 18446744073709551616=(((n % 18446744073709551616).toNat:Nat):Int):=by omega
 have k:=bits_xor_u64_nat (n % 18446744073709551616).toNat 9223372036854775808 (by omega) (by omega)
 rw [xor_nat _ (by omega)] at k
 rw [e]
 refine Eq.trans k ?_
 unfold offs
 split <;> omega
theorem xor_back (u:Int)(h0:0≤u)(h1:u < 18446744073709551616) :
  IntKind.i64.wrap (bits .xor .u64 u 9223372036854775808)=u-offs:=by
 have e:u=((u.toNat:Nat):Int):=by omega
 have k:=bits_xor_u64_nat u.toNat 9223372036854775808 (by omega) (by omega)
 rw [xor_nat _ (by omega)] at k
 rw [e]
 refine Eq.trans (congrArg IntKind.i64.wrap k) ?_
 rw [IntKind.wrap_i64]
 unfold offs
 split <;> omega
theorem or_byte (u c:Int)(h0:0≤u)(h1:u < 72057594037927936)(c0:0≤c)(c1:c < 256) :
  bits .or .u64 (IntKind.u64.wrap (u*256)) c=u*256+c:=by
 rw [IntKind.wrap_u64]
 have e1:u*256 % 18446744073709551616=((u.toNat*256:Nat):Int):=by omega
 have e2:c=((c.toNat:Nat):Int):=by omega
 have k:=bits_or_u64_nat (u.toNat*256) c.toNat (by omega) (by omega)
 rw [e1,e2]
 refine Eq.trans k ?_
 have j:=Nat.two_pow_add_eq_or_of_lt (i:=8) (b:=c.toNat) (by omega) u.toNat
 have e8:(2:Nat) ^ 8=256:=by decide
 rw [e8,Nat.mul_comm] at j
 rw [←j]
 omega
theorem conv_alloc {P:Program}(w:World)(src e dst:TypeId)(hs:P.underlying src=some (.slice e))(he:P.underlying e=some (.int .u8))(hd:P.underlying dst=some .string)
  (xs:List Int) (c:Nat) (T:TypeId) :
  (convert src dst (.slice (some ⟨w.heap.size,0,none⟩) xs.length c)).run P (w.alloc (.cells (xs.map (Value.int .u8)).toArray T)) =
   .ok (.string (strOfNums xs)) (w.alloc (.cells (xs.map (Value.int .u8)).toArray T)):=by
 refine run_convert_bytes_arg _ src e hs he w.heap.size 0 xs.length c xs rfl (fun i hi=>?_) dst hd
 simp [go_sem,hi]
open Go Go.RowKit
theorem ba_ext {a b:ByteArray}(h:a.data.toList=b.data.toList):a=b:=by
 cases a with|mk x=>cases b with|mk y=>cases x;cases y;cases h;rfl
theorem bl_irrefl:∀ a:List UInt8,Op.bytesLess a a=false
 | []=>rfl
 | x::a=>by simp [Op.bytesLess,bl_irrefl a]
theorem bl_trans:∀ a b c:List UInt8,Op.bytesLess a b=true→Op.bytesLess b c=true→Op.bytesLess a c=true
 | _,_,[],_,h=>by simp [Op.bytesLess] at h
 | _,[],_::_,h,_=>by simp [Op.bytesLess] at h
 | [],_::_,_::_,_,_=>rfl
 | x::a,y::b,z::c,h,k=>by
  simp only [Op.bytesLess,Bool.or_eq_true,Bool.and_eq_true,decide_eq_true_eq,beq_iff_eq] at h k ⊢
  rcases h with h | ⟨rfl,h⟩
  ·rcases k with k | ⟨rfl,_⟩
   ·left;rw [UInt8.lt_iff_toNat_lt] at *;omega
   ·left;exact h
  ·rcases k with k | ⟨rfl,k⟩
   ·left;exact k
   ·right;exact ⟨rfl,bl_trans a b c h k⟩
theorem bl_tri:∀ a b:List UInt8,Op.bytesLess a b=false→Op.bytesLess b a=false→a=b
 | [],[],_,_=>rfl
 | [],_::_,h,_=>by simp [Op.bytesLess] at h
 | _::_,[],_,h=>by simp [Op.bytesLess] at h
 | x::a,y::b,h,k=>by
  simp only [Op.bytesLess,Bool.or_eq_false_iff,Bool.and_eq_false_iff,decide_eq_false_iff_not,beq_eq_false_iff_ne] at h k
  obtain ⟨h1,h2⟩:=h
  obtain ⟨k1,k2⟩:=k
  have hxy:x=y:=by
   rw [UInt8.lt_iff_toNat_lt] at h1 k1
   rw [←UInt8.toNat_inj]
   omega
  subst hxy
  have h3:Op.bytesLess a b=false:=by
   rcases h2 with h2|h2
   ·exact absurd rfl h2
   ·exact h2
  have k3:Op.bytesLess b a=false:=by
   rcases k2 with k2|k2
   ·exact absurd rfl k2
   ·exact k2
  rw [bl_tri a b h3 k3]
def ltB (a b:ByteArray):Bool:=Op.bytesLess a.toList b.toList
theorem ltB_irrefl (a:ByteArray):ltB a a=false:=bl_irrefl _
theorem ltB_trans {a b c:ByteArray}(h:ltB a b=true)(k:ltB b c=true):ltB a c=true:=bl_trans _ _ _ h k
theorem ltB_tri {a b:ByteArray}(h:ltB a b=false)(k:ltB b a=false):a=b:=by
 have:=bl_tri _ _ h k
 rw [ByteArray.toList_eq,ByteArray.toList_eq] at this
 exact ba_ext this
theorem ltB_asym {a b:ByteArray}(h:ltB a b=true):ltB b a=false:=by
 cases hb:ltB b a with
 | false=>rfl
 | true=>have:=ltB_trans h hb;rw [ltB_irrefl] at this;exact this.symm
theorem ltB_ne {a b:ByteArray}(h:ltB a b=true):a≠b:=by rintro rfl;rw [ltB_irrefl] at h;exact absurd h (by decide)
theorem conv9 (w:World)(T:TypeId)(a b c d e f g h i:Int) :
  (convert 77 9 (.slice (some ⟨w.heap.size,0,none⟩) 9 9)).run Tryz.prog
   (w.alloc (.cells #[.int .u8 a,.int .u8 b,.int .u8 c,.int .u8 d,.int .u8 e,.int .u8 f,.int .u8 g,.int .u8 h,.int .u8 i] T)) =
   .ok (.string (strOfNums [a,b,c,d,e,f,g,h,i])) (w.alloc (.cells #[.int .u8 a,.int .u8 b,.int .u8 c,.int .u8 d,.int .u8 e,.int .u8 f,.int .u8 g,.int .u8 h,.int .u8 i] T)) :=
 conv_alloc w 77 5 9 Tryz.underlying77 Tryz.underlying5 Tryz.underlying9 [a,b,c,d,e,f,g,h,i] 9 T
theorem conv1 (w:World)(T:TypeId)(a:Int)(b:Nat)(hb:b=w.heap.size) :
  (convert 77 9 (.slice (some ⟨b,0,none⟩) 1 1)).run Tryz.prog
   (w.alloc (.cells #[.int .u8 a] T)) =
   .ok (.string (strOfNums [a])) (w.alloc (.cells #[.int .u8 a] T)):=by
 subst hb
 exact conv_alloc w 77 5 9 Tryz.underlying77 Tryz.underlying5 Tryz.underlying9 [a] 1 T
theorem cell9 (U:Int):strOfNums [105,U / 256 / 256 / 256 / 256 / 256 / 256 / 256 % 256,U / 256 / 256 / 256 / 256 / 256 / 256 % 256,U / 256 / 256 / 256 / 256 / 256 % 256,
  U / 256 / 256 / 256 / 256 % 256,U / 256 / 256 / 256 % 256,U / 256 / 256 % 256,U / 256 % 256,U % 256]=strOfNums (105::bytesOf U):=by
 unfold bytesOf
 have h1:U / 256 / 256=U / 65536:=by omega
 have h2:U / 65536 / 256=U / 16777216:=by omega
 have h3:U / 16777216 / 256=U / 4294967296:=by omega
 have h4:U / 4294967296 / 256=U / 1099511627776:=by omega
 have h5:U / 1099511627776 / 256=U / 281474976710656:=by omega
 have h6:U / 281474976710656 / 256=U / 72057594037927936:=by omega
 rw [h1,h2,h3,h4,h5,h6]
set_option maxHeartbeats 400000 in
theorem int_calls (n:Int)(h0 : -9223372036854775808≤n)(h1:n≤9223372036854775807) :
  Gives Tryz.prog 15 #[.int .i64 n] (.string (cellInt n)):=by
 intro w
 obtain ⟨hb,hB⟩:=start w
 have hx:=Lib.hid (xor_off n h0 h1)
 clear h0 h1
 have hc:=conv9
 go_enter Tryz.func15,Tryz.ntmps15
 go_wp2
 rw [hx.out]
 generalize hU:n+offs=U
 go_rounds 9
 go_ret
 subst hU
 refine ⟨?_,by go_grown⟩
 rw [cell9]
 rfl
set_option maxHeartbeats 400000 in
theorem ref_int_calls (n:Int)(h0 : -9223372036854775808≤n)(h1:n≤9223372036854775807) :
  Gives Tryz.prog 39 #[.int .i64 n] (.string (cellInt n)):=by
 intro w
 obtain ⟨hb,hB⟩:=start w
 have hx:=Lib.hid (xor_off n h0 h1)
 clear h0 h1
 have hc:=conv1
 go_enter Tryz.func39,Tryz.ntmps39
 go_wp2
 rw [hx.out]
 generalize hU:n+offs=U
 go_rounds 9
 go_ret
 subst hU
 refine ⟨congrArg (fun s=>Ending.returned (Value.string s)) ?_,?_⟩
 ·rfl
 ·go_grown
def boolCell (b:Bool):ByteArray:=strOfNums [98,if b then 1 else 0]
def kindI (s:ByteArray):Int:=((s.data.toList.getD 0 0).toNat:Int)
theorem empty_of (s:ByteArray)(h:¬0 < s.size):s.toList.isEmpty=true:=by
 rw [ByteArray.toList_eq];cases hd:s.data.toList with
 | nil=>rfl
 | cons x y=>simp [ByteArray.size,←Array.length_toList,hd] at h
theorem not_empty_of (s:ByteArray)(h:0 < s.size):s.toList.isEmpty=false:=by
 rw [ByteArray.toList_eq];cases hd:s.data.toList with
 | nil=>simp [ByteArray.size,←Array.length_toList,hd] at h
 | cons x y=>rfl
theorem byte_getD (s:ByteArray)(i:Nat)(h:i < s.size):s[i]=s.data.toList.getD i 0:=by
 have h':i < s.data.toList.length:=by rw [Array.length_toList];exact h
 rw [List.getD_eq_getElem?_getD,List.getElem?_eq_getElem h']
 rfl
theorem kindI_nil (s:ByteArray)(h:¬0 < s.size):0=kindI s:=by
 have he:=empty_of s h
 rw [ByteArray.toList_eq] at he
 unfold kindI
 rw [List.isEmpty_iff.1 he];rfl
set_option maxHeartbeats 400000 in
theorem kind_calls (s:ByteArray) :
  Gives Tryz.prog 102 #[.string s] (.int .u8 (kindI s)):=by
 intro w
 obtain ⟨hb,hB⟩:=start w
 by_cases h:0 < s.size
 ·have he:=not_empty_of s h
  have hk:=Lib.hid (show ((s[0].toNat:Nat):Int)=kindI s from by rw [byte_getD];rfl)
  go_enter Tryz.func102,Tryz.ntmps102
  go_wp2
  go_ret
  refine ⟨?_,by go_grown⟩
  rw [←hk.out];rfl
 ·have he:=empty_of s h
  have hk:=Lib.hid (kindI_nil s h)
  clear h
  go_enter Tryz.func102,Tryz.ntmps102
  go_wp2
  go_ret
  refine ⟨?_,by go_grown⟩
  rw [←hk.out];rfl
def byteI (s:ByteArray)(i:Nat):Int:=((s.data.toList.getD i 0).toNat:Int)
theorem byteI_eq (s:ByteArray)(i:Nat)(h:i < s.size):((s[i].toNat:Nat):Int)=byteI s i:=by rw [byte_getD];rfl
def rightB (s:ByteArray):Bool :=
 s.toList.isEmpty||(kindI s==98&&s.size==2&&(byteI s 1==0||byteI s 1==1))||(kindI s==105&&s.size==9)||(kindI s==116&&decide (s.size≤17))
theorem kind_empty (s:ByteArray)(h:s.toList.isEmpty=true):kindI s=0:=by
 rw [ByteArray.toList_eq] at h
 unfold kindI
 rw [List.isEmpty_iff.1 h];rfl
theorem kind_some (s:ByteArray)(h:¬kindI s=0):s.toList.isEmpty=false:=by
 cases he:s.toList.isEmpty with
 | false=>rfl
 | true=>exact absurd (kind_empty s he) h
set_option maxHeartbeats 400000 in
theorem right_0 (s:ByteArray)(h0:kindI s=0) :
  Gives Tryz.prog 103 #[.string s] (.bool (rightB s)):=by
 intro w
 obtain ⟨hb,hB⟩:=start w
 have hr:=Lib.hid (show s.toList.isEmpty=rightB s by unfold rightB;rw [h0];simp)
 go_enter Tryz.func103,Tryz.ntmps103
 go_wp2_with (go_at_call 102;refine (kind_calls _).step (w0:=w) (B:=w.heap.size) (by go_grown) (by go_size) ?_;intro w' hb hB)
 go_ret
 exact ⟨ret_bool hr.out,by go_grown⟩
set_option maxHeartbeats 400000 in
theorem right_105 (s:ByteArray)(h0:kindI s=105) :
  Gives Tryz.prog 103 #[.string s] (.bool (rightB s)):=by
 intro w
 obtain ⟨hb,hB⟩:=start w
 have he:=kind_some s (by omega)
 by_cases h2:s.size=9
 ·have hr:=Lib.hid (show true=rightB s by unfold rightB;rw [h0,he,h2];simp)
  go_enter Tryz.func103,Tryz.ntmps103
  go_wp2_with (go_at_call 102;refine (kind_calls _).step (w0:=w) (B:=w.heap.size) (by go_grown) (by go_size) ?_;intro w' hb hB)
  go_ret
  exact ⟨ret_bool hr.out,by go_grown⟩
 ·have hr:=Lib.hid (show false=rightB s by unfold rightB;rw [h0,he];simp [h2])
  have h3:((s.size:Int)==9)=false:=by simp;omega
  go_enter Tryz.func103,Tryz.ntmps103
  go_wp2_with (go_at_call 102;refine (kind_calls _).step (w0:=w) (B:=w.heap.size) (by go_grown) (by go_size) ?_;intro w' hb hB)
  go_ret
  exact ⟨ret_bool hr.out,by go_grown⟩
set_option maxHeartbeats 400000 in
theorem right_116 (s:ByteArray)(h0:kindI s=116) :
  Gives Tryz.prog 103 #[.string s] (.bool (rightB s)):=by
 intro w
 obtain ⟨hb,hB⟩:=start w
 have he:=kind_some s (by omega)
 by_cases h2:s.size≤17
 ·have hr:=Lib.hid (show decide ((s.size:Int)≤17)=rightB s by unfold rightB;rw [h0,he];simp;omega)
  go_enter Tryz.func103,Tryz.ntmps103
  go_wp2_with (go_at_call 102;refine (kind_calls _).step (w0:=w) (B:=w.heap.size) (by go_grown) (by go_size) ?_;intro w' hb hB)
  go_ret
  exact ⟨ret_bool hr.out,by go_grown⟩
 ·have hr:=Lib.hid (show decide ((s.size:Int)≤17)=rightB s by unfold rightB;rw [h0,he];simp;omega)
  go_enter Tryz.func103,Tryz.ntmps103
  go_wp2_with (go_at_call 102;refine (kind_calls _).step (w0:=w) (B:=w.heap.size) (by go_grown) (by go_size) ?_;intro w' hb hB)
  go_ret
  exact ⟨ret_bool hr.out,by go_grown⟩
set_option maxHeartbeats 400000 in
theorem right_no (s:ByteArray)(h0:¬kindI s=0)(h1:¬kindI s=98)(h2:¬kindI s=105)(h3:¬kindI s=116) :
  Gives Tryz.prog 103 #[.string s] (.bool (rightB s)):=by
 intro w
 obtain ⟨hb,hB⟩:=start w
 have he:=kind_some s h0
 have hr:=Lib.hid (show false=rightB s by unfold rightB;rw [he];simp [h1,h2,h3])
 go_enter Tryz.func103,Tryz.ntmps103
 go_wp2_with (go_at_call 102;refine (kind_calls _).step (w0:=w) (B:=w.heap.size) (by go_grown) (by go_size) ?_;intro w' hb hB)
 go_ret
 exact ⟨ret_bool hr.out,by go_grown⟩
set_option maxHeartbeats 400000 in
theorem right_98 (s:ByteArray)(h0:kindI s=98) :
  Gives Tryz.prog 103 #[.string s] (.bool (rightB s)):=by
 intro w
 obtain ⟨hb,hB⟩:=start w
 have he:=kind_some s (by omega)
 by_cases h2:s.size=2
 ·have hr:=Lib.hid (show (byteI s 1==0||byteI s 1==1)=rightB s by unfold rightB;rw [h0,he,h2];simp)
  have hb1:=Lib.hid (byteI_eq s 1 (by omega))
  have h3:1 < s.size:=by omega
  go_enter Tryz.func103,Tryz.ntmps103
  go_wp2_with (go_at_call 102;refine (kind_calls _).step (w0:=w) (B:=w.heap.size) (by go_grown) (by go_size) ?_;intro w' hb hB)
  all_goals
   go_ret
   refine ⟨ret_bool ?_,by go_grown⟩
   rw [←hr.out,←hb1.out] <;> first|rfl|(simp [*];done)
 ·have hr:=Lib.hid (show false=rightB s by unfold rightB;rw [h0,he];simp [h2])
  have h3:((s.size:Int)==2)=false:=by simp;omega
  go_enter Tryz.func103,Tryz.ntmps103
  go_wp2_with (go_at_call 102;refine (kind_calls _).step (w0:=w) (B:=w.heap.size) (by go_grown) (by go_size) ?_;intro w' hb hB)
  go_ret
  exact ⟨ret_bool hr.out,by go_grown⟩
theorem right_calls (s:ByteArray) :
  Gives Tryz.prog 103 #[.string s] (.bool (rightB s)):=by
 by_cases h0:kindI s=0
 ·exact right_0 s h0
 by_cases h1:kindI s=98
 ·exact right_98 s h1
 by_cases h2:kindI s=105
 ·exact right_105 s h2
 by_cases h3:kindI s=116
 ·exact right_116 s h3
 exact right_no s h0 h1 h2 h3
theorem list_two (s:ByteArray)(h:s.size=2):s.toList=[s.data.toList.getD 0 0,s.data.toList.getD 1 0]:=by
 rw [ByteArray.toList_eq]
 have hl:s.data.toList.length=2:=by rw [Array.length_toList];exact h
 match hd:s.data.toList,hl with
 | [a,b],_=>rfl
def isInt (s:ByteArray):Bool:=kindI s==105&&s.size==9
def numOf (s:ByteArray):Int :=
 (((((((byteI s 1*256+byteI s 2)*256+byteI s 3)*256+byteI s 4)*256+byteI s 5)*256+byteI s 6)*256+byteI s 7)*256+byteI s 8)-offs
theorem u64_byte (b:Int)(h0:0≤b)(h1:b < 256):IntKind.u64.wrap b=b:=by rw [IntKind.wrap_u64];omega
theorem or_zero (b:Int)(h0:0≤b)(h1:b < 256):bits .or .u64 0 b=b:=by
 have k:=or_byte 0 b (by omega) (by omega) h0 h1
 rw [show IntKind.u64.wrap (0*256)=0 from by rw [IntKind.wrap_u64];omega] at k
 omega
theorem num_eq (b1 b2 b3 b4 b5 b6 b7 b8:Int)(g1:0≤b1∧b1 < 256)(g2:0≤b2∧b2 < 256)(g3:0≤b3∧b3 < 256)(g4:0≤b4∧b4 < 256)
  (g5:0≤b5∧b5 < 256) (g6:0≤b6∧b6 < 256) (g7:0≤b7∧b7 < 256) (g8:0≤b8∧b8 < 256) :
  wrap64 (bits .xor .u64 (bits .or .u64 (IntKind.u64.wrap (bits .or .u64 (IntKind.u64.wrap (bits .or .u64 (IntKind.u64.wrap (bits .or .u64 (IntKind.u64.wrap
   (bits .or .u64 (IntKind.u64.wrap (bits .or .u64 (IntKind.u64.wrap (bits .or .u64 (IntKind.u64.wrap (bits .or .u64 0 (IntKind.u64.wrap b1)*256)) (IntKind.u64.wrap b2)*256))
   (IntKind.u64.wrap b3)*256)) (IntKind.u64.wrap b4)*256)) (IntKind.u64.wrap b5)*256)) (IntKind.u64.wrap b6)*256)) (IntKind.u64.wrap b7)*256)) (IntKind.u64.wrap b8)) 9223372036854775808) =
   (((((((b1*256+b2)*256+b3)*256+b4)*256+b5)*256+b6)*256+b7)*256+b8)-offs:=by
 rw [u64_byte b1 g1.1 g1.2,u64_byte b2 g2.1 g2.2,u64_byte b3 g3.1 g3.2,u64_byte b4 g4.1 g4.2,u64_byte b5 g5.1 g5.2,u64_byte b6 g6.1 g6.2,u64_byte b7 g7.1 g7.2,u64_byte b8 g8.1 g8.2,
  or_zero b1 g1.1 g1.2,or_byte b1 b2 (by omega) (by omega) g2.1 g2.2,or_byte _ b3 (by omega) (by omega) g3.1 g3.2,or_byte _ b4 (by omega) (by omega) g4.1 g4.2,
  or_byte _ b5 (by omega) (by omega) g5.1 g5.2,or_byte _ b6 (by omega) (by omega) g6.1 g6.2,or_byte _ b7 (by omega) (by omega) g7.1 g7.2,or_byte _ b8 (by omega) (by omega) g8.1 g8.2]
 have k:=xor_back (((((((b1*256+b2)*256+b3)*256+b4)*256+b5)*256+b6)*256+b7)*256+b8) (by omega) (by omega)
 unfold wrap64
 rw [IntKind.wrap_i64] at k
 exact k
theorem byte_range (b:UInt8):0≤((b.toNat:Nat):Int)∧((b.toNat:Nat):Int) < 256:=by
 have:=b.toNat_lt;omega
theorem ret_num {a b:Int}{c:Bool}(h:a=b):Ending.returned (.tuple #[.int .i64 a,.bool c])=.returned (.tuple #[.int .i64 b,.bool c]):=by rw [h]
theorem numOf_eq (s:ByteArray)(h:s.size=9):numOf s =
  ((((((((s[1].toNat:Int)*256+(s[2].toNat:Int))*256+(s[3].toNat:Int))*256+(s[4].toNat:Int))*256+(s[5].toNat:Int))*256+(s[6].toNat:Int))*256+(s[7].toNat:Int))*256+(s[8].toNat:Int))-offs:=by
 rw [byteI_eq,byteI_eq,byteI_eq,byteI_eq,byteI_eq,byteI_eq,byteI_eq,byteI_eq]
 rfl
set_option maxHeartbeats 400000 in
theorem num_yes (s:ByteArray)(h:isInt s=true) :
  Gives Tryz.prog 87 #[.string s] (.tuple #[.int .i64 (numOf s),.bool true]):=by
 intro w
 obtain ⟨hb,hB⟩:=start w
 unfold isInt at h
 simp only [Bool.and_eq_true,beq_iff_eq] at h
 obtain ⟨hk,hs⟩:=h
 have HS:Hid (s.size=9):=hs
 have hr:rightB s=true:=by unfold rightB;rw [hk,hs];simp
 go_enter Tryz.func87,Tryz.ntmps87
 go_wp2_with (first|(go_at_call 102;refine (kind_calls _).step (w0:=w) (B:=w.heap.size) (by go_grown) (by go_size) ?_;intro w' hb hB)|(go_at_call 103;refine (right_calls _).step (w0:=w) (B:=w.heap.size) (by go_grown) (by go_size) ?_;intro w' hb hB))
 go_rounds 9
 go_ret2
 refine ⟨ret_num ?_,by go_grown⟩
 rw [numOf_eq s HS.out]
 exact num_eq _ _ _ _ _ _ _ _ (byte_range _) (byte_range _) (byte_range _) (byte_range _) (byte_range _) (byte_range _) (byte_range _) (byte_range _)
set_option maxHeartbeats 400000 in
theorem num_no (s:ByteArray)(h:isInt s=false) :
  Gives Tryz.prog 87 #[.string s] (.tuple #[.int .i64 0,.bool false]):=by
 intro w
 obtain ⟨hb,hB⟩:=start w
 unfold isInt at h
 by_cases hk:kindI s=105
 ·have hs:¬s.size=9:=by rw [hk] at h;simpa using h
  have he:=kind_some s (by omega)
  have hr:rightB s=false:=by unfold rightB;rw [hk,he];simp [hs]
  have h9:((s.size:Int)==9)=false:=by simp;omega
  have h9':((s.size:Int) != 9)=true:=by simp;omega
  clear h
  go_enter Tryz.func87,Tryz.ntmps87
  go_wp2_with (first|(go_at_call 102;refine (kind_calls _).step (w0:=w) (B:=w.heap.size) (by go_grown) (by go_size) ?_;intro w' hb hB)|(go_at_call 103;refine (right_calls _).step (w0:=w) (B:=w.heap.size) (by go_grown) (by go_size) ?_;intro w' hb hB))
  go_ret2
  exact ⟨rfl,by go_grown⟩
 ·have hk1:(kindI s==105)=false:=by simpa using hk
  have hk2:(kindI s != 105)=true:=by simpa using hk
  clear h
  go_enter Tryz.func87,Tryz.ntmps87
  go_wp2_with (first|(go_at_call 102;refine (kind_calls _).step (w0:=w) (B:=w.heap.size) (by go_grown) (by go_size) ?_;intro w' hb hB)|(go_at_call 103;refine (right_calls _).step (w0:=w) (B:=w.heap.size) (by go_grown) (by go_size) ?_;intro w' hb hB))
  go_ret2
  exact ⟨rfl,by go_grown⟩
set_option maxHeartbeats 400000 in
theorem ref_num_yes (s:ByteArray)(h:isInt s=true) :
  Gives Tryz.prog 36 #[.string s] (.tuple #[.int .i64 (numOf s),.bool true]):=by
 intro w
 obtain ⟨hb,hB⟩:=start w
 unfold isInt at h
 simp only [Bool.and_eq_true,beq_iff_eq] at h
 obtain ⟨hk,hs⟩:=h
 have HS:Hid (s.size=9):=hs
 have hr:rightB s=true:=by unfold rightB;rw [hk,hs];simp
 have h0:((s[0]).toNat:Int)=105:=by rw [byteI_eq];exact hk
 have h3:0 < s.size:=by omega
 go_enter Tryz.func36,Tryz.ntmps36
 go_wp2
 go_rounds 9
 go_ret2
 refine ⟨ret_num ?_,by go_grown⟩
 rw [numOf_eq s HS.out]
 exact num_eq _ _ _ _ _ _ _ _ (byte_range _) (byte_range _) (byte_range _) (byte_range _) (byte_range _) (byte_range _) (byte_range _) (byte_range _)
set_option maxHeartbeats 400000 in
theorem ref_num_no (s:ByteArray)(h:isInt s=false) :
  Gives Tryz.prog 36 #[.string s] (.tuple #[.int .i64 0,.bool false]):=by
 intro w
 obtain ⟨hb,hB⟩:=start w
 unfold isInt at h
 by_cases hk:kindI s=105
 ·have hs:¬s.size=9:=by rw [hk] at h;simpa using h
  have he:=kind_some s (by omega)
  have hr:rightB s=false:=by unfold rightB;rw [hk,he];simp [hs]
  have h9:((s.size:Int)==9)=false:=by simp;omega
  have h9':((s.size:Int) != 9)=true:=by simp;omega
  clear h
  go_enter Tryz.func36,Tryz.ntmps36
  go_wp2
  go_ret2
  exact ⟨rfl,by go_grown⟩
 ·have hk1:(kindI s==105)=false:=by simpa using hk
  have hk2:(kindI s != 105)=true:=by simpa using hk
  clear h
  by_cases hs:s.size=9
  ·have h0:(((s[0]).toNat:Int)==105)=false:=by rw [byteI_eq];exact hk1
   have h0':(((s[0]).toNat:Int) != 105)=true:=by rw [byteI_eq];exact hk2
   have h3:0 < s.size:=by omega
   clear hk1 hk2
   go_enter Tryz.func36,Tryz.ntmps36
   go_wp2
   go_ret2
   exact ⟨rfl,by go_grown⟩
  ·have h9:((s.size:Int)==9)=false:=by simp;omega
   have h9':((s.size:Int) != 9)=true:=by simp;omega
   go_enter Tryz.func36,Tryz.ntmps36
   go_wp2
   go_ret2
   exact ⟨rfl,by go_grown⟩
theorem kind_cellInt (n:Int):kindI (cellInt n)=105:=rfl
theorem size_cellInt (n:Int):(cellInt n).size=9:=rfl
theorem kind_boolCell (b:Bool):kindI (boolCell b)=98:=rfl
theorem isInt_boolCell (b:Bool):isInt (boolCell b)=false:=rfl
end Go.Proofs.YtjbpbfhgjldliaaGreat
