/- Plain facts on texts in order: no program. -/
import Derived.Test.YtegpikfgajoopaaGBase
import Derived.WalkKit
import Derived.ProofKit
namespace Go.Proofs.Ytegpikfgajoopaa
open Go
def offs:Int:=9223372036854775808
def bytesOf (u:Int):List Int :=
 [u / 72057594037927936 % 256,u / 281474976710656 % 256,u / 1099511627776 % 256,u / 4294967296 % 256,u / 16777216 % 256,u / 65536 % 256,u / 256 % 256,u % 256]
def cellInt (n:Int):ByteArray:=strOfNums (105::bytesOf (n+offs))
theorem xor_nat (a:Nat)(h:a < 18446744073709551616):a ^^^ 9223372036854775808=if a < 9223372036854775808 then a+9223372036854775808 else a-9223372036854775808:=by
 have hm:=Nat.xor_mod_two_pow (a:=a) (b:=9223372036854775808) (n:=63)
 have hd:=Nat.xor_div_two_pow (a:=a) (b:=9223372036854775808) (n:=63)
 have e63:(2:Nat) ^ 63=9223372036854775808:=by decide
 rw [e63] at hm hd
 have em:(9223372036854775808:Nat) % 9223372036854775808=0:=by decide
 have ed:(9223372036854775808:Nat) / 9223372036854775808=1:=by decide
 rw [em,Nat.xor_zero] at hm
 rw [ed] at hd
 have hdm:=Nat.div_add_mod (a ^^^ 9223372036854775808) 9223372036854775808
 split
 ·have:a / 9223372036854775808=0:=by omega
  rw [this] at hd
  have h1:(0 ^^^ 1:Nat)=1:=by decide
  rw [h1] at hd
  omega
 ·have:a / 9223372036854775808=1:=by omega
  rw [this] at hd
  have h1:(1 ^^^ 1:Nat)=0:=by decide
  rw [h1] at hd
  omega
theorem xor_off (n:Int)(h0 : -9223372036854775808≤n)(h1:n≤9223372036854775807) :
  bits .xor .u64 (IntKind.u64.wrap n) 9223372036854775808=n+offs:=by
 rw [IntKind.wrap_u64]
 have e:n % 18446744073709551616=(((n % 18446744073709551616).toNat:Nat):Int):=by omega
 have k:=bits_xor_u64_nat (n % 18446744073709551616).toNat 9223372036854775808 (by omega) (by omega)
 rw [xor_nat _ (by omega)] at k
 rw [e]
 refine Eq.trans k ?_
 unfold offs
 split <;> omega
theorem conv_alloc {P:Program}(w:World)(src e dst:TypeId)(hs:P.underlying src=some (.slice e))(he:P.underlying e=some (.int .u8))(hd:P.underlying dst=some .string)
  (xs:List Int) (c:Nat) (T:TypeId) :
  (convert src dst (.slice (some ⟨w.heap.size,0,none⟩) xs.length c)).run P (w.alloc (.cells (xs.map (Value.int .u8)).toArray T)) =
   .ok (.string (strOfNums xs)) (w.alloc (.cells (xs.map (Value.int .u8)).toArray T)):=by
 refine run_convert_bytes_arg _ src e hs he w.heap.size 0 xs.length c xs rfl (fun i hi=>?_) dst hd
 simp [go_sem,hi]
open Go Go.RowKit
theorem conv9 (w:World)(T:TypeId)(a b c d e f g h i:Int) :
  (convert 58 9 (.slice (some ⟨w.heap.size,0,none⟩) 9 9)).run Try.prog
   (w.alloc (.cells #[.int .u8 a,.int .u8 b,.int .u8 c,.int .u8 d,.int .u8 e,.int .u8 f,.int .u8 g,.int .u8 h,.int .u8 i] T)) =
   .ok (.string (strOfNums [a,b,c,d,e,f,g,h,i])) (w.alloc (.cells #[.int .u8 a,.int .u8 b,.int .u8 c,.int .u8 d,.int .u8 e,.int .u8 f,.int .u8 g,.int .u8 h,.int .u8 i] T)) :=
 conv_alloc w 58 5 9 Try.underlying58 Try.underlying5 Try.underlying9 [a,b,c,d,e,f,g,h,i] 9 T
theorem cell9 (U:Int):strOfNums [105,U / 256 / 256 / 256 / 256 / 256 / 256 / 256 % 256,U / 256 / 256 / 256 / 256 / 256 / 256 % 256,U / 256 / 256 / 256 / 256 / 256 % 256,
  U / 256 / 256 / 256 / 256 % 256,U / 256 / 256 / 256 % 256,U / 256 / 256 % 256,U / 256 % 256,U % 256]=strOfNums (105::bytesOf U):=by
 unfold bytesOf
 have h1:U / 256 / 256=U / 65536:=by omega
 have h2:U / 65536 / 256=U / 16777216:=by omega
 have h3:U / 16777216 / 256=U / 4294967296:=by omega
 have h4:U / 4294967296 / 256=U / 1099511627776:=by omega
 have h5:U / 1099511627776 / 256=U / 281474976710656:=by omega
 have h6:U / 281474976710656 / 256=U / 72057594037927936:=by omega
 rw [h1,h2,h3,h4,h5,h6]
set_option maxHeartbeats 400000 in
theorem int_calls (n:Int)(h0 : -9223372036854775808≤n)(h1:n≤9223372036854775807) :
  Gives Try.prog 20 #[.int .i64 n] (.string (cellInt n)):=by
 intro w
 obtain ⟨hb,hB⟩:=start w
 have hx:=Lib.hid (xor_off n h0 h1)
 clear h0 h1
 have hc:=conv9
 go_enter Try.func20,Try.ntmps20
 go_wp2
 rw [hx.out]
 generalize hU:n+offs=U
 go_rounds 9
 go_ret
 subst hU
 refine ⟨?_,by go_grown⟩
 rw [cell9]
 rfl
def boolCell (b:Bool):ByteArray:=strOfNums [98,if b then 1 else 0]
set_option maxHeartbeats 400000 in
theorem ref_bool_calls (b:Bool) :
  Gives Try.prog 30 #[.bool b] (.string (boolCell b)):=by
 intro w
 obtain ⟨hb,hB⟩:=start w
 cases b
 ·go_enter Try.func30,Try.ntmps30
  go_wp2
  go_ret
  exact ⟨rfl,by go_grown⟩
 ·go_enter Try.func30,Try.ntmps30
  go_wp2
  go_ret
  exact ⟨rfl,by go_grown⟩
def kindI (s:ByteArray):Int:=((s.data.toList.getD 0 0).toNat:Int)
theorem empty_of (s:ByteArray)(h:¬0 < s.size):s.toList.isEmpty=true:=by
 rw [ByteArray.toList_eq];cases hd:s.data.toList with
 | nil=>rfl
 | cons x y=>simp [ByteArray.size,←Array.length_toList,hd] at h
theorem not_empty_of (s:ByteArray)(h:0 < s.size):s.toList.isEmpty=false:=by
 rw [ByteArray.toList_eq];cases hd:s.data.toList with
 | nil=>simp [ByteArray.size,←Array.length_toList,hd] at h
 | cons x y=>rfl
theorem byte_getD (s:ByteArray)(i:Nat)(h:i < s.size):s[i]=s.data.toList.getD i 0:=by
 have h':i < s.data.toList.length:=by rw [Array.length_toList];exact h
 rw [List.getD_eq_getElem?_getD,List.getElem?_eq_getElem h']
 rfl
theorem kindI_nil (s:ByteArray)(h:¬0 < s.size):0=kindI s:=by
 have he:=empty_of s h
 rw [ByteArray.toList_eq] at he
 unfold kindI
 rw [List.isEmpty_iff.1 he];rfl
set_option maxHeartbeats 400000 in
theorem kind_calls (s:ByteArray) :
  Gives Try.prog 17 #[.string s] (.int .u8 (kindI s)):=by
 intro w
 obtain ⟨hb,hB⟩:=start w
 by_cases h:0 < s.size
 ·have he:=not_empty_of s h
  have hk:=Lib.hid (show ((s[0].toNat:Nat):Int)=kindI s from by rw [byte_getD];rfl)
  go_enter Try.func17,Try.ntmps17
  go_wp2
  go_ret
  refine ⟨?_,by go_grown⟩
  rw [←hk.out];rfl
 ·have he:=empty_of s h
  have hk:=Lib.hid (kindI_nil s h)
  clear h
  go_enter Try.func17,Try.ntmps17
  go_wp2
  go_ret
  refine ⟨?_,by go_grown⟩
  rw [←hk.out];rfl
set_option maxHeartbeats 400000 in
theorem ref_kind_calls (s:ByteArray) :
  Gives Try.prog 39 #[.string s] (.int .u8 (kindI s)):=by
 intro w
 obtain ⟨hb,hB⟩:=start w
 by_cases h:0 < s.size
 ·have he:=not_empty_of s h
  have hk:=Lib.hid (show ((s[0].toNat:Nat):Int)=kindI s from by rw [byte_getD];rfl)
  go_enter Try.func39,Try.ntmps39
  go_wp2
  go_ret
  refine ⟨?_,by go_grown⟩
  rw [←hk.out];rfl
 ·have he:=empty_of s h
  have hk:=Lib.hid (kindI_nil s h)
  clear h
  go_enter Try.func39,Try.ntmps39
  go_wp2
  go_ret
  refine ⟨?_,by go_grown⟩
  rw [←hk.out];rfl
def byteI (s:ByteArray)(i:Nat):Int:=((s.data.toList.getD i 0).toNat:Int)
theorem byteI_eq (s:ByteArray)(i:Nat)(h:i < s.size):((s[i].toNat:Nat):Int)=byteI s i:=by rw [byte_getD];rfl
def rightB (s:ByteArray):Bool :=
 s.toList.isEmpty||(kindI s==98&&s.size==2&&(byteI s 1==0||byteI s 1==1))||(kindI s==105&&s.size==9)||(kindI s==116&&decide (s.size≤17))
theorem kind_empty (s:ByteArray)(h:s.toList.isEmpty=true):kindI s=0:=by
 rw [ByteArray.toList_eq] at h
 unfold kindI
 rw [List.isEmpty_iff.1 h];rfl
theorem kind_some (s:ByteArray)(h:¬kindI s=0):s.toList.isEmpty=false:=by
 cases he:s.toList.isEmpty with
 | false=>rfl
 | true=>exact absurd (kind_empty s he) h
set_option maxHeartbeats 400000 in
theorem right_0 (s:ByteArray)(h0:kindI s=0) :
  Gives Try.prog 16 #[.string s] (.bool (rightB s)):=by
 intro w
 obtain ⟨hb,hB⟩:=start w
 have hr:=Lib.hid (show s.toList.isEmpty=rightB s by unfold rightB;rw [h0];simp)
 go_enter Try.func16,Try.ntmps16
 go_wp2_with (go_at_call 17;refine (kind_calls _).step (w0:=w) (B:=w.heap.size) (by go_grown) (by go_size) ?_;intro w' hb hB)
 go_ret
 exact ⟨ret_bool hr.out,by go_grown⟩
set_option maxHeartbeats 400000 in
theorem right_105 (s:ByteArray)(h0:kindI s=105) :
  Gives Try.prog 16 #[.string s] (.bool (rightB s)):=by
 intro w
 obtain ⟨hb,hB⟩:=start w
 have he:=kind_some s (by omega)
 by_cases h2:s.size=9
 ·have hr:=Lib.hid (show true=rightB s by unfold rightB;rw [h0,he,h2];simp)
  go_enter Try.func16,Try.ntmps16
  go_wp2_with (go_at_call 17;refine (kind_calls _).step (w0:=w) (B:=w.heap.size) (by go_grown) (by go_size) ?_;intro w' hb hB)
  go_ret
  exact ⟨ret_bool hr.out,by go_grown⟩
 ·have hr:=Lib.hid (show false=rightB s by unfold rightB;rw [h0,he];simp [h2])
  have h3:((s.size:Int)==9)=false:=by simp;omega
  go_enter Try.func16,Try.ntmps16
  go_wp2_with (go_at_call 17;refine (kind_calls _).step (w0:=w) (B:=w.heap.size) (by go_grown) (by go_size) ?_;intro w' hb hB)
  go_ret
  exact ⟨ret_bool hr.out,by go_grown⟩
set_option maxHeartbeats 400000 in
theorem right_116 (s:ByteArray)(h0:kindI s=116) :
  Gives Try.prog 16 #[.string s] (.bool (rightB s)):=by
 intro w
 obtain ⟨hb,hB⟩:=start w
 have he:=kind_some s (by omega)
 by_cases h2:s.size≤17
 ·have hr:=Lib.hid (show decide ((s.size:Int)≤17)=rightB s by unfold rightB;rw [h0,he];simp;omega)
  go_enter Try.func16,Try.ntmps16
  go_wp2_with (go_at_call 17;refine (kind_calls _).step (w0:=w) (B:=w.heap.size) (by go_grown) (by go_size) ?_;intro w' hb hB)
  go_ret
  exact ⟨ret_bool hr.out,by go_grown⟩
 ·have hr:=Lib.hid (show decide ((s.size:Int)≤17)=rightB s by unfold rightB;rw [h0,he];simp;omega)
  go_enter Try.func16,Try.ntmps16
  go_wp2_with (go_at_call 17;refine (kind_calls _).step (w0:=w) (B:=w.heap.size) (by go_grown) (by go_size) ?_;intro w' hb hB)
  go_ret
  exact ⟨ret_bool hr.out,by go_grown⟩
set_option maxHeartbeats 400000 in
theorem right_no (s:ByteArray)(h0:¬kindI s=0)(h1:¬kindI s=98)(h2:¬kindI s=105)(h3:¬kindI s=116) :
  Gives Try.prog 16 #[.string s] (.bool (rightB s)):=by
 intro w
 obtain ⟨hb,hB⟩:=start w
 have he:=kind_some s h0
 have hr:=Lib.hid (show false=rightB s by unfold rightB;rw [he];simp [h1,h2,h3])
 go_enter Try.func16,Try.ntmps16
 go_wp2_with (go_at_call 17;refine (kind_calls _).step (w0:=w) (B:=w.heap.size) (by go_grown) (by go_size) ?_;intro w' hb hB)
 go_ret
 exact ⟨ret_bool hr.out,by go_grown⟩
set_option maxHeartbeats 400000 in
theorem ref_right_0 (s:ByteArray)(h0:kindI s=0) :
  Gives Try.prog 38 #[.string s] (.bool (rightB s)):=by
 intro w
 obtain ⟨hb,hB⟩:=start w
 have hr:=Lib.hid (show s.toList.isEmpty=rightB s by unfold rightB;rw [h0];simp)
 go_enter Try.func38,Try.ntmps38
 go_wp2_with (go_at_call 39;refine (ref_kind_calls _).step (w0:=w) (B:=w.heap.size) (by go_grown) (by go_size) ?_;intro w' hb hB)
 go_ret
 exact ⟨ret_bool hr.out,by go_grown⟩
set_option maxHeartbeats 400000 in
theorem ref_right_105 (s:ByteArray)(h0:kindI s=105) :
  Gives Try.prog 38 #[.string s] (.bool (rightB s)):=by
 intro w
 obtain ⟨hb,hB⟩:=start w
 have he:=kind_some s (by omega)
 by_cases h2:s.size=9
 ·have hr:=Lib.hid (show true=rightB s by unfold rightB;rw [h0,he,h2];simp)
  go_enter Try.func38,Try.ntmps38
  go_wp2_with (go_at_call 39;refine (ref_kind_calls _).step (w0:=w) (B:=w.heap.size) (by go_grown) (by go_size) ?_;intro w' hb hB)
  go_ret
  exact ⟨ret_bool hr.out,by go_grown⟩
 ·have hr:=Lib.hid (show false=rightB s by unfold rightB;rw [h0,he];simp [h2])
  have h3:((s.size:Int)==9)=false:=by simp;omega
  go_enter Try.func38,Try.ntmps38
  go_wp2_with (go_at_call 39;refine (ref_kind_calls _).step (w0:=w) (B:=w.heap.size) (by go_grown) (by go_size) ?_;intro w' hb hB)
  go_ret
  exact ⟨ret_bool hr.out,by go_grown⟩
set_option maxHeartbeats 400000 in
theorem ref_right_116 (s:ByteArray)(h0:kindI s=116) :
  Gives Try.prog 38 #[.string s] (.bool (rightB s)):=by
 intro w
 obtain ⟨hb,hB⟩:=start w
 have he:=kind_some s (by omega)
 by_cases h2:s.size≤17
 ·have hr:=Lib.hid (show decide ((s.size:Int)≤17)=rightB s by unfold rightB;rw [h0,he];simp;omega)
  go_enter Try.func38,Try.ntmps38
  go_wp2_with (go_at_call 39;refine (ref_kind_calls _).step (w0:=w) (B:=w.heap.size) (by go_grown) (by go_size) ?_;intro w' hb hB)
  go_ret
  exact ⟨ret_bool hr.out,by go_grown⟩
 ·have hr:=Lib.hid (show decide ((s.size:Int)≤17)=rightB s by unfold rightB;rw [h0,he];simp;omega)
  go_enter Try.func38,Try.ntmps38
  go_wp2_with (go_at_call 39;refine (ref_kind_calls _).step (w0:=w) (B:=w.heap.size) (by go_grown) (by go_size) ?_;intro w' hb hB)
  go_ret
  exact ⟨ret_bool hr.out,by go_grown⟩
set_option maxHeartbeats 400000 in
theorem ref_right_no (s:ByteArray)(h0:¬kindI s=0)(h1:¬kindI s=98)(h2:¬kindI s=105)(h3:¬kindI s=116) :
  Gives Try.prog 38 #[.string s] (.bool (rightB s)):=by
 intro w
 obtain ⟨hb,hB⟩:=start w
 have he:=kind_some s h0
 have hr:=Lib.hid (show false=rightB s by unfold rightB;rw [he];simp [h1,h2,h3])
 go_enter Try.func38,Try.ntmps38
 go_wp2_with (go_at_call 39;refine (ref_kind_calls _).step (w0:=w) (B:=w.heap.size) (by go_grown) (by go_size) ?_;intro w' hb hB)
 go_ret
 exact ⟨ret_bool hr.out,by go_grown⟩
set_option maxHeartbeats 400000 in
theorem right_98 (s:ByteArray)(h0:kindI s=98) :
  Gives Try.prog 16 #[.string s] (.bool (rightB s)):=by
 intro w
 obtain ⟨hb,hB⟩:=start w
 have he:=kind_some s (by omega)
 by_cases h2:s.size=2
 ·have hr:=Lib.hid (show (byteI s 1==0||byteI s 1==1)=rightB s by unfold rightB;rw [h0,he,h2];simp)
  have hb1:=Lib.hid (byteI_eq s 1 (by omega))
  have h3:1 < s.size:=by omega
  go_enter Try.func16,Try.ntmps16
  go_wp2_with (go_at_call 17;refine (kind_calls _).step (w0:=w) (B:=w.heap.size) (by go_grown) (by go_size) ?_;intro w' hb hB)
  all_goals
   go_ret
   refine ⟨ret_bool ?_,by go_grown⟩
   rw [←hr.out,←hb1.out] <;> first|rfl|(simp [*];done)
 ·have hr:=Lib.hid (show false=rightB s by unfold rightB;rw [h0,he];simp [h2])
  have h3:((s.size:Int)==2)=false:=by simp;omega
  go_enter Try.func16,Try.ntmps16
  go_wp2_with (go_at_call 17;refine (kind_calls _).step (w0:=w) (B:=w.heap.size) (by go_grown) (by go_size) ?_;intro w' hb hB)
  go_ret
  exact ⟨ret_bool hr.out,by go_grown⟩
theorem right_calls (s:ByteArray) :
  Gives Try.prog 16 #[.string s] (.bool (rightB s)):=by
 by_cases h0:kindI s=0
 ·exact right_0 s h0
 by_cases h1:kindI s=98
 ·exact right_98 s h1
 by_cases h2:kindI s=105
 ·exact right_105 s h2
 by_cases h3:kindI s=116
 ·exact right_116 s h3
 exact right_no s h0 h1 h2 h3
theorem list_two (s:ByteArray)(h:s.size=2):s.toList=[s.data.toList.getD 0 0,s.data.toList.getD 1 0]:=by
 rw [ByteArray.toList_eq]
 have hl:s.data.toList.length=2:=by rw [Array.length_toList];exact h
 match hd:s.data.toList,hl with
 | [a,b],_=>rfl
theorem u8_of (a:UInt8)(n:Nat)(h:n < 256):(a==UInt8.ofNat n)=((a.toNat:Int)==(n:Int)):=by
 rw [Bool.eq_iff_iff]
 simp only [beq_iff_eq]
 constructor
 ·intro e;rw [e];simp [Nat.mod_eq_of_lt h]
 ·intro e
  have:a.toNat=n:=by omega
  rw [←this];simp
theorem not_two (s:ByteArray)(b:Bool)(h:¬s.size=2):(s.toList==(boolCell b).toList)=false:=by
 cases hx:s.toList==(boolCell b).toList with
 | false=>rfl
 | true =>
  refine absurd ?_ h
  have e:=congrArg List.length (beq_iff_eq.1 hx)
  rw [ByteArray.toList_eq,ByteArray.toList_eq,Array.length_toList] at e
  exact e
theorem bool_eq (s:ByteArray)(b:Bool)(h:s.size=2)(h0:kindI s=98):(s.toList==(boolCell b).toList)=(byteI s 1==if b then 1 else 0):=by
 rw [list_two s h]
 have e0:s.data.toList.getD 0 0=98:=by
  unfold kindI at h0
  have:(s.data.toList.getD 0 0).toNat=98:=by omega
  rw [←UInt8.toNat_inj,this];rfl
 rw [e0]
 rw [ByteArray.toList_eq]
 cases b
 ·have k:=u8_of (s.data.toList.getD 1 0) 0 (by decide)
  show ([98,s.data.toList.getD 1 0]==[98,UInt8.ofNat 0])=(byteI s 1==0)
  simp only [List.cons_beq_cons,k]
  simp [byteI]
 ·have k:=u8_of (s.data.toList.getD 1 0) 1 (by decide)
  show ([98,s.data.toList.getD 1 0]==[98,UInt8.ofNat 1])=(byteI s 1==1)
  simp only [List.cons_beq_cons,k]
  simp [byteI]
theorem right_bools (s:ByteArray)(h0:kindI s=98):(s.toList==(boolCell false).toList||s.toList==(boolCell true).toList)=rightB s:=by
 have he:=kind_some s (by omega)
 by_cases h:s.size=2
 ·rw [bool_eq s false h h0,bool_eq s true h h0]
  unfold rightB
  rw [h0,he,h];simp
 ·rw [not_two s _ h,not_two s _ h]
  unfold rightB
  rw [h0,he];simp [h]
set_option maxHeartbeats 400000 in
theorem ref_right_98 (s:ByteArray)(h0:kindI s=98) :
  Gives Try.prog 38 #[.string s] (.bool (rightB s)):=by
 intro w
 have hr:=Lib.hid (right_bools s h0)
 obtain ⟨hb,hB⟩:=start w
 have he:=kind_some s (by omega)
 go_enter Try.func38,Try.ntmps38
 go_wp2_with (first|(go_at_call 39;refine (ref_kind_calls _).step (w0:=w) (B:=w.heap.size) (by go_grown) (by go_size) ?_;intro w' hb hB)|(go_at_call 30;refine (ref_bool_calls _).step (w0:=w) (B:=w.heap.size) (by go_grown) (by go_size) ?_;intro w' hb hB))
 all_goals
  go_ret
  refine ⟨ret_bool ?_,by go_grown⟩
  rw [←hr.out] <;> first|rfl|(simp [*];done)
theorem ref_right_calls (s:ByteArray) :
  Gives Try.prog 38 #[.string s] (.bool (rightB s)):=by
 by_cases h0:kindI s=0
 ·exact ref_right_0 s h0
 by_cases h1:kindI s=98
 ·exact ref_right_98 s h1
 by_cases h2:kindI s=105
 ·exact ref_right_105 s h2
 by_cases h3:kindI s=116
 ·exact ref_right_116 s h3
 exact ref_right_no s h0 h1 h2 h3
set_option maxHeartbeats 400000 in
theorem ref_yes_calls (s:ByteArray) :
  Gives Try.prog 40 #[.string s] (.bool (s.toList==(boolCell true).toList)):=by
 intro w
 obtain ⟨hb,hB⟩:=start w
 go_enter Try.func40,Try.ntmps40
 go_wp2_with (go_at_call 30;refine (ref_bool_calls _).step (w0:=w) (B:=w.heap.size) (by go_grown) (by go_size) ?_;intro w' hb hB)
 go_ret
 exact ⟨rfl,by go_grown⟩
theorem ba_ext {a b:ByteArray}(h:a.data.toList=b.data.toList):a=b:=by
 cases a with|mk x=>cases b with|mk y=>cases x;cases y;cases h;rfl
theorem bl_irrefl:∀ a:List UInt8,Op.bytesLess a a=false
 | []=>rfl
 | x::a=>by simp [Op.bytesLess,bl_irrefl a]
theorem bl_trans:∀ a b c:List UInt8,Op.bytesLess a b=true→Op.bytesLess b c=true→Op.bytesLess a c=true
 | _,_,[],_,h=>by simp [Op.bytesLess] at h
 | _,[],_::_,h,_=>by simp [Op.bytesLess] at h
 | [],_::_,_::_,_,_=>rfl
 | x::a,y::b,z::c,h,k=>by
  simp only [Op.bytesLess,Bool.or_eq_true,Bool.and_eq_true,decide_eq_true_eq,beq_iff_eq] at h k ⊢
  rcases h with h | ⟨rfl,h⟩
  ·rcases k with k | ⟨rfl,_⟩
   ·left;rw [UInt8.lt_iff_toNat_lt] at *;omega
   ·left;exact h
  ·rcases k with k | ⟨rfl,k⟩
   ·left;exact k
   ·right;exact ⟨rfl,bl_trans a b c h k⟩
theorem bl_tri:∀ a b:List UInt8,Op.bytesLess a b=false→Op.bytesLess b a=false→a=b
 | [],[],_,_=>rfl
 | [],_::_,h,_=>by simp [Op.bytesLess] at h
 | _::_,[],_,h=>by simp [Op.bytesLess] at h
 | x::a,y::b,h,k=>by
  simp only [Op.bytesLess,Bool.or_eq_false_iff,Bool.and_eq_false_iff,decide_eq_false_iff_not,beq_eq_false_iff_ne] at h k
  obtain ⟨h1,h2⟩:=h
  obtain ⟨k1,k2⟩:=k
  have hxy:x=y:=by
   rw [UInt8.lt_iff_toNat_lt] at h1 k1
   rw [←UInt8.toNat_inj]
   omega
  subst hxy
  have h3:Op.bytesLess a b=false:=by
   rcases h2 with h2|h2
   ·exact absurd rfl h2
   ·exact h2
  have k3:Op.bytesLess b a=false:=by
   rcases k2 with k2|k2
   ·exact absurd rfl k2
   ·exact k2
  rw [bl_tri a b h3 k3]
def ltB (a b:ByteArray):Bool:=Op.bytesLess a.toList b.toList
theorem ltB_irrefl (a:ByteArray):ltB a a=false:=bl_irrefl _
theorem ltB_trans {a b c:ByteArray}(h:ltB a b=true)(k:ltB b c=true):ltB a c=true:=bl_trans _ _ _ h k
theorem ltB_tri {a b:ByteArray}(h:ltB a b=false)(k:ltB b a=false):a=b:=by
 have:=bl_tri _ _ h k
 rw [ByteArray.toList_eq,ByteArray.toList_eq] at this
 exact ba_ext this
theorem ltB_asym {a b:ByteArray}(h:ltB a b=true):ltB b a=false:=by
 cases hb:ltB b a with
 | false=>rfl
 | true=>have:=ltB_trans h hb;rw [ltB_irrefl] at this;exact this.symm
theorem ltB_ne {a b:ByteArray}(h:ltB a b=true):a≠b:=by rintro rfl;rw [ltB_irrefl] at h;exact absurd h (by decide)
end Go.Proofs.Ytegpikfgajoopaa
