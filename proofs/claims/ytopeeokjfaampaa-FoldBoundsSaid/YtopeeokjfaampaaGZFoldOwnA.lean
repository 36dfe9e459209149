/- The contracts of layer 20's small functions: has, hasAll, number. -/
import Derived.Test.YtopeeokjfaampaaGStrs
import Derived.Test.YtopeeokjfaampaaGZFoldPure
import Derived.Test.YtopeeokjfaampaaGZWideOwn
namespace Go.Proofs.Ytopeeokjfaampaa
open Go Go.RowKit
def hasB (row:List ByteArray)(c:Int):Bool:=decide (0≤c)&&decide (c < row.length)
set_option maxHeartbeats 1000000 in
theorem fhas_calls (A:Option Addr)(n p:Nat)(c:Int)(w:World):Reads Try.prog 28 #[.slice A n p,.int .i64 c] w (.bool (decide (0≤c)&&decide (c < (n:Int)))):=by
 unfold Reads
 cases d1:decide ((0:Int)≤c) with
 | false =>
  go_enter Try.func28,Try.ntmps28
  go_wp2
  go_ret
  exact ⟨rfl,rfl⟩
 | true =>
  cases d2:decide (c < (n:Int)) with
  | false =>
   go_enter Try.func28,Try.ntmps28
   go_wp2
   go_ret
   exact ⟨rfl,rfl⟩
  | true =>
   go_enter Try.func28,Try.ntmps28
   go_wp2
   go_ret
   exact ⟨rfl,rfl⟩
theorem pickOk_take (row:List ByteArray)(cols:List Int)(k:Nat)(h:k < cols.length):pickOk row (cols.take (k+1))=(pickOk row (cols.take k)&&hasB row cols[k]):=by
 unfold pickOk
 rw [List.take_add_one,List.getElem?_eq_getElem h,Option.toList_some,List.all_append]
 simp [hasB]
theorem pickOk_not2 {row:List ByteArray}{cols:List Int}{c:Int}(hc:c∈cols)(h:hasB row c=false):pickOk row cols=false:=by
 refine pickOk_not hc ?_
 unfold hasB at h
 rw [Bool.and_eq_false_iff,decide_eq_false_iff_not,decide_eq_false_iff_not] at h
 omega
set_option maxHeartbeats 1000000 in
theorem fhasall_calls {w:World}{vc:Value}(A:Option Addr)(p:Nat)(row:List ByteArray){cols:List Int}(hc:IntsIn w vc cols):Reads Try.prog 21 #[.slice A row.length p,vc] w (.bool (pickOk row cols)):=by
 obtain ⟨Ac,cc,rfl,hat⟩:=one_at hc
 have HAT:=Lib.hid hat
 have HLEN:=Lib.hid hc.len
 clear hc hat
 unfold Reads
 go_enter Try.func21,Try.ntmps21
 go_wp2
 go_loop [9] (fun i=>∃ k:Nat,k≤cols.length∧i=.int .i64 k∧Hid (pickOk row (cols.take k)=true)) (fun i=>cols.length-(intOf i).toNat)
 case atStart=>exact ⟨0,Nat.zero_le _,rfl,Lib.hid rfl⟩
 case round =>
  obtain ⟨k,hk,rfl,HM⟩:=hrel
  by_cases hlt:k < cols.length
  ·obtain ⟨bo,off,rfl,hbl,hc⟩:=HAT.out k hlt
   have x1:=hc k hlt
   have HT:=Lib.hid (pickOk_take row cols k hlt)
   rw [HM.out,Bool.true_and] at HT
   have HN:=Lib.hid (fun h=>pickOk_not2 (row:=row) (List.getElem_mem hlt) h)
   have HLK:Hid (k < cols.length):=hlt
   have i1:(k:Int) < (cols.length:Int):=by omega
   clear hc
   generalize cols[k]=c at *
   have HC:=Lib.hid (fhas_calls A row.length p c w)
   have HE:Hid ((decide (0≤c)&&decide (c < (row.length:Int)))=hasB row c):=Lib.hid rfl
   rw [HE.out] at HC
   clear HE
   generalize hasB row c=y at *
   cases y with
   | true =>
    have HM2:=Lib.hid HT.out
    have hml:=HLEN.out
    unfold maxLen at hml
    clear HT HN
    go_wp2_with (go_at_call 28;refine HC.out.step ?_)
    go_round
    case rel=>exact ⟨k+1,HLK.out,by go_num,HM2⟩
    case measure=>have:=HLK.out;simp [intOf];omega
   | false =>
    have HF:=Lib.hid (HN.out rfl)
    clear HT HN
    go_wp2_with (go_at_call 28;refine HC.out.step ?_)
    go_ret
    exact ⟨ret_bool HF.out.symm,rfl⟩
  ·obtain rfl:k=cols.length:=by omega
   rw [List.take_length] at HM
   go_wp2
   go_ret
   exact ⟨ret_bool HM.out.symm,rfl⟩
def errN (o:Option ByteArray):Int:=match o with|some _=>0|none=>7
def gotN (o:Option ByteArray):ByteArray:=match o with|some c=>c|none=>eB
set_option maxHeartbeats 1000000 in
theorem fnumber_calls (z:Int):Gives Try.prog 19 #[wV (toW z)] (.tuple #[.string (gotN (numW z)),.int .i64 (errN (numW z))]):=by
 intro w
 obtain ⟨hb,hB⟩:=start w
 have HIN:=Lib.hid (toW_in z)
 have HC:=Lib.hid (wide_int_calls (toW_in z))
 have HV:Hid (∃ a b,wV (toW z)=.agg #[.int .i64 a,.int .u64 b]):=⟨_,_,rfl⟩
 obtain ⟨a,b,hab⟩:=HV.out
 rw [hab] at HC ⊢
 clear hab HV
 unfold numW
 cases hf:fitsD (toW z) with
 | true =>
  have he:errD (toW z)=0:=by unfold errD;rw [hf];rfl
  have hi : -9223372036854775808≤intD (toW z)∧intD (toW z)≤9223372036854775807:=by
   unfold intD
   rw [hf]
   unfold fitsD at hf
   rw [Bool.and_eq_true,decide_eq_true_eq,decide_eq_true_eq] at hf
   exact hf
  rw [he] at HC
  have HI:=Lib.hid (int_calls _ hi.1 hi.2)
  clear he hi hf HIN
  generalize intD (toW z)=n at *
  show Calls _ _ _ _ fun e w'=>e=.returned (.tuple #[.string (cellInt n),.int .i64 0])∧_
  generalize cellInt n=s at *
  go_enter Try.func19,Try.ntmps19
  go_wp2_with (first|(go_at_call 31;refine HC.out.step (w0:=w) (B:=w.heap.size) (by go_grown) (by go_size) ?_;clear hb hB;intro w1 hb hB)|(go_at_call 13;refine HI.out.step (w0:=w) (B:=w.heap.size) hb hB ?_;clear hb hB;intro w2 hb hB))
  go_ret2
  exact ⟨rfl,hb⟩
 | false =>
  have he:errD (toW z)=7:=by unfold errD;rw [hf];rfl
  rw [he] at HC
  clear he hf HIN
  show Calls _ _ _ _ fun e w'=>e=.returned (.tuple #[.string eB,.int .i64 7])∧_
  generalize intD (toW z)=n at *
  go_enter Try.func19,Try.ntmps19
  go_wp2_with (go_at_call 31;refine HC.out.step (w0:=w) (B:=w.heap.size) (by go_grown) (by go_size) ?_;clear hb hB;intro w1 hb hB)
  go_ret2
  exact ⟨rfl,hb⟩
end Go.Proofs.Ytopeeokjfaampaa
