/- The contracts of the answer's Kind, Right and Name of layer 9. -/
import Derived.Test.YtegpikfgajoopaaGStrs
import Derived.Test.YtegpikfgajoopaaGBlockUnder
import Derived.Laws.RangeString
import Derived.Laws.RangeAny
namespace Go.Proofs.Ytegpikfgajoopaa
open Go Go.RowKit
set_option maxHeartbeats 400000 in
theorem ref_shape_kind_calls (k:Int)(w:World):Reads Try.prog 27 #[.int .u8 k] w (.bool (kindB k)):=by
 unfold Reads
 by_cases h1:k=98
 ·have HR:=Lib.hid (show kindB k=true by unfold kindB;rw [h1];rfl)
  have d1:(k==98)=true:=by rw [beq_iff_eq];exact h1
  clear h1
  go_enter Try.func27,Try.ntmps27
  go_wp2
  go_ret
  exact ⟨ret_bool HR.out.symm,rfl⟩
 have d1:(k==98)=false:=by rw [beq_eq_false_iff_ne];exact h1
 by_cases h2:k=105
 ·have HR:=Lib.hid (show kindB k=true by unfold kindB;rw [h2];rfl)
  have d2:(k==105)=true:=by rw [beq_iff_eq];exact h2
  clear h1 h2
  go_enter Try.func27,Try.ntmps27
  go_wp2
  go_ret
  exact ⟨ret_bool HR.out.symm,rfl⟩
 have d2:(k==105)=false:=by rw [beq_eq_false_iff_ne];exact h2
 by_cases h3:k=116
 ·have HR:=Lib.hid (show kindB k=true by unfold kindB;rw [h3];rfl)
  have d3:(k==116)=true:=by rw [beq_iff_eq];exact h3
  clear h1 h2 h3
  go_enter Try.func27,Try.ntmps27
  go_wp2
  go_ret
  exact ⟨ret_bool HR.out.symm,rfl⟩
 have d3:(k==116)=false:=by rw [beq_eq_false_iff_ne];exact h3
 have HR:=Lib.hid (show kindB k=false by unfold kindB;rw [d1,d2,d3];rfl)
 clear h1 h2 h3
 go_enter Try.func27,Try.ntmps27
 go_wp2
 go_ret
 exact ⟨ret_bool HR.out.symm,rfl⟩
set_option maxHeartbeats 1000000 in
theorem ref_shape_right_calls {w:World}{v:Value}{l:List (Int×Bool)}(h:ColsIn w v l):GivesAt Try.prog 13 #[v] w (.bool (rightC l)):=by
 have hm:=h.len
 unfold maxLen at hm
 obtain ⟨hb,hB⟩:=start w
 obtain ⟨A,cap,rfl,hat⟩:=cols_at h
 have HAT:=Lib.hid hat
 clear h hat
 unfold GivesAt
 go_enter Try.func13,Try.ntmps13
 go_wp2
 go_loopw [3] (fun i wr=>∃ k:Nat,k≤l.length∧i=.int .i64 k∧Hid (∀ c∈l.take k,kindB c.1=true)∧Below w.heap.size w wr) (fun i _=>l.length-(intOf i).toNat)
 case atStart=>exact ⟨0,Nat.zero_le _,rfl,fun c hc=>absurd hc (by simp),hb⟩
 case round =>
  clear hb hB
  obtain ⟨k,hk,rfl,HS,hb⟩:=hrel
  have hB:=hb.size
  by_cases hlt:k < l.length
  ·obtain ⟨b,off,rfl,hbl,hc⟩:=HAT.out k hlt
   have hx1:=(hb.cell (p:=⟨b,off+k*2,none⟩) hbl).trans (hc k hlt).1
   have hx2:=(hb.cell (p:=⟨b,off+k*2+1,none⟩) hbl).trans (hc k hlt).2
   have HT:=Lib.hid (take_add l k hlt)
   have HM:=Lib.hid (List.getElem_mem hlt)
   clear hc
   generalize l[k]=c at *
   obtain ⟨kd,nl⟩:=c
   have HN:=Lib.hid (ref_shape_kind_calls kd)
   cases hi:kindB kd with
   | true =>
    rw [hi] at HN
    have HI:=Lib.hid hi
    clear hi
    go_wp2_with (go_at_call 27;refine (HN.out _).step ?_)
    go_roundw
    case rel=>exact ⟨k+1,by omega,by go_num,fun d hd=>by
     rw [HT.out] at hd
     rcases List.mem_append.1 hd with hd|hd
     ·exact HS.out d hd
     ·rw [List.mem_singleton.1 hd];exact HI.out,by go_grown⟩
    case measure=>simp [intOf];omega
   | false =>
    rw [hi] at HN
    have HD:=Lib.hid (rightC_no HM.out hi)
    clear hi
    go_wp2_with (go_at_call 27;refine (HN.out _).step ?_)
    go_ret
    exact ⟨ret_bool HD.out.symm,by go_grown⟩
  ·obtain rfl:k=l.length:=by omega
   rw [List.take_length] at HS
   by_cases h0:1≤l.length
   ·have d1:decide ((1:Int)≤(l.length:Int))=true:=by rw [decide_eq_true_eq];omega
    by_cases h6:l.length≤6
    ·have d2:decide ((l.length:Int)≤6)=true:=by rw [decide_eq_true_eq];omega
     have HD:=Lib.hid (rightC_yes (by omega) h6 HS.out)
     go_wp2
     go_ret
     exact ⟨ret_bool HD.out.symm,hb⟩
    ·have d2:decide ((l.length:Int)≤6)=false:=by rw [decide_eq_false_iff_not];omega
     have HD:Hid (rightC l=false):=by
      show _=_
      unfold rightC
      rw [decide_eq_false h6,Bool.and_false,Bool.false_and]
     go_wp2
     go_ret
     exact ⟨ret_bool HD.out.symm,hb⟩
   ·have d1:decide ((1:Int)≤(l.length:Int))=false:=by rw [decide_eq_false_iff_not];omega
    have HD:Hid (rightC l=false):=by
     show _=_
     unfold rightC
     rw [decide_eq_false (by omega:¬0 < l.length),Bool.false_and,Bool.false_and]
    go_wp2
    go_ret
    exact ⟨ret_bool HD.out.symm,hb⟩
end Go.Proofs.Ytegpikfgajoopaa
