/- Layer 19's laws: small. -/
import Derived.Test.YtaoeikeobfllkaaGStrs
import Derived.Test.YtaoeikeobfllkaaGZPairFine
namespace Go.Proofs.Ytaoeikeobfllkaa
open Go Go.RowKit
def small1T (t:Tm):Bool:=decide (t.1.length≤10)&&decide (t.2≤33554432)&&decide (-33554432≤t.2)&&t.1.all fun c=>decide (c.size≤100)
def small19 (l:List Tm)(most:Nat):Bool:=l.all small1T&&decide (l.length≤most)
theorem small1T_of {t:Tm}(h:small1T t=true):t.1.length≤10∧t.2≤33554432∧-33554432≤t.2∧∀ c∈t.1,c.size≤100:=by
 unfold small1T at h
 rw [Bool.and_eq_true,Bool.and_eq_true,Bool.and_eq_true,decide_eq_true_eq,decide_eq_true_eq,decide_eq_true_eq,List.all_eq_true] at h
 exact ⟨h.1.1.1,h.1.1.2,h.1.2,fun c hc=>by have:=h.2 c hc;rwa [decide_eq_true_eq] at this⟩
theorem small1T_yes {t:Tm}(h1:t.1.length≤10)(h2:t.2≤33554432)(h3 : -33554432≤t.2)(h4:∀ c∈t.1,c.size≤100):small1T t=true:=by
 unfold small1T
 rw [decide_eq_true h1,decide_eq_true h2,decide_eq_true h3,List.all_eq_true.2 fun c hc=>decide_eq_true (h4 c hc)];rfl
theorem small19_of {l:List Tm}{most:Nat}(h:small19 l most=true):l.length≤most∧∀ t∈l,small1T t=true:=by
 unfold small19 at h
 rw [Bool.and_eq_true,List.all_eq_true,decide_eq_true_eq] at h
 exact ⟨h.2,h.1⟩
theorem small19_no {l:List Tm}{most:Nat}{t:Tm}(ht:t∈l)(h:small1T t=false):small19 l most=false:=by
 cases hs:small19 l most with
 | false=>rfl
 | true=>rw [(small19_of hs).2 t ht] at h;exact absurd h (by decide)
theorem small1T_no {t:Tm}(h:¬(t.1.length≤10∧t.2≤33554432∧-33554432≤t.2∧∀ c∈t.1,c.size≤100)):small1T t=false:=by
 cases hs:small1T t with
 | false=>rfl
 | true=>exact absurd (small1T_of hs) h
theorem small19_end {l:List Tm}{most:Nat}(h:∀ t∈l.take l.length,small1T t=true):decide (l.length≤most)=small19 l most:=by
 rw [List.take_length] at h
 unfold small19
 rw [List.all_eq_true.2 h,Bool.true_and]
set_option maxHeartbeats 2000000 in
theorem small19_calls {w:World}{v:Value}{l:List Tm}(most:Nat)(h:TimesIn w v l):Reads Try.prog 7 #[v,.int .i64 most] w (.bool (small19 l most)):=by
 have hm:=h.len
 unfold maxLen at hm
 obtain ⟨tv,A,cap,rfl,_,hat⟩:=times_at h
 have HAT:=Lib.hid hat
 clear h hat
 unfold Reads
 go_enter Try.func7,Try.ntmps7
 go_wp2
 go_loop [5] (fun i=>∃ k:Nat,k≤l.length∧i=.int .i64 k∧Hid (∀ t∈l.take k,small1T t=true)) (fun i=>l.length-(intOf i).toNat)
 case atStart=>exact ⟨0,Nat.zero_le _,rfl,fun c hc=>absurd hc (by simp)⟩
 case round =>
  obtain ⟨k,hk,rfl,HS⟩:=hrel
  by_cases hlt:k < l.length
  ·obtain ⟨b,off,rfl,hbl,hc⟩:=HAT.out k hlt
   obtain ⟨rv,hs,_,c1,c2⟩:=hc k hlt
   have HT:=Lib.hid (take_add l k hlt)
   have HM:=Lib.hid (List.getElem_mem hlt)
   clear hc
   generalize l[k]=t at *
   obtain ⟨row,n⟩:=t
   dsimp only at *
   have hrl:=hs.len
   unfold maxLen at hrl
   obtain ⟨Ar,pr,rfl,hrat⟩:=one_at hs
   have HRAT:=Lib.hid hrat
   clear hs hrat
   by_cases hsh:row.length≤10∧n≤33554432∧-33554432≤n
   ·obtain ⟨g1,g2,g3⟩:=hsh
    have d1:decide (10 < (row.length:Int))=false:=by rw [decide_eq_false_iff_not];omega
    have d2:decide (33554432 < n)=false:=by rw [decide_eq_false_iff_not];omega
    have d3:decide (n < -33554432)=false:=by rw [decide_eq_false_iff_not];omega
    go_wp2
    go_loop [6] (fun i=>∃ q:Nat,q≤row.length∧i=.int .i64 q∧Hid (∀ c∈row.take q,c.size≤100)) (fun i=>row.length-(intOf i).toNat)
    case atStart=>exact ⟨0,Nat.zero_le _,rfl,fun c hc=>absurd hc (by simp)⟩
    case round =>
     obtain ⟨q,hq,rfl,HQ⟩:=hrel
     by_cases hql:q < row.length
     ·obtain ⟨b2,off2,rfl,_,hcr⟩:=HRAT.out q hql
      have hx:=hcr q hql
      have HTQ:=Lib.hid (take_add row q hql)
      have HMQ:=Lib.hid (List.getElem_mem hql)
      clear hcr
      generalize row[q]=c at *
      by_cases hz:c.size≤100
      ·have d4:decide (100 < (c.size:Int))=false:=by rw [decide_eq_false_iff_not];omega
       go_wp2
       go_round
       case rel=>exact ⟨q+1,by omega,by go_num,fun d hd=>by
        rw [HTQ.out] at hd
        rcases List.mem_append.1 hd with hd|hd
        ·exact HQ.out d hd
        ·rw [List.mem_singleton.1 hd];exact hz⟩
       case measure=>simp [intOf];omega
      ·have d4:decide (100 < (c.size:Int))=true:=by rw [decide_eq_true_eq];omega
       have HD:=Lib.hid (small19_no (most:=most) HM.out (small1T_no fun h=>hz (h.2.2.2 c HMQ.out)))
       go_wp2
       go_ret
       exact ⟨ret_bool HD.out.symm,rfl⟩
     ·obtain rfl:q=row.length:=by omega
      rw [List.take_length] at HQ
      have HI:=Lib.hid (small1T_yes (t:=(row,n)) g1 g2 g3 HQ.out)
      go_wp2
      go_round
      case rel=>exact ⟨k+1,by omega,by go_num,fun d hd=>by
       rw [HT.out] at hd
       rcases List.mem_append.1 hd with hd|hd
       ·exact HS.out d hd
       ·rw [List.mem_singleton.1 hd];exact HI.out⟩
      case measure=>simp [intOf];omega
   ·have HD:=Lib.hid (small19_no (most:=most) HM.out (small1T_no fun h=>hsh ⟨h.1,h.2.1,h.2.2.1⟩))
    by_cases g1:row.length≤10
    ·have d1:decide (10 < (row.length:Int))=false:=by rw [decide_eq_false_iff_not];omega
     by_cases g2:n≤33554432
     ·have d2:decide (33554432 < n)=false:=by rw [decide_eq_false_iff_not];omega
      have d3:decide (n < -33554432)=true:=by rw [decide_eq_true_eq];omega
      clear hsh
      go_wp2
      go_ret
      exact ⟨ret_bool HD.out.symm,rfl⟩
     ·have d2:decide (33554432 < n)=true:=by rw [decide_eq_true_eq];omega
      clear hsh
      go_wp2
      go_ret
      exact ⟨ret_bool HD.out.symm,rfl⟩
    ·have d1:decide (10 < (row.length:Int))=true:=by rw [decide_eq_true_eq];omega
     clear hsh
     go_wp2
     go_ret
     exact ⟨ret_bool HD.out.symm,rfl⟩
  ·obtain rfl:k=l.length:=by omega
   have HD:=Lib.hid (small19_end (most:=most) HS.out)
   go_wp2
   go_ret
   exact ⟨ret_bool HD.out,rfl⟩
theorem fine19 {l:List Tm}{most:Nat}(h:small19 l most=true):Fine most (most*33554432) 10 l:=by
 obtain ⟨h1,h2⟩:=small19_of h
 have h3:=wt_each (l:=l) (n:=33554432) fun t ht=>by have:=small1T_of (h2 t ht);omega
 refine ⟨h1,Nat.le_trans h3 (Nat.mul_le_mul_right _ h1),fun t ht=>(small1T_of (h2 t ht)).1,fun t ht c hc=>?_⟩
 have:=(small1T_of (h2 t ht)).2.2.2 c hc
 unfold maxLen
 omega
end Go.Proofs.Ytaoeikeobfllkaa
