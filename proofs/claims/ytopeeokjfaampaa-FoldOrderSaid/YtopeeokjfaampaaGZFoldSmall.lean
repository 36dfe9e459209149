/- Layer 20's laws: small. -/
import Derived.Test.YtopeeokjfaampaaGStrs
import Derived.Test.YtopeeokjfaampaaGZFoldGroups
namespace Go.Proofs.Ytopeeokjfaampaa
open Go Go.RowKit
def small20T (t:Tm):Bool:=decide (t.1.length≤10)&&decide (t.2≤1099511627776)&&decide (1≤t.2)&&t.1.all fun c=>decide (c.size≤100)
def small20 (l:List Tm):Bool:=l.all small20T&&decide (l.length≤50)
theorem small20T_of {t:Tm}(h:small20T t=true):t.1.length≤10∧t.2≤1099511627776∧1≤t.2∧∀ c∈t.1,c.size≤100:=by
 unfold small20T at h
 rw [Bool.and_eq_true,Bool.and_eq_true,Bool.and_eq_true,decide_eq_true_eq,decide_eq_true_eq,decide_eq_true_eq,List.all_eq_true] at h
 exact ⟨h.1.1.1,h.1.1.2,h.1.2,fun c hc=>by have:=h.2 c hc;rwa [decide_eq_true_eq] at this⟩
theorem small20T_yes {t:Tm}(h1:t.1.length≤10)(h2:t.2≤1099511627776)(h3:1≤t.2)(h4:∀ c∈t.1,c.size≤100):small20T t=true:=by
 unfold small20T
 rw [decide_eq_true h1,decide_eq_true h2,decide_eq_true h3,List.all_eq_true.2 fun c hc=>decide_eq_true (h4 c hc)];rfl
theorem small20_of {l:List Tm}(h:small20 l=true):l.length≤50∧∀ t∈l,small20T t=true:=by
 unfold small20 at h
 rw [Bool.and_eq_true,List.all_eq_true,decide_eq_true_eq] at h
 exact ⟨h.2,h.1⟩
theorem small20_no {l:List Tm}{t:Tm}(ht:t∈l)(h:small20T t=false):small20 l=false:=by
 cases hs:small20 l with
 | false=>rfl
 | true=>rw [(small20_of hs).2 t ht] at h;exact absurd h (by decide)
theorem small20T_no {t:Tm}(h:¬(t.1.length≤10∧t.2≤1099511627776∧1≤t.2∧∀ c∈t.1,c.size≤100)):small20T t=false:=by
 cases hs:small20T t with
 | false=>rfl
 | true=>exact absurd (small20T_of hs) h
theorem small20_end {l:List Tm}(h:∀ t∈l.take l.length,small20T t=true):decide ((l.length:Int)≤50)=small20 l:=by
 rw [List.take_length] at h
 unfold small20
 rw [List.all_eq_true.2 h,Bool.true_and]
 congr 1
 rw [eq_iff_iff]
 omega
set_option maxHeartbeats 2000000 in
theorem small20_calls {w:World}{v:Value}{l:List Tm}(h:TimesIn w v l):Reads Try.prog 6 #[v] w (.bool (small20 l)):=by
 have hm:=h.len
 unfold maxLen at hm
 obtain ⟨tv,A,cap,rfl,_,hat⟩:=times_at h
 have HAT:=Lib.hid hat
 clear h hat
 unfold Reads
 go_enter Try.func6,Try.ntmps6
 go_wp2
 go_loop [3] (fun i=>∃ k:Nat,k≤l.length∧i=.int .i64 k∧Hid (∀ t∈l.take k,small20T t=true)) (fun i=>l.length-(intOf i).toNat)
 case atStart=>exact ⟨0,Nat.zero_le _,rfl,fun c hc=>absurd hc (by simp)⟩
 case round =>
  obtain ⟨k,hk,rfl,HS⟩:=hrel
  by_cases hlt:k < l.length
  ·obtain ⟨b,off,rfl,hbl,hc⟩:=HAT.out k hlt
   obtain ⟨rv,hs,_,c1,c2⟩:=hc k hlt
   have HT:=Lib.hid (take_add l k hlt)
   have HM:=Lib.hid (List.getElem_mem hlt)
   clear hc
   generalize l[k]=t at *
   obtain ⟨row,n⟩:=t
   dsimp only at *
   have hrl:=hs.len
   unfold maxLen at hrl
   obtain ⟨Ar,pr,rfl,hrat⟩:=one_at hs
   have HRAT:=Lib.hid hrat
   clear hs hrat
   by_cases hsh:row.length≤10∧n≤1099511627776∧1≤n
   ·obtain ⟨g1,g2,g3⟩:=hsh
    have d1:decide (10 < (row.length:Int))=false:=by rw [decide_eq_false_iff_not];omega
    have d2:decide (1099511627776 < n)=false:=by rw [decide_eq_false_iff_not];omega
    have d3:decide (n < 1)=false:=by rw [decide_eq_false_iff_not];omega
    go_wp2
    go_loop [4] (fun i=>∃ q:Nat,q≤row.length∧i=.int .i64 q∧Hid (∀ c∈row.take q,c.size≤100)) (fun i=>row.length-(intOf i).toNat)
    case atStart=>exact ⟨0,Nat.zero_le _,rfl,fun c hc=>absurd hc (by simp)⟩
    case round =>
     obtain ⟨q,hq,rfl,HQ⟩:=hrel
     by_cases hql:q < row.length
     ·obtain ⟨b2,off2,rfl,_,hcr⟩:=HRAT.out q hql
      have hx:=hcr q hql
      have HTQ:=Lib.hid (take_add row q hql)
      have HMQ:=Lib.hid (List.getElem_mem hql)
      clear hcr
      generalize row[q]=c at *
      by_cases hz:c.size≤100
      ·have d4:decide (100 < (c.size:Int))=false:=by rw [decide_eq_false_iff_not];omega
       go_wp2
       go_round
       case rel=>exact ⟨q+1,by omega,by go_num,fun d hd=>by
        rw [HTQ.out] at hd
        rcases List.mem_append.1 hd with hd|hd
        ·exact HQ.out d hd
        ·rw [List.mem_singleton.1 hd];exact hz⟩
       case measure=>simp [intOf];omega
      ·have d4:decide (100 < (c.size:Int))=true:=by rw [decide_eq_true_eq];omega
       have HD:=Lib.hid (small20_no HM.out (small20T_no fun h=>hz (h.2.2.2 c HMQ.out)))
       go_wp2
       go_ret
       exact ⟨ret_bool HD.out.symm,rfl⟩
     ·obtain rfl:q=row.length:=by omega
      rw [List.take_length] at HQ
      have HI:=Lib.hid (small20T_yes (t:=(row,n)) g1 g2 g3 HQ.out)
      go_wp2
      go_round
      case rel=>exact ⟨k+1,by omega,by go_num,fun d hd=>by
       rw [HT.out] at hd
       rcases List.mem_append.1 hd with hd|hd
       ·exact HS.out d hd
       ·rw [List.mem_singleton.1 hd];exact HI.out⟩
      case measure=>simp [intOf];omega
   ·have HD:=Lib.hid (small20_no HM.out (small20T_no fun h=>hsh ⟨h.1,h.2.1,h.2.2.1⟩))
    by_cases g1:row.length≤10
    ·have d1:decide (10 < (row.length:Int))=false:=by rw [decide_eq_false_iff_not];omega
     by_cases g2:n≤1099511627776
     ·have d2:decide (1099511627776 < n)=false:=by rw [decide_eq_false_iff_not];omega
      have d3:decide (n < 1)=true:=by rw [decide_eq_true_eq];omega
      clear hsh
      go_wp2
      go_ret
      exact ⟨ret_bool HD.out.symm,rfl⟩
     ·have d2:decide (1099511627776 < n)=true:=by rw [decide_eq_true_eq];omega
      clear hsh
      go_wp2
      go_ret
      exact ⟨ret_bool HD.out.symm,rfl⟩
    ·have d1:decide (10 < (row.length:Int))=true:=by rw [decide_eq_true_eq];omega
     clear hsh
     go_wp2
     go_ret
     exact ⟨ret_bool HD.out.symm,rfl⟩
  ·obtain rfl:k=l.length:=by omega
   have HD:=Lib.hid (small20_end HS.out)
   go_wp2
   go_ret
   exact ⟨ret_bool HD.out,rfl⟩
theorem small20_n {l:List Tm}(h:small20 l=true):∀ x∈l,1≤x.2∧x.2≤1099511627776:=fun x hx=>by
 have:=small20T_of ((small20_of h).2 x hx)
 exact ⟨this.2.2.1,this.2.1⟩
theorem small20_in {l:List Tm}(h:small20 l=true):∀ x∈l,-9223372036854775808≤x.2∧x.2≤9223372036854775807:=fun x hx=>by
 have:=small20_n h x hx
 omega
end Go.Proofs.Ytopeeokjfaampaa
