/- Layer 18's laws: small, great. -/
import Derived.Test.YtcofhnedidllpaaGWeighSmall
import Derived.Test.YtcofhnedidllpaaGZTermBox
import Derived.Test.YtcofhnedidllpaaGZTermEnd
namespace Go.Proofs.Ytcofhnedidllpaa
open Go Go.RowKit
def smallV (l:List Tm):Bool:=l.all smallT&&decide (l.length≤60)
theorem smallV_of {l:List Tm}(h:smallV l=true):l.length≤60∧∀ t∈l,smallT t=true:=by
 unfold smallV at h
 rw [Bool.and_eq_true,List.all_eq_true,decide_eq_true_eq] at h
 exact ⟨h.2,h.1⟩
theorem smallV_W {l:List Tm}(h:smallV l=true):smallW l=true:=by
 obtain ⟨h1,h2⟩:=smallV_of h
 unfold smallW
 rw [List.all_eq_true.2 h2,decide_eq_true (by omega)];rfl
theorem smallV_no {l:List Tm}{t:Tm}(ht:t∈l)(h:smallT t=false):smallV l=false:=by
 cases hs:smallV l with
 | false=>rfl
 | true=>rw [(smallV_of hs).2 t ht] at h;exact absurd h (by decide)
theorem smallV_end {l:List Tm}(h:∀ t∈l.take l.length,smallT t=true):decide ((l.length:Int)≤60)=smallV l:=by
 rw [List.take_length] at h
 unfold smallV
 rw [List.all_eq_true.2 h,Bool.true_and]
 congr 1
 rw [eq_iff_iff]
 omega
set_option maxHeartbeats 2000000 in
theorem small18_calls {w:World}{v:Value}{l:List Tm}(h:TimesIn w v l):Reads Try.prog 8 #[v] w (.bool (smallV l)):=by
 have hm:=h.len
 unfold maxLen at hm
 obtain ⟨tv,A,cap,rfl,_,hat⟩:=times_at h
 have HAT:=Lib.hid hat
 clear h hat
 unfold Reads
 go_enter Try.func8,Try.ntmps8
 go_wp2
 go_loop [3] (fun i=>∃ k:Nat,k≤l.length∧i=.int .i64 k∧Hid (∀ t∈l.take k,smallT t=true)) (fun i=>l.length-(intOf i).toNat)
 case atStart=>exact ⟨0,Nat.zero_le _,rfl,fun c hc=>absurd hc (by simp)⟩
 case round =>
  obtain ⟨k,hk,rfl,HS⟩:=hrel
  by_cases hlt:k < l.length
  ·obtain ⟨b,off,rfl,hbl,hc⟩:=HAT.out k hlt
   obtain ⟨rv,hs,_,c1,c2⟩:=hc k hlt
   have HT:=Lib.hid (take_add l k hlt)
   have HM:=Lib.hid (List.getElem_mem hlt)
   clear hc
   generalize l[k]=t at *
   obtain ⟨row,n⟩:=t
   dsimp only at *
   have hrl:=hs.len
   unfold maxLen at hrl
   obtain ⟨Ar,pr,rfl,hrat⟩:=one_at hs
   have HRAT:=Lib.hid hrat
   clear hs hrat
   by_cases hsh:row.length≤10∧n≤1099511627776∧-1099511627776≤n
   ·obtain ⟨g1,g2,g3⟩:=hsh
    have d1:decide (10 < (row.length:Int))=false:=by rw [decide_eq_false_iff_not];omega
    have d2:decide (1099511627776 < n)=false:=by rw [decide_eq_false_iff_not];omega
    have d3:decide (n < -1099511627776)=false:=by rw [decide_eq_false_iff_not];omega
    go_wp2
    go_loop [4] (fun i=>∃ q:Nat,q≤row.length∧i=.int .i64 q∧Hid (∀ c∈row.take q,c.size≤100)) (fun i=>row.length-(intOf i).toNat)
    case atStart=>exact ⟨0,Nat.zero_le _,rfl,fun c hc=>absurd hc (by simp)⟩
    case round =>
     obtain ⟨q,hq,rfl,HQ⟩:=hrel
     by_cases hql:q < row.length
     ·obtain ⟨b2,off2,rfl,_,hcr⟩:=HRAT.out q hql
      have hx:=hcr q hql
      have HTQ:=Lib.hid (take_add row q hql)
      have HMQ:=Lib.hid (List.getElem_mem hql)
      clear hcr
      generalize row[q]=c at *
      by_cases hz:c.size≤100
      ·have d4:decide (100 < (c.size:Int))=false:=by rw [decide_eq_false_iff_not];omega
       go_wp2
       go_round
       case rel=>exact ⟨q+1,by omega,by go_num,fun d hd=>by
        rw [HTQ.out] at hd
        rcases List.mem_append.1 hd with hd|hd
        ·exact HQ.out d hd
        ·rw [List.mem_singleton.1 hd];exact hz⟩
       case measure=>simp [intOf];omega
      ·have d4:decide (100 < (c.size:Int))=true:=by rw [decide_eq_true_eq];omega
       have HD:=Lib.hid (smallV_no HM.out (smallT_no fun h=>hz (h.2.2.2 c HMQ.out)))
       go_wp2
       go_ret
       exact ⟨ret_bool HD.out.symm,rfl⟩
     ·obtain rfl:q=row.length:=by omega
      rw [List.take_length] at HQ
      have HI:=Lib.hid (smallT_yes (t:=(row,n)) g1 g2 g3 HQ.out)
      go_wp2
      go_round
      case rel=>exact ⟨k+1,by omega,by go_num,fun d hd=>by
       rw [HT.out] at hd
       rcases List.mem_append.1 hd with hd|hd
       ·exact HS.out d hd
       ·rw [List.mem_singleton.1 hd];exact HI.out⟩
      case measure=>simp [intOf];omega
   ·have HD:=Lib.hid (smallV_no HM.out (smallT_no fun h=>hsh ⟨h.1,h.2.1,h.2.2.1⟩))
    by_cases g1:row.length≤10
    ·have d1:decide (10 < (row.length:Int))=false:=by rw [decide_eq_false_iff_not];omega
     by_cases g2:n≤1099511627776
     ·have d2:decide (1099511627776 < n)=false:=by rw [decide_eq_false_iff_not];omega
      have d3:decide (n < -1099511627776)=true:=by rw [decide_eq_true_eq];omega
      clear hsh
      go_wp2
      go_ret
      exact ⟨ret_bool HD.out.symm,rfl⟩
     ·have d2:decide (1099511627776 < n)=true:=by rw [decide_eq_true_eq];omega
      clear hsh
      go_wp2
      go_ret
      exact ⟨ret_bool HD.out.symm,rfl⟩
    ·have d1:decide (10 < (row.length:Int))=true:=by rw [decide_eq_true_eq];omega
     clear hsh
     go_wp2
     go_ret
     exact ⟨ret_bool HD.out.symm,rfl⟩
  ·obtain rfl:k=l.length:=by omega
   have HD:=Lib.hid (smallV_end HS.out)
   go_wp2
   go_ret
   exact ⟨ret_bool HD.out,rfl⟩
mutual
def greatV (deep:Nat):Trm→Bool
 | .mk _ _ cell ks=>decide (8 < deep)||(decide (4 < ks.length)||(decide (100 < cell.size)||greatVs (deep+1) ks))
def greatVs (deep:Nat):List Trm→Bool
 | []=>false
 | k::ks=>greatV deep k||greatVs deep ks
end
theorem greatVs_any (deep:Nat):∀ ks:List Trm,greatVs deep ks=ks.any (greatV deep)
 | []=>rfl
 | k::ks=>by rw [greatVs,greatVs_any deep ks];rfl
def GreatVAt (t:Trm):Prop:=∀ (w:World)(v:Value)(deep:Nat),deep≤9→TermIn w v t→GivesAt Try.prog 9 #[v,.int .i64 deep] w (.bool (greatV deep t))
set_option maxHeartbeats 2000000 in
theorem great18_calls (t:Trm):GreatVAt t:=by
 refine Trm.ind (P:=GreatVAt) (fun t ih=>?_) t
 intro w v deep hd ht
 obtain ⟨op,col,cell,ks⟩:=t
 obtain ⟨kv,rfl,ho,hk⟩:=ht
 replace hk:KidsIn w kv ks:=hk
 have hm:=hk.len
 unfold maxLen at hm
 obtain ⟨A,cap,rfl,hat⟩:=kids_at hk
 have HAT:=Lib.hid hat
 have HIH:Hid (∀ k∈ks,GreatVAt k):=fun k hk=>ih k hk
 have hb:=Below.alloc (.refl w.heap.size w) (Nat.le_refl _) (.cells #[.int .u8 op,.int .i64 col,.string cell,.slice A ks.length cap] 25)
 have hB:=hb.size
 have HX:=Lib.hid (trmbox_lit w 25 op col cell (.slice A ks.length cap))
 have hv0:greatV deep (.mk op col cell ks)=(decide (8 < deep)||(decide (4 < ks.length)||(decide (100 < cell.size)||greatVs (deep+1) ks))):=by rw [greatV]
 rw [hv0]
 dsimp only [trmA,Trm.op,Trm.col,Trm.cell]
 unfold GivesAt
 clear ho hk hat ih hv0
 by_cases g1:8 < deep
 ·have d1:decide ((8:Int) < (deep:Int))=true:=decide_eq_true (by omega)
  have e1:decide (8 < deep)=true:=decide_eq_true g1
  rw [e1,Bool.true_or]
  go_enter Try.func9,Try.ntmps9
  go_wp2
  go_ret
  exact ⟨rfl,hb⟩
 ·have d1:decide ((8:Int) < (deep:Int))=false:=decide_eq_false (by omega)
  have e1:decide (8 < deep)=false:=decide_eq_false g1
  rw [e1,Bool.false_or]
  by_cases g2:4 < ks.length
  ·have d2:decide ((4:Int) < (ks.length:Int))=true:=decide_eq_true (by omega)
   have e2:decide (4 < ks.length)=true:=decide_eq_true g2
   rw [e2,Bool.true_or]
   go_enter Try.func9,Try.ntmps9
   go_wp2
   go_ret
   exact ⟨rfl,hb⟩
  ·have d2:decide ((4:Int) < (ks.length:Int))=false:=decide_eq_false (by omega)
   have e2:decide (4 < ks.length)=false:=decide_eq_false g2
   rw [e2,Bool.false_or]
   by_cases g3:100 < cell.size
   ·have d3:decide ((100:Int) < (cell.size:Int))=true:=decide_eq_true (by omega)
    have e3:decide (100 < cell.size)=true:=decide_eq_true g3
    rw [e3,Bool.true_or]
    go_enter Try.func9,Try.ntmps9
    go_wp2
    go_ret
    exact ⟨rfl,hb⟩
   ·have d3:decide ((100:Int) < (cell.size:Int))=false:=decide_eq_false (by omega)
    have e3:decide (100 < cell.size)=false:=decide_eq_false g3
    rw [e3,Bool.false_or]
    have HD:Hid (deep+1≤9):=Lib.hid (by omega)
    have hdi:(deep:Int)≤8:=by omega
    have hdj:(0:Int)≤deep:=by omega
    clear g1 g2 g3 hd
    have HB1:=Lib.hid hb
    go_enter Try.func9,Try.ntmps9
    go_wp2
    clear hb hB
    generalize w.alloc _=w1 at *
    go_loopw [5] (fun i wr=>∃ j:Nat,j≤ks.length∧i=.int .i64 j∧Hid (greatVs (deep+1) (ks.take j)=false)∧Below w1.heap.size w1 wr) (fun i _=>ks.length-(intOf i).toNat)
    case atStart=>exact ⟨0,Nat.zero_le _,rfl,by rw [List.take_zero];exact Lib.hid rfl,.refl _ _⟩
    case round =>
     obtain ⟨j,hj,rfl,HG,hbr⟩:=hrel
     have hb:=HB1.out.trans (hbr.mono HB1.out.size)
     have hB:=hb.size
     have hBr:=hbr.size
     obtain ⟨y0,y1,y2,y3,_⟩:=(HX.out.later hbr).cells
     by_cases hlt:j < ks.length
     ·obtain ⟨b,off,ea,hb0,hc⟩:=HAT.out j hlt
      subst ea
      obtain ⟨kkv,ok,hkk,c0,c1,c2,c3⟩:=hc j hlt
      have x0:=(hb.cell (p:=⟨b,off+j*4,none⟩) hb0).trans c0
      have x1:=(hb.cell (p:=⟨b,off+j*4+1,none⟩) hb0).trans c1
      have x2:=(hb.cell (p:=⟨b,off+j*4+2,none⟩) hb0).trans c2
      have x3:=(hb.cell (p:=⟨b,off+j*4+3,none⟩) hb0).trans c3
      have HC0:=Lib.hid c0
      have HC1:=Lib.hid c1
      have HC2:=Lib.hid c2
      have HC3:=Lib.hid c3
      have HL0:=Lib.hid hb0
      have i0:(0:Int)≤(j:Int):=by omega
      have i1:(j:Int) < (ks.length:Int):=by omega
      have hcc:=HIH.out ks[j] (List.getElem_mem hlt) wr (trmA (kkv,ks[j])) (deep+1) HD.out ⟨kkv,rfl,ok,hkk.kept hb⟩
      rw [show ((deep+1:Nat):Int)=(deep:Int)+1 by omega] at hcc
      dsimp only [trmA] at hcc
      have HC:=Lib.hid hcc
      obtain ⟨Ak,pk,rfl,-⟩:=kids_at hkk
      have HTK:Hid (greatVs (deep+1) (ks.take (j+1))=greatV (deep+1) ks[j]):=Lib.hid (by rw [greatVs_any,take_add ks j hlt,List.any_append,←greatVs_any,HG.out];simp)
      have HTE:Hid (greatV (deep+1) ks[j]=true→greatVs (deep+1) ks=true):=fun h=>by rw [greatVs_any,List.any_eq_true];exact ⟨ks[j],List.getElem_mem hlt,h⟩
      clear hc c0 c1 c2 c3 hkk ok hcc hb0
      generalize ks[j].kids.length=nk at *
      generalize ks[j].op=ok1 at *
      generalize ks[j].col=ok2 at *
      generalize ks[j].cell=ok3 at *
      generalize greatV (deep+1) ks[j]=g at *
      cases g with
      | true =>
       have HTF:=Lib.hid (HTE.out rfl)
       clear HTE
       go_wp2_with (go_at_call 9;refine HC.out.step (w0:=w) (B:=w.heap.size) hb hB ?_;clear hb hB x0 x1 x2 x3 y0 y1 y2 y3;intro w3 hb hB)
       go_ret
       exact ⟨ret_bool (by rw [HTF.out]),hb⟩
      | false =>
       go_wp2_with (go_at_call 9;refine HC.out.stepB (w0:=w1) (B:=w1.heap.size) hbr hBr ?_;clear hb hB hbr hBr x0 x1 x2 x3 y0 y1 y2 y3;intro w3 hbr hBr _)
       go_roundw
       case rel=>exact ⟨j+1,by omega,by go_num,HTK,hbr⟩
       case measure=>simp [intOf];omega
     ·obtain rfl:j=ks.length:=by omega
      rw [List.take_length] at HG
      go_wp2
      go_ret
      exact ⟨ret_bool (by rw [HG.out]),hb⟩
end Go.Proofs.Ytcofhnedidllpaa
