/- Rows of few cells stay rows of few cells; no program. -/
import Derived.Test.YtcofhnedidllpaaGStrs
import Derived.Test.YtcofhnedidllpaaGTimes
namespace Go.Proofs.Ytcofhnedidllpaa
open Go Go.RowKit
def smallT (t:Tm):Bool:=decide (t.1.length≤10)&&decide (t.2≤1099511627776)&&decide (-1099511627776≤t.2)&&t.1.all fun c=>decide (c.size≤100)
def smallW (l:List Tm):Bool:=l.all smallT&&decide (l.length≤100)
theorem smallT_of {t:Tm}(h:smallT t=true):t.1.length≤10∧t.2≤1099511627776∧-1099511627776≤t.2∧∀ c∈t.1,c.size≤100:=by
 unfold smallT at h
 rw [Bool.and_eq_true,Bool.and_eq_true,Bool.and_eq_true,decide_eq_true_eq,decide_eq_true_eq,decide_eq_true_eq,List.all_eq_true] at h
 exact ⟨h.1.1.1,h.1.1.2,h.1.2,fun c hc=>by have:=h.2 c hc;rwa [decide_eq_true_eq] at this⟩
theorem smallT_yes {t:Tm}(h1:t.1.length≤10)(h2:t.2≤1099511627776)(h3 : -1099511627776≤t.2)(h4:∀ c∈t.1,c.size≤100):smallT t=true:=by
 unfold smallT
 rw [decide_eq_true h1,decide_eq_true h2,decide_eq_true h3,List.all_eq_true.2 fun c hc=>decide_eq_true (h4 c hc)];rfl
theorem smallW_of {l:List Tm}(h:smallW l=true):l.length≤100∧∀ t∈l,smallT t=true:=by
 unfold smallW at h
 rw [Bool.and_eq_true,List.all_eq_true,decide_eq_true_eq] at h
 exact ⟨h.2,h.1⟩
theorem smallT_no {t:Tm}(h:¬(t.1.length≤10∧t.2≤1099511627776∧-1099511627776≤t.2∧∀ c∈t.1,c.size≤100)):smallT t=false:=by
 cases hs:smallT t with
 | false=>rfl
 | true=>exact absurd (smallT_of hs) h
theorem small_wt {l:List Tm}(h:smallW l=true):wtW l≤109951162777600:=by
 obtain ⟨h1,h2⟩:=smallW_of h
 have:=wt_each (l:=l) (n:=1099511627776) fun t ht=>by have:=smallT_of (h2 t ht);omega
 have h3:l.length*1099511627776≤100*1099511627776:=Nat.mul_le_mul_right _ h1
 omega
theorem times_some {w:World}{v:Value}{l:List Tm}(h:TimesIn w v l)(h0:0 < l.length):∃ b off cap,v=.slice (some ⟨b,off,none⟩) l.length cap:=by
 obtain ⟨tv,A,cap,rfl,_,hat⟩:=times_at h
 obtain ⟨b,off,rfl,_⟩:=hat 0 h0
 exact ⟨b,off,cap,rfl⟩
theorem times_cellAt {w:World}{b off n cap:Nat}{l:List Tm}(h:TimesIn w (.slice (some ⟨b,off,none⟩) n cap) l)(j:Nat)(hj:j < l.length) :
  ∃ rv,StrsIn w rv l[j].1∧w.cell? ⟨b,off+j*2,none⟩=some rv∧w.cell? ⟨b,off+j*2+1,none⟩=some (.int .i64 l[j].2):=by
 obtain ⟨tv,A,cap',e,_,hat⟩:=times_at h
 cases e
 obtain ⟨b',off',e1,_,hc⟩:=hat j hj
 cases e1
 obtain ⟨rv,hs,_,c1,c2⟩:=hc j hj
 exact ⟨rv,hs,c1,c2⟩
theorem times_slice {w:World}{v:Value}{l:List Tm}(h:TimesIn w v l):∃ A cap,v=.slice A l.length cap:=by
 obtain ⟨tv,A,cap,e,_⟩:=times_at h
 exact ⟨A,cap,e⟩
def ShortR (l:List Tm):Prop:=∀ t∈l,t.1.length≤1000000
theorem ShortR.of {l:List Tm}(h:ShortR l):ShortR (ofW l):=fun t ht=>by
 obtain ⟨u,hu,e⟩:=mem_of ht
 rw [←e];exact h u hu
theorem ShortR.put {l:List Tm}(h:ShortR l){x:Tm}(hx:x.1.length≤1000000):ShortR (putW l x):=fun t ht=>by
 rcases mem_put ht with ht|ht
 ·exact h t ht
 ·rw [ht];exact hx
theorem ShortR.foldl {m l:List Tm}(h:ShortR l)(hm:ShortR m):ShortR (m.foldl putW l):=by
 induction m generalizing l with
 | nil=>exact h
 | cons x m ih=>exact ih (h.put (hm x (List.mem_cons_self ..))) (fun t ht=>hm t (List.mem_cons_of_mem _ ht))
theorem ShortR.sum {a b:List Tm}(h:ShortR a)(k:ShortR b):ShortR (sumW a b):=(h.of).foldl k
theorem ShortR.minus {l:List Tm}(h:ShortR l):ShortR (minusW l):=fun t ht=>by
 obtain ⟨u,hu,rfl⟩:=List.mem_map.1 ht
 exact h u hu
theorem ShortR.nil:ShortR []:=fun t ht=>absurd ht (by simp)
theorem short_small {l:List Tm}(h:smallW l=true):ShortR l:=fun t ht=>by
 have:=(smallT_of ((smallW_of h).2 t ht)).1;omega
end Go.Proofs.Ytcofhnedidllpaa
