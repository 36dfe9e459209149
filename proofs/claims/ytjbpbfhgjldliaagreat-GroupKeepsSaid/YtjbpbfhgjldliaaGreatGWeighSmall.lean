/- Rows of few cells stay rows of few cells; no program. -/
import Derived.Test.YtjbpbfhgjldliaaGreatGStrs
import Derived.Test.YtjbpbfhgjldliaaGreatGTimes
namespace Go.Proofs.YtjbpbfhgjldliaaGreat
open Go Go.RowKit
theorem times_some {w:World}{v:Value}{l:List Tm}(h:TimesIn w v l)(h0:0 < l.length):∃ b off cap,v=.slice (some ⟨b,off,none⟩) l.length cap:=by
 obtain ⟨tv,A,cap,rfl,_,hat⟩:=times_at h
 obtain ⟨b,off,rfl,_⟩:=hat 0 h0
 exact ⟨b,off,cap,rfl⟩
theorem times_cellAt {w:World}{b off n cap:Nat}{l:List Tm}(h:TimesIn w (.slice (some ⟨b,off,none⟩) n cap) l)(j:Nat)(hj:j < l.length) :
  ∃ rv,StrsIn w rv l[j].1∧w.cell? ⟨b,off+j*2,none⟩=some rv∧w.cell? ⟨b,off+j*2+1,none⟩=some (.int .i64 l[j].2):=by
 obtain ⟨tv,A,cap',e,_,hat⟩:=times_at h
 cases e
 obtain ⟨b',off',e1,_,hc⟩:=hat j hj
 cases e1
 obtain ⟨rv,hs,_,c1,c2⟩:=hc j hj
 exact ⟨rv,hs,c1,c2⟩
theorem times_slice {w:World}{v:Value}{l:List Tm}(h:TimesIn w v l):∃ A cap,v=.slice A l.length cap:=by
 obtain ⟨tv,A,cap,e,_⟩:=times_at h
 exact ⟨A,cap,e⟩
def ShortR (l:List Tm):Prop:=∀ t∈l,t.1.length≤1000000
theorem ShortR.of {l:List Tm}(h:ShortR l):ShortR (ofW l):=fun t ht=>by
 obtain ⟨u,hu,e⟩:=mem_of ht
 rw [←e];exact h u hu
theorem ShortR.put {l:List Tm}(h:ShortR l){x:Tm}(hx:x.1.length≤1000000):ShortR (putW l x):=fun t ht=>by
 rcases mem_put ht with ht|ht
 ·exact h t ht
 ·rw [ht];exact hx
theorem ShortR.foldl {m l:List Tm}(h:ShortR l)(hm:ShortR m):ShortR (m.foldl putW l):=by
 induction m generalizing l with
 | nil=>exact h
 | cons x m ih=>exact ih (h.put (hm x (List.mem_cons_self ..))) (fun t ht=>hm t (List.mem_cons_of_mem _ ht))
theorem ShortR.sum {a b:List Tm}(h:ShortR a)(k:ShortR b):ShortR (sumW a b):=(h.of).foldl k
theorem ShortR.nil:ShortR []:=fun t ht=>absurd ht (by simp)
end Go.Proofs.YtjbpbfhgjldliaaGreat
