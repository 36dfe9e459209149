/- Rows of few cells stay rows of few cells; no program. -/
import Derived.Test.YtafmbnafibahkaaGreatGStrs
import Derived.Test.YtafmbnafibahkaaGreatGTimes
namespace Go.Proofs.YtafmbnafibahkaaGreat
open Go Go.RowKit
theorem times_slice {w:World}{v:Value}{l:List Tm}(h:TimesIn w v l):∃ A cap,v=.slice A l.length cap:=by
 obtain ⟨tv,A,cap,e,_⟩:=times_at h
 exact ⟨A,cap,e⟩
def ShortR (l:List Tm):Prop:=∀ t∈l,t.1.length≤1000000
theorem ShortR.of {l:List Tm}(h:ShortR l):ShortR (ofW l):=fun t ht=>by
 obtain ⟨u,hu,e⟩:=mem_of ht
 rw [←e];exact h u hu
theorem ShortR.put {l:List Tm}(h:ShortR l){x:Tm}(hx:x.1.length≤1000000):ShortR (putW l x):=fun t ht=>by
 rcases mem_put ht with ht|ht
 ·exact h t ht
 ·rw [ht];exact hx
theorem ShortR.foldl {m l:List Tm}(h:ShortR l)(hm:ShortR m):ShortR (m.foldl putW l):=by
 induction m generalizing l with
 | nil=>exact h
 | cons x m ih=>exact ih (h.put (hm x (List.mem_cons_self ..))) (fun t ht=>hm t (List.mem_cons_of_mem _ ht))
theorem ShortR.sum {a b:List Tm}(h:ShortR a)(k:ShortR b):ShortR (sumW a b):=(h.of).foldl k
theorem ShortR.nil:ShortR []:=fun t ht=>absurd ht (by simp)
end Go.Proofs.YtafmbnafibahkaaGreat
