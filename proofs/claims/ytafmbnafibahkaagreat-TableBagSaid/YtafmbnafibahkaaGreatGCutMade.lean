/- What layer 13's laws stand on; no program. -/
import Derived.Test.YtafmbnafibahkaaGreatGBlockUnder
import Derived.Test.YtafmbnafibahkaaGreatGCutChange
namespace Go.Proofs.YtafmbnafibahkaaGreat
open Go Go.RowKit
theorem fit_row {cols:List (Int×Bool)}{r:List ByteArray}(h:rowN cols r=0):r.length=cols.length∧∀ s∈r,rightB s=true:=by
 obtain ⟨e,hf⟩:=row_fits h
 refine ⟨e,fun s hs=>?_⟩
 obtain ⟨j,hj,rfl⟩:=List.mem_iff_getElem.1 hs
 exact (fits_both _ _ (hf j (by omega) hj)).2
theorem fit_kind {cols:List (Int×Bool)}{p:List Tm}(h:∀ t∈p,rowN cols t.1=0)(c:Nat)(hc:c < cols.length):kindL (downL p c) cols[c].1 cols[c].2=true:=by
 unfold kindL
 rw [List.all_eq_true]
 intro s hs
 obtain ⟨t,ht,rfl⟩:=List.mem_map.1 hs
 obtain ⟨e,hf⟩:=row_fits (h t ht)
 rw [List.getD_eq_getElem?_getD,List.getElem?_eq_getElem (by omega)]
 exact (fits_both _ _ (hf c hc (by omega))).1
structure Rows0 (R:List Tm) (cols:List (Int×Bool)) (n m:Nat):Prop where
 right:RightP R
 there:∀ t∈R,1≤t.2
 fits:∀ t∈R,rowN cols t.1=0
 len:R.length≤n
 wt:wtW R≤m
section
variable {R:List Tm}{cols:List (Int×Bool)}{n m:Nat}
theorem piece_sub {p:List Tm}(h:p∈cutL R):p.Sublist R:=by
 have:=cutL_flatten R
 have h2:p.Sublist (cutL R).flatten:=List.sublist_flatten_of_mem h
 rwa [this] at h2
theorem wt_range {l:List Tm}(h:wtW l≤4611686018427387904):InR (l.map Prod.snd):=fun x hx=>by
 obtain ⟨t,ht,rfl⟩:=List.mem_map.1 hx
 have:=wt_mem ht
 constructor <;> omega
theorem Rows0.good (h:Rows0 R cols n m)(hn:n≤4096)(hm:m≤4611686018427387904):∀ p∈cutL R,GoodP p cols:=by
 intro p hp
 have hne:=(cutL_good R).1 p hp
 have hsub:=piece_sub hp
 refine ⟨good_of hne.1 ⟨h.right.1.sublist hsub,fun t ht=>h.right.2 t (piece_mem hp ht)⟩ (fun t ht=>h.there t (piece_mem hp ht)),fun t ht=>fit_row (h.fits t (piece_mem hp ht)),fun c hc=>fit_kind (fun t ht=>h.fits t (piece_mem hp ht)) c hc,?_,?_⟩
 ·have:=piece_small hp;have:=h.len;omega
 ·exact piece_inr hp (wt_range (by have:=h.wt;omega))
theorem Rows0.sum (h:Rows0 R cols n m){more:List Tm}(hf:∀ t∈more,rowN cols t.1=0)(hw:wholeW (sumW R more)=true):Rows0 (sumW R more) cols (n+more.length) (m+wtW more):=by
 refine ⟨sum_right _ _,fun t ht=>?_,fun t ht=>?_,?_,?_⟩
 ·have h0:=(sum_right R more).2 t ht
  unfold wholeW at hw
  rw [List.all_eq_true] at hw
  have:=hw t ht
  rw [decide_eq_true_eq] at this
  omega
 ·rcases mem_sum ht with ⟨u,hu,e⟩ | ⟨u,hu,e⟩
  ·rw [←e];exact h.fits u hu
  ·rw [←e];exact hf u hu
 ·have:=sum_length R more;have:=h.len;omega
 ·have:=wt_sum R more;have:=h.wt;omega
end
theorem blksL_few {P:List (List Tm)}{K:Nat}(hK:K≤1000000):∀ t∈blksL P K,t.2.1.length≤1000000:=fun t ht=>by
 obtain ⟨p,_,rfl⟩:=List.mem_map.1 ht
 show (colsT p K).length≤_
 rw [colsT_length];exact hK
theorem Changing.after {P:List (List Tm)}{cols:List (Int×Bool)}{more:List Tm}(h:Changing P cols more):(changeP P more).length≤4096:=by
 unfold changeP
 split
 ·have:=cutL_length_le (sumW P.flatten more)
  have:=sum_length P.flatten more
  have:=h.len
  omega
 ·exact h.few
theorem Rows0.sizes {R:List Tm}{cols:List (Int×Bool)}{n m:Nat}(h:Rows0 R cols n m):∀ t∈R,cols.length≤t.1.length∧∀ c∈t.1,c.size≤1000000:=fun t ht=>by
 obtain ⟨e,hr⟩:=fit_row (h.fits t ht)
 exact ⟨by omega,fun c hc=>Nat.le_trans (rightB_size (hr c hc)) (by decide)⟩
theorem Rows0.short {R:List Tm}{cols:List (Int×Bool)}{n m:Nat}(h:Rows0 R cols n m)(hc:cols.length≤6):∀ t∈R,t.1.length≤1000000:=fun t ht=>by have:=(fit_row (h.fits t ht)).1;omega
end Go.Proofs.YtafmbnafibahkaaGreat
