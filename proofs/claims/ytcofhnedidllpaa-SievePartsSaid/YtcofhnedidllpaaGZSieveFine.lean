/- Rows that are few, short, and there not too often; the calls of layers 10 and 18 on such. -/
import Derived.Test.YtcofhnedidllpaaGWeighRef
import Derived.Test.YtcofhnedidllpaaGZSieveKit
import Derived.Test.YtcofhnedidllpaaGZSliceKit
namespace Go.Proofs.Ytcofhnedidllpaa
open Go Go.RowKit
def Fine (n k:Nat)(x:List Tm):Prop:=x.length≤n∧wtW x≤k∧ShortR x
section
variable {n k m j:Nat}{a b:List Tm}
theorem Fine.filt (h:Fine n k a)(t:Trm):Fine n k (filtS t a):=⟨Nat.le_trans (filt_length _ _) h.1,Nat.le_trans (wt_filt _ _) h.2.1,h.2.2.filt _⟩
theorem Fine.proj (h:Fine n k a){cols:List Int}(hc:cols.length≤1000000):Fine n k (projS cols a):=⟨Nat.le_trans (proj_length _ _) h.1,Nat.le_trans (wt_proj _ _) h.2.1,ShortR.proj _ hc⟩
theorem Fine.sum (h:Fine n k a)(h2:Fine m j b):Fine (n+m) (k+j) (sumW a b):=⟨Nat.le_trans (sum_length _ _) (Nat.add_le_add h.1 h2.1),Nat.le_trans (wt_sum _ _) (Nat.add_le_add h.2.1 h2.2.1),h.2.2.sum h2.2.2⟩
theorem Fine.of (h:Fine n k a):Fine n k (ofW a):=⟨Nat.le_trans (of_length _) h.1,Nat.le_trans (wt_of _) h.2.1,h.2.2.of⟩
theorem Fine.minus (h:Fine n k a):Fine n k (minusW a):=⟨Nat.le_trans (Nat.le_of_eq (minus_length _)) h.1,Nat.le_trans (Nat.le_of_eq (wt_minus _)) h.2.1,h.2.2.minus⟩
variable {w:World}{va vb vt vc:Value}{t:Trm}{cols:List Int}
theorem filter18 (ha:TimesIn w va a)(ht:TermIn w vt t)(f:Fine n k a)(hn:n≤1000000):GivesTimes Try.prog 12 #[va,vt] w (filtS t a):=sieve_filter_calls ha ht (Nat.le_trans f.1 hn) f.2.2
theorem project18 (ha:TimesIn w va a)(hc:IntsIn w vc cols)(f:Fine n k a)(hn:n≤1000000∧k≤4611686018427387904)(hl:cols.length≤1000000):GivesTimes Try.prog 14 #[va,vc] w (projS cols a):=sieve_project_calls ha hc (Nat.le_trans f.1 hn.1) (Nat.le_trans f.2.1 hn.2) hl
theorem sum18 (ha:TimesIn w va a)(hb:TimesIn w vb b)(f:Fine n k a)(g:Fine m j b)(hn:n+m≤1000000∧k+j≤4611686018427387904):GivesTimes Try.prog 16 #[va,vb] w (sumW a b):=ref_weigh_sum_calls ha hb (Nat.le_trans (Nat.add_le_add f.1 g.1) hn.1) (Nat.le_trans (Nat.add_le_add f.2.1 g.2.1) hn.2)
theorem of18 (ha:TimesIn w va a)(f:Fine n k a)(hn:n≤1000000∧k≤4611686018427387904):GivesTimes Try.prog 20 #[va] w (ofW a):=ref_weigh_of_calls ha (Nat.le_trans f.1 hn.1) (Nat.le_trans f.2.1 hn.2)
theorem minus18 (ha:TimesIn w va a)(f:Fine n k a)(hn:n≤1000000∧k≤4611686018427387904):GivesTimes Try.prog 17 #[va] w (minusW a):=ref_weigh_minus_calls ha (Nat.le_trans f.1 hn.1) (Nat.le_trans f.2.1 hn.2)
theorem same18F (ha:TimesIn w va a)(hb:TimesIn w vb a)(f:Fine n k a)(hn:n≤1000000):GivesAt Try.prog 11 #[va,vb] w (.bool true):=same18 ha hb (Nat.le_trans f.1 hn) f.2.2
end
end Go.Proofs.Ytcofhnedidllpaa
