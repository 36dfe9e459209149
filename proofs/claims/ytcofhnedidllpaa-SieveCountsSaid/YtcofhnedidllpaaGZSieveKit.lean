/- What layer 18's laws share. -/
import Derived.Test.YtcofhnedidllpaaGWeighRef
import Derived.Test.YtcofhnedidllpaaGZSieveAwake
import Derived.Test.YtcofhnedidllpaaGZSieveRef
namespace Go.Proofs.Ytcofhnedidllpaa
open Go Go.RowKit
theorem facts18 {l:List Tm}(h:smallV l=true):l.length≤60∧wtW l≤109951162777600∧ShortR l:=⟨(smallV_of h).1,small_wt (smallV_W h),short_small (smallV_W h)⟩
theorem same18 {w:World}{va vb:Value}{a:List Tm}(ha:TimesIn w va a)(hb:TimesIn w vb a)(hl:a.length≤1000000)(hS:ShortR a):GivesAt Try.prog 11 #[va,vb] w (.bool true):=by
 have h:=same_times ha hb hl hS hS
 rw [decide_eq_true rfl] at h
 exact h
theorem ShortR.filt {l:List Tm}(h:ShortR l)(t:Trm):ShortR (filtS t l):=fun x hx=>h x (mem_filt hx)
theorem ShortR.proj {cols:List Int}(l:List Tm)(h:cols.length≤1000000):ShortR (projS cols l):=(short_picked h).of
end Go.Proofs.Ytcofhnedidllpaa
