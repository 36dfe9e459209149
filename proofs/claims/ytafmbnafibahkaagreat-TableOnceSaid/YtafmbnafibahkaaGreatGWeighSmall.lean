/- Rows of few cells stay rows of few cells; no program. -/
import Derived.Test.YtafmbnafibahkaaGreatGStrs
import Derived.Test.YtafmbnafibahkaaGreatGTimes
namespace Go.Proofs.YtafmbnafibahkaaGreat
open Go Go.RowKit
theorem times_slice {w:World}{v:Value}{l:List Tm}(h:TimesIn w v l):∃ A cap,v=.slice A l.length cap:=by
 obtain ⟨tv,A,cap,e,_⟩:=times_at h
 exact ⟨A,cap,e⟩
def ShortR (l:List Tm):Prop:=∀ t∈l,t.1.length≤1000000
end Go.Proofs.YtafmbnafibahkaaGreat
