/- The contract of the answer's Change of layer 13. -/
import Derived.Test.YtafmbnafibahkaaGreatGStrs
import Derived.Test.YtafmbnafibahkaaGreatGWeighRef
import Derived.Test.YtafmbnafibahkaaGreatGCutBlocks
import Derived.Deep.RegionHeld3
import Derived.Handy
namespace Go.Proofs.YtafmbnafibahkaaGreat
open Go Go.RowKit
theorem mem_sum {a b:List Tm}{x:Tm}(h:x∈sumW a b):(∃ u∈a,u.1=x.1)∨∃ u∈b,u.1=x.1:=by
 rw [sum_of_append] at h
 obtain ⟨u,hu,e⟩:=mem_of h
 rcases List.mem_append.1 hu with hu|hu
 ·exact .inl ⟨u,hu,e⟩
 ·exact .inr ⟨u,hu,e⟩
section
variable {P:List (List Tm)}{cols:List (Int×Bool)}{more:List Tm}
end
end Go.Proofs.YtafmbnafibahkaaGreat
