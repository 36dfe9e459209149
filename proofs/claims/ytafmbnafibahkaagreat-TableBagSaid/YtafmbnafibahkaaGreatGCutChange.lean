/- The contract of the answer's Change of layer 13. -/
import Derived.Test.YtafmbnafibahkaaGreatGStrs
import Derived.Test.YtafmbnafibahkaaGreatGWeighRef
import Derived.Test.YtafmbnafibahkaaGreatGCutBlocks
import Derived.Deep.RegionHeld3
import Derived.Handy
namespace Go.Proofs.YtafmbnafibahkaaGreat
open Go Go.RowKit
def okC (P:List (List Tm))(more:List Tm):Bool:=wholeW (sumW P.flatten more)
def changeP (P:List (List Tm))(more:List Tm):List (List Tm):=if okC P more=true then cutL (sumW P.flatten more) else P
theorem mem_sum {a b:List Tm}{x:Tm}(h:x∈sumW a b):(∃ u∈a,u.1=x.1)∨∃ u∈b,u.1=x.1:=by
 rw [sum_of_append] at h
 obtain ⟨u,hu,e⟩:=mem_of h
 rcases List.mem_append.1 hu with hu|hu
 ·exact .inl ⟨u,hu,e⟩
 ·exact .inr ⟨u,hu,e⟩
structure Changing (P:List (List Tm)) (cols:List (Int×Bool)) (more:List Tm):Prop where
 good:∀ p∈P,GoodP p cols
 right:rightW P.flatten=true
 newer:∀ t∈more,t.1.length=cols.length∧∀ c∈t.1,rightB c=true
 len:P.flatten.length+more.length≤4096
 wt:wtW P.flatten+wtW more≤4611686018427387904
 few:P.length≤4096
 wide:cols.length≤1000000
section
variable {P:List (List Tm)}{cols:List (Int×Bool)}{more:List Tm}
theorem Changing.old (h:Changing P cols more){t:Tm}(ht:t∈P.flatten):t.1.length=cols.length∧∀ c∈t.1,rightB c=true:=by
 obtain ⟨p,hp,ht⟩:=List.mem_flatten.1 ht
 exact (h.good p hp).2.1 t ht
theorem Changing.sum (h:Changing P cols more){t:Tm}(ht:t∈sumW P.flatten more):t.1.length=cols.length∧∀ c∈t.1,rightB c=true:=by
 rcases mem_sum ht with ⟨u,hu,e⟩ | ⟨u,hu,e⟩
 ·rw [←e];exact h.old hu
 ·rw [←e];exact h.newer u hu
theorem Changing.range (h:Changing P cols more):InR ((sumW P.flatten more).map Prod.snd):=fun n hn=>by
 obtain ⟨t,ht,rfl⟩:=List.mem_map.1 hn
 have h1:=wt_mem ht
 have h2:=wt_sum P.flatten more
 have h3:=h.wt
 constructor <;> omega
end
end Go.Proofs.YtafmbnafibahkaaGreat
