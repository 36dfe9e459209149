/- The contracts of the answer's Filter and Project of layer 18. -/
import Derived.Test.YtjbpbfhgjldliaaGreatGZCalm
import Derived.Test.YtjbpbfhgjldliaaGreatGWeighRef
import Derived.Test.YtjbpbfhgjldliaaGreatGPairOn
import Derived.Test.YtjbpbfhgjldliaaGreatGWeighSmall
import Derived.Test.YtjbpbfhgjldliaaGreatGGroupOwn
import Derived.Test.YtjbpbfhgjldliaaGreatGZSievePure
import Derived.Test.YtjbpbfhgjldliaaGreatGZTermRef
namespace Go.Proofs.YtjbpbfhgjldliaaGreat
open Go Go.RowKit
def GrowQ (Q:Value→Prop)(w:World)(L:List Tm)(v:Value)(wx:World):Prop:=∃ tv,TimesOwn wx w.heap.size v tv L∧(∀ u∈tv,Q u.1)∧Below w.heap.size w wx
section
variable {Q:Value→Prop}{w wx wy:World}{L:List Tm}{v:Value}
theorem GrowQ.kept (h:GrowQ Q w L v wx)(hb:Below wx.heap.size wx wy):GrowQ Q w L v wy:=by
 obtain ⟨tv,h1,h2,h3⟩:=h
 exact ⟨tv,h1.later hb,h2,h3.trans (hb.mono h3.size)⟩
theorem GrowQ.nil_ (Q:Value→Prop)(w:World):GrowQ Q w [] (.slice none 0 0) w:=⟨[],TimesOwn.nil_ _ _,fun _ h=>absurd h (by simp),.refl _ _⟩
theorem GrowQ.below (h:GrowQ Q w L v wx):Below w.heap.size w wx:=by
 obtain ⟨_,_,_,h3⟩:=h
 exact h3
theorem GrowQ.slice (h:GrowQ Q w L v wx):∃ A p,v=.slice A L.length p:=by
 obtain ⟨_,h1,_,_⟩:=h
 exact h1.slice
theorem GrowQ.times (h:GrowQ Q w L v wx):TimesQ Q wx v L:=by
 obtain ⟨tv,h1,h2,_⟩:=h
 exact h1.timesQ h2
theorem GrowQ.add {v' rv:Value}{row:List ByteArray}{c:Int}{n:Nat}{tv:List (Value×Int)}(h1:TimesOwn wx w.heap.size v tv L)(h2:∀ u∈tv,Q u.1)(h3:Below w.heap.size w wx)(hs:StrsIn wx rv row)(hq:Q rv)(ho:RowOff v rv)
  (hg:wx.grownBy wy v.ownBlock) (hv:∀ k,v'.ownBlock=some k→v.ownBlock=some k∨wx.heap.size≤k) (hO:Own wy w.heap.size 2 v' n (timesV tv++[rv,.int .i64 c])) (hn:n=L.length+1):GrowQ Q w (L++[(row,c)]) v' wy:=by
 refine ⟨tv++[(rv,c)],h1.add hs ho hg hv hO hn,fun u hu=>?_,h3.grown hg h3.size fun k hk=>(h1.own.lt k hk).1⟩
 rcases List.mem_append.1 hu with hu|hu
 ·exact h2 u hu
 ·rw [List.mem_singleton.1 hu];exact hq
end
theorem PickNew.yes1 {w w':World}{row:List ByteArray}{cols:List Int}{e:Ending}(h:PickNew w row cols e w')(hy:pickOk row cols=true):∃ A p,e=.returned (.tuple #[.slice A (pickF row cols).length p,.bool true])∧StrsIn w' (.slice A (pickF row cols).length p) (pickF row cols)∧Fresh w.heap.size (.slice A (pickF row cols).length p)∧Below w.heap.size w w':=by
 obtain ⟨v,rfl,hs,hf,hb⟩:=h
 rw [hy]
 rw [pickL_yes hy] at hs
 obtain ⟨A,p,rfl,_⟩:=one_at hs
 exact ⟨A,p,rfl,hs,hf,hb⟩
theorem PickNew.no1 {w w':World}{row:List ByteArray}{cols:List Int}{e:Ending}(h:PickNew w row cols e w')(hy:pickOk row cols=false):∃ A p,e=.returned (.tuple #[.slice A 0 p,.bool false])∧Below w.heap.size w w':=by
 obtain ⟨v,rfl,hs,hf,hb⟩:=h
 rw [hy]
 rw [pickL_no hy] at hs
 obtain ⟨A,p,rfl,_⟩:=one_at hs
 exact ⟨A,p,rfl,hb⟩
end Go.Proofs.YtjbpbfhgjldliaaGreat
