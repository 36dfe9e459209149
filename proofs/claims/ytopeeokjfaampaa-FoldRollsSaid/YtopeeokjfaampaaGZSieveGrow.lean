/- Rows in memory of the call's own that grow by one, each row's cells new memory too; what a drawn region's values are; no program. -/
import Derived.Test.YtopeeokjfaampaaGBlocks
import Derived.Test.YtopeeokjfaampaaGWeighRef
import Derived.Test.YtopeeokjfaampaaGWeighFns
import Derived.Test.YtopeeokjfaampaaGCalmM
namespace Go.Proofs.Ytopeeokjfaampaa
open Go Go.RowKit
def GrowN (w:World)(L:List Tm)(v:Value)(wx:World):Prop:=∃ tv,TimesOwn wx w.heap.size v tv L∧(∀ u∈tv,Fresh w.heap.size u.1)∧Below w.heap.size w wx
theorem GrowN.kept {w:World}{L:List Tm}:∀ (v:Value)(wx wy:World),Below wx.heap.size wx wy→GrowN w L v wx→GrowN w L v wy:=fun _ _ _ hb h=>by
 obtain ⟨tv,h1,h2,h3⟩:=h
 exact ⟨tv,h1.later hb,h2,h3.trans (hb.mono h3.size)⟩
theorem GrowN.nil_ (w:World):GrowN w [] (.slice none 0 0) w:=⟨[],TimesOwn.nil_ _ _,fun _ h=>absurd h (by simp),.refl _ _⟩
theorem GrowN.below {w wx:World}{L:List Tm}{v:Value}(h:GrowN w L v wx):Below w.heap.size w wx:=by
 obtain ⟨_,_,_,h3⟩:=h
 exact h3
theorem GrowN.slice {w wx:World}{L:List Tm}{v:Value}(h:GrowN w L v wx):∃ A p,v=.slice A L.length p:=by
 obtain ⟨_,h1,_,_⟩:=h
 exact h1.slice
theorem GrowN.lt {w wx:World}{L:List Tm}{v:Value}(h:GrowN w L v wx):∀ k,v.ownBlock=some k→k < wx.heap.size:=by
 obtain ⟨_,h1,_,_⟩:=h
 exact fun k hk=>(h1.own.lt k hk).2
theorem GrowN.new {w wx:World}{L:List Tm}{v:Value}(h:GrowN w L v wx):TimesNew wx w.heap.size v L:=by
 obtain ⟨tv,h1,h2,_⟩:=h
 exact ⟨tv,h1.own.slice,h1.rows,h2,fun k hk=>h1.lt k hk⟩
theorem GrowN.add {w wx wy:World}{L:List Tm}{v v' rv:Value}{row:List ByteArray}{c:Int}{n:Nat}{tv:List (Value×Int)}(h1:TimesOwn wx w.heap.size v tv L)(h2:∀ u∈tv,Fresh w.heap.size u.1)(h3:Below w.heap.size w wx)(hs:StrsIn wx rv row)(hf:Fresh w.heap.size rv)(ho:RowOff v rv)
  (hg:wx.grownBy wy v.ownBlock) (hv:∀ k,v'.ownBlock=some k→v.ownBlock=some k∨wx.heap.size≤k) (hO:Own wy w.heap.size 2 v' n (timesV tv++[rv,.int .i64 c])) (hn:n=L.length+1):GrowN w (L++[(row,c)]) v' wy:=by
 refine ⟨tv++[(rv,c)],h1.add hs ho hg hv hO hn,fun u hu=>?_,h3.grown hg h3.size fun k hk=>(h1.own.lt k hk).1⟩
 rcases List.mem_append.1 hu with hu|hu
 ·exact h2 u hu
 ·rw [List.mem_singleton.1 hu];exact hf
def NewEnd (w:World)(l:List Tm)(e:Ending)(w':World):Prop:=∃ v,e=.returned v∧TimesNew w' w.heap.size v l∧Below w.heap.size w w'
theorem GrowN.ends {w wx:World}{L:List Tm}{v:Value}(h:GrowN w L v wx):NewEnd w L (.returned v) wx:=⟨v,rfl,h.new,h.below⟩
theorem GrowN.ends1 {w w1 wx:World}{L:List Tm}{v:Value}(h:GrowN w1 L v wx)(hb:Below w.heap.size w w1):NewEnd w L (.returned v) wx:=by
 obtain ⟨tv,h1,h2,h3⟩:=h
 exact ⟨v,rfl,⟨tv,h1.own.slice,h1.rows,fun t ht=>(h2 t ht).mono hb.size,fun k hk=>Nat.le_trans hb.size (h1.lt k hk)⟩,hb.trans (h3.mono hb.size)⟩
theorem NewEnd.gives {P:Program}{f:FuncId}{args:Array Value}{w:World}{l:List Tm}(h:Calls P f args w (NewEnd w l)):GivesTimes P f args w l:=h.mono fun _ _ ⟨v,he,ht,hb⟩=>⟨v,he,ht.times,hb⟩
def RowR (B:Nat)(row:List ByteArray):Value→World→Prop:=fun v w=>∃ A p,v=.slice A row.length p∧StrsIn w (.slice A row.length p) row∧Fresh B (.slice A row.length p)
theorem RowR.kept {B:Nat}{row:List ByteArray}:∀ (v:Value)(w w':World),Below w.heap.size w w'→RowR B row v w→RowR B row v w':=fun v w w' hb h=>by
 obtain ⟨A,p,e,h1,h2⟩:=h
 exact ⟨A,p,e,StrsIn.kept h1 hb,h2⟩
def TmR (B:Nat)(row:List ByteArray)(c:Int):Value→World→Prop:=fun v w=>∃ A p,v=.agg #[.slice A row.length p,.int .i64 c]∧StrsIn w (.slice A row.length p) row∧Fresh B (.slice A row.length p)
theorem TmR.kept {B:Nat}{row:List ByteArray}{c:Int}:∀ (v:Value)(w w':World),Below w.heap.size w w'→TmR B row c v w→TmR B row c v w':=fun v w w' hb h=>by
 obtain ⟨A,p,e,h1,h2⟩:=h
 exact ⟨A,p,e,StrsIn.kept h1 hb,h2⟩
def OneR (B:Nat)(row:List ByteArray)(c:Int):Value→World→Prop:=fun v w=>∃ A p,SliceOf w 2 v 1 [.slice A row.length p,.int .i64 c]∧StrsIn w (.slice A row.length p) row∧Fresh B (.slice A row.length p)
theorem OneR.kept {B:Nat}{row:List ByteArray}{c:Int}:∀ (v:Value)(w w':World),Below w.heap.size w w'→OneR B row c v w→OneR B row c v w':=fun v w w' hb h=>by
 obtain ⟨A,p,h0,h1,h2⟩:=h
 exact ⟨A,p,SliceOf.later h0 hb,StrsIn.kept h1 hb,h2⟩
end Go.Proofs.Ytopeeokjfaampaa
