/- Slices that a call owns: elements that are stored anew, the front; no program. -/
import Derived.Test.YtjbpbfhgjldliaaGreatGTimes
import Derived.Test.YtjbpbfhgjldliaaGreatGWeighFns
import Derived.Test.YtjbpbfhgjldliaaGreatGTermsE
import Derived.Test.YtjbpbfhgjldliaaGreatGZFoldPure
namespace Go.Proofs.YtjbpbfhgjldliaaGreat
open Go Go.RowKit
abbrev Cl:=Int×Int
def atF (a:List ByteArray)(c:Int):ByteArray:=if 0≤c∧c < (a.length:Int) then a.getD c.toNat ⟨#[]⟩ else ⟨#[]⟩
def meet1 (a b:List ByteArray)(c:Cl):Bool:=decide (atF a c.1≠⟨#[]⟩)&&decide (atF a c.1=atF b c.2)
def linI (f:List ByteArray→Int):List Tm→Int
 | []=>0
 | t::l=>t.2*f t.1+linI f l
theorem linI_append (f:List ByteArray→Int)(a b:List Tm):linI f (a++b)=linI f a+linI f b:=by
 induction a with
 | nil=>simp [linI]
 | cons t a ih=>rw [List.cons_append];simp only [linI];rw [ih];omega
theorem linI_put (f:List ByteArray→Int)(l:List Tm)(x:Tm):linI f (putW l x)=linI f l+x.2*f x.1:=by
 induction l with
 | nil =>
  unfold putW
  split
  ·rename_i h
   simp only [linI,h]
   omega
  ·simp only [linI];omega
 | cons t l ih =>
  unfold putW
  split
  ·simp only [linI];rw [ih];omega
  ·split
   ·rename_i h
    have hm:(x.2+t.2)*f t.1=x.2*f t.1+t.2*f t.1:=Int.add_mul ..
    split
    ·rename_i h0
     rw [h0] at hm
     simp only [linI]
     rw [←h]
     omega
    ·simp only [linI]
     rw [←h]
     omega
   ·split
    ·rename_i h0
     simp only [linI,h0]
     omega
    ·simp only [linI]
     omega
theorem linI_foldl (f:List ByteArray→Int)(l m:List Tm):linI f (m.foldl putW l)=linI f l+linI f m:=by
 induction m generalizing l with
 | nil=>simp [linI]
 | cons x m ih=>rw [List.foldl_cons,ih,linI_put];simp only [linI];omega
theorem linI_of (f:List ByteArray→Int)(l:List Tm):linI f (ofW l)=linI f l:=by unfold ofW;rw [linI_foldl];simp [linI]
def Two (l:List Tm):Prop:=∀ x∈l,x.1.length=2
def swap4 (r:List ByteArray):List ByteArray:=r.drop 2++r.take 2
theorem swap_swap {r:List ByteArray}(h:r.length=4):swap4 (swap4 r)=r:=by
 unfold swap4
 match r,h with
 | [a,b,c,d],_=>rfl
def manyW (l:List Tm):Int:=linI (fun _=>1) l
theorem many_nil:manyW []=0:=rfl
structure PartP where
 n:Int
 s:Int
 cells:List Tm
structure GroupP where
 key:List ByteArray
 n:Int
 parts:List PartP
def part0:PartP:=⟨0,0,[]⟩
def cellF (col:Int)(x:Tm):List Tm:=if cellD x.1 col=eB then [] else [([cellD x.1 col],x.2)]
def cellsL (col:Int)(l:List Tm):List Tm:=l.flatMap (cellF col)
def manyL (l:List Tm):Int:=linI (fun _=>1) l
def sumL (cells:List Tm):Int:=linI (fun r=>numC (cellD r 0)) cells
def partW (p:PartP)(a:Int×Int)(l:List Tm):PartP :=
 if a.1=1 then part0
 else if a.1=3∨a.1=4 then ⟨p.n+manyL (cellsL a.2 l),0,sumW p.cells (cellsL a.2 l)⟩
 else ⟨p.n+manyL (cellsL a.2 l),p.s+sumL (cellsL a.2 l),[]⟩
def partsW:List PartP→List (Int×Int)→List Tm→List PartP
 | _,[],_=>[]
 | ps,a::gs,l=>partW (ps.headD part0) a l::partsW ps.tail gs l
def withG (g:GroupP)(gs:List (Int×Int))(l:List Tm):GroupP:=⟨g.key,g.n+manyL l,partsW g.parts gs l⟩
def grpL (k:List ByteArray)(gs:List (Int×Int))(l:List Tm):GroupP:=⟨k,manyL l,gs.map fun a=>partW part0 a l⟩
def IsG (gs:List (Int×Int))(l:List Tm)(g:GroupP):Prop:=g=grpL g.key gs l∨(l=[]∧g.n=0∧g.parts=[])
theorem gcells_append (col:Int)(a b:List Tm):cellsL col (a++b)=cellsL col a++cellsL col b:=List.flatMap_append
theorem gmany_append (a b:List Tm):manyL (a++b)=manyL a+manyL b:=linI_append _ a b
theorem sumL_append (a b:List Tm):sumL (a++b)=sumL a+sumL b:=linI_append _ a b
theorem gmany_one (x:Tm):manyL [x]=x.2:=by simp [manyL,linI]
theorem gmany_cons (x:Tm)(l:List Tm):manyL (x::l)=x.2+manyL l:=by simp [manyL,linI]
theorem gmany_nil:manyL []=0:=rfl
theorem gmany_take (l:List Tm)(k:Nat)(h:k < l.length):manyL (l.take (k+1))=manyL (l.take k)+l[k].2:=by
 rw [take_add l k h,gmany_append,gmany_one]
theorem sumL_take (l:List Tm)(k:Nat)(h:k < l.length):sumL (l.take (k+1))=sumL (l.take k)+l[k].2*numC (cellD l[k].1 0):=by
 rw [take_add l k h,sumL_append];simp [sumL,linI]
theorem gcells_take (col:Int)(l:List Tm)(k:Nat)(h:k < l.length):cellsL col (l.take (k+1))=cellsL col (l.take k)++cellF col l[k]:=by
 rw [take_add l k h,gcells_append];simp [cellsL]
theorem cellF_length (col:Int)(x:Tm):(cellF col x).length≤1:=by unfold cellF;split <;> simp
theorem gcells_length (col:Int)(l:List Tm):(cellsL col l).length≤l.length:=by
 induction l with
 | nil=>simp [cellsL]
 | cons x l ih =>
  have:=cellF_length col x
  unfold cellsL at *
  rw [List.flatMap_cons,List.length_append,List.length_cons];omega
theorem gcells_wt (col:Int)(l:List Tm):wtW (cellsL col l)≤wtW l:=by
 induction l with
 | nil=>simp [cellsL]
 | cons x l ih =>
  unfold cellsL at *
  rw [List.flatMap_cons,wtW_append]
  have:wtW (cellF col x)≤x.2.natAbs:=by unfold cellF;split <;> simp [wtW]
  simp only [wtW];omega
theorem gcells_one (col:Int)(l:List Tm):∀ t∈cellsL col l,t.1.length=1:=fun t ht=>by
 obtain ⟨x,_,h⟩:=List.mem_flatMap.1 ht
 unfold cellF at h
 split at h
 ·exact absurd h (by simp)
 ·rw [List.mem_singleton.1 h];rfl
theorem gmany_le (l:List Tm):(manyL l).natAbs≤wtW l:=by
 induction l with
 | nil=>simp [manyL,linI]
 | cons x l ih=>rw [gmany_cons];simp only [wtW];omega
theorem cellD_first (row:List ByteArray)(h:0 < row.length):cellD row 0=row[0]:=by
 unfold cellD
 rw [if_pos (by decide),List.getD_eq_getElem?_getD]
 show (row[0]?).getD eB=_
 rw [List.getElem?_eq_getElem h];rfl
theorem part_more (a:Int×Int)(l r:List Tm):partW (partW part0 a l) a r=partW part0 a (l++r):=by
 have e (x y:List Tm):sumW (sumW [] x) y=sumW [] (x++y):=right_ext (sum_right _ _) (sum_right _ _) fun r=>by
  rw [cnt_sum,cnt_sum,cnt_sum,cntW_append]
  simp only [cntW];omega
 unfold partW
 by_cases h1:a.1=1
 ·simp only [if_pos h1]
 ·by_cases h2:a.1=3∨a.1=4
  ·simp only [if_neg h1,if_pos h2]
   unfold part0
   dsimp only
   rw [gcells_append,gmany_append,e];congr 1;omega
  ·simp only [if_neg h1,if_neg h2]
   unfold part0
   dsimp only
   rw [gcells_append,gmany_append,sumL_append]
   congr 1 <;> omega
theorem parts_more (l r:List Tm):∀ gs:List (Int×Int),partsW (gs.map fun a=>partW part0 a l) gs r=gs.map fun a=>partW part0 a (l++r)
 | []=>rfl
 | a::gs=>by
  show partW (partW part0 a l) a r::partsW (gs.map _) gs r=_
  rw [part_more,parts_more l r gs];rfl
theorem parts_bare (r:List Tm):∀ gs:List (Int×Int),partsW [] gs r=gs.map fun a=>partW part0 a r
 | []=>rfl
 | a::gs=>by
  show partW part0 a r::partsW [] gs r=_
  rw [parts_bare r gs];rfl
theorem with_is {g:GroupP}{gs:List (Int×Int)}{l:List Tm}(h:IsG gs l g)(r:List Tm):withG g gs r=grpL g.key gs (l++r):=by
 rcases h with h | ⟨rfl,h1,h2⟩
 ·rw [h]
  unfold withG grpL
  dsimp only
  rw [parts_more,gmany_append]
 ·unfold withG grpL
  rw [h1,h2,parts_bare,Int.zero_add];rfl
theorem grp_is (k:List ByteArray)(gs:List (Int×Int))(l:List Tm):IsG gs l (grpL k gs l):=.inl rfl
theorem bare_is (k:List ByteArray)(gs:List (Int×Int)):IsG gs [] ⟨k,0,[]⟩:=.inr ⟨rfl,rfl,rfl⟩
def SameC (l m:List Tm):Prop:=∀ r,cntW l r=cntW m r
theorem same_of {l m:List Tm}(h:SameC l m):ofW l=ofW m:=right_ext (of_right _) (of_right _) fun r=>by rw [cnt_of,cnt_of];exact h r
theorem same_lin {l m:List Tm}(h:SameC l m)(f:List ByteArray→Int):linI f l=linI f m:=by rw [←linI_of f l,same_of h,linI_of]
theorem cnt_cells (col:Int)(l:List Tm)(r:List ByteArray):cntW (cellsL col l) r=linI (fun a=>if cellD a col≠eB∧[cellD a col]=r then 1 else 0) l:=by
 induction l with
 | nil=>rfl
 | cons x l ih =>
  unfold cellsL at *
  rw [List.flatMap_cons,cntW_append,ih]
  simp only [linI,cellF]
  by_cases h1:cellD x.1 col=eB
  ·rw [if_pos h1,if_neg (by rintro ⟨h,_⟩;exact h h1)];simp [cntW]
  ·rw [if_neg h1]
   simp only [cntW]
   by_cases h2:[cellD x.1 col]=r
   ·rw [if_pos h2,if_pos ⟨h1,h2⟩];omega
   ·rw [if_neg h2,if_neg (by rintro ⟨_,h⟩;exact h2 h)];omega
theorem same_cells (col:Int){l m:List Tm}(h:SameC l m):SameC (cellsL col l) (cellsL col m):=fun r=>by rw [cnt_cells,cnt_cells,same_lin h]
theorem same_part {l m:List Tm}(h:SameC l m)(a:Int×Int):partW part0 a l=partW part0 a m:=by
 have e1:manyL (cellsL a.2 l)=manyL (cellsL a.2 m):=same_lin (same_cells a.2 h) _
 have e2:sumL (cellsL a.2 l)=sumL (cellsL a.2 m):=same_lin (same_cells a.2 h) _
 have e3:sumW [] (cellsL a.2 l)=sumW [] (cellsL a.2 m):=by rw [sum_of_append,sum_of_append];exact same_of (same_cells a.2 h)
 unfold partW part0
 rw [e1,e2,e3]
theorem same_grp {l m:List Tm}(h:SameC l m)(k:List ByteArray)(gs:List (Int×Int)):grpL k gs l=grpL k gs m:=by
 have e1:manyL l=manyL m:=same_lin h _
 unfold grpL
 rw [e1]
 congr 1
 exact List.map_congr_left fun a _=>same_part h a
theorem cntG_perm {l m:List Tm}(h:l.Perm m):SameC l m:=fun r=>by
 induction h with
 | nil=>rfl
 | cons x _ ih=>simp only [cntW];rw [ih]
 | swap x y l=>simp only [cntW];omega
 | trans _ _ h1 h2=>rw [h1,h2]
def valG (n:Int)(p:PartP)(way:Int):Option ByteArray :=
 if way=1 then some (cellInt n) else if p.n=0 then some eB else if way=3 then some (cellD ((p.cells.head?.map (·.1)).getD []) 0) else if way=4 then some (cellD ((p.cells.getLast?.map (·.1)).getD []) 0) else numW p.s
def valsG (n:Int):List PartP→List (Int×Int)→Option (List ByteArray)
 | _,[]=>some []
 | [],_=>some []
 | p::ps,a::gs=>match valG n p a.1 with
  | none=>none
  | some c=>(valsG n ps gs).map (c::·)
def rowG (gs:List (Int×Int))(g:GroupP):Option (List ByteArray):=(valsG g.n g.parts gs).map (g.key++·)
def Lain (w:World)(u:Value):Prop:=∀ A n c k,u=.slice A n c→0 < n→u.ownBlock=some k→k < w.heap.size
theorem SliceOf.lain {w:World}{size n:Nat}{u:Value}{xs:List Value}(h:SliceOf w size u n xs):Lain w u:=by
 intro A m c k e h0 hk
 obtain ⟨A',c',e',hat⟩:=h.at_
 rw [e] at e'
 injection e' with h1 h2
 obtain ⟨b,off,ea,hb,_⟩:=hat (by omega)
 rw [e,h1,ea] at hk
 simp only [Value.ownBlock,Option.some.injEq] at hk
 omega
theorem Lain.kept {w w':World}{u:Value}(h:Lain w u)(hs:w.heap.size≤w'.heap.size):Lain w' u:=fun A n c k e h0 hk=>Nat.lt_of_lt_of_le (h A n c k e h0 hk) hs
theorem Lain.apart {w:World}{u v:Value}(h:Lain w u)(hv:∀ k,v.ownBlock=some k→w.heap.size≤k):RowOff v u:=fun A n c k e h0 hk e2=>by
 have h1:=h A n c k e h0 hk
 have h2:=hv k e2
 omega
theorem RowOff.step {w:World}{v v' u:Value}(h:RowOff v u)(hl:Lain w u)(hv:∀ k,v'.ownBlock=some k→v.ownBlock=some k∨w.heap.size≤k):RowOff v' u:=fun A n c k e h0 hk e2=>by
 rcases hv k e2 with e3|e3
 ·exact h A n c k e h0 hk e3
 ·have:=hl A n c k e h0 hk
  omega
structure Kin (τ α:Type) where
 size:Nat
 cells:τ→List Value
 pr:τ→α
 R:(Value→Prop)→World→τ→Prop
 pos:0 < size
 len:∀ t,(cells t).length=size
 one:∀ {Q:Value→Prop} {w:World} {t:τ},R Q w t→∀ u∈cells t,u.oneCell'=true
 kept:∀ {Q:Value→Prop} {w w':World} {t:τ},R Q w t→Below w.heap.size w w'→R Q w' t
 mono:∀ {Q Q':Value→Prop} {w:World} {t:τ},R Q w t→(∀ u,Q u→Q' u)→R Q' w t
 off:∀ {Q:Value→Prop} {v:Value} {w w':World} {t:τ},R Q w t→(∀ u,Q u→RowOff v u)→w.grownBy w' v.ownBlock→R Q w' t
 lain:∀ {Q:Value→Prop} {w:World} {t:τ},R Q w t→R (fun u=>Q u∧Lain w u) w t
section
variable {τ α:Type}(K:Kin τ α)
def Kin.flat (tv:List τ):List Value:=tv.flatMap K.cells
def Kin.In (Q:Value→Prop)(w:World)(v:Value)(l:List α):Prop:=∃ tv:List τ,tv.map K.pr=l∧SliceOf w K.size v l.length (K.flat tv)∧(∀ t∈tv,K.R Q w t)∧Q v
structure Kin.Mine (Q:Value→Prop) (w:World) (B:Nat) (v:Value) (tv:List τ):Prop where
 own:Own w B K.size v tv.length (K.flat tv)
 each:∀ t∈tv,K.R (fun u=>Q u∧RowOff v u) w t
end
section
variable {τ α:Type}{K:Kin τ α}{Q Q':Value→Prop}{w w':World}{v v':Value}{l:List α}{tv:List τ}{B:Nat}
theorem Kin.flat_nil:K.flat []=[]:=rfl
theorem Kin.flat_cons (t:τ)(tv:List τ):K.flat (t::tv)=K.cells t++K.flat tv:=rfl
theorem Kin.flat_append (a b:List τ):K.flat (a++b)=K.flat a++K.flat b:=List.flatMap_append
theorem Kin.flat_one (t:τ):K.flat [t]=K.cells t:=by rw [Kin.flat_cons,Kin.flat_nil,List.append_nil]
theorem Kin.flat_length (tv:List τ):(K.flat tv).length=tv.length*K.size:=by
 induction tv with
 | nil=>simp [Kin.flat_nil]
 | cons t tv ih=>rw [Kin.flat_cons,List.length_append,K.len,ih,List.length_cons,Nat.add_mul];omega
theorem Kin.flat_get:∀ (tv:List τ)(j:Nat)(h:j < tv.length)(i:Nat)(_:i < K.size),(K.flat tv)[j*K.size+i]? = (K.cells tv[j])[i]?
 | [],j,h,_,_=>absurd h (by simp)
 | t::tv,0,_,i,hi=>by
  rw [Kin.flat_cons,Nat.zero_mul,Nat.zero_add,List.getElem?_append_left (by rw [K.len];exact hi)];rfl
 | t::tv,j+1,h,i,hi=>by
  have:=Kin.flat_get tv j (by simpa using h) i hi
  rw [Kin.flat_cons,List.getElem?_append_right (by rw [K.len,Nat.add_mul];omega),K.len,show (j+1)*K.size+i-K.size=j*K.size+i by rw [Nat.add_mul];omega,this];rfl
theorem Kin.flat_one_cell (h:∀ t∈tv,K.R Q w t):∀ u∈K.flat tv,u.oneCell'=true:=fun u hu=>by
 obtain ⟨t,ht,h2⟩:=List.mem_flatMap.1 hu
 exact K.one (h t ht) u h2
theorem Kin.flat_take:∀ (tv:List τ)(k:Nat),(K.flat tv).take (k*K.size)=K.flat (tv.take k)
 | [],k=>by rw [List.take_nil];exact List.take_nil
 | t::tv,0=>by rw [Nat.zero_mul];rfl
 | t::tv,k+1=>by
  rw [List.take_succ_cons,Kin.flat_cons,Kin.flat_cons,List.take_append,K.len,List.take_of_length_le (by rw [K.len,Nat.add_mul];omega),show (k+1)*K.size-K.size=k*K.size by rw [Nat.add_mul];omega,Kin.flat_take tv k]
theorem Kin.flat_drop:∀ (tv:List τ)(k:Nat),(K.flat tv).drop (k*K.size)=K.flat (tv.drop k)
 | [],k=>by rw [List.drop_nil];exact List.drop_nil
 | t::tv,0=>by rw [Nat.zero_mul];rfl
 | t::tv,k+1=>by
  rw [List.drop_succ_cons,Kin.flat_cons,List.drop_append,K.len,List.drop_of_length_le (by rw [K.len,Nat.add_mul];omega),show (k+1)*K.size-K.size=k*K.size by rw [Nat.add_mul];omega,Kin.flat_drop tv k];rfl
theorem Kin.In.kept (h:K.In Q w v l)(hb:Below w.heap.size w w'):K.In Q w' v l:=by
 obtain ⟨tv,h1,h2,h3,h4⟩:=h
 exact ⟨tv,h1,SliceOf.later h2 hb,fun t ht=>K.kept (h3 t ht) hb,h4⟩
theorem Kin.In.mono (h:K.In Q w v l)(hq:∀ u,Q u→Q' u):K.In Q' w v l:=by
 obtain ⟨tv,h1,h2,h3,h4⟩:=h
 exact ⟨tv,h1,h2,fun t ht=>K.mono (h3 t ht) hq,hq _ h4⟩
theorem Kin.In.off {v0:Value}(h:K.In Q w v l)(hq:∀ u,Q u→RowOff v0 u)(hg:w.grownBy w' v0.ownBlock):K.In Q w' v l:=by
 obtain ⟨tv,h1,h2,h3,h4⟩:=h
 exact ⟨tv,h1,h2.off (hq _ h4) hg,fun t ht=>K.off (h3 t ht) hq hg,h4⟩
theorem Kin.In.lain (h:K.In Q w v l):K.In (fun u=>Q u∧Lain w u) w v l:=by
 obtain ⟨tv,h1,h2,h3,h4⟩:=h
 exact ⟨tv,h1,h2,fun t ht=>K.lain (h3 t ht),h4,h2.lain⟩
theorem Kin.In.any (h:K.In Q w v l):K.In (fun _=>True) w v l:=h.mono fun _ _=>trivial
theorem Kin.In.len (h:K.In Q w v l):l.length≤maxLen:=by
 obtain ⟨tv,_,h2,_⟩:=h
 exact h2.2.1
theorem Kin.In.slice (h:K.In Q w v l):∃ A cap,v=.slice A l.length cap:=by
 obtain ⟨tv,_,h2,_⟩:=h
 obtain ⟨A,c,e,_⟩:=h2.at_
 exact ⟨A,c,e⟩
theorem Kin.In.cell (h:K.In Q w v l):v.oneCell'=true:=by
 obtain ⟨A,c,rfl⟩:=h.slice
 rfl
theorem Kin.In.nil_ (Q:Value→Prop)(w:World)(A:Option Addr)(cap:Nat)(hq:Q (.slice A 0 cap)):K.In Q w (.slice A 0 cap) []:=⟨[],rfl,SliceOf.nil_ _ _ _ _,fun t ht=>absurd ht (by simp),hq⟩
theorem Kin.In.at_ (h:K.In Q w v l):∃ (tv:List τ)(A:Option Addr)(cap:Nat),tv.map K.pr=l∧v=.slice A l.length cap∧(∀ t∈tv,K.R Q w t)∧Q v ∧
  (∀ k,k < l.length→∃ b off,A=some ⟨b,off,none⟩∧b < w.heap.size∧∀ j (hj:j < l.length),∃ t∈tv,tv[j]? = some t∧K.pr t=l[j]∧K.R Q w t∧∀ i u,(K.cells t)[i]? = some u→w.cell? ⟨b,off+j*K.size+i,none⟩=some u):=by
 obtain ⟨tv,rfl,h2,h3,hq⟩:=h
 obtain ⟨_,_,A,cap,e,_,h4⟩:=h2
 refine ⟨tv,A,cap,rfl,e,h3,hq,fun k hk=>?_⟩
 obtain ⟨b,off,ea,hb,hc⟩:=h4 (by omega)
 refine ⟨b,off,ea,hb,fun j hj=>?_⟩
 have hj':j < tv.length:=by simpa using hj
 have hm:=List.getElem_mem hj'
 refine ⟨tv[j],hm,List.getElem?_eq_getElem hj',by rw [List.getElem_map],h3 _ hm,fun i u hu=>?_⟩
 have hi:i < K.size:=by have:=(List.getElem?_eq_some_iff.1 hu).1;rwa [K.len] at this
 rw [Nat.add_assoc]
 exact hc _ _ (by rw [Kin.flat_get tv j hj' i hi];exact hu)
theorem Kin.In.take {A:Option Addr}{cap k:Nat}(h:K.In Q w (.slice A l.length cap) l)(hk:k≤l.length)(hq:Q (.slice A k cap)):K.In Q w (.slice A k cap) (l.take k):=by
 obtain ⟨tv,h1,h2,h3,_⟩:=h
 have h5:=SliceOf.frontN h2 hk
 rw [Kin.flat_take] at h5
 have hl:(l.take k).length=k:=by rw [List.length_take];omega
 exact ⟨tv.take k,by rw [List.map_take,h1],by rw [hl];exact h5,fun t ht=>h3 t (List.mem_of_mem_take ht),hq⟩
theorem Kin.In.drop {b off cap k:Nat}{A:Option Addr}(h:K.In Q w (.slice (some ⟨b,off,none⟩) l.length cap) l)(hk:k≤l.length)(hA:k < l.length→A=some ⟨b,off+k*K.size,none⟩)(hq:Q (.slice A (l.length-k) (cap-k))):K.In Q w (.slice A (l.length-k) (cap-k)) (l.drop k):=by
 obtain ⟨tv,h1,h2,h3,_⟩:=h
 have h5:=SliceOf.backN h2 hk hA
 rw [Kin.flat_drop] at h5
 have hl:(l.drop k).length=l.length-k:=List.length_drop
 exact ⟨tv.drop k,by rw [List.map_drop,h1],by rw [hl];exact h5,fun t ht=>h3 t (List.mem_of_mem_drop ht),hq⟩
theorem Kin.Mine.nil_ (Q:Value→Prop)(w:World)(B:Nat):K.Mine Q w B (.slice none 0 0) []:=⟨Own.nil_ _ _ _,fun _ h=>absurd h (by simp)⟩
theorem Kin.Mine.later (h:K.Mine Q w B v tv)(hb:Below w.heap.size w w'):K.Mine Q w' B v tv:=⟨h.own.later hb,fun t ht=>K.kept (h.each t ht) hb⟩
theorem Kin.Mine.mono (h:K.Mine Q w B v tv)(hq:∀ u,Q u→Q' u):K.Mine Q' w B v tv:=⟨h.own,fun t ht=>K.mono (h.each t ht) fun u hu=>⟨hq u hu.1,hu.2⟩⟩
theorem Kin.Mine.beside {v0:Value}(h:K.Mine Q w B v tv)(hq:∀ u,Q u→RowOff v0 u)(hv:∀ k,v0.ownBlock=some k→v.ownBlock≠some k)(hg:w.grownBy w' v0.ownBlock):K.Mine Q w' B v tv :=
 ⟨h.own.other hg fun k hk e=>hv k e.symm hk,fun t ht=>K.off (h.each t ht) (fun u hu=>hq u hu.1) hg⟩
theorem Kin.Mine.lain (h:K.Mine Q w B v tv):K.Mine (fun u=>Q u∧Lain w u) w B v tv:=⟨h.own,fun t ht=>K.mono (K.lain (h.each t ht)) fun _ hu=>⟨⟨hu.1.1,hu.2⟩,hu.1.2⟩⟩
theorem Kin.Mine.in_ (h:K.Mine Q w B v tv)(hq:Q v):K.In Q w v (tv.map K.pr):=⟨tv,rfl,by rw [List.length_map];exact h.own.slice,fun t ht=>K.mono (h.each t ht) fun _ hu=>hu.1,hq⟩
theorem Kin.Mine.lt (h:K.Mine Q w B v tv):∀ k,v.ownBlock=some k→B≤k∧k < w.heap.size:=fun k hk=>h.own.lt k hk
theorem Kin.Mine.slice (h:K.Mine Q w B v tv):∃ A p,v=.slice A tv.length p:=h.own.len
theorem Kin.Mine.adds {n:Nat}{us:List τ}(h:K.Mine Q w B v tv)(hk:∀ t∈us,K.R (fun u=>Q u∧RowOff v u) w t)(hg:w.grownBy w' v.ownBlock)(hv:∀ k,v'.ownBlock=some k→v.ownBlock=some k∨w.heap.size≤k)
  (hO:Own w' B K.size v' n (K.flat tv++K.flat us)) (hn:n=tv.length+us.length):K.Mine Q w' B v' (tv++us):=by
 subst hn
 have tu:∀ {t},K.R (fun u=>Q u∧RowOff v u) w t→K.R (fun u=>Q u∧RowOff v' u) w' t:=fun k =>
  K.mono (K.off (v:=v) (K.lain k) (fun u hu=>hu.1.2) hg) fun u hu=>⟨hu.1.1,hu.1.2.step hu.2 hv⟩
 refine ⟨?_,fun u hu=>?_⟩
 ·rw [List.length_append,Kin.flat_append];exact hO
 ·rcases List.mem_append.1 hu with hu|hu
  ·exact tu (h.each u hu)
  ·exact tu (hk u hu)
theorem Kin.Mine.add {n:Nat}{t:τ}(h:K.Mine Q w B v tv)(hk:K.R (fun u=>Q u∧RowOff v u) w t)(hg:w.grownBy w' v.ownBlock)(hv:∀ k,v'.ownBlock=some k→v.ownBlock=some k∨w.heap.size≤k)
  (hO:Own w' B K.size v' n (K.flat tv++K.cells t)) (hn:n=tv.length+1):K.Mine Q w' B v' (tv++[t]) :=
 h.adds (fun u hu=>by rw [List.mem_singleton.1 hu];exact hk) hg hv (by rw [Kin.flat_one];exact hO) hn
theorem Kin.lit (K:Kin τ α)(w:World)(T:TypeId)(tv:List τ)(h:tv.length≤1000):SliceOf (w.alloc (.cells (K.flat tv).toArray T)) K.size (.slice (some ⟨w.heap.size,0,none⟩) tv.length tv.length) tv.length (K.flat tv) :=
 (Own.lit (B:=0) (size:=K.size) w (K.flat tv).toArray T tv.length (Nat.zero_le _) (by unfold maxLen;omega) (by rw [List.size_toArray,Kin.flat_length])).slice
theorem Kin.lit_in (K:Kin τ α)(w:World)(T:TypeId)(tv:List τ)(hr:∀ t∈tv,K.R Q w t)(h:tv.length≤1000)(hq:Q (.slice (some ⟨w.heap.size,0,none⟩) tv.length tv.length)) :
  K.In Q (w.alloc (.cells (K.flat tv).toArray T)) (.slice (some ⟨w.heap.size,0,none⟩) tv.length tv.length) (tv.map K.pr) :=
 ⟨tv,rfl,by rw [List.length_map];exact Kin.lit K w T tv h,fun t ht=>K.kept (hr t ht) ((Below.refl _ w).alloc (Nat.le_refl _) _),hq⟩
end
theorem StrsIn.lain {w:World}{u:Value}{l:List ByteArray}(h:StrsIn w u l):Lain w u:=SliceOf.lain h
def timesK:Kin (Value×Tm) Tm where
 size:=2
 cells t:=[t.1,.int .i64 t.2.2]
 pr t:=t.2
 R Q w t:=StrsIn w t.1 t.2.1∧Q t.1
 pos:=by decide
 len _:=rfl
 one h u hu:=by
  obtain ⟨A,c,e,_⟩:=h.1.at_
  simp only [List.mem_cons,List.not_mem_nil,or_false] at hu
  rcases hu with rfl|rfl
  ·rw [e];rfl
  ·rfl
 kept h hb:=⟨StrsIn.kept h.1 hb,h.2⟩
 mono h hq:=⟨h.1,hq _ h.2⟩
 off h hq hg:=⟨StrsIn.off h.1 (hq _ h.2) hg,h.2⟩
 lain h:=⟨h.1,h.2,h.1.lain⟩
theorem timesK_flat (tv:List (Value×Tm)):timesK.flat tv=timesV (tv.map fun t=>(t.1,t.2.2)):=by
 induction tv with
 | nil=>rfl
 | cons t tv ih=>rw [Kin.flat_cons,ih];rfl
theorem rows_pairs {w:World}:∀ {tv:List (Value×Int)}{l:List Tm},RowsOf w tv l→∃ us:List (Value×Tm),us.map Prod.snd=l∧us.map (fun t=>(t.1,t.2.2))=tv∧∀ u∈us,StrsIn w u.1 u.2.1∧(u.1,u.2.2)∈tv
 | [],[],_=>⟨[],rfl,rfl,fun _ h=>absurd h (by simp)⟩
 | (v,n)::tv,(r,m)::l,h=>by
  obtain ⟨us,h1,h2,h3⟩:=rows_pairs h.2
  obtain ⟨hs,hn⟩:=h.1
  dsimp only at hs hn
  subst hn
  refine ⟨(v,(r,n))::us,by simp [h1],by simp [h2],fun u hu=>?_⟩
  rcases List.mem_cons.1 hu with rfl|hu
  ·exact ⟨hs,List.mem_cons_self ..⟩
  ·exact ⟨(h3 u hu).1,List.mem_cons_of_mem _ (h3 u hu).2⟩
 | [],_::_,h=>h.elim
 | _::_,[],h=>h.elim
theorem pairs_rows {w:World}:∀ {us:List (Value×Tm)},(∀ u∈us,StrsIn w u.1 u.2.1)→RowsOf w (us.map fun t=>(t.1,t.2.2)) (us.map Prod.snd)
 | [],_=>trivial
 | u::_,h=>⟨⟨h u (List.mem_cons_self ..),rfl⟩,pairs_rows fun x hx=>h x (List.mem_cons_of_mem _ hx)⟩
theorem timesK_of {Q:Value→Prop}{w:World}{v:Value}{l:List Tm}(h:TimesQ Q w v l)(hq:Q v):timesK.In Q w v l:=by
 obtain ⟨tv,h1,h2,h3⟩:=h
 obtain ⟨us,e1,e2,h4⟩:=rows_pairs h2
 exact ⟨us,e1,by rw [timesK_flat,e2];exact h1,fun u hu=>⟨(h4 u hu).1,h3 _ (h4 u hu).2⟩,hq⟩
theorem timesK_q {Q:Value→Prop}{w:World}{v:Value}{l:List Tm}(h:timesK.In Q w v l):TimesQ Q w v l:=by
 obtain ⟨us,rfl,h2,h3,_⟩:=h
 rw [timesK_flat] at h2
 refine ⟨_,h2,pairs_rows fun u hu=>(h3 u hu).1,fun t ht=>?_⟩
 obtain ⟨u,hu,rfl⟩:=List.mem_map.1 ht
 exact (h3 u hu).2
theorem timesK_times {Q:Value→Prop}{w:World}{v:Value}{l:List Tm}(h:timesK.In Q w v l):TimesIn w v l:=(timesK_q h).times
theorem timesK_any {w:World}{v:Value}{l:List Tm}(h:TimesIn w v l):timesK.In (fun _=>True) w v l:=timesK_of h.trueQ trivial
def partK:Kin (Value×PartP) PartP where
 size:=4
 cells t:=[.int .i64 t.2.n,.int .i64 (toW t.2.s).1,.int .u64 (toW t.2.s).2,t.1]
 pr t:=t.2
 R Q w t:=timesK.In Q w t.1 t.2.cells
 pos:=by decide
 len _:=rfl
 one h u hu:=by
  simp only [List.mem_cons,List.not_mem_nil,or_false] at hu
  rcases hu with rfl|rfl|rfl|rfl
  ·rfl
  ·rfl
  ·rfl
  ·exact h.cell
 kept h hb:=h.kept hb
 mono h hq:=h.mono hq
 off h hq hg:=h.off hq hg
 lain h:=h.lain
def groupK:Kin (Value×Value×GroupP) GroupP where
 size:=3
 cells t:=[t.1,.int .i64 t.2.2.n,t.2.1]
 pr t:=t.2.2
 R Q w t:=(StrsIn w t.1 t.2.2.key∧Q t.1)∧partK.In Q w t.2.1 t.2.2.parts
 pos:=by decide
 len _:=rfl
 one h u hu:=by
  simp only [List.mem_cons,List.not_mem_nil,or_false] at hu
  rcases hu with rfl|rfl|rfl
  ·obtain ⟨A,c,e,_⟩:=h.1.1.at_
   rw [e];rfl
  ·rfl
  ·exact h.2.cell
 kept h hb:=⟨⟨StrsIn.kept h.1.1 hb,h.1.2⟩,h.2.kept hb⟩
 mono h hq:=⟨⟨h.1.1,hq _ h.1.2⟩,h.2.mono hq⟩
 off h hq hg:=⟨⟨StrsIn.off h.1.1 (hq _ h.1.2) hg,h.1.2⟩,h.2.off hq hg⟩
 lain h:=⟨⟨h.1.1,h.1.2,h.1.1.lain⟩,h.2.lain⟩
def batchK:Kin (Value×Value×(List ByteArray×List Tm)) (List ByteArray×List Tm) where
 size:=2
 cells t:=[t.1,t.2.1]
 pr t:=t.2.2
 R Q w t:=(StrsIn w t.1 t.2.2.1∧Q t.1)∧timesK.In Q w t.2.1 t.2.2.2
 pos:=by decide
 len _:=rfl
 one h u hu:=by
  simp only [List.mem_cons,List.not_mem_nil,or_false] at hu
  rcases hu with rfl|rfl
  ·obtain ⟨A,c,e,_⟩:=h.1.1.at_
   rw [e];rfl
  ·exact h.2.cell
 kept h hb:=⟨⟨StrsIn.kept h.1.1 hb,h.1.2⟩,h.2.kept hb⟩
 mono h hq:=⟨⟨h.1.1,hq _ h.1.2⟩,h.2.mono hq⟩
 off h hq hg:=⟨⟨StrsIn.off h.1.1 (hq _ h.1.2) hg,h.1.2⟩,h.2.off hq hg⟩
 lain h:=⟨⟨h.1.1,h.1.2,h.1.1.lain⟩,h.2.lain⟩
def partA (cv:Value)(p:PartP):Value:=.agg #[.int .i64 p.n,.int .i64 (toW p.s).1,.int .u64 (toW p.s).2,cv]
def groupA (kv pv:Value)(n:Int):Value:=.agg #[kv,.int .i64 n,pv]
def PartIn (Q:Value→Prop)(w:World)(v:Value)(p:PartP):Prop:=∃ cv,v=partA cv p∧timesK.In Q w cv p.cells
def GroupIn (Q:Value→Prop)(w:World)(v:Value)(g:GroupP):Prop:=∃ kv pv,v=groupA kv pv g.n∧groupK.R Q w (kv,pv,g)
theorem PartIn.kept {Q:Value→Prop}{w w':World}{v:Value}{p:PartP}(h:PartIn Q w v p)(hb:Below w.heap.size w w'):PartIn Q w' v p:=by
 obtain ⟨cv,e,hc⟩:=h
 exact ⟨cv,e,hc.kept hb⟩
theorem GroupIn.kept {Q:Value→Prop}{w w':World}{v:Value}{g:GroupP}(h:GroupIn Q w v g)(hb:Below w.heap.size w w'):GroupIn Q w' v g:=by
 obtain ⟨kv,pv,e,hc⟩:=h
 exact ⟨kv,pv,e,groupK.kept hc hb⟩
def CBox (w:World)(B:Nat)(vs:List Value):Prop:=Own w B vs.length (.slice (some ⟨B,0,none⟩) 1 1) 1 vs
section
variable {w w':World}{B:Nat}{vs:List Value}
theorem CBox.lt (h:CBox w B vs):B < w.heap.size:=by
 obtain ⟨_,h2,_⟩:=Own.parts h
 exact h2
theorem CBox.cell (h:CBox w B vs)(i:Nat){u:Value}(hu:vs[i]? = some u):w.cell? ⟨B,i,none⟩=some u:=by
 obtain ⟨_,_,_,hc,_⟩:=Own.parts h
 have:=hc i u hu
 rwa [Nat.zero_add] at this
theorem CBox.free (h:CBox w B vs)(i:Nat)(hi:i < vs.length):w.frozen? ⟨B,i,none⟩=false:=by
 obtain ⟨_,_,_,_,hr⟩:=Own.parts h
 have:=(hr i (by omega)).2
 rwa [Nat.zero_add] at this
theorem CBox.kept (h:CBox w B vs)(hb:Below w.heap.size w w'):CBox w' B vs:=Own.later h hb
theorem CBox.other (h:CBox w B vs){row:Option Nat}(hg:w.grownBy w' row)(hne:row≠some B):CBox w' B vs :=
 Own.other h hg fun k hk e=>by
  simp only [Value.ownBlock,Option.some.injEq] at hk
  subst hk
  exact hne e.symm
theorem CBox.put (h:CBox w B vs)(i:Nat)(hi:i < vs.length)(u:Value):CBox (w.setCell ⟨B,i,none⟩ u) B (vs.set i u):=by
 have:=Own.stored h i (by omega) u
 rw [Nat.zero_add] at this
 unfold CBox
 rw [List.length_set]
 exact this
theorem cbox_lit (w:World)(T:TypeId)(vs:Array Value):CBox (w.alloc (.cells vs T)) w.heap.size vs.toList:=by
 have:=Own.lit (B:=w.heap.size) (size:=vs.toList.length) w vs T 1 (Nat.le_refl _) (by unfold maxLen;omega) (by simp)
 exact this
theorem CBox.two {a b:Value}(h:CBox w B [a,b]):(w.cell? ⟨B,0,none⟩=some a∧w.cell? ⟨B,1,none⟩=some b)∧w.frozen? ⟨B,0,none⟩=false∧w.frozen? ⟨B,1,none⟩=false :=
 ⟨⟨h.cell 0 rfl,h.cell 1 rfl⟩,h.free 0 (by simp),h.free 1 (by simp)⟩
theorem CBox.three {a b c:Value}(h:CBox w B [a,b,c]):(w.cell? ⟨B,0,none⟩=some a∧w.cell? ⟨B,1,none⟩=some b∧w.cell? ⟨B,2,none⟩=some c)∧w.frozen? ⟨B,0,none⟩=false∧w.frozen? ⟨B,1,none⟩=false∧w.frozen? ⟨B,2,none⟩=false :=
 ⟨⟨h.cell 0 rfl,h.cell 1 rfl,h.cell 2 rfl⟩,h.free 0 (by simp),h.free 1 (by simp),h.free 2 (by simp)⟩
theorem CBox.four {a b c d:Value}(h:CBox w B [a,b,c,d]):(w.cell? ⟨B,0,none⟩=some a∧w.cell? ⟨B,1,none⟩=some b∧w.cell? ⟨B,2,none⟩=some c∧w.cell? ⟨B,3,none⟩=some d)∧w.frozen? ⟨B,0,none⟩=false∧w.frozen? ⟨B,1,none⟩=false∧w.frozen? ⟨B,2,none⟩=false∧w.frozen? ⟨B,3,none⟩=false :=
 ⟨⟨h.cell 0 rfl,h.cell 1 rfl,h.cell 2 rfl,h.cell 3 rfl⟩,h.free 0 (by simp),h.free 1 (by simp),h.free 2 (by simp),h.free 3 (by simp)⟩
theorem CBox.three_put {a b c a' b' c':Value}(h:CBox w B [a,b,c]):CBox (((w.setCell ⟨B,0,none⟩ a').setCell ⟨B,1,none⟩ b').setCell ⟨B,2,none⟩ c') B [a',b',c']:=((h.put 0 (by simp) a').put 1 (by simp) b').put 2 (by simp) c'
theorem CBox.four_put {a b c d a' b' c' d':Value}(h:CBox w B [a,b,c,d]):CBox ((((w.setCell ⟨B,0,none⟩ a').setCell ⟨B,1,none⟩ b').setCell ⟨B,2,none⟩ c').setCell ⟨B,3,none⟩ d') B [a',b',c',d']:=(((h.put 0 (by simp) a').put 1 (by simp) b').put 2 (by simp) c').put 3 (by simp) d'
end
structure Bxs (w wr:World) (bs:List (Nat×List Value)):Prop where
 at_:∀ q∈bs,CBox wr q.1 q.2∧w.heap.size≤q.1
 apart:bs.Pairwise fun p q=>p.1≠q.1
 below:Below w.heap.size w wr
section
variable {w wr wx:World}{bs:List (Nat×List Value)}
theorem Bxs.start (w:World):Bxs w w []:=⟨fun _ h=>absurd h (by simp),List.Pairwise.nil,.refl _ _⟩
theorem Bxs.kept (h:Bxs w wr bs)(hq:Below wr.heap.size wr wx):Bxs w wx bs:=⟨fun q hm=>⟨(h.at_ q hm).1.kept hq,(h.at_ q hm).2⟩,h.apart,h.below.trans (hq.mono h.below.size)⟩
theorem Bxs.lay (h:Bxs w wr bs)(T:TypeId)(vs:Array Value):Bxs w (wr.alloc (.cells vs T)) (bs++[(wr.heap.size,vs.toList)]):=by
 have hq:=Below.alloc (.refl wr.heap.size wr) (Nat.le_refl _) (.cells vs T)
 refine ⟨fun q hm=>?_,?_,h.below.trans (hq.mono h.below.size)⟩
 ·rcases List.mem_append.1 hm with hm|hm
  ·exact ⟨(h.at_ q hm).1.kept hq,(h.at_ q hm).2⟩
  ·rw [List.mem_singleton.1 hm];exact ⟨cbox_lit wr T vs,h.below.size⟩
 ·refine List.pairwise_append.2 ⟨h.apart,by simp,fun p hp q hq=>?_⟩
  rw [List.mem_singleton.1 hq]
  have:=(h.at_ p hp).1.lt
  show p.1≠wr.heap.size
  omega
theorem Bxs.box (h:Bxs w wr bs)(i:Nat){p:Nat×List Value}(hp:bs[i]? = some p):CBox wr p.1 p.2:=(h.at_ p (List.mem_of_getElem? hp)).1
theorem Bxs.front (h:Bxs w wr bs)(k:Nat):Bxs w wr (bs.take k):=⟨fun q hm=>h.at_ q (List.mem_of_mem_take hm),h.apart.sublist (List.take_sublist k bs),h.below⟩
theorem Bxs.grown (h:Bxs w wr bs){row:Option Nat}(hg:wr.grownBy wx row)(hr:∀ k,row=some k→w.heap.size≤k∧∀ q∈bs,q.1≠k):Bxs w wx bs :=
 ⟨fun q hm=>⟨(h.at_ q hm).1.other hg fun e=>(hr _ e).2 q hm rfl,(h.at_ q hm).2⟩,h.apart,h.below.grown hg h.below.size fun k hk=>(hr k hk).1⟩
theorem cell_grown (w:World)(b j:Nat)(u:Value):w.grownBy (w.setCell ⟨b,j,none⟩ u) (some b):=setCells_grown b [u] j w
theorem Bxs.put (h:Bxs w wr bs)(i:Nat){p:Nat×List Value}(hp:bs[i]? = some p)(j:Nat)(hj:j < p.2.length)(u:Value):Bxs w (wr.setCell ⟨p.1,j,none⟩ u) (bs.set i (p.1,p.2.set j u)):=by
 have hm:=List.mem_of_getElem? hp
 obtain ⟨hi,rfl⟩:=List.getElem?_eq_some_iff.1 hp
 refine ⟨fun q hq=>?_,?_,h.below.setCell (p:=⟨bs[i].1,j,none⟩) (h.at_ _ hm).2 u⟩
 ·obtain ⟨k,hk,rfl⟩:=List.getElem_of_mem hq
  rw [List.length_set] at hk
  rw [List.getElem_set]
  split
  ·exact ⟨(h.at_ _ hm).1.put j hj u,(h.at_ _ hm).2⟩
  ·rename_i hne
   have hmk:=List.getElem_mem hk
   refine ⟨(h.at_ _ hmk).1.other (cell_grown wr _ j u) fun e=>?_,(h.at_ _ hmk).2⟩
   have e:=Option.some.inj e
   rcases Nat.lt_or_gt_of_ne hne with hlt|hlt
   ·exact List.pairwise_iff_getElem.1 h.apart i k hi hk hlt e
   ·exact List.pairwise_iff_getElem.1 h.apart k i hk hi hlt e.symm
 ·refine List.pairwise_iff_getElem.2 fun a b ha hb hab=>?_
  rw [List.length_set] at ha hb
  have hx:=List.pairwise_iff_getElem.1 h.apart a b ha hb hab
  rw [List.getElem_set,List.getElem_set]
  split
  ·rename_i e;subst e
   split
   ·rename_i e;omega
   ·exact hx
  ·split
   ·rename_i e;subst e;exact hx
   ·exact hx
theorem Bxs.put2 (h:Bxs w wr bs)(i:Nat){b:Nat}{x y:Value}(hp:bs[i]? = some (b,[x,y]))(x' y':Value):Bxs w ((wr.setCell ⟨b,0,none⟩ x').setCell ⟨b,1,none⟩ y') (bs.set i (b,[x',y'])):=by
 have hi:=(List.getElem?_eq_some_iff.1 hp).1
 have:=(h.put i hp 0 (by simp) x').put i (p:=(b,[x',y])) (by rw [List.getElem?_set_self hi];rfl) 1 (by simp) y'
 rwa [List.set_set] at this
theorem Bxs.put3 (h:Bxs w wr bs)(i:Nat){b:Nat}{x y z:Value}(hp:bs[i]? = some (b,[x,y,z]))(x' y' z':Value):Bxs w (((wr.setCell ⟨b,0,none⟩ x').setCell ⟨b,1,none⟩ y').setCell ⟨b,2,none⟩ z') (bs.set i (b,[x',y',z'])):=by
 have hi:=(List.getElem?_eq_some_iff.1 hp).1
 have h2:=(h.put i hp 0 (by simp) x').put i (p:=(b,[x',y,z])) (by rw [List.getElem?_set_self hi];rfl) 1 (by simp) y'
 rw [List.set_set] at h2
 have h3:=h2.put i (p:=(b,[x',y',z])) (by rw [List.getElem?_set_self hi];rfl) 2 (by simp) z'
 rwa [List.set_set] at h3
theorem Bxs.put4 (h:Bxs w wr bs)(i:Nat){b:Nat}{x y z u:Value}(hp:bs[i]? = some (b,[x,y,z,u]))(x' y' z' u':Value):Bxs w ((((wr.setCell ⟨b,0,none⟩ x').setCell ⟨b,1,none⟩ y').setCell ⟨b,2,none⟩ z').setCell ⟨b,3,none⟩ u') (bs.set i (b,[x',y',z',u'])):=by
 have hi:=(List.getElem?_eq_some_iff.1 hp).1
 have h2:=(h.put i hp 0 (by simp) x').put i (p:=(b,[x',y,z,u])) (by rw [List.getElem?_set_self hi];rfl) 1 (by simp) y'
 rw [List.set_set] at h2
 have h3:=h2.put i (p:=(b,[x',y',z,u])) (by rw [List.getElem?_set_self hi];rfl) 2 (by simp) z'
 rw [List.set_set] at h3
 have h4:=h3.put i (p:=(b,[x',y',z',u])) (by rw [List.getElem?_set_self hi];rfl) 3 (by simp) u'
 rwa [List.set_set] at h4
end
theorem group_open {Q:Value→Prop}{w:World}{kv pv:Value}{g:GroupP}(h:groupK.R Q w (kv,pv,g)):∃ A p A2 p2,kv=.slice A g.key.length p∧pv=.slice A2 g.parts.length p2∧StrsIn w (.slice A g.key.length p) g.key∧Q (.slice A g.key.length p)∧partK.In Q w (.slice A2 g.parts.length p2) g.parts:=by
 obtain ⟨⟨h1,h2⟩,h3⟩:=h
 change StrsIn w kv g.key at h1
 change Q kv at h2
 change partK.In Q w pv g.parts at h3
 obtain ⟨A,p,rfl,_⟩:=one_at h1
 obtain ⟨A2,p2,rfl⟩:=h3.slice
 exact ⟨A,p,A2,p2,rfl,rfl,h1,h2,h3⟩
theorem group_of {Q:Value→Prop}{w:World}{kv pv:Value}{g:GroupP}(h1:StrsIn w kv g.key)(h2:Q kv)(h3:partK.In Q w pv g.parts):groupK.R Q w (kv,pv,g):=⟨⟨h1,h2⟩,h3⟩
theorem group_in_open {Q:Value→Prop}{w:World}{v:Value}{g:GroupP}(h:GroupIn Q w v g):∃ A p A2 p2,v=.agg #[.slice A g.key.length p,.int .i64 g.n,.slice A2 g.parts.length p2]∧StrsIn w (.slice A g.key.length p) g.key∧Q (.slice A g.key.length p)∧partK.In Q w (.slice A2 g.parts.length p2) g.parts:=by
 obtain ⟨kv,pv,rfl,h⟩:=h
 obtain ⟨A,p,A2,p2,rfl,rfl,h1,h2,h3⟩:=group_open h
 exact ⟨A,p,A2,p2,rfl,h1,h2,h3⟩
theorem batch_open {Q:Value→Prop}{w:World}{kv rv:Value}{b:List ByteArray×List Tm}(h:batchK.R Q w (kv,rv,b)):∃ A p A2 p2,kv=.slice A b.1.length p∧rv=.slice A2 b.2.length p2∧StrsIn w (.slice A b.1.length p) b.1∧Q (.slice A b.1.length p)∧timesK.In Q w (.slice A2 b.2.length p2) b.2:=by
 obtain ⟨⟨h1,h2⟩,h3⟩:=h
 change StrsIn w kv b.1 at h1
 change Q kv at h2
 change timesK.In Q w rv b.2 at h3
 obtain ⟨A,p,rfl,_⟩:=one_at h1
 obtain ⟨A2,p2,rfl⟩:=h3.slice
 exact ⟨A,p,A2,p2,rfl,rfl,h1,h2,h3⟩
theorem ggrown_trans {w w1 w2:World}{row row2:Option Nat}(h1:w.grownBy w1 row)(h2:w1.grownBy w2 row2)(hr:∀ k,row2=some k→row=some k∨w.heap.size≤k):w.grownBy w2 row :=
 ⟨h2.os.trans h1.os,h2.tape.trans h1.tape,h2.output.trans h1.output,Nat.le_trans h1.size h2.size,fun k hk hne=>(h2.block k (Nat.lt_of_lt_of_le hk h1.size) fun e=>by
  rcases hr k e.symm with h|h
  ·exact hne h.symm
  ·omega).trans (h1.block k hk hne)⟩
theorem below_grown {w w1:World}{row:Option Nat}(h:Below w.heap.size w w1):w.grownBy w1 row:=⟨h.os,h.tape,h.output,h.size,fun k hk _=>h.block k hk⟩
section
variable {τ α:Type}{K:Kin τ α}{Q:Value→Prop}{w w':World}{v:Value}{tv:List τ}{B:Nat}
theorem Kin.flat_set1:∀ (tv:List τ)(j:Nat)(h:j < tv.length)(t':τ)(i:Nat)(u:Value),i < K.size→K.cells t'=(K.cells tv[j]).set i u→K.flat (tv.set j t')=(K.flat tv).set (j*K.size+i) u
 | [],j,h,_,_,_,_,_=>absurd h (by simp)
 | t::tv,0,_,t',i,u,hi,e=>by
  have e:K.cells t'=(K.cells t).set i u:=e
  rw [List.set_cons_zero,Kin.flat_cons,Kin.flat_cons,Nat.zero_mul,Nat.zero_add,List.set_append_left _ _ (by rw [K.len];exact hi),e]
 | t::tv,j+1,h,t',i,u,hi,e=>by
  have ih:=Kin.flat_set1 tv j (by simpa using h) t' i u hi e
  rw [List.set_cons_succ,Kin.flat_cons,Kin.flat_cons,ih,List.set_append_right _ _ (by rw [K.len,Nat.add_mul];omega),K.len]
  congr 2
  rw [Nat.add_mul];omega
theorem Kin.Mine.put {g off n cap:Nat}(h:K.Mine Q w B (.slice (some ⟨g,off,none⟩) n cap) tv)(j:Nat)(hj:j < tv.length)(i:Nat)(hi:i < K.size){t':τ}{u:Value}(e:K.cells t'=(K.cells tv[j]).set i u)(hr:K.R (fun u=>Q u∧RowOff (.slice (some ⟨g,off,none⟩) n cap) u) w t') :
  K.Mine Q (w.setCell ⟨g,off+(j*K.size+i),none⟩ u) B (.slice (some ⟨g,off,none⟩) n cap) (tv.set j t'):=by
 have hO:=h.own
 obtain ⟨A',cap',e2⟩:=hO.len
 cases e2
 have hlt:j*K.size+i < tv.length*K.size:=by
  have:(j+1)*K.size≤tv.length*K.size:=Nat.mul_le_mul_right _ hj
  rw [Nat.add_mul] at this
  omega
 obtain ⟨_,_,hnc,_,_⟩:=hO.parts
 have hlt2:j*K.size+i < cap*K.size:=Nat.lt_of_lt_of_le hlt (Nat.mul_le_mul_right _ hnc)
 have k1:=Own.stored hO (j*K.size+i) hlt u
 have hgr:w.grownBy (w.setCell ⟨g,off+(j*K.size+i),none⟩ u) (some g):=setCells_grown g [u] (off+(j*K.size+i)) w
 refine ⟨?_,fun t ht=>?_⟩
 ·rw [List.length_set,Kin.flat_set1 tv j hj t' i u hi e];exact k1
 ·rcases List.mem_or_eq_of_mem_set ht with ht|rfl
  ·exact K.off (v:=.slice (some ⟨g,off,none⟩) tv.length cap) (h.each t ht) (fun _ hu=>hu.2) hgr
  ·exact K.off (v:=.slice (some ⟨g,off,none⟩) tv.length cap) hr (fun _ hu=>hu.2) hgr
theorem Kin.Mine.at_ {g off n cap:Nat}(h:K.Mine Q w B (.slice (some ⟨g,off,none⟩) n cap) tv)(j:Nat)(hj:j < tv.length):(∀ i u,(K.cells tv[j])[i]? = some u→w.cell? ⟨g,off+j*K.size+i,none⟩=some u∧w.frozen? ⟨g,off+j*K.size+i,none⟩=false)∧B≤g∧g < w.heap.size∧n=tv.length∧n≤cap:=by
 have hO:=h.own
 obtain ⟨A',cap',e2⟩:=hO.len
 cases e2
 obtain ⟨h1,h2,h3,h4,h5⟩:=hO.parts
 refine ⟨fun i u hu=>?_,h1,h2,rfl,h3⟩
 have hi:i < K.size:=by have:=(List.getElem?_eq_some_iff.1 hu).1;rwa [K.len] at this
 have hlt:j*K.size+i < tv.length*K.size:=by
  have:(j+1)*K.size≤tv.length*K.size:=Nat.mul_le_mul_right _ hj
  rw [Nat.add_mul] at this
  omega
 have hlt2:j*K.size+i < cap*K.size:=Nat.lt_of_lt_of_le hlt (Nat.mul_le_mul_right _ h3)
 rw [Nat.add_assoc]
 exact ⟨h4 _ _ (by rw [Kin.flat_get tv j hj i hi];exact hu),(h5 _ hlt2).2⟩
theorem Kin.Mine.some_ (h:K.Mine Q w B v tv)(h0:0 < tv.length):∃ g off cap,v=.slice (some ⟨g,off,none⟩) tv.length cap:=by
 rcases h.own.2.2 with ⟨_,hn⟩ | ⟨g,off,cap,e,_,_,_,_⟩
 ·omega
 ·exact ⟨g,off,cap,e⟩
theorem Kin.Mine.front {g off cap n m:Nat}(h:K.Mine Q w B (.slice (some ⟨g,off,none⟩) n cap) tv)(hm:m≤n)(zs:List Value):K.In (fun _=>True) (w.setCells g (off+m*K.size) zs) (.slice (some ⟨g,off,none⟩) m cap) ((tv.take m).map K.pr):=by
 have hO:=h.own
 obtain ⟨A',cap',e⟩:=hO.len
 cases e
 have hgr:w.grownBy (w.setCells g (off+m*K.size) zs) (some g):=setCells_grown g zs (off+m*K.size) w
 obtain ⟨h1,h2,h3,h4,h5⟩:=hO.parts
 have hl:(tv.take m).length=m:=by rw [List.length_take];omega
 refine ⟨tv.take m,rfl,?_,fun t ht=>K.mono (K.off (v:=.slice (some ⟨g,off,none⟩) tv.length cap) (h.each t (List.mem_of_mem_take ht)) (fun _ hu=>hu.2) hgr) fun _ _=>trivial,trivial⟩
 rw [List.length_map,hl]
 refine ⟨by rw [Kin.flat_length,hl],by have:=hO.2.1;omega,some ⟨g,off,none⟩,cap,rfl,by omega,fun _=>⟨g,off,rfl,by rw [setCells_size];exact h2,fun j u hu=>?_⟩⟩
 rw [←Kin.flat_take,List.getElem?_take] at hu
 split at hu
 ·rename_i hj
  rw [World.cell?_setCells_out g zs _ w ⟨g,off+j,none⟩ (fun _ _=>.inl (by simp;omega))]
  exact h4 j u hu
 ·exact absurd hu (by simp)
end
abbrev GV:=Value×Value×GroupP
theorem group_open_t {Q:Value→Prop}{w:World}(t:GV)(h:groupK.R Q w t):∃ A p A2 p2,t.1=.slice A t.2.2.key.length p∧t.2.1=.slice A2 t.2.2.parts.length p2:=by
 obtain ⟨kv,pv,g⟩:=t
 obtain ⟨A,p,A2,p2,h1,h2,_⟩:=group_open h
 exact ⟨A,p,A2,p2,h1,h2⟩
theorem groupK_flat_set:∀ (tv:List GV)(k:Nat)(t:GV),groupK.flat (tv.set k t)=(((groupK.flat tv).set (k*3) t.1).set (k*3+1) (.int .i64 t.2.2.n)).set (k*3+2) t.2.1
 | [],k,t=>by simp [Kin.flat]
 | _::_,0,_=>rfl
 | u::tv,k+1,t=>by
  have e1:(k+1)*3=k*3+3:=by omega
  rw [e1]
  show u.1::Value.int .i64 u.2.2.n::u.2.1::groupK.flat (tv.set k t)=u.1::Value.int .i64 u.2.2.n::u.2.1::(((groupK.flat tv).set (k*3) t.1).set (k*3+1) (.int .i64 t.2.2.n)).set (k*3+2) t.2.1
  rw [groupK_flat_set tv k t]
theorem groups_stored {Q:Value→Prop}{w:World}{B g off n cap:Nat}{tv:List GV}(h:groupK.Mine Q w B (.slice (some ⟨g,off,none⟩) n cap) tv)(j:Nat)(hj:j < tv.length){t:GV}(hr:groupK.R (fun u=>Q u∧RowOff (.slice (some ⟨g,off,none⟩) n cap) u) w t) :
  groupK.Mine Q (((w.setCell ⟨g,off+j*3,none⟩ t.1).setCell ⟨g,off+j*3+1,none⟩ (.int .i64 t.2.2.n)).setCell ⟨g,off+j*3+2,none⟩ t.2.1) B (.slice (some ⟨g,off,none⟩) n cap) (tv.set j t):=by
 have hO:=h.own
 obtain ⟨A',cap',e⟩:=hO.len
 cases e
 have k1:=Own.stored (Own.stored (Own.stored hO (j*3) (by show _ < tv.length*3;omega) t.1) (j*3+1) (by show _ < tv.length*3;omega) (.int .i64 t.2.2.n)) (j*3+2) (by show _ < tv.length*3;omega) t.2.1
 have hgr:w.grownBy (((w.setCell ⟨g,off+j*3,none⟩ t.1).setCell ⟨g,off+j*3+1,none⟩ (.int .i64 t.2.2.n)).setCell ⟨g,off+j*3+2,none⟩ t.2.1) (some g):=setCells_grown g [t.1,.int .i64 t.2.2.n,t.2.1] (off+j*3) w
 refine ⟨?_,fun u hu=>?_⟩
 ·rw [List.length_set,groupK_flat_set];exact k1
 ·rcases List.mem_or_eq_of_mem_set hu with hu|rfl
  ·exact groupK.off (v:=.slice (some ⟨g,off,none⟩) tv.length cap) (h.each u hu) (fun _ hx=>hx.2) hgr
  ·exact groupK.off (v:=.slice (some ⟨g,off,none⟩) tv.length cap) hr (fun _ hx=>hx.2) hgr
end Go.Proofs.YtjbpbfhgjldliaaGreat
