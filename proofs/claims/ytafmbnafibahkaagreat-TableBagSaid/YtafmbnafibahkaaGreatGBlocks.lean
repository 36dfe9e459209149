/- Rows that a call owns and that grow, each in memory of its own; no program. -/
import Derived.Test.YtafmbnafibahkaaGreatGStrs
import Derived.Test.YtafmbnafibahkaaGreatGCol
import Derived.Test.YtafmbnafibahkaaGreatGTimes
import Derived.Laws.MakeOwn
namespace Go.Proofs.YtafmbnafibahkaaGreat
open Go Go.RowKit
abbrev Blk:=Int×List ByteArray×ByteArray
def blkC (t:Value×Blk):List Value:=[.int .i64 t.2.1,t.1,.string t.2.2.2]
def blksV (tv:List (Value×Blk)):List Value:=tv.flatMap blkC
def blkA (t:Value×Blk):Value:=.agg #[.int .i64 t.2.1,t.1,.string t.2.2.2]
def BlksIn (w:World)(v:Value)(l:List Blk):Prop:=∃ tv:List (Value×Blk),tv.map Prod.snd=l∧SliceOf w 3 v l.length (blksV tv)∧∀ t∈tv,StrsIn w t.1 t.2.2.1
theorem blksV_cons (t:Value×Blk)(tv:List (Value×Blk)):blksV (t::tv)=.int .i64 t.2.1::t.1::.string t.2.2.2::blksV tv:=rfl
theorem blksV_append (a b:List (Value×Blk)):blksV (a++b)=blksV a++blksV b:=List.flatMap_append
theorem blksV_get:∀ (tv:List (Value×Blk))(j:Nat)(h:j < tv.length),(blksV tv)[j*3]? = some (.int .i64 tv[j].2.1)∧(blksV tv)[j*3+1]? = some tv[j].1∧(blksV tv)[j*3+2]? = some (.string tv[j].2.2.2)
 | [],j,h=>absurd h (by simp)
 | t::tv,0,_=>⟨rfl,rfl,rfl⟩
 | t::tv,j+1,h=>by
  have:=blksV_get tv j (by simpa using h)
  have e1:(j+1)*3=j*3+3:=by omega
  rw [e1]
  exact this
section
variable {w w':World}
theorem BlksIn.kept {v:Value}{l:List Blk}(h:BlksIn w v l)(hb:Below w.heap.size w w'):BlksIn w' v l:=by
 obtain ⟨tv,h1,h2,h3⟩:=h
 exact ⟨tv,h1,SliceOf.later h2 hb,fun t ht=>StrsIn.kept (h3 t ht) hb⟩
theorem BlksIn.nil_ (w:World)(A:Option Addr)(cap:Nat):BlksIn w (.slice A 0 cap) []:=⟨[],rfl,SliceOf.nil_ _ _ _ _,fun t ht=>absurd ht (by simp)⟩
theorem BlksIn.len {v:Value}{l:List Blk}(h:BlksIn w v l):l.length≤maxLen:=by
 obtain ⟨tv,_,h2,_⟩:=h
 exact h2.2.1
theorem blks_at {v:Value}{l:List Blk}(h:BlksIn w v l):∃ A cap,v=.slice A l.length cap ∧
  (∀ k,k < l.length→∃ b off,A=some ⟨b,off,none⟩∧b < w.heap.size∧∀ j (hj:j < l.length),∃ rv,StrsIn w rv l[j].2.1∧w.cell? ⟨b,off+j*3,none⟩=some (.int .i64 l[j].1)∧w.cell? ⟨b,off+j*3+1,none⟩=some rv ∧
   w.cell? ⟨b,off+j*3+2,none⟩=some (.string l[j].2.2)):=by
 obtain ⟨tv,rfl,h2,h3⟩:=h
 obtain ⟨_,_,A,cap,e,_,h4⟩:=h2
 refine ⟨A,cap,e,fun k hk=>?_⟩
 obtain ⟨b,off,ea,hb,hc⟩:=h4 (by omega)
 refine ⟨b,off,ea,hb,fun j hj=>?_⟩
 have hj':j < tv.length:=by simpa using hj
 have hv:=blksV_get tv j hj'
 rw [List.getElem_map]
 refine ⟨tv[j].1,h3 _ (List.getElem_mem hj'),hc _ _ hv.1,?_,?_⟩
 ·rw [Nat.add_assoc];exact hc _ _ hv.2.1
 ·rw [Nat.add_assoc];exact hc _ _ hv.2.2
def BlkIn (w:World)(v:Value)(b:Blk):Prop:=∃ cv,v=blkA (cv,b)∧StrsIn w cv b.2.1
theorem BlkIn.kept {v:Value}{b:Blk}(h:BlkIn w v b)(hb:Below w.heap.size w w'):BlkIn w' v b:=by
 obtain ⟨cv,h1,h2⟩:=h
 exact ⟨cv,h1,StrsIn.kept h2 hb⟩
end
def downL (l:List Tm)(c:Nat):List ByteArray:=l.map fun t=>t.1.getD c ⟨#[]⟩
def blockOf (l:List Tm)(k:Nat):Blk:=(l.length,(List.range k).map (fun c=>colB (downL l c)),shelfB (l.map Prod.snd))
def RowsK (l:List Tm)(k:Nat):Prop:=∀ t∈l,t.1.length=k∧∀ c∈t.1,rightB c=true
theorem downL_length (l:List Tm)(c:Nat):(downL l c).length=l.length:=List.length_map _
theorem downL_take (l:List Tm)(c k:Nat)(h:k < l.length):(downL l c).take (k+1)=(downL l c).take k++[l[k].1.getD c ⟨#[]⟩]:=by
 unfold downL
 rw [←List.map_take,←List.map_take,take_add l k h,List.map_append];rfl
theorem downL_get (l:List Tm)(c k:Nat)(h:k < l.length):(downL l c)[k]'(by rw [downL_length];exact h)=l[k].1.getD c ⟨#[]⟩:=by
 unfold downL
 rw [List.getElem_map]
theorem downL_right {l:List Tm}{k:Nat}(h:RowsK l k){c:Nat}(hc:c < k):∀ x∈downL l c,rightB x=true:=by
 intro x hx
 obtain ⟨t,ht,rfl⟩:=List.mem_map.1 hx
 obtain ⟨h1,h2⟩:=h t ht
 rw [List.getD_eq_getElem?_getD,List.getElem?_eq_getElem (by omega)]
 exact h2 _ (List.getElem_mem _)
theorem RowsK.take {l:List Tm}{k:Nat}(h:RowsK l k)(n:Nat):RowsK (l.take n) k:=fun t ht=>h t (List.mem_of_mem_take ht)
def colsT (l:List Tm)(c:Nat):List ByteArray:=(List.range c).map fun j=>colB (downL l j)
theorem colsT_length (l:List Tm)(c:Nat):(colsT l c).length=c:=by unfold colsT;rw [List.length_map,List.length_range]
theorem colsT_next (l:List Tm)(c:Nat):(colsT l (c+1)).map Value.string=(colsT l c).map Value.string++[Value.string (colB (downL l c))]:=by
 unfold colsT
 rw [List.range_succ,List.map_append,List.map_append];rfl
theorem colsT_get (l:List Tm)(k c:Nat)(h:c < k):(colsT l k)[c]'(by rw [colsT_length];exact h)=colB (downL l c):=by
 unfold colsT
 rw [List.getElem_map,List.getElem_range]
theorem blockOf_eq (l:List Tm)(k:Nat):blockOf l k=((l.length:Int),colsT l k,shelfB (l.map Prod.snd)):=rfl
def rowAt (l:List Tm)(j:Nat):List ByteArray:=(l.getD j ([],0)).1
def numAt (l:List Tm)(j:Nat):Int:=(l.getD j ([],0)).2
theorem rowAt_get {l:List Tm}{j:Nat}(h:j < l.length):rowAt l j=l[j].1:=by unfold rowAt;rw [List.getD_eq_getElem?_getD,List.getElem?_eq_getElem h];rfl
theorem numAt_get {l:List Tm}{j:Nat}(h:j < l.length):numAt l j=l[j].2:=by unfold numAt;rw [List.getD_eq_getElem?_getD,List.getElem?_eq_getElem h];rfl
def okB (l:List Tm)(j:Nat):Bool:=!(decide (numAt l j < 1)||(decide (0 < j)&&decide (0≤cmpL (rowAt l (j-1)) (rowAt l j))))
def goodB (l:List Tm):Bool:=decide (0 < l.length)&&(List.range l.length).all (okB l)
theorem goodB_none:goodB []=false:=rfl
theorem goodB_no {l:List Tm}{j:Nat}(h:j < l.length)(hn:okB l j=false):goodB l=false:=by
 unfold goodB
 rw [Bool.and_eq_false_iff]
 right
 rw [List.all_eq_false]
 exact ⟨j,List.mem_range.2 h,by rw [hn];decide⟩
theorem goodB_yes {l:List Tm}(h0:0 < l.length)(h:∀ j,j < l.length→okB l j=true):goodB l=true:=by
 unfold goodB
 rw [decide_eq_true h0,Bool.true_and,List.all_eq_true]
 exact fun j hj=>h j (List.mem_range.1 hj)
def TimesNew (w:World)(B:Nat)(v:Value)(l:List Tm):Prop:=∃ tv,SliceOf w 2 v l.length (timesV tv)∧RowsOf w tv l∧(∀ t∈tv,Fresh B t.1)∧Fresh B v
theorem TimesNew.times {w:World}{B:Nat}{v:Value}{l:List Tm}(h:TimesNew w B v l):TimesIn w v l:=by
 obtain ⟨tv,h1,h2,_⟩:=h
 exact ⟨tv,h1,h2⟩
theorem TimesNew.kept {w w':World}{B:Nat}{v:Value}{l:List Tm}(h:TimesNew w B v l)(hb:Below w.heap.size w w'):TimesNew w' B v l:=by
 obtain ⟨tv,h1,h2,h3⟩:=h
 exact ⟨tv,SliceOf.later h1 hb,h2.kept hb,h3⟩
theorem TimesNew.nil_ (w:World)(B cap:Nat):TimesNew w B (.slice none 0 cap) []:=⟨[],SliceOf.nil_ _ _ _ _,trivial,fun _ h=>absurd h (by simp),fun k hk=>by simp [Value.ownBlock] at hk⟩
theorem timesV_set0:∀ (tv:List (Value×Int))(k:Nat)(h:k < tv.length)(v:Value),(timesV tv).set (k*2) v=timesV (tv.set k (v,tv[k].2))
 | [],k,h,_=>absurd h (by simp)
 | t::tv,0,_,v=>rfl
 | t::tv,k+1,h,v=>by
  have e1:(k+1)*2=k*2+1+1:=by omega
  rw [e1,timesV_cons,List.set_cons_succ,List.set_cons_succ,timesV_set0 tv k (by simpa using h) v,List.set_cons_succ,timesV_cons]
  simp
theorem timesV_set1:∀ (tv:List (Value×Int))(k:Nat)(h:k < tv.length)(n:Int),(timesV tv).set (k*2+1) (.int .i64 n)=timesV (tv.set k (tv[k].1,n))
 | [],k,h,_=>absurd h (by simp)
 | t::tv,0,_,n=>rfl
 | t::tv,k+1,h,n=>by
  have e1:(k+1)*2+1=k*2+1+1+1:=by omega
  rw [e1,timesV_cons,List.set_cons_succ,List.set_cons_succ,timesV_set1 tv k (by simpa using h) n,List.set_cons_succ,timesV_cons]
  simp
theorem made_times (n:Nat):(madeCells #[Value.slice none 0 0,Value.int .i64 0] (n*2)).toList=timesV (List.replicate n (.slice none 0 0,0)):=by
 have e:∀ m:Nat,(madeCells #[Value.slice none 0 0,Value.int .i64 0] m).toList=(List.range m).map fun j=>(#[Value.slice none 0 0,Value.int .i64 0]:Array Value)[j % 2]! := by
  intro m
  unfold madeCells
  simp
 rw [e]
 induction n with
 | zero=>rfl
 | succ n ih =>
  rw [show (n+1)*2=n*2+1+1 by omega,List.range_succ,List.range_succ,List.map_append,List.map_append,ih,List.replicate_succ',timesV_append]
  rw [List.append_assoc]
  congr 1
  have h0:n*2 % 2=0:=by omega
  have h1:(n*2+1) % 2=1:=by omega
  simp only [List.map_cons,List.map_nil,h0,h1]
  rfl
def Grown (w:World)(B O:Nat)(tv:List (Value×Int))(rows:List (List ByteArray)):Prop :=
 tv.length=rows.length∧Own w B 2 (.slice (some ⟨O,0,none⟩) tv.length tv.length) tv.length (timesV tv) ∧
 (∀ j (h:j < tv.length) (h2:j < rows.length),Own w B 1 tv[j].1 rows[j].length (rows[j].map Value.string)∧tv[j].1.ownBlock≠some O) ∧
 (∀ i j (hi:i < tv.length) (hj:j < tv.length),i≠j→∀ b,tv[i].1.ownBlock=some b→tv[j].1.ownBlock≠some b)
section
variable {w w':World}{B O:Nat}{tv:List (Value×Int)}{rows:List (List ByteArray)}
theorem Grown.later (h:Grown w B O tv rows)(hb:Below w.heap.size w w'):Grown w' B O tv rows :=
 ⟨h.1,Own.later h.2.1 hb,fun j h1 h2=>⟨Own.later (h.2.2.1 j h1 h2).1 hb,(h.2.2.1 j h1 h2).2⟩,h.2.2.2⟩
theorem Grown.drew (h:Grown w B O tv rows):Grown w.drew B O tv rows:=h
theorem Grown.lt (h:Grown w B O tv rows):O < w.heap.size∧B≤O:=by
 have:=Own.lt h.2.1 O rfl
 exact ⟨this.2,this.1⟩
theorem Grown.cells (h:Grown w B O tv rows)(k:Nat)(hk:k < tv.length):w.cell? ⟨O,k*2,none⟩=some tv[k].1∧w.cell? ⟨O,k*2+1,none⟩=some (.int .i64 tv[k].2)∧w.frozen? ⟨O,k*2,none⟩=false∧w.frozen? ⟨O,k*2+1,none⟩=false:=by
 obtain ⟨_,_,_,hc,hr⟩:=Own.parts h.2.1
 have hv:=timesV_get tv k hk
 have e0:=hc _ _ hv.1
 have e1:=hc _ _ hv.2
 have f0:=(hr (k*2) (by omega)).2
 have f1:=(hr (k*2+1) (by omega)).2
 rw [Nat.zero_add] at e0 e1 f0 f1
 exact ⟨e0,e1,f0,f1⟩
theorem Grown.counted (h:Grown w B O tv rows)(k:Nat)(hk:k < tv.length)(n:Int):Grown (w.setCell ⟨O,k*2+1,none⟩ (.int .i64 n)) B O (tv.set k (tv[k].1,n)) rows:=by
 have hO:=Own.stored h.2.1 (k*2+1) (by omega) (.int .i64 n)
 rw [Nat.zero_add,timesV_set1 tv k hk] at hO
 have hg:=setCells_grown O [Value.int .i64 n] (k*2+1) w
 simp only [World.setCells] at hg
 have hv:∀ j (hj:j < (tv.set k (tv[k].1,n)).length),(tv.set k (tv[k].1,n))[j].1=(tv[j]'(by simpa using hj)).1:=by
  intro j hj
  rw [List.getElem_set]
  split
  ·rename_i e;subst e;rfl
  ·rfl
 refine ⟨by rw [List.length_set];exact h.1,by rw [List.length_set];exact hO,fun j h1 h2=>?_,fun i j h1 h2 hne b=>?_⟩
 ·have:=h.2.2.1 j (by simpa using h1) h2
  rw [hv j h1]
  exact ⟨Own.other this.1 hg (fun q hq e=>this.2 (by rw [hq];exact e)),this.2⟩
 ·rw [hv i h1,hv j h2]
  exact h.2.2.2 i j (by simpa using h1) (by simpa using h2) hne b
theorem Grown.grew (h:Grown w B O tv rows)(k:Nat)(hk:k < tv.length)(hk2:k < rows.length){v':Value}{x:ByteArray}(ho:Own w' B 1 v' (rows[k].length+1) (rows[k].map Value.string++[Value.string x]))
  (hg:w.grownBy w' tv[k].1.ownBlock) (hn:∀ b,v'.ownBlock=some b→tv[k].1.ownBlock=some b∨w.heap.size≤b) :
  Grown (w'.setCell ⟨O,k*2,none⟩ v') B O (tv.set k (v',tv[k].2)) (rows.set k (rows[k]++[x])):=by
 have hk1:=h.2.2.1 k hk hk2
 have hO1:Own w' B 2 (.slice (some ⟨O,0,none⟩) tv.length tv.length) tv.length (timesV tv):=Own.other h.2.1 hg (fun q hq e=>by
  simp only [Value.ownBlock,Option.some.injEq] at hq
  subst hq
  exact hk1.2 e.symm)
 have hO2:=Own.stored hO1 (k*2) (by omega) v'
 rw [Nat.zero_add,timesV_set0 tv k hk] at hO2
 have hg2:=setCells_grown O [v'] (k*2) w'
 simp only [World.setCells] at hg2
 have hlt:O < w.heap.size:=h.lt.1
 have hvO:v'.ownBlock≠some O:=fun e=>by
  rcases hn O e with e2|e2
  ·exact hk1.2 e2
  ·omega
 have hothers:∀ j (hj:j < tv.length) (hj2:j < rows.length),j≠k→Own (w'.setCell ⟨O,k*2,none⟩ v') B 1 tv[j].1 rows[j].length (rows[j].map Value.string)∧tv[j].1.ownBlock≠some O:=by
  intro j hj hj2 hne
  have:=h.2.2.1 j hj hj2
  refine ⟨Own.other (Own.other this.1 hg (fun q hq e=>h.2.2.2 k j hk hj (Ne.symm hne) q e.symm hq)) hg2 (fun q hq e=>this.2 (by rw [hq];exact e)),this.2⟩
 refine ⟨by rw [List.length_set,List.length_set];exact h.1,by rw [List.length_set];exact hO2,fun j h1 h2=>?_,fun i j h1 h2 hne b=>?_⟩
 ·rw [List.length_set] at h1 h2
  by_cases e:j=k
  ·subst e
   simp only [List.getElem_set_self]
   refine ⟨?_,hvO⟩
   have:=Own.other ho hg2 (fun q hq e=>hvO (by rw [hq];exact e))
   rw [List.length_append,List.map_append]
   exact this
  ·simp only [List.getElem_set_ne (Ne.symm e)]
   exact hothers j h1 h2 e
 ·have h1':i < tv.length:=by simpa using h1
  have h2':j < tv.length:=by simpa using h2
  by_cases ei:i=k
  ·subst ei
   simp only [List.getElem_set_self,List.getElem_set_ne hne]
   intro e e2
   rcases hn b e with e3|e3
   ·exact h.2.2.2 i j h1' h2' hne b e3 e2
   ·have:=(Own.lt (h.2.2.1 j h2' (by have:=h.1;omega)).1 b e2).2;omega
  ·by_cases ej:j=k
   ·subst ej
    simp only [List.getElem_set_self,List.getElem_set_ne (Ne.symm hne)]
    intro e e2
    rcases hn b e2 with e3|e3
    ·exact h.2.2.2 i j h1' h2' hne b e e3
    ·have:=(Own.lt (h.2.2.1 i h1' (by have:=h.1;omega)).1 b e).2;omega
   ·simp only [List.getElem_set_ne (Ne.symm ei),List.getElem_set_ne (Ne.symm ej)]
    exact h.2.2.2 i j h1' h2' hne b
theorem Grown.slot (h:Grown w B O tv rows)(k:Nat)(hk:k < tv.length)(hg:w.grownBy w' tv[k].1.ownBlock):w'.cell? ⟨O,k*2,none⟩=some tv[k].1∧w'.frozen? ⟨O,k*2,none⟩=false:=by
 have hk2:k < rows.length:=by have:=h.1;omega
 have hk1:=h.2.2.1 k hk hk2
 have hO1:Own w' B 2 (.slice (some ⟨O,0,none⟩) tv.length tv.length) tv.length (timesV tv):=Own.other h.2.1 hg (fun q hq e=>by
  simp only [Value.ownBlock,Option.some.injEq] at hq
  subst hq
  exact hk1.2 e.symm)
 obtain ⟨_,_,_,hc,hr⟩:=Own.parts hO1
 have e0:=hc _ _ (timesV_get tv k hk).1
 have f0:=(hr (k*2) (by omega)).2
 rw [Nat.zero_add] at e0 f0
 exact ⟨e0,f0⟩
theorem Grown.rowsOf_ (h:Grown w B O tv rows){l:List Tm}(e1:rows=l.map Prod.fst)(e2:tv.map Prod.snd=l.map Prod.snd):RowsOf w tv l:=by
 have hlen:tv.length=l.length:=by have:=congrArg List.length e2;simpa using this
 have hall:∀ (tv:List (Value×Int)) (l:List Tm),tv.length=l.length→(∀ j (h1:j < tv.length) (h2:j < l.length),StrsIn w tv[j].1 l[j].1∧tv[j].2=l[j].2)→RowsOf w tv l:=by
  intro tv
  induction tv with
  | nil=>intro l hl _;cases l with|nil=>trivial|cons x l=>simp at hl
  | cons t tv ih =>
   intro l hl hh
   cases l with
   | nil=>simp at hl
   | cons x l =>
    refine ⟨hh 0 (by simp) (by simp),ih l (by simpa using hl) fun j h1 h2=>?_⟩
    have:=hh (j+1) (by simpa using h1) (by simpa using h2)
    simpa using this
 refine hall tv l hlen fun j h1 h2=>?_
 have hr:rows[j]'(by rw [e1,List.length_map];exact h2)=l[j].1:=by subst e1;rw [List.getElem_map]
 have hs:=(h.2.2.1 j h1 (by rw [e1,List.length_map];exact h2)).1
 rw [hr] at hs
 refine ⟨strs_of hs rfl,?_⟩
 have:(tv.map Prod.snd)[j]'(by simpa using h1)=(l.map Prod.snd)[j]'(by simpa using h2):=by simp only [e2]
 simpa using this
theorem Grown.times (h:Grown w B O tv rows){l:List Tm}(e1:rows=l.map Prod.fst)(e2:tv.map Prod.snd=l.map Prod.snd):TimesIn w (.slice (some ⟨O,0,none⟩) tv.length tv.length) l :=
 TimesIn.of h.2.1.slice (h.rowsOf_ e1 e2) (by have:=congrArg List.length e2;simpa using this)
theorem Grown.made {n:Nat}(h:Own w B 2 (.slice (some ⟨O,0,none⟩) n n) n (timesV (List.replicate n (.slice none 0 0,0)))):Grown w B O (List.replicate n (.slice none 0 0,0)) (List.replicate n []):=by
 refine ⟨by simp,by rw [List.length_replicate];exact h,fun j h1 h2=>?_,fun i j h1 h2 _ b e=>?_⟩
 ·simp only [List.getElem_replicate]
  exact ⟨Own.nil_ _ _ _,by simp [Value.ownBlock]⟩
 ·simp [Value.ownBlock] at e
end
end Go.Proofs.YtafmbnafibahkaaGreat
