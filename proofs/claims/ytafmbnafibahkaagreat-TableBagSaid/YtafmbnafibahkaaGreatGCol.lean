/- A column's bytes: the three ways, the best of them, what a column's bytes are; no walk. -/
import Derived.Test.YtafmbnafibahkaaGreatGRuns
import Derived.Test.YtafmbnafibahkaaGreatGCellBack
import Derived.Test.YtafmbnafibahkaaGreatGDict
import Derived.Test.YtafmbnafibahkaaGreatGGaps
import Derived.Test.YtafmbnafibahkaaGreatGStepsRead
namespace Go.Proofs.YtafmbnafibahkaaGreat
open Go Go.RowKit
def asB (l:List ByteArray)(way:Int):ByteArray:=if way=0 then mkB (runsP l) else if way=1 then dictB l else if way=2 then stepsG l else ⟨#[]⟩
def asOk (l:List ByteArray)(way:Int):Bool:=if way=0 then true else if way=1 then true else if way=2 then mayL l else false
def turnW (l:List ByteArray)(x:Nat×ByteArray)(way:Nat):Nat×ByteArray:=if asOk l way=true∧(asB l way).size < x.2.size then (way,asB l way) else x
def bestK (l:List ByteArray):Nat→Nat×ByteArray
 | 0=>(0,asB l 0)
 | k+1=>turnW l (bestK l k) (k+1)
def bestP (l:List ByteArray):Nat×ByteArray:=turnW l (turnW l (0,asB l 0) 1) 2
theorem bestK_2 (l:List ByteArray):bestK l 2=bestP l:=rfl
def bestN (l:List ByteArray):Nat:=(bestP l).1
theorem asB_0 (l:List ByteArray):asB l 0=mkB (runsP l):=rfl
theorem asB_1 (l:List ByteArray):asB l 1=dictB l:=rfl
theorem asB_2 (l:List ByteArray):asB l 2=stepsG l:=rfl
theorem asOk_0 (l:List ByteArray):asOk l 0=true:=rfl
theorem asOk_1 (l:List ByteArray):asOk l 1=true:=rfl
theorem asOk_2 (l:List ByteArray):asOk l 2=mayL l:=rfl
theorem turnW_spec (l:List ByteArray)(x:Nat×ByteArray)(way:Nat)(hx:x.2=asB l x.1∧asOk l x.1=true)(hw:x.1 < way) :
  (turnW l x way).2=asB l (turnW l x way).1∧asOk l (turnW l x way).1=true∧(turnW l x way).1≤way∧(turnW l x way).2.size≤x.2.size ∧
  ((turnW l x way).1=x.1∨(turnW l x way).2.size < x.2.size)∧(asOk l way=true→(turnW l x way).2.size≤(asB l way).size∧(way < (turnW l x way).1→(turnW l x way).2.size < (asB l way).size)):=by
 unfold turnW
 split
 ·rename_i h
  exact ⟨rfl,h.1,Nat.le_refl _,Nat.le_of_lt h.2,.inr h.2,fun _=>⟨Nat.le_refl _,fun h=>absurd h (Nat.lt_irrefl _)⟩⟩
 ·rename_i h
  refine ⟨hx.1,hx.2,by omega,Nat.le_refl _,.inl rfl,fun h1=>⟨?_,fun h2=>absurd h2 (by omega)⟩⟩
  by_cases h2:(asB l way).size < x.2.size
  ·exact absurd ⟨h1,h2⟩ h
  ·omega
theorem bestP_spec (l:List ByteArray):(bestP l).2=asB l (bestN l)∧asOk l (bestN l)=true∧bestN l≤2 ∧
  ∀ way:Nat,way≤2→asOk l way=true→¬(asB l way).size < (asB l (bestN l)).size∧¬(way < bestN l∧(asB l way).size=(asB l (bestN l)).size):=by
 have h0:((0,asB l 0):Nat×ByteArray).2=asB l ((0,asB l 0):Nat×ByteArray).1∧asOk l ((0,asB l 0):Nat×ByteArray).1=true:=⟨rfl,rfl⟩
 obtain ⟨a1,a2,a3,a4,a5,a6⟩:=turnW_spec l (0,asB l 0) 1 h0 (by simp)
 obtain ⟨b1,b2,b3,b4,b5,b6⟩:=turnW_spec l (turnW l (0,asB l 0) 1) 2 ⟨a1,a2⟩ (by omega)
 refine ⟨b1,b2,b3,fun way hw hok=>?_⟩
 have e:asB l (bestN l)=(turnW l (turnW l (0,asB l 0) 1) 2).2:=b1.symm
 rw [e]
 unfold bestN bestP
 generalize turnW l (turnW l (0,asB l 0) 1) 2=y at *
 generalize turnW l (0,asB l 0) 1=x at *
 obtain rfl|rfl|rfl:way=0∨way=1∨way=2:=by omega
 ·simp only at a4 a5
  rw [show ((0:Nat):Int)=0 from rfl]
  refine ⟨by omega,?_⟩
  rintro ⟨h1,h2⟩
  rcases b5 with h|h
  ·rcases a5 with h'|h'
   ·omega
   ·omega
  ·omega
 ·obtain ⟨c1,c2⟩:=a6 hok
  refine ⟨by omega,?_⟩
  rintro ⟨h1,h2⟩
  rcases b5 with h|h
  ·omega
  ·omega
 ·obtain ⟨c1,c2⟩:=b6 hok
  exact ⟨by omega,fun ⟨h1,h2⟩=>by have:=c2 h1;omega⟩
def colB (l:List ByteArray):ByteArray:=gapsT (isL l)++printB (bestN (fullL l))++asB (fullL l) (bestN (fullL l))
def ColAt (s:ByteArray)(many:Int)(l:List ByteArray):Prop:=0≤many∧many≤4096∧(l.length:Int)=many∧(∀ c∈l,rightB c=true)∧s=colB l
def ByWay (s:List UInt8)(n:Nat)(many:Int)(l:List ByteArray)(r:List UInt8):Prop :=
 (n=0∧RunsAt s many l r)∨(n=1∧DictAt s many l r)∨(n=2∧∃ xs,l=xs.map cellInt∧StepsAt s many xs r)
def WayAt (s:List UInt8)(many:Int)(l:List ByteArray)(r:List UInt8):Prop:=∃ n r1,s=vp n++r1∧ByWay r1 n many l r
theorem ByWay.le {s:List UInt8}{n:Nat}{many:Int}{l:List ByteArray}{r:List UInt8}(h:ByWay s n many l r):n≤2:=by
 rcases h with ⟨h,_⟩ | ⟨h,_⟩ | ⟨h,_⟩ <;> omega
theorem ByWay.same {s:List UInt8}{n:Nat}{many:Int}{l l':List ByteArray}{r r':List UInt8}(h:ByWay s n many l r)(k:ByWay s n many l' r'):l=l'∧r=r':=by
 rcases h with ⟨rfl,h⟩ | ⟨rfl,h⟩ | ⟨rfl,xs,rfl,h⟩ <;> rcases k with ⟨e,k⟩ | ⟨e,k⟩ | ⟨e,ys,rfl,k⟩ <;> try omega
 ·exact h.same k
 ·exact h.same k
 ·obtain ⟨rfl,e2⟩:=h.same k
  exact ⟨rfl,e2⟩
theorem ByWay.facts {s:List UInt8}{n:Nat}{many:Int}{l:List ByteArray}{r:List UInt8}(h:ByWay s n many l r):(l.length:Int)=many∧l.length≤4096∧∀ c∈l,rightB c=true:=by
 rcases h with ⟨_,h0,h1,h2,h3,_⟩ | ⟨_,h0,h1,h2,h3,_⟩ | ⟨_,xs,rfl,h0,h1,h2,h3,_⟩
 ·exact ⟨h2,by omega,h3⟩
 ·exact ⟨h2,by omega,h3⟩
 ·rw [List.length_map]
  refine ⟨h2,by omega,fun c hc=>?_⟩
  obtain ⟨x,_,rfl⟩:=List.mem_map.1 hc
  exact cellInt_right x
theorem WayAt.same {s:List UInt8}{many:Int}{l l':List ByteArray}{r r':List UInt8}(h:WayAt s many l r)(k:WayAt s many l' r'):l=l'∧r=r':=by
 obtain ⟨n,r1,e,h⟩:=h
 obtain ⟨m,r2,e',k⟩:=k
 have h1:=h.le
 have h2:=k.le
 obtain ⟨rfl,rfl⟩:=vp_front (by omega) (by omega) (e.symm.trans e')
 exact h.same k
theorem best_way (l:List ByteArray)(hl:l.length≤4096)(hr:∀ c∈l,rightB c=true):ByWay (asB l (bestN l)).data.toList (bestN l) l.length l []:=by
 obtain ⟨_,h2,h3,_⟩:=bestP_spec l
 generalize bestN l=n at *
 obtain rfl|rfl|rfl:n=0∨n=1∨n=2:=by omega
 ·exact .inl ⟨rfl,by omega,by omega,rfl,hr,by rw [List.append_nil];rfl⟩
 ·exact .inr (.inl ⟨rfl,by omega,by omega,rfl,hr,by rw [List.append_nil];rfl⟩)
 ·have hm:mayL l=true:=h2
  refine .inr (.inr ⟨rfl,numsL l,(nums_back hm).symm,by omega,by omega,by rw [numsL_length],numsL_range l,?_⟩)
  rw [List.append_nil,show asB l ((2:Nat):Int)=stepsG l from rfl]
  unfold stepsG
  rw [if_pos hm];rfl
theorem fullL_right {l:List ByteArray}(h:∀ c∈l,rightB c=true):∀ c∈fullL l,rightB c=true:=fun c hc=>h c (List.mem_filter.1 hc).1
theorem ColAt.parts {s:ByteArray}{many:Int}{l:List ByteArray}(h:ColAt s many l):∃ r,GapsAt s.data.toList many (isL l) r∧WayAt r (cnt (isL l)) (fullL l) []:=by
 obtain ⟨h0,h1,h2,h3,rfl⟩:=h
 have hf:=fullL_length l
 refine ⟨vp (bestN (fullL l))++(asB (fullL l) (bestN (fullL l))).data.toList,⟨h0,h1,by rw [isL_length];exact h2,?_⟩,_,_,rfl,?_⟩
 ·unfold colB
  rw [data_append,data_append,print_data,List.append_assoc];rfl
 ·rw [cnt_isL]
  exact best_way _ (by omega) (fullL_right h3)
theorem ColAt.reads {s:ByteArray}{many:Int}{l:List ByteArray}(h:ColAt s many l){is:List Bool}{r:List UInt8}(hg:GapsAt s.data.toList many is r){m:List ByteArray}{r2:List UInt8}(hw:WayAt r (cnt is) m r2) :
  joinOk is m=true∧joinL is m=l∧r2=[]:=by
 obtain ⟨r',g,k⟩:=h.parts
 obtain ⟨rfl,rfl⟩:=g.same hg
 obtain ⟨rfl,rfl⟩:=k.same hw
 refine ⟨by unfold joinOk;rw [decide_eq_true (cnt_isL l)],?_,rfl⟩
 unfold joinL
 rw [if_pos (cnt_isL l),joinF_back]
theorem ColAt.no_gaps {s:ByteArray}{many:Int}(h:¬∃ l r,GapsAt s.data.toList many l r):¬∃ l,ColAt s many l:=by
 rintro ⟨l,k⟩
 obtain ⟨r,g,_⟩:=k.parts
 exact h ⟨_,_,g⟩
theorem ColAt.no_way {s:ByteArray}{many:Int}{is:List Bool}{r:List UInt8}(hg:GapsAt s.data.toList many is r)(h:¬∃ l r2,WayAt r (cnt is) l r2):¬∃ l,ColAt s many l:=by
 rintro ⟨l,k⟩
 obtain ⟨r',g,w⟩:=k.parts
 obtain ⟨rfl,rfl⟩:=g.same hg
 exact h ⟨_,_,w⟩
theorem right_empty:rightB ⟨#[]⟩=true:=by unfold rightB;rw [ByteArray.toList_eq];rfl
theorem joinF_right:∀ (is:List Bool)(l:List ByteArray),(∀ c∈l,rightB c=true)→∀ c∈joinF is l,rightB c=true
 | [],_,_,c,hc=>absurd hc (by simp [joinF])
 | false::is,l,h,c,hc=>by
  simp only [joinF,List.mem_cons] at hc
  rcases hc with rfl|hc
  ·exact right_empty
  ·exact joinF_right is l h c hc
 | true::is,[],h,c,hc=>by
  simp only [joinF,List.mem_cons] at hc
  rcases hc with rfl|hc
  ·exact right_empty
  ·exact joinF_right is [] h c hc
 | true::is,d::l,h,c,hc=>by
  simp only [joinF,List.mem_cons] at hc
  rcases hc with rfl|hc
  ·exact h _ List.mem_cons_self
  ·exact joinF_right is l (fun x hx=>h x (List.mem_cons_of_mem _ hx)) c hc
theorem col_of_read {s:ByteArray}{many:Int}{is:List Bool}{r:List UInt8}(hg:GapsAt s.data.toList many is r){m:List ByteArray}(hm:∀ c∈m,rightB c=true)(hj:joinOk is m=true)(hp:s=colB (joinL is m)):ColAt s many (joinL is m):=by
 obtain ⟨h0,h1,h2,_⟩:=hg
 have hc:cnt is=m.length:=by unfold joinOk at hj;exact of_decide_eq_true hj
 have e:joinL is m=joinF is m:=by unfold joinL;rw [if_pos hc]
 rw [e] at hp ⊢
 exact ⟨h0,h1,by rw [joinF_length];exact h2,joinF_right is m hm,hp⟩
theorem ColAt.same {s:ByteArray}{many:Int}{l l':List ByteArray}(h:ColAt s many l)(k:ColAt s many l'):l=l':=by
 obtain ⟨r,g,w⟩:=k.parts
 obtain ⟨_,e,_⟩:=h.reads g w
 obtain ⟨_,e',_⟩:=k.reads g w
 exact e.symm.trans e'
theorem col_at (l:List ByteArray)(hl:l.length≤4096)(hr:∀ c∈l,rightB c=true):ColAt (colB l) l.length l:=⟨by omega,by omega,rfl,hr,rfl⟩
end Go.Proofs.YtafmbnafibahkaaGreat
