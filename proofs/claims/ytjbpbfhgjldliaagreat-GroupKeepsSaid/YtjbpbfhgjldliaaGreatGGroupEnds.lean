/- Layer 21's laws: small, ways. -/
import Derived.Test.YtjbpbfhgjldliaaGreatGStrs
import Derived.Test.YtjbpbfhgjldliaaGreatGZFoldPure
import Derived.Test.YtjbpbfhgjldliaaGreatGGroupSt
namespace Go.Proofs.YtjbpbfhgjldliaaGreat
open Go Go.RowKit
theorem numW_in {z:Int}(h0 : -9223372036854775808≤z)(h1:z≤9223372036854775807):numW z=some (cellInt z):=by
 have h:=fits_of h0 h1
 unfold ofD at h
 unfold numW
 rw [if_pos h.1,h.2]
theorem numC_eB:numC eB=0:=by decide +kernel
theorem min_eB {a b:ByteArray}:minT a b=eB↔a=eB∧b=eB:=by
 constructor
 ·intro h
  by_cases ha:a=eB
  ·refine ⟨ha,?_⟩
   rw [ha,minT_e] at h;exact h
  ·exact absurd h (minT_ne ha)
 ·rintro ⟨rfl,rfl⟩;exact minT_e _
theorem max_eB {a b:ByteArray}:maxT a b=eB↔a=eB∧b=eB:=by
 constructor
 ·intro h
  unfold maxT at h
  cases k:ltB a b with
  | true =>
   rw [if_pos k] at h
   rw [h,lt_e] at k
   exact absurd k (by decide)
  | false =>
   rw [if_neg (by rw [k];decide)] at h
   subst h
   refine ⟨rfl,?_⟩
   by_cases hb:b=eB
   ·exact hb
   ·rw [e_lt hb] at k;exact absurd k (by decide)
 ·rintro ⟨rfl,rfl⟩;exact maxT_e _
theorem tal_none (col:Int):∀ l:List Tm,((talL col l).lo=eB↔(talL col l).hi=eB)∧((talL col l).lo=eB→(talL col l).sum=0)
 | []=>⟨Iff.rfl,fun _=>rfl⟩
 | x::l=>by
  obtain ⟨h1,h2⟩:=tal_none col l
  rw [talL_cons]
  refine ⟨?_,fun h=>?_⟩
  ·show minT (cellD x.1 col) (talL col l).lo=eB↔maxT (cellD x.1 col) (talL col l).hi=eB
   rw [min_eB,max_eB,h1]
  ·have h3:=min_eB.1 (show minT (cellD x.1 col) (talL col l).lo=eB from h)
   show numC (cellD x.1 col)*x.2+(talL col l).sum=0
   rw [h3.1,numC_eB,h2 h3.2];omega
theorem talL_nil (q:Int):talL q []=tal0:=rfl
theorem okL_nil (l:List Tm):okL [] l=l:=by
 unfold okL
 exact List.filter_eq_self.2 fun _ _=>rfl
theorem groups_nil (by_:List Int)(gs:List (Int×Int)):groupsP [] by_ gs=some []:=rfl
theorem lo_le (col:Int):∀ (l:List Tm),∀ x∈l,cellD x.1 col≠eB→ltB (cellD x.1 col) (talL col l).lo=false∧ltB (talL col l).hi (cellD x.1 col)=false
 | [],x,hx,_=>absurd hx (by simp)
 | y::l,x,hx,hne=>by
  rw [talL_cons]
  show ltB (cellD x.1 col) (minT (cellD y.1 col) (talL col l).lo)=false∧ltB (maxT (cellD y.1 col) (talL col l).hi) (cellD x.1 col)=false
  have hmin (a b:ByteArray) (ha:a≠eB):ltB a (minT a b)=false:=by
   unfold minT
   rw [if_neg ha]
   split
   ·exact ltB_irrefl _
   ·split
    ·rename_i h;exact ltB_asym h
    ·exact ltB_irrefl _
  have hmax (a b:ByteArray):ltB (maxT a b) a=false:=by
   unfold maxT
   cases h:ltB a b with
   | true=>rw [if_pos rfl];exact ltB_asym h
   | false=>rw [if_neg (by decide)];exact ltB_irrefl _
  have hle (a b c:ByteArray) (hb:b≠eB) (h:ltB c b=false) (_:c≠eB):ltB c (minT a b)=false:=by
   unfold minT
   by_cases ha:a=eB
   ·rw [if_pos ha];exact h
   ·rw [if_neg ha,if_neg hb]
    by_cases k:ltB b a=true
    ·rw [if_pos k];exact h
    ·rw [if_neg k]
     cases q:ltB c a with
     | false=>rfl
     | true=>rw [lt_le q (by simpa using k)] at h;exact absurd h (by decide)
  have hge (a b c:ByteArray) (h:ltB b c=false):ltB (maxT a b) c=false:=by
   unfold maxT
   cases k:ltB a b with
   | true=>rw [if_pos rfl];exact h
   | false =>
    rw [if_neg (by decide)]
    cases q:ltB a c with
    | false=>rfl
    | true=>exfalso;rw [lt_le q h] at k;exact absurd k (by decide)
  rcases List.mem_cons.1 hx with rfl|hx
  ·exact ⟨hmin _ _ hne,hmax _ _⟩
  ·obtain ⟨h1,h2⟩:=lo_le col l x hx hne
   refine ⟨?_,hge _ _ _ h2⟩
   have hlo:(talL col l).lo≠eB:=fun e=>by
    have hall:∀ (m:List Tm),(talL col m).lo=eB→∀ z∈m,cellD z.1 col=eB:=fun m=>by
     induction m with
     | nil=>intro _ z hz;exact absurd hz (by simp)
     | cons z m ih =>
      intro hh u hu
      have h3:=min_eB.1 (show minT (cellD z.1 col) (talL col m).lo=eB from hh)
      rcases List.mem_cons.1 hu with rfl|hu
      ·exact h3.1
      ·exact ih h3.2 u hu
    exact hne (hall l e x hx)
   exact hle _ _ _ hlo h1 hne
theorem lo_mem (col:Int):∀ l:List Tm,(talL col l).lo≠eB→(∃ x∈l,cellD x.1 col≠eB∧cellD x.1 col=(talL col l).lo)∧∃ x∈l,cellD x.1 col≠eB∧cellD x.1 col=(talL col l).hi
 | [],h=>absurd rfl h
 | y::l,h=>by
  obtain ⟨q1,_⟩:=tal_none col l
  have ih:=lo_mem col l
  rw [talL_cons] at h ⊢
  change minT (cellD y.1 col) (talL col l).lo≠eB at h
  show (∃ x∈y::l,cellD x.1 col≠eB∧cellD x.1 col=minT (cellD y.1 col) (talL col l).lo)∧∃ x∈y::l,cellD x.1 col≠eB∧cellD x.1 col=maxT (cellD y.1 col) (talL col l).hi
  by_cases hy:cellD y.1 col=eB
  ·rw [hy,minT_e] at h
   rw [hy,minT_e,maxT_e]
   obtain ⟨⟨a,ha,h1⟩,b,hb,h2⟩:=ih h
   exact ⟨⟨a,List.mem_cons_of_mem _ ha,h1⟩,b,List.mem_cons_of_mem _ hb,h2⟩
  ·by_cases hl:(talL col l).lo=eB
   ·rw [hl,minT_e2,q1.1 hl,maxT_e2]
    exact ⟨⟨y,List.mem_cons_self ..,hy,rfl⟩,y,List.mem_cons_self ..,hy,rfl⟩
   ·obtain ⟨⟨a,ha,h1⟩,b,hb,h2⟩:=ih hl
    refine ⟨?_,?_⟩
    ·unfold minT
     rw [if_neg hy,if_neg hl]
     split
     ·exact ⟨a,List.mem_cons_of_mem _ ha,h1⟩
     ·exact ⟨y,List.mem_cons_self ..,hy,rfl⟩
    ·unfold maxT
     split
     ·exact ⟨b,List.mem_cons_of_mem _ hb,h2⟩
     ·exact ⟨y,List.mem_cons_self ..,hy,rfl⟩
def Once (l:List Tm):Prop:=∀ x∈l,1≤x.2
theorem Once.tail {x:Tm}{l:List Tm}(h:Once (x::l)):Once l:=fun y hy=>h y (List.mem_cons_of_mem _ hy)
theorem gcells_cons (col:Int)(x:Tm)(l:List Tm):cellsL col (x::l)=cellF col x++cellsL col l:=by unfold cellsL;rw [List.flatMap_cons]
theorem cell_one (c:ByteArray):cellD [c] 0=c:=cellD_first [c] (by simp)
theorem sum_cell (col:Int)(x:Tm):sumL (cellF col x)=numC (cellD x.1 col)*x.2:=by
 unfold cellF
 by_cases h:cellD x.1 col=eB
 ·rw [if_pos h,h,numC_eB,Int.zero_mul];rfl
 ·rw [if_neg h]
  show x.2*numC (cellD [cellD x.1 col] 0)+0=_
  rw [cell_one,Int.add_zero,Int.mul_comm]
theorem tal_sum (col:Int):∀ l:List Tm,(talL col l).sum=sumL (cellsL col l)
 | []=>rfl
 | x::l=>by
  rw [talL_cons,gcells_cons,sumL_append,←tal_sum col l,sum_cell];rfl
theorem tal_rows (col:Int):∀ l:List Tm,(talL col l).rows=manyL l
 | []=>rfl
 | x::l=>by
  rw [talL_cons,gmany_cons,←tal_rows col l];rfl
theorem many_pos:∀ {l:List Tm},Once l→(l.length:Int)≤manyL l
 | [],_=>Int.le_refl _
 | x::l,h=>by
  have h1:=many_pos h.tail
  have h2:=h x (List.mem_cons_self ..)
  rw [gmany_cons,List.length_cons];omega
theorem lo_none (col:Int):∀ {l:List Tm},Once l→0≤manyL (cellsL col l)∧((talL col l).lo=eB↔manyL (cellsL col l)=0)
 | [],_=>⟨Int.le_refl _,fun _=>rfl,fun _=>rfl⟩
 | x::l,h=>by
  obtain ⟨h1,h2⟩:=lo_none col h.tail
  have hx:=h x (List.mem_cons_self ..)
  rw [gcells_cons,gmany_append,talL_cons]
  have e:((tal1 col x).add (talL col l)).lo=minT (cellD x.1 col) (talL col l).lo:=rfl
  rw [e,min_eB,h2]
  unfold cellF
  by_cases hc:cellD x.1 col=eB
  ·rw [if_pos hc,gmany_nil,Int.zero_add]
   exact ⟨h1,fun h=>h.2,fun h=>⟨hc,h⟩⟩
  ·rw [if_neg hc,gmany_one]
   dsimp only
   refine ⟨by omega,fun h=>absurd h.1 hc,fun h=>by omega⟩
theorem cells_once (col:Int){l:List Tm}(h:Once l):Once (cellsL col l):=fun t ht=>by
 obtain ⟨x,hx,hm⟩:=List.mem_flatMap.1 ht
 unfold cellF at hm
 split at hm
 ·exact absurd hm (by simp)
 ·rw [List.mem_singleton.1 hm];exact h x hx
theorem cnt_ge:∀ {l:List Tm},Once l→∀ r,0≤cntW l r
 | [],_,_=>Int.le_refl _
 | x::l,h,r=>by
  have h1:=cnt_ge h.tail r
  have h2:=h x (List.mem_cons_self ..)
  simp only [cntW]
  split <;> omega
theorem cnt_pos:∀ {l:List Tm},Once l→∀ t∈l,1≤cntW l t.1
 | [],_,t,ht=>absurd ht (by simp)
 | x::l,h,t,ht=>by
  have h2:=h x (List.mem_cons_self ..)
  have h3:=cnt_ge h.tail t.1
  simp only [cntW]
  rcases List.mem_cons.1 ht with rfl|ht
  ·rw [if_pos rfl];omega
  ·have h1:=cnt_pos h.tail t ht
   split <;> omega
theorem mem_of2 {l:List Tm}(h:Once l){t:Tm}(ht:t∈l):∃ u∈ofW l,u.1=t.1:=cnt_not_mem (by
 rw [cnt_of]
 have:=cnt_pos h t ht
 omega)
theorem cells_mem {col:Int}{l:List Tm}{t:Tm}(h:t∈cellsL col l):∃ x∈l,cellD x.1 col≠eB∧t.1=[cellD x.1 col]:=by
 obtain ⟨x,hx,hm⟩:=List.mem_flatMap.1 h
 unfold cellF at hm
 split at hm
 ·exact absurd hm (by simp)
 ·exact ⟨x,hx,by assumption,by rw [List.mem_singleton.1 hm]⟩
theorem mem_cells {col:Int}{l:List Tm}{x:Tm}(hx:x∈l)(h:cellD x.1 col≠eB):([cellD x.1 col],x.2)∈cellsL col l:=by
 refine List.mem_flatMap.2 ⟨x,hx,?_⟩
 unfold cellF
 rw [if_neg h]
 exact List.mem_singleton.2 rfl
theorem cmp_one {a b:ByteArray}(h:cmpL [a] [b] = -1):ltB a b=true:=by
 rcases lt_three a b with k|k|k
 ·subst k;rw [cmpL_self] at h;exact absurd h (by decide)
 ·exact k
 ·rw [cmpL_more _ _ [] [] k] at h;exact absurd h (by decide)
theorem ends_of (col:Int){l:List Tm}(h:Once l)(hn:(talL col l).lo≠eB) :
  cellD (((ofW (cellsL col l)).head?.map (·.1)).getD []) 0=(talL col l).lo∧cellD (((ofW (cellsL col l)).getLast?.map (·.1)).getD []) 0=(talL col l).hi:=by
 have hR:=(of_right (cellsL col l)).1
 have hm:∀ t∈ofW (cellsL col l),∃ x∈l,cellD x.1 col≠eB∧t.1=[cellD x.1 col]:=fun t ht=>by
  obtain ⟨u,hu,e⟩:=mem_of ht
  rw [←e];exact cells_mem hu
 obtain ⟨⟨x,hx,x1,x2⟩,y,hy,y1,y2⟩:=lo_mem col l hn
 obtain ⟨u,hu,u1⟩:=mem_of2 (cells_once col h) (mem_cells hx x1)
 obtain ⟨v,hv,v1⟩:=mem_of2 (cells_once col h) (mem_cells hy y1)
 have hle:=lo_le col l
 dsimp only at u1 v1
 rw [x2] at u1
 rw [y2] at v1
 generalize ofW (cellsL col l)=T at *
 constructor
 ·match T,hu with
  | t::T,hu =>
   obtain ⟨z,hz,z1,z2⟩:=hm t (List.mem_cons_self ..)
   show cellD t.1 0=_
   rw [z2,cell_one]
   rcases List.mem_cons.1 hu with rfl|hu
   ·rw [z2] at u1
    exact (List.cons.inj u1).1
   ·have h1:=(List.pairwise_cons.1 hR).1 u hu
    rw [z2,u1] at h1
    have h2:=(hle z hz z1).1
    rw [cmp_one h1] at h2
    exact absurd h2 (by decide)
 ·rcases List.eq_nil_or_concat T with rfl | ⟨S,t,rfl⟩
  ·exact absurd hv (by simp)
  ·rw [List.concat_eq_append] at *
   obtain ⟨z,hz,z1,z2⟩:=hm t (List.mem_append_right _ (List.mem_cons_self ..))
   rw [List.getLast?_append]
   show cellD t.1 0=_
   rw [z2,cell_one]
   rcases List.mem_append.1 hv with hv|hv
   ·have h1:=(List.pairwise_append.1 hR).2.2 v hv t (List.mem_cons_self ..)
    rw [z2,v1] at h1
    have h2:=(hle z hz z1).2
    rw [cmp_one h1] at h2
    exact absurd h2 (by decide)
   ·rw [List.mem_singleton.1 hv,z2] at v1
    exact (List.cons.inj v1).1
theorem sum_nil_of (l:List Tm):sumW [] l=ofW l:=rfl
theorem val_is {l:List Tm}(h:Once l)(hb:manyL l≤9223372036854775807){a:Int×Int}(ha:1≤a.1∧a.1≤4):valG (manyL l) (partW part0 a l) a.1=valP l a:=by
 obtain ⟨way,col⟩:=a
 obtain ⟨h0,h1⟩:=lo_none col h
 have h2:=many_pos h
 have hs:=tal_sum col l
 have hr:=tal_rows col l
 have he:=ends_of col h
 have hp3:∀ w:Int,w≠1→(w=3∨w=4)→partW part0 (w,col) l=⟨0+manyL (cellsL col l),0,sumW [] (cellsL col l)⟩:=fun w w1 w2=>by
  unfold partW
  rw [if_neg w1,if_pos w2];rfl
 have hp2:∀ w:Int,w≠1→¬(w=3∨w=4)→partW part0 (w,col) l=⟨0+manyL (cellsL col l),0+sumL (cellsL col l),[]⟩:=fun w w1 w2=>by
  unfold partW
  rw [if_neg w1,if_neg w2];rfl
 have hpn:way≠1→(partW part0 (way,col) l).n=0+manyL (cellsL col l):=fun w1=>by
  by_cases w2:way=3∨way=4
  ·rw [hp3 way w1 w2]
  ·rw [hp2 way w1 w2]
 show valG (manyL l) (partW part0 (way,col) l) way=valT (talL col l) way
 unfold valG valT
 by_cases w1:way=1
 ·rw [if_pos w1,if_pos w1,hr,numW_in (by omega) hb]
 ·rw [if_neg w1,if_neg w1,hpn w1]
  by_cases hn:(talL col l).lo=eB
  ·rw [if_pos hn,if_pos (by rw [h1.1 hn];rfl)]
  ·have hz:¬0+manyL (cellsL col l)=0:=fun e=>hn (h1.2 (by omega))
   rw [if_neg hn,if_neg hz]
   obtain ⟨e1,e2⟩:=he hn
   by_cases w3:way=3
   ·rw [if_pos w3,if_pos w3,hp3 way w1 (.inl w3)]
    exact congrArg some e1
   ·by_cases w4:way=4
    ·rw [if_neg w3,if_pos w4,if_neg w3,if_pos w4,hp3 way w1 (.inr w4)]
     exact congrArg some e2
    ·rw [if_neg w3,if_neg w4,if_neg w3,if_neg w4,hp2 way w1 (by omega),hs]
     show numW (0+sumL (cellsL col l))=_
     rw [Int.zero_add]
theorem vals_is {l:List Tm}(h:Once l)(hb:manyL l≤9223372036854775807):∀ {gs:List (Int×Int)},(∀ a∈gs,1≤a.1∧a.1≤4)→valsG (manyL l) (gs.map fun a=>partW part0 a l) gs=valsP l gs
 | [],_=>rfl
 | a::gs,ha=>by
  show (match valG (manyL l) (partW part0 a l) a.1 with|none=>none|some c=>(valsG (manyL l) (gs.map fun a=>partW part0 a l) gs).map (c::·))=(match valP l a with|none=>none|some c=>(valsP l gs).map (c::·))
  rw [val_is h hb (ha a (List.mem_cons_self ..)),vals_is h hb fun b hb=>ha b (List.mem_cons_of_mem _ hb)]
theorem row_is {l:List Tm}(h:Once l)(hb:manyL l≤9223372036854775807){gs:List (Int×Int)}(ha:∀ a∈gs,1≤a.1∧a.1≤4)(k:List ByteArray):rowG gs (grpL k gs l)=(valsP l gs).map (k++·):=by
 unfold rowG grpL
 dsimp only
 rw [vals_is h hb ha]
theorem told_keys {gs:List (Int×Int)}{by_:List Int}{L:List Tm}:∀ {S:List BP},(∀ p∈S,rowG gs (grpB gs p)=(valsP (ofKey by_ p.1 L) gs).map (p.1++·))→toldP gs 1 (S.map (grpB gs))=groupsK by_ gs L (S.map (·.1))
 | [],_=>rfl
 | p::S,h=>by
  show (match rowG gs (grpB gs p) with|none=>none|some r=>(toldP gs 1 (S.map (grpB gs))).map ((r,(1:Int))::·))=(match valsP (ofKey by_ p.1 L) gs with|none=>none|some vs=>(groupsK by_ gs L (S.map (·.1))).map ((p.1++vs,(1:Int))::·))
  rw [h p (List.mem_cons_self ..),told_keys fun q hq=>h q (List.mem_cons_of_mem _ hq)]
  cases valsP (ofKey by_ p.1 L) gs <;> rfl
theorem once_rowsK {by_:List Int}{N:List Tm}(h:Once N)(k:List ByteArray):Once (rowsK by_ N k):=fun x hx=>h x (List.mem_filter.1 (List.mem_filter.1 hx).1).1
theorem many_sub {a b:List Tm}(hs:a.Sublist b)(h:Once b):manyL a≤manyL b:=by
 induction hs with
 | slnil=>exact Int.le_refl _
 | cons x _ ih =>
  have:=ih h.tail
  have:=h x (List.mem_cons_self ..)
  rw [gmany_cons];omega
 | cons_cons x _ ih =>
  have:=ih h.tail
  rw [gmany_cons,gmany_cons];omega
theorem holds_told {by_:List Int}{S:List BP}{N:List Tm}(h:Holds by_ S N)(ho:Once N)(hb:manyL N≤9223372036854775807){gs:List (Int×Int)}(ha:∀ a∈gs,1≤a.1∧a.1≤4):toldP gs 1 (S.map (grpB gs))=groupsK by_ gs (okL by_ N) (S.map (·.1)) :=
 told_keys fun p hp=>by
  have e:grpB gs p=grpL p.1 gs (rowsK by_ N p.1):=by
   show grpL p.1 gs p.2=_
   have h1:=h.same p.1
   rw [look_mem h.sort hp] at h1
   exact same_grp h1 p.1 gs
  rw [e]
  refine row_is (once_rowsK ho p.1) (Int.le_trans (many_sub ?_ ho) hb) ha p.1
  exact (List.filter_sublist).trans List.filter_sublist
theorem holds_keys {by_:List Int}{S:List BP}{N:List Tm}(h:Holds by_ S N)(ho:Once N){ks:List (List ByteArray)}(hs:ks.Pairwise fun a b=>cmpL a b = -1)(hk:∀ k,k∈ks↔∃ x∈okL by_ N,keyT by_ x=k):S.map (·.1)=ks:=by
 refine strict_same (List.pairwise_map.2 h.sort) hs fun k=>?_
 rw [hk]
 have h1:=h.has k
 unfold hasK at h1
 simp only [List.mem_map]
 rw [h1]
 constructor
 ·intro hn
  cases he:rowsK by_ N k with
  | nil=>rw [he] at hn;exact absurd rfl hn
  | cons x t =>
   have hx:x∈rowsK by_ N k:=by rw [he];exact List.mem_cons_self ..
   obtain ⟨x1,x2⟩:=List.mem_filter.1 hx
   exact ⟨x,x1,of_decide_eq_true x2⟩
 ·rintro ⟨x,hx,rfl⟩ e
  have h2:=many_pos (once_rowsK (by_:=by_) ho (keyT by_ x))
  have h3:x∈rowsK by_ N (keyT by_ x):=List.mem_filter.2 ⟨hx,decide_eq_true rfl⟩
  have h4:=List.length_pos_of_mem h3
  omega
theorem Holds.congr {by_:List Int}{S:List BP}{R N:List Tm}(h:Holds by_ S R)(e:SameC R N):Holds by_ S N:=⟨h.sort,h.live,fun k=>(h.same k).trans (same_rowsK e by_ k)⟩
theorem live_app (A B:List BP):liveS (A++B)=liveS A++liveS B:=List.filter_append ..
theorem live_id {S:List BP}(h:∀ p∈S,manyL p.2≠0):liveS S=S:=List.filter_eq_self.2 fun p hp=>by simpa using h p hp
theorem live_one (b:BP):liveS [b]=if manyL b.2=0 then [] else [b]:=by
 unfold liveS
 by_cases h:manyL b.2=0
 ·rw [if_pos h,List.filter_cons,if_neg (by simpa using h)];rfl
 ·rw [if_neg h,List.filter_cons,if_pos (by simpa using h)];rfl
theorem split_state:∀ (bs S:List BP),SortK S→(∀ p∈S,manyL p.2≠0)→(S++behindS bs S).Perm (aheadS bs S++liveS (mergeS bs S))
 | [],S,_,hl=>by
  show (S++[]).Perm ([]++liveS S)
  rw [List.append_nil,List.nil_append,live_id hl]
 | b::bs,S,hs,hl=>by
  obtain ⟨e,_,_,f3⟩:=splitS_at hs b.1
  have ih:=split_state bs (restS S b.1) f3 fun p hp=>hl p (List.mem_of_mem_drop hp)
  have hmm:mergeS (b::bs) S=S.take (lessS S b.1)++([newS S b]++mergeS bs (restS S b.1)):=rfl
  have hbb:behindS (b::bs) S=liveS [newS S b]++behindS bs (restS S b.1):=by rw [live_one];rfl
  have haa:aheadS (b::bs) S=(hitS S b.1).toList++aheadS bs (restS S b.1):=rfl
  have hlt:liveS (S.take (lessS S b.1))=S.take (lessS S b.1):=live_id fun p hp=>hl p (List.mem_of_mem_take hp)
  rw [hmm,hbb,haa,live_app,live_app,hlt]
  conv=>lhs;lhs;rw [e]
  generalize S.take (lessS S b.1)=T at *
  generalize (hitS S b.1).toList=H at *
  generalize restS S b.1=Z at *
  generalize liveS [newS S b]=n at *
  generalize behindS bs Z=BZ at *
  generalize aheadS bs Z=AZ at *
  generalize liveS (mergeS bs Z)=LZ at *
  refine (@List.perm_iff_count BP (@instBEqOfDecidableEq _ (Classical.typeDecidableEq BP)) _ _ _).2 fun a=>?_
  have h1:=(@List.perm_iff_count BP (@instBEqOfDecidableEq _ (Classical.typeDecidableEq BP)) _ _ _).1 ih a
  simp only [List.count_append] at *
  omega
theorem ahead_sub {bs S:List BP}(hs:SortK S):∀ p∈aheadS bs S,p∈S:=by
 induction bs generalizing S with
 | nil=>exact fun p hp=>absurd hp (by simp [aheadS])
 | cons b bs ih =>
  intro p hp
  obtain ⟨_,_,_,f3⟩:=splitS_at hs b.1
  rcases List.mem_append.1 (show p∈(hitS S b.1).toList++aheadS bs (restS S b.1) from hp) with h|h
  ·cases hh:hitS S b.1 with
   | none=>rw [hh] at h;exact absurd h (by simp)
   | some x =>
    rw [hh] at h
    rw [List.mem_singleton.1 h]
    exact (hitS_key hh).1
  ·exact List.mem_of_mem_drop (ih f3 p h)
def rowD (gs:List (Int×Int))(g:GroupP):List ByteArray:=(rowG gs g).getD []
theorem told_all {gs:List (Int×Int)}{n:Int}:∀ {l:List GroupP},(∀ g∈l,rowG gs g≠none)→toldP gs n l=some (l.map fun g=>(rowD gs g,n))
 | [],_=>rfl
 | g::l,h=>by
  show (match rowG gs g with|none=>none|some r=>(toldP gs n l).map ((r,n)::·))=_
  have h1:=h g (List.mem_cons_self ..)
  rw [told_all fun x hx=>h x (List.mem_cons_of_mem _ hx)]
  rw [List.map_cons]
  unfold rowD
  cases hr:rowG gs g with
  | none=>exact absurd hr h1
  | some r=>rfl
theorem told_bad {gs:List (Int×Int)}{n:Int}:∀ {l:List GroupP}{g:GroupP},g∈l→rowG gs g=none→toldP gs n l=none
 | x::l,g,hg,h=>by
  show (match rowG gs x with|none=>none|some r=>(toldP gs n l).map ((r,n)::·))=_
  rcases List.mem_cons.1 hg with rfl|hg
  ·rw [h]
  ·rw [told_bad hg h]
   cases rowG gs x <;> rfl
theorem told_good {gs:List (Int×Int)}{n:Int}{l:List GroupP}{L:List Tm}(h:toldP gs n l=some L):∀ g∈l,rowG gs g≠none:=fun g hg e=>by
 rw [told_bad hg e] at h;cases h
theorem told_is {gs:List (Int×Int)}{n:Int}{l:List GroupP}{L:List Tm}(h:toldP gs n l=some L):L=l.map fun g=>(rowD gs g,n):=by
 rw [told_all (told_good h)] at h
 exact (Option.some.inj h).symm
theorem cnt_neg {f:GroupP→List ByteArray}(l:List GroupP)(r:List ByteArray):cntW (l.map fun g=>(f g,(-1:Int))) r = - cntW (l.map fun g=>(f g,(1:Int))) r:=by
 induction l with
 | nil=>rfl
 | cons g l ih =>
  rw [List.map_cons,List.map_cons]
  simp only [cntW]
  rw [ih]
  split <;> omega
theorem keeps_told {gs:List (Int×Int)}{S E:List BP}{was:List Tm}(hs:SortK S)(hl:∀ p∈S,manyL p.2≠0)(hw:toldP gs 1 (S.map (grpB gs))=some was) :
  ∃ go,toldP gs (-1) (aheadG (joinB E) (S.map (grpB gs)))=some go∧match toldP gs 1 (behindG gs (joinB E) (S.map (grpB gs))),toldP gs 1 ((nextS E S).map (grpB gs)) with
   | some co,some want=>∀ r,cntW was r+(cntW go r+cntW co r)=cntW want r
   | none,none=>True
   | _,_=>False:=by
 have hp:=split_state (joinB E) S hs hl
 change (S++behindS (joinB E) S).Perm (aheadS (joinB E) S++nextS E S) at hp
 have hmp:=hp.map (grpB gs)
 rw [List.map_append,List.map_append] at hmp
 have hsub:=ahead_sub (bs:=joinB E) hs
 rw [ahead_map,behind_map]
 have hgood:=told_good hw
 have hag:∀ g∈(aheadS (joinB E) S).map (grpB gs),rowG gs g≠none:=fun g hg=>by
  obtain ⟨p,hp,rfl⟩:=List.mem_map.1 hg
  exact hgood _ (List.mem_map.2 ⟨p,hsub p hp,rfl⟩)
 have hwi:=told_is hw
 refine ⟨_,told_all hag,?_⟩
 cases hb:toldP gs 1 ((behindS (joinB E) S).map (grpB gs)) with
 | none =>
  cases hn:toldP gs 1 ((nextS E S).map (grpB gs)) with
  | none=>trivial
  | some want =>
   exfalso
   have hng:=told_good hn
   rw [told_all fun g hg=>?_] at hb
   ·cases hb
   ·rcases List.mem_append.1 (hmp.mem_iff.1 (List.mem_append_right _ hg)) with h|h
    ·exact hag g h
    ·exact hng g h
 | some co =>
  have hbg:=told_good hb
  have hci:=told_is hb
  rw [told_all fun g hg=>by
   rcases List.mem_append.1 (hmp.mem_iff.2 (List.mem_append_right _ hg)) with h|h
   ·exact hgood g h
   ·exact hbg g h]
  intro r
  have h2:=cntG_perm (hmp.map fun g=>(rowD gs g,(1:Int))) r
  rw [List.map_append,List.map_append,cntW_append,cntW_append] at h2
  rw [hwi,hci,cnt_neg]
  omega
theorem cmp_front:∀ {a b c d:List ByteArray},a.length=b.length→cmpL a b = -1→cmpL (a++c) (b++d) = -1
 | [],[],_,_,_,h=>absurd h (by decide)
 | [],_::_,_,_,hl,_=>absurd hl (by simp)
 | _::_,[],_,_,hl,_=>absurd hl (by simp)
 | x::a,y::b,c,d,hl,h=>by
  rw [List.cons_append,List.cons_append]
  rcases lt_three x y with k|k|k
  ·subst k
   rw [cmpL_front] at h ⊢
   exact cmp_front (by simpa using hl) h
  ·exact cmpL_less _ _ _ _ k
  ·rw [cmpL_more _ _ _ _ k] at h
   exact absurd h (by decide)
theorem told_right {gs:List (Int×Int)}{S:List BP}{n:Nat}(hs:SortK S)(hk:∀ p∈S,p.1.length=n){L:List Tm}(h:toldP gs 1 (S.map (grpB gs))=some L):RightP L:=by
 have hg:=told_good h
 rw [told_is h]
 refine ⟨?_,fun t ht=>?_⟩
 ·rw [List.map_map]
  refine List.pairwise_map.2 (hs.imp_of_mem fun {p q} hp hq hc=>?_)
  have e:∀ x∈S,∃ v,rowD gs (grpB gs x)=x.1++v:=fun x hx=>by
   have h1:=hg _ (List.mem_map.2 ⟨x,hx,rfl⟩)
   unfold rowD rowG at *
   cases hv:valsG (grpB gs x).n (grpB gs x).parts gs with
   | none=>rw [hv] at h1;exact absurd rfl h1
   | some v=>exact ⟨v,rfl⟩
  obtain ⟨v1,e1⟩:=e p hp
  obtain ⟨v2,e2⟩:=e q hq
  show cmpL (rowD gs (grpB gs p)) (rowD gs (grpB gs q)) = -1
  rw [e1,e2]
  exact cmp_front (by rw [hk p hp,hk q hq]) hc
 ·obtain ⟨g,_,rfl⟩:=List.mem_map.1 ht
  show (1:Int)≠0
  decide
theorem gonce_of {N:List Tm}(hr:RightP N)(hw:wholeW N=true):Once N:=fun x hx=>by
 unfold wholeW at hw
 rw [List.all_eq_true] at hw
 have h1:=of_decide_eq_true (hw x hx)
 have h2:=hr.2 x hx
 omega
def ChgEnd (w:World)(lv:Value)(S:List BP)(was:List Tm)(by_:List Int)(gs:List (Int×Int))(more:List Tm)(e:Ending)(w':World):Prop :=
 ∃ (E:List BP) (gv rv:Value) (n:Nat) (er:Int) (S2:List BP) (was2 d:List Tm),e=.returned (.tuple #[gv,rv,.int .i64 n,.int .i64 er])∧groupK.In (fun _=>True) w' gv (S2.map (grpB gs))∧TimesIn w' rv d∧n≤more.length∧Below w.heap.size w w' ∧
  E.Perm (eachB by_ more)∧E.Pairwise (fun a b=>¬cmpL b.1 a.1 = -1)∧toldP gs 1 (S2.map (grpB gs))=some was2∧d.length≤2*more.length∧wtW d≤2*more.length ∧
  ((er=0∧S2=nextS E S∧∀ r,cntW was r+cntW d r=cntW was2 r)∨(er=7∧S2=S∧was2=was∧gv=lv∧d=[]∧toldP gs 1 ((nextS E S).map (grpB gs))=none))
theorem tolds_length {gs:List (Int×Int)}{n:Int}{l:List GroupP}{L:List Tm}(h:toldP gs n l=some L):L.length=l.length:=by rw [told_is h,List.length_map]
theorem told_wt {gs:List (Int×Int)}{n:Int}{l:List GroupP}{L:List Tm}(h:toldP gs n l=some L):wtW L=l.length*n.natAbs:=by
 rw [wt_const (n:=n) fun x hx=>(told_rows h x hx).1,tolds_length h]
theorem chg_of {w w':World}{lv:Value}{S:List BP}{was:List Tm}{by_:List Int}{gs:List (Int×Int)}{more:List Tm}{e:Ending}(h:ChangeEnd w lv (S.map (grpB gs)) by_ gs more e w')(hin:groupK.In (fun _=>True) w lv (S.map (grpB gs)))(hs:SortK S)(hl:∀ p∈S,manyL p.2≠0)(hw:toldP gs 1 (S.map (grpB gs))=some was) :
  ChgEnd w lv S was by_ gs more e w':=by
 obtain ⟨E,hp,hE,hb,hm⟩:=h
 obtain ⟨go,hgo,hk⟩:=keeps_told (gs:=gs) (E:=E) hs hl hw
 have hn:(joinB E).length≤more.length:=by
  have h1:=joinB_length E
  have h2:=hp.length_eq
  have h3:=okL_lengthG by_ more
  unfold eachB at h2
  rw [List.length_map] at h2
  omega
 rw [hgo] at hm
 have hal:=ahead_length (joinB E) (S.map (grpB gs))
 have hbl:=behind_length gs (joinB E) (S.map (grpB gs))
 have hg1:=tolds_length hgo
 have hg2:=told_wt hgo
 rw [next_map] at hm
 cases hb1:toldP gs 1 (behindG gs (joinB E) (S.map (grpB gs))) with
 | none =>
  cases hb2:toldP gs 1 ((nextS E S).map (grpB gs)) with
  | none =>
   rw [hb1] at hm
   exact ⟨E,lv,.slice none 0 0,0,7,S,was,[],hm,hin.kept hb,TimesIn.nil_ _ _ _,Nat.zero_le _,hb,hp,hE,hw,Nat.zero_le _,Nat.zero_le _,.inr ⟨rfl,rfl,rfl,rfl,rfl,hb2⟩⟩
  | some want =>
   rw [hb1,hb2] at hk
   exact hk.elim
 | some co =>
  cases hb2:toldP gs 1 ((nextS E S).map (grpB gs)) with
  | none =>
   rw [hb1,hb2] at hk
   exact hk.elim
  | some want =>
   rw [hb1,hb2] at hk
   rw [hb1] at hm
   obtain ⟨gv,rv,rfl,h1,h2⟩:=hm
   have hc1:=tolds_length hb1
   have hc2:=told_wt hb1
   have hs1:=sum_length go co
   have hs2:=wt_sum go co
   refine ⟨E,gv,rv,(joinB E).length,0,nextS E S,want,sumW go co,rfl,h1,h2,hn,hb,hp,hE,hb2,?_,?_,.inl ⟨rfl,rfl,fun r=>?_⟩⟩
   ·omega
   ·rw [hg2,hc2] at hs2
    simp only [Int.natAbs_neg,Int.natAbs_one,Nat.mul_one,Int.reduceNeg] at hs2
    omega
   ·rw [cnt_sum];exact hk r
theorem FitS.both {by_:List Int}{n W:Nat}{S E S2:List BP}{more:List Tm}(h:FitS by_ n W S)(hp:E.Perm (eachB by_ more))(hE:E.Pairwise fun a b=>¬cmpL b.1 a.1 = -1)(h2:S2=nextS E S∨S2=S){m k:Nat}(hm:more.length≤m)(hk:wtW more≤k):FitS by_ (n+m) (W+k) S2:=by
 rcases h2 with rfl|rfl
 ·have:=h.next hp hE
  exact ⟨this.sort,this.live,this.keys,Nat.le_trans this.len (by omega),Nat.le_trans this.wt (by omega)⟩
 ·exact ⟨h.sort,h.live,h.keys,Nat.le_trans h.len (by omega),Nat.le_trans h.wt (by omega)⟩
def StateAt (w:World)(ng:List (Int×Int))(S:List BP)(A:Option Addr):Prop:=∀ k,k < S.length→∃ b off,A=some ⟨b,off,none⟩∧b < w.heap.size∧∀ j (hj:j < S.length),∃ kA kp pA pp,groupK.R (fun _=>True) w (.slice kA S[j].1.length kp,.slice pA ng.length pp,grpB ng S[j])∧StrsIn w (.slice kA S[j].1.length kp) S[j].1 ∧
 w.cell? ⟨b,off+j*3,none⟩=some (.slice kA S[j].1.length kp)∧w.cell? ⟨b,off+j*3+1,none⟩=some (.int .i64 (manyL S[j].2))∧w.cell? ⟨b,off+j*3+2,none⟩=some (.slice pA ng.length pp)
theorem state_at {w:World}{gv:Value}{ng:List (Int×Int)}{S:List BP}(h:groupK.In (fun _=>True) w gv (S.map (grpB ng))):∃ A cap,gv=.slice A S.length cap∧StateAt w ng S A:=by
 obtain ⟨tv,A,cap,_,rfl,_,_,hat⟩:=h.at_
 refine ⟨A,cap,by rw [List.length_map],fun k hk=>?_⟩
 obtain ⟨b,off,rfl,hb,hc⟩:=hat k (by rw [List.length_map];exact hk)
 refine ⟨b,off,rfl,hb,fun j hj=>?_⟩
 obtain ⟨⟨kv,pv,g⟩,_,_,hg,hr,hd⟩:=hc j (by rw [List.length_map];exact hj)
 rw [List.getElem_map] at hg
 change g=_ at hg
 subst hg
 obtain ⟨kA,kp,pA,pp,rfl,rfl,_⟩:=group_open hr
 have hk:=hr.1.1
 have d0:=hd 0 _ rfl
 have d1:=hd 1 _ rfl
 have d2:=hd 2 _ rfl
 have el:(grpB ng S[j]).parts.length=ng.length:=by
  show (ng.map _).length=_
  rw [List.length_map]
 rw [el] at hr d2
 exact ⟨kA,kp,pA,pp,hr,hk,d0,d1,d2⟩
theorem FitS.many {by_:List Int}{n W:Nat}{S:List BP}(h:FitS by_ n W S)(j:Nat):(manyL ((S.take j).flatMap (·.2))).natAbs≤W:=by
 refine Nat.le_trans (gmany_le _) (Nat.le_trans ?_ h.wt)
 conv=>rhs;rw [←List.take_append_drop j S]
 rw [List.flatMap_append,wtW_append];omega
def small21T (t:Tm):Bool:=decide (t.1.length=4)&&decide (t.2≤1048576)&&decide (-1048576≤t.2)&&t.1.all fun c=>decide (c.size≤100)
def small21 (l:List Tm)(most:Nat):Bool:=l.all small21T&&decide (l.length≤most)
theorem small21T_of {t:Tm}(h:small21T t=true):t.1.length=4∧t.2≤1048576∧-1048576≤t.2∧∀ c∈t.1,c.size≤100:=by
 unfold small21T at h
 rw [Bool.and_eq_true,Bool.and_eq_true,Bool.and_eq_true,decide_eq_true_eq,decide_eq_true_eq,decide_eq_true_eq,List.all_eq_true] at h
 exact ⟨h.1.1.1,h.1.1.2,h.1.2,fun c hc=>by have:=h.2 c hc;rwa [decide_eq_true_eq] at this⟩
theorem small21T_yes {t:Tm}(h1:t.1.length=4)(h2:t.2≤1048576)(h3 : -1048576≤t.2)(h4:∀ c∈t.1,c.size≤100):small21T t=true:=by
 unfold small21T
 rw [decide_eq_true h1,decide_eq_true h2,decide_eq_true h3,List.all_eq_true.2 fun c hc=>decide_eq_true (h4 c hc)];rfl
theorem small21_of {l:List Tm}{most:Nat}(h:small21 l most=true):l.length≤most∧∀ t∈l,small21T t=true:=by
 unfold small21 at h
 rw [Bool.and_eq_true,List.all_eq_true,decide_eq_true_eq] at h
 exact ⟨h.2,h.1⟩
theorem small21_no {l:List Tm}{most:Nat}{t:Tm}(ht:t∈l)(h:small21T t=false):small21 l most=false:=by
 cases hs:small21 l most with
 | false=>rfl
 | true=>rw [(small21_of hs).2 t ht] at h;exact absurd h (by decide)
theorem small21T_no {t:Tm}(h:¬(t.1.length=4∧t.2≤1048576∧-1048576≤t.2∧∀ c∈t.1,c.size≤100)):small21T t=false:=by
 cases hs:small21T t with
 | false=>rfl
 | true=>exact absurd (small21T_of hs) h
theorem small21_end {l:List Tm}{most:Nat}(h:∀ t∈l.take l.length,small21T t=true):decide (l.length≤most)=small21 l most:=by
 rw [List.take_length] at h
 unfold small21
 rw [List.all_eq_true.2 h,Bool.true_and]
set_option maxHeartbeats 2000000 in
theorem small21_calls {w:World}{v:Value}{l:List Tm}(most:Nat)(h:TimesIn w v l):Reads Tryz.prog 6 #[v,.int .i64 most] w (.bool (small21 l most)):=by
 have hm:=h.len
 unfold maxLen at hm
 obtain ⟨tv,A,cap,rfl,_,hat⟩:=times_at h
 have HAT:=Lib.hid hat
 clear h hat
 unfold Reads
 go_enter Tryz.func6,Tryz.ntmps6
 go_wp2
 go_loop [5] (fun i=>∃ k:Nat,k≤l.length∧i=.int .i64 k∧Hid (∀ t∈l.take k,small21T t=true)) (fun i=>l.length-(intOf i).toNat)
 case atStart=>exact ⟨0,Nat.zero_le _,rfl,fun c hc=>absurd hc (by simp)⟩
 case round =>
  obtain ⟨k,hk,rfl,HS⟩:=hrel
  by_cases hlt:k < l.length
  ·obtain ⟨b,off,rfl,hbl,hc⟩:=HAT.out k hlt
   obtain ⟨rv,hs,_,c1,c2⟩:=hc k hlt
   have HT:=Lib.hid (take_add l k hlt)
   have HM:=Lib.hid (List.getElem_mem hlt)
   clear hc
   generalize l[k]=t at *
   obtain ⟨row,n⟩:=t
   dsimp only at *
   have hrl:=hs.len
   unfold maxLen at hrl
   obtain ⟨Ar,pr,rfl,hrat⟩:=one_at hs
   have HRAT:=Lib.hid hrat
   clear hs hrat
   by_cases hsh:row.length=4∧n≤1048576∧-1048576≤n
   ·obtain ⟨g1,g2,g3⟩:=hsh
    have d1:((row.length:Int)==4)=true:=by simp [g1]
    have d2:decide (1048576 < n)=false:=by rw [decide_eq_false_iff_not];omega
    have d3:decide (n < -1048576)=false:=by rw [decide_eq_false_iff_not];omega
    go_wp2
    go_loop [6] (fun i=>∃ q:Nat,q≤row.length∧i=.int .i64 q∧Hid (∀ c∈row.take q,c.size≤100)) (fun i=>row.length-(intOf i).toNat)
    case atStart=>exact ⟨0,Nat.zero_le _,rfl,fun c hc=>absurd hc (by simp)⟩
    case round =>
     obtain ⟨q,hq,rfl,HQ⟩:=hrel
     by_cases hql:q < row.length
     ·obtain ⟨b2,off2,rfl,_,hcr⟩:=HRAT.out q hql
      have hx:=hcr q hql
      have HTQ:=Lib.hid (take_add row q hql)
      have HMQ:=Lib.hid (List.getElem_mem hql)
      clear hcr
      generalize row[q]=c at *
      by_cases hz:c.size≤100
      ·have d4:decide (100 < (c.size:Int))=false:=by rw [decide_eq_false_iff_not];omega
       go_wp2
       go_round
       case rel=>exact ⟨q+1,by omega,by go_num,fun d hd=>by
        rw [HTQ.out] at hd
        rcases List.mem_append.1 hd with hd|hd
        ·exact HQ.out d hd
        ·rw [List.mem_singleton.1 hd];exact hz⟩
       case measure=>simp [intOf];omega
      ·have d4:decide (100 < (c.size:Int))=true:=by rw [decide_eq_true_eq];omega
       have HD:=Lib.hid (small21_no (most:=most) HM.out (small21T_no fun h=>hz (h.2.2.2 c HMQ.out)))
       go_wp2
       go_ret
       exact ⟨ret_bool HD.out.symm,rfl⟩
     ·obtain rfl:q=row.length:=by omega
      rw [List.take_length] at HQ
      have HI:=Lib.hid (small21T_yes (t:=(row,n)) g1 g2 g3 HQ.out)
      go_wp2
      go_round
      case rel=>exact ⟨k+1,by omega,by go_num,fun d hd=>by
       rw [HT.out] at hd
       rcases List.mem_append.1 hd with hd|hd
       ·exact HS.out d hd
       ·rw [List.mem_singleton.1 hd];exact HI.out⟩
      case measure=>simp [intOf];omega
   ·have HD:=Lib.hid (small21_no (most:=most) HM.out (small21T_no fun h=>hsh ⟨h.1,h.2.1,h.2.2.1⟩))
    by_cases g1:row.length=4
    ·have d1:((row.length:Int)==4)=true:=by simp [g1]
     by_cases g2:n≤1048576
     ·have d2:decide (1048576 < n)=false:=by rw [decide_eq_false_iff_not];omega
      have d3:decide (n < -1048576)=true:=by rw [decide_eq_true_eq];omega
      clear hsh
      go_wp2
      go_ret
      exact ⟨ret_bool HD.out.symm,rfl⟩
     ·have d2:decide (1048576 < n)=true:=by rw [decide_eq_true_eq];omega
      clear hsh
      go_wp2
      go_ret
      exact ⟨ret_bool HD.out.symm,rfl⟩
    ·have d1:((row.length:Int)==4)=false:=by rw [beq_eq_false_iff_ne];omega
     clear hsh
     go_wp2
     go_ret
     exact ⟨ret_bool HD.out.symm,rfl⟩
  ·obtain rfl:k=l.length:=by omega
   have HD:=Lib.hid (small21_end (most:=most) HS.out)
   go_wp2
   go_ret
   exact ⟨ret_bool HD.out,rfl⟩
theorem fine21 {l:List Tm}{most:Nat}(h:small21 l most=true):l.length≤most∧wtW l≤most*1048576∧(∀ x∈l,x.1.length=4)∧∀ x∈l,x.2.natAbs≤1048576:=by
 obtain ⟨h1,h2⟩:=small21_of h
 have h3:=wt_each (l:=l) (n:=1048576) fun t ht=>by have:=small21T_of (h2 t ht);omega
 exact ⟨h1,Nat.le_trans h3 (Nat.mul_le_mul_right _ h1),fun x hx=>(small21T_of (h2 x hx)).1,fun x hx=>by have:=small21T_of (h2 x hx);omega⟩
def way21 (a:Int×Int):Bool:=decide (1≤a.1)&&decide (a.1≤4)&&decide (0≤a.2)&&decide (a.2≤3)
def ways21 (gs:List (Int×Int)):Bool:=gs.all way21&&decide (gs.length≤4)
theorem way21_of {a:Int×Int}(h:way21 a=true):1≤a.1∧a.1≤4∧0≤a.2∧a.2≤3:=by
 unfold way21 at h
 rw [Bool.and_eq_true,Bool.and_eq_true,Bool.and_eq_true,decide_eq_true_eq,decide_eq_true_eq,decide_eq_true_eq,decide_eq_true_eq] at h
 exact ⟨h.1.1.1,h.1.1.2,h.1.2,h.2⟩
theorem way21_no {a:Int×Int}(h:¬(1≤a.1∧a.1≤4∧0≤a.2∧a.2≤3)):way21 a=false:=by
 cases hs:way21 a with
 | false=>rfl
 | true=>exact absurd (way21_of hs) h
theorem ways21_of {gs:List (Int×Int)}(h:ways21 gs=true):gs.length≤4∧∀ a∈gs,way21 a=true:=by
 unfold ways21 at h
 rw [Bool.and_eq_true,List.all_eq_true,decide_eq_true_eq] at h
 exact ⟨h.2,h.1⟩
theorem ways21_no {gs:List (Int×Int)}{a:Int×Int}(ha:a∈gs)(h:way21 a=false):ways21 gs=false:=by
 cases hs:ways21 gs with
 | false=>rfl
 | true=>rw [(ways21_of hs).2 a ha] at h;exact absurd h (by decide)
theorem ways21_end {gs:List (Int×Int)}(h:∀ a∈gs.take gs.length,way21 a=true):decide ((gs.length:Int)≤4)=ways21 gs:=by
 rw [List.take_length] at h
 unfold ways21
 rw [List.all_eq_true.2 h,Bool.true_and]
 congr 1
 rw [eq_iff_iff]
 omega
set_option maxHeartbeats 2000000 in
theorem ways21_calls {w:World}{v:Value}{gs:List (Int×Int)}(h:OnIn w v gs):Reads Tryz.prog 4 #[v] w (.bool (ways21 gs)):=by
 have hm:=h.len
 unfold maxLen at hm
 obtain ⟨A,cap,rfl,_,hat⟩:=on_at h
 have HAT:=Lib.hid hat
 clear h hat
 unfold Reads
 go_enter Tryz.func4,Tryz.ntmps4
 go_wp2
 go_loop [3] (fun i=>∃ k:Nat,k≤gs.length∧i=.int .i64 k∧Hid (∀ a∈gs.take k,way21 a=true)) (fun i=>gs.length-(intOf i).toNat)
 case atStart=>exact ⟨0,Nat.zero_le _,rfl,fun c hc=>absurd hc (by simp)⟩
 case round =>
  obtain ⟨k,hk,rfl,HS⟩:=hrel
  by_cases hlt:k < gs.length
  ·obtain ⟨b,off,rfl,hbl,hc⟩:=HAT.out k hlt
   obtain ⟨c1,c2⟩:=hc k hlt
   have HT:=Lib.hid (take_add gs k hlt)
   have HM:=Lib.hid (List.getElem_mem hlt)
   clear hc
   generalize gs[k]=a at *
   obtain ⟨p,c⟩:=a
   dsimp only at *
   by_cases hok:1≤p∧p≤4∧0≤c∧c≤3
   ·have HI:Hid (way21 (p,c)=true):=by
     obtain ⟨g1,g2,g3,g4⟩:=hok
     show way21 (p,c)=true
     unfold way21
     rw [decide_eq_true g1,decide_eq_true g2,decide_eq_true g3,decide_eq_true g4];rfl
    obtain ⟨g1,g2,g3,g4⟩:=hok
    have d1:decide (p < 1)=false:=decide_eq_false (by omega)
    have d2:decide (4 < p)=false:=decide_eq_false (by omega)
    have d3:decide (c < 0)=false:=decide_eq_false (by omega)
    have d4:decide (3 < c)=false:=decide_eq_false (by omega)
    clear g1 g2 g3 g4
    go_wp2
    go_round
    case rel=>exact ⟨k+1,by omega,by go_num,fun d hd=>by
     rw [HT.out] at hd
     rcases List.mem_append.1 hd with hd|hd
     ·exact HS.out d hd
     ·rw [List.mem_singleton.1 hd];exact HI.out⟩
    case measure=>simp [intOf];omega
   ·have HD:=Lib.hid (ways21_no HM.out (way21_no hok))
    by_cases g1:1≤p
    ·have d1:decide (p < 1)=false:=decide_eq_false (by omega)
     by_cases g2:p≤4
     ·have d2:decide (4 < p)=false:=decide_eq_false (by omega)
      by_cases g3:0≤c
      ·have d3:decide (c < 0)=false:=decide_eq_false (by omega)
       have d4:decide (3 < c)=true:=decide_eq_true (by omega)
       clear hok g1 g2 g3
       go_wp2
       go_ret
       exact ⟨ret_bool HD.out.symm,rfl⟩
      ·have d3:decide (c < 0)=true:=decide_eq_true (by omega)
       clear hok g1 g2 g3
       go_wp2
       go_ret
       exact ⟨ret_bool HD.out.symm,rfl⟩
     ·have d2:decide (4 < p)=true:=decide_eq_true (by omega)
      clear hok g1 g2
      go_wp2
      go_ret
      exact ⟨ret_bool HD.out.symm,rfl⟩
    ·have d1:decide (p < 1)=true:=decide_eq_true (by omega)
     clear hok g1
     go_wp2
     go_ret
     exact ⟨ret_bool HD.out.symm,rfl⟩
  ·obtain rfl:k=gs.length:=by omega
   have HD:=Lib.hid (ways21_end HS.out)
   go_wp2
   go_ret
   exact ⟨ret_bool HD.out,rfl⟩
theorem way21_ok {gs:List (Int×Int)}(h:ways21 gs=true):gs.length≤4∧∀ a∈gs,1≤a.1∧a.1≤4:=⟨(ways21_of h).1,fun a ha=>by
 have:=way21_of ((ways21_of h).2 a ha)
 omega⟩
end Go.Proofs.YtjbpbfhgjldliaaGreat
