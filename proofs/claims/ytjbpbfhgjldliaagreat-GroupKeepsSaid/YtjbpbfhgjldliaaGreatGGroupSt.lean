/- Layer 21's laws: what the document's examples come to; no program. -/
import Derived.Test.YtjbpbfhgjldliaaGreatGGroupChg
namespace Go.Proofs.YtjbpbfhgjldliaaGreat
open Go Go.RowKit
def grpB (gs:List (Int×Int))(p:BP):GroupP:=grpL p.1 gs p.2
def lessS (S:List BP)(key:List ByteArray):Nat:=(S.takeWhile fun p=>decide (cmpL p.1 key = -1)).length
def hitS (S:List BP)(key:List ByteArray):Option BP:=match S[lessS S key]? with
 | some p=>if p.1=key then some p else none
 | none=>none
def restS (S:List BP)(key:List ByteArray):List BP:=S.drop (if (hitS S key).isSome then lessS S key+1 else lessS S key)
def newS (S:List BP)(b:BP):BP:=(b.1,((hitS S b.1).map (·.2)).getD []++b.2)
def mergeS:List BP→List BP→List BP
 | [],S=>S
 | b::bs,S=>S.take (lessS S b.1)++newS S b::mergeS bs (restS S b.1)
def aheadS:List BP→List BP→List BP
 | [],_=>[]
 | b::bs,S=>(hitS S b.1).toList++aheadS bs (restS S b.1)
def behindS:List BP→List BP→List BP
 | [],_=>[]
 | b::bs,S=>(if manyL (newS S b).2=0 then [] else [newS S b])++behindS bs (restS S b.1)
def SortK (S:List BP):Prop:=S.Pairwise fun a b=>cmpL a.1 b.1 = -1
def lookS (S:List BP)(k:List ByteArray):List Tm:=(S.filter fun p=>decide (p.1=k)).flatMap (·.2)
def hasK (S:List BP)(k:List ByteArray):Prop:=∃ p∈S,p.1=k
section
variable (gs:List (Int×Int))
theorem less_map (S:List BP)(key:List ByteArray):lessN (S.map (grpB gs)) key=lessS S key:=by
 unfold lessN lessS
 rw [List.takeWhile_map,List.length_map];rfl
theorem hit_map (S:List BP)(key:List ByteArray):hitG (S.map (grpB gs)) key=(hitS S key).map (grpB gs):=by
 unfold hitG hitS
 rw [less_map,List.getElem?_map]
 cases S[lessS S key]? with
 | none=>rfl
 | some p =>
  show (if (grpB gs p).key=key then some (grpB gs p) else none)=Option.map _ (if p.1=key then some p else none)
  have:(grpB gs p).key=p.1:=rfl
  rw [this]
  split <;> rfl
theorem rest_map (S:List BP)(key:List ByteArray):restG (S.map (grpB gs)) key=(restS S key).map (grpB gs):=by
 unfold restG restS
 rw [hit_map,less_map,Option.isSome_map,List.map_drop]
theorem hitS_key {S:List BP}{key:List ByteArray}{p:BP}(h:hitS S key=some p):p∈S∧p.1=key:=by
 unfold hitS at h
 cases hk:S[lessS S key]? with
 | none=>rw [hk] at h;cases h
 | some x =>
  rw [hk] at h
  dsimp only at h
  split at h
  ·cases h
   exact ⟨List.mem_of_getElem? hk,by assumption⟩
  ·cases h
theorem new_map (S:List BP)(b:BP):newG gs (S.map (grpB gs)) b=grpB gs (newS S b):=by
 show withG ((hitG (S.map (grpB gs)) b.1).getD (bareG b.1)) gs b.2=grpL b.1 gs (((hitS S b.1).map (·.2)).getD []++b.2)
 rw [hit_map]
 cases hh:hitS S b.1 with
 | none=>exact with_is (g:=bareG b.1) (bare_is b.1 gs) b.2
 | some p =>
  obtain ⟨_,e⟩:=hitS_key hh
  have h2:=with_is (g:=grpB gs p) (l:=p.2) (.inl rfl) b.2
  show withG (grpB gs p) gs b.2=grpL b.1 gs (p.2++b.2)
  rw [h2,←e];rfl
theorem merge_map:∀ (bs S:List BP),mergeG gs bs (S.map (grpB gs))=(mergeS bs S).map (grpB gs)
 | [],_=>rfl
 | b::bs,S=>by
  show (S.map (grpB gs)).take (lessN (S.map (grpB gs)) b.1)++newG gs (S.map (grpB gs)) b::mergeG gs bs (restG (S.map (grpB gs)) b.1)=(S.take (lessS S b.1)++newS S b::mergeS bs (restS S b.1)).map (grpB gs)
  rw [less_map,new_map,rest_map,merge_map bs,List.map_append,List.map_take];rfl
theorem ahead_map:∀ (bs S:List BP),aheadG bs (S.map (grpB gs))=(aheadS bs S).map (grpB gs)
 | [],_=>rfl
 | b::bs,S=>by
  show (hitG (S.map (grpB gs)) b.1).toList++aheadG bs (restG (S.map (grpB gs)) b.1)=((hitS S b.1).toList++aheadS bs (restS S b.1)).map (grpB gs)
  rw [hit_map,rest_map,ahead_map bs,List.map_append]
  cases hitS S b.1 <;> rfl
theorem behind_map:∀ (bs S:List BP),behindG gs bs (S.map (grpB gs))=(behindS bs S).map (grpB gs)
 | [],_=>rfl
 | b::bs,S=>by
  show (if (newG gs (S.map (grpB gs)) b).n=0 then [] else [newG gs (S.map (grpB gs)) b])++behindG gs bs (restG (S.map (grpB gs)) b.1)=((if manyL (newS S b).2=0 then [] else [newS S b])++behindS bs (restS S b.1)).map (grpB gs)
  rw [new_map,rest_map,behind_map bs,List.map_append]
  have:(grpB gs (newS S b)).n=manyL (newS S b).2:=rfl
  rw [this]
  split <;> rfl
end
theorem key_three (a b:List ByteArray):cmpL a b = -1∨a=b∨cmpL b a = -1:=by
 by_cases e:a=b
 ·exact .inr (.inl e)
 ·by_cases h:cmpL a b = -1
  ·exact .inl h
  ·exact .inr (.inr (cmpL_back h e))
theorem sort_tail {p:BP}{S:List BP}(h:SortK (p::S)):SortK S∧∀ q∈S,cmpL p.1 q.1 = -1:=⟨(List.pairwise_cons.1 h).2,(List.pairwise_cons.1 h).1⟩
theorem less_take {key:List ByteArray}:∀ {S:List BP},∀ p∈S.take (lessS S key),cmpL p.1 key = -1
 | [],p,hp=>absurd hp (by simp)
 | q::S,p,hp=>by
  by_cases hq:cmpL q.1 key = -1
  ·have e:lessS (q::S) key=lessS S key+1:=by
    unfold lessS
    rw [List.takeWhile_cons,if_pos (by simpa using hq)];rfl
   rw [e,List.take_succ_cons] at hp
   rcases List.mem_cons.1 hp with rfl|hp
   ·exact hq
   ·exact less_take p hp
  ·have e:lessS (q::S) key=0:=by
    unfold lessS
    rw [List.takeWhile_cons,if_neg (by simpa using hq)];rfl
   rw [e] at hp
   exact absurd hp (by simp)
theorem less_drop {key:List ByteArray}:∀ {S:List BP},SortK S→∀ p∈S.drop (lessS S key),¬cmpL p.1 key = -1
 | [],_,p,hp=>absurd hp (by simp)
 | q::S,h,p,hp=>by
  obtain ⟨h1,h2⟩:=sort_tail h
  by_cases hq:cmpL q.1 key = -1
  ·have e:lessS (q::S) key=lessS S key+1:=by
    unfold lessS
    rw [List.takeWhile_cons,if_pos (by simpa using hq)];rfl
   rw [e,List.drop_succ_cons] at hp
   exact less_drop h1 p hp
  ·have e:lessS (q::S) key=0:=by
    unfold lessS
    rw [List.takeWhile_cons,if_neg (by simpa using hq)];rfl
   rw [e,List.drop_zero] at hp
   rcases List.mem_cons.1 hp with rfl|hp
   ·exact hq
   ·intro h3
    exact hq (cmpL_chain _ _ _ (h2 p hp) h3)
theorem hitS_none {S:List BP}{key:List ByteArray}(hs:SortK S)(h:hitS S key=none):∀ p∈S,p.1≠key:=by
 intro p hp e
 rcases List.mem_append.1 (by rw [List.take_append_drop (lessS S key) S];exact hp:p∈S.take (lessS S key)++S.drop (lessS S key)) with h1|h1
 ·exact cmpL_irr (less_take p h1) e
 ·cases hd:S.drop (lessS S key) with
  | nil=>rw [hd] at h1;exact absurd h1 (by simp)
  | cons q T =>
   have hq:S[lessS S key]? = some q:=by
    have:=List.getElem?_drop (xs:=S) (i:=lessS S key) (j:=0)
    rw [hd] at this
    exact this.symm
   have hqk:q.1≠key:=by
    intro e2
    unfold hitS at h
    rw [hq] at h
    dsimp only at h
    rw [if_pos e2] at h
    cases h
   have hsd:SortK (q::T):=by rw [←hd];exact hs.sublist (List.drop_sublist _ _)
   rw [hd] at h1
   rcases List.mem_cons.1 h1 with rfl|h1
   ·exact hqk e
   ·have h2:=(sort_tail hsd).2 p h1
    rw [e] at h2
    exact less_drop hs q (by rw [hd];exact List.mem_cons_self ..) h2
theorem splitS_at {S:List BP}(hs:SortK S)(key:List ByteArray):S=S.take (lessS S key)++(hitS S key).toList++restS S key∧(∀ p∈S.take (lessS S key),cmpL p.1 key = -1)∧(∀ p∈restS S key,cmpL key p.1 = -1)∧SortK (restS S key):=by
 have hrs:SortK (restS S key):=hs.sublist (List.drop_sublist _ _)
 cases hh:hitS S key with
 | none =>
  have e:restS S key=S.drop (lessS S key):=by unfold restS;rw [hh];rfl
  refine ⟨by rw [e];simp,less_take,fun p hp=>?_,hrs⟩
  rw [e] at hp
  have h1:=less_drop hs p hp
  have h2:=hitS_none hs hh p (List.mem_of_mem_drop hp)
  rcases key_three p.1 key with h|h|h
  ·exact absurd h h1
  ·exact absurd h h2
  ·exact h
 | some q =>
  have e:restS S key=S.drop (lessS S key+1):=by unfold restS;rw [hh];rfl
  have hq:S[lessS S key]? = some q∧q.1=key:=by
   refine ⟨?_,(hitS_key hh).2⟩
   unfold hitS at hh
   cases hk:S[lessS S key]? with
   | none=>rw [hk] at hh;cases hh
   | some x =>
    rw [hk] at hh
    dsimp only at hh
    split at hh
    ·exact hh
    ·cases hh
  obtain ⟨hlt,hq1⟩:=List.getElem?_eq_some_iff.1 hq.1
  have hd:S.drop (lessS S key)=q::S.drop (lessS S key+1):=by rw [List.drop_eq_getElem_cons hlt,hq1]
  refine ⟨?_,less_take,fun p hp=>?_,hrs⟩
  ·rw [e,List.append_assoc]
   show S=S.take (lessS S key)++(q::S.drop (lessS S key+1))
   rw [←hd,List.take_append_drop]
  ·rw [e] at hp
   have hsd:SortK (q::S.drop (lessS S key+1)):=by rw [←hd];exact hs.sublist (List.drop_sublist _ _)
   have:=(sort_tail hsd).2 p hp
   rw [hq.2] at this
   exact this
theorem look_append (A B:List BP)(k:List ByteArray):lookS (A++B) k=lookS A k++lookS B k:=by unfold lookS;rw [List.filter_append,List.flatMap_append]
theorem look_none {S:List BP}{k:List ByteArray}(h:∀ p∈S,p.1≠k):lookS S k=[]:=by
 unfold lookS
 rw [List.filter_eq_nil_iff.2 fun p hp=>by simpa using h p hp];rfl
theorem look_cons (p:BP)(S:List BP)(k:List ByteArray):lookS (p::S) k=(if p.1=k then p.2 else [])++lookS S k:=by
 unfold lookS
 rw [List.filter_cons]
 by_cases h:p.1=k
 ·rw [if_pos (by simpa using h),if_pos h,List.flatMap_cons]
 ·rw [if_neg (by simpa using h),if_neg h,List.nil_append]
theorem look_mem {S:List BP}(hs:SortK S){p:BP}(hp:p∈S):lookS S p.1=p.2:=by
 induction S with
 | nil=>exact absurd hp (by simp)
 | cons q S ih =>
  obtain ⟨h1,h2⟩:=sort_tail hs
  rw [look_cons]
  rcases List.mem_cons.1 hp with rfl|hp
  ·rw [if_pos rfl,look_none fun r hr=>(cmpL_irr (h2 r hr)).symm,List.append_nil]
  ·rw [if_neg (cmpL_irr (h2 p hp)),List.nil_append,ih h1 hp]
theorem merge_spec:∀ (bs S:List BP),SortK bs→SortK S→SortK (mergeS bs S)∧(∀ k,hasK (mergeS bs S) k↔hasK S k∨hasK bs k)∧∀ k,lookS (mergeS bs S) k=lookS S k++lookS bs k
 | [],S,_,hs=>⟨hs,fun k=>⟨.inl,fun h=>h.elim id fun ⟨p,hp,_⟩=>absurd hp (by simp)⟩,fun k=>by show lookS S k=lookS S k++[];rw [List.append_nil]⟩
 | b::bs,S,hb,hs=>by
  obtain ⟨b1,b2⟩:=sort_tail hb
  obtain ⟨e,f1,f2,f3⟩:=splitS_at hs b.1
  obtain ⟨m1,m2,m3⟩:=merge_spec bs (restS S b.1) b1 f3
  have hnb:(newS S b).1=b.1:=rfl
  have hafter:∀ q∈mergeS bs (restS S b.1),cmpL b.1 q.1 = -1:=fun q hq=>by
   rcases (m2 q.1).1 ⟨q,hq,rfl⟩ with ⟨p,hp,e⟩ | ⟨p,hp,e⟩
   ·rw [←e];exact f2 p hp
   ·rw [←e];exact b2 p hp
  have hst:SortK (S.take (lessS S b.1)):=hs.sublist (List.take_sublist _ _)
  have hlk:lookS (hitS S b.1).toList b.1=((hitS S b.1).map (·.2)).getD []:=by
   cases hh:hitS S b.1 with
   | none=>rfl
   | some p =>
    show lookS [p] b.1=p.2
    rw [look_cons,if_pos (hitS_key hh).2]
    exact List.append_nil _
  have hmm:mergeS (b::bs) S=S.take (lessS S b.1)++newS S b::mergeS bs (restS S b.1):=rfl
  refine ⟨?_,fun k=>?_,fun k=>?_⟩
  ·rw [hmm]
   refine List.pairwise_append.2 ⟨hst,List.pairwise_cons.2 ⟨fun q hq=>by rw [hnb];exact hafter q hq,m1⟩,fun p hp q hq=>?_⟩
   rcases List.mem_cons.1 hq with rfl|hq
   ·exact f1 p hp
   ·exact cmpL_chain _ _ _ (f1 p hp) (hafter q hq)
  ·rw [hmm]
   constructor
   ·rintro ⟨p,hp,rfl⟩
    rcases List.mem_append.1 hp with hp|hp
    ·exact .inl ⟨p,List.mem_of_mem_take hp,rfl⟩
    ·rcases List.mem_cons.1 hp with rfl|hp
     ·exact .inr ⟨b,List.mem_cons_self ..,rfl⟩
     ·rcases (m2 p.1).1 ⟨p,hp,rfl⟩ with ⟨q,hq,e2⟩ | ⟨q,hq,e2⟩
      ·exact .inl ⟨q,List.mem_of_mem_drop hq,e2⟩
      ·exact .inr ⟨q,List.mem_cons_of_mem _ hq,e2⟩
   ·rintro (⟨p,hp,rfl⟩ | ⟨p,hp,rfl⟩)
    ·rw [e] at hp
     rcases List.mem_append.1 hp with hp|hp
     ·rcases List.mem_append.1 hp with hp|hp
      ·exact ⟨p,List.mem_append_left _ hp,rfl⟩
      ·refine ⟨newS S b,List.mem_append_right _ (List.mem_cons_self ..),?_⟩
       cases hh:hitS S b.1 with
       | none=>rw [hh] at hp;exact absurd hp (by simp)
       | some x =>
        rw [hh] at hp
        rw [List.mem_singleton.1 hp,(hitS_key hh).2];rfl
     ·obtain ⟨q,hq,e2⟩:=(m2 p.1).2 (.inl ⟨p,hp,rfl⟩)
      exact ⟨q,List.mem_append_right _ (List.mem_cons_of_mem _ hq),e2⟩
    ·rcases List.mem_cons.1 hp with rfl|hp
     ·exact ⟨newS S p,List.mem_append_right _ (List.mem_cons_self ..),rfl⟩
     ·obtain ⟨q,hq,e2⟩:=(m2 p.1).2 (.inr ⟨p,hp,rfl⟩)
      exact ⟨q,List.mem_append_right _ (List.mem_cons_of_mem _ hq),e2⟩
  ·rw [hmm,look_append,look_cons,m3,look_cons (p:=b)]
   conv=>rhs;rw [e]
   rw [look_append,look_append,hnb]
   by_cases hk:b.1=k
   ·subst hk
    rw [if_pos rfl,if_pos rfl,hlk,look_none (S:=restS S b.1) fun p hp=>(cmpL_irr (f2 p hp)).symm,look_none (S:=bs) fun p hp=>(cmpL_irr (b2 p hp)).symm]
    unfold newS
    simp
   ·rw [if_neg hk,if_neg hk,look_none (S:=(hitS S b.1).toList) fun p hp=>?_]
    ·simp
    ·cases hh:hitS S b.1 with
     | none=>rw [hh] at hp;exact absurd hp (by simp)
     | some x =>
      rw [hh] at hp
      rw [List.mem_singleton.1 hp,(hitS_key hh).2];exact hk
theorem step_fact {acc:List BP}{b:BP}(ha:SortK acc)(hx:∀ x∈acc,¬cmpL b.1 x.1 = -1) :
  SortK (stepB acc b)∧(∀ k,lookS (stepB acc b) k=lookS acc k++(if b.1=k then b.2 else []))∧∀ k,hasK (stepB acc b) k↔hasK acc k∨b.1=k:=by
 rcases List.eq_nil_or_concat acc with rfl | ⟨a,t,rfl⟩
 ·rw [stepB_nil]
  refine ⟨List.pairwise_cons.2 ⟨fun _ h=>absurd h (by simp),.nil⟩,fun k=>?_,fun k=>?_⟩
  ·rw [look_cons];simp [lookS]
  ·simp [hasK]
 ·rw [List.concat_eq_append] at ha hx ⊢
  have hat:=List.pairwise_append.1 ha
  by_cases e:t.1=b.1
  ·rw [stepB_same a t b e]
   refine ⟨List.pairwise_append.2 ⟨hat.1,List.pairwise_cons.2 ⟨fun _ h=>absurd h (by simp),.nil⟩,fun p hp q hq=>?_⟩,fun k=>?_,fun k=>?_⟩
   ·rw [List.mem_singleton.1 hq]
    exact hat.2.2 p hp t (List.mem_singleton.2 rfl)
   ·rw [look_append,look_append,look_cons,look_cons,←e]
    by_cases hk:t.1=k
    ·rw [if_pos hk,if_pos hk,if_pos hk];simp [lookS]
    ·rw [if_neg hk,if_neg hk,if_neg hk];simp [lookS]
   ·unfold hasK
    constructor
    ·rintro ⟨p,hp,rfl⟩
     rcases List.mem_append.1 hp with hp|hp
     ·exact .inl ⟨p,List.mem_append_left _ hp,rfl⟩
     ·rw [List.mem_singleton.1 hp];exact .inr e.symm
    ·rintro (⟨p,hp,rfl⟩|rfl)
     ·rcases List.mem_append.1 hp with hp|hp
      ·exact ⟨p,List.mem_append_left _ hp,rfl⟩
      ·rw [List.mem_singleton.1 hp]
       exact ⟨_,List.mem_append_right _ (List.mem_singleton.2 rfl),rfl⟩
     ·exact ⟨_,List.mem_append_right _ (List.mem_singleton.2 rfl),e⟩
  ·rw [stepB_new a t b e]
   have hb:∀ x∈a++[t],cmpL x.1 b.1 = -1:=by
    have ht:cmpL t.1 b.1 = -1:=by
     rcases key_three t.1 b.1 with h|h|h
     ·exact h
     ·exact absurd h e
     ·exact absurd h (hx t (List.mem_append_right _ (List.mem_singleton.2 rfl)))
    intro x hxm
    rcases List.mem_append.1 hxm with h|h
    ·exact cmpL_chain _ _ _ (hat.2.2 x h t (List.mem_singleton.2 rfl)) ht
    ·rw [List.mem_singleton.1 h];exact ht
   refine ⟨List.pairwise_append.2 ⟨ha,List.pairwise_cons.2 ⟨fun _ h=>absurd h (by simp),.nil⟩,fun p hp q hq=>?_⟩,fun k=>?_,fun k=>?_⟩
   ·rw [List.mem_singleton.1 hq];exact hb p hp
   ·rw [look_append _ [b],look_cons];simp [lookS]
   ·unfold hasK
    constructor
    ·rintro ⟨p,hp,rfl⟩
     rcases List.mem_append.1 hp with hp|hp
     ·exact .inl ⟨p,hp,rfl⟩
     ·rw [List.mem_singleton.1 hp];exact .inr rfl
    ·rintro (⟨p,hp,rfl⟩|rfl)
     ·exact ⟨p,List.mem_append_left _ hp,rfl⟩
     ·exact ⟨b,List.mem_append_right _ (List.mem_singleton.2 rfl),rfl⟩
theorem join_fold:∀ (E acc:List BP),SortK acc→E.Pairwise (fun a b=>¬cmpL b.1 a.1 = -1)→(∀ x∈acc,∀ b∈E,¬cmpL b.1 x.1 = -1) →
  SortK (E.foldl stepB acc)∧(∀ k,lookS (E.foldl stepB acc) k=lookS acc k++lookS E k)∧∀ k,hasK (E.foldl stepB acc) k↔hasK acc k∨hasK E k
 | [],acc,ha,_,_=>⟨ha,fun k=>by show lookS acc k=lookS acc k++[];rw [List.append_nil],fun k=>⟨.inl,fun h=>h.elim id fun ⟨p,hp,_⟩=>absurd hp (by simp)⟩⟩
 | b::E,acc,ha,hE,hx=>by
  obtain ⟨p1,p2⟩:=List.pairwise_cons.1 hE
  obtain ⟨s1,s2,s3⟩:=step_fact ha fun x hm=>hx x hm b (List.mem_cons_self ..)
  obtain ⟨f1,f2,f3⟩:=join_fold E (stepB acc b) s1 p2 fun x hm c hc=>by
   rcases stepB_keys acc b x hm with ⟨y,hy,e⟩|e
   ·rw [←e];exact hx y hy c (List.mem_cons_of_mem _ hc)
   ·rw [e];exact p1 c hc
  rw [List.foldl_cons]
  refine ⟨f1,fun k=>?_,fun k=>?_⟩
  ·rw [f2,s2,look_cons,List.append_assoc]
  ·rw [f3,s3]
   unfold hasK
   constructor
   ·rintro ((h|h) | ⟨p,hp,e⟩)
    ·exact .inl h
    ·exact .inr ⟨b,List.mem_cons_self ..,h⟩
    ·exact .inr ⟨p,List.mem_cons_of_mem _ hp,e⟩
   ·rintro (h | ⟨p,hp,e⟩)
    ·exact .inl (.inl h)
    ·rcases List.mem_cons.1 hp with rfl|hp
     ·exact .inl (.inr e)
     ·exact .inr ⟨p,hp,e⟩
theorem join_sort {E:List BP}(hE:E.Pairwise (fun a b=>¬cmpL b.1 a.1 = -1)):SortK (joinB E):=(join_fold E [] .nil hE fun x hx=>absurd hx (by simp)).1
theorem join_look {E:List BP}(hE:E.Pairwise (fun a b=>¬cmpL b.1 a.1 = -1))(k:List ByteArray):lookS (joinB E) k=lookS E k:=by
 have:=(join_fold E [] .nil hE fun x hx=>absurd hx (by simp)).2.1 k
 unfold joinB;rw [this];rfl
def rowsK (by_:List Int)(l:List Tm)(k:List ByteArray):List Tm:=ofKey by_ k (okL by_ l)
theorem rowsK_append (by_:List Int)(a b:List Tm)(k:List ByteArray):rowsK by_ (a++b) k=rowsK by_ a k++rowsK by_ b k:=by unfold rowsK okL ofKey;rw [List.filter_append,List.filter_append]
theorem look_each (by_:List Int)(l:List Tm)(k:List ByteArray):lookS (eachB by_ l) k=rowsK by_ l k:=by
 unfold eachB rowsK ofKey
 induction okL by_ l with
 | nil=>rfl
 | cons x t ih =>
  rw [List.map_cons,look_cons,ih,List.filter_cons]
  by_cases h:keyT by_ x=k
  ·rw [if_pos h,if_pos (by simpa using h)];rfl
  ·rw [if_neg h,if_neg (by simpa using h)];rfl
theorem look_perm {A B:List BP}(h:A.Perm B)(k:List ByteArray):(lookS A k).Perm (lookS B k):=flat_perm (h.filter _)
theorem cnt_rowsK (by_:List Int)(l:List Tm)(k r:List ByteArray):cntW (rowsK by_ l k) r=if pickOk r by_=true∧pickF r by_=k then cntW l r else 0:=by
 induction l with
 | nil=>simp [rowsK,okL,ofKey,cntW]
 | cons x l ih =>
  have e:rowsK by_ (x::l) k=rowsK by_ [x] k++rowsK by_ l k:=rowsK_append by_ [x] l k
  rw [e,cntW_append,ih]
  have h1:cntW (rowsK by_ [x] k) r=if x.1=r then (if pickOk r by_=true∧pickF r by_=k then x.2 else 0) else 0:=by
   unfold rowsK okL ofKey
   rw [List.filter_cons]
   by_cases h2:pickOk x.1 by_=true
   ·rw [if_pos h2,List.filter_nil,List.filter_cons]
    by_cases h3:keyT by_ x=k
    ·rw [if_pos (by simpa using h3)]
     simp only [List.filter_nil,cntW]
     by_cases h4:x.1=r
     ·subst h4
      rw [if_pos rfl,if_pos rfl,if_pos ⟨h2,h3⟩];omega
     ·rw [if_neg h4,if_neg h4];rfl
    ·rw [if_neg (by simpa using h3)]
     by_cases h4:x.1=r
     ·subst h4
      rw [if_pos rfl,if_neg (fun h=>h3 h.2)];rfl
     ·rw [if_neg h4];rfl
   ·rw [if_neg h2]
    by_cases h4:x.1=r
    ·subst h4
     rw [if_pos rfl,if_neg (fun h=>h2 h.1)];rfl
    ·rw [if_neg h4];rfl
  rw [h1]
  simp only [cntW]
  split <;> split <;> omega
theorem same_rowsK {a b:List Tm}(h:SameC a b)(by_:List Int)(k:List ByteArray):SameC (rowsK by_ a k) (rowsK by_ b k):=fun r=>by rw [cnt_rowsK,cnt_rowsK,h r]
theorem SameC.symm {a b:List Tm}(h:SameC a b):SameC b a:=fun r=>(h r).symm
theorem SameC.trans {a b c:List Tm}(h:SameC a b)(h2:SameC b c):SameC a c:=fun r=>(h r).trans (h2 r)
theorem SameC.append {a b c d:List Tm}(h:SameC a b)(h2:SameC c d):SameC (a++c) (b++d):=fun r=>by rw [cntW_append,cntW_append,h r,h2 r]
theorem SameC.many {a b:List Tm}(h:SameC a b):manyL a=manyL b:=same_lin h _
theorem none_of {l:List Tm}(h:∀ r,0≤cntW l r)(h0:manyL l=0):SameC l []:=by
 have hR:=of_right l
 have e:manyL (ofW l)=0:=by
  rw [←h0];exact linI_of _ l
 have hp:∀ t∈ofW l,0 < t.2:=fun t ht=>by
  have h1:=cnt_mem hR ht
  rw [cnt_of] at h1
  have h2:=h t.1
  have h3:=hR.2 t ht
  omega
 have hn:∀ m:List Tm,(∀ t∈m,0 < t.2)→manyL m=0→m=[]:=by
  have hge:∀ m:List Tm,(∀ t∈m,0 < t.2)→0≤manyL m:=by
   intro m hm
   induction m with
   | nil=>exact Int.le_refl _
   | cons x m ih =>
    rw [gmany_cons]
    have:=hm x (List.mem_cons_self ..)
    have:=ih fun t ht=>hm t (List.mem_cons_of_mem _ ht)
    omega
  intro m hm e
  cases m with
  | nil=>rfl
  | cons x m =>
   rw [gmany_cons] at e
   have:=hm x (List.mem_cons_self ..)
   have:=hge m fun t ht=>hm t (List.mem_cons_of_mem _ ht)
   omega
 have h4:=hn _ hp e
 intro r
 rw [←cnt_of,h4]
def liveS (M:List BP):List BP:=M.filter fun p=>!(manyL p.2==0)
def nextS (E S:List BP):List BP:=liveS (mergeS (joinB E) S)
theorem next_map (gs:List (Int×Int))(E S:List BP):((mergeG gs (joinB E) (S.map (grpB gs))).filter fun g=>!(g.n==0))=(nextS E S).map (grpB gs):=by
 rw [merge_map,List.filter_map];rfl
theorem live_mem {M:List BP}{p:BP}:p∈liveS M↔p∈M∧manyL p.2≠0:=by unfold liveS;rw [List.mem_filter];simp
theorem live_sort {M:List BP}(h:SortK M):SortK (liveS M):=h.sublist List.filter_sublist
theorem live_look {M:List BP}(h:SortK M)(k:List ByteArray):lookS (liveS M) k=if manyL (lookS M k)=0 then [] else lookS M k:=by
 by_cases hk:hasK M k
 ·obtain ⟨p,hp,rfl⟩:=hk
  have e:=look_mem h hp
  rw [e]
  by_cases h0:manyL p.2=0
  ·rw [if_pos h0]
   refine look_none fun q hq e2=>?_
   obtain ⟨q1,q2⟩:=live_mem.1 hq
   have e3:=look_mem h q1
   rw [e2,e] at e3
   rw [←e3] at q2
   exact q2 h0
  ·rw [if_neg h0]
   exact look_mem (live_sort h) (live_mem.2 ⟨hp,h0⟩)
 ·have e:lookS M k=[]:=look_none fun p hp e=>hk ⟨p,hp,e⟩
  have e2:lookS (liveS M) k=[]:=look_none fun p hp e=>hk ⟨p,(live_mem.1 hp).1,e⟩
  rw [e,e2];exact (if_pos rfl).symm
structure Holds (by_:List Int) (S:List BP) (R:List Tm):Prop where
 sort:SortK S
 live:∀ p∈S,manyL p.2≠0
 same:∀ k,SameC (lookS S k) (rowsK by_ R k)
theorem Holds.nil_ (by_:List Int):Holds by_ [] []:=⟨.nil,fun _ h=>absurd h (by simp),fun _ _=>rfl⟩
theorem Holds.has {by_:List Int}{S:List BP}{R:List Tm}(h:Holds by_ S R)(k:List ByteArray):hasK S k↔manyL (rowsK by_ R k)≠0:=by
 rw [←(h.same k).many]
 constructor
 ·rintro ⟨p,hp,rfl⟩
  rw [look_mem h.sort hp];exact h.live p hp
 ·intro hn
  by_cases hk:hasK S k
  ·exact hk
  ·rw [look_none fun p hp e=>hk ⟨p,hp,e⟩] at hn
   exact absurd rfl hn
theorem merged {by_:List Int}{S E:List BP}{R more:List Tm}(h:Holds by_ S R)(hp:E.Perm (eachB by_ more))(hE:E.Pairwise fun a b=>¬cmpL b.1 a.1 = -1) :
  SortK (mergeS (joinB E) S)∧∀ k,SameC (lookS (mergeS (joinB E) S) k) (rowsK by_ (R++more) k):=by
 obtain ⟨m1,_,m3⟩:=merge_spec (joinB E) S (join_sort hE) h.sort
 refine ⟨m1,fun k=>?_⟩
 rw [m3,rowsK_append,join_look hE]
 exact (h.same k).append (cntG_perm ((look_perm hp k).trans (by rw [look_each])))
theorem Holds.next {by_:List Int}{S E:List BP}{R more:List Tm}(h:Holds by_ S R)(hp:E.Perm (eachB by_ more))(hE:E.Pairwise fun a b=>¬cmpL b.1 a.1 = -1)(hw:∀ r,0≤cntW (R++more) r):Holds by_ (nextS E S) (R++more):=by
 obtain ⟨m1,m2⟩:=merged h hp hE
 refine ⟨live_sort m1,fun p hp=>(live_mem.1 hp).2,fun k=>?_⟩
 unfold nextS
 rw [live_look m1]
 split
 ·rename_i h0
  rw [(m2 k).many] at h0
  refine (none_of (fun r=>?_) h0).symm
  rw [cnt_rowsK]
  split
  ·exact hw r
  ·exact Int.le_refl _
 ·exact m2 k
theorem merge_perm:∀ (bs S:List BP),SortK S→((mergeS bs S).flatMap (·.2)).Perm (S.flatMap (·.2)++bs.flatMap (·.2))
 | [],S,_=>by show (S.flatMap (·.2)).Perm (S.flatMap (·.2)++[]);rw [List.append_nil]
 | b::bs,S,hs=>by
  obtain ⟨e,_,_,f3⟩:=splitS_at hs b.1
  have ih:=merge_perm bs (restS S b.1) f3
  have hmm:mergeS (b::bs) S=S.take (lessS S b.1)++newS S b::mergeS bs (restS S b.1):=rfl
  have hh:((hitS S b.1).map (·.2)).getD []=(hitS S b.1).toList.flatMap (·.2):=by cases hitS S b.1 <;> simp
  have hn:(newS S b).2=(hitS S b.1).toList.flatMap (·.2)++b.2:=by rw [←hh];rfl
  rw [hmm,List.flatMap_append,List.flatMap_cons,hn]
  conv=>rhs;rw [e]
  rw [List.flatMap_append,List.flatMap_append,List.flatMap_cons]
  generalize (S.take (lessS S b.1)).flatMap (·.2)=A at *
  generalize (hitS S b.1).toList.flatMap (·.2)=H at *
  generalize (restS S b.1).flatMap (·.2)=C at *
  generalize (mergeS bs (restS S b.1)).flatMap (·.2)=M at *
  generalize bs.flatMap (·.2)=D at *
  have h1:((H++b.2)++M).Perm ((H++b.2)++(C++D)):=ih.append_left _
  have h2:((H++b.2)++(C++D)).Perm (H++(C++(b.2++D))):=by
   rw [List.append_assoc]
   refine List.Perm.append_left _ ?_
   rw [←List.append_assoc,←List.append_assoc]
   exact List.perm_append_comm.append_right _
  have h3:=(h1.trans h2).append_left A
  simpa [List.append_assoc] using h3
theorem live_sub (M:List BP):((liveS M).flatMap (·.2)).Sublist (M.flatMap (·.2)):=by
 induction M with
 | nil=>exact .slnil
 | cons p M ih =>
  unfold liveS at *
  rw [List.filter_cons,List.flatMap_cons]
  split
  ·rw [List.flatMap_cons];exact ih.append_left _
  ·exact ih.trans (List.sublist_append_right _ _)
theorem wt_sublist {a b:List Tm}(h:a.Sublist b):wtW a≤wtW b:=by
 induction h with
 | slnil=>exact Nat.le_refl _
 | cons x _ ih=>simp only [wtW];omega
 | cons_cons x _ ih=>simp only [wtW];omega
theorem next_perm {by_:List Int}{S E:List BP}{more:List Tm}(hs:SortK S)(hp:E.Perm (eachB by_ more)):((mergeS (joinB E) S).flatMap (·.2)).Perm (S.flatMap (·.2)++okL by_ more):=by
 refine (merge_perm _ _ hs).trans (List.Perm.append_left _ ?_)
 rw [joinB_flat,←each_flat]
 exact flat_perm hp
structure FitS (by_:List Int) (n W:Nat) (S:List BP):Prop where
 sort:SortK S
 live:∀ p∈S,manyL p.2≠0
 keys:∀ p∈S,p.1.length=by_.length
 len:(S.flatMap (·.2)).length≤n
 wt:wtW (S.flatMap (·.2))≤W
theorem FitS.nil_ (by_:List Int):FitS by_ 0 0 []:=⟨.nil,fun _ h=>absurd h (by simp),fun _ h=>absurd h (by simp),Nat.le_refl _,Nat.le_refl _⟩
theorem FitS.next {by_:List Int}{n W:Nat}{S E:List BP}{more:List Tm}(h:FitS by_ n W S)(hp:E.Perm (eachB by_ more))(hE:E.Pairwise fun a b=>¬cmpL b.1 a.1 = -1):FitS by_ (n+more.length) (W+wtW more) (nextS E S):=by
 obtain ⟨m1,m2,_⟩:=merge_spec (joinB E) S (join_sort hE) h.sort
 have hpm:=next_perm h.sort hp
 refine ⟨live_sort m1,fun p hp=>(live_mem.1 hp).2,fun p hq=>?_,?_,?_⟩
 ·rcases (m2 p.1).1 ⟨p,(live_mem.1 hq).1,rfl⟩ with ⟨q,hq,e⟩ | ⟨q,hq,e⟩
  ·rw [←e];exact h.keys q hq
  ·obtain ⟨y,hy,e2⟩:=joinB_keys E q hq
   obtain ⟨x,_,rfl⟩:=List.mem_map.1 (hp.mem_iff.1 hy)
   rw [←e,←e2]
   exact pickF_length _ _
 ·have h1:=(live_sub (mergeS (joinB E) S)).length_le
  rw [hpm.length_eq,List.length_append] at h1
  have:=okL_lengthG by_ more
  have:=h.len
  unfold nextS
  omega
 ·have h1:=wt_sublist (live_sub (mergeS (joinB E) S))
  rw [wt_perm2 hpm,wtW_append] at h1
  have:=ok_wt by_ more
  have:=h.wt
  unfold nextS
  omega
theorem FitS.count {by_:List Int}{n W:Nat}{S:List BP}(h:FitS by_ n W S):S.length≤n:=by
 refine Nat.le_trans ?_ h.len
 have hl:=h.live
 clear h
 induction S with
 | nil=>exact Nat.le_refl _
 | cons p S ih =>
  rw [List.flatMap_cons,List.length_append,List.length_cons]
  have h1:=ih fun q hq=>hl q (List.mem_cons_of_mem _ hq)
  have h2:0 < p.2.length:=by
   cases hp:p.2 with
   | nil=>exact absurd (by rw [hp];rfl) (hl p (List.mem_cons_self ..))
   | cons x t=>simp
  omega
theorem fit_part (a:Int×Int){l:List Tm}(hl:l.length≤100000)(hw:wtW l≤1152921504606846976):FitP (partW part0 a l):=by
 have h1:=gcells_length a.2 l
 have h2:=gcells_wt a.2 l
 have h3:=gmany_le (cellsL a.2 l)
 unfold partW
 split
 ·exact fit_zero
 ·split
  ·unfold part0
   dsimp only
   refine ⟨by dsimp only;omega,?_,?_,fun t ht=>?_⟩
   ·have:=sum_length [] (cellsL a.2 l)
    simp only [List.length_nil] at this
    dsimp only
    omega
   ·have:=wt_sum [] (cellsL a.2 l)
    simp only [wtW] at this
    dsimp only
    omega
   ·dsimp only at ht
    rw [sum_of_append,List.nil_append] at ht
    obtain ⟨u,hu,e⟩:=mem_of ht
    rw [←e,gcells_one a.2 l u hu];decide
  ·unfold part0
   dsimp only
   refine ⟨by dsimp only;omega,by simp,by simp [wtW],fun t ht=>absurd ht (by simp)⟩
theorem fit_grp (k:List ByteArray)(gs:List (Int×Int)){l:List Tm}(hk:k.length≤1000000)(hl:l.length≤100000)(hw:wtW l≤1152921504606846976):FitG (grpL k gs l):=by
 have h3:=gmany_le l
 refine ⟨by show (manyL l).natAbs≤_;omega,hk,fun p hp=>?_⟩
 obtain ⟨a,_,rfl⟩:=List.mem_map.1 hp
 exact fit_part a hl hw
theorem FitS.fit {by_:List Int}{n W:Nat}{S:List BP}(h:FitS by_ n W S)(hn:n≤100000)(hW:W≤1152921504606846976)(hb:by_.length≤4)(gs:List (Int×Int))(hg:gs.length≤4):∀ g∈S.map (grpB gs),FitG g∧g.parts.length≤1000000∧g.key.length+gs.length≤1000000:=fun g hg2=>by
 obtain ⟨p,hp,rfl⟩:=List.mem_map.1 hg2
 have hk:=h.keys p hp
 have h1:=mem_flat_le hp
 have h2:=wt_sub hp
 have:=h.len
 have:=h.wt
 refine ⟨fit_grp p.1 gs (by omega) (by omega) (by omega),?_,?_⟩
 ·show (gs.map _).length≤_
  rw [List.length_map];omega
 ·show p.1.length+_≤_
  omega
theorem sort_right {S:List BP}(h:SortK S)(gs:List (Int×Int)):RightK (S.map (grpB gs)):=List.pairwise_map.2 h
theorem short_grp (g:GroupP)(h:FitG g):g.key.length≤1000000∧∀ p∈g.parts,p.cells.length≤1000000∧∀ t∈p.cells,t.1.length≤1000000:=⟨h.2.1,fun p hp=>⟨Nat.le_trans (h.2.2 p hp).2.1 (by decide),(h.2.2 p hp).2.2.2⟩⟩
theorem join_one {E:List BP}{k:List ByteArray}(hE:E.Pairwise fun a b=>¬cmpL b.1 a.1 = -1)(hk:∀ b∈E,b.1=k)(hn:E≠[]):joinB E=[(k,E.flatMap (·.2))]:=by
 have hs:=join_sort hE
 have hkj:∀ x∈joinB E,x.1=k:=fun x hx=>by
  obtain ⟨y,hy,e⟩:=joinB_keys E x hx
  rw [←e];exact hk y hy
 have hf:=joinB_flat E
 have hne:joinB E≠[]:=fun e=>by
  obtain ⟨b,hb⟩:=List.exists_mem_of_ne_nil E hn
  obtain ⟨p,hp,_⟩:=((join_fold E [] .nil hE fun x hx=>absurd hx (by simp)).2.2 b.1).2 (.inr ⟨b,hb,rfl⟩)
  change p∈joinB E at hp
  rw [e] at hp
  exact absurd hp (by simp)
 generalize joinB E=J at *
 match J,hne with
 | x::J,_ =>
  obtain ⟨h1,h2⟩:=sort_tail hs
  have hJ:J=[]:=by
   cases J with
   | nil=>rfl
   | cons y J =>
    have h3:=h2 y (List.mem_cons_self ..)
    rw [hkj x (List.mem_cons_self ..),hkj y (List.mem_cons_of_mem _ (List.mem_cons_self ..))] at h3
    exact absurd rfl (cmpL_irr h3)
  subst hJ
  rw [←hf,←hkj x (List.mem_cons_self ..)]
  simp
theorem change_one {w w':World}{lv:Value}{l:List GroupP}{by_:List Int}{gs:List (Int×Int)}{more:List Tm}{e:Ending}{k:List ByteArray}(h:ChangeEnd w lv l by_ gs more e w')(hk:∀ x∈more,pickOk x.1 by_=true∧keyT by_ x=k)(hne:more≠[]) :
  ∃ R:List Tm,SameC R more∧Below w.heap.size w w'∧match toldP gs (-1) (aheadG [(k,R)] l),toldP gs 1 (behindG gs [(k,R)] l) with
  | some go,some co=>∃ gv rv,e=.returned (.tuple #[gv,rv,.int .i64 1,.int .i64 0])∧groupK.In (fun _=>True) w' gv ((mergeG gs [(k,R)] l).filter fun g=>!(g.n==0))∧TimesIn w' rv (sumW go co)
  | _,_=>e=.returned (.tuple #[lv,.slice none 0 0,.int .i64 0,.int .i64 7]):=by
 obtain ⟨E,hp,hE,hb,hm⟩:=h
 have hok:okL by_ more=more:=List.filter_eq_self.2 fun x hx=>(hk x hx).1
 have hkE:∀ b∈E,b.1=k:=fun b hbm=>by
  obtain ⟨x,hx,rfl⟩:=List.mem_map.1 (hp.mem_iff.1 hbm)
  rw [hok] at hx
  exact (hk x hx).2
 have hnE:E≠[]:=fun e=>by
  subst e
  have h1:=hp.length_eq
  unfold eachB at h1
  rw [hok,List.length_map,List.length_nil] at h1
  exact hne (List.eq_nil_of_length_eq_zero h1.symm)
 rw [join_one hE hkE hnE] at hm
 refine ⟨E.flatMap (·.2),?_,hb,hm⟩
 have h1:=cntG_perm (flat_perm hp)
 rw [each_flat,hok] at h1
 exact h1
theorem cmp_self (k:List ByteArray):¬cmpL k k = -1:=fun h=>cmpL_irr h rfl
theorem oneG_new (gs:List (Int×Int))(k:List ByteArray){R m:List Tm}(h:SameC R m):newG gs [] (k,R)=grpL k gs m:=by
 have h1:newG gs [] (k,R)=withG (bareG k) gs R:=rfl
 rw [h1]
 exact (with_is (g:=bareG k) (bare_is k gs) R).trans (same_grp h k gs)
theorem oneG_hit (gs:List (Int×Int))(k:List ByteArray)(L:List Tm):lessN [grpL k gs L] k=0∧hitG [grpL k gs L] k=some (grpL k gs L):=by
 have h0:lessN [grpL k gs L] k=0:=by
  unfold lessN
  rw [List.takeWhile_cons,if_neg]
  ·rfl
  ·have:(grpL k gs L).key=k:=rfl
   rw [this];simpa using cmp_self k
 refine ⟨h0,?_⟩
 unfold hitG
 rw [h0]
 exact if_pos rfl
theorem oneG_more (gs:List (Int×Int))(k:List ByteArray)(L:List Tm){R m:List Tm}(h:SameC R m):newG gs [grpL k gs L] (k,R)=grpL k gs (L++m):=by
 have h1:newG gs [grpL k gs L] (k,R)=withG ((hitG [grpL k gs L] k).getD (bareG k)) gs R:=rfl
 rw [h1,(oneG_hit gs k L).2]
 show withG (grpL k gs L) gs R=_
 rw [with_is (grp_is k gs L) R]
 exact same_grp (SameC.append (fun _=>rfl) h) k gs
theorem change_new {w w':World}{lv:Value}{by_:List Int}{gs:List (Int×Int)}{more:List Tm}{e:Ending}{k row:List ByteArray}(h:ChangeEnd w lv [] by_ gs more e w')(hk:∀ x∈more,pickOk x.1 by_=true∧keyT by_ x=k)(hne:more≠[])(hn:manyL more≠0)(hr:rowG gs (grpL k gs more)=some row) :
  ∃ gv rv,e=.returned (.tuple #[gv,rv,.int .i64 1,.int .i64 0])∧groupK.In (fun _=>True) w' gv [grpL k gs more]∧TimesIn w' rv (sumW [] [(row,1)])∧Below w.heap.size w w':=by
 obtain ⟨R,hR,hb,hm⟩:=change_one h hk hne
 have hnew:=oneG_new gs k hR
 have hgn:(grpL k gs more).n=manyL more:=rfl
 have e1:aheadG [(k,R)] []=[]:=rfl
 have e2:behindG gs [(k,R)] []=[grpL k gs more]:=by
  show (if (newG gs [] (k,R)).n=0 then [] else [newG gs [] (k,R)])++[]=_
  rw [hnew,hgn,if_neg hn];rfl
 have e3:mergeG gs [(k,R)] []=[grpL k gs more]:=by
  show [].take _++newG gs [] (k,R)::[]=_
  rw [hnew];simp
 have t2:toldP gs 1 [grpL k gs more]=some [(row,1)]:=by
  show (match rowG gs (grpL k gs more) with|none=>none|some r=>(toldP gs 1 []).map ((r,(1:Int))::·))=_
  rw [hr];rfl
 rw [e1,e2,e3,t2] at hm
 have t1:toldP gs (-1) []=some []:=rfl
 rw [t1] at hm
 obtain ⟨gv,rv,rfl,h1,h2⟩:=hm
 rw [show [grpL k gs more].filter (fun g=>!(g.n==0))=[grpL k gs more] by rw [List.filter_cons,if_pos (by rw [hgn];simpa using hn)];rfl] at h1
 exact ⟨gv,rv,rfl,h1,h2,hb⟩
theorem change_more {w w':World}{lv:Value}{by_:List Int}{gs:List (Int×Int)}{L more:List Tm}{e:Ending}{k was row:List ByteArray}(h:ChangeEnd w lv [grpL k gs L] by_ gs more e w')(hk:∀ x∈more,pickOk x.1 by_=true∧keyT by_ x=k)(hne:more≠[])(hw:rowG gs (grpL k gs L)=some was)(hn:manyL (L++more)≠0)(hr:rowG gs (grpL k gs (L++more))=some row) :
  ∃ gv rv,e=.returned (.tuple #[gv,rv,.int .i64 1,.int .i64 0])∧groupK.In (fun _=>True) w' gv [grpL k gs (L++more)]∧TimesIn w' rv (sumW [(was,-1)] [(row,1)])∧Below w.heap.size w w':=by
 obtain ⟨R,hR,hb,hm⟩:=change_one h hk hne
 obtain ⟨h0,hh⟩:=oneG_hit gs k L
 have hnew:=oneG_more gs k L hR
 have hgn:(grpL k gs (L++more)).n=manyL (L++more):=rfl
 have e0:restG [grpL k gs L] k=[]:=by unfold restG;rw [hh,h0];rfl
 have e1:aheadG [(k,R)] [grpL k gs L]=[grpL k gs L]:=by
  show (hitG [grpL k gs L] k).toList++[]=_
  rw [hh];rfl
 have e2:behindG gs [(k,R)] [grpL k gs L]=[grpL k gs (L++more)]:=by
  show (if (newG gs [grpL k gs L] (k,R)).n=0 then [] else [newG gs [grpL k gs L] (k,R)])++[]=_
  rw [hnew,hgn,if_neg hn];rfl
 have e3:mergeG gs [(k,R)] [grpL k gs L]=[grpL k gs (L++more)]:=by
  show [grpL k gs L].take (lessN [grpL k gs L] k)++newG gs [grpL k gs L] (k,R)::mergeG gs [] (restG [grpL k gs L] k)=_
  rw [hnew,h0,e0];rfl
 have t1:toldP gs (-1) [grpL k gs L]=some [(was,-1)]:=by
  show (match rowG gs (grpL k gs L) with|none=>none|some r=>(toldP gs (-1) []).map ((r,(-1:Int))::·))=_
  rw [hw];rfl
 have t2:toldP gs 1 [grpL k gs (L++more)]=some [(row,1)]:=by
  show (match rowG gs (grpL k gs (L++more)) with|none=>none|some r=>(toldP gs 1 []).map ((r,(1:Int))::·))=_
  rw [hr];rfl
 rw [e1,e2,e3,t1,t2] at hm
 obtain ⟨gv,rv,rfl,h1,h2⟩:=hm
 rw [show [grpL k gs (L++more)].filter (fun g=>!(g.n==0))=[grpL k gs (L++more)] by rw [List.filter_cons,if_pos (by rw [hgn];simpa using hn)];rfl] at h1
 exact ⟨gv,rv,rfl,h1,h2,hb⟩
theorem change_gone {w w':World}{lv:Value}{by_:List Int}{gs:List (Int×Int)}{L more:List Tm}{e:Ending}{k was:List ByteArray}(h:ChangeEnd w lv [grpL k gs L] by_ gs more e w')(hk:∀ x∈more,pickOk x.1 by_=true∧keyT by_ x=k)(hne:more≠[])(hw:rowG gs (grpL k gs L)=some was)(hn:manyL (L++more)=0) :
  ∃ gv rv,e=.returned (.tuple #[gv,rv,.int .i64 1,.int .i64 0])∧groupK.In (fun _=>True) w' gv []∧TimesIn w' rv (sumW [(was,-1)] [])∧Below w.heap.size w w':=by
 obtain ⟨R,hR,hb,hm⟩:=change_one h hk hne
 obtain ⟨h0,hh⟩:=oneG_hit gs k L
 have hnew:=oneG_more gs k L hR
 have hgn:(grpL k gs (L++more)).n=manyL (L++more):=rfl
 have e0:restG [grpL k gs L] k=[]:=by unfold restG;rw [hh,h0];rfl
 have e1:aheadG [(k,R)] [grpL k gs L]=[grpL k gs L]:=by
  show (hitG [grpL k gs L] k).toList++[]=_
  rw [hh];rfl
 have e2:behindG gs [(k,R)] [grpL k gs L]=[]:=by
  show (if (newG gs [grpL k gs L] (k,R)).n=0 then [] else [newG gs [grpL k gs L] (k,R)])++[]=_
  rw [hnew,hgn,if_pos hn];rfl
 have e3:mergeG gs [(k,R)] [grpL k gs L]=[grpL k gs (L++more)]:=by
  show [grpL k gs L].take (lessN [grpL k gs L] k)++newG gs [grpL k gs L] (k,R)::mergeG gs [] (restG [grpL k gs L] k)=_
  rw [hnew,h0,e0];rfl
 have t1:toldP gs (-1) [grpL k gs L]=some [(was,-1)]:=by
  show (match rowG gs (grpL k gs L) with|none=>none|some r=>(toldP gs (-1) []).map ((r,(-1:Int))::·))=_
  rw [hw];rfl
 have t2:toldP gs 1 []=some []:=rfl
 rw [e1,e2,e3,t1,t2] at hm
 obtain ⟨gv,rv,rfl,h1,h2⟩:=hm
 rw [show [grpL k gs (L++more)].filter (fun g=>!(g.n==0))=[] by rw [List.filter_cons,if_neg (by rw [hgn,hn];simp)];rfl] at h1
 exact ⟨gv,rv,rfl,h1,h2,hb⟩
theorem change_over {w w':World}{lv:Value}{by_:List Int}{gs:List (Int×Int)}{L more:List Tm}{e:Ending}{k:List ByteArray}(h:ChangeEnd w lv [grpL k gs L] by_ gs more e w')(hk:∀ x∈more,pickOk x.1 by_=true∧keyT by_ x=k)(hne:more≠[])(hn:manyL (L++more)≠0)(hr:rowG gs (grpL k gs (L++more))=none) :
  e=.returned (.tuple #[lv,.slice none 0 0,.int .i64 0,.int .i64 7])∧Below w.heap.size w w':=by
 obtain ⟨R,hR,hb,hm⟩:=change_one h hk hne
 have hnew:=oneG_more gs k L hR
 have hgn:(grpL k gs (L++more)).n=manyL (L++more):=rfl
 have e2:behindG gs [(k,R)] [grpL k gs L]=[grpL k gs (L++more)]:=by
  show (if (newG gs [grpL k gs L] (k,R)).n=0 then [] else [newG gs [grpL k gs L] (k,R)])++[]=_
  rw [hnew,hgn,if_neg hn];rfl
 have t2:toldP gs 1 [grpL k gs (L++more)]=none:=by
  show (match rowG gs (grpL k gs (L++more)) with|none=>none|some r=>(toldP gs 1 []).map ((r,(1:Int))::·))=_
  rw [hr]
 rw [e2,t2] at hm
 cases hgo:toldP gs (-1) (aheadG [(k,R)] [grpL k gs L]) with
 | none=>rw [hgo] at hm;exact ⟨hm,hb⟩
 | some go=>rw [hgo] at hm;exact ⟨hm,hb⟩
theorem find_yes {w w':World}{g:GroupP}{key:List ByteArray}{e:Ending}(h:FindEnd w [g] key e w')(hk:g.key=key):e=.returned (.tuple #[.int .i64 0,.bool true])∧Below w.heap.size w w':=by
 obtain ⟨k,z,rfl,hp,hz,hb⟩:=h
 have hk0:k=0:=by
  have hl:=hp.len
  simp only [List.length_cons,List.length_nil] at hl
  by_cases h0:k=0
  ·exact h0
  ·have:=hp.ahead 0 (by simp) (by omega)
   simp only [List.getElem_cons_zero] at this
   rw [hk] at this
   exact absurd this (cmp_self key)
 subst hk0
 have:z=true:=hz.2 ⟨by simp,hk⟩
 subst this
 exact ⟨rfl,hb⟩
theorem find_no {w w':World}{g:GroupP}{key:List ByteArray}{e:Ending}(h:FindEnd w [g] key e w')(hk:g.key≠key):∃ k:Nat,e=.returned (.tuple #[.int .i64 k,.bool false])∧Below w.heap.size w w':=by
 obtain ⟨k,z,rfl,hp,hz,hb⟩:=h
 have:z=false:=by
  cases z with
  | false=>rfl
  | true =>
   obtain ⟨h1,h2⟩:=hz.1 rfl
   simp only [List.length_cons,List.length_nil] at h1
   have h0:k=0:=by omega
   subst h0
   exact absurd h2 hk
 subst this
 exact ⟨k,rfl,hb⟩
abbrev tA21:ByteArray:=⟨#[116,97]⟩
def gs21:List (Int×Int):=[(1,0),(2,1),(3,1)]
def rA21:List ByteArray:=[tA21,cellInt 5]
def rB21:List ByteArray:=[tA21,cellInt 3]
def rM21:List ByteArray:=[tA21,cellInt 9223372036854775807]
def m1_21:List Tm:=[(rA21,2),(rB21,1)]
def row1_21:List ByteArray:=[tA21,cellInt 3,cellInt 13,cellInt 3]
def row2_21:List ByteArray:=[tA21,cellInt 2,cellInt 10,cellInt 5]
theorem aw_row1:rowG gs21 (grpL [tA21] gs21 m1_21)=some row1_21:=by decide +kernel
theorem aw_row2:rowG gs21 (grpL [tA21] gs21 (m1_21++[(rB21,-1)]))=some row2_21:=by decide +kernel
theorem aw_row2b:rowG gs21 (grpL [tA21] gs21 [(rA21,2)])=some row2_21:=by decide +kernel
theorem aw_over:rowG gs21 (grpL [tA21] gs21 (m1_21++[(rM21,1)]))=none:=by decide +kernel
theorem aw_key1:∀ x∈m1_21,pickOk x.1 [0]=true∧keyT [0] x=[tA21]:=by decide +kernel
theorem aw_key2:∀ x∈([(rB21,-1)]:List Tm),pickOk x.1 [0]=true∧keyT [0] x=[tA21]:=by decide +kernel
theorem aw_key3:∀ x∈([(rA21,-2)]:List Tm),pickOk x.1 [0]=true∧keyT [0] x=[tA21]:=by decide +kernel
theorem aw_key4:∀ x∈([(rM21,1)]:List Tm),pickOk x.1 [0]=true∧keyT [0] x=[tA21]:=by decide +kernel
theorem aw_same:grpL [tA21] gs21 (m1_21++[(rB21,-1)])=grpL [tA21] gs21 [(rA21,2)]:=same_grp (fun r=>by
 show cntW [(rA21,2),(rB21,1),(rB21,-1)] r=cntW [(rA21,2)] r
 simp only [cntW]
 split <;> split <;> omega) _ _
theorem aw_d1:sumW [] [(row1_21,1)]=[(row1_21,1)]:=by decide +kernel
theorem aw_d3:sumW [(row2_21,-1)] []=[(row2_21,-1)]:=by decide +kernel
theorem aw_d2:(sumW [(row1_21,-1)] [(row2_21,1)]).length=2:=by decide +kernel
end Go.Proofs.YtjbpbfhgjldliaaGreat
