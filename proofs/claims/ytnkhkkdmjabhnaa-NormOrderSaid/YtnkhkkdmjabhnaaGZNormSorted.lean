/- Sorted parts without those beside their like are what a condition asks at once; no program. -/
import Derived.Test.YtnkhkkdmjabhnaaGZNormCompact
namespace Go.Proofs.Ytnkhkkdmjabhnaa
open Go Go.RowKit
def cfP (x y:PartV):Int:=cb x.pr.data.toList y.pr.data.toList
def ltK (x y:PartV):Bool:=decide (cfP x y < 0)||(decide (cfP x y=0)&&decide (x.tag < y.tag))
theorem ltK_iff (x y:PartV):ltK x y=true↔Op.bytesLess x.pr.data.toList y.pr.data.toList=true∨(x.pr.data.toList=y.pr.data.toList∧x.tag < y.tag):=by
 unfold ltK cfP
 rw [Bool.or_eq_true,Bool.and_eq_true,decide_eq_true_iff,decide_eq_true_iff,decide_eq_true_iff,cb_lt,cb_zero]
theorem ltK_tag (x y:PartV)(h:PartV.tag y < PartV.tag x):decide (cfP x y < 0)=ltK x y:=by
 unfold ltK
 rw [show decide (x.tag < y.tag)=false from decide_eq_false (by omega),Bool.and_false,Bool.or_false]
theorem bl_false {a b:List UInt8}(h:¬Op.bytesLess a b=true)(k:¬Op.bytesLess b a=true):a=b:=bl_tri a b (by simpa using h) (by simpa using k)
theorem bl_not {a:List UInt8}(h:Op.bytesLess a a=true):False:=by rw [bl_irrefl] at h;exact absurd h (by decide)
theorem swoK:Go.Sort.SWO ltK where
 irrefl x:=by
  cases h:ltK x x with
  | false=>rfl
  | true =>
   rcases (ltK_iff x x).1 h with h|h
   ·exact (bl_not h).elim
   ·omega
 trans x y z h1 h2:=by
  rw [ltK_iff] at *
  rcases h1 with h1 | ⟨h1,t1⟩
  ·rcases h2 with h2 | ⟨h2,_⟩
   ·exact .inl (bl_trans _ _ _ h1 h2)
   ·rw [←h2];exact .inl h1
  ·rcases h2 with h2 | ⟨h2,t2⟩
   ·rw [h1];exact .inl h2
   ·exact .inr ⟨h1.trans h2,by omega⟩
 ntrans x y z h1 h2:=by
  cases h:ltK x z with
  | false=>rfl
  | true =>
   have n1:¬(ltK x y=true):=by rw [h1];decide
   have n2:¬(ltK y z=true):=by rw [h2];decide
   rw [ltK_iff] at n1 n2 h
   rw [not_or] at n1 n2
   exfalso
   by_cases e1:Op.bytesLess y.pr.data.toList x.pr.data.toList=true
   ·by_cases e2:Op.bytesLess z.pr.data.toList y.pr.data.toList=true
    ·have:=bl_trans _ _ _ e2 e1
     rcases h with h | ⟨h,_⟩
     ·exact bl_not (bl_trans _ _ _ h this)
     ·rw [h] at this;exact bl_not this
    ·have e:=bl_false n2.1 e2
     rcases h with h | ⟨h,_⟩
     ·rw [←e] at h;exact bl_not (bl_trans _ _ _ h e1)
     ·rw [h,←e] at e1;exact bl_not e1
   ·have e:=bl_false n1.1 e1
    by_cases e2:Op.bytesLess z.pr.data.toList y.pr.data.toList=true
    ·rcases h with h | ⟨h,_⟩
     ·rw [e] at h;exact bl_not (bl_trans _ _ _ h e2)
     ·rw [←e,h] at e2;exact bl_not e2
    ·have e3:=bl_false n2.1 e2
     have t1:¬x.tag < y.tag:=fun h=>n1.2 ⟨e,h⟩
     have t2:¬y.tag < z.tag:=fun h=>n2.2 ⟨e3,h⟩
     rcases h with h | ⟨_,h⟩
     ·rw [e,e3] at h;exact bl_not h
     ·omega
section
variable {ps S:List PartV}
def Bears (ps:List PartV):Prop:=∀ p∈ps,p.pr.data.toList=printL p.t
theorem eqP_iff {x y:PartV}(hx:x.pr.data.toList=printL x.t)(hy:y.pr.data.toList=printL y.t):eqP x y=true↔printL x.t=printL y.t:=by
 unfold eqP
 rw [beq_iff_eq,ByteArray.toList_eq,ByteArray.toList_eq,hx,hy]
theorem sorted_at (hp:S.Perm ps)(hb:Bears ps)(hT:Tagged ps)(hs:S.Pairwise fun x y=>ltK y x=false)(p:List UInt8):atP (S.map PartV.t) p=atP (ps.map PartV.t) p:=by
 have e:∀ l:List PartV,atP (l.map PartV.t) p=(l.find? fun x=>decide (printL x.t=p)).map PartV.t:=fun l=>by
  unfold atP
  rw [List.find?_map]
  rfl
 rw [e,e]
 cases h1:S.find? (fun x=>decide (printL x.t=p)) with
 | none =>
  have h2:ps.find? (fun x=>decide (printL x.t=p))=none:=by
   rw [List.find?_eq_none] at h1 ⊢
   exact fun x hx=>h1 x (hp.mem_iff.2 hx)
  rw [h2]
 | some s =>
  cases h2:ps.find? (fun x=>decide (printL x.t=p)) with
  | none =>
   rw [List.find?_eq_none] at h2
   have:=List.find?_some h1
   exact absurd this (h2 s (hp.mem_iff.1 (List.mem_of_find?_eq_some h1)))
  | some l =>
   obtain ⟨ks,i,hi,ei,hmi⟩:=List.find?_eq_some_iff_getElem.1 h1
   obtain ⟨kl,j,hj,ej,hmj⟩:=List.find?_eq_some_iff_getElem.1 h2
   have ks':printL s.t=p:=of_decide_eq_true ks
   have kl':printL l.t=p:=of_decide_eq_true kl
   obtain ⟨a,ha,ea⟩:=List.getElem_of_mem (hp.mem_iff.1 (List.mem_of_find?_eq_some h1))
   obtain ⟨b,hb2,eb⟩:=List.getElem_of_mem (hp.mem_iff.2 (List.mem_of_find?_eq_some h2))
   have hja:j≤a:=by
    rcases Nat.lt_or_ge a j with h|h
    ·have:=hmj a h
     rw [ea] at this
     simp [ks'] at this
    ·exact h
   have hib:i≤b:=by
    rcases Nat.lt_or_ge b i with h|h
    ·have:=hmi b h
     rw [eb] at this
     simp [kl'] at this
    ·exact h
   have tj:l.tag=j:=by rw [←ej];exact hT j hj
   have ta:s.tag=a:=by rw [←ea];exact hT a ha
   rcases Nat.eq_or_lt_of_le hib with h|h
   ·have:s=l:=by rw [←ei,←eb];congr
    rw [this]
   ·have hf:=List.pairwise_iff_getElem.1 hs i b hi hb2 h
    rw [ei,eb] at hf
    have hn:¬(ltK l s=true):=by rw [hf];decide
    rw [ltK_iff,not_or] at hn
    have hpr:l.pr.data.toList=s.pr.data.toList:=by
     rw [hb l (List.mem_of_find?_eq_some h2),hb s (hp.mem_iff.1 (List.mem_of_find?_eq_some h1)),ks',kl']
    have:¬l.tag < s.tag:=fun h=>hn.2 ⟨hpr,h⟩
    have ee:j=a:=by omega
    have:s=l:=by rw [←ea,←ej];congr;exact ee.symm
    rw [this]
theorem ddI_mem (S:List PartV):∀ k,k≤S.length→∀ x∈ddI S k,∃ q,q < k∧S[q]! = x
 | 0,_,x,h=>absurd h (by simp [ddI])
 | k+1,hk,x,h=>by
  rw [ddI] at h
  split at h
  ·rcases List.mem_append.1 h with h|h
   ·obtain ⟨q,h1,h2⟩:=ddI_mem S k (by omega) x h
    exact ⟨q,by omega,h2⟩
   ·rw [List.mem_singleton.1 h];exact ⟨k,by omega,rfl⟩
  ·obtain ⟨q,h1,h2⟩:=ddI_mem S k (by omega) x h
   exact ⟨q,by omega,h2⟩
theorem dd_spec (hb:Bears S)(hs:∀ i j,i < j→j < S.length→¬Op.bytesLess (printL S[j]!.t) (printL S[i]!.t)=true):∀ k,k≤S.length→RisesT ((ddI S k).map PartV.t)∧∀ p,atP ((ddI S k).map PartV.t) p=atP ((S.take k).map PartV.t) p
 | 0,_=>⟨List.Pairwise.nil,fun p=>by rw [ddI,List.take_zero]⟩
 | k+1,hk=>by
  obtain ⟨ih1,ih2⟩:=dd_spec hb hs k (by omega)
  have hlk:k < S.length:=by omega
  have hbk:∀ q,q < S.length→S[q]!.pr.data.toList=printL S[q]!.t:=fun q hq=>hb _ (by rw [getElem!_pos S q hq];exact List.getElem_mem hq)
  have htk:(S.take (k+1)).map PartV.t=(S.take k).map PartV.t++[S[k]!.t]:=by
   rw [List.take_add_one,List.getElem?_eq_getElem hlk,List.map_append,getElem!_pos S k hlk]
   rfl
  rw [ddI]
  split
  ·rename_i hkeep
   rw [List.map_append]
   refine ⟨List.pairwise_append.2 ⟨ih1,List.pairwise_singleton _ _,fun a ha b hb2=>?_⟩,fun p=>?_⟩
   ·rw [List.map_singleton,List.mem_singleton] at hb2
    subst hb2
    obtain ⟨x,hx,rfl⟩:=List.mem_map.1 ha
    obtain ⟨q,hq,rfl⟩:=ddI_mem S k (by omega) x hx
    have hne:¬printL S[k]!.t=printL S[k-1]!.t:=by
     unfold keepP at hkeep
     rw [Bool.or_eq_true] at hkeep
     rcases hkeep with h|h
     ·have:k=0:=by simpa using h
      omega
     ·intro e
      rw [(eqP_iff (hbk k hlk) (hbk (k-1) (by omega))).2 e] at h
      exact absurd h (by decide)
    show Op.bytesLess (printL S[q]!.t) (printL S[k]!.t)=true
    cases hx2:Op.bytesLess (printL S[q]!.t) (printL S[k]!.t) with
    | true=>rfl
    | false =>
     exfalso
     have e1:printL S[q]!.t=printL S[k]!.t:=bl_false (by rw [hx2];decide) (hs q k hq hlk)
     by_cases c:q=k-1
     ·exact hne (by rw [←c];exact e1.symm)
     ·have n1:=hs q (k-1) (by omega) (by omega)
      have n2:=hs (k-1) k (by omega) hlk
      rw [e1] at n1
      exact hne (bl_false n2 n1)
   ·rw [htk,atP_append,atP_append,ih2]
    rfl
  ·rename_i hkeep
   refine ⟨ih1,fun p=>?_⟩
   rw [htk,atP_append,ih2,atP_cons,atP_nil]
   have hq:k≠0∧eqP S[k]! S[k-1]! = true:=by
    unfold keepP at hkeep
    simp only [Bool.or_eq_true,not_or,Bool.not_eq_true,beq_iff_eq] at hkeep
    exact ⟨by simpa using hkeep.1,by simpa using hkeep.2⟩
   have e:=(eqP_iff (hbk k hlk) (hbk (k-1) (by omega))).1 hq.2
   by_cases c:printL S[k]!.t=p
   ·have hm:S[k-1]!.t∈(S.take k).map PartV.t:=List.mem_map.2 ⟨S[k-1]!,by rw [getElem!_pos S (k-1) (by omega)];exact List.mem_take_iff_getElem.2 ⟨k-1,by omega,rfl⟩,rfl⟩
    cases h:atP ((S.take k).map PartV.t) p with
    | none=>exact absurd (e.symm.trans c) (atP_none.1 h _ hm)
    | some x=>rfl
   ·rw [if_neg c,Option.or_none]
theorem dd_parts {t:Trm}(hp:S.Perm ps)(hb:Bears ps)(hT:Tagged ps)(hs:S.Pairwise fun x y=>ltK y x=false)(hl:ps.map PartV.t=leavesT t):(ddI S S.length).map PartV.t=partsT t:=by
 have hbS:Bears S:=fun x hx=>hb x (hp.mem_iff.1 hx)
 have h:=dd_spec hbS (fun i j hij hj=>by
  have hf:=List.pairwise_iff_getElem.1 hs i j (by omega) hj hij
  have hn:¬(ltK S[j] S[i]=true):=by rw [hf];decide
  rw [ltK_iff,not_or] at hn
  have h1:=hn.1
  rw [hbS _ (List.getElem_mem hj),hbS _ (List.getElem_mem (show i < S.length by omega))] at h1
  rw [getElem!_pos S j hj,getElem!_pos S i (by omega)]
  exact h1) S.length (Nat.le_refl _)
 refine parts_one h.1 fun p=>?_
 rw [h.2,List.take_length,sorted_at hp hb hT hs,hl]
end
end Go.Proofs.Ytnkhkkdmjabhnaa
