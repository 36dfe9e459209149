/- append, told of cells: those that are there stay there, and may be written as before; no program. -/
import Derived.Test.YtjbpbfhgjldliaaGreatGStrs
import Derived.Test.YtjbpbfhgjldliaaGreatGZCalm
namespace Go.Proofs.YtjbpbfhgjldliaaGreat
open Go Go.RowKit
abbrev Phase:=Nat→Option Value
abbrev MSpec:=Phase→Value→World→Prop
def misV (c:Value):MSpec:=fun _ v _=>v=c
def setP (ph:Phase)(m:Nat)(v:Value):Phase:=fun j=>if j=m then some v else ph j
def befB (ops:Array Oper)(st:Nat→Bool)(bef:Nat→Nat→Bool):Bool :=
 (List.range ops.size).all fun m=>!st m||(List.range ops.size).all fun k=>!bef k m||(match ops[m]? with|some o=>waitsB o k|none=>false) ||
  (List.range ops.size).any fun j=>decide (k < j)&&bef j m&&(match ops[j]? with|some o=>waitsB o k|none=>false)
def aftB (ops:Array Oper)(st:Nat→Bool)(aft:Nat→Nat→Bool):Bool :=
 (List.range ops.size).all fun m=>!st m||(List.range ops.size).all fun k=>!aft k m||(match ops[k]? with
  | some o=>waitsB o m||(List.range k).any fun j=>aft j m&&waitsB o j
  | none=>false)
def PhOk (st:Nat→Bool)(bef aft:Nat→Nat→Bool)(k:Nat)(ph:Phase):Prop:=(∀ m,st m=true→bef k m=true→ph m=none)∧(∀ m,st m=true→aft k m=true→(ph m).isSome=true)
section
variable (P:Program)(ops:Array Oper)(a0:Act)(C:Phase→World→Prop)(st:Nat→Bool)(bef aft:Nat→Nat→Bool)(E:Nat→Value→World→World→Prop)
def HeldM (a:Act)(ph:Phase)(w:World)(x:Option Tmp×MSpec):Prop:=∃ v,(∀ d,x.1=some d→a.tmps[d]? = some v)∧x.2 ph v w
def FactsML (o:Oper)(known:List (Option Tmp×MSpec))(a:Act)(ph:Phase)(w:World):Prop:=∀ (j:Nat)(x:Option Tmp×MSpec),known[j]? = some x→waitsB o j=true→HeldM a ph w x
def CalmML (k:Nat)(o:Oper)(known:List (Option Tmp×MSpec)) (Φ:MSpec):Prop :=
 ∀ ph a w,PhOk st bef aft k ph→C ph w→(∀ t,keepB ops k t=true→a.tmps[t]? = a0.tmps[t]?)→FactsML o known a ph w →
  ∀ K:Act→World→Prop,(∀ v w',Below w.heap.size w w'→Φ ph v w'→K (a.put o.dst v) w')→if Region.wanted o (yielded ops a.tmps)=true then o.wp P a w K NoWay else K (a.put o.dst undef) w
def StoreML (k:Nat)(o:Oper)(known:List (Option Tmp×MSpec)) (Φ:MSpec):Prop :=
 ∀ ph a w,PhOk st bef aft k ph→ph k=none→C ph w→(∀ t,keepB ops k t=true→a.tmps[t]? = a0.tmps[t]?)→FactsML o known a ph w →
  ∀ K:Act→World→Prop,(∀ v w',E k v w w'→C (setP ph k v) w'→Φ (setP ph k v) v w'→K (a.put o.dst v) w')→if Region.wanted o (yielded ops a.tmps)=true then o.wp P a w K NoWay else K (a.put o.dst undef) w
abbrev KnwnM:=List (Nat×Option Tmp×MSpec)
def FactsM (o:Oper)(known:KnwnM)(a:Act)(ph:Phase)(w:World):Prop:=∀ (p j:Nat)(d:Option Tmp) (Φ:MSpec),known[p]? = some (j,d,Φ)→waitsB o j=true→HeldM a ph w (d,Φ)
def CalmM (k:Nat)(o:Oper)(known:KnwnM) (Φ:MSpec):Prop :=
 ∀ ph a w,PhOk st bef aft k ph→C ph w→(∀ t,keepB ops k t=true→a.tmps[t]? = a0.tmps[t]?)→FactsM o known a ph w →
  ∀ K:Act→World→Prop,(∀ v w',Below w.heap.size w w'→Φ ph v w'→K (a.put o.dst v) w')→if Region.wanted o (yielded ops a.tmps)=true then o.wp P a w K NoWay else K (a.put o.dst undef) w
def StoreM (k:Nat)(o:Oper)(known:KnwnM) (Φ:MSpec):Prop :=
 ∀ ph a w,PhOk st bef aft k ph→ph k=none→C ph w→(∀ t,keepB ops k t=true→a.tmps[t]? = a0.tmps[t]?)→FactsM o known a ph w →
  ∀ K:Act→World→Prop,(∀ v w',E k v w w'→C (setP ph k v) w'→Φ (setP ph k v) v w'→K (a.put o.dst v) w')→if Region.wanted o (yielded ops a.tmps)=true then o.wp P a w K NoWay else K (a.put o.dst undef) w
def StableM (Φ:MSpec):Prop:=∀ ph v w w',Below w.heap.size w w'→Φ ph v w→Φ ph v w'
def mWalk (Fin:KnwnM→Prop):List Oper→Nat→KnwnM→Prop
 | [],_,known=>Fin known
 | o::os,k,known=>∃ Φ,StableM Φ∧(if st k=true then StoreM P ops a0 C st bef aft E k o known Φ else CalmM P ops a0 C st bef aft k o known Φ)∧mWalk Fin os (k+1) ((k,o.dst,Φ)::known)
def mlexL:KnwnM→List (Option Tmp×MSpec)→List (Option Tmp×MSpec)
 | [],acc=>acc
 | x::xs,acc=>mlexL xs (x.2::acc)
def mEnd (Q:Exit→Act→World→Prop)(ph:Phase)(w:World):List (Option Tmp×MSpec)→Act→Prop
 | [],a=>Q .normal a w
 | x::xs,a=>∀ v,x.2 ph v w→mEnd Q ph w xs (a.put x.1 v)
def mKeeps (known:List (Option Tmp×MSpec)):Prop :=
 ∀ m o,ops[m]? = some o→st m=true→∀ (k:Nat) (x:Option Tmp×MSpec),known[k]? = some x→k≠m→aft k m=false→∀ ph u v w w',PhOk st bef aft m ph→ph m=none→C ph w→x.2 ph u w→E m v w w'→x.2 (setP ph m v) u w'
end
theorem mstable_isV (c:Value):StableM (misV c):=fun _ _ _ _ _ h=>h
section
variable {P:Program}{ops:Array Oper}{a0:Act}{C:Phase→World→Prop}{st:Nat→Bool}{bef aft:Nat→Nat→Bool}{E:Nat→Value→World→World→Prop}{Fin:KnwnM→Prop}{known:KnwnM}{k:Nat}{o:Oper}{os:List Oper}
theorem m_nil (h:Fin known):mWalk P ops a0 C st bef aft E Fin [] k known:=h
theorem m_fix (hs:st k=false)(h:∃ c,CalmM P ops a0 C st bef aft k o known (misV c)∧mWalk P ops a0 C st bef aft E Fin os (k+1) ((k,o.dst,misV c)::known)):mWalk P ops a0 C st bef aft E Fin (o::os) k known:=by
 obtain ⟨c,h1,h2⟩:=h
 exact ⟨misV c,mstable_isV c,by rw [if_neg (by rw [hs];decide)];exact h1,h2⟩
theorem m_var (Φ:MSpec)(hs:st k=false)(hΦ:StableM Φ)(h:CalmM P ops a0 C st bef aft k o known Φ)(h2:mWalk P ops a0 C st bef aft E Fin os (k+1) ((k,o.dst,Φ)::known)):mWalk P ops a0 C st bef aft E Fin (o::os) k known :=
 ⟨Φ,hΦ,by rw [if_neg (by rw [hs];decide)];exact h,h2⟩
theorem m_store (Φ:MSpec)(hs:st k=true)(hΦ:StableM Φ)(h:StoreM P ops a0 C st bef aft E k o known Φ)(h2:mWalk P ops a0 C st bef aft E Fin os (k+1) ((k,o.dst,Φ)::known)):mWalk P ops a0 C st bef aft E Fin (o::os) k known :=
 ⟨Φ,hΦ,by rw [if_pos hs];exact h,h2⟩
def relM (known:KnwnM)(K:List (Option Tmp×MSpec)):Prop:=∀ (p j:Nat)(d:Option Tmp) (Φ:MSpec),known[p]? = some (j,d,Φ)→K[j]? = some (d,Φ)
theorem relM_cons {K:List (Option Tmp×MSpec)}(h:relM known K)(d:Option Tmp) (Φ:MSpec):relM ((K.length,d,Φ)::known) (K++[(d,Φ)]):=fun p j d' Φ' hp=>by
 cases p with
 | zero =>
  simp only [List.getElem?_cons_zero,Option.some.injEq,Prod.mk.injEq] at hp
  obtain ⟨rfl,rfl,rfl⟩:=hp
  exact List.getElem?_concat_length
 | succ p =>
  have h1:=h p j d' Φ' (by simpa using hp)
  rw [List.getElem?_append_left (List.getElem?_eq_some_iff.1 h1).1]
  exact h1
theorem mfacts_of {K:List (Option Tmp×MSpec)}(hr:relM known K){a:Act}{ph:Phase}{w:World}(h:FactsML o K a ph w):FactsM o known a ph w:=fun p j d Φ hp hw=>h j _ (hr p j d Φ hp) hw
theorem mWalk_all:∀ (os:List Oper)(k:Nat)(known:KnwnM)(K:List (Option Tmp×MSpec)),K.length=k→relM known K→(∀ acc,mlexL known acc=K++acc)→mWalk P ops a0 C st bef aft E Fin os k known →
  ∃ knA kn,Fin knA∧mlexL knA []=kn∧kn.length=k+os.length∧kn.take k=K∧∀ i o,os[i]? = some o→∃ Φ,kn[k+i]? = some (o.dst,Φ)∧StableM Φ∧if st (k+i)=true then StoreML P ops a0 C st bef aft E (k+i) o (kn.take (k+i)) Φ else CalmML P ops a0 C st bef aft (k+i) o (kn.take (k+i)) Φ
 | [],k,known,K,hk,_,hx,h=>⟨known,K,h,by rw [hx,List.append_nil],by simpa using hk,by rw [←hk,List.take_length],fun i o hi=>absurd hi (by simp)⟩
 | o::os,k,known,K,hk,hr,hx,h=>by
  obtain ⟨Φ,h1,h2,h3⟩:=h
  subst hk
  obtain ⟨knA,kn,g1,gx,g2,g3,g4⟩:=mWalk_all os (K.length+1) ((K.length,o.dst,Φ)::known) (K++[(o.dst,Φ)]) (by simp) (relM_cons hr o.dst Φ) (fun acc=>by
   show mlexL known ((o.dst,Φ)::acc)=_
   rw [hx,List.append_assoc];rfl) h3
  have e1:kn.take K.length=K:=by
   have:=congrArg (List.take K.length) g3
   rw [List.take_take,Nat.min_eq_left (Nat.le_succ _),List.take_append_of_le_length (Nat.le_refl _),List.take_length] at this
   exact this
  refine ⟨knA,kn,g1,gx,by rw [g2,List.length_cons];omega,e1,fun i o' hi=>?_⟩
  cases i with
  | zero =>
   obtain rfl:o=o':=by simpa using hi
   refine ⟨Φ,?_,h1,?_⟩
   ·rw [Nat.add_zero]
    have:=congrArg (fun l=>l[K.length]?) g3
    simp only [List.getElem?_take] at this
    rw [if_pos (Nat.lt_succ_self _)] at this
    rw [this,List.getElem?_concat_length]
   ·rw [Nat.add_zero,e1]
    split
    ·rename_i hs
     rw [if_pos hs] at h2
     exact fun ph a w hp hq hc hk hf=>h2 ph a w hp hq hc hk (mfacts_of hr hf)
    ·rename_i hs
     rw [if_neg hs] at h2
     exact fun ph a w hp hc hk hf=>h2 ph a w hp hc hk (mfacts_of hr hf)
  | succ i =>
   have:=g4 i o' (by simpa using hi)
   have e:K.length+(i+1)=K.length+1+i:=by omega
   rw [e];exact this
end
structure MInv (ops:Array Oper) (a0:Act) (C:Phase→World→Prop) (st:Nat→Bool) (kn:List (Option Tmp×MSpec)) (listed:Array Bool) (a:Act) (w:World) (ph:Phase):Prop where
 size:listed.size=ops.size
 tsize:a.tmps.size=a0.tmps.size
 defers:a.defers=a0.defers
 cls:C ph w
 phN:∀ m,st m=true→listed.getD m false=false→ph m=none
 phS:∀ m,st m=true→listed.getD m false=true→(ph m).isSome=true
 down:∀ (j:Nat) o,ops[j]? = some o→listed.getD j false=true→∀ e∈o.after,Region.binds .any e=true→listed.getD e.on false=true
 old:∀ t:Tmp,(∀ (j:Nat) o,ops[j]? = some o→listed.getD j false=true→o.dst≠some t)→a.tmps[t]? = a0.tmps[t]?
 held:∀ (j:Nat) x,kn[j]? = some x→listed.getD j false=true→HeldM a ph w x
section
variable {P:Program}{ops:Array Oper}{a0:Act}{C:Phase→World→Prop}{st:Nat→Bool}{bef aft:Nat→Nat→Bool}{E:Nat→Value→World→World→Prop}
theorem MInv.next {kn:List (Option Tmp×MSpec)}{listed:Array Bool}{a:Act}{w w':World}{ph ph':Phase}{i:Nat}{oi:Oper}{v:Value} {Φ:MSpec}(hO:orderB ops a0.tmps.size=true)(hI:MInv ops a0 C st kn listed a w ph)
  (hi:ops[i]? = some oi) (hr:i∈Region.ready .any ops listed) (hk:kn[i]? = some (oi.dst,Φ)) (hc:C ph' w') (hpN:∀ m,st m=true→(listed.setIfInBounds i true).getD m false=false→ph' m=none) (hpS:∀ m,st m=true→(listed.setIfInBounds i true).getD m false=true→(ph' m).isSome=true) (hkeep:∀ (j:Nat) (x:Option Tmp×MSpec),kn[j]? = some x→listed.getD j false=true→j≠i→∀ u,x.2 ph u w→x.2 ph' u w') (hv:Φ ph' v w')
  (hkn:∀ (j:Nat) (x:Option Tmp×MSpec),kn[j]? = some x→∃ o,ops[j]? = some o∧x.1=o.dst):MInv ops a0 C st kn (listed.setIfInBounds i true) (a.put oi.dst v) w' ph':=by
 obtain ⟨hun,o',ho',hall⟩:=mem_ready.1 hr
 rw [hi] at ho'
 obtain rfl:oi=o':=by simpa using ho'
 have hlt:=calm_getD_lt hun
 have hO1:=calm_order_spec hO hi
 refine ⟨by simp [hI.size],by rw [calm_put_size,hI.tsize],by rw [calm_put_defers,hI.defers],hc,hpN,hpS,fun j o hj hl e he hb=>?_,fun t ht=>?_,fun j x hj hl=>?_⟩
 ·rcases calm_getD_set_cases hl with rfl|hl
  ·rw [hi] at hj
   obtain rfl:oi=o:=by simpa using hj
   exact getD_set_true (hall e he hb)
  ·exact getD_set_true (hI.down j o hj hl e he hb)
 ·have h1:oi.dst≠some t:=ht i oi hi (calm_getD_set_self hlt)
  have h2:a.tmps[t]? = a0.tmps[t]? := hI.old t fun j o hj hl=>ht j o hj (getD_set_true hl)
  rw [←h2]
  cases hd:oi.dst with
  | none=>rfl
  | some d=>exact calm_put_get a v (fun e=>h1 (by rw [hd,e]))
 ·rcases calm_getD_set_cases hl with rfl|hl2
  ·rw [hk] at hj
   obtain rfl:(oi.dst,Φ)=x:=by simpa using hj
   refine ⟨v,fun d hd=>?_,hv⟩
   have hd:oi.dst=some d:=hd
   rw [hd]
   exact calm_put_same a v (by rw [hI.tsize];exact (hO1.2 d hd).1)
  ·have hne:j≠i:=fun e=>by
    subst e
    rw [calm_getD_false_true hlt,hun] at hl2
    exact absurd hl2 (by decide)
   obtain ⟨u,h1,h2⟩:=hI.held j x hj hl2
   refine ⟨u,fun d hd=>?_,hkeep j x hj hl2 hne u h2⟩
   rw [←h1 d hd]
   obtain ⟨o,ho,e⟩:=hkn j x hj
   cases hdi:oi.dst with
   | none=>rfl
   | some d' =>
    refine calm_put_get a v fun e2=>?_
    subst e2
    exact calm_order_ne hO hi ho (Ne.symm hne) hdi (by rw [←e];exact hd)
theorem m_aft_listed {aft:Nat→Nat→Bool}(hA:aftB ops st aft=true){m:Nat}(hmo:m < ops.size)(hm:st m=true){listed:Array Bool}(hd:∀ (j:Nat) o,ops[j]? = some o→listed.getD j false=true→∀ e∈o.after,Region.binds .any e=true→listed.getD e.on false=true) :
  ∀ k,aft k m=true→k < ops.size→listed.getD k false=true→listed.getD m false=true:=by
 have waits:∀ (j k:Nat) (o:Oper),ops[j]? = some o→waitsB o k=true→listed.getD j false=true→listed.getD k false=true:=fun j k o ho hw hl=>by
  obtain ⟨e,he,hb,hon⟩:=calm_waits_spec hw
  have:=hd j o ho hl e he hb
  rwa [hon] at this
 intro k
 induction k using Nat.strongRecOn with
 | _ k ih =>
  intro h1 hk hl
  have hA':=hA
  unfold aftB at hA'
  rw [List.all_eq_true] at hA'
  have h3:=hA' m (List.mem_range.2 hmo)
  simp only [hm,Bool.not_true,Bool.false_or,List.all_eq_true,List.mem_range] at h3
  have h4:=h3 k hk
  have hkx:=Array.getElem?_eq_getElem hk
  simp only [h1,Bool.not_true,Bool.false_or,hkx,Bool.or_eq_true] at h4
  rcases h4 with h4|h4
  ·exact waits k m _ hkx h4 hl
  ·obtain ⟨j,hj,h5⟩:=List.any_eq_true.1 h4
   rw [List.mem_range] at hj
   rw [Bool.and_eq_true] at h5
   exact ih j hj h5.1 (by omega) (waits k j _ hkx h5.2 hl)
theorem m_bef_listed (hL:befB ops st bef=true){m:Nat}(hmo:m < ops.size)(hm:st m=true){listed:Array Bool}(hd:∀ (j:Nat) o,ops[j]? = some o→listed.getD j false=true→∀ e∈o.after,Region.binds .any e=true→listed.getD e.on false=true)(hml:listed.getD m false=true) :
  ∀ k,k < ops.size→bef k m=true→listed.getD k false=true:=by
 have waits:∀ (j k:Nat) (o:Oper),ops[j]? = some o→waitsB o k=true→listed.getD j false=true→listed.getD k false=true:=fun j k o ho hw hl=>by
  obtain ⟨e,he,hb,hon⟩:=calm_waits_spec hw
  have:=hd j o ho hl e he hb
  rwa [hon] at this
 have key:∀ r k,k < ops.size→ops.size≤k+r→bef k m=true→listed.getD k false=true:=by
  intro r
  induction r with
  | zero=>intro k hk hr;omega
  | succ r ih =>
   intro k hk hr h1
   have hL':=hL
   unfold befB at hL'
   rw [List.all_eq_true] at hL'
   have h3:=hL' m (List.mem_range.2 hmo)
   simp only [hm,Bool.not_true,Bool.false_or,List.all_eq_true,List.mem_range] at h3
   have h4:=h3 k hk
   have hmx:=Array.getElem?_eq_getElem hmo
   simp only [h1,Bool.not_true,Bool.false_or,hmx,Bool.or_eq_true] at h4
   rcases h4 with h4|h4
   ·exact waits m k _ hmx h4 hml
   ·obtain ⟨j,hj,h5⟩:=List.any_eq_true.1 h4
    rw [List.mem_range] at hj
    have hjx:=Array.getElem?_eq_getElem hj
    simp only [hjx,Bool.and_eq_true,decide_eq_true_eq] at h5
    exact waits j k _ hjx h5.2 (ih j hj (by omega) h5.1.2)
 exact fun k hk=>key ops.size k hk (by omega)
theorem m_end {Q:Exit→Act→World→Prop}{kn:List (Option Tmp×MSpec)}{listed:Array Bool}{a:Act}{w:World}{ph:Phase}(hO:orderB ops a0.tmps.size=true)(hI:MInv ops a0 C st kn listed a w ph)(hall:∀ i,i < ops.size→listed.getD i true=true)
  (hlen:kn.length=ops.size) (hkn:∀ (j:Nat) (x:Option Tmp×MSpec),kn[j]? = some x→∃ o,ops[j]? = some o∧x.1=o.dst) (hE:mEnd Q ph w kn a0):Q .normal a w:=by
 have key:∀ (r:Nat) (b:Act),r≤kn.length→b.tmps.size=a0.tmps.size→b.defers=a0.defers→(∀ t:Tmp,(∀ (j:Nat) o,ops[j]? = some o→j < kn.length-r→o.dst≠some t)→b.tmps[t]? = a0.tmps[t]?) →
   (∀ (j:Nat) x,kn[j]? = some x→j < kn.length-r→∀ d,x.1=some d→b.tmps[d]? = a.tmps[d]?)→mEnd Q ph w (kn.drop (kn.length-r)) b→Q .normal a w:=by
  intro r
  induction r with
  | zero =>
   intro b _ hbs hbd hold hheld h
   rw [Nat.sub_zero,List.drop_length] at h
   have e:b=a:=calm_act_ext (fun t=>by
    by_cases ht:∃ (j:Nat) (o:Oper),ops[j]? = some o∧o.dst=some t
    ·obtain ⟨j,o,ho,hd⟩:=ht
     have hj:j < kn.length:=by rw [hlen];exact (Array.getElem?_eq_some_iff.1 ho).1
     obtain ⟨o',ho',e⟩:=hkn j kn[j] (List.getElem?_eq_getElem hj)
     rw [ho] at ho'
     obtain rfl:o=o':=by simpa using ho'
     exact hheld j kn[j] (List.getElem?_eq_getElem hj) (by omega) t (by rw [e];exact hd)
    ·rw [hold t fun j o ho _ hd=>ht ⟨j,o,ho,hd⟩,hI.old t fun j o ho _ hd=>ht ⟨j,o,ho,hd⟩]) (by rw [hbd,hI.defers])
   rw [←e];exact h
  | succ r ih =>
   intro b hr hbs hbd hold hheld h
   have hj:kn.length-(r+1) < kn.length:=by omega
   rw [List.drop_eq_getElem_cons hj] at h
   have e1:kn.length-(r+1)+1=kn.length-r:=by omega
   rw [e1] at h
   obtain ⟨o,ho,ed⟩:=hkn _ _ (List.getElem?_eq_getElem hj)
   obtain ⟨v,hv1,hv2⟩:=hI.held _ _ (List.getElem?_eq_getElem hj) (by
    have hlt:kn.length-(r+1) < ops.size:=by omega
    rw [calm_getD_false_true (by rw [hI.size];exact hlt)];exact hall _ hlt)
   refine ih (b.put (kn[kn.length-(r+1)]).1 v) (by omega) (by rw [calm_put_size,hbs]) (by rw [calm_put_defers,hbd]) (fun t ht=>?_) (fun j x hjx hjl d hd=>?_) (h v hv2)
   ·rw [←hold t fun j o' ho' hjl=>ht j o' ho' (by omega)]
    cases hd:(kn[kn.length-(r+1)]).1 with
    | none=>rfl
    | some d=>exact calm_put_get b v fun e=>ht _ o ho (by omega) (by rw [←ed,hd,e])
   ·by_cases e:j=kn.length-(r+1)
    ·subst e
     rw [List.getElem?_eq_getElem hj] at hjx
     obtain rfl:kn[kn.length-(r+1)]=x:=by simpa using hjx
     rw [hd,hv1 d hd]
     exact calm_put_same b v (by rw [hbs];exact ((calm_order_spec hO ho).2 d (by rw [←ed];exact hd)).1)
    ·rw [←hheld j x hjx (by omega) d hd]
     obtain ⟨o',ho',e'⟩:=hkn j x hjx
     cases hd2:(kn[kn.length-(r+1)]).1 with
     | none=>rfl
     | some d2 =>
      refine calm_put_get b v fun e2=>?_
      subst e2
      exact calm_order_ne hO ho ho' (Ne.symm e) (by rw [←ed];exact hd2) (by rw [←e'];exact hd)
 refine key kn.length a0 (Nat.le_refl _) rfl rfl (fun _ _=>rfl) (fun j x _ hj=>absurd hj (by omega)) ?_
 rw [Nat.sub_self,List.drop_zero]
 exact hE
theorem m_any {Q:Exit→Act→World→Prop}{kn:List (Option Tmp×MSpec)}(hO:orderB ops a0.tmps.size=true)(hL:befB ops st bef=true)(hC:∀ ph w w',Below w.heap.size w w'→C ph w→C ph w')(hlen:kn.length=ops.size)(hst:∀ m,st m=true→m < ops.size)
  (hT:∀ (i:Nat) o,ops[i]? = some o→∃ Φ,kn[i]? = some (o.dst,Φ)∧StableM Φ∧if st i=true then StoreML P ops a0 C st bef aft E i o (kn.take i) Φ else CalmML P ops a0 C st bef aft i o (kn.take i) Φ)
  (hA:aftB ops st aft=true) (hK:mKeeps ops C st bef aft E kn) (hE:∀ ph w,(∀ m,st m=true→(ph m).isSome=true)→C ph w→mEnd Q ph w kn a0) :
  ∀ (fuel:Nat) (listed:Array Bool) (a:Act) (w:World) (ph:Phase),MInv ops a0 C st kn listed a w ph→calmUnlisted listed ops.size=fuel→wpAny P .any ops Q fuel listed a w:=by
 have hkn:∀ (j:Nat) (x:Option Tmp×MSpec),kn[j]? = some x→∃ o,ops[j]? = some o∧x.1=o.dst:=fun j x hj=>by
  have hlt:j < ops.size:=by rw [←hlen];exact (List.getElem?_eq_some_iff.1 hj).1
  have ho:=Array.getElem?_eq_getElem hlt
  obtain ⟨Φ,h1,_⟩:=hT j _ ho
  rw [hj] at h1
  obtain rfl:x=(ops[j].dst,Φ):=by simpa using h1
  exact ⟨_,ho,rfl⟩
 have hend:∀ (listed:Array Bool) (a:Act) (w:World) (ph:Phase),MInv ops a0 C st kn listed a w ph→(∀ i,i < ops.size→listed.getD i true=true)→Q .normal a w:=fun listed a w ph hI hall =>
  m_end hO hI hall hlen hkn (hE ph w (fun m hm=>hI.phS m hm (by
   have hlt:=hst m hm
   rw [calm_getD_false_true (by rw [hI.size];exact hlt)]
   exact hall m hlt)) hI.cls)
 intro fuel
 induction fuel with
 | zero =>
  intro listed a w ph hI hf
  have hall:=calm_unlisted_zero hf
  refine ⟨?_,hend _ _ _ _ hI hall⟩
  cases hr:Region.ready .any ops listed with
  | nil=>rfl
  | cons x xs =>
   have hx:x∈Region.ready .any ops listed:=by rw [hr];exact List.mem_cons_self ..
   obtain ⟨h1,o,ho,_⟩:=mem_ready.1 hx
   rw [hall x (Array.getElem?_eq_some_iff.1 ho).1] at h1
   exact absurd h1 (by decide)
 | succ fuel ih =>
  intro listed a w ph hI hf
  refine ⟨fun h=>hend _ _ _ _ hI (calm_ready_nil hO hI.size h),fun i hi=>?_⟩
  obtain ⟨hun,oi,hoi,hall⟩:=mem_ready.1 hi
  have hlt:i < ops.size:=(Array.getElem?_eq_some_iff.1 hoi).1
  have hfl:(listed.getD i false)=false:=by rw [calm_getD_false_true (by rw [hI.size];exact hlt)];exact hun
  obtain ⟨Φ,hk,hS,hTT⟩:=hT i oi hoi
  have hkeepf:∀ t,keepB ops i t=true→a.tmps[t]? = a0.tmps[t]? := fun t ht=>hI.old t fun j o hj hl hd=>by
   unfold keepB at ht
   rw [List.all_eq_true] at ht
   have h1:=ht j (List.mem_range.2 (Array.getElem?_eq_some_iff.1 hj).1)
   simp only [hj,hd,bne_self_eq_false,Bool.false_or,Bool.or_eq_true,beq_iff_eq] at h1
   rcases h1 with h1|h1
   ·subst h1;rw [hfl] at hl;exact absurd hl (by decide)
   ·obtain ⟨e,he,hb,hon⟩:=calm_waits_spec h1
    have:=hI.down j o hj hl e he hb
    rw [hon,hfl] at this
    exact absurd this (by decide)
  have hfacts:FactsML oi (kn.take i) a ph w:=fun j x hj hwt=>by
   obtain ⟨e,he,hb,hon⟩:=calm_waits_spec hwt
   have h1:=hall e he hb
   rw [hon] at h1
   rw [List.getElem?_take] at hj
   split at hj
   ·exact hI.held j x hj h1
   ·exact absurd hj (by simp)
  have hun2:=calm_unlisted_set hun hlt
  have hphok:PhOk st bef aft i ph:=by
   refine ⟨fun m hm hb=>hI.phN m hm ?_,fun m hm hw=>hI.phS m hm ?_⟩
   ·cases hml:listed.getD m false with
    | false=>rfl
    | true =>
     have:=m_bef_listed hL (hst m hm) hm hI.down hml i hlt hb
     rw [hfl] at this
     exact absurd this (by decide)
   ·have hA':=hA
    unfold aftB at hA'
    rw [List.all_eq_true] at hA'
    have h3:=hA' m (List.mem_range.2 (hst m hm))
    simp only [hm,Bool.not_true,Bool.false_or,List.all_eq_true,List.mem_range] at h3
    have h4:=h3 i hlt
    simp only [hw,Bool.not_true,Bool.false_or,hoi,Bool.or_eq_true] at h4
    rcases h4 with h4|h4
    ·obtain ⟨e,he,hb,hon⟩:=calm_waits_spec h4
     have h1:=hall e he hb
     rwa [hon] at h1
    ·obtain ⟨j,hj,h5⟩:=List.any_eq_true.1 h4
     rw [List.mem_range] at hj
     rw [Bool.and_eq_true] at h5
     obtain ⟨e,he,hb,hon⟩:=calm_waits_spec h5.2
     have h1:=hall e he hb
     rw [hon] at h1
     exact m_aft_listed hA (hst m hm) hm hI.down j h5.1 (by omega) h1
  unfold wpOp
  simp only [hoi]
  by_cases hs:st i=true
  ·rw [if_pos hs] at hTT
   have hpi:ph i=none:=hI.phN i hs hfl
   have hstep:=hTT ph a w hphok hpi hI.cls hkeepf hfacts (fun a' w'=>wpAny P .any ops Q fuel (listed.setIfInBounds i true) a' w') fun v w' hEE hc hv =>
    ih _ _ _ _ (hI.next hO hoi hi hk hc (fun m hm hl=>by
     unfold setP
     by_cases e:m=i
     ·subst e
      rw [calm_getD_set_self (by rw [hI.size];exact hlt)] at hl
      exact absurd hl (by decide)
     ·rw [if_neg e]
      rw [getD_set_ne false (Ne.symm e)] at hl
      exact hI.phN m hm hl) (fun m hm hl=>by
     unfold setP
     by_cases e:m=i
     ·rw [if_pos e];rfl
     ·rw [if_neg e]
      rw [getD_set_ne false (Ne.symm e)] at hl
      exact hI.phS m hm hl) (fun j x hj hjl hne u hu=>hK i oi hoi hs j x hj hne (by
     cases haf:aft j i with
     | false=>rfl
     | true =>
      have:=m_aft_listed hA hlt hs hI.down j haf (by obtain ⟨o,ho,_⟩:=hkn j x hj;exact (Array.getElem?_eq_some_iff.1 ho).1) hjl
      rw [hfl] at this
      exact absurd this (by decide)) _ u _ w w' hphok hpi hI.cls hu hEE) hv hkn) (by omega)
   by_cases hw:Region.wanted oi (yielded ops a.tmps)=true
   ·rw [if_pos hw] at hstep ⊢
    exact .inl (calm_noway (fun _ _ h=>h) hstep)
   ·rw [if_neg hw] at hstep ⊢
    exact hstep
  ·have hs':st i=false:=by simpa using hs
   rw [if_neg hs] at hTT
   have hstep:=hTT ph a w hphok hI.cls hkeepf hfacts (fun a' w'=>wpAny P .any ops Q fuel (listed.setIfInBounds i true) a' w') fun v w' hb hv =>
    ih _ _ _ ph (hI.next hO hoi hi hk (hC _ w w' hb hI.cls) (fun m hm hl=>hI.phN m hm (by
     have hne:i≠m:=fun e=>by subst e;rw [hs'] at hm;exact absurd hm (by decide)
     rwa [getD_set_ne false hne] at hl)) (fun m hm hl=>hI.phS m hm (by
     have hne:i≠m:=fun e=>by subst e;rw [hs'] at hm;exact absurd hm (by decide)
     rwa [getD_set_ne false hne] at hl)) (fun j x hj _ _ u hu=>by
     obtain ⟨o,ho,e⟩:=hkn j x hj
     obtain ⟨Φ',h1,h2,_⟩:=hT j o ho
     rw [hj] at h1
     obtain rfl:x=(o.dst,Φ'):=by simpa using h1
     exact h2 _ u w w' hb hu) hv hkn) (by omega)
   by_cases hw:Region.wanted oi (yielded ops a.tmps)=true
   ·rw [if_pos hw] at hstep ⊢
    exact .inl (calm_noway (fun _ _ h=>h) hstep)
   ·rw [if_neg hw] at hstep ⊢
    exact hstep
theorem wp_region_m {id:Nat}{Q:Exit→Act→World→Prop}{w:World}{l:List Oper}(C:Phase→World→Prop)(st:Nat→Bool)(bef aft:Nat→Nat→Bool)(E:Nat→Value→World→World→Prop)(hm:P.follows .mixedOrders=true)(hO:orderB l.toArray a0.tmps.size=true)(hL:befB l.toArray st bef=true)(hA:aftB l.toArray st aft=true)(hst:∀ m,st m=true→m < l.length)
  (hC:∀ ph w w',Below w.heap.size w w'→C ph w→C ph w') (h0:C (fun _=>none) w.drew)
  (h:mWalk P l.toArray a0 C st bef aft E (fun kn=>mKeeps l.toArray C st bef aft E (mlexL kn [])∧∀ ph w',(∀ m,st m=true→(ph m).isSome=true)→C ph w'→mEnd Q ph w' (mlexL kn []) a0) l 0 []):(Code.region id l.toArray true).wp P Q a0 w:=by
 obtain ⟨knA,kn,⟨hK,hE⟩,hx,hlen,_,hT⟩:=mWalk_all l 0 [] [] rfl (fun p j d Φ h=>absurd h (by simp)) (fun acc=>rfl) h
 rw [hx] at hK hE
 refine wp_region_any hm ?_
 have hsz:l.toArray.size=l.length:=by simp
 refine m_any (kn:=kn) (C:=C) (st:=st) (bef:=bef) (aft:=aft) (E:=E) hO hL hC (by rw [hlen,hsz];omega) (fun m hm=>by rw [hsz];exact hst m hm) (fun i o hi=>?_) hA hK hE _ _ _ _ (fun _=>none) ?_ (calm_unlisted_none _)
 ·have:=hT i o (by simpa using hi)
  simpa using this
 ·have hf:∀ j,(Array.replicate l.toArray.size false).getD j false=false:=fun j=>by
   by_cases hj:j < l.toArray.size <;> simp [Array.getD]
  exact ⟨by simp,rfl,rfl,h0,fun m _ _=>rfl,fun m _ h=>by rw [hf] at h;exact absurd h (by decide),fun j o _ h=>by rw [hf] at h;exact absurd h (by decide),fun _ _=>rfl,fun j x _ h=>by rw [hf] at h;exact absurd h (by decide)⟩
end
def tillM (m:Nat)(R:Value→World→Prop):MSpec:=fun ph v w=>ph m=none→R v w
theorem stable_tillM {m:Nat}{R:Value→World→Prop}(h:∀ v w w',Below w.heap.size w w'→R v w→R v w'):StableM (tillM m R):=fun _ v w w' hb hr hp=>h v w w' hb (hr hp)
def KeepAt (C:Phase→World→Prop)(st:Nat→Bool)(bef aft:Nat→Nat→Bool)(E:Nat→Value→World→World→Prop)(m:Nat) (Φ:MSpec):Prop:=∀ ph u v w w',PhOk st bef aft m ph→ph m=none→C ph w→Φ ph u w→E m v w w'→Φ (setP ph m v) u w'
theorem keep_isV {C:Phase→World→Prop}{st:Nat→Bool}{bef aft:Nat→Nat→Bool}{E:Nat→Value→World→World→Prop}{m:Nat}(c:Value):KeepAt C st bef aft E m (misV c):=fun _ _ _ _ _ _ _ _ h _=>h
def KeepsM (C:Phase→World→Prop)(st:Nat→Bool)(bef aft:Nat→Nat→Bool)(E:Nat→Value→World→World→Prop)(m:Nat):List (Option Tmp×MSpec)→Nat→Prop
 | [],_=>True
 | x::xs,k=>(k=m∨aft k m=true∨KeepAt C st bef aft E m x.2)∧KeepsM C st bef aft E m xs (k+1)
theorem keepsM_get {C:Phase→World→Prop}{st:Nat→Bool}{bef aft:Nat→Nat→Bool}{E:Nat→Value→World→World→Prop}{m:Nat}:∀ {l:List (Option Tmp×MSpec)}{n:Nat},KeepsM C st bef aft E m l n→∀ (k:Nat) x,l[k]? = some x→n+k≠m→aft (n+k) m=false→KeepAt C st bef aft E m x.2
 | [],_,_,k,x,h,_,_=>absurd h (by simp)
 | y::l,n,h,0,x,hx,hne,ha=>by
  obtain rfl:y=x:=by simpa using hx
  rcases h.1 with h1|h1|h1
  ·exact absurd h1 (by simpa using hne)
  ·rw [Nat.add_zero,h1] at ha;exact absurd ha (by decide)
  ·exact h1
 | y::l,n,h,k+1,x,hx,hne,ha=>keepsM_get h.2 k x (by simpa using hx) (by omega) (by rw [show n+1+k=n+(k+1) by omega];exact ha)
theorem keeps_m {ops:Array Oper}{C:Phase→World→Prop}{st:Nat→Bool}{bef aft:Nat→Nat→Bool}{E:Nat→Value→World→World→Prop}{known:List (Option Tmp×MSpec)}(h:∀ m,st m=true→KeepsM C st bef aft E m known 0):mKeeps ops C st bef aft E known :=
 fun m o _ hm k x hk hne ha ph u v w w' h1 h2 h3 h4 h5=>keepsM_get (h m hm) k x hk (by omega) (by rw [Nat.zero_add];exact ha) ph u v w w' h1 h2 h3 h4 h5
def offM (m:Nat)(w0:World):Phase→World→Prop:=fun ph w=>ph m=none→Below w0.heap.size w0 w
theorem offM_stable (m:Nat)(w0:World):∀ ph w w',Below w.heap.size w w'→offM m w0 ph w→offM m w0 ph w':=fun _ _ _ hb h hp=>(h hp).trans (hb.mono (h hp).size)
theorem offM_start (m:Nat)(w0:World):offM m w0 (fun _=>none) w0.drew:=fun _=>Below.drew (.refl _ _)
theorem setP_self (ph:Phase)(m:Nat)(v:Value):setP ph m v m=some v:=if_pos rfl
theorem setP_ne {ph:Phase}{m j:Nat}(v:Value)(h:j≠m):setP ph m v j=ph j:=if_neg h
section
variable {C:Phase→World→Prop}{st:Nat→Bool}{bef aft:Nat→Nat→Bool}{E:Nat→Value→World→World→Prop}{m m':Nat}{R:Value→World→Prop}{S:Value→Prop}
theorem keep_till_self:KeepAt C st bef aft E m (tillM m R):=fun _ _ v _ _ _ _ _ _ _ h=>by rw [setP_self] at h;cases h
theorem keep_till_past (hs:st m'=true)(ha:aft m m'=true)(hne:m'≠m):KeepAt C st bef aft E m (tillM m' R):=fun ph _ v _ _ hp _ _ _ _ h=>by
 rw [setP_ne v hne] at h
 have:=hp.2 m' hs ha
 rw [h] at this;cases this
end
theorem mheld_isV {o:Oper}{known:KnwnM}{a:Act}{ph:Phase}{w:World}(hf:FactsM o known a ph w)(p:Nat){j:Nat}{d:Tmp}{c:Value}(h:known[p]? = some (j,some d,misV c))(hw:waitsB o j=true):a.tmps[d]? = some c:=by
 obtain ⟨v,h1,h2⟩:=hf p j _ _ h hw
 rw [h1 d rfl]
 exact congrArg some h2
theorem mheld_at {o:Oper}{known:KnwnM}{a:Act}{ph:Phase}{w:World}(hf:FactsM o known a ph w)(p:Nat){j:Nat}{d:Tmp} {Φ:MSpec}(h:known[p]? = some (j,some d,Φ))(hw:waitsB o j=true):∃ v,a.tmps[d]? = some v∧Φ ph v w:=by
 obtain ⟨v,h1,h2⟩:=hf p j _ _ h hw
 exact ⟨v,h1 d rfl,h2⟩
def CellsStay (w w':World):Prop:=∀ b j,(w.cell? ⟨b,j,none⟩).isSome=true→(w'.cell? ⟨b,j,none⟩).isSome=true∧w'.frozen? ⟨b,j,none⟩=w.frozen? ⟨b,j,none⟩
theorem CellsStay.refl (w:World):CellsStay w w:=fun _ _ h=>⟨h,rfl⟩
theorem CellsStay.trans {a b c:World}(h:CellsStay a b)(k:CellsStay b c):CellsStay a c:=fun x y hx=>by
 obtain ⟨h1,h2⟩:=h x y hx
 obtain ⟨k1,k2⟩:=k x y h1
 exact ⟨k1,k2.trans h2⟩
theorem stay_lt {w:World}{b j:Nat}(h:(w.cell? ⟨b,j,none⟩).isSome=true):b < w.heap.size:=by
 obtain ⟨v,hv⟩:=Option.isSome_iff_exists.1 h
 exact (spot_of_cell hv).2
theorem CellsStay.of_below {w w':World}(hb:Below w.heap.size w w'):CellsStay w w':=fun b j h=>by
 have hl:=stay_lt h
 exact ⟨by rw [hb.cell (p:=⟨b,j,none⟩) hl];exact h,hb.frozen (p:=⟨b,j,none⟩) hl⟩
theorem CellsStay.setCell (w:World)(a:Addr)(u:Value):CellsStay w (w.setCell a u):=fun b j h=>by
 refine ⟨?_,by rw [World.frozen?_setCell]⟩
 by_cases e:(⟨b,j,none⟩:Addr)=a
 ·subst e
  obtain ⟨v,hv⟩:=Option.isSome_iff_exists.1 h
  rw [World.cell?_setCell_same _ _ _ hv];rfl
 ·rw [World.cell?_setCell_other _ _ _ _ (fun e2=>e e2.symm)];exact h
theorem CellsStay.setCells (g:Nat):∀ (vs:List Value)(o:Nat)(w:World),CellsStay w (w.setCells g o vs)
 | [],_,w=>.refl w
 | v::vs,o,w=>(CellsStay.setCell w _ v).trans (CellsStay.setCells g vs (o+1) _)
theorem CellsStay.of_grown {w w':World}(hg:w.grownBy w' none):CellsStay w w' :=
 .of_below ⟨hg.os,hg.tape,hg.output,hg.size,fun k hk=>hg.block k hk (by simp)⟩
section
variable {P:Program}{w:World}
theorem run_append_OwnS (t ty e:TypeId)(i:TypeInfo)(z:Value)(size bytes:Nat)(ht:P.underlying t=some (.slice e))(hi:P.info? e=some i)(hz:i.zero=some z)
  (hsize:i.size=size) (hby:i.bytes=bytes) (hzs:z.cells.size=size) (hsz:0 < size) {B:Nat} {v:Value} {n:Nat} {xs:List Value} (h:Own w B size v n xs)
  (a:Addr) (m c:Nat) (news:List Value) (hl:news.length=m*size) (hnews:∀ j u,news[j]? = some u→w.cell? (a.add j)=some u) (h1:∀ u∈news,u.oneCell'=true)
  (h63:n+m≤maxLen) (hbytes:(n+m)*bytes≤140737488355328) (hB:B≤w.heap.size) :
  ∃ v' w',(Builtin.append_ #[t,t] ty #[v,.slice (some a) m c]).run P w=.ok v' w'∧Own w' B size v' (n+m) (xs++news)∧w.grownBy w' v.ownBlock∧(∀ k,v'.ownBlock=some k→v.ownBlock=some k∨w.heap.size≤k)∧CellsStay w w':=by
 obtain ⟨v',w',r1,r2,r3,r4⟩:=run_append_OwnA (P:=P) t ty e i z size bytes ht hi hz hsize hby hzs hsz h a m c news hl hnews h1 h63 hbytes hB
 refine ⟨v',w',r1,r2,r3,r4,?_⟩
 obtain ⟨hx,_,h3⟩:=h
 rcases h3 with ⟨rfl,rfl⟩ | ⟨g,off,cap,rfl,hBg,hg,hn,hc,hr⟩
 ·exact .of_grown r3
 ·by_cases hroom:n+m≤cap
  ·have hle:n*size+news.length≤cap*size:=by rw [hl,←Nat.add_mul];exact Nat.mul_le_mul_right _ hroom
   have hrun:=run_append_room_cells (P:=P) w t ty e i ht hi g off n cap a m c news (by rw [hl,hsize]) hnews h1 hroom
    (fun j hj=>by rw [hsize,Nat.add_assoc];exact (hr _ (by omega)).1) (fun j hj=>by rw [hsize,Nat.add_assoc];exact (hr _ (by omega)).2)
   rw [hrun] at r1
   injection r1 with _ e2
   rw [←e2]
   exact .setCells _ _ _ _
  ·obtain ⟨v2,w2,q1,q2,q3⟩:=run_append_arg_grows (P:=P) w t ty e i z size bytes ht hi hz hsize hby hzs hsz ⟨g,off,none⟩ n cap xs hx (fun j u hj=>by rw [Addr.add_lit];exact hc j u hj) a m c news hl hnews (by omega) h63 hbytes
   rw [q1] at r1
   injection r1 with _ e2
   rw [←e2]
   exact .of_grown q3
theorem run_append_srcS (t ty e:TypeId)(i:TypeInfo)(z:Value)(size bytes:Nat)(ht:P.underlying t=some (.slice e))(hi:P.info? e=some i)(hz:i.zero=some z)
  (hsize:i.size=size) (hby:i.bytes=bytes) (hzs:z.cells.size=size) (hsz:0 < size) {B:Nat} {v:Value} {n:Nat} {xs:List Value} (h:Own w B size v n xs)
  {sv:Value} {m:Nat} {news:List Value} (hs:SliceOf w size sv m news) (h1:∀ u∈news,u.oneCell'=true)
  (h63:n+m≤maxLen) (hbytes:(n+m)*bytes≤140737488355328) (hB:B≤w.heap.size) :
  ∃ v' w',(Builtin.append_ #[t,t] ty #[v,sv]).run P w=.ok v' w'∧Own w' B size v' (n+m) (xs++news)∧w.grownBy w' v.ownBlock∧(∀ k,v'.ownBlock=some k→v.ownBlock=some k∨w.heap.size≤k)∧CellsStay w w':=by
 obtain ⟨A,c,rfl,hat⟩:=hs.at_
 cases A with
 | none =>
  have hm:m=0:=by
   rcases Nat.eq_zero_or_pos m with h0|h0
   ·exact h0
   ·obtain ⟨b,off,e1,_⟩:=hat h0;cases e1
  subst hm
  have hn:news=[]:=List.eq_nil_of_length_eq_zero (by rw [hs.1];simp)
  subst hn
  refine ⟨v,w,?_,by simpa using h,⟨rfl,rfl,rfl,Nat.le_refl _,fun _ _ _=>rfl⟩,fun k hk=>.inl hk,.refl w⟩
  obtain ⟨_,_,h3⟩:=h
  rcases h3 with ⟨rfl,rfl⟩ | ⟨g,off,cap,rfl,_,_,hnc,_⟩
  ·simp [Builtin.append_,run_underlying ht,sizeOf,typeInfo,hi,Builtin.lenOf,Builtin.firstCells]
  ·simp [Builtin.append_,run_underlying ht,sizeOf,typeInfo,hi,Builtin.lenOf,Builtin.firstCells,hnc,storeCells]
 | some a =>
  by_cases h0:0 < m
  ·obtain ⟨b,off,e1,_,hc⟩:=hat h0
   cases e1
   exact run_append_OwnS t ty e i z size bytes ht hi hz hsize hby hzs hsz h ⟨b,off,none⟩ m c news hs.1 (fun j u hj=>by rw [Addr.add_lit];exact hc j u hj) h1 h63 hbytes hB
  ·obtain rfl:m=0:=by omega
   have hn:news=[]:=List.eq_nil_of_length_eq_zero (by rw [hs.1];simp)
   subst hn
   exact run_append_OwnS t ty e i z size bytes ht hi hz hsize hby hzs hsz h a 0 c [] (by simp) (fun j u hj=>by simp at hj) h1 h63 hbytes hB
theorem step_append_srcS {ops:Array Oper}{o:Oper}{a:Act}{K:Act→World→Prop}{Q:Exit→Act→World→Prop}{E:Prop}(hgd:o.guard=none)(s x:Operand)(t:TypeId)
  (ho:o.op=.call { callee:=.builtin .append,args:=#[s,x],argTypes:=#[t,t] }) (e:TypeId) (i:TypeInfo) (z:Value) (size bytes:Nat) (ht:P.underlying t=some (.slice e)) (hi:P.info? e=some i)
  (hz:i.zero=some z) (hsize:i.size=size) (hby:i.bytes=bytes) (hzs:z.cells.size=size) (hsz:0 < size) {B:Nat} (v:Value) (n:Nat) (xs:List Value) (hv:a.eval s=v) (h:Own w B size v n xs)
  (sv:Value) (m:Nat) (news:List Value) (hx:a.eval x=sv) (hs:SliceOf w size sv m news) (h1:∀ u∈news,u.oneCell'=true)
  (h63:n+m≤maxLen) (hbytes:(n+m)*bytes≤140737488355328) (hB:B≤w.heap.size)
  (hK:∀ v' w',Own w' B size v' (n+m) (xs++news)→w.grownBy w' v.ownBlock→(∀ k,v'.ownBlock=some k→v.ownBlock=some k∨w.heap.size≤k)→CellsStay w w'→K (a.put o.dst v') w') :
  if Region.wanted o (yielded ops a.tmps)=true then Oper.wp P o a w K Q else E:=by
 have hw:Region.wanted o (yielded ops a.tmps)=true:=by simp [Region.wanted,hgd]
 rw [if_pos hw]
 obtain ⟨v',w',hrun,r1,r2,r3,r4⟩:=run_append_srcS (P:=P) t o.type e i z size bytes ht hi hz hsize hby hzs hsz h hs h1 h63 hbytes hB
 unfold Oper.wp
 simp [execOp,ho,resolve,invoke,builtin,hv,hx,hrun,Result.andThen]
 exact hK v' w' r1 r2 r3 r4
end
end Go.Proofs.YtjbpbfhgjldliaaGreat
