/- A region that draws its order, whose operations read, and make memory, and at last may store: each operation is looked at ONCE, with what is known of those that it waits for; no program. -/
import Derived.Still
import Derived.Below
import Derived.Deep.Draws
import Derived.KernelRfl
namespace Go.Proofs.YtjbpbfhgjldliaaGreat
open Go Go.RowKit
abbrev CSpec:=Bool→Value→World→Prop
def isV (c:Value):CSpec:=fun _ v _=>v=c
def NoWay:Exit→Act→World→Prop:=fun _ _ _=>False
def waitsB (o:Oper)(j:Nat):Bool:=o.after.any fun e=>Region.binds .any e&&e.on==j
def keepB (ops:Array Oper)(k:Nat)(t:Tmp):Bool:=(List.range ops.size).all fun j=>match ops[j]? with|some oj=>oj.dst != some t||j==k||waitsB oj k|none=>true
def orderB (ops:Array Oper)(n:Nat):Bool :=
 (List.range ops.size).all fun k=>match ops[k]? with
  | some o=>(o.after.all fun e=>!Region.binds .any e||decide (e.on < k))&&(match o.dst with
   | some d=>decide (d < n)&&((List.range k).all fun j=>match ops[j]? with|some oj=>oj.dst != some d|none=>true)
   | none=>true)
  | none=>true
def lateB (ops:Array Oper)(st late:Nat→Bool):Bool :=
 (List.range ops.size).all fun k=>late k||st k||(List.range ops.size).all fun m=>!st m||(match ops[m]? with|some o=>waitsB o k|none=>true) ||
  (List.range ops.size).any fun j=>decide (k < j)&&!late j&&!st j&&(match ops[j]? with|some o=>waitsB o k|none=>false)
section
variable (P:Program)(ops:Array Oper)(a0:Act)(C:Bool→World→Prop)(st late:Nat→Bool)(E:Nat→World→World→Prop)
def HeldAt (a:Act)(ph:Bool)(w:World)(x:Option Tmp×CSpec):Prop:=∃ v,(∀ d,x.1=some d→a.tmps[d]? = some v)∧x.2 ph v w
def FactsL (o:Oper)(known:List (Option Tmp×CSpec))(a:Act)(ph:Bool)(w:World):Prop:=∀ (j:Nat)(x:Option Tmp×CSpec),known[j]? = some x→waitsB o j=true→HeldAt a ph w x
def CalmL (k:Nat)(o:Oper)(known:List (Option Tmp×CSpec)) (Φ:CSpec):Prop :=
 ∀ ph a w,(ph=true→late k=true)→C ph w→(∀ t,keepB ops k t=true→a.tmps[t]? = a0.tmps[t]?)→FactsL o known a ph w →
  ∀ K:Act→World→Prop,(∀ v w',Below w.heap.size w w'→Φ ph v w'→K (a.put o.dst v) w')→if Region.wanted o (yielded ops a.tmps)=true then o.wp P a w K NoWay else K (a.put o.dst undef) w
def StoreL (k:Nat)(o:Oper)(known:List (Option Tmp×CSpec)) (Φ:CSpec):Prop :=
 ∀ ph a w,(ph=true→∃ m,m≠k∧st m=true)→C ph w→(∀ t,keepB ops k t=true→a.tmps[t]? = a0.tmps[t]?)→FactsL o known a ph w →
  ∀ K:Act→World→Prop,(∀ v w',E k w w'→C true w'→Φ true v w'→K (a.put o.dst v) w')→if Region.wanted o (yielded ops a.tmps)=true then o.wp P a w K NoWay else K (a.put o.dst undef) w
abbrev Knwn:=List (Nat×Option Tmp×CSpec)
def FactsAt (o:Oper)(known:Knwn)(a:Act)(ph:Bool)(w:World):Prop:=∀ (p j:Nat)(d:Option Tmp) (Φ:CSpec),known[p]? = some (j,d,Φ)→waitsB o j=true→HeldAt a ph w (d,Φ)
def CalmT (k:Nat)(o:Oper)(known:Knwn) (Φ:CSpec):Prop :=
 ∀ ph a w,(ph=true→late k=true)→C ph w→(∀ t,keepB ops k t=true→a.tmps[t]? = a0.tmps[t]?)→FactsAt o known a ph w →
  ∀ K:Act→World→Prop,(∀ v w',Below w.heap.size w w'→Φ ph v w'→K (a.put o.dst v) w')→if Region.wanted o (yielded ops a.tmps)=true then o.wp P a w K NoWay else K (a.put o.dst undef) w
def StoreT (k:Nat)(o:Oper)(known:Knwn) (Φ:CSpec):Prop :=
 ∀ ph a w,(ph=true→∃ m,m≠k∧st m=true)→C ph w→(∀ t,keepB ops k t=true→a.tmps[t]? = a0.tmps[t]?)→FactsAt o known a ph w →
  ∀ K:Act→World→Prop,(∀ v w',E k w w'→C true w'→Φ true v w'→K (a.put o.dst v) w')→if Region.wanted o (yielded ops a.tmps)=true then o.wp P a w K NoWay else K (a.put o.dst undef) w
def StableC (Φ:CSpec):Prop:=∀ ph v w w',Below w.heap.size w w'→Φ ph v w→Φ ph v w'
def calmWalk (Fin:Knwn→Prop):List Oper→Nat→Knwn→Prop
 | [],_,known=>Fin known
 | o::os,k,known=>∃ Φ,StableC Φ∧(if st k=true then StoreT P ops a0 C st E k o known Φ else CalmT P ops a0 C late k o known Φ)∧calmWalk Fin os (k+1) ((k,o.dst,Φ)::known)
def lexL:Knwn→List (Option Tmp×CSpec)→List (Option Tmp×CSpec)
 | [],acc=>acc
 | x::xs,acc=>lexL xs (x.2::acc)
def calmEnd (Q:Exit→Act→World→Prop)(ph:Bool)(w:World):List (Option Tmp×CSpec)→Act→Prop
 | [],a=>Q .normal a w
 | x::xs,a=>∀ v,x.2 ph v w→calmEnd Q ph w xs (a.put x.1 v)
def calmKeeps (n:Nat)(known:List (Option Tmp×CSpec)):Prop :=
 ∀ m,m < n→st m=true→∀ (k:Nat) (x:Option Tmp×CSpec),known[k]? = some x→k≠m→∀ ph v w w',x.2 ph v w→E m w w'→x.2 true v w'
end
theorem stable_isV (c:Value):StableC (isV c):=fun _ _ _ _ _ h=>h
section
variable {P:Program}{ops:Array Oper}{a0:Act}{C:Bool→World→Prop}{st late:Nat→Bool}{E:Nat→World→World→Prop}{Fin:Knwn→Prop}{known:Knwn}{k:Nat}{o:Oper}{os:List Oper}
theorem calm_nil (h:Fin known):calmWalk P ops a0 C st late E Fin [] k known:=h
theorem calm_fix (hs:st k=false)(h:∃ c,CalmT P ops a0 C late k o known (isV c)∧calmWalk P ops a0 C st late E Fin os (k+1) ((k,o.dst,isV c)::known)):calmWalk P ops a0 C st late E Fin (o::os) k known:=by
 obtain ⟨c,h1,h2⟩:=h
 exact ⟨isV c,stable_isV c,by rw [if_neg (by rw [hs];decide)];exact h1,h2⟩
theorem calm_var (Φ:CSpec)(hs:st k=false)(hΦ:StableC Φ)(h:CalmT P ops a0 C late k o known Φ)(h2:calmWalk P ops a0 C st late E Fin os (k+1) ((k,o.dst,Φ)::known)):calmWalk P ops a0 C st late E Fin (o::os) k known :=
 ⟨Φ,hΦ,by rw [if_neg (by rw [hs];decide)];exact h,h2⟩
theorem calm_store (Φ:CSpec)(hs:st k=true)(hΦ:StableC Φ)(h:StoreT P ops a0 C st E k o known Φ)(h2:calmWalk P ops a0 C st late E Fin os (k+1) ((k,o.dst,Φ)::known)):calmWalk P ops a0 C st late E Fin (o::os) k known :=
 ⟨Φ,hΦ,by rw [if_pos hs];exact h,h2⟩
def relK (known:Knwn)(K:List (Option Tmp×CSpec)):Prop:=∀ (p j:Nat)(d:Option Tmp) (Φ:CSpec),known[p]? = some (j,d,Φ)→K[j]? = some (d,Φ)
theorem relK_cons {K:List (Option Tmp×CSpec)}(h:relK known K)(d:Option Tmp) (Φ:CSpec):relK ((K.length,d,Φ)::known) (K++[(d,Φ)]):=fun p j d' Φ' hp=>by
 cases p with
 | zero =>
  simp only [List.getElem?_cons_zero,Option.some.injEq,Prod.mk.injEq] at hp
  obtain ⟨rfl,rfl,rfl⟩:=hp
  exact List.getElem?_concat_length
 | succ p =>
  have h1:=h p j d' Φ' (by simpa using hp)
  rw [List.getElem?_append_left (List.getElem?_eq_some_iff.1 h1).1]
  exact h1
theorem facts_of {K:List (Option Tmp×CSpec)}(hr:relK known K){a:Act}{ph:Bool}{w:World}(h:FactsL o K a ph w):FactsAt o known a ph w:=fun p j d Φ hp hw=>h j _ (hr p j d Φ hp) hw
theorem calmWalk_all:∀ (os:List Oper)(k:Nat)(known:Knwn)(K:List (Option Tmp×CSpec)),K.length=k→relK known K→(∀ acc,lexL known acc=K++acc)→calmWalk P ops a0 C st late E Fin os k known →
  ∃ knA kn,Fin knA∧lexL knA []=kn∧kn.length=k+os.length∧kn.take k=K∧∀ i o,os[i]? = some o→∃ Φ,kn[k+i]? = some (o.dst,Φ)∧StableC Φ∧if st (k+i)=true then StoreL P ops a0 C st E (k+i) o (kn.take (k+i)) Φ else CalmL P ops a0 C late (k+i) o (kn.take (k+i)) Φ
 | [],k,known,K,hk,_,hx,h=>⟨known,K,h,by rw [hx,List.append_nil],by simpa using hk,by rw [←hk,List.take_length],fun i o hi=>absurd hi (by simp)⟩
 | o::os,k,known,K,hk,hr,hx,h=>by
  obtain ⟨Φ,h1,h2,h3⟩:=h
  subst hk
  obtain ⟨knA,kn,g1,gx,g2,g3,g4⟩:=calmWalk_all os (K.length+1) ((K.length,o.dst,Φ)::known) (K++[(o.dst,Φ)]) (by simp) (relK_cons hr o.dst Φ) (fun acc=>by
   show lexL known ((o.dst,Φ)::acc)=_
   rw [hx,List.append_assoc];rfl) h3
  have e1:kn.take K.length=K:=by
   have:=congrArg (List.take K.length) g3
   rw [List.take_take,Nat.min_eq_left (Nat.le_succ _),List.take_append_of_le_length (Nat.le_refl _),List.take_length] at this
   exact this
  refine ⟨knA,kn,g1,gx,by rw [g2,List.length_cons];omega,e1,fun i o' hi=>?_⟩
  cases i with
  | zero =>
   obtain rfl:o=o':=by simpa using hi
   refine ⟨Φ,?_,h1,?_⟩
   ·rw [Nat.add_zero]
    have:=congrArg (fun l=>l[K.length]?) g3
    simp only [List.getElem?_take] at this
    rw [if_pos (Nat.lt_succ_self _)] at this
    rw [this,List.getElem?_concat_length]
   ·rw [Nat.add_zero,e1]
    split
    ·rename_i hs
     rw [if_pos hs] at h2
     exact fun ph a w hp hc hk hf=>h2 ph a w hp hc hk (facts_of hr hf)
    ·rename_i hs
     rw [if_neg hs] at h2
     exact fun ph a w hp hc hk hf=>h2 ph a w hp hc hk (facts_of hr hf)
  | succ i =>
   have:=g4 i o' (by simpa using hi)
   have e:K.length+(i+1)=K.length+1+i:=by omega
   rw [e];exact this
theorem calm_noway {o:Oper}{a:Act}{w:World}{K K':Act→World→Prop}{Q:Exit→Act→World→Prop}(h:∀ a w,K a w→K' a w)(hh:o.wp P a w K NoWay):o.wp P a w K' Q:=by
 unfold Oper.wp at *
 generalize (execOp a.eval o).run P w=r at *
 cases r with
 | ok n w' =>
  cases n <;> simp only [Oper.upon] at hh ⊢ <;>
   first
    | exact h _ _ hh
    | exact Calls.mono hh (fun e w'' he=>by
      cases e with
      | returned v=>exact h _ _ he
      | panicked c=>exact False.elim he
      | outgrown=>obtain ⟨_,_,hx⟩:=he;exact False.elim hx)
    | exact Rows.mono hh (fun _ _ he=>h _ _ he)
 | halt x w'=>cases x <;> simp only [Oper.upon] at hh ⊢;exact False.elim hh
theorem calm_put_get (a:Act){d t:Tmp}(v:Value)(h:d≠t):(a.put (some d) v).tmps[t]? = a.tmps[t]? := by
 simp [Act.put,Array.getElem?_setIfInBounds_ne h]
theorem calm_put_same (a:Act){d:Tmp}(v:Value)(h:d < a.tmps.size):(a.put (some d) v).tmps[d]? = some v:=by
 simp [Act.put,h]
theorem calm_put_size (a:Act)(d:Option Tmp)(v:Value):(a.put d v).tmps.size=a.tmps.size:=by cases d <;> simp [Act.put]
theorem calm_put_defers (a:Act)(d:Option Tmp)(v:Value):(a.put d v).defers=a.defers:=by cases d <;> simp [Act.put]
theorem calm_act_ext {a b:Act}(h1:∀ t:Nat,a.tmps[t]? = b.tmps[t]?)(h2:a.defers=b.defers):a=b:=by
 cases a;cases b
 simp only at h1 h2
 subst h2
 congr 1
 exact Array.ext_getElem? h1
structure CalmI (ops:Array Oper) (a0:Act) (C:Bool→World→Prop) (st:Nat→Bool) (kn:List (Option Tmp×CSpec)) (listed:Array Bool) (a:Act) (w:World) (ph:Bool):Prop where
 size:listed.size=ops.size
 tsize:a.tmps.size=a0.tmps.size
 defers:a.defers=a0.defers
 cls:C ph w
 phT:ph=true→∃ m,st m=true∧listed.getD m false=true
 phF:∀ m,st m=true→listed.getD m false=true→ph=true
 down:∀ (j:Nat) o,ops[j]? = some o→listed.getD j false=true→∀ e∈o.after,Region.binds .any e=true→listed.getD e.on false=true
 old:∀ t:Tmp,(∀ (j:Nat) o,ops[j]? = some o→listed.getD j false=true→o.dst≠some t)→a.tmps[t]? = a0.tmps[t]?
 held:∀ (j:Nat) x,kn[j]? = some x→listed.getD j false=true→HeldAt a ph w x
theorem calm_waits_spec {o:Oper}{j:Nat}(h:waitsB o j=true):∃ e∈o.after,Region.binds .any e=true∧e.on=j:=by
 unfold waitsB at h
 obtain ⟨e,he,hb⟩:=Array.any_eq_true'.1 h
 simp only [Bool.and_eq_true,beq_iff_eq] at hb
 exact ⟨e,he,hb.1,hb.2⟩
theorem calm_order_spec {n:Nat}(h:orderB ops n=true){k:Nat}{o:Oper}(hk:ops[k]? = some o) :
  (∀ e∈o.after,Region.binds .any e=true→e.on < k)∧∀ d,o.dst=some d→d < n∧∀ (j:Nat) oj,ops[j]? = some oj→j < k→oj.dst≠some d:=by
 unfold orderB at h
 have hlt:k < ops.size:=(Array.getElem?_eq_some_iff.1 hk).1
 rw [List.all_eq_true] at h
 have h1:=h k (List.mem_range.2 hlt)
 simp only [hk,Bool.and_eq_true] at h1
 obtain ⟨h1,h2⟩:=h1
 refine ⟨fun e he hb=>?_,fun d hd=>?_⟩
 ·have:=Array.all_eq_true_iff_forall_mem.1 h1 e he
  simp only [hb,Bool.not_true,Bool.false_or,decide_eq_true_eq] at this
  exact this
 ·simp only [hd,Bool.and_eq_true,decide_eq_true_eq,List.all_eq_true] at h2
  refine ⟨h2.1,fun j oj hj hjk=>?_⟩
  have:=h2.2 j (List.mem_range.2 hjk)
  simp only [hj,bne_iff_ne] at this
  exact this
theorem calm_order_ne {n:Nat}(h:orderB ops n=true){i j:Nat}{oi oj:Oper}(hi:ops[i]? = some oi)(hj:ops[j]? = some oj)(hne:i≠j){d:Tmp}(hd:oi.dst=some d):oj.dst≠some d:=by
 rcases Nat.lt_or_ge j i with hlt|hge
 ·exact ((calm_order_spec h hi).2 d hd).2 j oj hj hlt
 ·intro e
  exact ((calm_order_spec h hj).2 d e).2 i oi hi (by omega) hd
theorem calm_getD_false_true {listed:Array Bool}{i:Nat}(h:i < listed.size):listed.getD i false=listed.getD i true:=by
 simp [Array.getD,h]
theorem calm_getD_lt {listed:Array Bool}{i:Nat}(h:listed.getD i true=false):i < listed.size:=by
 rcases Nat.lt_or_ge i listed.size with h'|h'
 ·exact h'
 ·simp [Array.getD,Nat.not_lt.2 h'] at h
theorem calm_getD_set_self {listed:Array Bool}{i:Nat}(h:i < listed.size):(listed.setIfInBounds i true).getD i false=true:=by
 simp [h]
theorem calm_getD_set_cases {listed:Array Bool}{i j:Nat}(h:(listed.setIfInBounds i true).getD j false=true):j=i∨listed.getD j false=true:=by
 by_cases e:i=j
 ·exact .inl e.symm
 ·rw [getD_set_ne false e] at h;exact .inr h
theorem CalmI.next {kn:List (Option Tmp×CSpec)}{listed:Array Bool}{a:Act}{w w':World}{ph ph':Bool}{i:Nat}{oi:Oper}{v:Value} {Φ:CSpec}(hO:orderB ops a0.tmps.size=true)(hI:CalmI ops a0 C st kn listed a w ph)
  (hi:ops[i]? = some oi) (hr:i∈Region.ready .any ops listed) (hk:kn[i]? = some (oi.dst,Φ)) (hc:C ph' w') (hp:ph'=(ph||st i)) (hkeep:∀ (j:Nat) (x:Option Tmp×CSpec),kn[j]? = some x→listed.getD j false=true→j≠i→∀ u,x.2 ph u w→x.2 ph' u w') (hv:Φ ph' v w')
  (hkn:∀ (j:Nat) (x:Option Tmp×CSpec),kn[j]? = some x→∃ o,ops[j]? = some o∧x.1=o.dst):CalmI ops a0 C st kn (listed.setIfInBounds i true) (a.put oi.dst v) w' ph':=by
 obtain ⟨hun,o',ho',hall⟩:=mem_ready.1 hr
 rw [hi] at ho'
 obtain rfl:oi=o':=by simpa using ho'
 have hlt:=calm_getD_lt hun
 have hO1:=calm_order_spec hO hi
 refine ⟨by simp [hI.size],by rw [calm_put_size,hI.tsize],by rw [calm_put_defers,hI.defers],hc,fun h=>?_,fun m hm hl=>?_,fun j o hj hl e he hb=>?_,fun t ht=>?_,fun j x hj hl=>?_⟩
 ·rw [hp] at h
  cases hph:ph with
  | true=>obtain ⟨m,h1,h2⟩:=hI.phT hph;exact ⟨m,h1,getD_set_true h2⟩
  | false=>rw [hph,Bool.false_or] at h;exact ⟨i,h,calm_getD_set_self hlt⟩
 ·rw [hp]
  rcases calm_getD_set_cases hl with rfl|hl
  ·rw [hm,Bool.or_true]
  ·rw [hI.phF m hm hl,Bool.true_or]
 ·rcases calm_getD_set_cases hl with rfl|hl
  ·rw [hi] at hj
   obtain rfl:oi=o:=by simpa using hj
   exact getD_set_true (hall e he hb)
  ·exact getD_set_true (hI.down j o hj hl e he hb)
 ·have h1:oi.dst≠some t:=ht i oi hi (calm_getD_set_self hlt)
  have h2:a.tmps[t]? = a0.tmps[t]? := hI.old t fun j o hj hl=>ht j o hj (getD_set_true hl)
  rw [←h2]
  cases hd:oi.dst with
  | none=>rfl
  | some d=>exact calm_put_get a v (fun e=>h1 (by rw [hd,e]))
 ·rcases calm_getD_set_cases hl with rfl|hl2
  ·rw [hk] at hj
   obtain rfl:(oi.dst,Φ)=x:=by simpa using hj
   refine ⟨v,fun d hd=>?_,hv⟩
   have hd:oi.dst=some d:=hd
   rw [hd]
   exact calm_put_same a v (by rw [hI.tsize];exact (hO1.2 d hd).1)
  ·have hne:j≠i:=fun e=>by
    subst e
    rw [calm_getD_false_true hlt,hun] at hl2
    exact absurd hl2 (by decide)
   obtain ⟨u,h1,h2⟩:=hI.held j x hj hl2
   refine ⟨u,fun d hd=>?_,hkeep j x hj hl2 hne u h2⟩
   rw [←h1 d hd]
   obtain ⟨o,ho,e⟩:=hkn j x hj
   cases hdi:oi.dst with
   | none=>rfl
   | some d' =>
    refine calm_put_get a v fun e2=>?_
    subst e2
    exact calm_order_ne hO hi ho (Ne.symm hne) hdi (by rw [←e];exact hd)
def calmUnlisted (listed:Array Bool)(n:Nat):Nat:=(List.range n).countP fun i=>!listed.getD i true
theorem calm_countP_one {α:Type} [DecidableEq α]{p q:α→Bool}:∀ {l:List α},l.Nodup→∀ {i:α},i∈l→p i=true→q i=false→(∀ j,j≠i→q j=p j)→l.countP q+1=l.countP p
 | x::l,hn,i,hi,h1,h2,h3=>by
  rw [List.nodup_cons] at hn
  rw [List.countP_cons,List.countP_cons]
  by_cases e:x=i
  ·subst e
   have:l.countP q=l.countP p:=List.countP_congr fun y hy=>by rw [h3 y (fun e=>hn.1 (e▸hy))]
   rw [this,h1,h2];simp
  ·have hi':i∈l:=(List.mem_cons.1 hi).resolve_left (fun e2=>e e2.symm)
   have:=calm_countP_one hn.2 hi' h1 h2 h3
   rw [h3 x e];omega
 | [],_,i,hi,_,_,_=>absurd hi (by simp)
theorem calm_unlisted_set {listed:Array Bool}{i n:Nat}(h:listed.getD i true=false)(hn:i < n):calmUnlisted (listed.setIfInBounds i true) n+1=calmUnlisted listed n:=by
 unfold calmUnlisted
 refine calm_countP_one List.nodup_range (List.mem_range.2 hn) (i:=i) (by rw [h];rfl) ?_ fun j hj=>by rw [getD_set_ne true (Ne.symm hj)]
 have:=calm_getD_lt h
 simp [this]
theorem calm_unlisted_zero {listed:Array Bool}{n:Nat}(h:calmUnlisted listed n=0):∀ i,i < n→listed.getD i true=true:=fun i hi=>by
 unfold calmUnlisted at h
 rw [List.countP_eq_zero] at h
 have:=h i (List.mem_range.2 hi)
 simpa using this
theorem calm_late_listed (hL:lateB ops st late=true){m:Nat}(hmo:m < ops.size)(hm:st m=true){listed:Array Bool}(hd:∀ (j:Nat) o,ops[j]? = some o→listed.getD j false=true→∀ e∈o.after,Region.binds .any e=true→listed.getD e.on false=true)(hml:listed.getD m false=true) :
  ∀ k,k < ops.size→late k=false→st k=false→listed.getD k false=true:=by
 have waits:∀ (j k:Nat) (o:Oper),ops[j]? = some o→waitsB o k=true→listed.getD j false=true→listed.getD k false=true:=fun j k o ho hw hl=>by
  obtain ⟨e,he,hb,hon⟩:=calm_waits_spec hw
  have:=hd j o ho hl e he hb
  rwa [hon] at this
 have key:∀ r k,k < ops.size→ops.size≤k+r→late k=false→st k=false→listed.getD k false=true:=by
  intro r
  induction r with
  | zero=>intro k hk hr;omega
  | succ r ih =>
   intro k hk hr h1 h2
   have hL':=hL
   unfold lateB at hL'
   rw [List.all_eq_true] at hL'
   have h3:=hL' k (List.mem_range.2 hk)
   simp only [h1,h2,Bool.false_or,List.all_eq_true,List.mem_range] at h3
   have h4:=h3 m hmo
   have hmx:=Array.getElem?_eq_getElem hmo
   simp only [hm,Bool.not_true,Bool.false_or,hmx,Bool.or_eq_true] at h4
   rcases h4 with h4|h4
   ·exact waits m k _ hmx h4 hml
   ·obtain ⟨j,hj,h5⟩:=List.any_eq_true.1 h4
    rw [List.mem_range] at hj
    have hjx:=Array.getElem?_eq_getElem hj
    simp only [hjx,Bool.and_eq_true,decide_eq_true_eq,Bool.not_eq_true'] at h5
    exact waits j k _ hjx h5.2 (ih j hj (by omega) h5.1.1.2 h5.1.2)
 exact fun k hk=>key ops.size k hk (by omega)
theorem calm_ready_nil {n:Nat}(hO:orderB ops n=true){listed:Array Bool}(hs:listed.size=ops.size)(h:Region.ready .any ops listed=[]):∀ i,i < ops.size→listed.getD i true=true:=by
 intro i
 induction i using Nat.strongRecOn with
 | _ i ih =>
  intro hi
  cases hl:listed.getD i true with
  | true=>rfl
  | false =>
   have ho:=Array.getElem?_eq_getElem hi
   have:i∈Region.ready .any ops listed:=mem_ready.2 ⟨hl,ops[i],ho,fun e he hb=>by
    have hlt:=(calm_order_spec hO ho).1 e he hb
    rw [calm_getD_false_true (by omega)]
    exact ih e.on hlt (by omega)⟩
   rw [h] at this
   cases this
theorem calm_end {Q:Exit→Act→World→Prop}{kn:List (Option Tmp×CSpec)}{listed:Array Bool}{a:Act}{w:World}{ph:Bool}(hO:orderB ops a0.tmps.size=true)(hI:CalmI ops a0 C st kn listed a w ph)(hall:∀ i,i < ops.size→listed.getD i true=true)
  (hlen:kn.length=ops.size) (hkn:∀ (j:Nat) (x:Option Tmp×CSpec),kn[j]? = some x→∃ o,ops[j]? = some o∧x.1=o.dst) (hE:calmEnd Q ph w kn a0):Q .normal a w:=by
 have key:∀ (r:Nat) (b:Act),r≤kn.length→b.tmps.size=a0.tmps.size→b.defers=a0.defers→(∀ t:Tmp,(∀ (j:Nat) o,ops[j]? = some o→j < kn.length-r→o.dst≠some t)→b.tmps[t]? = a0.tmps[t]?) →
   (∀ (j:Nat) x,kn[j]? = some x→j < kn.length-r→∀ d,x.1=some d→b.tmps[d]? = a.tmps[d]?)→calmEnd Q ph w (kn.drop (kn.length-r)) b→Q .normal a w:=by
  intro r
  induction r with
  | zero =>
   intro b _ hbs hbd hold hheld h
   rw [Nat.sub_zero,List.drop_length] at h
   have e:b=a:=calm_act_ext (fun t=>by
    by_cases ht:∃ (j:Nat) (o:Oper),ops[j]? = some o∧o.dst=some t
    ·obtain ⟨j,o,ho,hd⟩:=ht
     have hj:j < kn.length:=by rw [hlen];exact (Array.getElem?_eq_some_iff.1 ho).1
     obtain ⟨o',ho',e⟩:=hkn j kn[j] (List.getElem?_eq_getElem hj)
     rw [ho] at ho'
     obtain rfl:o=o':=by simpa using ho'
     exact hheld j kn[j] (List.getElem?_eq_getElem hj) (by omega) t (by rw [e];exact hd)
    ·rw [hold t fun j o ho _ hd=>ht ⟨j,o,ho,hd⟩,hI.old t fun j o ho _ hd=>ht ⟨j,o,ho,hd⟩]) (by rw [hbd,hI.defers])
   rw [←e];exact h
  | succ r ih =>
   intro b hr hbs hbd hold hheld h
   have hj:kn.length-(r+1) < kn.length:=by omega
   rw [List.drop_eq_getElem_cons hj] at h
   have e1:kn.length-(r+1)+1=kn.length-r:=by omega
   rw [e1] at h
   obtain ⟨o,ho,ed⟩:=hkn _ _ (List.getElem?_eq_getElem hj)
   obtain ⟨v,hv1,hv2⟩:=hI.held _ _ (List.getElem?_eq_getElem hj) (by
    have hlt:kn.length-(r+1) < ops.size:=by omega
    rw [calm_getD_false_true (by rw [hI.size];exact hlt)];exact hall _ hlt)
   refine ih (b.put (kn[kn.length-(r+1)]).1 v) (by omega) (by rw [calm_put_size,hbs]) (by rw [calm_put_defers,hbd]) (fun t ht=>?_) (fun j x hjx hjl d hd=>?_) (h v hv2)
   ·rw [←hold t fun j o' ho' hjl=>ht j o' ho' (by omega)]
    cases hd:(kn[kn.length-(r+1)]).1 with
    | none=>rfl
    | some d=>exact calm_put_get b v fun e=>ht _ o ho (by omega) (by rw [←ed,hd,e])
   ·by_cases e:j=kn.length-(r+1)
    ·subst e
     rw [List.getElem?_eq_getElem hj] at hjx
     obtain rfl:kn[kn.length-(r+1)]=x:=by simpa using hjx
     rw [hd,hv1 d hd]
     exact calm_put_same b v (by rw [hbs];exact ((calm_order_spec hO ho).2 d (by rw [←ed];exact hd)).1)
    ·rw [←hheld j x hjx (by omega) d hd]
     obtain ⟨o',ho',e'⟩:=hkn j x hjx
     cases hd2:(kn[kn.length-(r+1)]).1 with
     | none=>rfl
     | some d2 =>
      refine calm_put_get b v fun e2=>?_
      subst e2
      exact calm_order_ne hO ho ho' (Ne.symm e) (by rw [←ed];exact hd2) (by rw [←e'];exact hd)
 refine key kn.length a0 (Nat.le_refl _) rfl rfl (fun _ _=>rfl) (fun j x _ hj=>absurd hj (by omega)) ?_
 rw [Nat.sub_self,List.drop_zero]
 exact hE
theorem calm_any {Q:Exit→Act→World→Prop}{kn:List (Option Tmp×CSpec)}(hO:orderB ops a0.tmps.size=true)(hL:lateB ops st late=true)(hC:∀ ph w w',Below w.heap.size w w'→C ph w→C ph w')(hlen:kn.length=ops.size)(hst:∀ m,st m=true→m < ops.size)
  (hT:∀ (i:Nat) o,ops[i]? = some o→∃ Φ,kn[i]? = some (o.dst,Φ)∧StableC Φ∧if st i=true then StoreL P ops a0 C st E i o (kn.take i) Φ else CalmL P ops a0 C late i o (kn.take i) Φ)
  (hK:calmKeeps st E ops.size kn) (hE:∀ w,C ((List.range ops.size).any st) w→calmEnd Q ((List.range ops.size).any st) w kn a0) :
  ∀ (fuel:Nat) (listed:Array Bool) (a:Act) (w:World) (ph:Bool),CalmI ops a0 C st kn listed a w ph→calmUnlisted listed ops.size=fuel→wpAny P .any ops Q fuel listed a w:=by
 have hkn:∀ (j:Nat) (x:Option Tmp×CSpec),kn[j]? = some x→∃ o,ops[j]? = some o∧x.1=o.dst:=fun j x hj=>by
  have hlt:j < ops.size:=by rw [←hlen];exact (List.getElem?_eq_some_iff.1 hj).1
  have ho:=Array.getElem?_eq_getElem hlt
  obtain ⟨Φ,h1,_⟩:=hT j _ ho
  rw [hj] at h1
  obtain rfl:x=(ops[j].dst,Φ):=by simpa using h1
  exact ⟨_,ho,rfl⟩
 have hend:∀ (listed:Array Bool) (a:Act) (w:World) (ph:Bool),CalmI ops a0 C st kn listed a w ph→(∀ i,i < ops.size→listed.getD i true=true)→Q .normal a w:=fun listed a w ph hI hall=>by
  have hph:ph=(List.range ops.size).any st:=by
   cases hp:(List.range ops.size).any st with
   | true =>
    obtain ⟨m,hm,hs⟩:=List.any_eq_true.1 hp
    rw [List.mem_range] at hm
    exact hI.phF m hs (by rw [calm_getD_false_true (by rw [hI.size];exact hm)];exact hall m hm)
   | false =>
    cases hph:ph with
    | false=>rfl
    | true =>
     obtain ⟨m,h1,_⟩:=hI.phT hph
     rw [List.any_eq_false] at hp
     exact absurd h1 (hp m (List.mem_range.2 (hst m h1)))
  exact calm_end hO hI hall hlen hkn (by rw [hph];exact hE w (by rw [←hph];exact hI.cls))
 intro fuel
 induction fuel with
 | zero =>
  intro listed a w ph hI hf
  have hall:=calm_unlisted_zero hf
  refine ⟨?_,hend _ _ _ _ hI hall⟩
  cases hr:Region.ready .any ops listed with
  | nil=>rfl
  | cons x xs =>
   have hx:x∈Region.ready .any ops listed:=by rw [hr];exact List.mem_cons_self ..
   obtain ⟨h1,o,ho,_⟩:=mem_ready.1 hx
   rw [hall x (Array.getElem?_eq_some_iff.1 ho).1] at h1
   exact absurd h1 (by decide)
 | succ fuel ih =>
  intro listed a w ph hI hf
  refine ⟨fun h=>hend _ _ _ _ hI (calm_ready_nil hO hI.size h),fun i hi=>?_⟩
  obtain ⟨hun,oi,hoi,hall⟩:=mem_ready.1 hi
  have hlt:i < ops.size:=(Array.getElem?_eq_some_iff.1 hoi).1
  have hfl:(listed.getD i false)=false:=by rw [calm_getD_false_true (by rw [hI.size];exact hlt)];exact hun
  obtain ⟨Φ,hk,hS,hTT⟩:=hT i oi hoi
  have hkeepf:∀ t,keepB ops i t=true→a.tmps[t]? = a0.tmps[t]? := fun t ht=>hI.old t fun j o hj hl hd=>by
   unfold keepB at ht
   rw [List.all_eq_true] at ht
   have h1:=ht j (List.mem_range.2 (Array.getElem?_eq_some_iff.1 hj).1)
   simp only [hj,hd,bne_self_eq_false,Bool.false_or,Bool.or_eq_true,beq_iff_eq] at h1
   rcases h1 with h1|h1
   ·subst h1;rw [hfl] at hl;exact absurd hl (by decide)
   ·obtain ⟨e,he,hb,hon⟩:=calm_waits_spec h1
    have:=hI.down j o hj hl e he hb
    rw [hon,hfl] at this
    exact absurd this (by decide)
  have hfacts:FactsL oi (kn.take i) a ph w:=fun j x hj hwt=>by
   obtain ⟨e,he,hb,hon⟩:=calm_waits_spec hwt
   have h1:=hall e he hb
   rw [hon] at h1
   rw [List.getElem?_take] at hj
   split at hj
   ·exact hI.held j x hj h1
   ·exact absurd hj (by simp)
  have hun2:=calm_unlisted_set hun hlt
  unfold wpOp
  simp only [hoi]
  by_cases hs:st i=true
  ·rw [if_pos hs] at hTT
   have hstep:=hTT ph a w (fun hp=>by
    obtain ⟨m,h1,h2⟩:=hI.phT hp
    exact ⟨m,fun e=>by subst e;rw [hfl] at h2;exact absurd h2 (by decide),h1⟩) hI.cls hkeepf hfacts (fun a' w'=>wpAny P .any ops Q fuel (listed.setIfInBounds i true) a' w') fun v w' hEE hc hv =>
    ih _ _ _ true (hI.next hO hoi hi hk hc (by rw [hs,Bool.or_true]) (fun j x hj _ hne u hu=>hK i hlt hs j x hj hne ph u w w' hu hEE) hv hkn) (by omega)
   by_cases hw:Region.wanted oi (yielded ops a.tmps)=true
   ·rw [if_pos hw] at hstep ⊢
    exact .inl (calm_noway (fun _ _ h=>h) hstep)
   ·rw [if_neg hw] at hstep ⊢
    exact hstep
  ·have hs':st i=false:=by simpa using hs
   rw [if_neg hs] at hTT
   have hlate:ph=true→late i=true:=fun hp=>by
    obtain ⟨m,hm,hml⟩:=hI.phT hp
    cases hlt0:late i with
    | true=>rfl
    | false =>
     have:=calm_late_listed hL (hst m hm) hm hI.down hml i hlt hlt0 hs'
     rw [hfl] at this
     exact absurd this (by decide)
   have hstep:=hTT ph a w hlate hI.cls hkeepf hfacts (fun a' w'=>wpAny P .any ops Q fuel (listed.setIfInBounds i true) a' w') fun v w' hb hv =>
    ih _ _ _ ph (hI.next hO hoi hi hk (hC ph w w' hb hI.cls) (by rw [hs',Bool.or_false]) (fun j x hj _ _ u hu=>by
     obtain ⟨o,ho,e⟩:=hkn j x hj
     obtain ⟨Φ',h1,h2,_⟩:=hT j o ho
     rw [hj] at h1
     obtain rfl:x=(o.dst,Φ'):=by simpa using h1
     exact h2 ph u w w' hb hu) hv hkn) (by omega)
   by_cases hw:Region.wanted oi (yielded ops a.tmps)=true
   ·rw [if_pos hw] at hstep ⊢
    exact .inl (calm_noway (fun _ _ h=>h) hstep)
   ·rw [if_neg hw] at hstep ⊢
    exact hstep
theorem calm_unlisted_none (n:Nat):calmUnlisted (Array.replicate n false) n=n:=by
 unfold calmUnlisted
 rw [List.countP_eq_length.2,List.length_range]
 intro i hi
 have:=List.mem_range.1 hi
 simp [this]
theorem wp_region_calm {id:Nat}{Q:Exit→Act→World→Prop}{w:World}{l:List Oper}(C:Bool→World→Prop)(st late:Nat→Bool)(E:Nat→World→World→Prop)(ph:Bool)(hph:(List.range l.length).any st=ph)(hm:P.follows .mixedOrders=true)(hO:orderB l.toArray a0.tmps.size=true)(hL:lateB l.toArray st late=true)(hst:∀ m,st m=true→m < l.length)
  (hC:∀ ph w w',Below w.heap.size w w'→C ph w→C ph w') (h0:C false w.drew)
  (h:calmWalk P l.toArray a0 C st late E (fun kn=>calmKeeps st E l.length (lexL kn [])∧∀ w',C ph w'→calmEnd Q ph w' (lexL kn []) a0) l 0 []):(Code.region id l.toArray true).wp P Q a0 w:=by
 subst hph
 obtain ⟨knA,kn,⟨hK,hE⟩,hx,hlen,_,hT⟩:=calmWalk_all l 0 [] [] rfl (fun p j d Φ h=>absurd h (by simp)) (fun acc=>rfl) h
 rw [hx] at hK hE
 refine wp_region_any hm ?_
 have hsz:l.toArray.size=l.length:=by simp
 refine calm_any (kn:=kn) (C:=C) (st:=st) (late:=late) (E:=E) hO hL hC (by rw [hlen,hsz];omega) (fun m hm=>by rw [hsz];exact hst m hm) (fun i o hi=>?_) (by rw [hsz];exact hK) (by rw [hsz];exact hE) _ _ _ _ false ?_ (calm_unlisted_none _)
 ·have:=hT i o (by simpa using hi)
  simpa using this
 ·have hf:∀ j,(Array.replicate l.toArray.size false).getD j false=false:=fun j=>by
   by_cases hj:j < l.toArray.size <;> simp [Array.getD]
  exact ⟨by simp,rfl,rfl,h0,fun h=>absurd h (by decide),fun m _ h=>by rw [hf] at h;exact absurd h (by decide),fun j o _ h=>by rw [hf] at h;exact absurd h (by decide),fun _ _=>rfl,fun j x _ h=>by rw [hf] at h;exact absurd h (by decide)⟩
end
def ahead (R:Value→World→Prop):CSpec:=fun ph v w=>ph=false→R v w
def behind (R:World→Prop):CSpec:=fun ph _ w=>ph=true→∃ w0,R w0∧Below w0.heap.size w0 w
def offC (w0:World):Bool→World→Prop:=fun ph w=>ph=false→Below w0.heap.size w0 w
def anyE:Nat→World→World→Prop:=fun _ _ _=>True
theorem stable_ahead {R:Value→World→Prop}(h:∀ v w w',Below w.heap.size w w'→R v w→R v w'):StableC (ahead R):=fun _ v w w' hb hr hp=>h v w w' hb (hr hp)
theorem stable_behind (R:World→Prop):StableC (behind R):=fun _ _ _ _ hb h hp=>by
 obtain ⟨w0,h1,h2⟩:=h hp
 exact ⟨w0,h1,h2.trans (hb.mono h2.size)⟩
theorem offC_stable (w0:World):∀ ph w w',Below w.heap.size w w'→offC w0 ph w→offC w0 ph w':=fun _ _ _ hb h hp=>(h hp).trans (hb.mono (h hp).size)
theorem offC_start (w0:World):offC w0 false w0.drew:=fun _=>Below.drew (.refl _ _)
def both (S:Value→Prop)(R:Value→World→Prop):CSpec:=fun ph v w=>S v∧(ph=false→R v w)
def Loose (Φ:CSpec):Prop:=∀ ph v w w',Φ ph v w→Φ true v w'
theorem loose_isV (c:Value):Loose (isV c):=fun _ _ _ _ h=>h
def KeepsL (m:Nat):List (Option Tmp×CSpec)→Nat→Prop
 | [],_=>True
 | x::xs,k=>(k=m∨Loose x.2)∧KeepsL m xs (k+1)
theorem keepsL_get {m:Nat}:∀ {l:List (Option Tmp×CSpec)}{n:Nat},KeepsL m l n→∀ (k:Nat) x,l[k]? = some x→n+k≠m→Loose x.2
 | [],_,_,k,x,h,_=>absurd h (by simp)
 | y::l,n,h,0,x,hx,hne=>by
  obtain rfl:y=x:=by simpa using hx
  exact h.1.resolve_left (by simpa using hne)
 | y::l,n,h,k+1,x,hx,hne=>keepsL_get h.2 k x (by simpa using hx) (by omega)
theorem keeps_one {st:Nat→Bool}{n m:Nat}{known:List (Option Tmp×CSpec)}(hst:∀ k,st k=true→k=m)(h:KeepsL m known 0):calmKeeps st anyE n known :=
 fun m' _ hm k x hk hne ph v w w' hx _=>keepsL_get h k x hk (by rw [←hst m' hm];omega) ph v w w' hx
theorem keeps_none {n:Nat}{known:List (Option Tmp×CSpec)}:calmKeeps (fun _=>false) anyE n known:=fun _ _ h=>absurd h (by simp)
def CalmA (P:Program)(ops:Array Oper)(a0:Act)(C:Bool→World→Prop)(k:Nat)(o:Oper)(known:Knwn) (Φ:CSpec):Prop :=
 ∀ a w,C false w→(∀ t,keepB ops k t=true→a.tmps[t]? = a0.tmps[t]?)→FactsAt o known a false w →
  ∀ K:Act→World→Prop,(∀ v w',Below w.heap.size w w'→Φ false v w'→K (a.put o.dst v) w')→if Region.wanted o (yielded ops a.tmps)=true then o.wp P a w K NoWay else K (a.put o.dst undef) w
section
variable {P:Program}{ops:Array Oper}{a0:Act}{C:Bool→World→Prop}{st late:Nat→Bool}{E:Nat→World→World→Prop}{Fin:Knwn→Prop}{known:Knwn}{k:Nat}{o:Oper}{os:List Oper}
theorem CalmA.calm {Φ:CSpec}(hl:late k=false)(h:CalmA P ops a0 C k o known Φ):CalmT P ops a0 C late k o known Φ:=fun ph a w hp hc hk hf K hK=>by
 cases ph with
 | true=>exact absurd ((hp rfl).symm.trans hl) (by decide)
 | false=>exact h a w hc hk hf K hK
theorem calm_fixA (hs:st k=false)(hl:late k=false)(h:∃ c,CalmA P ops a0 C k o known (isV c)∧calmWalk P ops a0 C st late E Fin os (k+1) ((k,o.dst,isV c)::known)):calmWalk P ops a0 C st late E Fin (o::os) k known:=by
 obtain ⟨c,h1,h2⟩:=h
 exact calm_fix hs ⟨c,h1.calm hl,h2⟩
theorem calm_varA (R:Value→World→Prop)(hs:st k=false)(hl:late k=false)(hR:∀ v w w',Below w.heap.size w w'→R v w→R v w')(h:CalmA P ops a0 C k o known (ahead R))(h2:calmWalk P ops a0 C st late E Fin os (k+1) ((k,o.dst,ahead R)::known)):calmWalk P ops a0 C st late E Fin (o::os) k known :=
 calm_var _ hs (stable_ahead hR) (h.calm hl) h2
theorem calm_storeA {w0:World}(R:World→Prop)(hs:st k=true)(h1:∀ m,st m=true→m=k)
  (h:∀ a w,Below w0.heap.size w0 w→(∀ t,keepB ops k t=true→a.tmps[t]? = a0.tmps[t]?)→FactsAt o known a false w→∀ K:Act→World→Prop,(∀ v w',R w'→K (a.put o.dst v) w')→if Region.wanted o (yielded ops a.tmps)=true then o.wp P a w K NoWay else K (a.put o.dst undef) w)
  (h2:calmWalk P ops a0 (offC w0) st late anyE Fin os (k+1) ((k,o.dst,behind R)::known)):calmWalk P ops a0 (offC w0) st late anyE Fin (o::os) k known :=
 calm_store _ hs (stable_behind R) (fun ph a w hp hc hk hf K hK=>by
  cases ph with
  | true =>
   obtain ⟨m,h3,h4⟩:=hp rfl
   exact absurd (h1 m h4) h3
  | false=>exact h a w (hc rfl) hk hf K fun v w' hR=>hK v w' trivial (fun h=>absurd h (by decide)) fun _=>⟨w',hR,.refl _ _⟩) h2
end
theorem held_isV {o:Oper}{known:Knwn}{a:Act}{ph:Bool}{w:World}(hf:FactsAt o known a ph w)(p:Nat){j:Nat}{d:Tmp}{c:Value}(h:known[p]? = some (j,some d,isV c))(hw:waitsB o j=true):a.tmps[d]? = some c:=by
 obtain ⟨v,h1,h2⟩:=hf p j _ _ h hw
 rw [h1 d rfl]
 exact congrArg some h2
theorem held_at {o:Oper}{known:Knwn}{a:Act}{ph:Bool}{w:World}(hf:FactsAt o known a ph w)(p:Nat){j:Nat}{d:Tmp} {Φ:CSpec}(h:known[p]? = some (j,some d,Φ))(hw:waitsB o j=true):∃ v,a.tmps[d]? = some v∧Φ ph v w:=by
 obtain ⟨v,h1,h2⟩:=hf p j _ _ h hw
 exact ⟨v,h1 d rfl,h2⟩
end Go.Proofs.YtjbpbfhgjldliaaGreat
