/- What TableOnce's own region stands on: a box beside slices that grow, told by which writers have come; plain facts; no program. -/
import Derived.Test.YtafmbnafibahkaaGreatGTableRef
import Derived.Test.YtafmbnafibahkaaGreatGZCalm
import Derived.Test.YtafmbnafibahkaaGreatGTableAwake
namespace Go.Proofs.YtafmbnafibahkaaGreat
open Go Go.RowKit
abbrev Phase:=Nat→Option Value
abbrev MSpec:=Phase→Value→World→Prop
def setP (ph:Phase)(m:Nat)(v:Value):Phase:=fun j=>if j=m then some v else ph j
section
variable (P:Program)(ops:Array Oper)(a0:Act)(C:Phase→World→Prop)(st:Nat→Bool)(bef aft:Nat→Nat→Bool)(E:Nat→Value→World→World→Prop)
def HeldM (a:Act)(ph:Phase)(w:World)(x:Option Tmp×MSpec):Prop:=∃ v,(∀ d,x.1=some d→a.tmps[d]? = some v)∧x.2 ph v w
abbrev KnwnM:=List (Nat×Option Tmp×MSpec)
end
structure MInv (ops:Array Oper) (a0:Act) (C:Phase→World→Prop) (st:Nat→Bool) (kn:List (Option Tmp×MSpec)) (listed:Array Bool) (a:Act) (w:World) (ph:Phase):Prop where
 size:listed.size=ops.size
 tsize:a.tmps.size=a0.tmps.size
 defers:a.defers=a0.defers
 cls:C ph w
 phN:∀ m,st m=true→listed.getD m false=false→ph m=none
 phS:∀ m,st m=true→listed.getD m false=true→(ph m).isSome=true
 down:∀ (j:Nat) o,ops[j]? = some o→listed.getD j false=true→∀ e∈o.after,Region.binds .any e=true→listed.getD e.on false=true
 old:∀ t:Tmp,(∀ (j:Nat) o,ops[j]? = some o→listed.getD j false=true→o.dst≠some t)→a.tmps[t]? = a0.tmps[t]?
 held:∀ (j:Nat) x,kn[j]? = some x→listed.getD j false=true→HeldM a ph w x
section
variable {P:Program}{ops:Array Oper}{a0:Act}{C:Phase→World→Prop}{st:Nat→Bool}{bef aft:Nat→Nat→Bool}{E:Nat→Value→World→World→Prop}
theorem MInv.next {kn:List (Option Tmp×MSpec)}{listed:Array Bool}{a:Act}{w w':World}{ph ph':Phase}{i:Nat}{oi:Oper}{v:Value} {Φ:MSpec}(hO:orderB ops a0.tmps.size=true)(hI:MInv ops a0 C st kn listed a w ph)
  (hi:ops[i]? = some oi) (hr:i∈Region.ready .any ops listed) (hk:kn[i]? = some (oi.dst,Φ)) (hc:C ph' w') (hpN:∀ m,st m=true→(listed.setIfInBounds i true).getD m false=false→ph' m=none) (hpS:∀ m,st m=true→(listed.setIfInBounds i true).getD m false=true→(ph' m).isSome=true) (hkeep:∀ (j:Nat) (x:Option Tmp×MSpec),kn[j]? = some x→listed.getD j false=true→j≠i→∀ u,x.2 ph u w→x.2 ph' u w') (hv:Φ ph' v w')
  (hkn:∀ (j:Nat) (x:Option Tmp×MSpec),kn[j]? = some x→∃ o,ops[j]? = some o∧x.1=o.dst):MInv ops a0 C st kn (listed.setIfInBounds i true) (a.put oi.dst v) w' ph':=by
 obtain ⟨hun,o',ho',hall⟩:=mem_ready.1 hr
 rw [hi] at ho'
 obtain rfl:oi=o':=by simpa using ho'
 have hlt:=calm_getD_lt hun
 have hO1:=calm_order_spec hO hi
 refine ⟨by simp [hI.size],by rw [calm_put_size,hI.tsize],by rw [calm_put_defers,hI.defers],hc,hpN,hpS,fun j o hj hl e he hb=>?_,fun t ht=>?_,fun j x hj hl=>?_⟩
 ·rcases calm_getD_set_cases hl with rfl|hl
  ·rw [hi] at hj
   obtain rfl:oi=o:=by simpa using hj
   exact getD_set_true (hall e he hb)
  ·exact getD_set_true (hI.down j o hj hl e he hb)
 ·have h1:oi.dst≠some t:=ht i oi hi (calm_getD_set_self hlt)
  have h2:a.tmps[t]? = a0.tmps[t]? := hI.old t fun j o hj hl=>ht j o hj (getD_set_true hl)
  rw [←h2]
  cases hd:oi.dst with
  | none=>rfl
  | some d=>exact calm_put_get a v (fun e=>h1 (by rw [hd,e]))
 ·rcases calm_getD_set_cases hl with rfl|hl2
  ·rw [hk] at hj
   obtain rfl:(oi.dst,Φ)=x:=by simpa using hj
   refine ⟨v,fun d hd=>?_,hv⟩
   have hd:oi.dst=some d:=hd
   rw [hd]
   exact calm_put_same a v (by rw [hI.tsize];exact (hO1.2 d hd).1)
  ·have hne:j≠i:=fun e=>by
    subst e
    rw [calm_getD_false_true hlt,hun] at hl2
    exact absurd hl2 (by decide)
   obtain ⟨u,h1,h2⟩:=hI.held j x hj hl2
   refine ⟨u,fun d hd=>?_,hkeep j x hj hl2 hne u h2⟩
   rw [←h1 d hd]
   obtain ⟨o,ho,e⟩:=hkn j x hj
   cases hdi:oi.dst with
   | none=>rfl
   | some d' =>
    refine calm_put_get a v fun e2=>?_
    subst e2
    exact calm_order_ne hO hi ho (Ne.symm hne) hdi (by rw [←e];exact hd)
end
theorem setP_ne {ph:Phase}{m j:Nat}(v:Value)(h:j≠m):setP ph m v j=ph j:=if_neg h
def BoxZ (B:Nat)(w:World)(p:Value):Prop:=∃ b,p=.pointer (some ⟨b,0,none⟩)∧B≤b∧b < w.heap.size∧TBox w b ⟨#[]⟩ (.slice none 0 0) (.slice none 0 0) (.slice none 0 0)∧NoInt w b
theorem BoxZ.kept {B:Nat}{w w':World}{p:Value}(h:BoxZ B w p)(hb:Below w.heap.size w w'):BoxZ B w' p:=by
 obtain ⟨b,e,h1,h2,h3,h4⟩:=h
 exact ⟨b,e,h1,Nat.lt_of_lt_of_le h2 hb.size,h3.later hb,h4.later h2 hb⟩
theorem BoxZ.other {B:Nat}{w w':World}{p:Value}(h:BoxZ B w p){row:Option Nat}(hg:w.grownBy w' row)(hne:∀ b,p=.pointer (some ⟨b,0,none⟩)→row≠some b):BoxZ B w' p:=by
 obtain ⟨b,e,h1,h2,h3,h4⟩:=h
 exact ⟨b,e,h1,Nat.lt_of_lt_of_le h2 hg.size,h3.other hg (hne b e),h4.other h2 hg (hne b e)⟩
def boxC (w0:World):Phase→World→Prop:=fun ph w=>Below w0.heap.size w0 w∧(ph 11=none→∀ p,ph 10=some p→BoxZ w0.heap.size w p)
def oldQ (B:Nat)(u:Value):Prop:=∀ b,B≤b→RowOff (boxV b) u
def OffPh (ph:Phase)(v:Value):Prop:=∀ b,ph 10=some (.pointer (some ⟨b,0,none⟩))→v.ownBlock≠some b
section
variable {m B n:Nat}{xs:List Value}{t:Tbl}{c:Int}
variable {C:Phase→World→Prop}{st:Nat→Bool}{bef aft:Nat→Nat→Bool}{E:Nat→Value→World→World→Prop}
theorem boxC.grown {w0 w w':World}{ph:Phase}{v v':Value}{k:Nat}(hc:boxC w0 ph w)(h:Own w w0.heap.size 2 v n xs)(ho:OffPh ph v)(hk:k≠10)(hk2:k≠11)(hg:w.grownBy w' v.ownBlock):boxC w0 (setP ph k v') w' :=
 ⟨h.grown hc.1 hc.1.size hg,fun h11 p hp=>by
  rw [setP_ne _ (Ne.symm hk2)] at h11
  rw [setP_ne _ (Ne.symm hk)] at hp
  exact (hc.2 h11 p hp).other hg fun b e=>ho b (by rw [hp,e])⟩
theorem OffPh.grown {w0 w:World}{ph:Phase}{v v':Value}{k:Nat}(hc:boxC w0 ph w)(ho:OffPh ph v)(h11:ph 11=none)(hk:k≠10)(hr:∀ j,v'.ownBlock=some j→v.ownBlock=some j∨w.heap.size≤j):OffPh (setP ph k v') v':=fun b hb e=>by
 rw [setP_ne _ (Ne.symm hk)] at hb
 rcases hr b e with h1|h1
 ·exact ho b hb h1
 ·obtain ⟨b2,e2,_,h2,_⟩:=hc.2 h11 _ hb
  simp only [Value.pointer.injEq,Option.some.injEq,Addr.mk.injEq,and_true] at e2
  omega
end
end Go.Proofs.YtafmbnafibahkaaGreat
