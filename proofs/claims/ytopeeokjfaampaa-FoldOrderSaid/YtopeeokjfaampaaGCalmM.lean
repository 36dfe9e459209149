/- append, told of cells: those that are there stay there, and may be written as before; no program. -/
import Derived.Test.YtopeeokjfaampaaGStrs
import Derived.Test.YtopeeokjfaampaaGZCalm
namespace Go.Proofs.Ytopeeokjfaampaa
open Go Go.RowKit
abbrev Phase:=Nat→Option Value
abbrev MSpec:=Phase→Value→World→Prop
section
variable (P:Program)(ops:Array Oper)(a0:Act)(C:Phase→World→Prop)(st:Nat→Bool)(bef aft:Nat→Nat→Bool)(E:Nat→Value→World→World→Prop)
def HeldM (a:Act)(ph:Phase)(w:World)(x:Option Tmp×MSpec):Prop:=∃ v,(∀ d,x.1=some d→a.tmps[d]? = some v)∧x.2 ph v w
abbrev KnwnM:=List (Nat×Option Tmp×MSpec)
end
structure MInv (ops:Array Oper) (a0:Act) (C:Phase→World→Prop) (st:Nat→Bool) (kn:List (Option Tmp×MSpec)) (listed:Array Bool) (a:Act) (w:World) (ph:Phase):Prop where
 size:listed.size=ops.size
 tsize:a.tmps.size=a0.tmps.size
 defers:a.defers=a0.defers
 cls:C ph w
 phN:∀ m,st m=true→listed.getD m false=false→ph m=none
 phS:∀ m,st m=true→listed.getD m false=true→(ph m).isSome=true
 down:∀ (j:Nat) o,ops[j]? = some o→listed.getD j false=true→∀ e∈o.after,Region.binds .any e=true→listed.getD e.on false=true
 old:∀ t:Tmp,(∀ (j:Nat) o,ops[j]? = some o→listed.getD j false=true→o.dst≠some t)→a.tmps[t]? = a0.tmps[t]?
 held:∀ (j:Nat) x,kn[j]? = some x→listed.getD j false=true→HeldM a ph w x
section
variable {P:Program}{ops:Array Oper}{a0:Act}{C:Phase→World→Prop}{st:Nat→Bool}{bef aft:Nat→Nat→Bool}{E:Nat→Value→World→World→Prop}
theorem MInv.next {kn:List (Option Tmp×MSpec)}{listed:Array Bool}{a:Act}{w w':World}{ph ph':Phase}{i:Nat}{oi:Oper}{v:Value} {Φ:MSpec}(hO:orderB ops a0.tmps.size=true)(hI:MInv ops a0 C st kn listed a w ph)
  (hi:ops[i]? = some oi) (hr:i∈Region.ready .any ops listed) (hk:kn[i]? = some (oi.dst,Φ)) (hc:C ph' w') (hpN:∀ m,st m=true→(listed.setIfInBounds i true).getD m false=false→ph' m=none) (hpS:∀ m,st m=true→(listed.setIfInBounds i true).getD m false=true→(ph' m).isSome=true) (hkeep:∀ (j:Nat) (x:Option Tmp×MSpec),kn[j]? = some x→listed.getD j false=true→j≠i→∀ u,x.2 ph u w→x.2 ph' u w') (hv:Φ ph' v w')
  (hkn:∀ (j:Nat) (x:Option Tmp×MSpec),kn[j]? = some x→∃ o,ops[j]? = some o∧x.1=o.dst):MInv ops a0 C st kn (listed.setIfInBounds i true) (a.put oi.dst v) w' ph':=by
 obtain ⟨hun,o',ho',hall⟩:=mem_ready.1 hr
 rw [hi] at ho'
 obtain rfl:oi=o':=by simpa using ho'
 have hlt:=calm_getD_lt hun
 have hO1:=calm_order_spec hO hi
 refine ⟨by simp [hI.size],by rw [calm_put_size,hI.tsize],by rw [calm_put_defers,hI.defers],hc,hpN,hpS,fun j o hj hl e he hb=>?_,fun t ht=>?_,fun j x hj hl=>?_⟩
 ·rcases calm_getD_set_cases hl with rfl|hl
  ·rw [hi] at hj
   obtain rfl:oi=o:=by simpa using hj
   exact getD_set_true (hall e he hb)
  ·exact getD_set_true (hI.down j o hj hl e he hb)
 ·have h1:oi.dst≠some t:=ht i oi hi (calm_getD_set_self hlt)
  have h2:a.tmps[t]? = a0.tmps[t]? := hI.old t fun j o hj hl=>ht j o hj (getD_set_true hl)
  rw [←h2]
  cases hd:oi.dst with
  | none=>rfl
  | some d=>exact calm_put_get a v (fun e=>h1 (by rw [hd,e]))
 ·rcases calm_getD_set_cases hl with rfl|hl2
  ·rw [hk] at hj
   obtain rfl:(oi.dst,Φ)=x:=by simpa using hj
   refine ⟨v,fun d hd=>?_,hv⟩
   have hd:oi.dst=some d:=hd
   rw [hd]
   exact calm_put_same a v (by rw [hI.tsize];exact (hO1.2 d hd).1)
  ·have hne:j≠i:=fun e=>by
    subst e
    rw [calm_getD_false_true hlt,hun] at hl2
    exact absurd hl2 (by decide)
   obtain ⟨u,h1,h2⟩:=hI.held j x hj hl2
   refine ⟨u,fun d hd=>?_,hkeep j x hj hl2 hne u h2⟩
   rw [←h1 d hd]
   obtain ⟨o,ho,e⟩:=hkn j x hj
   cases hdi:oi.dst with
   | none=>rfl
   | some d' =>
    refine calm_put_get a v fun e2=>?_
    subst e2
    exact calm_order_ne hO hi ho (Ne.symm hne) hdi (by rw [←e];exact hd)
end
def CellsStay (w w':World):Prop:=∀ b j,(w.cell? ⟨b,j,none⟩).isSome=true→(w'.cell? ⟨b,j,none⟩).isSome=true∧w'.frozen? ⟨b,j,none⟩=w.frozen? ⟨b,j,none⟩
theorem CellsStay.refl (w:World):CellsStay w w:=fun _ _ h=>⟨h,rfl⟩
theorem CellsStay.trans {a b c:World}(h:CellsStay a b)(k:CellsStay b c):CellsStay a c:=fun x y hx=>by
 obtain ⟨h1,h2⟩:=h x y hx
 obtain ⟨k1,k2⟩:=k x y h1
 exact ⟨k1,k2.trans h2⟩
theorem CellsStay.setCell (w:World)(a:Addr)(u:Value):CellsStay w (w.setCell a u):=fun b j h=>by
 refine ⟨?_,by rw [World.frozen?_setCell]⟩
 by_cases e:(⟨b,j,none⟩:Addr)=a
 ·subst e
  obtain ⟨v,hv⟩:=Option.isSome_iff_exists.1 h
  rw [World.cell?_setCell_same _ _ _ hv];rfl
 ·rw [World.cell?_setCell_other _ _ _ _ (fun e2=>e e2.symm)];exact h
theorem CellsStay.setCells (g:Nat):∀ (vs:List Value)(o:Nat)(w:World),CellsStay w (w.setCells g o vs)
 | [],_,w=>.refl w
 | v::vs,o,w=>(CellsStay.setCell w _ v).trans (CellsStay.setCells g vs (o+1) _)
end Go.Proofs.Ytopeeokjfaampaa
