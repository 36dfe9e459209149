/- Terms in memory of the call's own: a slice that it owns, the parts' cells in other blocks than the slice's; no program. -/
import Derived.Test.YtcofhnedidllpaaGWeighFns
import Derived.Test.YtcofhnedidllpaaGZTermBox
namespace Go.Proofs.Ytcofhnedidllpaa
open Go Go.RowKit
section
variable {w w':World}{B:Nat}{v v':Value}{tv:List (Value×Trm)}{Q:Value→Prop}
theorem SliceOf.off {size n:Nat}{u:Value}{xs:List Value}(h:SliceOf w size u n xs)(ho:RowOff v u)(hg:w.grownBy w' v.ownBlock):SliceOf w' size u n xs:=by
 obtain ⟨A,c,e,_⟩:=h.at_
 rcases Nat.eq_zero_or_pos n with h0|h0
 ·have hx:xs=[]:=List.eq_nil_of_length_eq_zero (by rw [h.1,h0];simp)
  subst hx
  subst h0
  rw [e]
  exact SliceOf.nil_ _ _ _ _
 ·exact SliceOf.keepOwn h hg.size fun k hk hlt=>hg.block k hlt fun e2=>ho A _ c k e h0 hk e2.symm
theorem SliceOf.turned {size n:Nat}{u:Value}{xs:List Value}(hu:SliceOf w size u n xs)(h:RowOff v u)(hv:∀ k,v'.ownBlock=some k→v.ownBlock=some k∨w.heap.size≤k):RowOff v' u:=by
 intro A m c k e h0 hk e2
 rcases hv k e2 with e3|e3
 ·exact h A m c k e h0 hk e3
 ·obtain ⟨A',c',e',hat⟩:=hu.at_
  rw [e] at e'
  injection e' with h1 h2
  obtain ⟨b,off,ea,hb,_⟩:=hat (by omega)
  rw [e,h1,ea] at hk
  simp only [Value.ownBlock,Option.some.injEq] at hk
  omega
theorem KidsQ.off {l:List Trm}{u:Value}(h:KidsQ Q w u l)(hq:∀ x,Q x→RowOff v x)(hg:w.grownBy w' v.ownBlock):KidsQ Q w' u l:=by
 induction h with
 | mk tv h1 q h2 h3 _ ih=>exact ⟨tv,h1,q,h2.off (hq _ q) hg,h3,ih⟩
structure TrmsOwn (Q:Value→Prop) (w:World) (B:Nat) (v:Value) (tv:List (Value×Trm)):Prop where
 own:Own w B 4 v tv.length (trmsV tv)
 kids:∀ t∈tv,okT t.2∧KidsQ (fun u=>Q u∧RowOff v u) w t.1 t.2.kids
theorem TrmsOwn.nil_ (Q:Value→Prop)(w:World)(B:Nat):TrmsOwn Q w B (.slice none 0 0) []:=⟨Own.nil_ _ _ _,fun _ h=>absurd h (by simp)⟩
theorem TrmsOwn.later (h:TrmsOwn Q w B v tv)(hb:Below w.heap.size w w'):TrmsOwn Q w' B v tv:=⟨h.own.later hb,fun t ht=>⟨(h.kids t ht).1,(h.kids t ht).2.kept hb⟩⟩
theorem TrmsOwn.add (h:TrmsOwn Q w B v tv){t:Value×Trm}(hk:okT t.2)(hs:KidsQ (fun u=>Q u∧RowOff v u) w t.1 t.2.kids)(hg:w.grownBy w' v.ownBlock)(hv:∀ k,v'.ownBlock=some k→v.ownBlock=some k∨w.heap.size≤k)(hO:Own w' B 4 v' (tv.length+1) (trmsV tv++trmC t)) :
  TrmsOwn Q w' B v' (tv++[t]):=by
 have tu:∀ {u l},KidsQ (fun u=>Q u∧RowOff v u) w u l→KidsQ (fun u=>Q u∧RowOff v' u) w' u l:=fun k =>
  KidsQ.mono (KidsQ.off (v:=v) (KidsQ.old (Q':=fun u=>(Q u∧RowOff v' u)∧RowOff v u) k fun u n xs hu hq=>⟨⟨hq.1,hu.turned hq.2 hv⟩,hq.2⟩) (fun u hu=>hu.2) hg) fun u hu=>hu.1
 refine ⟨?_,fun u hu=>?_⟩
 ·rw [List.length_append,trmsV_append]
  have e:trmsV [t]=trmC t:=by simp [trmsV]
  rw [e];exact hO
 ·rcases List.mem_append.1 hu with hu|hu
  ·exact ⟨(h.kids u hu).1,tu (h.kids u hu).2⟩
  ·rw [List.mem_singleton.1 hu];exact ⟨hk,tu hs⟩
end
end Go.Proofs.Ytcofhnedidllpaa
