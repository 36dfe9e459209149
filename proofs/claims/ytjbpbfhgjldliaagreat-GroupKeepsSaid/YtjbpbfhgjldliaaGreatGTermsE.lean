/- Terms in memory of the call's own: a slice that it owns, the parts' cells in other blocks than the slice's; no program. -/
import Derived.Test.YtjbpbfhgjldliaaGreatGStrs
import Derived.Test.YtjbpbfhgjldliaaGreatGCell
import Derived.Test.YtjbpbfhgjldliaaGreatGWeighFns
namespace Go.Proofs.YtjbpbfhgjldliaaGreat
open Go Go.RowKit
inductive Trm where
 | mk (op col:Int) (cell:ByteArray) (kids:List Trm)
def Trm.op:Trm→Int
 | .mk o _ _ _=>o
def Trm.col:Trm→Int
 | .mk _ c _ _=>c
def Trm.cell:Trm→ByteArray
 | .mk _ _ b _=>b
def Trm.kids:Trm→List Trm
 | .mk _ _ _ ks=>ks
def okT (t:Trm):Prop:=0≤t.op∧t.op≤255∧-9223372036854775808≤t.col∧t.col≤9223372036854775807
def trmC (t:Value×Trm):List Value:=[.int .u8 t.2.op,.int .i64 t.2.col,.string t.2.cell,t.1]
def trmsV (tv:List (Value×Trm)):List Value:=tv.flatMap trmC
def trmA (t:Value×Trm):Value:=.agg #[.int .u8 t.2.op,.int .i64 t.2.col,.string t.2.cell,t.1]
theorem trmsV_cons (t:Value×Trm)(tv:List (Value×Trm)):trmsV (t::tv)=.int .u8 t.2.op::.int .i64 t.2.col::.string t.2.cell::t.1::trmsV tv:=rfl
theorem trmsV_append (a b:List (Value×Trm)):trmsV (a++b)=trmsV a++trmsV b:=List.flatMap_append
inductive KidsQ (Q:Value→Prop) (w:World):Value→List Trm→Prop
 | mk {v:Value} {l:List Trm} (tv:List (Value×Trm)):tv.map Prod.snd=l→Q v→SliceOf w 4 v l.length (trmsV tv)→(∀ t∈tv,okT t.2)→(∀ t∈tv,KidsQ Q w t.1 t.2.kids)→KidsQ Q w v l
abbrev KidsIn (w:World) (v:Value) (l:List Trm):Prop:=KidsQ (fun _=>True) w v l
def TermQ (Q:Value→Prop)(w:World)(v:Value)(t:Trm):Prop:=∃ kv,v=trmA (kv,t)∧okT t∧KidsQ Q w kv t.kids
abbrev TermIn (w:World) (v:Value) (t:Trm):Prop:=TermQ (fun _=>True) w v t
section
variable {Q Q':Value→Prop}{w w':World}{v:Value}{l:List Trm}{t:Trm}
theorem KidsQ.kept (h:KidsQ Q w v l)(hb:Below w.heap.size w w'):KidsQ Q w' v l:=by
 induction h with
 | mk tv h1 hq h2 h3 _ ih=>exact ⟨tv,h1,hq,SliceOf.later h2 hb,h3,ih⟩
theorem KidsQ.mono (h:KidsQ Q w v l)(hq:∀ u,Q u→Q' u):KidsQ Q' w v l:=by
 induction h with
 | mk tv h1 q h2 h3 _ ih=>exact ⟨tv,h1,hq _ q,h2,h3,ih⟩
theorem KidsQ.any (h:KidsQ Q w v l):KidsIn w v l:=h.mono fun _ _=>trivial
theorem KidsQ.old (h:KidsQ Q w v l)(hq:∀ u n xs,SliceOf w 4 u n xs→Q u→Q' u):KidsQ Q' w v l:=by
 induction h with
 | mk tv h1 q h2 h3 _ ih=>exact ⟨tv,h1,hq _ _ _ h2 q,h2,h3,ih⟩
theorem KidsQ.grown {c:Nat}(h:KidsQ Q w v l)(hg:w.grownBy w' (some c))(hc:∀ u,Q u→u.ownBlock≠some c):KidsQ Q w' v l:=by
 induction h with
 | mk tv h1 q h2 h3 _ ih=>exact ⟨tv,h1,q,h2.keepOwn hg.size fun k hk hl=>hg.block k hl fun e=>hc _ q (by rw [hk];exact e),h3,ih⟩
theorem TermQ.kept (h:TermQ Q w v t)(hb:Below w.heap.size w w'):TermQ Q w' v t:=by
 obtain ⟨kv,e,ho,hk⟩:=h
 exact ⟨kv,e,ho,hk.kept hb⟩
theorem TermQ.any (h:TermQ Q w v t):TermIn w v t:=by
 obtain ⟨kv,e,ho,hk⟩:=h
 exact ⟨kv,e,ho,hk.any⟩
theorem TermQ.mono (h:TermQ Q w v t)(hq:∀ u,Q u→Q' u):TermQ Q' w v t:=by
 obtain ⟨kv,e,ho,hk⟩:=h
 exact ⟨kv,e,ho,hk.mono hq⟩
theorem KidsQ.nil_ (Q:Value→Prop)(w:World)(A:Option Addr)(cap:Nat)(hq:Q (.slice A 0 cap)):KidsQ Q w (.slice A 0 cap) []:=⟨[],rfl,hq,SliceOf.nil_ _ _ _ _,fun t ht=>absurd ht (by simp),fun t ht=>absurd ht (by simp)⟩
theorem KidsIn.nil_ (w:World)(A:Option Addr)(cap:Nat):KidsIn w (.slice A 0 cap) []:=KidsQ.nil_ _ _ _ _ trivial
theorem KidsQ.parts (h:KidsQ Q w v l):∃ tv:List (Value×Trm),tv.map Prod.snd=l∧Q v∧SliceOf w 4 v l.length (trmsV tv)∧∀ t∈tv,okT t.2∧KidsQ Q w t.1 t.2.kids:=by
 cases h with
 | mk tv h1 q h2 h3 h4=>exact ⟨tv,h1,q,h2,fun t ht=>⟨h3 t ht,h4 t ht⟩⟩
theorem KidsQ.of (tv:List (Value×Trm))(h1:tv.map Prod.snd=l)(hq:Q v)(h2:SliceOf w 4 v l.length (trmsV tv))(h3:∀ t∈tv,okT t.2∧KidsQ Q w t.1 t.2.kids):KidsQ Q w v l:=⟨tv,h1,hq,h2,fun t ht=>(h3 t ht).1,fun t ht=>(h3 t ht).2⟩
theorem KidsQ.len (h:KidsQ Q w v l):l.length≤maxLen:=by
 obtain ⟨tv,_,_,h2,_⟩:=h.parts
 exact h2.2.1
end
def TrmBox (w:World)(B:Nat)(op col:Int)(cell:ByteArray)(kv:Value):Prop:=Own w B 4 (.slice (some ⟨B,0,none⟩) 1 1) 1 [.int .u8 op,.int .i64 col,.string cell,kv]
section
variable {w w':World}{B:Nat}{op col:Int}{cell:ByteArray}{kv:Value}
theorem TrmBox.cells (h:TrmBox w B op col cell kv):w.cell? ⟨B,0,none⟩=some (.int .u8 op)∧w.cell? ⟨B,1,none⟩=some (.int .i64 col)∧w.cell? ⟨B,2,none⟩=some (.string cell)∧w.cell? ⟨B,3,none⟩=some kv∧B < w.heap.size:=by
 obtain ⟨_,h2,_,hc,_⟩:=Own.parts h
 have e0:=hc 0 _ rfl
 have e1:=hc 1 _ rfl
 have e2:=hc 2 _ rfl
 have e3:=hc 3 _ rfl
 rw [Nat.zero_add] at e0 e1 e2 e3
 exact ⟨e0,e1,e2,e3,h2⟩
theorem TrmBox.free (h:TrmBox w B op col cell kv):w.frozen? ⟨B,0,none⟩=false∧w.frozen? ⟨B,1,none⟩=false∧w.frozen? ⟨B,2,none⟩=false∧w.frozen? ⟨B,3,none⟩=false:=by
 obtain ⟨_,_,_,_,hr⟩:=Own.parts h
 have e0:=(hr 0 (by decide)).2
 have e1:=(hr 1 (by decide)).2
 have e2:=(hr 2 (by decide)).2
 have e3:=(hr 3 (by decide)).2
 rw [Nat.zero_add] at e0 e1 e2 e3
 exact ⟨e0,e1,e2,e3⟩
theorem TrmBox.later (h:TrmBox w B op col cell kv)(hb:Below w.heap.size w w'):TrmBox w' B op col cell kv:=Own.later h hb
theorem TrmBox.other (h:TrmBox w B op col cell kv){row:Option Nat}(hg:w.grownBy w' row)(hne:row≠some B):TrmBox w' B op col cell kv :=
 Own.other h hg fun k hk e=>by
  simp only [Value.ownBlock,Option.some.injEq] at hk
  subst hk
  exact hne e.symm
theorem TrmBox.put3 (h:TrmBox w B op col cell kv)(v:Value):TrmBox (w.setCell ⟨B,3,none⟩ v) B op col cell v:=by
 have:=Own.stored h 3 (by decide) v
 simp only [Nat.zero_add] at this
 exact this
theorem TrmBox.mono {B':Nat}(h:TrmBox w B op col cell kv):Own w (min B B') 4 (.slice (some ⟨B,0,none⟩) 1 1) 1 [.int .u8 op,.int .i64 col,.string cell,kv]:=Own.mono h (Nat.min_le_left _ _)
end
section
variable {w w':World}{B:Nat}{v v':Value}{tv:List (Value×Trm)}{Q:Value→Prop}
theorem SliceOf.off {size n:Nat}{u:Value}{xs:List Value}(h:SliceOf w size u n xs)(ho:RowOff v u)(hg:w.grownBy w' v.ownBlock):SliceOf w' size u n xs:=by
 obtain ⟨A,c,e,_⟩:=h.at_
 rcases Nat.eq_zero_or_pos n with h0|h0
 ·have hx:xs=[]:=List.eq_nil_of_length_eq_zero (by rw [h.1,h0];simp)
  subst hx
  subst h0
  rw [e]
  exact SliceOf.nil_ _ _ _ _
 ·exact SliceOf.keepOwn h hg.size fun k hk hlt=>hg.block k hlt fun e2=>ho A _ c k e h0 hk e2.symm
theorem SliceOf.turned {size n:Nat}{u:Value}{xs:List Value}(hu:SliceOf w size u n xs)(h:RowOff v u)(hv:∀ k,v'.ownBlock=some k→v.ownBlock=some k∨w.heap.size≤k):RowOff v' u:=by
 intro A m c k e h0 hk e2
 rcases hv k e2 with e3|e3
 ·exact h A m c k e h0 hk e3
 ·obtain ⟨A',c',e',hat⟩:=hu.at_
  rw [e] at e'
  injection e' with h1 h2
  obtain ⟨b,off,ea,hb,_⟩:=hat (by omega)
  rw [e,h1,ea] at hk
  simp only [Value.ownBlock,Option.some.injEq] at hk
  omega
theorem KidsQ.off {l:List Trm}{u:Value}(h:KidsQ Q w u l)(hq:∀ x,Q x→RowOff v x)(hg:w.grownBy w' v.ownBlock):KidsQ Q w' u l:=by
 induction h with
 | mk tv h1 q h2 h3 _ ih=>exact ⟨tv,h1,q,h2.off (hq _ q) hg,h3,ih⟩
structure TrmsOwn (Q:Value→Prop) (w:World) (B:Nat) (v:Value) (tv:List (Value×Trm)):Prop where
 own:Own w B 4 v tv.length (trmsV tv)
 kids:∀ t∈tv,okT t.2∧KidsQ (fun u=>Q u∧RowOff v u) w t.1 t.2.kids
theorem TrmsOwn.nil_ (Q:Value→Prop)(w:World)(B:Nat):TrmsOwn Q w B (.slice none 0 0) []:=⟨Own.nil_ _ _ _,fun _ h=>absurd h (by simp)⟩
theorem TrmsOwn.later (h:TrmsOwn Q w B v tv)(hb:Below w.heap.size w w'):TrmsOwn Q w' B v tv:=⟨h.own.later hb,fun t ht=>⟨(h.kids t ht).1,(h.kids t ht).2.kept hb⟩⟩
theorem TrmsOwn.beside {c:Nat}(h:TrmsOwn Q w B v tv)(hq:∀ u,Q u→RowOff (.slice (some ⟨c,0,none⟩) 1 1) u)(hc:c < B)(hg:w.grownBy w' (some c)):TrmsOwn Q w' B v tv :=
 ⟨h.own.other hg fun k hk e=>by have:=(h.own.lt k hk).1;simp only [Option.some.injEq] at e;omega,fun t ht=>⟨(h.kids t ht).1,(h.kids t ht).2.off (v:=.slice (some ⟨c,0,none⟩) 1 1) (fun u hu=>hq u hu.1) hg⟩⟩
theorem TrmsOwn.add (h:TrmsOwn Q w B v tv){t:Value×Trm}(hk:okT t.2)(hs:KidsQ (fun u=>Q u∧RowOff v u) w t.1 t.2.kids)(hg:w.grownBy w' v.ownBlock)(hv:∀ k,v'.ownBlock=some k→v.ownBlock=some k∨w.heap.size≤k)(hO:Own w' B 4 v' (tv.length+1) (trmsV tv++trmC t)) :
  TrmsOwn Q w' B v' (tv++[t]):=by
 have tu:∀ {u l},KidsQ (fun u=>Q u∧RowOff v u) w u l→KidsQ (fun u=>Q u∧RowOff v' u) w' u l:=fun k =>
  KidsQ.mono (KidsQ.off (v:=v) (KidsQ.old (Q':=fun u=>(Q u∧RowOff v' u)∧RowOff v u) k fun u n xs hu hq=>⟨⟨hq.1,hu.turned hq.2 hv⟩,hq.2⟩) (fun u hu=>hu.2) hg) fun u hu=>hu.1
 refine ⟨?_,fun u hu=>?_⟩
 ·rw [List.length_append,trmsV_append]
  have e:trmsV [t]=trmC t:=by simp [trmsV]
  rw [e];exact hO
 ·rcases List.mem_append.1 hu with hu|hu
  ·exact ⟨(h.kids u hu).1,tu (h.kids u hu).2⟩
  ·rw [List.mem_singleton.1 hu];exact ⟨hk,tu hs⟩
end
end Go.Proofs.YtjbpbfhgjldliaaGreat
