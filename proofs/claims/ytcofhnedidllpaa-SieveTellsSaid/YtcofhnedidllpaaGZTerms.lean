/- Terms in memory: a value of four cells, its parts a slice of such; no program. -/
import Derived.Test.YtcofhnedidllpaaGStrs
import Derived.Test.YtcofhnedidllpaaGZTermPure
namespace Go.Proofs.Ytcofhnedidllpaa
open Go Go.RowKit
def trmC (t:Value×Trm):List Value:=[.int .u8 t.2.op,.int .i64 t.2.col,.string t.2.cell,t.1]
def trmsV (tv:List (Value×Trm)):List Value:=tv.flatMap trmC
def trmA (t:Value×Trm):Value:=.agg #[.int .u8 t.2.op,.int .i64 t.2.col,.string t.2.cell,t.1]
theorem trmsV_cons (t:Value×Trm)(tv:List (Value×Trm)):trmsV (t::tv)=.int .u8 t.2.op::.int .i64 t.2.col::.string t.2.cell::t.1::trmsV tv:=rfl
theorem trmsV_append (a b:List (Value×Trm)):trmsV (a++b)=trmsV a++trmsV b:=List.flatMap_append
theorem trmsV_length (tv:List (Value×Trm)):(trmsV tv).length=tv.length*4:=by
 induction tv with
 | nil=>rfl
 | cons t tv ih=>rw [trmsV_cons,List.length_cons,List.length_cons,List.length_cons,List.length_cons,ih,List.length_cons];omega
theorem trmsV_get:∀ (tv:List (Value×Trm))(j:Nat)(h:j < tv.length),(trmsV tv)[j*4]? = some (.int .u8 tv[j].2.op)∧(trmsV tv)[j*4+1]? = some (.int .i64 tv[j].2.col)∧(trmsV tv)[j*4+2]? = some (.string tv[j].2.cell)∧(trmsV tv)[j*4+3]? = some tv[j].1
 | [],j,h=>absurd h (by simp)
 | t::tv,0,_=>⟨rfl,rfl,rfl,rfl⟩
 | t::tv,j+1,h=>by
  have:=trmsV_get tv j (by simpa using h)
  have e1:(j+1)*4=j*4+4:=by omega
  rw [e1]
  exact this
inductive KidsQ (Q:Value→Prop) (w:World):Value→List Trm→Prop
 | mk {v:Value} {l:List Trm} (tv:List (Value×Trm)):tv.map Prod.snd=l→Q v→SliceOf w 4 v l.length (trmsV tv)→(∀ t∈tv,okT t.2)→(∀ t∈tv,KidsQ Q w t.1 t.2.kids)→KidsQ Q w v l
abbrev KidsIn (w:World) (v:Value) (l:List Trm):Prop:=KidsQ (fun _=>True) w v l
def TermQ (Q:Value→Prop)(w:World)(v:Value)(t:Trm):Prop:=∃ kv,v=trmA (kv,t)∧okT t∧KidsQ Q w kv t.kids
abbrev TermIn (w:World) (v:Value) (t:Trm):Prop:=TermQ (fun _=>True) w v t
section
variable {Q Q':Value→Prop}{w w':World}{v:Value}{l:List Trm}{t:Trm}
theorem KidsQ.kept (h:KidsQ Q w v l)(hb:Below w.heap.size w w'):KidsQ Q w' v l:=by
 induction h with
 | mk tv h1 hq h2 h3 _ ih=>exact ⟨tv,h1,hq,SliceOf.later h2 hb,h3,ih⟩
theorem KidsQ.mono (h:KidsQ Q w v l)(hq:∀ u,Q u→Q' u):KidsQ Q' w v l:=by
 induction h with
 | mk tv h1 q h2 h3 _ ih=>exact ⟨tv,h1,hq _ q,h2,h3,ih⟩
theorem KidsQ.any (h:KidsQ Q w v l):KidsIn w v l:=h.mono fun _ _=>trivial
theorem KidsQ.old (h:KidsQ Q w v l)(hq:∀ u n xs,SliceOf w 4 u n xs→Q u→Q' u):KidsQ Q' w v l:=by
 induction h with
 | mk tv h1 q h2 h3 _ ih=>exact ⟨tv,h1,hq _ _ _ h2 q,h2,h3,ih⟩
theorem KidsQ.grown {c:Nat}(h:KidsQ Q w v l)(hg:w.grownBy w' (some c))(hc:∀ u,Q u→u.ownBlock≠some c):KidsQ Q w' v l:=by
 induction h with
 | mk tv h1 q h2 h3 _ ih=>exact ⟨tv,h1,q,h2.keepOwn hg.size fun k hk hl=>hg.block k hl fun e=>hc _ q (by rw [hk];exact e),h3,ih⟩
theorem TermQ.kept (h:TermQ Q w v t)(hb:Below w.heap.size w w'):TermQ Q w' v t:=by
 obtain ⟨kv,e,ho,hk⟩:=h
 exact ⟨kv,e,ho,hk.kept hb⟩
theorem TermQ.any (h:TermQ Q w v t):TermIn w v t:=by
 obtain ⟨kv,e,ho,hk⟩:=h
 exact ⟨kv,e,ho,hk.any⟩
theorem TermQ.mono (h:TermQ Q w v t)(hq:∀ u,Q u→Q' u):TermQ Q' w v t:=by
 obtain ⟨kv,e,ho,hk⟩:=h
 exact ⟨kv,e,ho,hk.mono hq⟩
theorem KidsQ.nil_ (Q:Value→Prop)(w:World)(A:Option Addr)(cap:Nat)(hq:Q (.slice A 0 cap)):KidsQ Q w (.slice A 0 cap) []:=⟨[],rfl,hq,SliceOf.nil_ _ _ _ _,fun t ht=>absurd ht (by simp),fun t ht=>absurd ht (by simp)⟩
theorem KidsIn.nil_ (w:World)(A:Option Addr)(cap:Nat):KidsIn w (.slice A 0 cap) []:=KidsQ.nil_ _ _ _ _ trivial
theorem KidsQ.parts (h:KidsQ Q w v l):∃ tv:List (Value×Trm),tv.map Prod.snd=l∧Q v∧SliceOf w 4 v l.length (trmsV tv)∧∀ t∈tv,okT t.2∧KidsQ Q w t.1 t.2.kids:=by
 cases h with
 | mk tv h1 q h2 h3 h4=>exact ⟨tv,h1,q,h2,fun t ht=>⟨h3 t ht,h4 t ht⟩⟩
theorem KidsQ.of (tv:List (Value×Trm))(h1:tv.map Prod.snd=l)(hq:Q v)(h2:SliceOf w 4 v l.length (trmsV tv))(h3:∀ t∈tv,okT t.2∧KidsQ Q w t.1 t.2.kids):KidsQ Q w v l:=⟨tv,h1,hq,h2,fun t ht=>(h3 t ht).1,fun t ht=>(h3 t ht).2⟩
theorem KidsQ.len (h:KidsQ Q w v l):l.length≤maxLen:=by
 obtain ⟨tv,_,_,h2,_⟩:=h.parts
 exact h2.2.1
theorem kids_at (h:KidsQ Q w v l):∃ A cap,v=.slice A l.length cap ∧
  (∀ k,k < l.length→∃ b off,A=some ⟨b,off,none⟩∧b < w.heap.size∧∀ j (hj:j < l.length),∃ kv,okT l[j]∧KidsQ Q w kv l[j].kids∧w.cell? ⟨b,off+j*4,none⟩=some (.int .u8 l[j].op)∧w.cell? ⟨b,off+j*4+1,none⟩=some (.int .i64 l[j].col) ∧
   w.cell? ⟨b,off+j*4+2,none⟩=some (.string l[j].cell)∧w.cell? ⟨b,off+j*4+3,none⟩=some kv):=by
 obtain ⟨tv,rfl,_,h2,h3⟩:=h.parts
 obtain ⟨_,_,A,cap,e,_,h4⟩:=h2
 refine ⟨A,cap,e,fun k hk=>?_⟩
 obtain ⟨b,off,ea,hb,hc⟩:=h4 (by omega)
 refine ⟨b,off,ea,hb,fun j hj=>?_⟩
 have hj':j < tv.length:=by simpa using hj
 have hv:=trmsV_get tv j hj'
 rw [List.getElem_map]
 refine ⟨tv[j].1,(h3 _ (List.getElem_mem hj')).1,(h3 _ (List.getElem_mem hj')).2,hc _ _ hv.1,?_,?_,?_⟩
 ·rw [Nat.add_assoc];exact hc _ _ hv.2.1
 ·rw [Nat.add_assoc];exact hc _ _ hv.2.2.1
 ·rw [Nat.add_assoc];exact hc _ _ hv.2.2.2
theorem lit_kids (w:World)(T:TypeId)(tv:List (Value×Trm))(hr:∀ t∈tv,okT t.2∧KidsQ Q w t.1 t.2.kids)(h:tv.length≤1000)(hq:Q (.slice (some ⟨w.heap.size,0,none⟩) tv.length tv.length)):KidsQ Q (w.alloc (.cells (trmsV tv).toArray T)) (.slice (some ⟨w.heap.size,0,none⟩) tv.length tv.length) (tv.map Prod.snd):=by
 refine KidsQ.of tv rfl hq ?_ fun t ht=>⟨(hr t ht).1,(hr t ht).2.kept ((Below.refl _ w).alloc (Nat.le_refl _) _)⟩
 rw [List.length_map]
 exact (Own.lit (B:=0) (size:=4) w (trmsV tv).toArray T tv.length (Nat.zero_le _) (by unfold maxLen;omega) (by rw [List.size_toArray,trmsV_length])).slice
end
end Go.Proofs.Ytcofhnedidllpaa
