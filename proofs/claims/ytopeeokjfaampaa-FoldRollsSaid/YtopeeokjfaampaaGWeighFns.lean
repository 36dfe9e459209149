/- Rows in memory of the call's own: a slice that it owns, the rows' cells in other blocks than the slice's; no program. -/
import Derived.Test.YtopeeokjfaampaaGStrs
import Derived.Test.YtopeeokjfaampaaGTimes
import Derived.Test.YtopeeokjfaampaaGWeighRef
import Derived.Sort.Grow
import Derived.Lib.SliceRun
namespace Go.Proofs.Ytopeeokjfaampaa
open Go Go.RowKit
def RowOff (v u:Value):Prop:=∀ A n c k,u=.slice A n c→0 < n→u.ownBlock=some k→v.ownBlock≠some k
def RowsOff (v:Value)(tv:List (Value×Int)):Prop:=∀ t∈tv,RowOff v t.1
structure TimesOwn (w:World) (B:Nat) (v:Value) (tv:List (Value×Int)) (l:List Tm):Prop where
 own:Own w B 2 v l.length (timesV tv)
 rows:RowsOf w tv l
 off:RowsOff v tv
section
variable {w w':World}
theorem StrsIn.off {v u:Value}{l:List ByteArray}(h:StrsIn w u l)(ho:RowOff v u)(hg:w.grownBy w' v.ownBlock):StrsIn w' u l:=by
 obtain ⟨A,c,e,hat⟩:=one_at h
 rcases Nat.eq_zero_or_pos l.length with h0|h0
 ·have hl:l=[]:=List.eq_nil_of_length_eq_zero h0
  subst hl
  subst e
  exact SliceOf.nil_ _ _ _ _
 ·exact SliceOf.keepOwn h hg.size fun k hk hlt=>hg.block k hlt fun e2=>ho A _ c k e h0 hk e2.symm
theorem RowsOf.offs {v:Value}(hg:w.grownBy w' v.ownBlock):∀ {tv:List (Value×Int)}{l:List Tm},RowsOf w tv l→RowsOff v tv→RowsOf w' tv l
 | [],[],_,_=>trivial
 | t::_,_::_,h,ho=>⟨⟨StrsIn.off h.1.1 (ho t (List.mem_cons_self ..)) hg,h.1.2⟩,RowsOf.offs hg h.2 fun u hu=>ho u (List.mem_cons_of_mem _ hu)⟩
 | [],_::_,h,_=>h.elim
 | _::_,[],h,_=>h.elim
theorem RowsOf.set:∀ {tv:List (Value×Int)}{l:List Tm}(k:Nat)(t:Value×Int)(x:Tm),RowsOf w tv l→StrsIn w t.1 x.1→t.2=x.2→RowsOf w (tv.set k t) (l.set k x)
 | [],[],_,_,_,_,_,_=>trivial
 | _::_,_::_,0,_,_,h,h1,h2=>⟨⟨h1,h2⟩,h.2⟩
 | _::_,_::_,k+1,t,x,h,h1,h2=>⟨h.1,RowsOf.set k t x h.2 h1 h2⟩
 | [],_::_,_,_,_,h,_,_=>h.elim
 | _::_,[],_,_,_,h,_,_=>h.elim
theorem timesV_set:∀ (tv:List (Value×Int))(k:Nat)(t:Value×Int),timesV (tv.set k t)=((timesV tv).set (k*2) t.1).set (k*2+1) (.int .i64 t.2)
 | [],k,t=>by simp [timesV]
 | _::_,0,_=>rfl
 | u::tv,k+1,t=>by
  have e1:(k+1)*2=k*2+2:=by omega
  rw [e1]
  show u.1::Value.int .i64 u.2::timesV (tv.set k t)=u.1::Value.int .i64 u.2::(((timesV tv).set (k*2) t.1).set (k*2+1) (.int .i64 t.2))
  rw [timesV_set tv k t]
theorem RowOff.below {v u:Value}{B:Nat}{l:List ByteArray}(h:StrsIn w u l)(hw:w.heap.size≤B)(hv:∀ k,v.ownBlock=some k→B≤k):RowOff v u:=by
 intro A n c k e h0 hk e2
 obtain ⟨A',c',e',hat⟩:=one_at h
 rw [e] at e'
 obtain ⟨b,off,ea,hb,_⟩:=hat 0 (by injection e' with _ h2;omega)
 injection e' with h1
 rw [e,h1,ea] at hk
 simp only [Value.ownBlock,Option.some.injEq] at hk
 have:=hv k e2
 omega
theorem RowOff.of_fresh {v u:Value}{B:Nat}(hf:Fresh B u)(hv:∀ k,v.ownBlock=some k→k < B):RowOff v u:=fun _ _ _ k _ _ hk e2=>by have h1:=hf k hk;have h2:=hv k e2;omega
theorem RowOff.turned {v v' u:Value}{l:List ByteArray}(h:RowOff v u)(hu:StrsIn w u l)(hv:∀ k,v'.ownBlock=some k→v.ownBlock=some k∨w.heap.size≤k):RowOff v' u:=by
 intro A n c k e h0 hk e2
 rcases hv k e2 with e3|e3
 ·exact h A n c k e h0 hk e3
 ·obtain ⟨A',c',e',hat⟩:=one_at hu
  rw [e] at e'
  obtain ⟨b,off,ea,hb,_⟩:=hat 0 (by injection e' with _ h2;omega)
  injection e' with h1
  rw [e,h1,ea] at hk
  simp only [Value.ownBlock,Option.some.injEq] at hk
  omega
theorem RowsOf.mem:∀ {tv:List (Value×Int)}{l:List Tm},RowsOf w tv l→∀ t∈tv,∃ x∈l,StrsIn w t.1 x.1∧t.2=x.2
 | [],[],_,t,ht=>absurd ht (by simp)
 | u::_,x::_,h,t,ht=>by
  rcases List.mem_cons.1 ht with rfl|ht
  ·exact ⟨x,List.mem_cons_self ..,h.1⟩
  ·obtain ⟨y,hy,k⟩:=RowsOf.mem h.2 t ht
   exact ⟨y,List.mem_cons_of_mem _ hy,k⟩
 | [],_::_,h,_,_=>h.elim
 | _::_,[],h,_,_=>h.elim
theorem TimesOwn.nil_ (w:World)(B:Nat):TimesOwn w B (.slice none 0 0) [] []:=⟨Own.nil_ _ _ _,trivial,fun _ h=>absurd h (by simp)⟩
theorem TimesOwn.times {B:Nat}{v:Value}{tv:List (Value×Int)}{l:List Tm}(h:TimesOwn w B v tv l):TimesIn w v l:=TimesIn.of h.own.slice h.rows rfl
theorem TimesOwn.later {B:Nat}{v:Value}{tv:List (Value×Int)}{l:List Tm}(h:TimesOwn w B v tv l)(hb:Below w.heap.size w w'):TimesOwn w' B v tv l:=⟨h.own.later hb,h.rows.kept hb,h.off⟩
theorem TimesOwn.lt {B:Nat}{v:Value}{tv:List (Value×Int)}{l:List Tm}(h:TimesOwn w B v tv l):∀ k,v.ownBlock=some k→B≤k:=fun k hk=>(h.own.lt k hk).1
theorem TimesOwn.add {B n:Nat}{v v' rv:Value}{tv:List (Value×Int)}{l:List Tm}{row:List ByteArray}{c:Int}(h:TimesOwn w B v tv l)(hs:StrsIn w rv row)(ho:RowOff v rv)(hg:w.grownBy w' v.ownBlock)
  (hv:∀ k,v'.ownBlock=some k→v.ownBlock=some k∨w.heap.size≤k) (hO:Own w' B 2 v' n (timesV tv++[rv,.int .i64 c])) (hn:n=l.length+1):TimesOwn w' B v' (tv++[(rv,c)]) (l++[(row,c)]):=by
 subst hn
 refine ⟨?_,(h.rows.offs hg h.off).append (RowsOf.one (StrsIn.off hs ho hg)),fun t ht=>?_⟩
 ·rw [timesV_append,List.length_append];exact hO
 ·rcases List.mem_append.1 ht with ht|ht
  ·obtain ⟨x,_,hx,_⟩:=h.rows.mem t ht
   exact (h.off t ht).turned hx hv
  ·rw [List.mem_singleton.1 ht];exact ho.turned hs hv
theorem TimesOwn.at_ {B g off cap n:Nat}{tv:List (Value×Int)}{l:List Tm}(h:TimesOwn w B (.slice (some ⟨g,off,none⟩) n cap) tv l)(j:Nat)(hj:j < l.length) :
  ∃ rv,StrsIn w rv l[j].1∧tv[j]? = some (rv,l[j].2)∧RowOff (.slice (some ⟨g,off,none⟩) n cap) rv∧w.cell? ⟨g,off+j*2,none⟩=some rv∧w.cell? ⟨g,off+j*2+1,none⟩=some (.int .i64 l[j].2) ∧
   w.frozen? ⟨g,off+j*2,none⟩=false∧w.frozen? ⟨g,off+j*2+1,none⟩=false∧B≤g∧g < w.heap.size:=by
 have hl:=h.rows.length
 have hg:=h.rows.get j (by omega) hj
 have hv:=timesV_get tv j (by omega)
 have hO:=h.own
 obtain ⟨A',cap',e⟩:=hO.len
 cases e
 obtain ⟨h1,h2,h3,h4,h5⟩:=hO.parts
 refine ⟨tv[j].1,hg.1,by rw [List.getElem?_eq_getElem (by omega),←hg.2],h.off _ (List.getElem_mem _),h4 _ _ hv.1,by rw [←hg.2];exact h4 _ _ hv.2,(h5 (j*2) (by omega)).2,(h5 (j*2+1) (by omega)).2,h1,h2⟩
theorem TimesOwn.stored {B g off cap n:Nat}{tv:List (Value×Int)}{l:List Tm}(h:TimesOwn w B (.slice (some ⟨g,off,none⟩) n cap) tv l)(j:Nat)(hj:j < l.length){rv:Value}{row:List ByteArray}(c:Int)
  (hs:StrsIn w rv row) (ho:RowOff (.slice (some ⟨g,off,none⟩) n cap) rv) :
  TimesOwn ((w.setCell ⟨g,off+j*2,none⟩ rv).setCell ⟨g,off+j*2+1,none⟩ (.int .i64 c)) B (.slice (some ⟨g,off,none⟩) n cap) (tv.set j (rv,c)) (l.set j (row,c)):=by
 have hO:=h.own
 obtain ⟨A',cap',e⟩:=hO.len
 cases e
 have k1:=Own.stored (Own.stored hO (j*2) (by omega) rv) (j*2+1) (by omega) (.int .i64 c)
 have hgr:w.grownBy ((w.setCell ⟨g,off+j*2,none⟩ rv).setCell ⟨g,off+j*2+1,none⟩ (.int .i64 c)) (some g):=setCells_grown g [rv,.int .i64 c] (off+j*2) w
 refine ⟨?_,?_,fun t ht=>?_⟩
 ·rw [timesV_set,List.length_set];exact k1
 ·exact (h.rows.offs hgr h.off).set j (rv,c) (row,c) (StrsIn.off hs ho hgr) rfl
 ·rcases List.mem_or_eq_of_mem_set ht with ht|rfl
  ·exact h.off t ht
  ·exact ho
theorem TimesOwn.slice {B:Nat}{v:Value}{tv:List (Value×Int)}{l:List Tm}(h:TimesOwn w B v tv l):∃ A p,v=.slice A l.length p:=h.own.len
theorem TimesOwn.some_ {B:Nat}{v:Value}{tv:List (Value×Int)}{l:List Tm}(h:TimesOwn w B v tv l)(h0:0 < l.length):∃ g off cap,v=.slice (some ⟨g,off,none⟩) l.length cap∧l.length≤cap:=by
 rcases h.own.2.2 with ⟨_,hn⟩ | ⟨g,off,cap,e,_,_,hc,_⟩
 ·omega
 ·exact ⟨g,off,cap,e,hc⟩
theorem TimesOwn.frontQ {Q:Value→Prop}{B g off cap n m:Nat}{tv:List (Value×Int)}{l:List Tm}(h:TimesOwn w B (.slice (some ⟨g,off,none⟩) n cap) tv l)(hq:∀ t∈tv,Q t.1)(hm:m≤n)(zs:List Value) :
  TimesQ Q (w.setCells g (off+m*2) zs) (.slice (some ⟨g,off,none⟩) m cap) (l.take m):=by
 have hO:=h.own
 obtain ⟨A',cap',e⟩:=hO.len
 cases e
 have hgr:w.grownBy (w.setCells g (off+m*2) zs) (some g):=setCells_grown g zs (off+m*2) w
 have hl:=h.rows.length
 obtain ⟨h1,h2,h3,h4,h5⟩:=hO.parts
 have hlen:(timesV tv).length=l.length*2:=by rw [timesV_length,hl]
 refine ⟨tv.take m,⟨by rw [timesV_length,List.length_take,List.length_take];omega,by have:=hO.2.1;rw [List.length_take];omega,some ⟨g,off,none⟩,cap,by rw [List.length_take,Nat.min_eq_left hm],by rw [List.length_take];omega,fun _=>⟨g,off,rfl,by rw [setCells_size];exact h2,fun j u hu=>?_⟩⟩,(h.rows.offs hgr h.off).take m,fun t ht=>hq t (List.mem_of_mem_take ht)⟩
 rw [←take_timesV,List.getElem?_take] at hu
 split at hu
 ·rename_i hj
  rw [World.cell?_setCells_out g zs _ w ⟨g,off+j,none⟩ (fun _ _=>.inl (by simp;omega))]
  exact h4 j u hu
 ·exact absurd hu (by simp)
theorem TimesOwn.front {B g off cap n m:Nat}{tv:List (Value×Int)}{l:List Tm}(h:TimesOwn w B (.slice (some ⟨g,off,none⟩) n cap) tv l)(hm:m≤n)(zs:List Value) :
  TimesIn (w.setCells g (off+m*2) zs) (.slice (some ⟨g,off,none⟩) m cap) (l.take m):=(h.frontQ (Q:=fun _=>True) (fun _ _=>trivial) hm zs).times
end
end Go.Proofs.Ytopeeokjfaampaa
