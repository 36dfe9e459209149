/- The contracts of layer 10's own compare, none, goes, copied, and of the library's Clone. -/
import Derived.Test.YtjbpbfhgjldliaaGreatGStrs
import Derived.Test.YtjbpbfhgjldliaaGreatGTimes
import Derived.Test.YtjbpbfhgjldliaaGreatGWeighRef
import Derived.Lib.SliceRun
import Derived.Sort.Grow
namespace Go.Proofs.YtjbpbfhgjldliaaGreat
open Go Go.RowKit
def RowOff (v u:Value):Prop:=∀ A n c k,u=.slice A n c→0 < n→u.ownBlock=some k→v.ownBlock≠some k
def RowsOff (v:Value)(tv:List (Value×Int)):Prop:=∀ t∈tv,RowOff v t.1
structure TimesOwn (w:World) (B:Nat) (v:Value) (tv:List (Value×Int)) (l:List Tm):Prop where
 own:Own w B 2 v l.length (timesV tv)
 rows:RowsOf w tv l
 off:RowsOff v tv
section
variable {w w':World}
theorem StrsIn.off {v u:Value}{l:List ByteArray}(h:StrsIn w u l)(ho:RowOff v u)(hg:w.grownBy w' v.ownBlock):StrsIn w' u l:=by
 obtain ⟨A,c,e,hat⟩:=one_at h
 rcases Nat.eq_zero_or_pos l.length with h0|h0
 ·have hl:l=[]:=List.eq_nil_of_length_eq_zero h0
  subst hl
  subst e
  exact SliceOf.nil_ _ _ _ _
 ·exact SliceOf.keepOwn h hg.size fun k hk hlt=>hg.block k hlt fun e2=>ho A _ c k e h0 hk e2.symm
theorem RowsOf.offs {v:Value}(hg:w.grownBy w' v.ownBlock):∀ {tv:List (Value×Int)}{l:List Tm},RowsOf w tv l→RowsOff v tv→RowsOf w' tv l
 | [],[],_,_=>trivial
 | t::_,_::_,h,ho=>⟨⟨StrsIn.off h.1.1 (ho t (List.mem_cons_self ..)) hg,h.1.2⟩,RowsOf.offs hg h.2 fun u hu=>ho u (List.mem_cons_of_mem _ hu)⟩
 | [],_::_,h,_=>h.elim
 | _::_,[],h,_=>h.elim
theorem RowsOf.set:∀ {tv:List (Value×Int)}{l:List Tm}(k:Nat)(t:Value×Int)(x:Tm),RowsOf w tv l→StrsIn w t.1 x.1→t.2=x.2→RowsOf w (tv.set k t) (l.set k x)
 | [],[],_,_,_,_,_,_=>trivial
 | _::_,_::_,0,_,_,h,h1,h2=>⟨⟨h1,h2⟩,h.2⟩
 | _::_,_::_,k+1,t,x,h,h1,h2=>⟨h.1,RowsOf.set k t x h.2 h1 h2⟩
 | [],_::_,_,_,_,h,_,_=>h.elim
 | _::_,[],_,_,_,h,_,_=>h.elim
theorem timesV_set:∀ (tv:List (Value×Int))(k:Nat)(t:Value×Int),timesV (tv.set k t)=((timesV tv).set (k*2) t.1).set (k*2+1) (.int .i64 t.2)
 | [],k,t=>by simp [timesV]
 | _::_,0,_=>rfl
 | u::tv,k+1,t=>by
  have e1:(k+1)*2=k*2+2:=by omega
  rw [e1]
  show u.1::Value.int .i64 u.2::timesV (tv.set k t)=u.1::Value.int .i64 u.2::(((timesV tv).set (k*2) t.1).set (k*2+1) (.int .i64 t.2))
  rw [timesV_set tv k t]
theorem RowOff.below {v u:Value}{B:Nat}{l:List ByteArray}(h:StrsIn w u l)(hw:w.heap.size≤B)(hv:∀ k,v.ownBlock=some k→B≤k):RowOff v u:=by
 intro A n c k e h0 hk e2
 obtain ⟨A',c',e',hat⟩:=one_at h
 rw [e] at e'
 obtain ⟨b,off,ea,hb,_⟩:=hat 0 (by injection e' with _ h2;omega)
 injection e' with h1
 rw [e,h1,ea] at hk
 simp only [Value.ownBlock,Option.some.injEq] at hk
 have:=hv k e2
 omega
theorem RowOff.of_fresh {v u:Value}{B:Nat}(hf:Fresh B u)(hv:∀ k,v.ownBlock=some k→k < B):RowOff v u:=fun _ _ _ k _ _ hk e2=>by have h1:=hf k hk;have h2:=hv k e2;omega
theorem RowOff.of_nil {u:Value}:RowOff (.slice none 0 0) u:=fun _ _ _ _ _ _ _ e=>by simp [Value.ownBlock] at e
theorem RowOff.turned {v v' u:Value}{l:List ByteArray}(h:RowOff v u)(hu:StrsIn w u l)(hv:∀ k,v'.ownBlock=some k→v.ownBlock=some k∨w.heap.size≤k):RowOff v' u:=by
 intro A n c k e h0 hk e2
 rcases hv k e2 with e3|e3
 ·exact h A n c k e h0 hk e3
 ·obtain ⟨A',c',e',hat⟩:=one_at hu
  rw [e] at e'
  obtain ⟨b,off,ea,hb,_⟩:=hat 0 (by injection e' with _ h2;omega)
  injection e' with h1
  rw [e,h1,ea] at hk
  simp only [Value.ownBlock,Option.some.injEq] at hk
  omega
theorem RowsOf.mem:∀ {tv:List (Value×Int)}{l:List Tm},RowsOf w tv l→∀ t∈tv,∃ x∈l,StrsIn w t.1 x.1∧t.2=x.2
 | [],[],_,t,ht=>absurd ht (by simp)
 | u::_,x::_,h,t,ht=>by
  rcases List.mem_cons.1 ht with rfl|ht
  ·exact ⟨x,List.mem_cons_self ..,h.1⟩
  ·obtain ⟨y,hy,k⟩:=RowsOf.mem h.2 t ht
   exact ⟨y,List.mem_cons_of_mem _ hy,k⟩
 | [],_::_,h,_,_=>h.elim
 | _::_,[],h,_,_=>h.elim
theorem TimesOwn.nil_ (w:World)(B:Nat):TimesOwn w B (.slice none 0 0) [] []:=⟨Own.nil_ _ _ _,trivial,fun _ h=>absurd h (by simp)⟩
theorem TimesOwn.times {B:Nat}{v:Value}{tv:List (Value×Int)}{l:List Tm}(h:TimesOwn w B v tv l):TimesIn w v l:=TimesIn.of h.own.slice h.rows rfl
theorem TimesOwn.later {B:Nat}{v:Value}{tv:List (Value×Int)}{l:List Tm}(h:TimesOwn w B v tv l)(hb:Below w.heap.size w w'):TimesOwn w' B v tv l:=⟨h.own.later hb,h.rows.kept hb,h.off⟩
theorem TimesOwn.lt {B:Nat}{v:Value}{tv:List (Value×Int)}{l:List Tm}(h:TimesOwn w B v tv l):∀ k,v.ownBlock=some k→B≤k:=fun k hk=>(h.own.lt k hk).1
theorem TimesOwn.add {B n:Nat}{v v' rv:Value}{tv:List (Value×Int)}{l:List Tm}{row:List ByteArray}{c:Int}(h:TimesOwn w B v tv l)(hs:StrsIn w rv row)(ho:RowOff v rv)(hg:w.grownBy w' v.ownBlock)
  (hv:∀ k,v'.ownBlock=some k→v.ownBlock=some k∨w.heap.size≤k) (hO:Own w' B 2 v' n (timesV tv++[rv,.int .i64 c])) (hn:n=l.length+1):TimesOwn w' B v' (tv++[(rv,c)]) (l++[(row,c)]):=by
 subst hn
 refine ⟨?_,(h.rows.offs hg h.off).append (RowsOf.one (StrsIn.off hs ho hg)),fun t ht=>?_⟩
 ·rw [timesV_append,List.length_append];exact hO
 ·rcases List.mem_append.1 ht with ht|ht
  ·obtain ⟨x,_,hx,_⟩:=h.rows.mem t ht
   exact (h.off t ht).turned hx hv
  ·rw [List.mem_singleton.1 ht];exact ho.turned hs hv
theorem TimesOwn.at_ {B g off cap n:Nat}{tv:List (Value×Int)}{l:List Tm}(h:TimesOwn w B (.slice (some ⟨g,off,none⟩) n cap) tv l)(j:Nat)(hj:j < l.length) :
  ∃ rv,StrsIn w rv l[j].1∧tv[j]? = some (rv,l[j].2)∧RowOff (.slice (some ⟨g,off,none⟩) n cap) rv∧w.cell? ⟨g,off+j*2,none⟩=some rv∧w.cell? ⟨g,off+j*2+1,none⟩=some (.int .i64 l[j].2) ∧
   w.frozen? ⟨g,off+j*2,none⟩=false∧w.frozen? ⟨g,off+j*2+1,none⟩=false∧B≤g∧g < w.heap.size:=by
 have hl:=h.rows.length
 have hg:=h.rows.get j (by omega) hj
 have hv:=timesV_get tv j (by omega)
 have hO:=h.own
 obtain ⟨A',cap',e⟩:=hO.len
 cases e
 obtain ⟨h1,h2,h3,h4,h5⟩:=hO.parts
 refine ⟨tv[j].1,hg.1,by rw [List.getElem?_eq_getElem (by omega),←hg.2],h.off _ (List.getElem_mem _),h4 _ _ hv.1,by rw [←hg.2];exact h4 _ _ hv.2,(h5 (j*2) (by omega)).2,(h5 (j*2+1) (by omega)).2,h1,h2⟩
theorem TimesOwn.stored {B g off cap n:Nat}{tv:List (Value×Int)}{l:List Tm}(h:TimesOwn w B (.slice (some ⟨g,off,none⟩) n cap) tv l)(j:Nat)(hj:j < l.length){rv:Value}{row:List ByteArray}(c:Int)
  (hs:StrsIn w rv row) (ho:RowOff (.slice (some ⟨g,off,none⟩) n cap) rv) :
  TimesOwn ((w.setCell ⟨g,off+j*2,none⟩ rv).setCell ⟨g,off+j*2+1,none⟩ (.int .i64 c)) B (.slice (some ⟨g,off,none⟩) n cap) (tv.set j (rv,c)) (l.set j (row,c)):=by
 have hO:=h.own
 obtain ⟨A',cap',e⟩:=hO.len
 cases e
 have k1:=Own.stored (Own.stored hO (j*2) (by omega) rv) (j*2+1) (by omega) (.int .i64 c)
 have hgr:w.grownBy ((w.setCell ⟨g,off+j*2,none⟩ rv).setCell ⟨g,off+j*2+1,none⟩ (.int .i64 c)) (some g):=setCells_grown g [rv,.int .i64 c] (off+j*2) w
 refine ⟨?_,?_,fun t ht=>?_⟩
 ·rw [timesV_set,List.length_set];exact k1
 ·exact (h.rows.offs hgr h.off).set j (rv,c) (row,c) (StrsIn.off hs ho hgr) rfl
 ·rcases List.mem_or_eq_of_mem_set ht with ht|rfl
  ·exact h.off t ht
  ·exact ho
theorem TimesOwn.counted {B g off cap n:Nat}{tv:List (Value×Int)}{l:List Tm}(h:TimesOwn w B (.slice (some ⟨g,off,none⟩) n cap) tv l)(j:Nat)(hj:j < l.length)(c:Int) :
  ∃ tv',TimesOwn (w.setCell ⟨g,off+j*2+1,none⟩ (.int .i64 c)) B (.slice (some ⟨g,off,none⟩) n cap) tv' (l.set j (l[j].1,c))∧∀ t∈tv',∃ u∈tv,t.1=u.1:=by
 have hO:=h.own
 obtain ⟨A',cap',e⟩:=hO.len
 cases e
 have k1:=Own.stored hO (j*2+1) (by omega) (.int .i64 c)
 have hgr:w.grownBy (w.setCell ⟨g,off+j*2+1,none⟩ (.int .i64 c)) (some g):=setCells_grown g [.int .i64 c] (off+j*2+1) w
 have hl:=h.rows.length
 have hr:=h.rows.get j (by omega) hj
 have hoj:=h.off (tv[j]'(by omega)) (List.getElem_mem _)
 refine ⟨tv.set j (tv[j].1,c),⟨?_,?_,fun t ht=>?_⟩,fun t ht=>?_⟩
 ·rw [timesV_set,List.length_set]
  have e:(timesV tv).set (j*2) tv[j].1=timesV tv:=by
   have hv:=timesV_get tv j (by omega)
   obtain ⟨hlt,hv'⟩:=List.getElem?_eq_some_iff.1 hv.1
   show (timesV tv).set (j*2) tv[j].1=timesV tv
   rw [←hv'];exact List.set_getElem_self hlt
  show Own _ B 2 _ _ (((timesV tv).set (j*2) tv[j].1).set (j*2+1) (.int .i64 c))
  rw [e];exact k1
 ·exact (h.rows.offs hgr h.off).set j (tv[j].1,c) (l[j].1,c) (StrsIn.off hr.1 hoj hgr) rfl
 ·rcases List.mem_or_eq_of_mem_set ht with ht|rfl
  ·exact h.off t ht
  ·exact hoj
 ·rcases List.mem_or_eq_of_mem_set ht with ht|rfl
  ·exact ⟨t,ht,rfl⟩
  ·exact ⟨_,List.getElem_mem _,rfl⟩
theorem TimesOwn.timesQ {Q:Value→Prop}{B:Nat}{v:Value}{tv:List (Value×Int)}{l:List Tm}(h:TimesOwn w B v tv l)(hq:∀ t∈tv,Q t.1):TimesQ Q w v l:=TimesQ.of h.own.slice h.rows rfl hq
theorem TimesOwn.slice {B:Nat}{v:Value}{tv:List (Value×Int)}{l:List Tm}(h:TimesOwn w B v tv l):∃ A p,v=.slice A l.length p:=h.own.len
theorem TimesOwn.some_ {B:Nat}{v:Value}{tv:List (Value×Int)}{l:List Tm}(h:TimesOwn w B v tv l)(h0:0 < l.length):∃ g off cap,v=.slice (some ⟨g,off,none⟩) l.length cap∧l.length≤cap:=by
 rcases h.own.2.2 with ⟨_,hn⟩ | ⟨g,off,cap,e,_,_,hc,_⟩
 ·omega
 ·exact ⟨g,off,cap,e,hc⟩
theorem TimesOwn.frontQ {Q:Value→Prop}{B g off cap n m:Nat}{tv:List (Value×Int)}{l:List Tm}(h:TimesOwn w B (.slice (some ⟨g,off,none⟩) n cap) tv l)(hq:∀ t∈tv,Q t.1)(hm:m≤n)(zs:List Value) :
  TimesQ Q (w.setCells g (off+m*2) zs) (.slice (some ⟨g,off,none⟩) m cap) (l.take m):=by
 have hO:=h.own
 obtain ⟨A',cap',e⟩:=hO.len
 cases e
 have hgr:w.grownBy (w.setCells g (off+m*2) zs) (some g):=setCells_grown g zs (off+m*2) w
 have hl:=h.rows.length
 obtain ⟨h1,h2,h3,h4,h5⟩:=hO.parts
 have hlen:(timesV tv).length=l.length*2:=by rw [timesV_length,hl]
 refine ⟨tv.take m,⟨by rw [timesV_length,List.length_take,List.length_take];omega,by have:=hO.2.1;rw [List.length_take];omega,some ⟨g,off,none⟩,cap,by rw [List.length_take,Nat.min_eq_left hm],by rw [List.length_take];omega,fun _=>⟨g,off,rfl,by rw [setCells_size];exact h2,fun j u hu=>?_⟩⟩,(h.rows.offs hgr h.off).take m,fun t ht=>hq t (List.mem_of_mem_take ht)⟩
 rw [←take_timesV,List.getElem?_take] at hu
 split at hu
 ·rename_i hj
  rw [World.cell?_setCells_out g zs _ w ⟨g,off+j,none⟩ (fun _ _=>.inl (by simp;omega))]
  exact h4 j u hu
 ·exact absurd hu (by simp)
theorem TimesOwn.front {B g off cap n m:Nat}{tv:List (Value×Int)}{l:List Tm}(h:TimesOwn w B (.slice (some ⟨g,off,none⟩) n cap) tv l)(hm:m≤n)(zs:List Value) :
  TimesIn (w.setCells g (off+m*2) zs) (.slice (some ⟨g,off,none⟩) m cap) (l.take m):=(h.frontQ (Q:=fun _=>True) (fun _ _=>trivial) hm zs).times
end
section
variable {P:Program}
theorem run_clear_cells (w:World)(t e ty:TypeId)(z:Value)(size:Nat)(ht:P.underlying t=some (.slice e))(hv:∀ w,(zeroValue e).run P w=.ok z w)(hs:z.cells.size=size)(hs0:0 < size)(h1:∀ u∈z.cells.toList,u.oneCell'=true)(b o n c:Nat)(hn:0 < n)
  (hc:∀ j,j < n*size→(w.cell? ⟨b,o+j,none⟩).isSome=true) (hf:∀ j,j < n*size→w.frozen? ⟨b,o+j,none⟩=false) :
  (Builtin.clear_ #[t] ty #[.slice (some ⟨b,o,none⟩) n c]).run P w=.ok (.tuple #[]) (w.setCells b o (Builtin.zeroCells z.cells n).toList):=by
 have hlen:(Builtin.zeroCells z.cells n).toList.length=n*size:=by simp [Builtin.zeroCells,hs]
 have hst:=run_storeCells_cells (P:=P) b o (Builtin.zeroCells z.cells n).toList 0 w (by rw [hlen];simpa using hc) (by rw [hlen];simpa using hf) (by
  intro v hv'
  simp only [Builtin.zeroCells,Array.toList_map,List.mem_map,Array.mem_toList_iff] at hv'
  obtain ⟨i,_,rfl⟩:=hv'
  have hlt:i % z.cells.size < z.cells.size:=Nat.mod_lt _ (by omega)
  rw [getElem!_pos z.cells _ hlt]
  exact h1 _ (by simp))
 simp only [Nat.add_zero] at hst
 obtain ⟨m,rfl⟩:∃ m,n=m+1:=⟨n-1,by omega⟩
 simp [Builtin.clear_,run_underlying ht,hv,hst]
end
theorem below_grow (w:World)(os:Array Obj):Below w.heap.size w (Go.Sort.grow w os) :=
 ⟨rfl,rfl,rfl,by simp,fun k hk=>Go.Sort.heap_grow_old w os hk⟩
theorem wcompare_grows {w:World}{ra rb:Value}{a b:List ByteArray}(m n:Int)(ha:StrsIn w ra a)(hb:StrsIn w rb b) :
  Calls Tryz.prog 61 #[timesA (ra,m),timesA (rb,n)] w fun e w'=>e=.returned (.int .i64 (cmpL a b))∧∃ os,w'=Go.Sort.grow w os:=by
 obtain ⟨A,ca,rfl,_⟩:=one_at ha
 obtain ⟨B,cb,rfl,_⟩:=one_at hb
 have h:=compare_calls (SliceOf.alloc (SliceOf.alloc ha (.cells #[.slice A a.length ca,.int .i64 m] 49)) (.cells #[.slice B b.length cb,.int .i64 n] 49)) (SliceOf.alloc (SliceOf.alloc hb (.cells #[.slice A a.length ca,.int .i64 m] 49)) (.cells #[.slice B b.length cb,.int .i64 n] 49))
 generalize cmpL a b=z at *
 clear ha hb
 unfold timesA
 go_enter Tryz.func61,Tryz.ntmps61
 go_wp2_with (go_at_call 32;refine h.step ?_)
 go_ret
 exact ⟨rfl,_,by rw [Go.Sort.alloc_eq_grow,Go.Sort.alloc_eq_grow,Go.Sort.grow_grow]⟩
theorem wcompare_calls {w:World}{ra rb:Value}{a b:List ByteArray}(m n:Int)(ha:StrsIn w ra a)(hb:StrsIn w rb b) :
  GivesAt Tryz.prog 61 #[timesA (ra,m),timesA (rb,n)] w (.int .i64 (cmpL a b)) :=
 (wcompare_grows m n ha hb).mono fun _ _ ⟨he,os,hw⟩=>⟨he,hw▸below_grow _ os⟩
theorem wnone_calls (A:Option Addr)(c p:Nat)(n:Int):Gives Tryz.prog 64 #[.agg #[.slice A c p,.int .i64 n]] (.bool (n==0)):=by
 intro w
 obtain ⟨hb,hB⟩:=start w
 generalize hz:(n==0)=z
 cases z <;> (
  go_enter Tryz.func64,Tryz.ntmps64
  go_wp2
  go_ret
  exact ⟨rfl,hb.alloc hB _⟩)
theorem Tryz.infoWS9:(Tryz.prog.info? 9).map (fun i=>(i.zero,i.size,i.bytes))=some (some (.string ⟨#[]⟩),1,16):=by kernel_rfl
def GivesOwnRow (P:Program)(f:FuncId)(args:Array Value)(w:World)(l:List ByteArray):Prop :=
 Calls P f args w fun e w'=>∃ A p,e=.returned (.slice A l.length p)∧StrsIn w' (.slice A l.length p) l∧Fresh w.heap.size (.slice A l.length p)∧Below w.heap.size w w'
set_option maxHeartbeats 1000000 in
theorem clone_row_calls {w:World}{v:Value}{l:List ByteArray}(h:StrsIn w v l)(hl:l.length≤1000000):GivesOwnRow Tryz.prog 28 #[v] w l:=by
 obtain ⟨i0,hi,hz0,hz1,hz2⟩:=info_parts Tryz.infoWS9
 obtain ⟨hb,hB⟩:=start w
 obtain ⟨A,c,rfl,hat⟩:=one_at h
 have H:=Lib.hid h
 unfold GivesOwnRow
 cases A with
 | none =>
  have h0:l=[]:=by
   cases l with
   | nil=>rfl
   | cons x l=>obtain ⟨b,off,e,_⟩:=hat 0 (by simp);exact absurd e (by simp)
  subst h0
  clear hat h
  have q22:∀ (w:World) (a:Option Addr) (n c n' c':Nat),(binOp .eql 41 (.slice a n c) (.slice none n' c')).run Tryz.prog w=.ok (.bool a.isNone) w:=fun w a n c n' c'=>Lib.run_eql_slice_nil w _ _ a n c n' c' Tryz.underlying41
  go_enter Tryz.func28,Tryz.ntmps28
  go_wp2
  go_ret
  exact ⟨_,_,rfl,SliceOf.nil_ _ _ _ _,fresh_nil _,hb⟩
 | some ad =>
  clear hat h
  have q22:∀ (w:World) (a:Option Addr) (n c n' c':Nat),(binOp .eql 41 (.slice a n c) (.slice none n' c')).run Tryz.prog w=.ok (.bool a.isNone) w:=fun w a n c n' c'=>Lib.run_eql_slice_nil w _ _ a n c n' c' Tryz.underlying41
  go_enter Tryz.func28,Tryz.ntmps28
  go_wp2_with (at_builtin;refine wpList_append_src rfl (.tmp 5) (.tmp 6) 41 rfl 9 i0 (.string ⟨#[]⟩) 1 16 Tryz.underlying41 hi hz0 hz1 hz2 rfl (by decide) (B:=w.heap.size) _ 0 [] rfl (own_empty 1 (Nat.le_refl _) (by simp)) _ l.length (l.map Value.string) rfl (SliceOf.alloc H.out _) (one_texts _) (by unfold maxLen;omega) (by omega) (by simp) ?_)
  intro v7 w7 hO7 hg7 _
  have hb7:=boxed_below hg7
  have hO:Own w7 w.heap.size 1 v7 l.length (l.map Value.string):=by simpa using hO7
  clear hO7 hg7 hb hB
  obtain ⟨A9,p9,rfl⟩:=hO.len
  have HF:Hid (Fresh w.heap.size (.slice A9 l.length p9)):=fun k hk=>(hO.lt k hk).1
  have HS:Hid (StrsIn w7 (.slice A9 l.length p9) l):=hO.slice
  clear hO
  go_wp2
  go_ret
  exact ⟨_,_,rfl,HS.out,HF.out,hb7⟩
theorem clone_cells {w:World}{v:Value}{n:Nat}{xs:List Value}(h:SliceOf w 2 v n xs):∃ A c,v=.slice A n c∧(A=none→n=0):=by
 obtain ⟨A,c,e,hat⟩:=h.at_
 refine ⟨A,c,e,fun h0=>?_⟩
 rcases Nat.eq_zero_or_pos n with hn|hn
 ·exact hn
 ·obtain ⟨b,off,e1,_⟩:=hat hn
  rw [h0] at e1;cases e1
def GivesOwnCells (P:Program)(f:FuncId)(args:Array Value)(w:World)(n:Nat)(xs:List Value):Prop :=
 Calls P f args w fun e w'=>∃ v,e=.returned v∧Own w' w.heap.size 2 v n xs∧Below w.heap.size w w'
set_option maxHeartbeats 1000000 in
theorem clone_times_calls {w:World}{v:Value}{n:Nat}{xs:List Value}(h:SliceOf w 2 v n xs)(h1:∀ u∈xs,u.oneCell'=true)(hl:n≤1000000):GivesOwnCells Tryz.prog 59 #[v] w n xs:=by
 obtain ⟨i0,hi,hz0,hz1,hz2⟩:=info_parts Tryz.infoM49
 obtain ⟨hb,hB⟩:=start w
 obtain ⟨A,c,rfl,hat⟩:=clone_cells h
 have H:=Lib.hid h
 have H1:=Lib.hid h1
 unfold GivesOwnCells
 clear h1
 cases A with
 | none =>
  have h0:=hat rfl
  subst h0
  have hx:xs=[]:=List.eq_nil_of_length_eq_zero (by have:=h.1;omega)
  subst hx
  clear hat h
  have q22:∀ (w:World) (a:Option Addr) (n c n' c':Nat),(binOp .eql 30 (.slice a n c) (.slice none n' c')).run Tryz.prog w=.ok (.bool a.isNone) w:=fun w a n c n' c'=>Lib.run_eql_slice_nil w _ _ a n c n' c' Tryz.underlying30
  go_enter Tryz.func59,Tryz.ntmps59
  go_wp2
  go_ret
  exact ⟨_,rfl,Own.nil_ _ _ _,hb⟩
 | some ad =>
  clear hat h
  have q22:∀ (w:World) (a:Option Addr) (n c n' c':Nat),(binOp .eql 30 (.slice a n c) (.slice none n' c')).run Tryz.prog w=.ok (.bool a.isNone) w:=fun w a n c n' c'=>Lib.run_eql_slice_nil w _ _ a n c n' c' Tryz.underlying30
  go_enter Tryz.func59,Tryz.ntmps59
  go_wp2_with (at_builtin;refine wpList_append_src rfl (.tmp 5) (.tmp 6) 30 rfl 49 i0 (.agg #[.slice none 0 0,.int .i64 0]) 2 32 Tryz.underlying30 hi hz0 hz1 hz2 rfl (by decide) (B:=w.heap.size) _ 0 [] rfl (own_empty 2 (Nat.le_refl _) (by simp)) _ n xs rfl (SliceOf.alloc H.out _) H1.out (by unfold maxLen;omega) (by omega) (by simp) ?_)
  intro v7 w7 hO7 hg7 _
  have hb7:=boxed_below hg7
  have hO:Own w7 w.heap.size 2 v7 n xs:=by simpa using hO7
  clear hO7 hg7 hb hB
  obtain ⟨A9,p9,rfl⟩:=hO.len
  have HO:=Lib.hid hO
  clear hO
  go_wp2
  go_ret
  exact ⟨_,rfl,HO.out,hb7⟩
end Go.Proofs.YtjbpbfhgjldliaaGreat
