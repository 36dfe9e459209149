/- The contract of layer 21's own batchesOf. -/
import Derived.Test.YtjbpbfhgjldliaaGreatGStrs
import Derived.Test.YtjbpbfhgjldliaaGreatGCalmM
import Derived.Test.YtjbpbfhgjldliaaGreatGWeighFns
import Derived.Test.YtjbpbfhgjldliaaGreatGZFoldPure
import Derived.Test.YtjbpbfhgjldliaaGreatGGroupKin
import Derived.Test.YtjbpbfhgjldliaaGreatGPairOn
import Derived.Test.YtjbpbfhgjldliaaGreatGZShelf
import Derived.Shelf.SlSortCmp.WholeK
namespace Go.Proofs.YtjbpbfhgjldliaaGreat
open Go Go.RowKit
abbrev BV:=Value×Value×(List ByteArray×List Tm)
abbrev BatC (w:World) (v:Value):Type:={ t:BV // batchK.R (fun u=>RowOff v u) w t }
theorem batch_open_t {Q:Value→Prop}{w:World}(t:BV)(h:batchK.R Q w t):(∃ A p A2 p2,t.1=.slice A t.2.2.1.length p∧t.2.1=.slice A2 t.2.2.2.length p2)∧StrsIn w t.1 t.2.2.1∧Q t.1∧timesK.In Q w t.2.1 t.2.2.2:=by
 obtain ⟨kv,pv,g⟩:=t
 obtain ⟨A,p,A2,p2,h1,h2,h3,h4,h5⟩:=batch_open h
 subst h1 h2
 exact ⟨⟨A,p,A2,p2,rfl,rfl⟩,h3,h4,h5⟩
section
variable {w:World}{v:Value}
def encT (x:BatC w v):List Value:=[x.1.1,x.1.2.1]
def cmpT (x y:BatC w v):Int:=cmpL x.1.2.2.1 y.1.2.2.1
def tvT (d:List (BatC w v)):List BV:=d.map fun x=>x.1
theorem batC_at:∀ {tv:List BV},(∀ t∈tv,batchK.R (fun u=>RowOff v u) w t)→∃ d:List (BatC w v),tvT d=tv
 | [],_=>⟨[],rfl⟩
 | t::tv,h=>by
  obtain ⟨d,h1⟩:=batC_at (tv:=tv) fun x hx=>h x (List.mem_cons_of_mem _ hx)
  exact ⟨⟨t,h t (List.mem_cons_self ..)⟩::d,by show _::tvT d=_;rw [h1]⟩
theorem batC_of (d:List (BatC w v)):∀ t∈tvT d,batchK.R (fun u=>RowOff v u) w t:=fun t ht=>by
 obtain ⟨x,_,rfl⟩:=List.mem_map.1 ht
 exact x.2
theorem flatT_get [Inhabited (BatC w v)](d:List (BatC w v))(j:Nat)(h:j < d.length*2):(batchK.flat (tvT d))[j]? = some ((Go.Sort.flatK encT 2 d.toArray)[j]!):=by
 have hlen:(tvT d).length=d.length:=by unfold tvT;rw [List.length_map]
 have hi:j / 2 < d.length:=by omega
 have hg:(tvT d)[j / 2]'(by omega)=d[j / 2].1:=by unfold tvT;rw [List.getElem_map]
 have hv:=Kin.flat_get (K:=batchK) (tvT d) (j / 2) (by omega) (j % 2) (Nat.mod_lt _ (by decide))
 rw [hg] at hv
 have ej:j / 2*batchK.size+j % 2=j:=by show j / 2*2+j % 2=j;omega
 rw [ej] at hv
 rw [hv,Go.Sort.get_flatK _ _ _ _ (by simpa using h),getElem!_pos d.toArray (j / 2) (by simpa using hi)]
 rcases Nat.mod_two_eq_zero_or_one j with e|e <;> rw [e] <;> rfl
theorem ltT (x y:BatC w v):ltOf cmpT x y=decide (cmpL x.1.2.2.1 y.1.2.2.1 = -1):=by
 have h:=cmpL_range x.1.2.2.1 y.1.2.2.1
 unfold ltOf cmpT
 rw [decide_eq_decide];omega
theorem swoT (w:World)(v:Value):Go.Sort.SWO (ltOf (cmpT (w:=w) (v:=v))) where
 irrefl x:=by rw [ltT,cmpL_self];rfl
 trans x y z h1 h2:=by
  rw [ltT,decide_eq_true_eq] at *
  exact cmpL_chain _ _ _ h1 h2
 ntrans x y z h1 h2:=by
  rw [ltT,decide_eq_false_iff_not] at *
  intro h3
  by_cases e:y.1.2.2.1=x.1.2.2.1
  ·rw [←e] at h3;exact h2 h3
  ·exact h2 (cmpL_chain _ _ _ (cmpL_back2 h1 e) h3)
theorem grown_sortedT [Inhabited (BatC w v)]{blk:Nat}(off m:Nat)(d:Array (BatC w v))(os:Array Obj):w.grownBy (sortWorldK encT 2 w blk off m d os) (some blk):=by
 refine ⟨rfl,rfl,rfl,?_,fun k hk hne=>?_⟩
 ·simp [sortWorldK,Go.Sort.putRowK,Go.Sort.putRow,Go.Sort.mapBlock,Go.Sort.grow,Go.Sort.ahead]
 ·have hne2:blk≠k:=fun e=>hne (by rw [e])
  simp [sortWorldK,Go.Sort.putRowK,Go.Sort.putRow,Go.Sort.mapBlock,Go.Sort.grow,Go.Sort.ahead,Array.getElem?_append,hk]
  rw [Array.getElem_modify,if_neg hne2]
end
theorem gbatch_lays {w:World}{A1 A2 R1 R2:Option Addr}{p1 p2 q1 q2 n1 n2:Nat}{a b:List ByteArray}(ha:StrsIn w (.slice A1 a.length p1) a)(hb:StrsIn w (.slice A2 b.length p2) b) :
  Calls Tryz.prog 42 #[.agg #[.slice A1 a.length p1,.slice R1 n1 q1],.agg #[.slice A2 b.length p2,.slice R2 n2 q2]] w fun e w'=>e=.returned (.int .i64 (cmpL a b))∧∃ os,w'=Go.Sort.grow w os:=by
 have hc:=compare_calls (SliceOf.alloc (SliceOf.alloc ha (.cells #[.slice A1 a.length p1,.slice R1 n1 q1] 88)) (.cells #[.slice A2 b.length p2,.slice R2 n2 q2] 88)) (SliceOf.alloc (SliceOf.alloc hb (.cells #[.slice A1 a.length p1,.slice R1 n1 q1] 88)) (.cells #[.slice A2 b.length p2,.slice R2 n2 q2] 88))
 generalize cmpL a b=z at *
 clear ha hb
 go_enter Tryz.func42,Tryz.ntmps42
 go_wp2_with (go_at_call 32;refine hc.step ?_)
 go_ret
 exact ⟨rfl,_,by rw [Go.Sort.alloc_eq_grow,Go.Sort.alloc_eq_grow,Go.Sort.grow_grow]⟩
theorem enters_batch:∀ args w,(callFunc 42 args).run Tryz.prog w=.ok (.enter 42 args) w:=enters_of Tryz.func42 (by kernel_rfl) rfl
def SortB (w:World)(v:Value)(tv:List BV)(e:Ending)(w':World):Prop:=e=.returned (.tuple #[])∧∃ tv',tv'.Perm tv∧tv'.Pairwise (fun a b=>¬cmpL b.2.2.1 a.2.2.1 = -1)∧(∀ t∈tv',batchK.R (fun u=>RowOff v u) w' t)∧SliceOf w' 2 v tv.length (batchK.flat tv')∧w.grownBy w' v.ownBlock
theorem sortB_some {w:World}{B g off cap n:Nat}{tv:List BV}(hr:∀ t∈tv,batchK.R (fun u=>RowOff (.slice (some ⟨g,off,none⟩) n cap) u) w t)(hn:n=tv.length)(hO:Own w B 2 (.slice (some ⟨g,off,none⟩) n cap) n (batchK.flat tv))(hl:n≤1000000)(h0:0 < n) :
  Calls Tryz.prog 41 #[.slice (some ⟨g,off,none⟩) n cap,.func (.func 42) #[] #[]] w (SortB w (.slice (some ⟨g,off,none⟩) n cap) tv):=by
 obtain ⟨d,rfl⟩:=batC_at hr
 have hlen:(tvT d).length=d.length:=by unfold tvT;rw [List.length_map]
 have hdl:d.length=n:=by omega
 haveI:Inhabited (BatC w (.slice (some ⟨g,off,none⟩) n cap)):=⟨d[0]'(by omega)⟩
 obtain ⟨hB,hg,hnc,hc,hroom⟩:=hO.parts
 have hle:d.length*2≤cap*2:=by omega
 have hda:d.toArray.size=d.length:=by simp
 have hH:Go.Sort.HoldsK (encT (w:=w) (v:=.slice (some ⟨g,off,none⟩) n cap)) 2 w g off d.toArray:=by
  intro j hj
  rw [Go.Sort.size_flatK] at hj
  have hj':j < d.length*2:=by simpa using hj
  exact ⟨hc j _ (flatT_get d j hj'),(hroom j (by omega)).2⟩
 have hcmp:CmpLays Tryz.prog 42 #[] (encT (w:=w) (v:=.slice (some ⟨g,off,none⟩) n cap)) 2 (cmpT (w:=w) (v:=.slice (some ⟨g,off,none⟩) n cap)) g off d.toArray.size w:=fun m os dk _ x y=>by
  have hW:=grown_sortedT (blk:=g) off m dk os
  obtain ⟨⟨A1,p1,R1,q1,e1,e2⟩,h1,h2,_⟩:=batch_open_t x.1 x.2
  obtain ⟨⟨A2,p2,R2,q2,e3,e4⟩,h3,h4,_⟩:=batch_open_t y.1 y.2
  have s1:=StrsIn.off h1 h2 hW
  have s2:=StrsIn.off h3 h4 hW
  rw [e1] at s1
  rw [e3] at s2
  have:=gbatch_lays (R1:=R1) (R2:=R2) (q1:=q1) (q2:=q2) (n1:=x.1.2.2.2.length) (n2:=y.1.2.2.2.length) s1 s2
  rw [←e1,←e2,←e3,←e4] at this
  exact this.mono fun _ _ ⟨he,os',hw⟩=>⟨he,0,os',hw⟩
 have hcon:=AnyQ.slices_SortFunc Tryz.laysSort41 2 Tryz.isAgg88 Tryz.sizeOf88 (encT (w:=w) (v:=.slice (some ⟨g,off,none⟩) n cap)) (fun _=>rfl) (fun x u hu=>batchK.one x.2 u hu) cmpT (swoT w _) 42 #[] g off cap d.toArray w enters_batch hcmp hH hg (by omega)
 have hargs:(#[.slice (some ⟨g,off,none⟩) n cap,.func (.func 42) #[] #[]]:Array Value) = #[.slice (some ⟨g,off,none⟩) d.toArray.size cap,.func (.func 42) #[] #[]]:=by simp [hdl]
 rw [hargs]
 refine Calls.mono hcon ?_
 rintro e w' ⟨he,d',m,os,hp,hs,rfl⟩
 have hsz:d'.size=d.toArray.size:=hp.1
 have hsz':d'.toList.length=d.length:=by simpa using hsz
 have hH':=holdsK_sortWorldK (encT (w:=w) (v:=.slice (some ⟨g,off,none⟩) n cap)) 2 w g off m d.toArray d' os hg hH hsz
 have hW:=grown_sortedT (blk:=g) off m d' os
 refine ⟨he,tvT d'.toList,?_,?_,fun t ht=>batchK.off (v:=.slice (some ⟨g,off,none⟩) n cap) (batC_of _ t ht) (fun _ hu=>hu) hW,?_,hW⟩
 ·have h2:=hp.2.2
  rw [←hsz,Array.extract_size,hsz,Array.extract_size] at h2
  exact h2.map _
 ·unfold tvT
  rw [List.pairwise_map,List.pairwise_iff_getElem]
  intro i j hi hj hij
  have h3:=hs i j (Nat.zero_le _) hij (by omega)
  rw [ltT,decide_eq_false_iff_not,getElem!_pos d' i (by simpa using hi),getElem!_pos d' j (by simpa using hj)] at h3
  simpa using h3
 ·rw [hlen,hdl]
  refine ⟨?_,hO.2.1,_,cap,rfl,hnc,fun _=>⟨g,off,rfl,?_,fun j u hu=>?_⟩⟩
  ·rw [Kin.flat_length]
   unfold tvT
   rw [List.length_map,hsz',hdl];rfl
  ·exact lt_sortWorldK (encT (w:=w) (v:=.slice (some ⟨g,off,none⟩) n cap)) 2 w g off m d' os hg
  ·have hj:j < d'.toList.length*2:=by
    have:=(List.getElem?_eq_some_iff.1 hu).1
    rw [Kin.flat_length] at this
    unfold tvT at this
    rw [List.length_map] at this
    exact this
   rw [flatT_get d'.toList j hj] at hu
   have h4:=(hH' j (by rw [Go.Sort.size_flatK];simpa using hj)).1
   rw [h4]
   simpa using hu
set_option maxHeartbeats 1000000 in
theorem insertion_noneB (p:Option Addr)(cap:Nat)(fv:Value)(w:World) :
  Calls Tryz.prog 71 #[.slice p 0 cap,.int .i64 0,.int .i64 0,fv] w fun e w'=>e=.returned (.tuple #[])∧w'=w:=by
 go_enter Tryz.func71,Tryz.ntmps71
 go_wp2
 refine wp_loop_rounds 1 ?_
 rw [rounds_succ]
 go_wp2
 go_end0
 exact ⟨rfl,rfl⟩
set_option maxHeartbeats 1000000 in
theorem pdq_noneB (p:Option Addr)(cap:Nat)(lim:Int)(fv:Value)(w:World) :
  Calls Tryz.prog 54 #[.slice p 0 cap,.int .i64 0,.int .i64 0,.int .i64 lim,fv] w fun e w'=>e=.returned (.tuple #[])∧w'=w:=by
 have hi:=fun W=>insertion_noneB p cap fv W
 go_enter Tryz.func54,Tryz.ntmps54
 go_wp2
 refine wp_loop_rounds 1 ?_
 rw [rounds_succ]
 go_wp2_with (go_at_call 71;refine (hi _).mono ?_;rintro e w' ⟨rfl,rfl⟩)
 (try simp only [Exit.inBlock,Exit.then]);refine bodyPost_ret (results_none rfl _ _ _) rfl ?_
 exact ⟨rfl,rfl⟩
set_option maxHeartbeats 1000000 in
theorem sort_noneB (p:Option Addr)(cap:Nat)(fv:Value)(w:World) :
  Calls Tryz.prog 41 #[.slice p 0 cap,fv] w fun e w'=>e=.returned (.tuple #[])∧w'=w:=by
 have hp:=fun lim W=>pdq_noneB p cap lim fv W
 have hl:=fun W=>Tryz.bits_Len 0 W (by omega) (by omega)
 go_enter Tryz.func41,Tryz.ntmps41
 go_wp2_with (first|(go_at_call 55;refine (hl _).mono ?_;rintro e w' ⟨rfl,rfl⟩)|(go_at_call 54;refine (hp _ _).mono ?_;rintro e w' ⟨rfl,rfl⟩))
 go_end0
 exact ⟨rfl,rfl⟩
theorem sortB_calls {w:World}{B:Nat}{v:Value}{tv:List BV}(h:batchK.Mine (fun _=>True) w B v tv)(hl:tv.length≤1000000) :
  Calls Tryz.prog 41 #[v,.func (.func 42) #[] #[]] w (SortB w v tv):=by
 by_cases h0:0 < tv.length
 ·obtain ⟨g,off,cap,rfl⟩:=h.some_ h0
  exact sortB_some (fun t ht=>batchK.mono (h.each t ht) fun _ hu=>hu.2) rfl h.own hl h0
 ·have hn:tv=[]:=List.eq_nil_of_length_eq_zero (by omega)
  subst hn
  obtain ⟨A,p,rfl⟩:=h.slice
  refine (sort_noneB A p _ w).mono ?_
  rintro e w' ⟨rfl,rfl⟩
  exact ⟨rfl,[],.refl _,List.Pairwise.nil,fun _ h=>absurd h (by simp),SliceOf.nil_ _ _ _ _,below_grown (.refl _ _)⟩
abbrev BP:=List ByteArray×List Tm
def stepB (acc:List BP)(b:BP):List BP:=match acc.getLast? with
 | some t=>if t.1=b.1 then acc.dropLast++[(t.1,t.2++b.2)] else acc++[b]
 | none=>[b]
def joinB (E:List BP):List BP:=E.foldl stepB []
theorem joinB_take (E:List BP)(k:Nat)(h:k < E.length):joinB (E.take (k+1))=stepB (joinB (E.take k)) E[k]:=by
 unfold joinB
 rw [take_add E k h,List.foldl_append];rfl
theorem stepB_nil (b:BP):stepB [] b=[b]:=rfl
theorem stepB_same (acc:List BP)(t b:BP)(h:t.1=b.1):stepB (acc++[t]) b=acc++[(t.1,t.2++b.2)]:=by
 unfold stepB
 simp [h]
theorem stepB_new (acc:List BP)(t b:BP)(h:t.1≠b.1):stepB (acc++[t]) b=acc++[t]++[b]:=by
 unfold stepB
 simp [h]
def LR (w:World)(B:Nat)(rv wv:Value)(n:Nat)(xs:List Value):Prop:=(wv=.slice none 0 0∧(∃ b,rv=.slice (some ⟨b,0,none⟩) n n)∧SliceOf w 2 rv n xs)∨(wv=rv∧Own w B 2 rv n xs)
theorem LR.slice {w:World}{B n:Nat}{rv wv:Value}{xs:List Value}(h:LR w B rv wv n xs):SliceOf w 2 rv n xs:=by
 rcases h with ⟨_,_,h⟩ | ⟨_,h⟩
 ·exact h
 ·exact h.slice
theorem LR.later {w w':World}{B n:Nat}{rv wv:Value}{xs:List Value}(h:LR w B rv wv n xs)(hb:Below w.heap.size w w'):LR w' B rv wv n xs:=by
 rcases h with ⟨h1,h2,h3⟩ | ⟨h1,h2⟩
 ·exact .inl ⟨h1,h2,SliceOf.later h3 hb⟩
 ·exact .inr ⟨h1,h2.later hb⟩
theorem LR.lt {w:World}{B n:Nat}{rv wv:Value}{xs:List Value}(h:LR w B rv wv n xs):∀ k,wv.ownBlock=some k→B≤k∧k < w.heap.size:=by
 rcases h with ⟨rfl,_⟩ | ⟨rfl,h⟩
 ·intro k hk;simp [Value.ownBlock] at hk
 ·exact h.lt
section
variable {P:Program}{w:World}
theorem run_append_LR (t ty e:TypeId)(i:TypeInfo)(z:Value)(bytes:Nat)(ht:P.underlying t=some (.slice e))(hi:P.info? e=some i)(hz:i.zero=some z)
  (hsize:i.size=2) (hby:i.bytes=bytes) (hzs:z.cells.size=2) {B:Nat} {rv wv:Value} {n:Nat} {xs:List Value} (h:LR w B rv wv n xs)
  {sv:Value} {m:Nat} {news:List Value} (hs:SliceOf w 2 sv m news) (h0:0 < m) (h1:∀ u∈news,u.oneCell'=true)
  (h63:n+m≤maxLen) (hbytes:(n+m)*bytes≤140737488355328) (hB:B≤w.heap.size) :
  ∃ v' w',(Builtin.append_ #[t,t] ty #[rv,sv]).run P w=.ok v' w'∧Own w' B 2 v' (n+m) (xs++news)∧w.grownBy w' wv.ownBlock∧∀ k,v'.ownBlock=some k→wv.ownBlock=some k∨w.heap.size≤k:=by
 rcases h with ⟨rfl,⟨b,rfl⟩,hsl⟩ | ⟨rfl,h⟩
 ·obtain ⟨A,c,rfl,hat⟩:=hs.at_
  obtain ⟨b2,off,rfl,_,hc⟩:=hat h0
  by_cases hn:0 < n
  ·have hl3:=hsl.1
   obtain ⟨_,_,A3,c3,e3,_,hat3⟩:=hsl
   cases e3
   obtain ⟨b4,o4,e6,_,hc4⟩:=hat3 hn
   cases e6
   obtain ⟨v',w',r1,r2,r3⟩:=run_append_arg_grows (P:=P) w t ty e i z 2 bytes ht hi hz hsize hby hzs (by decide) ⟨b,0,none⟩ n n xs hl3 (fun j u hj=>by rw [Addr.add_lit];exact hc4 j u hj) ⟨b2,off,none⟩ m c news hs.1 (fun j u hj=>by rw [Addr.add_lit];exact hc j u hj) (by omega) h63 hbytes
   exact ⟨v',w',r1,.of_row r2 h63 hB,⟨r3.os,r3.tape,r3.output,r3.size,fun k hk _=>r3.block k hk (by simp)⟩,fun k hk=>.inr (r2.lt k hk).1⟩
  ·obtain rfl:n=0:=by omega
   have hx:xs=[]:=List.eq_nil_of_length_eq_zero (by rw [hsl.1,Nat.zero_mul])
   subst hx
   obtain ⟨v',w',r1,r2,r3⟩:=run_append_arg_grows (P:=P) w t ty e i z 2 bytes ht hi hz hsize hby hzs (by decide) ⟨b,0,none⟩ 0 0 [] rfl (fun j u hj=>by simp at hj) ⟨b2,off,none⟩ m c news hs.1 (fun j u hj=>by rw [Addr.add_lit];exact hc j u hj) (by omega) h63 hbytes
   exact ⟨v',w',r1,.of_row r2 h63 hB,⟨r3.os,r3.tape,r3.output,r3.size,fun k hk _=>r3.block k hk (by simp)⟩,fun k hk=>.inr (r2.lt k hk).1⟩
 ·obtain ⟨v',w',r1,r2,r3,r4⟩:=run_append_src (P:=P) t ty e i z 2 bytes ht hi hz hsize hby hzs (by decide) h hs h1 h63 hbytes hB
  exact ⟨v',w',r1,r2,r3,r4⟩
theorem step_append_LR {ops:Array Oper}{o:Oper}{a:Act}{K:Act→World→Prop}{Q:Exit→Act→World→Prop}{E:Prop}(hgd:o.guard=none)(s x:Operand)(t:TypeId)
  (ho:o.op=.call { callee:=.builtin .append,args:=#[s,x],argTypes:=#[t,t] }) (e:TypeId) (i:TypeInfo) (z:Value) (bytes:Nat) (ht:P.underlying t=some (.slice e)) (hi:P.info? e=some i)
  (hz:i.zero=some z) (hsize:i.size=2) (hby:i.bytes=bytes) (hzs:z.cells.size=2) {B:Nat} (rv wv:Value) (n:Nat) (xs:List Value) (hv:a.eval s=rv) (h:LR w B rv wv n xs)
  (sv:Value) (m:Nat) (news:List Value) (hx:a.eval x=sv) (hs:SliceOf w 2 sv m news) (h0:0 < m) (h1:∀ u∈news,u.oneCell'=true)
  (h63:n+m≤maxLen) (hbytes:(n+m)*bytes≤140737488355328) (hB:B≤w.heap.size)
  (hK:∀ v' w',Own w' B 2 v' (n+m) (xs++news)→w.grownBy w' wv.ownBlock→(∀ k,v'.ownBlock=some k→wv.ownBlock=some k∨w.heap.size≤k)→K (a.put o.dst v') w') :
  if Region.wanted o (yielded ops a.tmps)=true then Oper.wp P o a w K Q else E:=by
 have hw:Region.wanted o (yielded ops a.tmps)=true:=by simp [Region.wanted,hgd]
 rw [if_pos hw]
 obtain ⟨v',w',hrun,r1,r2,r3⟩:=run_append_LR (P:=P) t o.type e i z bytes ht hi hz hsize hby hzs h hs h0 h1 h63 hbytes hB
 unfold Oper.wp
 simp [execOp,ho,resolve,invoke,builtin,hv,hx,hrun,Result.andThen]
 exact hK v' w' r1 r2 r3
end
structure JnS (w0 w4 w:World) (x wv:Value) (done:List BV) (t:BV):Prop where
 own:Own w w4.heap.size 2 x (done.length+1) (batchK.flat (done++[t]))
 each:∀ s∈done,batchK.R (fun u=>RowOff x u∧RowOff wv u) w s
 key:StrsIn w t.1 t.2.2.1
 koff:RowOff x t.1∧RowOff wv t.1
 rows:∃ tvr,LR w w4.heap.size t.2.1 wv t.2.2.2.length (timesV tvr)∧RowsOf w0 tvr t.2.2.2
 rx:RowOff x t.2.1
 aside:∀ k,wv.ownBlock=some k→x.ownBlock≠some k
 below:Below w4.heap.size w4 w
section
variable {w0 w4 w w':World}{x x' wv v':Value}{done:List BV}{t s:BV}
theorem JnS.later (h:JnS w0 w4 w x wv done t)(hb:Below w.heap.size w w'):JnS w0 w4 w' x wv done t:=by
 obtain ⟨tvr,h1,h2⟩:=h.rows
 exact ⟨h.own.later hb,fun s hs=>batchK.kept (h.each s hs) hb,StrsIn.kept h.key hb,h.koff,⟨tvr,h1.later hb,h2⟩,h.rx,h.aside,h.below.trans (hb.mono h.below.size)⟩
structure JnT (w0 w4 w:World) (x v':Value) (done:List BV) (t:BV) (rows:List Tm):Prop where
 own:Own w w4.heap.size 2 x (done.length+1) (batchK.flat (done++[t]))
 each:∀ s∈done,batchK.R (fun u=>RowOff x u∧RowOff v' u) w s
 key:StrsIn w t.1 t.2.2.1
 koff:RowOff x t.1∧RowOff v' t.1
 rows:∃ tvr,Own w w4.heap.size 2 v' rows.length (timesV tvr)∧RowsOf w0 tvr rows
 aside:∀ k,v'.ownBlock=some k→x.ownBlock≠some k
 below:Below w4.heap.size w4 w
theorem JnT.later {rows:List Tm}(h:JnT w0 w4 w x v' done t rows)(hb:Below w.heap.size w w'):JnT w0 w4 w' x v' done t rows:=by
 obtain ⟨tvr,h1,h2⟩:=h.rows
 exact ⟨h.own.later hb,fun s hs=>batchK.kept (h.each s hs) hb,StrsIn.kept h.key hb,h.koff,⟨tvr,h1.later hb,h2⟩,h.aside,h.below.trans (hb.mono h.below.size)⟩
theorem JnS.grow (h:JnS w0 w4 w x wv done t){tvr tvn:List (Value×Int)}{rn:List Tm}(hr:RowsOf w0 tvr t.2.2.2)(hn:RowsOf w0 tvn rn)(hlr:∀ k,wv.ownBlock=some k→w4.heap.size≤k)(hO:Own w' w4.heap.size 2 v' (t.2.2.2.length+rn.length) (timesV tvr++timesV tvn))(hg:w.grownBy w' wv.ownBlock)(hv:∀ k,v'.ownBlock=some k→wv.ownBlock=some k∨w.heap.size≤k) :
  JnT w0 w4 w' x v' done t (t.2.2.2++rn) where
 own:=h.own.other hg fun k hk e=>h.aside k e.symm hk
 each s hs:=batchK.mono (batchK.off (v:=wv) (batchK.lain (h.each s hs)) (fun _ hu=>hu.1.2) hg) fun _ hu=>⟨hu.1.1,hu.1.2.step hu.2 hv⟩
 key:=StrsIn.off h.key h.koff.2 hg
 koff:=⟨h.koff.1,h.koff.2.step h.key.lain hv⟩
 rows:=⟨tvr++tvn,by rw [timesV_append,List.length_append];exact hO,hr.append hn⟩
 aside k hk e:=by
  rcases hv k hk with h2|h2
  ·exact h.aside k h2 e
  ·have:=(h.own.lt k e).2
   omega
 below:=h.below.grown hg h.below.size hlr
theorem JnT.stored {g off cap n:Nat}{rows:List Tm}(h:JnT w0 w4 w (.slice (some ⟨g,off,none⟩) n cap) v' done t rows) :
  JnS w0 w4 (w.setCell ⟨g,off+(done.length*2+1),none⟩ v') (.slice (some ⟨g,off,none⟩) n cap) v' done (t.1,v',(t.2.2.1,rows)):=by
 obtain ⟨tvr,h1,h2⟩:=h.rows
 have hO:=h.own
 obtain ⟨A',cap',e⟩:=hO.len
 cases e
 have k1:=Own.stored hO (done.length*2+1) (by omega) v'
 have hgr:w.grownBy (w.setCell ⟨g,off+(done.length*2+1),none⟩ v') (some g):=setCells_grown g [v'] (off+(done.length*2+1)) w
 have hgl:=(hO.lt g rfl).1
 have hflat:(batchK.flat (done++[t])).set (done.length*2+1) v'=batchK.flat (done++[(t.1,v',(t.2.2.1,rows))]):=by
  have e1:=Kin.flat_set1 (K:=batchK) (done++[t]) done.length (by simp) (t.1,v',(t.2.2.1,rows)) 1 v' (by decide) (by
   rw [List.getElem_append_right (Nat.le_refl _)]
   simp only [Nat.sub_self,List.getElem_cons_zero]
   rfl)
  have e2:(done++[t]).set done.length (t.1,v',(t.2.2.1,rows))=done++[(t.1,v',(t.2.2.1,rows))]:=by
   rw [List.set_append_right _ _ (Nat.le_refl _),Nat.sub_self];rfl
  rw [e2] at e1
  exact e1.symm
 refine ⟨by rw [←hflat];exact k1,fun s hs=>batchK.off (v:=.slice (some ⟨g,off,none⟩) (done.length+1) cap) (h.each s hs) (fun _ hu=>hu.1) hgr,StrsIn.off h.key h.koff.1 hgr,h.koff,⟨tvr,.inr ⟨rfl,h1.other hgr fun k hk e=>h.aside k hk (by show some g=some k;exact e.symm)⟩,h2⟩,fun A m c k e h0 hk e2=>h.aside k hk e2,h.aside,h.below.grown hgr h.below.size fun k hk=>by cases hk;exact hgl⟩
theorem JnS.push (h:JnS w0 w4 w x wv done t){n:Nat}(hw0:Below w0.heap.size w0 w)(hs:StrsIn w4 s.1 s.2.2.1)(hb:∃ b,s.2.1=.slice (some ⟨b,0,none⟩) s.2.2.2.length s.2.2.2.length){tvr:List (Value×Int)}(hr:SliceOf w4 2 s.2.1 s.2.2.2.length (timesV tvr))(hrw:RowsOf w0 tvr s.2.2.2)(hwx:∀ rv row,StrsIn w0 rv row→RowOff x rv)
  (hg:w.grownBy w' x.ownBlock) (hv:∀ k,x'.ownBlock=some k→x.ownBlock=some k∨w.heap.size≤k) (hO:Own w' w4.heap.size 2 x' n (batchK.flat (done++[t])++batchK.cells s)) (hn:n=done.length+1+1):JnS w0 w4 w' x' (.slice none 0 0) (done++[t]) s:=by
 subst hn
 obtain ⟨tv0,h1,h2⟩:=h.rows
 have hb4:Below w4.heap.size w4 w':=h.below.grown hg h.below.size fun k hk=>(h.own.lt k hk).1
 have hx':∀ k,x'.ownBlock=some k→w4.heap.size≤k:=fun k hk=>(hO.lt k hk).1
 have hrt:batchK.R (fun u=>RowOff x u∧RowOff wv u) w t→True:=fun _=>trivial
 refine ⟨by rw [List.length_append,Kin.flat_append (done++[t]),Kin.flat_one];exact hO,fun u hu=>?_,StrsIn.kept hs hb4,⟨hs.lain.apart hx',.of_nil⟩,⟨tvr,.inl ⟨rfl,hb,SliceOf.later hr hb4⟩,hrw⟩,(SliceOf.lain hr).apart hx',fun k hk=>by simp [Value.ownBlock] at hk,hb4⟩
 rcases List.mem_append.1 hu with hu|hu
 ·exact batchK.mono (batchK.off (v:=x) (batchK.lain (h.each u hu)) (fun _ hx=>hx.1.1) hg) fun _ hx=>⟨hx.1.1.step hx.2 hv,.of_nil⟩
 ·rw [List.mem_singleton.1 hu]
  have hrows:timesK.In (fun u=>RowOff x u) w t.2.1 t.2.2.2:=by
   obtain ⟨us,e1,e2,h4⟩:=rows_pairs (h2.kept hw0)
   refine ⟨us,e1,by rw [timesK_flat,e2];exact h1.slice,fun y hy=>?_,h.rx⟩
   obtain ⟨z,hz,hz2⟩:=(RowsOf.mem h2) _ (h4 y hy).2
   exact ⟨(h4 y hy).1,hwx _ _ hz2.1⟩
  exact batchK.mono (batchK.off (v:=x) (batchK.lain (t:=t) ⟨⟨h.key,h.koff.1⟩,hrows⟩) (fun _ hx=>hx.1) hg) fun _ hx=>⟨hx.1.step hx.2 hv,.of_nil⟩
theorem JnS.first {n:Nat}(hs:StrsIn w4 s.1 s.2.2.1)(hb:∃ b,s.2.1=.slice (some ⟨b,0,none⟩) s.2.2.2.length s.2.2.2.length){tvr:List (Value×Int)}(hr:SliceOf w4 2 s.2.1 s.2.2.2.length (timesV tvr))(hrw:RowsOf w0 tvr s.2.2.2)
  (hb4:Below w4.heap.size w4 w') (hO:Own w' w4.heap.size 2 x' n (batchK.cells s)) (hn:n=1):JnS w0 w4 w' x' (.slice none 0 0) [] s:=by
 subst hn
 have hx':∀ k,x'.ownBlock=some k→w4.heap.size≤k:=fun k hk=>(hO.lt k hk).1
 exact ⟨by rw [List.nil_append,Kin.flat_one];exact hO,fun u hu=>absurd hu (by simp),StrsIn.kept hs hb4,⟨hs.lain.apart hx',.of_nil⟩,⟨tvr,.inl ⟨rfl,hb,SliceOf.later hr hb4⟩,hrw⟩,(SliceOf.lain hr).apart hx',fun k hk=>by simp [Value.ownBlock] at hk,hb4⟩
theorem JnS.all (h:JnS w0 w4 w x wv done t)(hw0:Below w0.heap.size w0 w):batchK.In (fun _=>True) w x ((done++[t]).map batchK.pr):=by
 obtain ⟨tv0,h1,h2⟩:=h.rows
 refine ⟨done++[t],rfl,?_,fun u hu=>?_,trivial⟩
 ·have:=h.own.slice
  rw [List.length_map,List.length_append]
  exact this
 ·rcases List.mem_append.1 hu with hu|hu
  ·exact batchK.mono (h.each u hu) fun _ _=>trivial
  ·rw [List.mem_singleton.1 hu]
   obtain ⟨us,e1,e2,h4⟩:=rows_pairs (h2.kept hw0)
   exact ⟨⟨h.key,trivial⟩,us,e1,by rw [timesK_flat,e2];exact h1.slice,fun y hy=>⟨(h4 y hy).1,trivial⟩,trivial⟩
end
theorem Tryz.infoB88:(Tryz.prog.info? 88).map (fun i=>(i.zero,i.size,i.bytes))=some (some (.agg #[.slice none 0 0,.slice none 0 0]),2,48):=by kernel_rfl
def eachB (by_:List Int)(l:List Tm):List BP:=(okL by_ l).map fun x=>(keyT by_ x,[x])
theorem each_take (by_:List Int)(l:List Tm)(k:Nat)(h:k < l.length):eachB by_ (l.take (k+1))=eachB by_ (l.take k)++if pickOk l[k].1 by_=true then [(keyT by_ l[k],[l[k]])] else []:=by
 unfold eachB okL
 rw [take_add l k h,List.filter_append,List.map_append,List.filter_cons]
 split <;> simp_all
theorem each_length (by_:List Int)(l:List Tm):(eachB by_ l).length≤l.length:=by
 unfold eachB okL
 rw [List.length_map]
 exact List.length_filter_le ..
def LitB (w0 w:World)(t:BV):Prop:=∃ b xv row n,t.2.1=.slice (some ⟨b,0,none⟩) 1 1∧t.2.2.2=[(row,n)]∧SliceOf w 2 (.slice (some ⟨b,0,none⟩) 1 1) 1 (timesV [(xv,n)])∧StrsIn w0 xv row
theorem LitB.off {w0 w w':World}{v:Value}{t:BV}(h:LitB w0 w t)(ho:RowOff v t.2.1)(hg:w.grownBy w' v.ownBlock):LitB w0 w' t:=by
 obtain ⟨b,xv,row,n,h1,h2,h3,h4⟩:=h
 rw [h1] at ho
 exact ⟨b,xv,row,n,h1,h2,h3.off ho hg,h4⟩
theorem LitB.later {w0 w w':World}{t:BV}(h:LitB w0 w t)(hb:Below w.heap.size w w'):LitB w0 w' t:=by
 obtain ⟨b,xv,row,n,h1,h2,h3,h4⟩:=h
 exact ⟨b,xv,row,n,h1,h2,SliceOf.later h3 hb,h4⟩
theorem batch_roff {Q:Value→Prop}{w:World}{t:BV}(h:batchK.R Q w t):Q t.2.1:=by
 obtain ⟨_,_,_,_,_,_,_,h4⟩:=batch_open_t t h
 exact h4
theorem JnT.cell {w0 w4 w:World}{v':Value}{done:List BV}{t:BV}{rows:List Tm}{g off cap n:Nat}(h:JnT w0 w4 w (.slice (some ⟨g,off,none⟩) n cap) v' done t rows):w.cell? ⟨g,off+(done.length*2+1),none⟩=some t.2.1∧w.frozen? ⟨g,off+(done.length*2+1),none⟩=false:=by
 have hO:=h.own
 obtain ⟨A',cap',e⟩:=hO.len
 cases e
 obtain ⟨_,_,h3,h4,h5⟩:=hO.parts
 refine ⟨h4 _ _ ?_,(h5 _ (by omega)).2⟩
 have:=Kin.flat_get (K:=batchK) (done++[t]) done.length (by simp) 1 (by decide)
 rw [List.getElem_append_right (Nat.le_refl _)] at this
 simp only [Nat.sub_self,List.getElem_cons_zero] at this
 exact this
theorem JnT.slice {w0 w4 w:World}{x v':Value}{done:List BV}{t:BV}{rows:List Tm}(h:JnT w0 w4 w x v' done t rows):∃ A p,v'=.slice A rows.length p:=by
 obtain ⟨tvr,h1,_⟩:=h.rows
 exact h1.len
def JnE (w0 w4 w:World)(x:Value)(done:List BV)(t:BV)(rows:List Tm):Prop:=∃ v',JnS w0 w4 w x v' done (t.1,v',(t.2.2.1,rows))
theorem JnE.kept {w0 w4 w w':World}{x:Value}{done:List BV}{t:BV}{rows:List Tm}(hb:Below w.heap.size w w')(h:JnE w0 w4 w x done t rows):JnE w0 w4 w' x done t rows:=by
 obtain ⟨v',h⟩:=h
 exact ⟨v',h.later hb⟩
theorem JnS.slice {w0 w4 w:World}{x wv:Value}{done:List BV}{t:BV}(h:JnS w0 w4 w x wv done t):∃ g off cap,x=.slice (some ⟨g,off,none⟩) (done.length+1) cap:=by
 rcases h.own.2.2 with ⟨_,hn⟩ | ⟨g,off,cap,e,_⟩
 ·omega
 ·exact ⟨g,off,cap,e⟩
theorem JnS.cells {w0 w4 w:World}{wv:Value}{done:List BV}{t:BV}{g off cap n:Nat}(h:JnS w0 w4 w (.slice (some ⟨g,off,none⟩) n cap) wv done t):w.cell? ⟨g,off+done.length*2,none⟩=some t.1∧w.cell? ⟨g,off+done.length*2+1,none⟩=some t.2.1:=by
 have hO:=h.own
 obtain ⟨A',cap',e⟩:=hO.len
 cases e
 obtain ⟨_,_,h3,h4,h5⟩:=hO.parts
 have k0:=Kin.flat_get (K:=batchK) (done++[t]) done.length (by simp) 0 (by decide)
 have k1:=Kin.flat_get (K:=batchK) (done++[t]) done.length (by simp) 1 (by decide)
 rw [List.getElem_append_right (Nat.le_refl _)] at k0 k1
 simp only [Nat.sub_self,List.getElem_cons_zero] at k0 k1
 have e0:=h4 _ _ k0
 have e1:=h4 _ _ k1
 exact ⟨e0,by rw [Nat.add_assoc];exact e1⟩
def AccB (w0 w4 w:World)(x:Value)(A:List BP):Prop:=(A=[]∧x=.slice none 0 0∧Below w4.heap.size w4 w)∨∃ wv done t,A=(done++[t]).map batchK.pr∧JnS w0 w4 w x wv done t
theorem AccB.below {w0 w4 w:World}{x:Value}{A:List BP}(h:AccB w0 w4 w x A):Below w4.heap.size w4 w:=by
 rcases h with ⟨_,_,h⟩ | ⟨_,_,_,_,h⟩
 ·exact h
 ·exact h.below
theorem AccB.all {w0 w4 w:World}{x:Value}{A:List BP}(h:AccB w0 w4 w x A)(hw0:Below w0.heap.size w0 w):batchK.In (fun _=>True) w x A:=by
 rcases h with ⟨rfl,rfl,_⟩ | ⟨_,_,_,rfl,h⟩
 ·exact Kin.In.nil_ _ _ _ _ trivial
 ·exact h.all hw0
def BatchesEnd (w:World)(by_:List Int)(l:List Tm)(e:Ending)(w':World):Prop:=∃ v E,e=.returned v∧E.Perm (eachB by_ l)∧E.Pairwise (fun a b=>¬cmpL b.1 a.1 = -1)∧batchK.In (fun _=>True) w' v (joinB E)∧Below w.heap.size w w'
theorem stepB_flat (acc:List BP)(b:BP):(stepB acc b).flatMap (·.2)=acc.flatMap (·.2)++b.2:=by
 rcases List.eq_nil_or_concat acc with rfl | ⟨a,t,rfl⟩
 ·simp [stepB]
 ·by_cases h:t.1=b.1
  ·rw [List.concat_eq_append,stepB_same a t b h]
   simp
  ·rw [List.concat_eq_append,stepB_new a t b h]
   simp
theorem joinB_flat (E:List BP):(joinB E).flatMap (·.2)=E.flatMap (·.2):=by
 have k:∀ (E acc:List BP),(E.foldl stepB acc).flatMap (·.2)=acc.flatMap (·.2)++E.flatMap (·.2):=by
  intro E
  induction E with
  | nil=>intro acc;simp
  | cons b E ih=>intro acc;rw [List.foldl_cons,ih,stepB_flat];simp
 have:=k E []
 simpa [joinB] using this
theorem flat_ones:∀ (E:List BP),(∀ b∈E,b.2.length=1)→(E.flatMap (·.2)).length=E.length
 | [],_=>rfl
 | b::E,h=>by
  rw [List.flatMap_cons,List.length_append,h b (List.mem_cons_self ..),flat_ones E fun x hx=>h x (List.mem_cons_of_mem _ hx),List.length_cons]
  omega
theorem mem_flat_le {A:List BP}{b:BP}(h:b∈A):b.2.length≤(A.flatMap (·.2)).length:=by
 induction A with
 | nil=>exact absurd h (by simp)
 | cons a A ih =>
  rw [List.flatMap_cons,List.length_append]
  rcases List.mem_cons.1 h with rfl|h
  ·omega
  ·have:=ih h;omega
theorem stepB_length (acc:List BP)(b:BP):(stepB acc b).length≤acc.length+1:=by
 rcases List.eq_nil_or_concat acc with rfl | ⟨a,t,rfl⟩
 ·simp [stepB]
 ·by_cases h:t.1=b.1
  ·rw [List.concat_eq_append,stepB_same a t b h];simp
  ·rw [List.concat_eq_append,stepB_new a t b h];simp
theorem joinB_length (E:List BP):(joinB E).length≤E.length:=by
 have k:∀ (E acc:List BP),(E.foldl stepB acc).length≤acc.length+E.length:=by
  intro E
  induction E with
  | nil=>intro acc;simp
  | cons b E ih=>intro acc;rw [List.foldl_cons];have h1:=ih (stepB acc b);have h2:=stepB_length acc b;simp only [List.length_cons];omega
 have:=k E []
 simpa [joinB] using this
theorem gbelow_drew (w:World)(q:Nat):Below w.heap.size w (w.drewN q):=⟨rfl,rfl,rfl,Nat.le_refl _,fun _ _=>rfl⟩
theorem batch_cells {w:World}{A:Option Addr}{n c:Nat}{tvs:List BV}(h:SliceOf w 2 (.slice A n c) n (batchK.flat tvs))(hn:tvs.length=n):∀ k,k < n→∃ b off,A=some ⟨b,off,none⟩∧b < w.heap.size∧∀ j (hj:j < tvs.length),w.cell? ⟨b,off+j*2,none⟩=some tvs[j].1∧w.cell? ⟨b,off+j*2+1,none⟩=some tvs[j].2.1:=fun k hk=>by
 obtain ⟨_,_,A',c',e,_,hat⟩:=h
 cases e
 obtain ⟨b,off,ea,hb,hc⟩:=hat (by omega)
 refine ⟨b,off,ea,hb,fun j hj=>?_⟩
 have k0:=Kin.flat_get (K:=batchK) tvs j hj 0 (by decide)
 have k1:=Kin.flat_get (K:=batchK) tvs j hj 1 (by decide)
 exact ⟨hc _ _ k0,by rw [Nat.add_assoc];exact hc _ _ k1⟩
theorem lit_one_tm (w:World)(T:TypeId)(xv:Value)(n:Int):SliceOf (w.alloc (.cells #[xv,.int .i64 n] T)) 2 (.slice (some ⟨w.heap.size,0,none⟩) 1 1) 1 (timesV [(xv,n)]):=lit_tm w T xv n
theorem batchK_lit (w:World)(T:TypeId)(t:BV):SliceOf (w.alloc (.cells #[t.1,t.2.1] T)) 2 (.slice (some ⟨w.heap.size,0,none⟩) 1 1) 1 (batchK.cells t) :=
 (Own.lit (B:=0) (size:=2) w #[t.1,t.2.1] T 1 (Nat.zero_le _) (by unfold maxLen;omega) rfl).slice
set_option maxHeartbeats 8000000 in
set_option maxRecDepth 100000 in
theorem gbatches_calls {w:World}{lv bv:Value}{l:List Tm}{by_:List Int}(h:TimesIn w lv l)(hc:IntsIn w bv by_)(hl:l.length≤1000000)(hbyl:by_.length≤1000000) :
  Calls Tryz.prog 23 #[lv,bv] w (BatchesEnd w by_ l):=by
 obtain ⟨i0,hi,hz0,hz1,hz2⟩:=info_parts Tryz.infoB88
 obtain ⟨j0,hj,jz0,jz1,jz2⟩:=info_parts Tryz.infoM49
 obtain ⟨tv,A,cap,rfl,_,hat⟩:=times_at h
 obtain ⟨Ac,cc,rfl,_⟩:=one_at hc
 have HAT:=Lib.hid hat
 have HC:=Lib.hid hc
 have HLL:=Lib.hid hl
 clear h hat hc
 go_enter Tryz.func23,Tryz.ntmps23
 go_wp2
 go_loopw [5,16] (fun x i wr=>∃ (k:Nat) (tv:List BV),k≤l.length∧i=.int .i64 k∧Hid (tv.map batchK.pr=eachB by_ (l.take k))∧Hid (batchK.Mine (fun _=>True) wr w.heap.size x tv)∧Hid (∀ t∈tv,LitB w wr t)∧Hid (Below w.heap.size w wr)) (fun _ i _=>l.length-(intOf i).toNat)
 case atStart=>exact ⟨0,[],Nat.zero_le _,rfl,Lib.hid rfl,Kin.Mine.nil_ _ _ _,fun t ht=>absurd ht (by simp),.refl _ _⟩
 case round =>
  obtain ⟨k,tv,hk,rfl,HE,HM,HLT,HB⟩:=hrel
  have hll:=HLL.out
  have htl:tv.length≤k:=by
   have h1:=congrArg List.length HE.out
   have h2:=each_length by_ (l.take k)
   rw [List.length_map] at h1
   rw [List.length_take] at h2
   omega
  have HTL:Hid (tv.length≤1000000):=by show _≤_;omega
  obtain ⟨A9,p9,rfl⟩:=HM.out.slice
  by_cases hlt:k < l.length
  ·obtain ⟨b,off,rfl,hbl,hc⟩:=HAT.out k hlt
   obtain ⟨rv,hs,_,c1,c2⟩:=hc k hlt
   have x1:=(HB.out.cell (p:=⟨b,off+k*2,none⟩) hbl).trans c1
   have x2:=(HB.out.cell (p:=⟨b,off+k*2+1,none⟩) hbl).trans c2
   have HTK:=Lib.hid (each_take by_ l k hlt)
   have HS0:=Lib.hid hs
   obtain ⟨Ar,pr,rfl⟩:∃ Ar pr,rv=.slice Ar l[k].1.length pr:=by obtain ⟨Ar,pr,e,_⟩:=one_at hs;exact ⟨Ar,pr,e⟩
   have i1:(k:Int) < (l.length:Int):=by omega
   have HLK:Hid (k < l.length):=hlt
   have hkl:k < 1000000:=by omega
   clear hc c1 c2 hs htl hk hll
   generalize l[k]=x at *
   obtain ⟨row,c⟩:=x
   dsimp only at *
   have hq0:=Below.alloc (.refl wr.heap.size wr) (Nat.le_refl _) (.cells #[.slice Ar row.length pr,.int .i64 c] 49)
   have hbw:=HB.out.trans (hq0.mono HB.out.size)
   have z0:=box_cell wr 49 #[.slice Ar row.length pr,.int .i64 c] 0 _ rfl
   have z1:=box_cell wr 49 #[.slice Ar row.length pr,.int .i64 c] 1 _ rfl
   have hp:=shape_pick_new (StrsIn.kept HS0.out hbw) (IntsIn.kept HC.out hbw) hbyl
   have HQ0:=Lib.hid hq0
   have HZ0:=Lib.hid z0
   have HZ1:=Lib.hid z1
   clear hq0 hbw hlt
   go_wp2_with fail
   refine hp.mono ?_
   rintro e w3 ⟨kv,rfl,hs3,hf3,hb3⟩
   have hq3:=HQ0.out.trans (hb3.mono HQ0.out.size)
   have HB3:=Lib.hid (HB.out.trans (hq3.mono HB.out.size))
   have HM3:=Lib.hid (HM.out.later hq3)
   have HLT3:Hid (∀ t∈tv,LitB w w3 t):=fun t ht=>(HLT.out t ht).later hq3
   have y0:=cell_kept HZ0.out hb3
   have y1:=cell_kept HZ1.out hb3
   have HSZ3:=Lib.hid hq3.size
   clear hp x1 x2 z0 z1 hq3
   cases hy:pickOk row by_ with
   | false =>
    have HTN:Hid (tv.map batchK.pr=eachB by_ (l.take (k+1))):=by
     show _=_
     rw [HTK.out,if_neg (by rw [hy];decide),List.append_nil];exact HE.out
    rw [pickL_no hy] at hs3
    obtain ⟨A3,p3,rfl,_⟩:=one_at hs3
    clear hs3 hf3 hb3 hy
    go_wp2
    go_roundw
    case rel=>exact ⟨k+1,tv,HLK.out,by go_num,HTN,HM3,HLT3,HB3⟩
    case measure=>have:=HLK.out;simp [intOf];omega
   | true =>
    have HTN:Hid (eachB by_ (l.take (k+1))=tv.map batchK.pr++[(pickF row by_,[(row,c)])]):=by
     show _=_
     rw [HTK.out,if_pos hy,HE.out];rfl
    rw [pickL_yes hy] at hs3
    obtain ⟨A3,p3,rfl,_⟩:=one_at hs3
    generalize hky:pickF row by_=key at *
    have HS3:=Lib.hid hs3
    have HF3:=Lib.hid (hf3.mono HQ0.out.size)
    have hq4:=Below.alloc (.refl w3.heap.size w3) (Nat.le_refl _) (.cells #[.slice Ar row.length pr,.int .i64 c] 49)
    have hlit4:=lit_one_tm w3 49 (.slice Ar row.length pr) c
    have hsz4:(w3.alloc (.cells #[.slice Ar row.length pr,.int .i64 c] 49)).heap.size=w3.heap.size+1:=by simp
    have hq5:=Below.alloc (.refl _ _) (Nat.le_refl _) (.cells #[.slice A3 key.length p3,.slice (some ⟨w3.heap.size,0,none⟩) 1 1] 88) (w:=w3.alloc (.cells #[.slice Ar row.length pr,.int .i64 c] 49))
    have hlit5:=batchK_lit (w3.alloc (.cells #[.slice Ar row.length pr,.int .i64 c] 49)) 88 (.slice A3 key.length p3,.slice (some ⟨w3.heap.size,0,none⟩) 1 1,(key,[(row,c)]))
    rw [hsz4] at hlit5
    have hq45:=hq4.trans (hq5.mono hq4.size)
    have HT5:=Lib.hid (HM3.out.later hq45)
    have HLIT4:=Lib.hid (SliceOf.later hlit4 hq5)
    have HLIT5:=Lib.hid hlit5
    have HLT5:Hid (∀ t∈tv,LitB w ((w3.alloc (.cells #[.slice Ar row.length pr,.int .i64 c] 49)).alloc (.cells #[.slice A3 key.length p3,.slice (some ⟨w3.heap.size,0,none⟩) 1 1] 88)) t):=fun t ht=>(HLT3.out t ht).later hq45
    have HB5:=Lib.hid (HB3.out.trans (hq45.mono HB3.out.size))
    have HVB:Hid (∀ k,(Value.slice A9 tv.length p9).ownBlock=some k→k < wr.heap.size):=fun k hk=>(HM.out.lt k hk).2
    have HR5:Hid (batchK.R (fun u=>True∧RowOff (.slice A9 tv.length p9) u) ((w3.alloc (.cells #[.slice Ar row.length pr,.int .i64 c] 49)).alloc (.cells #[.slice A3 key.length p3,.slice (some ⟨w3.heap.size,0,none⟩) 1 1] 88)) (.slice A3 key.length p3,.slice (some ⟨w3.heap.size,0,none⟩) 1 1,(key,[(row,c)]))):=by
     refine ⟨⟨StrsIn.kept HS3.out hq45,trivial,RowOff.of_fresh HF3.out fun k hk=>HVB.out k hk⟩,[(.slice Ar row.length pr,(row,c))],rfl,HLIT4.out,fun t ht=>?_,trivial,fun A m p k e h0 hk e2=>?_⟩
     ·rw [List.mem_singleton.1 ht]
      exact ⟨StrsIn.kept HS0.out HB5.out,trivial,(StrsIn.lain HS0.out).apart fun k hk=>(HM.out.lt k hk).1⟩
     ·simp only [Value.ownBlock,Option.some.injEq] at hk
      have:=HVB.out k e2
      have:=HSZ3.out
      omega
    have H15:=Lib.hid (batchK.one HR5.out)
    clear hs3 hf3 hb3 hy hky hq4 hq5 hq45 hlit4 hlit5 hsz4
    have htl:=HTL.out
    go_wp2_with (at_builtin;refine wpList_append_src rfl (.tmp 28) (.tmp 33) 62 rfl 88 i0 (.agg #[.slice none 0 0,.slice none 0 0]) 2 48 Tryz.underlying62 hi hz0 hz1 hz2 rfl (by decide) (B:=w.heap.size) (.slice A9 tv.length p9) tv.length (batchK.flat tv) rfl HT5.out.own (.slice (some ⟨w3.heap.size+1,0,none⟩) 1 1) 1 (batchK.cells (.slice A3 key.length p3,.slice (some ⟨w3.heap.size,0,none⟩) 1 1,(key,[(row,c)]))) rfl HLIT5.out H15.out (by unfold maxLen;omega) (by omega) HB5.out.size ?_)
    intro v7 w7 hO7 hg7 ha7
    have HM7:=Lib.hid (HT5.out.add HR5.out hg7 (fun k hk=>by have:=ha7 k hk;simpa using this) hO7 rfl)
    have HLT7:Hid (∀ t∈tv++[((.slice A3 key.length p3,.slice (some ⟨w3.heap.size,0,none⟩) 1 1,(key,[(row,c)])):BV)],LitB w w7 t):=fun t ht=>by
     rcases List.mem_append.1 ht with ht|ht
     ·exact (HLT5.out t ht).off (batch_roff (HT5.out.each t ht)).2 hg7
     ·rw [List.mem_singleton.1 ht]
      exact LitB.off ⟨_,_,_,_,rfl,rfl,HLIT4.out,HS0.out⟩ (batch_roff HR5.out).2 hg7
    have HB7:=Lib.hid (HB5.out.grown hg7 HB5.out.size fun j hj=>(HT5.out.lt j hj).1)
    have HE7:Hid ((tv++[((.slice A3 key.length p3,.slice (some ⟨w3.heap.size,0,none⟩) 1 1,(key,[(row,c)])):BV)]).map batchK.pr=eachB by_ (l.take (k+1))):=by
     show _=_
     rw [HTN.out,List.map_append];rfl
    clear hO7 hg7 ha7 y0 y1 htl
    go_wp2
    go_roundw
    case rel=>exact ⟨k+1,_,HLK.out,by go_num,HE7,HM7,HLT7,HB7⟩
    case measure=>have:=HLK.out;simp [intOf];omega
  ·obtain rfl:k=l.length:=by omega
   rw [List.take_length] at HE
   have hso:=sortB_calls HM.out HTL.out
   have HMM:=Lib.hid HM.out.each
   go_wp2_with fail
   refine Calls.mono hso ?_
   rintro e w4 ⟨rfl,tvs,hperm,hsorted,hrs,hsl,hgr⟩
   have hnl:tvs.length=tv.length:=hperm.length_eq
   have HCS:=Lib.hid (batch_cells hsl hnl)
   have HRS:Hid (∀ t∈tvs,batchK.R (fun _=>True) w4 t):=fun t ht=>batchK.mono (hrs t ht) fun _ _=>trivial
   have HLS:Hid (∀ t∈tvs,LitB w w4 t):=fun t ht=>(HLT.out t (hperm.mem_iff.1 ht)).off (batch_roff (HMM.out t (hperm.mem_iff.1 ht))).2 hgr
   have HB4:=Lib.hid (HB.out.grown hgr HB.out.size fun j hj=>(HM.out.lt j hj).1)
   have HPM:Hid ((tvs.map batchK.pr).Perm (eachB by_ l)):=by
    rw [←HE.out]
    exact hperm.map _
   have HSO:Hid ((tvs.map batchK.pr).Pairwise fun a b=>¬cmpL b.1 a.1 = -1):=by
    show List.Pairwise _ _
    rw [List.pairwise_map]
    exact hsorted
   have HN1:Hid (∀ b∈tvs.map batchK.pr,b.2.length=1):=fun b hb=>by
    obtain ⟨x,_,rfl⟩:=List.mem_map.1 (HPM.out.mem_iff.1 hb)
    rfl
   obtain ⟨n9,hn9⟩:∃ n9,tv.length=n9:=⟨_,rfl⟩
   have HNL:Hid (tvs.length=n9):=hnl.trans hn9
   have HNB:Hid (n9≤1000000):=by rw [←hn9];exact HTL
   rw [hn9] at HCS ⊢
   clear hperm hsorted hrs hsl hgr hnl hn9 HM HLT HE HMM hso HTL HB htl hll
   go_wp2_with fail
   go_loopw [6,40] (fun x i wr=>∃ k:Nat,k≤n9∧i=.int .i64 k∧Hid (AccB w w4 wr x (joinB ((tvs.map batchK.pr).take k)))) (fun _ i _=>n9-(intOf i).toNat)
   case atStart=>exact ⟨0,Nat.zero_le _,rfl,.inl ⟨rfl,rfl,.refl _ _⟩⟩
   case round =>
    obtain ⟨k,hk,rfl,HA⟩:=hrel
    have HBR:=Lib.hid HA.out.below
    by_cases hlt:k < n9
    ·have hkt:k < tvs.length:=by rw [HNL.out];exact hlt
     obtain ⟨eb,eo,rfl,hel,hec⟩:=HCS.out k hlt
     obtain ⟨e0,e1⟩:=hec k hkt
     have x0:=(HBR.out.cell (p:=⟨eb,eo+k*2,none⟩) hel).trans e0
     have x1:=(HBR.out.cell (p:=⟨eb,eo+k*2+1,none⟩) hel).trans e1
     have hm:=List.getElem_mem hkt
     obtain ⟨⟨Ak,pk,_,_,ek,_⟩,hsk,_,_⟩:=batch_open_t tvs[k] (HRS.out _ hm)
     obtain ⟨lb,xv,row,c,el1,el2,el3,el4⟩:=HLS.out _ hm
     have HST:Hid (joinB ((tvs.map batchK.pr).take (k+1))=stepB (joinB ((tvs.map batchK.pr).take k)) tvs[k].2.2):=by
      show _=_
      rw [joinB_take _ k (by rw [List.length_map];exact hkt),List.getElem_map];rfl
     have HFL:Hid (∀ b∈joinB ((tvs.map batchK.pr).take k),b.2.length≤1000000):=fun b hb=>by
      have h1:=mem_flat_le hb
      rw [joinB_flat,flat_ones _ fun b hb=>HN1.out b (List.mem_of_mem_take hb),List.length_take] at h1
      have:=HNB.out
      omega
     have HFN:Hid ((joinB ((tvs.map batchK.pr).take k)).length+1≤1000001):=by
      show _≤_
      have h1:=joinB_length ((tvs.map batchK.pr).take k)
      rw [List.length_take] at h1
      have:=HNB.out
      omega
     rw [ek] at x0 hsk
     rw [el1] at x1
     have i1:(k:Int) < (n9:Int):=by omega
     have HLK:Hid (k < n9):=hlt
     have hnb:=HNB.out
     have HSK:=Lib.hid hsk
     have HEL1:=Lib.hid el1
     have HEL2:=Lib.hid el2
     have HEK:=Lib.hid ek
     have HSL4:=Lib.hid el3
     have HXV0:=Lib.hid el4
     clear hec e0 e1 hm hsk ek el1 el2 el3 el4 hlt hk
     generalize tvs[k]=s at *
     obtain ⟨kv,rv,key,rows⟩:=s
     dsimp only at *
     obtain rfl:=HEK.out
     obtain rfl:=HEL1.out
     obtain rfl:=HEL2.out
     have hq0:=Below.alloc (.refl wr.heap.size wr) (Nat.le_refl _) (.cells #[.slice Ak key.length pk,.slice (some ⟨lb,0,none⟩) 1 1] 88)
     have HZ0:=Lib.hid (box_cell wr 88 #[.slice Ak key.length pk,.slice (some ⟨lb,0,none⟩) 1 1] 0 _ rfl)
     have HZ1:=Lib.hid (box_cell wr 88 #[.slice Ak key.length pk,.slice (some ⟨lb,0,none⟩) 1 1] 1 _ rfl)
     have HQ0:=Lib.hid hq0
     rcases HA.out with ⟨hA,rfl,hbA⟩ | ⟨wv,done,t,hA,hJ⟩
     ·have HSN:Hid (joinB ((tvs.map batchK.pr).take (k+1))=[(key,[(row,c)])]):=by
       show _=_
       rw [HST.out,hA];rfl
      have z0:=HZ0.out
      have z1:=HZ1.out
      have HB5:=Lib.hid (hbA.trans (hq0.mono hbA.size))
      clear hA hbA hq0 HA
      go_wp2_with fail
      go_quiet (fail)
      generalize hgd:World.drewN _ _=w5 at *
      have hbd:Below (wr.alloc (.cells #[.slice Ak key.length pk,.slice (some ⟨lb,0,none⟩) 1 1] 88)).heap.size (wr.alloc (.cells #[.slice Ak key.length pk,.slice (some ⟨lb,0,none⟩) 1 1] 88)) w5:=by rw [←hgd];exact gbelow_drew _ _
      have z0:=cell_kept z0 hbd
      have z1:=cell_kept z1 hbd
      have HB6:=Lib.hid (HB5.out.trans (hbd.mono HB5.out.size))
      clear hgd hbd
      have HLITB:=Lib.hid (batchK_lit w5 88 (.slice Ak key.length pk,.slice (some ⟨lb,0,none⟩) 1 1,(key,[(row,c)])))
      have hqb:=Below.alloc (.refl w5.heap.size w5) (Nat.le_refl _) (.cells #[.slice Ak key.length pk,.slice (some ⟨lb,0,none⟩) 1 1] 88)
      have HB7:=Lib.hid (HB6.out.trans (hqb.mono HB6.out.size))
      have H1B:Hid (∀ u∈batchK.cells (.slice Ak key.length pk,.slice (some ⟨lb,0,none⟩) 1 1,(key,[(row,c)])),u.oneCell'=true):=fun u hu=>by
       rcases List.mem_cons.1 hu with rfl|hu
       ·rfl
       ·rw [List.mem_singleton.1 hu];rfl
      clear hqb
      go_wp2_with (at_builtin;refine wpList_append_src rfl (.tmp 72) (.tmp 74) 62 rfl 88 i0 (.agg #[.slice none 0 0,.slice none 0 0]) 2 48 Tryz.underlying62 hi hz0 hz1 hz2 rfl (by decide) (B:=w4.heap.size) (.slice none 0 0) 0 [] rfl (Own.nil_ _ _ _) (.slice (some ⟨w5.heap.size,0,none⟩) 1 1) 1 (batchK.cells (.slice Ak key.length pk,.slice (some ⟨lb,0,none⟩) 1 1,(key,[(row,c)]))) rfl HLITB.out H1B.out (by unfold maxLen;omega) (by omega) HB7.out.size ?_)
      intro v7 w7 hO7 hg7 ha7
      have HAN:Hid (AccB w w4 w7 v7 (joinB ((tvs.map batchK.pr).take (k+1)))):=by
       show AccB _ _ _ _ _
       rw [HSN.out]
       exact .inr ⟨_,[],_,rfl,JnS.first (s:=(.slice Ak key.length pk,.slice (some ⟨lb,0,none⟩) 1 1,(key,[(row,c)]))) HSK.out ⟨lb,rfl⟩ HSL4.out (RowsOf.one HXV0.out) (HB7.out.grown hg7 HB7.out.size fun j hj=>by simp [Value.ownBlock] at hj) hO7 rfl⟩
      clear hO7 hg7 ha7 z0 z1
      go_wp2
      go_roundw
      case rel=>exact ⟨k+1,HLK.out,by go_num,HAN⟩
      case measure=>have:=HLK.out;simp [intOf];omega
     ·obtain ⟨tk,tr,tkey,trows⟩:=t
      obtain ⟨g,off,cap,rfl⟩:=hJ.slice
      have hkey0:StrsIn wr tk tkey:=hJ.key
      obtain ⟨At0,pt0,rfl,_⟩:=one_at hkey0
      have htrl:∃ At pt,tr=.slice At trows.length pt:=by
       obtain ⟨tvr,h1,_⟩:=hJ.rows
       change LR wr w4.heap.size tr wv trows.length _ at h1
       obtain ⟨A,c,e,_⟩:=h1.slice.at_
       exact ⟨A,c,e⟩
      obtain ⟨At,pt,rfl⟩:=htrl
      obtain ⟨k0,k1⟩:=hJ.cells
      dsimp only at k0 k1
      have HK0:=Lib.hid (cell_kept k0 hq0)
      have HK1:=Lib.hid (cell_kept k1 hq0)
      have hkey:=hkey0
      have hbj:=hJ.below
      have HJ0:=Lib.hid (hJ.later hq0)
      have HCM:Hid (∀ n,Reads Tryz.prog 32 #[.slice At0 tkey.length pt0,.slice Ak key.length pk] ((wr.alloc (.cells #[.slice Ak key.length pk,.slice (some ⟨lb,0,none⟩) 1 1] 88)).drewN n) (.int .i64 (cmpL tkey key))):=fun n=>by
       have hd:=gbelow_drew (wr.alloc (.cells #[.slice Ak key.length pk,.slice (some ⟨lb,0,none⟩) 1 1] 88)) n
       exact compare_calls (StrsIn.kept (StrsIn.kept hkey hq0) hd) (StrsIn.kept (StrsIn.kept (StrsIn.kept HSK.out hbj) hq0) hd)
      have HTL:Hid (trows.length≤1000000):=HFL.out (tkey,trows) (by rw [hA];simp;exact .inr rfl)
      have HDL:Hid (done.length+1≤1000000):=by
       have:=HFN.out
       rw [hA] at this
       simp at this
       show _≤_
       omega
      have hdl:=HDL.out
      have q1:IntKind.i64.wrap (done.length:Int)=(done.length:Int):=IntWalk.i64_in _ (by omega)
      have d1:decide ((0:Int)≤(done.length:Int))=true:=decide_eq_true (by omega)
      have hz0:=cmpL_zero tkey key
      have HSTP:=HST.out
      rw [hA,List.map_append] at HSTP
      have HBJ:=Lib.hid (hbj.trans (hq0.mono hbj.size))
      have z0:=HZ0.out
      have k0:=HK0.out
      have hp0:(done.length:Int) < (done.length:Int)+1:=by omega
      have hp1:(0:Int)≤(done.length:Int):=by omega
      have hp2:done.length < done.length+1:=by omega
      clear hA hq0 HA hJ hkey hkey0 k1 hbj HFN HFL
      by_cases hke:tkey=key
      ·have hsame:Hid (joinB ((tvs.map batchK.pr).take (k+1))=(done++[((.slice At0 tkey.length pt0,.slice At trows.length pt,(tkey,trows++[(row,c)])):BV)]).map batchK.pr):=by
        show _=_
        rw [HSTP,List.map_append]
        exact stepB_same (done.map batchK.pr) (tkey,trows) (key,[(row,c)]) hke
       rw [hz0.2 hke] at HCM
       clear HSTP hz0 hke
       go_wp2_with fail
       go_quiet ((go_at_call 32;exact Reads.quiet (HCM.out _)))
       generalize hgd:World.drewN _ _=w5 at *
       have hbd:Below (wr.alloc (.cells #[.slice Ak key.length pk,.slice (some ⟨lb,0,none⟩) 1 1] 88)).heap.size (wr.alloc (.cells #[.slice Ak key.length pk,.slice (some ⟨lb,0,none⟩) 1 1] 88)) w5:=by rw [←hgd];exact gbelow_drew _ _
       have HJ:=Lib.hid (HJ0.out.later hbd)
       have HY1:=Lib.hid (cell_kept HK1.out hbd)
       have HY2:=Lib.hid (cell_kept HZ1.out hbd)
       have HSL:=Lib.hid (SliceOf.later HSL4.out (HBJ.out.trans (hbd.mono HBJ.out.size)))
       clear hgd hbd HJ0 z0 k0 HZ0 HZ1 HK0 HK1 HCM
       go_wp2_with fail
       refine wp_region_m (offM 9 w5) (fun k=>k==9||k==12) (fun k m=>(m==9&&[2,3,4,5,6,7,8].contains k)||(m==12&&[0,1,2,3,4,5,6,7,8,9,10,11].contains k)) (fun k m=>(m==9&&[10,11,12].contains k)||(m==12&&[].contains k)) (fun _ _ _ _=>True) (by kernel_rfl) (by kernel_rfl) (by kernel_rfl) (by kernel_rfl) (by intro m hm;revert hm;simp;try omega) (offM_stable _ _) (offM_start _ _) ?_
       refine m_fix rfl ?_
       apply Exists.intro
       refine ⟨fun ph a wz hp hc hk hf K hK=>?_,?_⟩
       ·have h6:=hk 6 (by kernel_rfl)
        clear hk hf hc
        go_simp
        exact hK _ _ (Below.refl _ _) rfl
       refine m_fix rfl ?_
       apply Exists.intro
       refine ⟨fun ph a wz hp hc hk hf K hK=>?_,?_⟩
       ·have h13:=hk 13 (by kernel_rfl)
        clear hk hf hc
        go_simp
        exact hK _ _ (Below.refl _ _) rfl
       refine m_fix rfl ?_
       apply Exists.intro
       refine ⟨fun ph a wz hp hc hk hf K hK=>?_,?_⟩
       ·have h6:=hk 6 (by kernel_rfl)
        clear hk hf hc
        go_simp
        exact hK _ _ (Below.refl _ _) rfl
       refine m_fix rfl ?_
       apply Exists.intro
       refine ⟨fun ph a wz hp hc hk hf K hK=>?_,?_⟩
       ·have h13:=hk 13 (by kernel_rfl)
        clear hk hf hc
        go_simp
        exact hK _ _ (Below.refl _ _) rfl
       refine m_fix rfl ?_
       apply Exists.intro
       refine ⟨fun ph a wz hp hc hk hf K hK=>?_,?_⟩
       ·have hb:Below w5.heap.size w5 wz:=hc (hp.1 9 rfl rfl)
        have h62:=mheld_isV hf 1 rfl (by kernel_rfl)
        have h63:=mheld_isV hf 0 rfl (by kernel_rfl)
        clear hk hf hc
        have hp0:(done.length:Int) < ((done.length+1:Nat):Int):=by omega
        have hp1:(0:Int)≤(done.length:Int):=by omega
        have hp2:done.length < done.length+1:=by omega
        go_simp
        exact hK _ _ (Below.refl _ _) rfl
       refine m_fix rfl ?_
       apply Exists.intro
       refine ⟨fun ph a wz hp hc hk hf K hK=>?_,?_⟩
       ·have h64:=mheld_isV hf 0 rfl (by kernel_rfl)
        clear hk hf hc
        go_simp
        exact hK _ _ (Below.refl _ _) rfl
       refine m_fix rfl ?_
       apply Exists.intro
       refine ⟨fun ph a wz hp hc hk hf K hK=>?_,?_⟩
       ·have hb:Below w5.heap.size w5 wz:=hc (hp.1 9 rfl rfl)
        have h65:=mheld_isV hf 0 rfl (by kernel_rfl)
        clear hk hf hc
        have y1:=cell_kept HY1.out hb
        go_simp
        exact hK _ _ (Below.refl _ _) rfl
       refine m_fix rfl ?_
       apply Exists.intro
       refine ⟨fun ph a wz hp hc hk hf K hK=>?_,?_⟩
       ·have h12:=hk 12 (by kernel_rfl)
        clear hk hf hc
        go_simp
        exact hK _ _ (Below.refl _ _) rfl
       refine m_fix rfl ?_
       apply Exists.intro
       refine ⟨fun ph a wz hp hc hk hf K hK=>?_,?_⟩
       ·have hb:Below w5.heap.size w5 wz:=hc (hp.1 9 rfl rfl)
        have h67:=mheld_isV hf 0 rfl (by kernel_rfl)
        clear hk hf hc
        have y2:=cell_kept HY2.out hb
        go_simp
        exact hK _ _ (Below.refl _ _) rfl
       refine m_store (tillM 12 (fun v wx=>JnT w w4 wx (.slice (some ⟨g,off,none⟩) (done.length+1) cap) v done (.slice At0 tkey.length pt0,.slice At trows.length pt,(tkey,trows)) (trows++[(row,c)]))) rfl (stable_tillM fun _ _ _ hb h=>h.later hb) (fun ph a wz hp hph hc hk hf K hK=>?_) ?_
       ·have hb:Below w5.heap.size w5 wz:=hc hph
        have h66:=mheld_isV hf 2 rfl (by kernel_rfl)
        have h68:=mheld_isV hf 0 rfl (by kernel_rfl)
        clear hk hf
        have hJ:=HJ.out.later hb
        obtain ⟨tvr,hlr,hro⟩:=hJ.rows
        have hrl:=hlr
        change LR wz w4.heap.size (.slice At trows.length pt) wv trows.length (timesV tvr) at hlr
        refine step_append_LR rfl (.tmp 66) (.tmp 68) 30 rfl 49 j0 (.agg #[.slice none 0 0,.int .i64 0]) 32 Tryz.underlying30 hj jz0 jz1 jz2 rfl (.slice At trows.length pt) wv trows.length (timesV tvr) ?_ hlr (.slice (some ⟨lb,0,none⟩) 1 1) 1 (timesV [(xv,c)]) ?_ (SliceOf.later HSL.out hb) (by decide) ?_ ?_ ?_ ?_ fun v' w' r1 r2 r3=>?_
        ·simp [Act.eval,h66]
        ·simp [Act.eval,h68]
        ·exact one_tm HXV0.out c
        ·have:=HTL.out;unfold maxLen;omega
        ·have:=HTL.out;omega
        ·exact hJ.below.size
        exact hK _ _ trivial (fun h=>by rw [setP_self] at h;cases h) (fun _=>hJ.grow hro (RowsOf.one HXV0.out) (fun k hk=>(hrl.lt k hk).1) r1 r2 r3)
       refine m_fix rfl ?_
       apply Exists.intro
       refine ⟨fun ph a wz hp hc hk hf K hK=>?_,?_⟩
       ·have h60:=mheld_isV hf 9 rfl (by kernel_rfl)
        have h61:=mheld_isV hf 8 rfl (by kernel_rfl)
        clear hk hf hc
        have hp0:(done.length:Int) < ((done.length+1:Nat):Int):=by omega
        have hp1:(0:Int)≤(done.length:Int):=by omega
        have hp2:done.length < done.length+1:=by omega
        go_simp
        exact hK _ _ (Below.refl _ _) rfl
       refine m_fix rfl ?_
       apply Exists.intro
       refine ⟨fun ph a wz hp hc hk hf K hK=>?_,?_⟩
       ·have h70:=mheld_isV hf 0 rfl (by kernel_rfl)
        clear hk hf hc
        go_simp
        exact hK _ _ (Below.refl _ _) rfl
       refine m_store (fun _ _ wx=>JnE w w4 wx (.slice (some ⟨g,off,none⟩) (done.length+1) cap) done (.slice At0 tkey.length pt0,.slice At trows.length pt,(tkey,trows)) (trows++[(row,c)])) rfl (fun _ _ _ _ hb h=>JnE.kept hb h) (fun ph a wz hp hph hc hk hf K hK=>?_) ?_
       ·have h71:=mheld_isV hf 0 rfl (by kernel_rfl)
        obtain ⟨v69,h69,S69⟩:=mheld_at hf 2 rfl (by kernel_rfl)
        have hJ:=S69 hph
        have HP9:=Lib.hid (hp.2 9 rfl rfl)
        obtain ⟨c1,f1⟩:=hJ.cell
        obtain ⟨A8,p8,e8⟩:=hJ.slice
        rw [List.length_append] at e8
        change v69=.slice A8 (trows.length+1) p8 at e8
        subst e8
        have HST:=Lib.hid hJ.stored
        have e9:off+(done.length*2+1)=off+done.length*2+1:=by omega
        rw [e9] at HST c1 f1
        clear hk hf hc hp hJ
        go_simp
        exact hK undef _ trivial (fun h=>by rw [setP_ne _ (by decide)] at h;have h9:=HP9.out;rw [h] at h9;cases h9) ⟨_,HST.out⟩
       refine m_nil ?_
       refine ⟨keeps_m (fun m hm=>?_),?_⟩
       ·have hm2:m=9∨m=12:=by simpa [or_assoc] using hm
        rcases hm2 with rfl|rfl
        ·exact ⟨.inr (.inr (keep_isV _)),.inr (.inr (keep_isV _)),.inr (.inr (keep_isV _)),.inr (.inr (keep_isV _)),.inr (.inr (keep_isV _)),.inr (.inr (keep_isV _)),.inr (.inr (keep_isV _)),.inr (.inr (keep_isV _)),.inr (.inr (keep_isV _)),.inl rfl,.inr (.inl rfl),.inr (.inl rfl),.inr (.inl rfl),trivial⟩
        ·exact ⟨.inr (.inr (keep_isV _)),.inr (.inr (keep_isV _)),.inr (.inr (keep_isV _)),.inr (.inr (keep_isV _)),.inr (.inr (keep_isV _)),.inr (.inr (keep_isV _)),.inr (.inr (keep_isV _)),.inr (.inr (keep_isV _)),.inr (.inr (keep_isV _)),.inr (.inr keep_till_self),.inr (.inr (keep_isV _)),.inr (.inr (keep_isV _)),.inl rfl,trivial⟩
       intro ph w6 hps hc
       simp only [mlexL,mEnd]
       rintro _ rfl _ rfl _ rfl _ rfl _ rfl _ rfl _ rfl _ rfl _ rfl v69 S69 _ rfl _ rfl _ hst12
       obtain ⟨z6,hz6⟩:=hst12
       have HZ6:=Lib.hid hz6
       clear hz6 hc hps S69
       simp only [Act.put,List.setIfInBounds_toArray,List.set_cons_zero,List.set_cons_succ]
       have HAN:Hid (AccB w w4 w6 (.slice (some ⟨g,off,none⟩) (done.length+1) cap) (joinB ((tvs.map batchK.pr).take (k+1)))):=by
        show AccB _ _ _ _ _
        rw [hsame.out]
        exact .inr ⟨z6,done,_,by simp only [List.map_append];rfl,HZ6.out⟩
       go_wp2
       go_roundw
       case rel=>exact ⟨k+1,HLK.out,by go_num,HAN⟩
       case measure=>have:=HLK.out;simp [intOf];omega
      ·have hnew:Hid (joinB ((tvs.map batchK.pr).take (k+1))=(done++[((.slice At0 tkey.length pt0,.slice At trows.length pt,(tkey,trows)):BV)]++[((.slice Ak key.length pk,.slice (some ⟨lb,0,none⟩) 1 1,(key,[(row,c)])):BV)]).map batchK.pr):=by
        show _=_
        rw [HSTP,List.map_append,List.map_append]
        exact stepB_new (done.map batchK.pr) (tkey,trows) (key,[(row,c)]) hke
       have hzn:(cmpL tkey key==0)=false:=by simpa using fun e=>hke (hz0.1 e)
       generalize cmpL tkey key=z at *
       clear HSTP hz0 hke
       go_wp2_with fail
       go_quiet ((go_at_call 32;exact Reads.quiet (HCM.out _)))
       generalize hgd:World.drewN _ _=w5 at *
       have hbd:Below (wr.alloc (.cells #[.slice Ak key.length pk,.slice (some ⟨lb,0,none⟩) 1 1] 88)).heap.size (wr.alloc (.cells #[.slice Ak key.length pk,.slice (some ⟨lb,0,none⟩) 1 1] 88)) w5:=by rw [←hgd];exact gbelow_drew _ _
       have HJ:=Lib.hid (HJ0.out.later hbd)
       have z0:=cell_kept HZ0.out hbd
       have z1:=cell_kept HZ1.out hbd
       have HB6:=Lib.hid (HBJ.out.trans (hbd.mono HBJ.out.size))
       clear hgd hbd HJ0 k0 HZ0 HZ1 HK0 HK1 HCM
       have HLITB:=Lib.hid (batchK_lit w5 88 (.slice Ak key.length pk,.slice (some ⟨lb,0,none⟩) 1 1,(key,[(row,c)])))
       have hqb:=Below.alloc (.refl w5.heap.size w5) (Nat.le_refl _) (.cells #[.slice Ak key.length pk,.slice (some ⟨lb,0,none⟩) 1 1] 88)
       have HJ7:=Lib.hid (HJ.out.later hqb)
       have H1B:Hid (∀ u∈batchK.cells (.slice Ak key.length pk,.slice (some ⟨lb,0,none⟩) 1 1,(key,[(row,c)])),u.oneCell'=true):=fun u hu=>by
        rcases List.mem_cons.1 hu with rfl|hu
        ·rfl
        ·rw [List.mem_singleton.1 hu];rfl
       clear hqb
       go_wp2_with (at_builtin;refine wpList_append_src rfl (.tmp 72) (.tmp 74) 62 rfl 88 i0 (.agg #[.slice none 0 0,.slice none 0 0]) 2 48 Tryz.underlying62 hi hz0 hz1 hz2 rfl (by decide) (B:=w4.heap.size) (.slice (some ⟨g,off,none⟩) (done.length+1) cap) (done.length+1) (batchK.flat (done++[((.slice At0 tkey.length pt0,.slice At trows.length pt,(tkey,trows)):BV)])) rfl HJ7.out.own (.slice (some ⟨w5.heap.size,0,none⟩) 1 1) 1 (batchK.cells (.slice Ak key.length pk,.slice (some ⟨lb,0,none⟩) 1 1,(key,[(row,c)]))) rfl HLITB.out H1B.out (by unfold maxLen;omega) (by omega) HJ7.out.below.size ?_)
       intro v7 w7 hO7 hg7 ha7
       have HAN:Hid (AccB w w4 w7 v7 (joinB ((tvs.map batchK.pr).take (k+1)))):=by
        show AccB _ _ _ _ _
        rw [hnew.out]
        exact .inr ⟨_,_,_,rfl,HJ7.out.push (HB4.out.trans (HJ7.out.below.mono HB4.out.size)) HSK.out ⟨lb,rfl⟩ HSL4.out (RowsOf.one HXV0.out) (fun rv row h=>h.lain.apart fun k hk=>Nat.le_trans HB4.out.size (HJ7.out.own.lt k hk).1) hg7 (fun k hk=>by have:=ha7 k hk;simpa using this) hO7 rfl⟩
       clear hO7 hg7 ha7 z0 z1
       go_wp2
       go_roundw
       case rel=>exact ⟨k+1,HLK.out,by go_num,HAN⟩
       case measure=>have:=HLK.out;simp [intOf];omega
    ·obtain rfl:k=n9:=by omega
     rw [List.take_of_length_le (by rw [List.length_map,HNL.out];exact Nat.le_refl _)] at HA
     have HIN:=Lib.hid (HA.out.all (HB4.out.trans (HBR.out.mono HB4.out.size)))
     have HBZ:=Lib.hid (HB4.out.trans (HBR.out.mono HB4.out.size))
     obtain ⟨A7,p7,e7⟩:=HIN.out.slice
     subst e7
     clear HA
     go_wp2
     go_ret
     exact ⟨.slice A7 (joinB (tvs.map batchK.pr)).length p7,tvs.map batchK.pr,rfl,HPM.out,HSO.out,HIN.out,HBZ.out⟩
end Go.Proofs.YtjbpbfhgjldliaaGreat
