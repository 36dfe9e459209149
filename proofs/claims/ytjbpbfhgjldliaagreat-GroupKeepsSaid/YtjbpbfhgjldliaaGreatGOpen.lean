/- A law's last step: it returned true, and of what was there nothing has turned. -/
import Derived.Test.YtjbpbfhgjldliaaGreatGTimes
import Derived.Test.YtjbpbfhgjldliaaGreatGCutRef
import Derived.ChangeArms
import Derived.Deep.Fields
import Derived.Test.YtjbpbfhgjldliaaGreatRows
import Derived.ProofKit
import Derived.WalkKit
import Derived.OpenShut
import Derived.Deep.Slices
namespace Go.Proofs.YtjbpbfhgjldliaaGreat
open Go Go.RowKit
section
variable {H:Type}{enc:TypeId×Value→H}{P:Program}{w:World}{base b0:Nat}{sp:Nat→Bool}{held:Bool}{r:Reach}
theorem trod_strs {t e:TypeId}{fuel:Nat}{cs:List Value}{y:DataW H×List MemPlace}(ht:P.underlying t=some (.slice e))(he:P.underlying e=some .string)(hc:P.cellsOf e=1)
  (h:DataW.trod enc P w base sp held fuel t cs=some y):∃ rv l,cs=[rv]∧StrsIn w rv l:=by
 rcases Go.Deep.open_slice ht h with ⟨hcs,_⟩ | ⟨a,len,cap,m,n,D,Pl,hcs,_,hl,hm,hmm,_,hall⟩
 ·exact ⟨.slice none 0 0,[],hcs,SliceOf.nil_ w 1 none 0⟩
 ·have hlm:len≤m:=by rw [hmm];split <;> omega
  have each':∀ i,i < len→∃ x:ByteArray,w.cell? (a.add i)=some (.string x):=by
   intro i hi
   obtain ⟨cs',h1,h2⟩:=hall i (by omega)
   rw [hc,Nat.mul_one] at h1
   obtain ⟨c,rfl,hcell⟩:=cells_one h1
   obtain ⟨x,e1,_⟩:=DataW.trod_string he h2
   simp only [List.cons.injEq,and_true] at e1
   exact ⟨x,e1▸hcell⟩
  haveI:Inhabited ByteArray:=⟨⟨#[]⟩⟩
  obtain ⟨F,hF⟩:=Go.Deep.choose_lt each'
  refine ⟨.slice (some a) len cap,(List.range len).map F,hcs,by simp,by simp;omega,some a,cap,by simp,by simpa using hl,fun hn=>?_⟩
  have hn':0 < len:=by simpa using hn
  have h0:=hF 0 hn'
  obtain ⟨hsp,hlt⟩:=spot_of_cell h0
  have hab:(a.add 0)=a:=by unfold Addr.add;rfl
  rw [hab] at hsp hlt
  refine ⟨a.block,a.off,?_,hlt,fun j u hu=>?_⟩
  ·have:=addr_at hsp 0
   rw [hab] at this
   rw [Nat.add_zero] at this
   rw [←this]
  ·rw [List.map_map,List.getElem?_map] at hu
   cases hj:(List.range len)[j]? with
   | none=>rw [hj] at hu;simp at hu
   | some q =>
    rw [hj] at hu
    obtain ⟨hq1,hq2⟩:=List.getElem?_eq_some_iff.1 hj
    rw [List.getElem_range] at hq2
    subst hq2
    simp at hu
    subst hu
    have:=hF j (by simpa using hq1)
    rw [addr_at hsp] at this
    exact this
theorem trod_tm {t e s i:TypeId}{f0 f1:Field}{fuel:Nat}{cs:List Value}{y:DataW H×List MemPlace}(ht:P.underlying t=some (.struct #[f0,f1]))(h0:f0.type=e)(h1:f1.type=i)(o0:f0.offset=0)(o1:f1.offset=1)
  (he:P.underlying e=some (.slice s)) (hs:P.underlying s=some .string) (hc:P.cellsOf s=1) (hi:P.underlying i=some (.int .i64)) (ce:P.cellsOf e=1) (ci:P.cellsOf i=1) (ct:P.cellsOf t=2)
  (h:DataW.trod enc P w base sp held fuel t cs=some y):∃ rv row n,cs=[rv,.int .i64 n]∧StrsIn w rv row∧-9223372036854775808≤n∧n≤9223372036854775807:=by
 obtain ⟨ys,n',_,_,hlen,hyl,hf⟩:=DataW.trod_struct ht h
 rw [ct] at hlen
 match cs,hlen with
 | [c0,c1],_ =>
  match ys,hyl with
  | [y0,y1],_ =>
   have k0:=hf 0 f0 rfl
   have k1:=hf 1 f1 rfl
   rw [h0,o0,ce] at k0
   rw [h1,o1,ci] at k1
   have k0':DataW.trod enc P w base sp held n' e [c0]=some y0:=k0
   have k1':DataW.trod enc P w base sp held n' i [c1]=some y1:=k1
   obtain ⟨rv,row,e0,hr⟩:=trod_strs he hs hc k0'
   obtain ⟨n,e1,_,hw⟩:=DataW.trod_int hi k1'
   simp only [List.cons.injEq,and_true] at e0 e1
   subst e0
   subst e1
   exact ⟨c0,row,n,rfl,hr,Go.bounds_i64 hw⟩
theorem cells_pair {a:Addr}{cs:List Value}(h:w.cells? base a 2=some cs):∃ c d,cs=[c,d]∧w.cell? a=some c∧w.cell? (a.add 1)=some d:=by
 obtain ⟨_,hl,hat⟩:=World.cells?_some h
 match cs,hl with
 | [c,d],_=>exact ⟨c,d,rfl,by simpa [Addr.add] using hat 0 (by decide),by simpa using hat 1 (by decide)⟩
end
section
variable {H:Type}{enc:TypeId×Value→H}{P:Program}{w:World}{base b0:Nat}{sp:Nat→Bool}{held:Bool}{r:Reach}
theorem trod_times {T t e s i:TypeId}{f0 f1:Field}{fuel:Nat}{cs:List Value}{y:DataW H×List MemPlace}(hT:P.underlying T=some (.slice t))(ht:P.underlying t=some (.struct #[f0,f1]))(h0:f0.type=e)(h1:f1.type=i)(o0:f0.offset=0)(o1:f1.offset=1)
  (he:P.underlying e=some (.slice s)) (hs:P.underlying s=some .string) (hc:P.cellsOf s=1) (hi:P.underlying i=some (.int .i64)) (ce:P.cellsOf e=1) (ci:P.cellsOf i=1) (ct:P.cellsOf t=2)
  (hf:DataW.trod enc P w base sp held fuel T cs=some y):∃ v l,cs=[v]∧TimesIn w v l∧∀ x∈l,-9223372036854775808≤x.2∧x.2≤9223372036854775807:=by
 rcases Go.Deep.open_slice hT hf with ⟨hcs,_⟩ | ⟨a,len,cap,m,n,D,Pl,hcs,_,hl,hm,hmm,_,hall⟩
 ·exact ⟨.slice none 0 0,[],hcs,TimesIn.nil_ _ _ _,by simp⟩
 ·have hlm:len≤m:=by rw [hmm];split <;> omega
  have each':∀ k,k < len→∃ x:(Value×Int)×Tm,w.cell? (a.add (k*2))=some x.1.1∧w.cell? ((a.add (k*2)).add 1)=some (.int .i64 x.1.2)∧StrsIn w x.1.1 x.2.1∧x.1.2=x.2.2∧-9223372036854775808≤x.2.2∧x.2.2≤9223372036854775807:=by
   intro k hk
   obtain ⟨cs',h2,h3⟩:=hall k (by omega)
   rw [ct] at h2
   obtain ⟨c,d,rfl,hc1,hc2⟩:=cells_pair h2
   obtain ⟨rv,row,n,e1,hr,hb⟩:=trod_tm ht h0 h1 o0 o1 he hs hc hi ce ci ct h3
   simp only [List.cons.injEq,and_true] at e1
   obtain ⟨rfl,rfl⟩:=e1
   exact ⟨((c,n),(row,n)),hc1,hc2,hr,rfl,hb⟩
  haveI:Inhabited ((Value×Int)×Tm):=⟨((.bool false,0),([],0))⟩
  obtain ⟨F,hF⟩:=Go.Deep.choose_lt each'
  refine ⟨.slice (some a) len cap,(List.range len).map fun k=>(F k).2,hcs,⟨(List.range len).map fun k=>(F k).1,?_,?_⟩,?_⟩
  ·refine ⟨by rw [timesV_length];simp,by simp;omega,some a,cap,by simp,by simpa using hl,fun hn=>?_⟩
   have hn':0 < len:=by simpa using hn
   have hc0:=(hF 0 hn').1
   rw [Nat.zero_mul] at hc0
   obtain ⟨hsp,hlt⟩:=spot_of_cell hc0
   have hab:(a.add 0)=a:=by unfold Addr.add;rfl
   rw [hab] at hsp hlt
   refine ⟨a.block,a.off,?_,hlt,fun j u hu=>?_⟩
   ·have:=addr_at hsp 0
    rw [hab] at this
    rw [Nat.add_zero] at this
    rw [←this]
   ·have hjl:j < len*2:=by
     have:=(List.getElem?_eq_some_iff.1 hu).1
     rw [timesV_length] at this
     simpa using this
    have hk:j / 2 < len:=by omega
    have hg:=timesV_get ((List.range len).map fun k=>(F k).1) (j / 2) (by simpa using hk)
    have hFk:=hF (j / 2) hk
    rw [addr_at hsp] at hFk
    simp only [List.getElem_map,List.getElem_range] at hg
    rcases Nat.mod_two_eq_zero_or_one j with hj|hj
    ·have e2:j=j / 2*2:=by omega
     rw [e2] at hu ⊢
     rw [hg.1] at hu
     rw [←Option.some.inj hu]
     exact hFk.1
    ·have e2:j=j / 2*2+1:=by omega
     rw [e2] at hu ⊢
     rw [hg.2] at hu
     rw [←Option.some.inj hu]
     have:=hFk.2.1
     rw [addr_at rfl] at this
     exact this
  ·have:∀ ks:List Nat,(∀ k∈ks,k < len)→RowsOf w (ks.map fun k=>(F k).1) (ks.map fun k=>(F k).2):=by
    intro ks
    induction ks with
    | nil=>intro _;trivial
    | cons k ks ih =>
     intro hks
     have hFk:=hF k (hks k (List.mem_cons_self ..))
     exact ⟨⟨hFk.2.2.1,hFk.2.2.2.1⟩,ih fun k' hk'=>hks k' (List.mem_cons_of_mem _ hk')⟩
   exact this _ fun k hk=>List.mem_range.1 hk
  ·intro x hx
   obtain ⟨k,hk,rfl⟩:=List.mem_map.1 hx
   exact (hF k (List.mem_range.1 hk)).2.2.2.2
theorem open_pieces_in {T2 T t e s i:TypeId}{f0 f1:Field}{v:Value}{d:DataW H}{ps:List MemPlace}(hT2:P.underlying T2=some (.slice T))(cT:P.cellsOf T=1)(hT:P.underlying T=some (.slice t))(ht:P.underlying t=some (.struct #[f0,f1]))(h0:f0.type=e)(h1:f1.type=i)(o0:f0.offset=0)(o1:f1.offset=1)
  (he:P.underlying e=some (.slice s)) (hs:P.underlying s=some .string) (hc:P.cellsOf s=1) (hi:P.underlying i=some (.int .i64)) (ce:P.cellsOf e=1) (ci:P.cellsOf i=1) (ct:P.cellsOf t=2)
  (hval:Value.okWide P w r b0 T2 v) (hd:DataW.Trod enc P w base sp held T2 v d ps):∃ M:List (List Tm),PiecesIn w v M:=by
 obtain ⟨a0,len0,cap0,rfl⟩:=Go.WideShapes.okWide_slice hT2 hval
 obtain ⟨fuel,hf⟩:=hd
 rcases Go.Deep.open_slice hT2 hf with ⟨hcs,_⟩ | ⟨a,len,cap,m,n,D,Pl,hcs,_,hl,hm,hmm,_,hall⟩
 ·simp [Value.cells] at hcs
  obtain ⟨rfl,rfl,rfl⟩:=hcs
  exact ⟨[],[],SliceOf.nil_ _ _ _ _,rfl,fun j h=>absurd h (by simp)⟩
 ·simp [Value.cells] at hcs
  obtain ⟨rfl,rfl,rfl⟩:=hcs
  have hlm:len0≤m:=by rw [hmm];split <;> omega
  have each':∀ k,k < len0→∃ x:Value×List Tm,w.cell? (a.add k)=some x.1∧TimesIn w x.1 x.2:=by
   intro k hk
   obtain ⟨cs',h2,h3⟩:=hall k (by omega)
   rw [cT,Nat.mul_one] at h2
   obtain ⟨c,rfl,hcell⟩:=cells_one h2
   obtain ⟨v',l',e1,ht',_⟩:=trod_times hT ht h0 h1 o0 o1 he hs hc hi ce ci ct h3
   simp only [List.cons.injEq,and_true] at e1
   subst e1
   exact ⟨(c,l'),hcell,ht'⟩
  haveI:Inhabited (Value×List Tm):=⟨(.bool false,[])⟩
  obtain ⟨F,hF⟩:=Go.Deep.choose_lt each'
  refine ⟨(List.range len0).map fun k=>(F k).2,(List.range len0).map fun k=>(F k).1,?_,by simp,fun j h1 h2=>?_⟩
  ·refine ⟨by simp,by simp;omega,some a,cap0,by simp,by simpa using hl,fun hn=>?_⟩
   have hn':0 < len0:=by simpa using hn
   have hc0:=(hF 0 hn').1
   obtain ⟨hsp,hlt⟩:=spot_of_cell hc0
   have hab:(a.add 0)=a:=by unfold Addr.add;rfl
   rw [hab] at hsp hlt
   refine ⟨a.block,a.off,?_,hlt,fun j u hu=>?_⟩
   ·have:=addr_at hsp 0
    rw [hab] at this
    rw [Nat.add_zero] at this
    rw [←this]
   ·rw [List.getElem?_map] at hu
    cases hj:(List.range len0)[j]? with
    | none=>rw [hj] at hu;simp at hu
    | some q =>
     rw [hj] at hu
     obtain ⟨hq1,hq2⟩:=List.getElem?_eq_some_iff.1 hj
     rw [List.getElem_range] at hq2
     subst hq2
     simp at hu
     subst hu
     have:=(hF j (by simpa using hq1)).1
     rw [addr_at hsp] at this
     exact this
  ·simp only [List.getElem_map,List.getElem_range]
   exact (hF j (by simpa using h1)).2
end
open Go Go.RowKit Go.WideShapes Go.ChangeShapes Go.ChangeAt
theorem Tryz.own:ownKnob Tryz.prog.godebug=none:=by kernel_rfl
theorem Tryz.laidOut:laidOutB Tryz.prog=true:=by kernel_rfl
section
variable {H:Type}{enc:TypeId×Value→H}{P:Program}
theorem trodAll_stays (hl:laidOutB P=true){W W':World}(hb:Below W.heap.size W W'){sp:Nat→Bool} :
  ∀ {ts:List TypeId} {vs:List Value} {ds:List (DataW H)} {ps:List MemPlace},(ts.all fun t=>P.readableRec t&&decide (t < P.types.size))=true →
   (∀ x∈ps,x.block < W.heap.size)→(∀ x∈ps,sp x.block=true) →
   DataW.TrodAll enc P W 0 (fun _=>true) true ts vs ds ps→DataW.TrodAll enc P W' 0 sp true ts vs ds ps
 | [],[],[],_,_,_,_,h=>h
 | t::ts,v::vs,d::ds,ps,hr,hlt,hs,h=>by
  obtain ⟨p,q,h1,h2,rfl⟩:=h
  simp only [List.all_cons,Bool.and_eq_true,decide_eq_true_eq] at hr
  exact ⟨p,q,WideElems.Trod_stays hl hr.1.1 hr.1.2 h1 (fun x hx=>hb.same (hlt x (List.mem_append_left _ hx))) (fun x hx=>hs x (List.mem_append_left _ hx)),
   trodAll_stays hl hb hr.2 (fun x hx=>hlt x (List.mem_append_right _ hx)) (fun x hx=>hs x (List.mem_append_right _ hx)) h2,rfl⟩
theorem post_of_below' {f:Func}{s:ChangeSpec}{apart fresh handsOn again:Bool}{W W':World}{args:Array Value}{v:Value}{ds gs:List (DataW H)}{before pa pv:List MemPlace}
  (hW:DataW.Whole enc P f.params.toList s.vars apart W args.toList ds gs before)
  (hres:∀ (b:Nat) (sp:Nat→Bool) (hd:Bool),DataW.TrodAll enc P W' b sp hd f.resultTypes.toList (v.resultList f.resultTypes.size) (s.fn H (ds++gs)).results [])
  (hargs:∀ sp:Nat→Bool,(∀ p∈before,sp p.block=true)→DataW.TrodAll enc P W' 0 sp true f.params.toList args.toList (s.fn H (ds++gs)).args pa)
  (hvars:∀ sp:Nat→Bool,(∀ p∈before,sp p.block=true)→DataW.TrodVars enc P W' sp s.vars (s.fn H (ds++gs)).vars pv)
  (hps:before=pa++pv) (hb:Below W.heap.size W W')
  (hok:∀ (j:Nat) (t:TypeId) (r:Value),f.resultTypes[j]? = some t→(v.resultList f.resultTypes.size)[j]? = some r→Value.okWide P W' .any 0 t r) :
  s.post enc P f apart fresh handsOn again W args v W':=by
 have hlt:∀ p∈before,p.block < W.heap.size:=fun p hp=>hW.lt p hp
 have hold:∀ p∈before,(fun b=>decide (b < W.heap.size)) p.block=true:=fun p hp=>by simpa using hlt p hp
 refine ⟨ds,gs,before,[],pa,pv,hW,hres _ _ _,hargs _ hold,hvars _ hold,World.keptBut_mono (fun p hp=>⟨hp,?_⟩) (hb.frame (· ∈ before)),fun _=>?_⟩
 ·rw [hps,List.mem_append] at hp
  exact Or.inr hp
 ·obtain ⟨_,_,_,_,_,hz,hn⟩:=hW
  refine ⟨hok,_,_,([]++pa)++pv,⟨[]++pa,pv,trodAll_append (hargs _ (fun _ _=>rfl)) (hres _ _ _),hvars _ (fun _ _=>rfl),rfl,?_,?_⟩,?_⟩
  ·intro b off hp
   have hin:MemPlace.cell b off∈before:=by rw [hps];simpa using hp
   rw [hb.frozen (hlt _ hin)]
   exact hz b off hin
  ·intro ha
   have:=hn ha
   rw [hps] at this
   simpa using this
  ·intro p hp _
   rw [hps]
   simpa using hp
theorem law_post {f:Func}{s:ChangeSpec}{apart fresh handsOn again:Bool}{W W':World}{args:Array Value}{ds gs:List (DataW H)}{before:List MemPlace}{tb:TypeId}
  (hl:laidOutB P=true) (hr:(f.params.toList.all fun t=>P.readableRec t&&decide (t < P.types.size))=true)
  (hrt:f.resultTypes = #[tb]) (htb:P.underlying tb=some .bool) (hv:s.vars=[])
  (hW:DataW.Whole enc P f.params.toList s.vars apart W args.toList ds gs before) (hb:Below W.heap.size W W')
  (hfn:s.fn H (ds++gs)={ results:=[.lit (.bool true)],args:=ds }):s.post enc P f apart fresh handsOn again W args (.bool true) W':=by
 have hlt:∀ p∈before,p.block < W.heap.size:=fun p hp=>hW.lt p hp
 have hW0:=hW
 obtain ⟨p,q,hA,hV,hpq,hz,hn⟩:=hW0
 rw [hv] at hV
 have hq:q=[]:=by
  cases gs with
  | nil=>exact hV
  | cons g gs=>exact hV.elim
 subst hq
 rw [List.append_nil] at hpq
 subst hpq
 refine post_of_below' (pa:=before) (pv:=[]) hW (fun b sp hd=>?_) (fun sp hs=>?_) (fun sp hs=>?_) (by simp) hb ?_
 ·rw [hfn,hrt]
  exact ⟨[],[],shut_bool htb true,rfl,rfl⟩
 ·rw [hfn]
  exact trodAll_stays hl hb hr hlt hs hA
 ·rw [hfn,hv]
  exact rfl
 ·exact ok_one hrt rfl (okWide_bool_mk htb _)
end
end Go.Proofs.YtjbpbfhgjldliaaGreat
