/- Arguments that are slices of columns; no program. -/
import Derived.Test.YtegpikfgajoopaaGBlockUnder
import Derived.Test.YtegpikfgajoopaaGTimes
import Derived.Test.YtegpikfgajoopaaRows
import Derived.ProofKit
import Derived.WalkKit
import Derived.OpenShut
import Derived.Deep.Slices
import Derived.ChangeArms
import Derived.Deep.Fields
namespace Go.Proofs.Ytegpikfgajoopaa
open Go Go.RowKit Go.WideShapes Go.ChangeShapes Go.ChangeAt
theorem Try.own:ownKnob Try.prog.godebug=none:=by kernel_rfl
theorem Try.laidOut:laidOutB Try.prog=true:=by kernel_rfl
section
variable {H:Type}{enc:TypeId×Value→H}{P:Program}
theorem trodAll_stays (hl:laidOutB P=true){W W':World}(hb:Below W.heap.size W W'){sp:Nat→Bool} :
  ∀ {ts:List TypeId} {vs:List Value} {ds:List (DataW H)} {ps:List MemPlace},(ts.all fun t=>P.readableRec t&&decide (t < P.types.size))=true →
   (∀ x∈ps,x.block < W.heap.size)→(∀ x∈ps,sp x.block=true) →
   DataW.TrodAll enc P W 0 (fun _=>true) true ts vs ds ps→DataW.TrodAll enc P W' 0 sp true ts vs ds ps
 | [],[],[],_,_,_,_,h=>h
 | t::ts,v::vs,d::ds,ps,hr,hlt,hs,h=>by
  obtain ⟨p,q,h1,h2,rfl⟩:=h
  simp only [List.all_cons,Bool.and_eq_true,decide_eq_true_eq] at hr
  exact ⟨p,q,WideElems.Trod_stays hl hr.1.1 hr.1.2 h1 (fun x hx=>hb.same (hlt x (List.mem_append_left _ hx))) (fun x hx=>hs x (List.mem_append_left _ hx)),
   trodAll_stays hl hb hr.2 (fun x hx=>hlt x (List.mem_append_right _ hx)) (fun x hx=>hs x (List.mem_append_right _ hx)) h2,rfl⟩
theorem post_of_below' {f:Func}{s:ChangeSpec}{apart fresh handsOn again:Bool}{W W':World}{args:Array Value}{v:Value}{ds gs:List (DataW H)}{before pa pv:List MemPlace}
  (hW:DataW.Whole enc P f.params.toList s.vars apart W args.toList ds gs before)
  (hres:∀ (b:Nat) (sp:Nat→Bool) (hd:Bool),DataW.TrodAll enc P W' b sp hd f.resultTypes.toList (v.resultList f.resultTypes.size) (s.fn H (ds++gs)).results [])
  (hargs:∀ sp:Nat→Bool,(∀ p∈before,sp p.block=true)→DataW.TrodAll enc P W' 0 sp true f.params.toList args.toList (s.fn H (ds++gs)).args pa)
  (hvars:∀ sp:Nat→Bool,(∀ p∈before,sp p.block=true)→DataW.TrodVars enc P W' sp s.vars (s.fn H (ds++gs)).vars pv)
  (hps:before=pa++pv) (hb:Below W.heap.size W W')
  (hok:∀ (j:Nat) (t:TypeId) (r:Value),f.resultTypes[j]? = some t→(v.resultList f.resultTypes.size)[j]? = some r→Value.okWide P W' .any 0 t r) :
  s.post enc P f apart fresh handsOn again W args v W':=by
 have hlt:∀ p∈before,p.block < W.heap.size:=fun p hp=>hW.lt p hp
 have hold:∀ p∈before,(fun b=>decide (b < W.heap.size)) p.block=true:=fun p hp=>by simpa using hlt p hp
 refine ⟨ds,gs,before,[],pa,pv,hW,hres _ _ _,hargs _ hold,hvars _ hold,World.keptBut_mono (fun p hp=>⟨hp,?_⟩) (hb.frame (· ∈ before)),fun _=>?_⟩
 ·rw [hps,List.mem_append] at hp
  exact Or.inr hp
 ·obtain ⟨_,_,_,_,_,hz,hn⟩:=hW
  refine ⟨hok,_,_,([]++pa)++pv,⟨[]++pa,pv,trodAll_append (hargs _ (fun _ _=>rfl)) (hres _ _ _),hvars _ (fun _ _=>rfl),rfl,?_,?_⟩,?_⟩
  ·intro b off hp
   have hin:MemPlace.cell b off∈before:=by rw [hps];simpa using hp
   rw [hb.frozen (hlt _ hin)]
   exact hz b off hin
  ·intro ha
   have:=hn ha
   rw [hps] at this
   simpa using this
  ·intro p hp _
   rw [hps]
   simpa using hp
theorem law_post {f:Func}{s:ChangeSpec}{apart fresh handsOn again:Bool}{W W':World}{args:Array Value}{ds gs:List (DataW H)}{before:List MemPlace}{tb:TypeId}
  (hl:laidOutB P=true) (hr:(f.params.toList.all fun t=>P.readableRec t&&decide (t < P.types.size))=true)
  (hrt:f.resultTypes = #[tb]) (htb:P.underlying tb=some .bool) (hv:s.vars=[])
  (hW:DataW.Whole enc P f.params.toList s.vars apart W args.toList ds gs before) (hb:Below W.heap.size W W')
  (hfn:s.fn H (ds++gs)={ results:=[.lit (.bool true)],args:=ds }):s.post enc P f apart fresh handsOn again W args (.bool true) W':=by
 have hlt:∀ p∈before,p.block < W.heap.size:=fun p hp=>hW.lt p hp
 have hW0:=hW
 obtain ⟨p,q,hA,hV,hpq,hz,hn⟩:=hW0
 rw [hv] at hV
 have hq:q=[]:=by
  cases gs with
  | nil=>exact hV
  | cons g gs=>exact hV.elim
 subst hq
 rw [List.append_nil] at hpq
 subst hpq
 refine post_of_below' (pa:=before) (pv:=[]) hW (fun b sp hd=>?_) (fun sp hs=>?_) (fun sp hs=>?_) (by simp) hb ?_
 ·rw [hfn,hrt]
  exact ⟨[],[],shut_bool htb true,rfl,rfl⟩
 ·rw [hfn]
  exact trodAll_stays hl hb hr hlt hs hA
 ·rw [hfn,hv]
  exact rfl
 ·exact ok_one hrt rfl (okWide_bool_mk htb _)
end
open Go Go.RowKit
section
variable {H:Type}{enc:TypeId×Value→H}{P:Program}{w:World}{base b0:Nat}{sp:Nat→Bool}{held:Bool}{r:Reach}
theorem cells_pair {a:Addr}{cs:List Value}(h:w.cells? base a 2=some cs):∃ c d,cs=[c,d]∧w.cell? a=some c∧w.cell? (a.add 1)=some d:=by
 obtain ⟨_,hl,hat⟩:=World.cells?_some h
 match cs,hl with
 | [c,d],_=>exact ⟨c,d,rfl,by simpa [Addr.add] using hat 0 (by decide),by simpa using hat 1 (by decide)⟩
end
section
variable {H:Type}{enc:TypeId×Value→H}{P:Program}{w:World}{base b0:Nat}{sp:Nat→Bool}{held:Bool}{r:Reach}
theorem trod_col {t e i:TypeId}{f0 f1:Field}{fuel:Nat}{cs:List Value}{y:DataW H×List MemPlace}(ht:P.underlying t=some (.struct #[f0,f1]))(h0:f0.type=e)(h1:f1.type=i)(o0:f0.offset=0)(o1:f1.offset=1)
  (he:P.underlying e=some (.int .u8)) (hi:P.underlying i=some .bool) (ce:P.cellsOf e=1) (ci:P.cellsOf i=1) (ct:P.cellsOf t=2)
  (h:DataW.trod enc P w base sp held fuel t cs=some y):∃ c:Int×Bool,cs=[.int .u8 c.1,.bool c.2]:=by
 obtain ⟨ys,n',_,_,hlen,hyl,hf⟩:=DataW.trod_struct ht h
 rw [ct] at hlen
 match cs,hlen with
 | [c0,c1],_ =>
  match ys,hyl with
  | [y0,y1],_ =>
   have k0:=hf 0 f0 rfl
   have k1:=hf 1 f1 rfl
   rw [h0,o0,ce] at k0
   rw [h1,o1,ci] at k1
   have k0':DataW.trod enc P w base sp held n' e [c0]=some y0:=k0
   have k1':DataW.trod enc P w base sp held n' i [c1]=some y1:=k1
   obtain ⟨n,e0,_,_⟩:=DataW.trod_int he k0'
   obtain ⟨b,e1,_⟩:=DataW.trod_bool hi k1'
   simp only [List.cons.injEq,and_true] at e0 e1
   subst e0
   subst e1
   exact ⟨(n,b),rfl⟩
theorem open_cols_in {T t e i:TypeId}{f0 f1:Field}{v:Value}{d:DataW H}{ps:List MemPlace}(hT:P.underlying T=some (.slice t))(ht:P.underlying t=some (.struct #[f0,f1]))(h0:f0.type=e)(h1:f1.type=i)(o0:f0.offset=0)(o1:f1.offset=1)
  (he:P.underlying e=some (.int .u8)) (hi:P.underlying i=some .bool) (ce:P.cellsOf e=1) (ci:P.cellsOf i=1) (ct:P.cellsOf t=2)
  (hval:Value.okWide P w r b0 T v) (hd:DataW.Trod enc P w base sp held T v d ps):∃ l:List (Int×Bool),ColsIn w v l:=by
 obtain ⟨a0,len0,cap0,rfl⟩:=Go.WideShapes.okWide_slice hT hval
 obtain ⟨fuel,hf⟩:=hd
 rcases Go.Deep.open_slice hT hf with ⟨hcs,_⟩ | ⟨a,len,cap,m,n,D,Pl,hcs,_,hl,hm,hmm,_,hall⟩
 ·simp [Value.cells] at hcs
  obtain ⟨rfl,rfl,rfl⟩:=hcs
  exact ⟨[],nil_cols _ _ _⟩
 ·simp [Value.cells] at hcs
  obtain ⟨rfl,rfl,rfl⟩:=hcs
  have hlm:len0≤m:=by rw [hmm];split <;> omega
  have each':∀ k,k < len0→∃ c:Int×Bool,w.cell? (a.add (k*2))=some (.int .u8 c.1)∧w.cell? ((a.add (k*2)).add 1)=some (.bool c.2):=by
   intro k hk
   obtain ⟨cs',h2,h3⟩:=hall k (by omega)
   rw [ct] at h2
   obtain ⟨c,d,rfl,hc1,hc2⟩:=cells_pair h2
   obtain ⟨x,e1⟩:=trod_col ht h0 h1 o0 o1 he hi ce ci ct h3
   simp only [List.cons.injEq,and_true] at e1
   obtain ⟨rfl,rfl⟩:=e1
   exact ⟨x,hc1,hc2⟩
  haveI:Inhabited (Int×Bool):=⟨(0,false)⟩
  obtain ⟨F,hF⟩:=Go.Deep.choose_lt each'
  refine ⟨(List.range len0).map F,by rw [colsV_length],by simp;omega,some a,cap0,by simp,by simpa using hl,fun hn=>?_⟩
  have hn':0 < len0:=by simpa using hn
  have hc0:=(hF 0 hn').1
  rw [Nat.zero_mul] at hc0
  obtain ⟨hsp,hlt⟩:=spot_of_cell hc0
  have hab:(a.add 0)=a:=by unfold Addr.add;rfl
  rw [hab] at hsp hlt
  refine ⟨a.block,a.off,?_,hlt,fun j u hu=>?_⟩
  ·have:=addr_at hsp 0
   rw [hab] at this
   rw [Nat.add_zero] at this
   rw [←this]
  ·have hjl:j < len0*2:=by
    have:=(List.getElem?_eq_some_iff.1 hu).1
    rw [colsV_length] at this
    simpa using this
   have hk:j / 2 < len0:=by omega
   have hg:=colsV_get ((List.range len0).map F) (j / 2) (by simpa using hk)
   have hFk:=hF (j / 2) hk
   rw [addr_at hsp] at hFk
   simp only [List.getElem_map,List.getElem_range] at hg
   rcases Nat.mod_two_eq_zero_or_one j with hj|hj
   ·have e2:j=j / 2*2:=by omega
    rw [e2] at hu ⊢
    rw [hg.1] at hu
    rw [←Option.some.inj hu]
    exact hFk.1
   ·have e2:j=j / 2*2+1:=by omega
    rw [e2] at hu ⊢
    rw [hg.2] at hu
    rw [←Option.some.inj hu]
    have:=hFk.2
    rw [addr_at rfl] at this
    exact this
end
end Go.Proofs.Ytegpikfgajoopaa
