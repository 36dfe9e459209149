/- Arguments that are slices of ways of taking together (two numbers each); no program. -/
import Derived.Test.YtjbpbfhgjldliaaGreatGOpen
import Derived.Test.YtjbpbfhgjldliaaGreatGPairOn
namespace Go.Proofs.YtjbpbfhgjldliaaGreat
open Go Go.RowKit
section
variable {H:Type}{enc:TypeId×Value→H}{P:Program}{w:World}{base b0:Nat}{sp:Nat→Bool}{held:Bool}{r:Reach}
theorem trod_agg {t e i:TypeId}{f0 f1:Field}{fuel:Nat}{cs:List Value}{y:DataW H×List MemPlace}(ht:P.underlying t=some (.struct #[f0,f1]))(h0:f0.type=e)(h1:f1.type=i)(o0:f0.offset=0)(o1:f1.offset=1)
  (he:P.underlying e=some (.int .i64)) (hi:P.underlying i=some (.int .i64)) (ce:P.cellsOf e=1) (ci:P.cellsOf i=1) (ct:P.cellsOf t=2)
  (h:DataW.trod enc P w base sp held fuel t cs=some y):∃ c:Cl,cs=[.int .i64 c.1,.int .i64 c.2]:=by
 obtain ⟨ys,n',_,_,hlen,hyl,hf⟩:=DataW.trod_struct ht h
 rw [ct] at hlen
 match cs,hlen with
 | [c0,c1],_ =>
  match ys,hyl with
  | [y0,y1],_ =>
   have k0:=hf 0 f0 rfl
   have k1:=hf 1 f1 rfl
   rw [h0,o0,ce] at k0
   rw [h1,o1,ci] at k1
   have k0':DataW.trod enc P w base sp held n' e [c0]=some y0:=k0
   have k1':DataW.trod enc P w base sp held n' i [c1]=some y1:=k1
   obtain ⟨n,e0,_,_⟩:=DataW.trod_int he k0'
   obtain ⟨b,e1,_,_⟩:=DataW.trod_int hi k1'
   simp only [List.cons.injEq,and_true] at e0 e1
   subst e0
   subst e1
   exact ⟨(n,b),rfl⟩
theorem open_aggs_in {T t e i:TypeId}{f0 f1:Field}{v:Value}{d:DataW H}{ps:List MemPlace}(hT:P.underlying T=some (.slice t))(ht:P.underlying t=some (.struct #[f0,f1]))(h0:f0.type=e)(h1:f1.type=i)(o0:f0.offset=0)(o1:f1.offset=1)
  (he:P.underlying e=some (.int .i64)) (hi:P.underlying i=some (.int .i64)) (ce:P.cellsOf e=1) (ci:P.cellsOf i=1) (ct:P.cellsOf t=2)
  (hval:Value.okWide P w r b0 T v) (hd:DataW.Trod enc P w base sp held T v d ps):∃ l:List Cl,OnIn w v l:=by
 obtain ⟨a0,len0,cap0,rfl⟩:=Go.WideShapes.okWide_slice hT hval
 obtain ⟨fuel,hf⟩:=hd
 rcases Go.Deep.open_slice hT hf with ⟨hcs,_⟩ | ⟨a,len,cap,m,n,D,Pl,hcs,_,hl,hm,hmm,_,hall⟩
 ·simp [Value.cells] at hcs
  obtain ⟨rfl,rfl,rfl⟩:=hcs
  exact ⟨[],OnIn.nil_ _ _ _⟩
 ·simp [Value.cells] at hcs
  obtain ⟨rfl,rfl,rfl⟩:=hcs
  have hlm:len0≤m:=by rw [hmm];split <;> omega
  have each':∀ k,k < len0→∃ c:Cl,w.cell? (a.add (k*2))=some (.int .i64 c.1)∧w.cell? ((a.add (k*2)).add 1)=some (.int .i64 c.2):=by
   intro k hk
   obtain ⟨cs',h2,h3⟩:=hall k (by omega)
   rw [ct] at h2
   obtain ⟨c,d,rfl,hc1,hc2⟩:=cells_pair h2
   obtain ⟨x,e1⟩:=trod_agg ht h0 h1 o0 o1 he hi ce ci ct h3
   simp only [List.cons.injEq,and_true] at e1
   obtain ⟨rfl,rfl⟩:=e1
   exact ⟨x,hc1,hc2⟩
  haveI:Inhabited Cl:=⟨(0,0)⟩
  obtain ⟨F,hF⟩:=Go.Deep.choose_lt each'
  refine ⟨(List.range len0).map F,by rw [onV_length],by simp;omega,some a,cap0,by simp,by simpa using hl,fun hn=>?_⟩
  have hn':0 < len0:=by simpa using hn
  have hc0:=(hF 0 hn').1
  rw [Nat.zero_mul] at hc0
  obtain ⟨hsp,hlt⟩:=spot_of_cell hc0
  have hab:(a.add 0)=a:=by unfold Addr.add;rfl
  rw [hab] at hsp hlt
  refine ⟨a.block,a.off,?_,hlt,fun j u hu=>?_⟩
  ·have:=addr_at hsp 0
   rw [hab] at this
   rw [Nat.add_zero] at this
   rw [←this]
  ·have hjl:j < len0*2:=by
    have:=(List.getElem?_eq_some_iff.1 hu).1
    rw [onV_length] at this
    simpa using this
   have hk:j / 2 < len0:=by omega
   have hg:=onV_get ((List.range len0).map F) (j / 2) (by simpa using hk)
   have hFk:=hF (j / 2) hk
   rw [addr_at hsp] at hFk
   simp only [List.getElem_map,List.getElem_range] at hg
   rcases Nat.mod_two_eq_zero_or_one j with hj|hj
   ·have e2:j=j / 2*2:=by omega
    rw [e2] at hu ⊢
    rw [hg.1] at hu
    rw [←Option.some.inj hu]
    exact hFk.1
   ·have e2:j=j / 2*2+1:=by omega
    rw [e2] at hu ⊢
    rw [hg.2] at hu
    rw [←Option.some.inj hu]
    have:=hFk.2
    rw [addr_at rfl] at this
    exact this
end
end Go.Proofs.YtjbpbfhgjldliaaGreat
