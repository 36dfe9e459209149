/- Arguments that are terms; no program. -/
import Derived.Test.YtcofhnedidllpaaGOpen
import Derived.Test.YtcofhnedidllpaaGZTerms
namespace Go.Proofs.Ytcofhnedidllpaa
open Go Go.RowKit
section
variable {H:Type}{enc:TypeId×Value→H}{P:Program}{w:World}{base b0:Nat}{sp:Nat→Bool}{held:Bool}{r:Reach}
theorem cells_four {a:Addr}{cs:List Value}(h:w.cells? base a 4=some cs):∃ c d e f,cs=[c,d,e,f]∧w.cell? a=some c∧w.cell? (a.add 1)=some d∧w.cell? (a.add 2)=some e∧w.cell? (a.add 3)=some f:=by
 obtain ⟨_,hl,hat⟩:=World.cells?_some h
 match cs,hl with
 | [c,d,e,f],_=>exact ⟨c,d,e,f,rfl,by simpa [Addr.add] using hat 0 (by decide),by simpa using hat 1 (by decide),by simpa using hat 2 (by decide),by simpa using hat 3 (by decide)⟩
structure TermTypes (P:Program) (T t o c s:TypeId) (f0 f1 f2 f3:Field):Prop where
 hT:P.underlying T=some (.slice t)
 ht:P.underlying t=some (.struct #[f0,f1,f2,f3])
 k0:f0.type=o
 k1:f1.type=c
 k2:f2.type=s
 k3:f3.type=T
 o0:f0.offset=0
 o1:f1.offset=1
 o2:f2.offset=2
 o3:f3.offset=3
 ho:P.underlying o=some (.int .u8)
 hc:P.underlying c=some (.int .i64)
 hs:P.underlying s=some .string
 co:P.cellsOf o=1
 cc:P.cellsOf c=1
 cs:P.cellsOf s=1
 cT:P.cellsOf T=1
 ct:P.cellsOf t=4
variable {T t o c s:TypeId}{f0 f1 f2 f3:Field}
theorem trod_term (K:TermTypes P T t o c s f0 f1 f2 f3){fuel:Nat}{cs:List Value}{y:DataW H×List MemPlace}(h:DataW.trod enc P w base sp held fuel t cs=some y)
  (hk:∀ fuel' kv y',SizeOf.sizeOf y'.1 < SizeOf.sizeOf y.1→DataW.trod enc P w base sp held fuel' T [kv]=some y'→∃ l,KidsIn w kv l):∃ kv x,cs=trmC (kv,x)∧okT x∧KidsIn w kv x.kids:=by
 obtain ⟨ys,n',_,hy,hlen,hyl,hf⟩:=DataW.trod_struct K.ht h
 rw [K.ct] at hlen
 match cs,hlen with
 | [c0,c1,c2,c3],_ =>
  match ys,hyl with
  | [y0,y1,y2,y3],_ =>
   have x0:=hf 0 f0 rfl
   have x1:=hf 1 f1 rfl
   have x2:=hf 2 f2 rfl
   have x3:=hf 3 f3 rfl
   rw [K.k0,K.o0,K.co] at x0
   rw [K.k1,K.o1,K.cc] at x1
   rw [K.k2,K.o2,K.cs] at x2
   rw [K.k3,K.o3,K.cT] at x3
   have x0':DataW.trod enc P w base sp held n' o [c0]=some y0:=x0
   have x1':DataW.trod enc P w base sp held n' c [c1]=some y1:=x1
   have x2':DataW.trod enc P w base sp held n' s [c2]=some y2:=x2
   have x3':DataW.trod enc P w base sp held n' T [c3]=some y3:=x3
   obtain ⟨a,e0,_,wa⟩:=DataW.trod_int K.ho x0'
   obtain ⟨b,e1,_,wb⟩:=DataW.trod_int K.hc x1'
   obtain ⟨z,e2,_⟩:=DataW.trod_string K.hs x2'
   obtain ⟨l,hl⟩:=hk n' c3 y3 (by rw [hy];simp;omega) x3'
   simp only [List.cons.injEq,and_true] at e0 e1 e2
   subst e0
   subst e1
   subst e2
   have ba:=Go.bounds_u8 wa
   have bb:=Go.bounds_i64 wb
   exact ⟨c3,.mk a b z l,rfl,⟨ba.1,ba.2,bb.1,bb.2⟩,hl⟩
theorem trod_kids (K:TermTypes P T t o c s f0 f1 f2 f3):∀ (N:Nat)(fuel:Nat)(kv:Value)(y:DataW H×List MemPlace),SizeOf.sizeOf y.1 < N→DataW.trod enc P w base sp held fuel T [kv]=some y→∃ l,KidsIn w kv l:=by
 intro N
 induction N with
 | zero=>intro _ _ y hy;exact absurd hy (by omega)
 | succ N ih =>
  intro fuel kv y hy h
  rcases Go.Deep.open_slice K.hT h with ⟨hcs,_⟩ | ⟨a,len,cap,m,n,D,Pl,hcs,_,hl,hm,hmm,hx,hall⟩
  ·simp only [List.cons.injEq,and_true] at hcs
   subst hcs
   exact ⟨[],KidsIn.nil_ _ _ _⟩
  ·simp only [List.cons.injEq,and_true] at hcs
   subst hcs
   have hlm:len≤m:=by rw [hmm];split <;> omega
   have each':∀ k,k < len→∃ x:Value×Trm,w.cell? (a.add (k*4))=some (.int .u8 x.2.op)∧w.cell? ((a.add (k*4)).add 1)=some (.int .i64 x.2.col)∧w.cell? ((a.add (k*4)).add 2)=some (.string x.2.cell)∧w.cell? ((a.add (k*4)).add 3)=some x.1∧okT x.2∧KidsIn w x.1 x.2.kids:=by
    intro k hk
    obtain ⟨cs',h2,h3⟩:=hall k (by omega)
    rw [K.ct] at h2
    obtain ⟨c0,c1,c2,c3,rfl,q0,q1,q2,q3⟩:=cells_four h2
    have hlt:SizeOf.sizeOf (D k) < SizeOf.sizeOf y.1:=by
     have hmem:D k∈(List.range len).map D:=List.mem_map.2 ⟨k,List.mem_range.2 hk,rfl⟩
     have:=List.sizeOf_lt_of_mem hmem
     rw [hx]
     simp only [DataW.slice.sizeOf_spec]
     omega
    obtain ⟨kv,x,e,ho,hki⟩:=trod_term K h3 (fun fuel' kv y' hy' h'=>ih fuel' kv y' (by have:SizeOf.sizeOf y'.1 < SizeOf.sizeOf (D k):=hy';omega) h')
    simp only [trmC,List.cons.injEq,and_true] at e
    obtain ⟨rfl,rfl,rfl,rfl⟩:=e
    exact ⟨(c3,x),q0,q1,q2,q3,ho,hki⟩
   haveI:Inhabited (Value×Trm):=⟨(.bool false,.mk 0 0 noC [])⟩
   obtain ⟨F,hF⟩:=Go.Deep.choose_lt each'
   refine ⟨(List.range len).map fun k=>(F k).2,KidsQ.of ((List.range len).map F) (by rw [List.map_map];rfl) trivial ?_ ?_⟩
   ·refine ⟨by rw [trmsV_length];simp,by simp;omega,some a,cap,by simp,by simpa using hl,fun hn=>?_⟩
    have hn':0 < len:=by simpa using hn
    have hc0:=(hF 0 hn').1
    rw [Nat.zero_mul] at hc0
    obtain ⟨hsp,hlt⟩:=spot_of_cell hc0
    have hab:(a.add 0)=a:=by unfold Addr.add;rfl
    rw [hab] at hsp hlt
    refine ⟨a.block,a.off,?_,hlt,fun j u hu=>?_⟩
    ·have:=addr_at hsp 0
     rw [hab] at this
     rw [Nat.add_zero] at this
     rw [←this]
    ·have hjl:j < len*4:=by
      have:=(List.getElem?_eq_some_iff.1 hu).1
      rw [trmsV_length] at this
      simpa using this
     have hk:j / 4 < len:=by omega
     have hg:=trmsV_get ((List.range len).map F) (j / 4) (by simpa using hk)
     obtain ⟨q0,q1,q2,q3,_⟩:=hF (j / 4) hk
     rw [addr_at hsp] at q0 q1 q2 q3
     rw [addr_at rfl] at q1 q2 q3
     simp only [List.getElem_map,List.getElem_range] at hg
     obtain ⟨g0,g1,g2,g3⟩:=hg
     have hm4:j % 4=0∨j % 4=1∨j % 4=2∨j % 4=3:=by omega
     rcases hm4 with hj|hj|hj|hj
     ·have e2:j=j / 4*4:=by omega
      rw [e2] at hu ⊢
      rw [g0] at hu
      rw [←Option.some.inj hu]
      exact q0
     ·have e2:j=j / 4*4+1:=by omega
      rw [e2] at hu ⊢
      rw [g1] at hu
      rw [←Option.some.inj hu]
      exact q1
     ·have e2:j=j / 4*4+2:=by omega
      rw [e2] at hu ⊢
      rw [g2] at hu
      rw [←Option.some.inj hu]
      exact q2
     ·have e2:j=j / 4*4+3:=by omega
      rw [e2] at hu ⊢
      rw [g3] at hu
      rw [←Option.some.inj hu]
      exact q3
   ·intro x hx2
    obtain ⟨k,hk,rfl⟩:=List.mem_map.1 hx2
    exact (hF k (List.mem_range.1 hk)).2.2.2.2
theorem open_term {v:Value}{d:DataW H}{ps:List MemPlace}(K:TermTypes P T t o c s f0 f1 f2 f3)(hval:Value.okWide P w r b0 t v)(hd:DataW.Trod enc P w base sp held t v d ps):∃ x:Trm,TermIn w v x:=by
 obtain ⟨cs,rfl,_⟩:=Go.WideShapes.okWide_struct K.ht hval
 obtain ⟨fuel,hf⟩:=hd
 obtain ⟨kv,x,e,ho,hk⟩:=trod_term K hf fun fuel' kv y' _ h'=>trod_kids K (SizeOf.sizeOf y'.1+1) fuel' kv y' (by omega) h'
 refine ⟨x,kv,?_,ho,hk⟩
 have:cs.toList=[.int .u8 x.op,.int .i64 x.col,.string x.cell,kv]:=e
 show Value.agg cs=.agg #[.int .u8 x.op,.int .i64 x.col,.string x.cell,kv]
 rw [←this]
end
end Go.Proofs.Ytcofhnedidllpaa
