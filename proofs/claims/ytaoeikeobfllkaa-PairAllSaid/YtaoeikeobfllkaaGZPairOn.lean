/- Slices of arrays of two numbers, as lists; as an argument; no program. -/
import Derived.Test.YtaoeikeobfllkaaGTimes
import Derived.Test.YtaoeikeobfllkaaGOpen
import Derived.Test.YtaoeikeobfllkaaGZPairPure
namespace Go.Proofs.Ytaoeikeobfllkaa
open Go Go.RowKit
def onV (on:List Cl):List Value:=on.flatMap fun c=>[.int .i64 c.1,.int .i64 c.2]
def OnIn (w:World)(v:Value)(on:List Cl):Prop:=SliceOf w 2 v on.length (onV on)
theorem onV_cons (c:Cl)(on:List Cl):onV (c::on)=.int .i64 c.1::.int .i64 c.2::onV on:=rfl
theorem onV_append (a b:List Cl):onV (a++b)=onV a++onV b:=List.flatMap_append
theorem onV_length (on:List Cl):(onV on).length=on.length*2:=by
 induction on with
 | nil=>rfl
 | cons t tv ih=>rw [onV_cons,List.length_cons,List.length_cons,ih,List.length_cons];omega
theorem onV_get:∀ (on:List Cl)(j:Nat)(h:j < on.length),(onV on)[j*2]? = some (.int .i64 on[j].1)∧(onV on)[j*2+1]? = some (.int .i64 on[j].2)
 | [],j,h=>absurd h (by simp)
 | c::on,0,_=>⟨rfl,rfl⟩
 | c::on,j+1,h=>by
  have:=onV_get on j (by simpa using h)
  have e1:(j+1)*2=j*2+2:=by omega
  rw [e1]
  exact this
theorem onV_one (on:List Cl):∀ u∈onV on,u.oneCell'=true:=fun u hu=>by
 unfold onV at hu
 obtain ⟨c,_,hc⟩:=List.mem_flatMap.1 hu
 simp only [List.mem_cons,List.not_mem_nil,or_false] at hc
 rcases hc with rfl|rfl <;> rfl
theorem take_onV:∀ (on:List Cl)(k:Nat),(onV on).take (k*2)=onV (on.take k)
 | [],k=>by rw [List.take_nil];exact List.take_nil
 | _::_,0=>rfl
 | t::tv,k+1=>by
  have e1:(k+1)*2=k*2+2:=by omega
  rw [e1]
  show Value.int .i64 t.1::Value.int .i64 t.2::(onV tv).take (k*2)=Value.int .i64 t.1::.int .i64 t.2::onV (tv.take k)
  rw [take_onV tv k]
theorem drop_onV:∀ (on:List Cl)(k:Nat),(onV on).drop (k*2)=onV (on.drop k)
 | [],k=>by rw [List.drop_nil];exact List.drop_nil
 | _::_,0=>rfl
 | t::tv,k+1=>by
  have e1:(k+1)*2=k*2+2:=by omega
  rw [e1]
  show (onV tv).drop (k*2)=onV (tv.drop k)
  rw [drop_onV tv k]
section
variable {w w':World}
theorem OnIn.kept {v:Value}{on:List Cl}(h:OnIn w v on)(hb:Below w.heap.size w w'):OnIn w' v on:=SliceOf.later h hb
theorem OnIn.nil_ (w:World)(A:Option Addr)(cap:Nat):OnIn w (.slice A 0 cap) []:=SliceOf.nil_ _ _ _ _
theorem OnIn.len {v:Value}{on:List Cl}(h:OnIn w v on):on.length≤maxLen:=h.2.1
theorem OnIn.slice {v:Value}{on:List Cl}(h:OnIn w v on):∃ A p,v=.slice A on.length p:=by
 obtain ⟨_,_,A,p,e,_⟩:=h
 exact ⟨A,p,e⟩
theorem on_at {v:Value}{on:List Cl}(h:OnIn w v on):∃ A cap,v=.slice A on.length cap∧on.length≤cap ∧
  (∀ k,k < on.length→∃ b off,A=some ⟨b,off,none⟩∧b < w.heap.size∧∀ j (hj:j < on.length),w.cell? ⟨b,off+j*2,none⟩=some (.int .i64 on[j].1)∧w.cell? ⟨b,off+j*2+1,none⟩=some (.int .i64 on[j].2)):=by
 obtain ⟨_,_,A,cap,e,hr,h4⟩:=h
 refine ⟨A,cap,e,hr,fun k hk=>?_⟩
 obtain ⟨b,off,ea,hb,hc⟩:=h4 (by omega)
 refine ⟨b,off,ea,hb,fun j hj=>?_⟩
 have hv:=onV_get on j hj
 exact ⟨hc _ _ hv.1,hc _ _ hv.2⟩
theorem OnIn.front {A:Option Addr}{n cap m:Nat}{on:List Cl}(h:OnIn w (.slice A n cap) on)(hm:m≤on.length):OnIn w (.slice A m cap) (on.take m):=by
 obtain ⟨A',p,e⟩:=h.slice
 cases e
 have:=SliceOf.frontN h hm
 rw [take_onV] at this
 unfold OnIn
 rw [List.length_take,Nat.min_eq_left hm]
 exact this
theorem OnIn.back {b off n cap m:Nat}{on:List Cl}(h:OnIn w (.slice (some ⟨b,off,none⟩) n cap) on)(hm:m≤on.length){A:Option Addr}(hA:m < on.length→A=some ⟨b,off+m*2,none⟩):OnIn w (.slice A (on.length-m) (cap-m)) (on.drop m):=by
 obtain ⟨A',p,e⟩:=h.slice
 cases e
 have:=SliceOf.backN h hm hA
 rw [drop_onV] at this
 unfold OnIn
 rw [List.length_drop]
 exact this
theorem lit_on (w:World)(T:TypeId)(on:List Cl)(h:on.length≤1000):OnIn (w.alloc (.cells (onV on).toArray T)) (.slice (some ⟨w.heap.size,0,none⟩) on.length on.length) on :=
 (Own.lit (B:=0) (size:=2) w (onV on).toArray T on.length (Nat.zero_le _) (by unfold maxLen;omega) (by rw [List.size_toArray,onV_length])).slice
end
section
variable {H:Type}{enc:TypeId×Value→H}{P:Program}{w:World}{base b0:Nat}{sp:Nat→Bool}{held:Bool}{r:Reach}
theorem open_on_in {T e q:TypeId}{v:Value}{d:DataW H}{ps:List MemPlace}(hT:P.underlying T=some (.slice e))(he:P.underlying e=some (.array 2 q))(hq:P.underlying q=some (.int .i64))(hc:P.cellsOf e=2)(hcq:P.cellsOf q=1)
  (hval:Value.okWide P w r b0 T v) (hd:DataW.Trod enc P w base sp held T v d ps):∃ on:List Cl,OnIn w v on:=by
 obtain ⟨a0,len0,cap0,rfl⟩:=Go.WideShapes.okWide_slice hT hval
 obtain ⟨fuel,hf⟩:=hd
 rcases Go.Deep.open_slice hT hf with ⟨hcs,_⟩ | ⟨a,len,cap,m,n,D,Pl,hcs,_,hl,hm,hmm,_,hall⟩
 ·simp [Value.cells] at hcs
  obtain ⟨rfl,rfl,rfl⟩:=hcs
  exact ⟨[],OnIn.nil_ _ _ _⟩
 ·simp [Value.cells] at hcs
  obtain ⟨rfl,rfl,rfl⟩:=hcs
  have hlm:len0≤m:=by rw [hmm];split <;> omega
  have each':∀ k,k < len0→∃ x:Cl,w.cell? (a.add (k*2))=some (.int .i64 x.1)∧w.cell? ((a.add (k*2)).add 1)=some (.int .i64 x.2):=by
   intro k hk
   obtain ⟨cs',h2,h3⟩:=hall k (by omega)
   rw [hc] at h2
   obtain ⟨c,d,rfl,hc1,hc2⟩:=cells_pair h2
   obtain ⟨xs,m',e1,e2,e3,hl',h'⟩:=DataW.trod_array he h3
   have g0:=h' 0 (by omega)
   have g1:=h' 1 (by omega)
   rw [hcq] at g0 g1
   match xs,hl' with
   | [y0,y1],_ =>
    have q0:DataW.trod enc P w base sp held m' q [c]=some y0:=g0
    have q1:DataW.trod enc P w base sp held m' q [d]=some y1:=g1
    obtain ⟨n0,z0,_,_⟩:=DataW.trod_int hq q0
    obtain ⟨n1,z1,_,_⟩:=DataW.trod_int hq q1
    simp only [List.cons.injEq,and_true] at z0 z1
    subst z0
    subst z1
    exact ⟨(n0,n1),hc1,hc2⟩
  haveI:Inhabited Cl:=⟨(0,0)⟩
  obtain ⟨F,hF⟩:=Go.Deep.choose_lt each'
  refine ⟨(List.range len0).map F,?_⟩
  refine ⟨by rw [onV_length],by simp;omega,some a,cap0,by simp,by simpa using hl,fun hn=>?_⟩
  have hn':0 < len0:=by simpa using hn
  have hc0:=(hF 0 hn').1
  rw [Nat.zero_mul] at hc0
  obtain ⟨hsp,hlt⟩:=spot_of_cell hc0
  have hab:(a.add 0)=a:=by unfold Addr.add;rfl
  rw [hab] at hsp hlt
  refine ⟨a.block,a.off,?_,hlt,fun j u hu=>?_⟩
  ·have:=addr_at hsp 0
   rw [hab] at this
   rw [Nat.add_zero] at this
   rw [←this]
  ·have hjl:j < len0*2:=by
    have:=(List.getElem?_eq_some_iff.1 hu).1
    rw [onV_length] at this
    simpa using this
   have hk:j / 2 < len0:=by omega
   have hg:=onV_get ((List.range len0).map F) (j / 2) (by simpa using hk)
   have hFk:=hF (j / 2) hk
   rw [addr_at hsp] at hFk
   simp only [List.getElem_map,List.getElem_range] at hg
   rcases Nat.mod_two_eq_zero_or_one j with hj|hj
   ·have e2:j=j / 2*2:=by omega
    rw [e2] at hu ⊢
    rw [hg.1] at hu
    rw [←Option.some.inj hu]
    exact hFk.1
   ·have e2:j=j / 2*2+1:=by omega
    rw [e2] at hu ⊢
    rw [hg.2] at hu
    rw [←Option.some.inj hu]
    have:=hFk.2
    rw [addr_at rfl] at this
    exact this
end
end Go.Proofs.Ytaoeikeobfllkaa
