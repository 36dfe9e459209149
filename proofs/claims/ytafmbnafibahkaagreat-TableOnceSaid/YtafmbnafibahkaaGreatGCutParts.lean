/- Parts of blocks in memory: each one's rows, the rows that come to it, whether it is written anew; rows stay beside a block without numbers and texts; no program. -/
import Derived.Test.YtafmbnafibahkaaGreatGWeighOwn
import Derived.Test.YtafmbnafibahkaaGreatGBlockOwn
import Derived.Test.YtafmbnafibahkaaGreatGCutMade
namespace Go.Proofs.YtafmbnafibahkaaGreat
open Go Go.RowKit
abbrev PartV:=Value×Value×Bool
def partC (t:PartV):List Value:=[t.1,t.2.1,.bool t.2.2]
def partsV (pv:List PartV):List Value:=pv.flatMap partC
theorem partsV_cons (t:PartV)(pv:List PartV):partsV (t::pv)=t.1::t.2.1::.bool t.2.2::partsV pv:=rfl
theorem partsV_append (a b:List PartV):partsV (a++b)=partsV a++partsV b:=List.flatMap_append
theorem partsV_get:∀ (pv:List PartV)(j:Nat)(h:j < pv.length),(partsV pv)[j*3]? = some pv[j].1∧(partsV pv)[j*3+1]? = some pv[j].2.1∧(partsV pv)[j*3+2]? = some (.bool pv[j].2.2)
 | [],j,h=>absurd h (by simp)
 | t::pv,0,_=>⟨rfl,rfl,rfl⟩
 | t::pv,j+1,h=>by
  have:=partsV_get pv j (by simpa using h)
  have e1:(j+1)*3=j*3+3:=by omega
  rw [e1]
  exact this
theorem partsV_set0:∀ (pv:List PartV)(k:Nat)(h:k < pv.length)(u:Value),(partsV pv).set (k*3) u=partsV (pv.set k (u,pv[k].2.1,pv[k].2.2))
 | [],k,h,_=>absurd h (by simp)
 | t::pv,0,h,u=>rfl
 | t::pv,k+1,h,u=>by
  have e1:(k+1)*3=k*3+1+1+1:=by omega
  rw [e1,partsV_cons,List.set_cons_succ,List.set_cons_succ,List.set_cons_succ,partsV_set0 pv k (by simpa using h) u,List.set_cons_succ,partsV_cons]
  simp
theorem made_parts (n:Nat):(madeCells #[Value.slice none 0 0,.slice none 0 0,.bool false] (n*3)).toList=partsV (List.replicate n (.slice none 0 0,.slice none 0 0,false)):=by
 have e:∀ m:Nat,(madeCells #[Value.slice none 0 0,.slice none 0 0,.bool false] m).toList=(List.range m).map fun j=>(#[Value.slice none 0 0,.slice none 0 0,.bool false]:Array Value)[j % 3]! := by
  intro m
  unfold madeCells
  simp
 rw [e]
 induction n with
 | zero=>rfl
 | succ n ih =>
  rw [show (n+1)*3=n*3+1+1+1 by omega,List.range_succ,List.range_succ,List.range_succ,List.map_append,List.map_append,List.map_append,ih,List.replicate_succ',partsV_append]
  rw [List.append_assoc,List.append_assoc]
  congr 1
  have h0:n*3 % 3=0:=by omega
  have h1:(n*3+1) % 3=1:=by omega
  have h2:(n*3+1+1) % 3=2:=by omega
  simp only [List.map_cons,List.map_nil,h0,h1,h2]
  rfl
def Plain (w:World)(O:Nat):Prop:=∀ j u,w.cell? ⟨O,j,none⟩=some u→(∀ s,u≠.string s)∧∀ k n,u≠.int k n
def PlainV (u:Value):Prop:=(∀ s,u≠.string s)∧∀ k n,u≠.int k n
theorem plain_slice (A:Option Addr)(n c:Nat):PlainV (.slice A n c):=⟨fun _=>by simp,fun _ _=>by simp⟩
theorem plain_bool (b:Bool):PlainV (.bool b):=⟨fun _=>by simp,fun _ _=>by simp⟩
section
variable {w w':World}{O:Nat}
theorem Plain.later (h:Plain w O)(hO:O < w.heap.size)(hb:Below w.heap.size w w'):Plain w' O:=fun j u e=>h j u ((hb.cell (p:=⟨O,j,none⟩) hO).symm.trans e)
theorem Plain.set (h:Plain w O){k:Nat}{u:Value}(hc:w.cell? ⟨O,k,none⟩=some u){v:Value}(hv:PlainV v):Plain (w.setCell ⟨O,k,none⟩ v) O:=fun j x e=>by
 by_cases hjk:j=k
 ·subst hjk
  rw [World.cell?_setCell_same _ _ _ hc] at e
  obtain rfl:=Option.some.inj e
  exact hv
 ·rw [World.cell?_setCell_other _ _ _ _ (fun e2:(⟨O,k,none⟩:Addr)=⟨O,j,none⟩=>hjk (by simp only [Addr.mk.injEq] at e2;omega))] at e
  exact h j x e
theorem Plain.made {base size n:Nat}{T:TypeId}{xs:List Value}(h:w.ownsRow base T size (.slice (some ⟨O,0,none⟩) n n) n xs)(hx:∀ x∈xs,PlainV x):Plain w O:=by
 intro j u hc
 rcases h.2 with ⟨h',_⟩ | ⟨g,cap,cur,e1,_,hg,_,_,hcs,ht⟩
 ·simp at h'
 ·simp only [Value.slice.injEq,Option.some.injEq,Addr.mk.injEq,and_true,true_and] at e1
  obtain ⟨rfl,rfl⟩:=e1
  rw [cell_of_row w O j cur T (0,0) hg] at hc
  have hm:u∈xs:=by
   rw [←ht,List.take_of_length_le (by rw [Array.length_toList,hcs];exact Nat.le_refl _)]
   obtain ⟨hj,e⟩:=Array.getElem?_eq_some_iff.1 hc
   rw [←e]
   exact Array.mem_toList_iff.2 (Array.getElem_mem hj)
  exact hx _ hm
theorem SliceOf.but {size n:Nat}{ov u:Value}{xs:List Value}(h:SliceOf w size u n xs)(hk:KeptBut w ov w')(hne:0 < n→∀ b,u.ownBlock=some b→ov.ownBlock≠some b):SliceOf w' size u n xs:=by
 rcases Nat.eq_zero_or_pos n with h0|h0
 ·subst h0
  obtain ⟨h1,_,A,cap,e,_⟩:=h
  have hx:xs=[]:=List.eq_nil_of_length_eq_zero (by rw [h1];simp)
  subst hx;subst e
  exact SliceOf.nil_ _ _ _ _
 ·exact SliceOf.keepOwn h hk.1 fun k hkk hlt=>hk.2 k hlt (hne h0 k hkk)
theorem StrsIn.but {ov u:Value}{l:List ByteArray}(h:StrsIn w u l)(hp:∀ O,ov.ownBlock=some O→Plain w O)(hk:KeptBut w ov w'):StrsIn w' u l :=
 SliceOf.but h hk fun h0 b hb e=>by
  obtain ⟨A,cap,e1,hat⟩:=one_at h
  obtain ⟨b',off,ea,_,hc⟩:=hat 0 h0
  subst ea;subst e1
  simp only [Value.ownBlock,Option.some.injEq] at hb
  subst hb
  exact (hp _ e _ _ (hc 0 h0)).1 _ rfl
theorem RowsOf.but {ov:Value}(hp:∀ O,ov.ownBlock=some O→Plain w O)(hk:KeptBut w ov w'):∀ {tv:List (Value×Int)}{l:List Tm},RowsOf w tv l→RowsOf w' tv l
 | [],[],_=>trivial
 | _::_,_::_,h=>⟨⟨StrsIn.but h.1.1 hp hk,h.1.2⟩,RowsOf.but hp hk h.2⟩
 | [],_::_,h=>h.elim
 | _::_,[],h=>h.elim
theorem TimesIn.but {ov u:Value}{l:List Tm}(h:TimesIn w u l)(hp:∀ O,ov.ownBlock=some O→Plain w O)(hk:KeptBut w ov w'):TimesIn w' u l:=by
 obtain ⟨tv,h1,h2⟩:=h
 refine ⟨tv,h1.but hk fun h0 b hb e=>?_,h2.but hp hk⟩
 have hl:=h2.length
 obtain ⟨A,cap,e1,h4⟩:=h1.at_
 obtain ⟨b',off,ea,_,hc⟩:=h4 h0
 subst ea;subst e1
 simp only [Value.ownBlock,Option.some.injEq] at hb
 subst hb
 exact (hp _ e _ _ (hc _ _ (timesV_get tv 0 (by omega)).2)).2 _ _ rfl
theorem KeptBut.of {ov:Value}(hg:w.grownBy w' ov.ownBlock):KeptBut w ov w':=(KeptBut.refl w ov).grown (fun _ h=>.inl h) hg
end
def HeadsIn (w:World)(v:Value)(P:List (List Tm)):Prop:=∃ pv:List PartV,SliceOf w 3 v P.length (partsV pv)∧pv.length=P.length∧(∀ j (h1:j < pv.length)(h2:j < P.length),TimesIn w pv[j].1 P[j])∧∀ j (h1:j < pv.length),∃ A n c,pv[j].2.1=.slice A n c
section
variable {w w':World}
theorem heads_at {v:Value}{P:List (List Tm)}(h:HeadsIn w v P):∃ A cap,v=.slice A P.length cap∧P.length≤cap ∧
  (∀ k,k < P.length→∃ b off,A=some ⟨b,off,none⟩∧b < w.heap.size∧∀ j (hj:j < P.length),∃ rv Am nm cm fl,TimesIn w rv P[j]∧w.cell? ⟨b,off+j*3,none⟩=some rv∧w.cell? ⟨b,off+j*3+1,none⟩=some (.slice Am nm cm)∧w.cell? ⟨b,off+j*3+2,none⟩=some (.bool fl)):=by
 obtain ⟨pv,h1,h2,h3,h5⟩:=h
 obtain ⟨_,_,A,cap,e,hr,h4⟩:=h1
 refine ⟨A,cap,e,hr,fun k hk=>?_⟩
 obtain ⟨b,off,ea,hb,hc⟩:=h4 (by omega)
 refine ⟨b,off,ea,hb,fun j hj=>?_⟩
 have hj':j < pv.length:=by omega
 have hv:=partsV_get pv j hj'
 obtain ⟨Am,nm,cm,em⟩:=h5 j hj'
 rw [em] at hv
 refine ⟨pv[j].1,Am,nm,cm,pv[j].2.2,h3 j hj' hj,hc _ _ hv.1,?_,?_⟩
 ·rw [Nat.add_assoc];exact hc _ _ hv.2.1
 ·rw [Nat.add_assoc];exact hc _ _ hv.2.2
end
end Go.Proofs.YtafmbnafibahkaaGreat
