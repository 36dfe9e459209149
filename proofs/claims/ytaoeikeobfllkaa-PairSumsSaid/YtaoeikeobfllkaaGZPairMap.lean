/- Maps by arrays of six texts, each element a slice of rows of the call's own; no program. -/
import Derived.Test.YtaoeikeobfllkaaGWeighFns
import Derived.Test.YtaoeikeobfllkaaGZPairKey
import Derived.WideKeyEntry
import Derived.DeepKeys5
import Derived.Maps.OwnOps
import Derived.Maps.AppendAt
namespace Go.Proofs.Ytaoeikeobfllkaa
open Go Go.RowKit Go.ChangeMaps
open Go.WideElems (Fit rd rg pl rd_key rd_mk rg_of entry_then_store)
abbrev R0:Value→Option (DataW Unit×List MemPlace):=fun _=>some (.nil,[])
structure KeyT (P:Program) (K e:TypeId):Prop where
 law:WideMaps.KeyLaw P K
 und:P.underlying K=some (.array 6 e)
 str:P.underlying e=some .string
 cells:P.cellsOf K=6
 one:P.cellsOf e=1
 key:P.keyType K=true
 pos:0 < P.types.size
def KeyTexts (k:List ByteArray):Prop:=k.length=6∧∀ c∈k,c.size≤maxLen
theorem keyV_inj {k k':List ByteArray}(h:keyV k=keyV k'):k=k':=by
 unfold keyV at h
 simp only [Value.agg.injEq] at h
 have h2:=congrArg Array.toList h
 simp only at h2
 exact (List.map_inj_right (fun a b hab=>by cases hab;rfl)).1 h2
theorem key_lit {P:Program}{K e:TypeId}(h:KeyT P K e){k:List ByteArray}(hk:KeyTexts k):∃ kl,keyOf P K (keyV k)=some kl:=by
 obtain ⟨k0,k1,k2,k3,k4,k5,rfl⟩:=six hk.1
 have s0:=hk.2 k0 (by simp)
 have s1:=hk.2 k1 (by simp)
 have s2:=hk.2 k2 (by simp)
 have s3:=hk.2 k3 (by simp)
 have s4:=hk.2 k4 (by simp)
 have s5:=hk.2 k5 (by simp)
 have hf:(keyV [k0,k1,k2,k3,k4,k5]).formed P K=true:=by simp [keyV,Value.formed,h.und,h.cells]
 obtain ⟨d,hd⟩:∃ d,P.types.size+1=d+1+1:=⟨P.types.size-1,by have:=h.pos;omega⟩
 refine ⟨.string (keyBytes [.string k0.data.toList,.string k1.data.toList,.string k2.data.toList,.string k3.data.toList,.string k4.data.toList,.string k5.data.toList]),?_⟩
 unfold keyOf
 rw [h.und]
 simp only [h.key,hf,Bool.and_self,if_true]
 rw [hd]
 have e6:List.range 6=[0,1,2,3,4,5]:=rfl
 simp [keyV,Value.cells,Program.keyLits,h.und,h.cells,h.one,h.str,e6,s0,s1,s2,s3,s4,s5]
section
variable {P:Program}{K e T E:TypeId}{w w':World}{b n:Nat}{L:List ByteArray→List Tm}
def Old (b:Nat)(u:Value):Prop:=∀ A n c g,u=.slice A n c→0 < n→u.ownBlock=some g→g < b
theorem Old.off {b:Nat}{u v:Value}(h:Old b u)(hv:∀ g,v.ownBlock=some g→b≤g):RowOff v u:=fun A n c g e h0 hk e2=>by
 have h1:=h A n c g e h0 hk
 have h2:=hv g e2
 omega
theorem Old.of {l:List ByteArray}{u:Value}(h:StrsIn w u l):Old w.heap.size u:=fun A n c g e h0 hk=>by
 obtain ⟨A',c',e',hat⟩:=one_at h
 rw [e] at e'
 obtain ⟨b,off,ea,hb,_⟩:=hat 0 (by injection e' with _ h2;omega)
 injection e' with h1
 rw [e,h1,ea] at hk
 simp only [Value.ownBlock,Option.some.injEq] at hk
 omega
theorem TimesOwn.other {B:Nat}{v rv:Value}{tv:List (Value×Int)}{l:List Tm}(h:TimesOwn w B v tv l)(hoff:RowsOff rv tv)(hg:w.grownBy w' rv.ownBlock)(hne:∀ g,v.ownBlock=some g→rv.ownBlock≠some g):TimesOwn w' B v tv l :=
 ⟨h.own.other hg fun g hk e=>hne g hk e.symm,h.rows.offs hg hoff,h.off⟩
def GroupP (w:World)(b:Nat)(L:List ByteArray→List Tm)(x:MapEntry):Prop:=∃ k tv,KeyTexts k∧x.key=keyV k∧TimesOwn w (b+1) x.val tv (L k)∧∀ u∈tv,Old b u.1
def GroupsAt (P:Program)(K:TypeId)(w:World)(b n:Nat)(L:List ByteArray→List Tm):Prop :=
 ∃ es clock,w.heap[b]? = some (.map es clock)∧Fit P K R0 es clock∧es.size≤n∧(∀ x∈es.toList,GroupP w b L x) ∧
  (∀ x∈es.toList,∀ y∈es.toList,x.key≠y.key→∀ g,x.val.ownBlock=some g→y.val.ownBlock≠some g)∧∀ k,KeyTexts k→(∀ x∈es.toList,x.key≠keyV k)→L k=[]
theorem GroupsAt.made (P:Program)(K:TypeId)(w:World):GroupsAt P K (w.alloc (.map #[] 0)) w.heap.size 0 fun _=>[] :=
 ⟨#[],0,(MapKept.heap_alloc w _).1,⟨by simp,MapKept.stamped_empty 0,by simp⟩,Nat.le_refl _,by simp,by simp,fun _ _ _=>rfl⟩
theorem GroupsAt.lt (h:GroupsAt P K w b n L):b < w.heap.size:=by
 obtain ⟨es,clock,hb,_⟩:=h
 exact (Array.getElem?_eq_some_iff.1 hb).1
theorem GroupsAt.kept (h:GroupsAt P K w b n L)(hb:Below w.heap.size w w'):GroupsAt P K w' b n L:=by
 have hlt:=h.lt
 obtain ⟨es,clock,h0,h1,h2,h3,h4,h5⟩:=h
 refine ⟨es,clock,(hb.block b hlt).trans h0,h1,h2,fun x hx=>?_,h4,h5⟩
 obtain ⟨k,tv,k1,k2,k3,k4⟩:=h3 x hx
 exact ⟨k,tv,k1,k2,k3.later hb,k4⟩
theorem GroupsAt.congr {L':List ByteArray→List Tm}(h:GroupsAt P K w b n L)(he:∀ k,L k=L' k):GroupsAt P K w b n L':=by
 have:L=L':=funext he
 exact this▸h
theorem GroupsAt.mono {n':Nat}(h:GroupsAt P K w b n L)(hn:n≤n'):GroupsAt P K w b n' L:=by
 obtain ⟨es,clock,h0,h1,h2,h3⟩:=h
 exact ⟨es,clock,h0,h1,Nat.le_trans h2 hn,h3⟩
theorem GroupsAt.look (h:GroupsAt P K w b n L)(hW:Below w.heap.size w w')(KT:KeyT P K e)(ht:P.underlying T=some (.map K E))(hz:∀ u:World,(zeroValue E).run P u=.ok (.slice none 0 0) u){k:List ByteArray}(hk:KeyTexts k) :
  ∃ v tv,(Instr.lookup T (.map (some b)) (keyV k) false).run P w'=.ok v w'∧TimesOwn w (b+1) v tv (L k):=by
 have hlt:=h.lt
 obtain ⟨es,clock,h0,h1,h2,h3,h4,h5⟩:=h
 obtain ⟨kl,hkl⟩:=key_lit KT hk
 rcases Maps.fit_look false (Maps.Keyed.of_law KT.law) ht (hz w') ((hW.block b hlt).trans h0) h1 hkl with ⟨hrun,hno,_⟩ | ⟨e0,y,hm,hke,hrun,_,_,_⟩
 ·refine ⟨.slice none 0 0,[],hrun,?_⟩
  rw [h5 k hk hno]
  exact TimesOwn.nil_ _ _
 ·obtain ⟨k',tv,k1,k2,k3,k4⟩:=h3 e0 hm
  have:=keyV_inj (k2.symm.trans hke)
  subst this
  exact ⟨e0.val,tv,hrun,k3⟩
def putL (L:List ByteArray→List Tm)(k:List ByteArray)(l:List Tm):List ByteArray→List Tm:=fun k'=>if k'=k then l else L k'
theorem grown_block {es es':Array MapEntry}{clock clock':Nat}(h0:w.heap[b]? = some (.map es clock)):w.grownBy (setBlock w b (.map es' clock')) (some b) :=
 ⟨rfl,rfl,rfl,by simp [setBlock],fun i _ hi=>heap_setBlock_other h0 _ (fun e=>hi (by rw [e]))⟩
theorem size_block (o:Obj):(setBlock w b o).heap.size=w.heap.size:=by simp [setBlock]
abbrev atB (b:Nat):Value:=.slice (some ⟨b,0,none⟩) 0 0
theorem atB_own (b:Nat):(atB b).ownBlock=some b:=rfl
theorem GroupsAt.entry (h:GroupsAt P K w b n L)(KT:KeyT P K e)(ht:P.underlying T=some (.map K E))(hz:∀ u:World,(zeroValue E).run P u=.ok (.slice none 0 0) u){k:List ByteArray}(hk:KeyTexts k)(hn:n < maxLen) :
  ∃ v0 st w1 tv,(Instr.mapEntry T (.map (some b)) (keyV k)).run P w=.ok (.tuple #[v0,.int .i64 (st:Nat)]) w1∧w.grownBy w1 (some b)∧w1.heap.size=w.heap.size∧TimesOwn w1 (b+1) v0 tv (L k)∧(∀ u∈tv,Old b u.1) ∧
   ∀ w2 v' tv' l',w1.grownBy w2 v0.ownBlock→TimesOwn w2 (b+1) v' tv' l'→(∀ u∈tv',Old b u.1)→(∀ g,v'.ownBlock=some g→v0.ownBlock=some g∨w1.heap.size≤g) →
    ∃ w3,(Instr.entryStore T (.map (some b)) (.int .i64 (st:Nat)) v').run P w2=.ok () w3∧w2.grownBy w3 (some b)∧GroupsAt P K w3 b (n+1) (putL L k l'):=by
 have hlt:=h.lt
 obtain ⟨es,clock,h0,h1,h2,h3,h4,h5⟩:=h
 obtain ⟨kl,hkl⟩:=key_lit KT hk
 obtain ⟨v0,st,es1,clock1,hrun,hv0,hst⟩:=entry_then_store KT.law ht hz h0 h1 hkl
 have hg1:w.grownBy (setBlock w b (.map es1 clock1)) (some b):=grown_block h0
 have hs1:(setBlock w b (.map es1 clock1)).heap.size=w.heap.size:=size_block _
 have hset1:(setBlock w b (.map es1 clock1)).heap[b]? = some (.map es1 clock1):=heap_setBlock_same h0 _
 have turn:∀ {W W':World} {v:Value} {tv:List (Value×Int)} {l:List Tm},W.grownBy W' (some b)→TimesOwn W (b+1) v tv l→(∀ u∈tv,Old b u.1)→TimesOwn W' (b+1) v tv l:=fun hg hT hO =>
  hT.other (rv:=atB b) (fun u hu=>(hO u hu).off fun g hg=>by rw [atB_own] at hg;cases hg;exact Nat.le_refl _) (by rw [atB_own];exact hg) fun g hk e=>by
   rw [atB_own] at e
   cases e
   have:=(hT.own.lt _ hk).1
   omega
 -- what the entry holds
 have hold:∃ tv,TimesOwn w (b+1) v0 tv (L k)∧(∀ u∈tv,Old b u.1)∧∀ x∈es.toList,x.key≠keyV k→∀ g,x.val.ownBlock=some g→v0.ownBlock≠some g:=by
  rcases hv0 with ⟨e0,hm,hke,rfl⟩ | ⟨hno,rfl⟩
  ·obtain ⟨k',tv,k1,k2,k3,k4⟩:=h3 e0 hm
   have:=keyV_inj (k2.symm.trans hke)
   subst this
   exact ⟨tv,k3,k4,fun x hx hne g hg=>h4 x hx e0 hm (by rw [hke];exact hne) g hg⟩
  ·refine ⟨[],?_,fun _ h=>absurd h (by simp),fun _ _ _ _ _ h=>by cases h⟩
   rw [h5 k hk hno]
   exact TimesOwn.nil_ _ _
 obtain ⟨tv,hT0,hO0,hap⟩:=hold
 refine ⟨v0,st,setBlock w b (.map es1 clock1),tv,hrun,hg1,hs1,turn hg1 hT0 hO0,hO0,fun w2 v' tv' l' hg2 hT' hO' hv'=>?_⟩
 have hb2:w2.heap[b]? = some (.map es1 clock1):=(hg2.block b (by rw [hs1];exact hlt) fun e=>by
  have:=(hT0.own.lt b e.symm).1
  omega).trans hset1
 obtain ⟨es',clock',hrun2,hrun3⟩:=hst w2 v' hb2
 obtain ⟨es'',clock'',hrun4,hF,hput,_,_,hwho⟩:=Maps.fit_store (R':=R0) (Maps.Keyed.of_law KT.law) ht h0 h1 (Nat.lt_of_le_of_lt h2 hn) (fun _ _ _ z hz=>hz) hkl (val:=v') rfl
 have heq:es''=es'∧clock''=clock':=by
  rw [hrun3] at hrun4
  have e1:setBlock w b (.map es' clock')=setBlock w b (.map es'' clock''):=by injection hrun4
  have e2:=heap_setBlock_same h0 (.map es' clock')
  rw [e1,heap_setBlock_same h0 (.map es'' clock'')] at e2
  simp only [Option.some.injEq,Obj.map.injEq] at e2
  exact e2
 obtain ⟨rfl,rfl⟩:=heq
 have hg3:w2.grownBy (setBlock w2 b (.map es'' clock'')) (some b):=grown_block hb2
 refine ⟨_,hrun2,hg3,es'',clock'',heap_setBlock_same hb2 _,hF,?_,fun x hx=>?_,fun x hx y hy hne g hg hgy=>?_,fun k' hk' hno=>?_⟩
 ·have e1:es''.size=((es''.toList.map (rg P K R0)).foldr DataW.insert []).length:=by rw [length_sorted];simp
  rw [e1,hput]
  unfold putKey
  rw [length_insert]
  have e2:=List.length_filter_le (notKey kl) ((es.toList.map (rg P K R0)).foldr DataW.insert [])
  rw [length_sorted] at e2
  simp at e2
  omega
 ·rcases hwho x hx with ⟨hx',hne⟩ | ⟨hxk,hxv⟩
  ·obtain ⟨k',tv3,k1,k2,k3,k4⟩:=h3 x hx'
   have hkk:k'≠k:=fun e=>hne (by rw [k2,e])
   refine ⟨k',tv3,k1,k2,?_,k4⟩
   unfold putL
   rw [if_neg hkk]
   refine turn hg3 ?_ k4
   exact (turn hg1 k3 k4).other (rv:=v0) (fun u hu=>(k4 u hu).off fun g hg=>by have:=(hT0.own.lt g hg).1;omega) hg2 fun g hg=>hap x hx' hne g hg
  ·refine ⟨k,tv',hk,hxk,?_,hO'⟩
   rw [hxv]
   unfold putL
   rw [if_pos rfl]
   exact turn hg3 hT' hO'
 ·have far:∀ x∈es.toList,x.key≠keyV k→∀ g,x.val.ownBlock=some g→v'.ownBlock≠some g:=fun x hx hne g hg e=>by
   obtain ⟨k',tv3,k1,k2,k3,k4⟩:=h3 x hx
   rcases hv' g e with h|h
   ·exact hap x hx hne g hg h
   ·have:=(k3.own.lt g hg).2
    rw [hs1] at h
    omega
  rcases hwho x hx with ⟨hx',hnx⟩ | ⟨hxk,hxv⟩
  ·rcases hwho y hy with ⟨hy',hny⟩ | ⟨hyk,hyv⟩
   ·exact h4 x hx' y hy' hne g hg hgy
   ·rw [hyv] at hgy
    exact far x hx' hnx g hg hgy
  ·rcases hwho y hy with ⟨hy',hny⟩ | ⟨hyk,hyv⟩
   ·rw [hxv] at hg
    exact far y hy' hny g hgy hg
   ·exact hne (hxk.trans hyk.symm)
 ·have mem:∀ p:Lit×DataW Unit,p∈putKey kl DataW.nil ((es.toList.map (rg P K R0)).foldr DataW.insert [])→∃ x∈es''.toList,keyOf P K x.key=some p.1:=fun p hp=>by
   have hp2:p∈(es''.toList.map (rg P K R0)).foldr DataW.insert []:=by rw [hput];exact hp
   obtain ⟨x,hx,rfl⟩:=List.mem_map.1 ((WideShapes.sorted_perm _).mem_iff.1 hp2)
   obtain ⟨y,hy⟩:=hF.reads x hx
   exact ⟨x,hx,by rw [rg_of hy];exact rd_key hy⟩
  have hkne:k'≠k:=fun e=>by
   subst e
   obtain ⟨x,hx,hxk⟩:=mem (kl,DataW.nil) (by unfold putKey;exact mem_insert_iff.2 (.inl rfl))
   exact hno x hx (KT.law.inj hxk hkl)
  unfold putL
  rw [if_neg hkne]
  refine h5 k' hk' fun x hx e=>?_
  obtain ⟨y,hy⟩:=h1.reads x hx
  have hyk:=rd_key hy
  obtain ⟨x2,hx2,hxk2⟩:=mem (rg P K R0 x) (by
   unfold putKey
   refine mem_insert_iff.2 (.inr (List.mem_filter.2 ⟨(WideShapes.sorted_perm _).mem_iff.2 (List.mem_map.2 ⟨x,hx,rfl⟩),?_⟩))
   refine (Maps.notKey_iff ((Maps.Keyed.of_law KT.law).key hkl)).2 fun e2=>?_
   rw [rg_of hy] at e2
   rw [e2] at hyk
   have:=KT.law.inj hyk hkl
   rw [e] at this
   exact hkne (keyV_inj this))
  rw [rg_of hy] at hxk2
  have:=KT.law.inj hxk2 hyk
  exact hno x2 hx2 (this.trans e)
end
section
variable {P:Program}{w w':World}{ops:Array Oper}{rest:List Oper}{o:Oper}{a:Act}{Q:Exit→Act→World→Prop}
theorem wpList_entry_run (hg:o.guard=none)(m x:Operand)(t:TypeId)(hop:o.op=Op.mapEntry t m x)(mv kv v:Value)(hm:a.eval m=mv)(hx:a.eval x=kv)(hrun:(Instr.mapEntry t mv kv).run P w=.ok v w')
  (hK:wpList P ops Q rest (a.put o.dst v) w'):wpList P ops Q (o::rest) a w:=by
 refine wpList_plain hg fun K' hK'=>?_
 unfold Oper.wp
 simp [execOp,hop,hm,hx,hrun,Result.andThen]
 exact hK' _ _ hK
theorem wpList_stored_run (hg:o.guard=none)(m s x:Operand)(t:TypeId)(hop:o.op=Op.entryStore t m s x)(mv sv xv:Value)(hm:a.eval m=mv)(hs:a.eval s=sv)(hx:a.eval x=xv)(hrun:(Instr.entryStore t mv sv xv).run P w=.ok () w')
  (hK:wpList P ops Q rest (a.put o.dst undef) w'):wpList P ops Q (o::rest) a w:=by
 refine wpList_plain hg fun K' hK'=>?_
 unfold Oper.wp
 simp [execOp,hop,hm,hs,hx,hrun,Result.andThen]
 exact hK' _ _ hK
theorem wpList_look_run (hg:o.guard=none)(m x:Operand)(t:TypeId)(hop:o.op=Op.lookup t m x false)(mv kv v:Value)(hm:a.eval m=mv)(hx:a.eval x=kv)(hrun:(Instr.lookup t mv kv false).run P w=.ok v w')
  (hK:wpList P ops Q rest (a.put o.dst v) w'):wpList P ops Q (o::rest) a w:=by
 refine wpList_plain hg fun K' hK'=>?_
 unfold Oper.wp
 simp [execOp,hop,hm,hx,hrun,Result.andThen]
 exact hK' _ _ hK
end
end Go.Proofs.Ytaoeikeobfllkaa
