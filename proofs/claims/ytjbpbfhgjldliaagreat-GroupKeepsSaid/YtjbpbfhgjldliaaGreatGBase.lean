/- Slices that a call owns: their cells, and room behind them that may be written; no program. -/
import Derived.Below
import Derived.Laws.OwnMore
import Derived.Laws.Rows
import Derived.OneCell
import Derived.Deep.Draws
import Derived.Deep.Slices
import Derived.ProofKit
import Derived.WalkKit
import Derived.OpenShut
import Derived.Test.YtjbpbfhgjldliaaGreatRows
import Derived.WalkSpells
import Derived.WalkLawsBesides
import Derived.Handy
import Derived.Lib.Hide
import Derived.Deep.QuietTactic
import Derived.Laws.AppendOwn
import Derived.BigQuiet
import Derived.ArgAppend
import Derived.OwnWalk
import Derived.Laws.IdiomStrings
namespace Go.Proofs.YtjbpbfhgjldliaaGreat
open Go Go.RowKit
def SliceOf (w:World)(size:Nat)(v:Value)(n:Nat)(xs:List Value):Prop :=
 xs.length=n*size∧n≤maxLen∧∃ A cap,v=.slice A n cap∧n≤cap∧(0 < n→∃ b off,A=some ⟨b,off,none⟩∧b < w.heap.size∧∀ j u,xs[j]? = some u→w.cell? ⟨b,off+j,none⟩=some u)
section
variable {w w':World}{size n:Nat}{v:Value}{xs:List Value}
theorem SliceOf.keep (h:SliceOf w size v n xs)(hs:w.heap.size≤w'.heap.size)(hk:∀ b o,b < w.heap.size→w'.cell? ⟨b,o,none⟩=w.cell? ⟨b,o,none⟩):SliceOf w' size v n xs:=by
 obtain ⟨h1,h2,A,cap,h3,hr,h4⟩:=h
 refine ⟨h1,h2,A,cap,h3,hr,fun hn=>?_⟩
 obtain ⟨b,off,e,hb,hc⟩:=h4 hn
 exact ⟨b,off,e,by omega,fun j u hu=>(hk b _ hb).trans (hc j u hu)⟩
theorem SliceOf.below (h:SliceOf w size v n xs){B:Nat}(hb:Below B w w')(hB:w.heap.size≤B):SliceOf w' size v n xs :=
 h.keep hb.size fun b o hlt=>hb.cell (p:=⟨b,o,none⟩) (Nat.lt_of_lt_of_le hlt hB)
theorem SliceOf.drew (h:SliceOf w size v n xs):SliceOf w.drew size v n xs:=h
theorem SliceOf.drewN (h:SliceOf w size v n xs)(k:Nat):SliceOf (w.drewN k) size v n xs:=h
theorem SliceOf.alloc (h:SliceOf w size v n xs)(o:Obj):SliceOf (w.alloc o) size v n xs:=h.below (Below.alloc (.refl _ _) (Nat.le_refl _) o) (Nat.le_refl _)
theorem SliceOf.later {w0:World}(h:SliceOf w0 size v n xs)(hb:Below w0.heap.size w0 w):SliceOf w size v n xs:=h.below hb (Nat.le_refl _)
theorem SliceOf.at_ (h:SliceOf w size v n xs):∃ A cap,v=.slice A n cap∧(0 < n→∃ b off,A=some ⟨b,off,none⟩∧b < w.heap.size∧∀ j u,xs[j]? = some u→w.cell? ⟨b,off+j,none⟩=some u):=by
 obtain ⟨_,_,A,cap,h3,_,h4⟩:=h
 exact ⟨A,cap,h3,h4⟩
theorem SliceOf.room (h:SliceOf w size v n xs):∃ A cap,v=.slice A n cap∧n≤cap:=by
 obtain ⟨_,_,A,cap,h3,h4,_⟩:=h
 exact ⟨A,cap,h3,h4⟩
theorem SliceOf.nil_ (w:World)(size:Nat)(A:Option Addr)(cap:Nat):SliceOf w size (.slice A 0 cap) 0 [] :=
 ⟨by simp,Nat.zero_le _,A,cap,rfl,Nat.zero_le _,fun h=>absurd h (by omega)⟩
end
def IntsIn (w:World)(v:Value)(l:List Int):Prop:=SliceOf w 1 v l.length (l.map (Value.int .i64))
def StrsIn (w:World)(v:Value)(l:List ByteArray):Prop:=SliceOf w 1 v l.length (l.map Value.string)
def BoolsIn (w:World)(v:Value)(l:List Bool):Prop:=SliceOf w 1 v l.length (l.map Value.bool)
section
variable {w w':World}{v:Value}
theorem one_at {α:Type}{f:α→Value}{l:List α}(h:SliceOf w 1 v l.length (l.map f)):∃ A cap,v=.slice A l.length cap ∧
  (∀ k,k < l.length→∃ b off,A=some ⟨b,off,none⟩∧b < w.heap.size∧∀ j (hj:j < l.length),w.cell? ⟨b,off+j,none⟩=some (f l[j])):=by
 obtain ⟨_,_,A,cap,e,_,h4⟩:=h
 refine ⟨A,cap,e,fun k hk=>?_⟩
 obtain ⟨b,off,ea,hb,hc⟩:=h4 (by omega)
 exact ⟨b,off,ea,hb,fun j hj=>hc j _ (by rw [List.getElem?_map,List.getElem?_eq_getElem hj];rfl)⟩
end
section
variable {H:Type}{enc:TypeId×Value→H}{P:Program}{w:World}{base b0:Nat}{sp:Nat→Bool}{held:Bool}{r:Reach}
theorem spot_of_cell {a:Addr}{v:Value}(h:w.cell? a=some v):a.spot=none∧a.block < w.heap.size:=by
 unfold World.cell? at h
 cases hh:w.heap[a.block]? with
 | none=>rw [hh] at h;simp at h
 | some o =>
  refine ⟨?_,(Array.getElem?_eq_some_iff.1 hh).1⟩
  rw [hh] at h
  cases o with
  | cells c e f =>
   simp only at h
   cases hp:a.spot with
   | none=>rfl
   | some x=>rw [hp] at h;simp at h
  | _=>simp at h
theorem addr_at {a:Addr}(h:a.spot=none)(n:Nat):a.add n=⟨a.block,a.off+n,none⟩:=by
 cases a with|mk b o s =>
 simp only at h
 subst h
 unfold Addr.add
 split
 ·rename_i h0;subst h0;rfl
 ·rfl
theorem cells_one {a:Addr}{cs:List Value}(h:w.cells? base a 1=some cs):∃ c,cs=[c]∧w.cell? a=some c:=by
 unfold World.cells? at h
 split at h
 ·have h':(List.range 1).mapM (fun i=>w.cell? (a.add i))=some cs:=h
  have e:List.range 1=[0]:=rfl
  rw [e] at h'
  simp only [List.mapM_cons,List.mapM_nil] at h'
  cases h0:w.cell? (a.add 0) with
  | none=>rw [h0] at h';simp at h'
  | some c=>rw [h0] at h';simp at h';exact ⟨c,h'.symm,h0⟩
 ·exact absurd h (by simp)
theorem open_ones {α:Type} [Inhabited α]{t e:TypeId}{v:Value}{d:DataW H}{ps:List MemPlace}(f:α→Value)(good:α→Prop)(ht:P.underlying t=some (.slice e))(hc:P.cellsOf e=1)
  (each:∀ n c y,DataW.trod enc P w base sp held n e [c]=some y→∃ x,c=f x∧good x) (hval:Value.okWide P w r b0 t v) (hd:DataW.Trod enc P w base sp held t v d ps) :
  ∃ l:List α,SliceOf w 1 v l.length (l.map f)∧∀ x∈l,good x:=by
 obtain ⟨a0,len0,cap0,rfl⟩:=Go.WideShapes.okWide_slice ht hval
 obtain ⟨fuel,hf⟩:=hd
 rcases Go.Deep.open_slice ht hf with ⟨hcs,_⟩ | ⟨a,len,cap,m,n,D,Pl,hcs,_,hl,hm,hmm,_,hall⟩
 ·simp [Value.cells] at hcs
  obtain ⟨rfl,rfl,rfl⟩:=hcs
  exact ⟨[],SliceOf.nil_ w 1 none 0,by simp⟩
 ·simp [Value.cells] at hcs
  obtain ⟨rfl,rfl,rfl⟩:=hcs
  have hlm:len0≤m:=by rw [hmm];split <;> omega
  have each':∀ i,i < len0→∃ x:α,w.cell? (a.add i)=some (f x)∧good x:=by
   intro i hi
   obtain ⟨cs',h1,h2⟩:=hall i (by omega)
   rw [hc,Nat.mul_one] at h1
   obtain ⟨c,rfl,hcell⟩:=cells_one h1
   obtain ⟨x,rfl,hg⟩:=each _ _ _ h2
   exact ⟨x,hcell,hg⟩
  obtain ⟨F,hF⟩:=Go.Deep.choose_lt each'
  refine ⟨(List.range len0).map F,?_,?_⟩
  ·refine ⟨by simp,by simp;omega,some a,cap0,by simp,by simpa using hl,fun hn=>?_⟩
   have hn':0 < len0:=by simpa using hn
   have h0:=(hF 0 hn').1
   obtain ⟨hsp,hlt⟩:=spot_of_cell h0
   have hab:(a.add 0)=a:=by unfold Addr.add;rfl
   rw [hab] at hsp hlt
   refine ⟨a.block,a.off,?_,hlt,fun j u hu=>?_⟩
   ·have:=addr_at hsp 0
    rw [hab] at this
    rw [Nat.add_zero] at this
    rw [←this]
   ·rw [List.map_map,List.getElem?_map] at hu
    cases hj:(List.range len0)[j]? with
    | none=>rw [hj] at hu;simp at hu
    | some q =>
     rw [hj] at hu
     have hq:=List.getElem?_eq_some_iff.1 hj
     obtain ⟨hq1,hq2⟩:=hq
     rw [List.getElem_range] at hq2
     subst hq2
     simp at hu
     subst hu
     have:=(hF j (by simpa using hq1)).1
     rw [addr_at hsp] at this
     exact this
  ·intro x hx
   obtain ⟨i,hi,rfl⟩:=List.mem_map.1 hx
   exact (hF i (List.mem_range.1 hi)).2
theorem open_ints_in {t e:TypeId}{v:Value}{d:DataW H}{ps:List MemPlace}(ht:P.underlying t=some (.slice e))(he:P.underlying e=some (.int .i64))(hc:P.cellsOf e=1)
  (hval:Value.okWide P w r b0 t v) (hd:DataW.Trod enc P w base sp held t v d ps):∃ l:List Int,IntsIn w v l∧∀ x∈l,-9223372036854775808≤x∧x≤9223372036854775807 :=
 open_ones (Value.int .i64) _ ht hc (fun n c y h=>by
  obtain ⟨x,e1,_,hw⟩:=DataW.trod_int he h
  simp only [List.cons.injEq,and_true] at e1
  exact ⟨x,e1,Go.bounds_i64 hw⟩) hval hd
end
def Gives (P:Program)(f:FuncId)(args:Array Value)(v:Value):Prop :=
 ∀ w:World,Calls P f args w fun e w'=>e=.returned v∧Below w.heap.size w w'
theorem Gives.step {P:Program}{f:FuncId}{args:Array Value}{v:Value}(h:Gives P f args v){B:Nat}{w0 w:World}(hb:Below B w0 w)(hB:B≤w.heap.size)
  {R:Ending→World→Prop} (k:∀ w',Below B w0 w'→B≤w'.heap.size→R (.returned v) w'):Calls P f args w R :=
 (h w).mono fun _ _ ⟨he,hw⟩=>he▸k _ (hb.trans (hw.mono hB)) (Nat.le_trans hB hw.size)
theorem Gives.stepB {P:Program}{f:FuncId}{args:Array Value}{v:Value}(h:Gives P f args v){B:Nat}{w0 w:World}(hb:Below B w0 w)(hB:B≤w.heap.size)
  {R:Ending→World→Prop} (k:∀ w',Below B w0 w'→B≤w'.heap.size→Below w.heap.size w w'→R (.returned v) w'):Calls P f args w R :=
 (h w).mono fun _ _ ⟨he,hw⟩=>he▸k _ (hb.trans (hw.mono hB)) (Nat.le_trans hB hw.size) hw
theorem start (w:World):Below w.heap.size w w∧w.heap.size≤w.heap.size:=⟨.refl _ _,Nat.le_refl _⟩
theorem ret_bool {a b:Bool}(h:a=b):Ending.returned (.bool a)=.returned (.bool b):=by rw [h]
theorem ret_int {k:IntKind}{a b:Int}(h:a=b):Ending.returned (.int k a)=.returned (.int k b):=by rw [h]
def GivesAt (P:Program)(f:FuncId)(args:Array Value)(w:World)(v:Value):Prop:=Calls P f args w fun e w'=>e=.returned v∧Below w.heap.size w w'
theorem Gives.at_ {P:Program}{f:FuncId}{args:Array Value}{v:Value}(h:Gives P f args v)(w:World):GivesAt P f args w v:=h w
theorem GivesAt.step {P:Program}{f:FuncId}{args:Array Value}{w:World}{v:Value}(h:GivesAt P f args w v){B:Nat}{w0:World}(hb:Below B w0 w)(hB:B≤w.heap.size)
  {R:Ending→World→Prop} (k:∀ w',Below B w0 w'→B≤w'.heap.size→R (.returned v) w'):Calls P f args w R :=
 Calls.mono h fun _ _ ⟨he,hw⟩=>he▸k _ (hb.trans (hw.mono hB)) (Nat.le_trans hB hw.size)
theorem GivesAt.stepB {P:Program}{f:FuncId}{args:Array Value}{w:World}{v:Value}(h:GivesAt P f args w v){B:Nat}{w0:World}(hb:Below B w0 w)(hB:B≤w.heap.size)
  {R:Ending→World→Prop} (k:∀ w',Below B w0 w'→B≤w'.heap.size→Below w.heap.size w w'→R (.returned v) w'):Calls P f args w R :=
 Calls.mono h fun _ _ ⟨he,hw⟩=>he▸k _ (hb.trans (hw.mono hB)) (Nat.le_trans hB hw.size) hw
def Reads (P:Program)(f:FuncId)(args:Array Value)(w:World)(v:Value):Prop:=Calls P f args w fun e w'=>e=.returned v∧w=w'
theorem Reads.step {P:Program}{f:FuncId}{args:Array Value}{w:World}{v:Value}(h:Reads P f args w v){R:Ending→World→Prop}(k:R (.returned v) w):Calls P f args w R :=
 Calls.mono h fun _ _ ⟨he,hw⟩=>he▸hw▸k
theorem Reads.quiet {P:Program}{f:FuncId}{args:Array Value}{w:World}{v:Value}{n:Nat}(h:Reads P f args (w.drewN n) v) :
  Calls P f args (w.drewN n) fun e w'=>e=.returned v∧∃ m,w'=w.drewN m :=
 Calls.quiet_of_same (Calls.mono h fun _ _ ⟨x,y⟩=>⟨x,y.symm⟩)
theorem Reads.gives {P:Program}{f:FuncId}{args:Array Value}{w:World}{v:Value}(h:Reads P f args w v):GivesAt P f args w v :=
 Calls.mono h fun _ _ ⟨he,hw⟩=>⟨he,hw▸.refl _ _⟩
def GivesInts (P:Program)(f:FuncId)(args:Array Value)(w:World)(l:List Int):Prop:=Calls P f args w fun e w'=>∃ v,e=.returned v∧IntsIn w' v l∧Below w.heap.size w w'
theorem GivesInts.stepB {P:Program}{f:FuncId}{args:Array Value}{w:World}{l:List Int}(h:GivesInts P f args w l){B:Nat}{w0:World}(hb:Below B w0 w)(hB:B≤w.heap.size)
  {R:Ending→World→Prop} (k:∀ v w',IntsIn w' v l→Below B w0 w'→B≤w'.heap.size→Below w.heap.size w w'→R (.returned v) w'):Calls P f args w R :=
 Calls.mono h fun _ _ ⟨_,he,hi,hw⟩=>he▸k _ _ hi (hb.trans (hw.mono hB)) (Nat.le_trans hB hw.size) hw
theorem IntsIn.len {w:World}{v:Value}{l:List Int}(h:IntsIn w v l):l.length≤maxLen:=h.2.1
theorem IntsIn.kept {w w':World}{v:Value}{l:List Int}(h:IntsIn w v l)(hb:Below w.heap.size w w'):IntsIn w' v l:=SliceOf.later h hb
theorem IntsIn.parts {w:World}{v:Value}{l:List Int}(h:IntsIn w v l):(l=[]∧∃ A cap,v=.slice A 0 cap) ∨
  (0 < l.length∧∃ b off cap,v=.slice (some ⟨b,off,none⟩) l.length cap∧b < w.heap.size∧∀ j (hj:j < l.length),w.cell? ⟨b,off+j,none⟩=some (.int .i64 l[j])):=by
 obtain ⟨A,cap,e,hk⟩:=one_at h
 cases l with
 | nil=>exact .inl ⟨rfl,A,cap,e⟩
 | cons x l =>
  obtain ⟨b,off,ea,hb,hc⟩:=hk 0 (by simp)
  subst ea
  exact .inr ⟨by simp,b,off,cap,e,hb,hc⟩
def Fresh (B:Nat)(v:Value):Prop:=∀ k,v.ownBlock=some k→B≤k
theorem fresh_nil (B:Nat):Fresh B (.slice none 0 0):=fun k hk=>by simp [Value.ownBlock] at hk
theorem Fresh.mono {B B':Nat}{v:Value}(h:Fresh B v)(hB:B'≤B):Fresh B' v:=fun k hk=>Nat.le_trans hB (h k hk)
theorem SliceOf.keepOwn {w w':World}{size n:Nat}{v:Value}{xs:List Value}(h:SliceOf w size v n xs)(hs:w.heap.size≤w'.heap.size)(hk:∀ k,v.ownBlock=some k→k < w.heap.size→w'.heap[k]? = w.heap[k]?):SliceOf w' size v n xs:=by
 obtain ⟨h1,h2,A,cap,h3,hr,h4⟩:=h
 refine ⟨h1,h2,A,cap,h3,hr,fun hn=>?_⟩
 obtain ⟨b,off,e,hb,hc⟩:=h4 hn
 refine ⟨b,off,e,by omega,fun j u hu=>?_⟩
 rw [World.cell?_of_block (w:=w) (a:=⟨b,off+j,none⟩) (hk b (by rw [h3,e];rfl) hb)]
 exact hc j u hu
theorem SliceOf.fresh {w w':World}{size n:Nat}{v:Value}{xs:List Value}{B c:Nat}(h:SliceOf w size v n xs)(hf:Fresh B v)(hg:w.grownBy w' (some c))(hc:c < B):SliceOf w' size v n xs :=
 h.keepOwn hg.size fun k hk hl=>hg.block k hl (by have:=hf k hk;simp;omega)
theorem take_add {α:Type}(l:List α)(k:Nat)(h:k < l.length):l.take (k+1)=l.take k++[l[k]]:=by
 rw [List.take_add_one,List.getElem?_eq_getElem h];rfl
def Own (w:World)(B size:Nat)(v:Value)(n:Nat)(xs:List Value):Prop :=
 xs.length=n*size∧n≤maxLen∧((v=.slice none 0 0∧n=0) ∨
  ∃ g off cap,v=.slice (some ⟨g,off,none⟩) n cap∧B≤g∧g < w.heap.size∧n≤cap∧(∀ j u,xs[j]? = some u→w.cell? ⟨g,off+j,none⟩=some u) ∧
   ∀ j,j < cap*size→(w.cell? ⟨g,off+j,none⟩).isSome=true∧w.frozen? ⟨g,off+j,none⟩=false)
section
variable {w w':World}{B size n:Nat}{v:Value}{xs:List Value}
theorem Own.nil_ (w:World)(B size:Nat):Own w B size (.slice none 0 0) 0 []:=⟨by simp,Nat.zero_le _,.inl ⟨rfl,rfl⟩⟩
theorem Own.slice (h:Own w B size v n xs):SliceOf w size v n xs:=by
 obtain ⟨h1,h2,h3⟩:=h
 refine ⟨h1,h2,?_⟩
 rcases h3 with ⟨rfl,rfl⟩ | ⟨g,off,cap,rfl,_,hg,hn,hc,_⟩
 ·exact ⟨none,0,rfl,Nat.le_refl _,fun h0=>absurd h0 (by omega)⟩
 ·exact ⟨_,cap,rfl,hn,fun _=>⟨g,off,rfl,hg,hc⟩⟩
theorem Own.keep (h:Own w B size v n xs)(hs:w.heap.size≤w'.heap.size)(hk:∀ k,v.ownBlock=some k→w'.heap[k]? = w.heap[k]?):Own w' B size v n xs:=by
 obtain ⟨h1,h2,h3⟩:=h
 refine ⟨h1,h2,?_⟩
 rcases h3 with h3 | ⟨g,off,cap,rfl,hB,hg,hn,hc,hr⟩
 ·exact .inl h3
 ·have hb:w'.heap[g]? = w.heap[g]? := hk g rfl
  refine .inr ⟨g,off,cap,rfl,hB,Nat.lt_of_lt_of_le hg hs,hn,fun j u hu=>?_,fun j hj=>?_⟩
  ·rw [World.cell?_of_block (w:=w) (a:=⟨g,off+j,none⟩) hb];exact hc j u hu
  ·rw [World.cell?_of_block (w:=w) (a:=⟨g,off+j,none⟩) hb,World.frozen?_of_block (w:=w) (a:=⟨g,off+j,none⟩) hb];exact hr j hj
theorem Own.lt (h:Own w B size v n xs):∀ k,v.ownBlock=some k→B≤k∧k < w.heap.size:=by
 intro k hk
 rcases h.2.2 with ⟨rfl,_⟩ | ⟨g,off,cap,rfl,hB,hg,_⟩
 ·simp [Value.ownBlock] at hk
 ·simp only [Value.ownBlock,Option.some.injEq] at hk
  subst hk
  exact ⟨hB,hg⟩
theorem Own.later (h:Own w B size v n xs)(hb:Below w.heap.size w w'):Own w' B size v n xs:=h.keep hb.size fun k hk=>hb.block k (h.lt k hk).2
theorem Own.alloc (h:Own w B size v n xs)(o:Obj):Own (w.alloc o) B size v n xs:=h.later (Below.alloc (.refl _ _) (Nat.le_refl _) o)
theorem Own.drew (h:Own w B size v n xs):Own w.drew B size v n xs:=h
theorem Own.drewN (h:Own w B size v n xs)(k:Nat):Own (w.drewN k) B size v n xs:=h
theorem Own.other {row:Option Nat}(h:Own w B size v n xs)(hg:w.grownBy w' row)(hne:∀ k,v.ownBlock=some k→some k≠row):Own w' B size v n xs :=
 h.keep hg.size fun k hk=>hg.block k (h.lt k hk).2 (hne k hk)
theorem Own.mono {B':Nat}(h:Own w B size v n xs)(hB:B'≤B):Own w B' size v n xs :=
 ⟨h.1,h.2.1,h.2.2.imp id fun ⟨g,off,cap,h1,h2,h3⟩=>⟨g,off,cap,h1,Nat.le_trans hB h2,h3⟩⟩
theorem Own.len (h:Own w B size v n xs):∃ A cap,v=.slice A n cap:=by
 rcases h.2.2 with ⟨rfl,rfl⟩ | ⟨g,off,cap,rfl,_⟩
 ·exact ⟨_,_,rfl⟩
 ·exact ⟨_,_,rfl⟩
theorem Own.of_row {base:Nat}{e:TypeId}(h:w.ownsRow base e size v n xs)(hn:n≤maxLen)(hB:B≤base):Own w B size v n xs:=by
 refine ⟨h.1,hn,?_⟩
 have h0:=h
 rcases h.2 with ⟨rfl,rfl⟩ | ⟨g,cap,cur,rfl,hb,hg,hnc,hcm,hcs,ht⟩
 ·exact .inl ⟨rfl,rfl⟩
 ·refine .inr ⟨g,0,cap,rfl,Nat.le_trans hB hb,lt_of_block hg,hnc,fun j u hu=>?_,fun j hj=>?_⟩
  ·rw [Nat.zero_add]
   have:=h0.cells (g:=g) rfl j u hu
   unfold Addr.add at this
   split at this
   ·rename_i hz;subst hz;exact this
   ·simpa using this
  ·rw [Nat.zero_add,cell_of_row w g j cur e (0,0) hg]
   refine ⟨?_,frozen_of_row w g j cur e hg⟩
   rw [Array.getElem?_eq_getElem (by omega)];rfl
theorem Own.lit (w:World)(cs:Array Value)(e:TypeId)(n:Nat)(hB:B≤w.heap.size)(hn:n≤maxLen)(hs:cs.size=n*size) :
  Own (w.alloc (.cells cs e)) B size (.slice (some ⟨w.heap.size,0,none⟩) n n) n cs.toList :=
 .of_row (World.ownsRow_lit w cs n hB hn hs) hn (Nat.le_refl _)
theorem Own.bytes (w:World)(e:TypeId)(s:ByteArray)(c:Nat)(hB:B≤w.heap.size)(hn:s.size≤maxLen)(hc:s.size≤c) :
  Own (w.drew.alloc (.cells (bytesRow s c) e ((bytesRow s c).size,(bytesRow s c).size+1))) B 1 (.slice (some ⟨w.heap.size,0,none⟩) s.size c) s.size (s.data.toList.map fun b=>Value.int .u8 b.toNat):=by
 have hd:s.data.size=s.size:=rfl
 have hsz:(bytesRow s c).size=c:=by unfold bytesRow;simp [hd];omega
 have hcell:∀ j,(w.drew.alloc (.cells (bytesRow s c) e ((bytesRow s c).size,(bytesRow s c).size+1))).cell? ⟨w.heap.size,j,none⟩=(bytesRow s c)[j]? :=
  fun j=>World.cell?_alloc_mark w.drew _ e _ j
 refine ⟨by simp [hd],hn,.inr ⟨w.heap.size,0,c,rfl,hB,by simp,hc,fun j u hu=>?_,fun j hj=>?_⟩⟩
 ·rw [Nat.zero_add,hcell]
  rw [List.getElem?_map] at hu
  cases hq:s.data.toList[j]? with
  | none=>rw [hq] at hu;simp at hu
  | some b =>
   rw [hq] at hu
   simp only [Option.map_some,Option.some.injEq] at hu
   obtain ⟨h1,h2⟩:=List.getElem?_eq_some_iff.1 hq
   rw [Array.length_toList] at h1
   rw [bytesRow_at s c j h1,←hu,←h2]
   simp
 ·rw [Nat.zero_add,hcell]
  have hf:=World.frozen?_alloc_mark w.drew (bytesRow s c) e (bytesRow s c).size ((bytesRow s c).size+1) j
  refine ⟨?_,?_⟩
  ·rw [Array.getElem?_eq_getElem (by omega)];rfl
  ·refine Eq.trans hf ?_
   rw [Bool.and_eq_false_iff,decide_eq_false_iff_not]
   left;omega
theorem setCells_size (b:Nat):∀ (vs:List Value)(o:Nat)(w:World),(w.setCells b o vs).heap.size=w.heap.size
 | [],_,_=>rfl
 | _::vs,o,w=>by
  show (World.setCells _ b _ vs).heap.size=_
  rw [setCells_size b vs];simp
theorem setCells_grown (b:Nat):∀ (vs:List Value)(o:Nat)(w:World),w.grownBy (w.setCells b o vs) (some b)
 | [],_,w=>⟨rfl,rfl,rfl,Nat.le_refl _,fun _ _ _=>rfl⟩
 | v::vs,o,w=>by
  have h:=setCells_grown b vs (o+1) (w.setCell ⟨b,o,none⟩ v)
  exact ⟨h.os,h.tape,h.output,Nat.le_trans (by simp) h.size,fun k hk hr =>
   (h.block k (by simpa using hk) hr).trans (heap_setCell_other w _ k v (by intro e;exact hr (by rw [e])))⟩
end
section
variable {w:World}{B size n:Nat}{xs:List Value}{g off cap:Nat}
theorem Own.parts (h:Own w B size (.slice (some ⟨g,off,none⟩) n cap) n xs):B≤g∧g < w.heap.size∧n≤cap∧(∀ j u,xs[j]? = some u→w.cell? ⟨g,off+j,none⟩=some u) ∧
  ∀ j,j < cap*size→(w.cell? ⟨g,off+j,none⟩).isSome=true∧w.frozen? ⟨g,off+j,none⟩=false:=by
 rcases h.2.2 with ⟨h',_⟩ | ⟨g',off',cap',h',r⟩
 ·simp at h'
 ·simp only [Value.slice.injEq,Option.some.injEq,Addr.mk.injEq,and_true,true_and] at h'
  obtain ⟨⟨rfl,rfl⟩,rfl⟩:=h'
  exact r
theorem Own.stored (h:Own w B size (.slice (some ⟨g,off,none⟩) n cap) n xs)(j:Nat)(hj:j < n*size)(u:Value):Own (w.setCell ⟨g,off+j,none⟩ u) B size (.slice (some ⟨g,off,none⟩) n cap) n (xs.set j u):=by
 obtain ⟨h1,h2,h3,h4,h5⟩:=h.parts
 have hle:n*size≤cap*size:=Nat.mul_le_mul_right _ h3
 have hin:=World.cell?_setCells_in g [u] (off+j) w (fun i hi=>by
  obtain rfl:i=0:=by simpa using hi
  exact (h5 j (by omega)).1) 0 (by simp)
 have hin':(w.setCell ⟨g,off+j,none⟩ u).cell? ⟨g,off+j,none⟩=some u:=hin
 have hout:∀ i,i≠j→(w.setCell ⟨g,off+j,none⟩ u).cell? ⟨g,off+i,none⟩=w.cell? ⟨g,off+i,none⟩:=fun i hi =>
  World.cell?_setCells_out g [u] (off+j) w ⟨g,off+i,none⟩ (fun _ _=>by simp;omega)
 refine ⟨by rw [List.length_set];exact h.1,h.2.1,.inr ⟨g,off,cap,rfl,h1,by simpa using h2,h3,fun i x hx=>?_,fun i hi=>?_⟩⟩
 ·by_cases hij:i=j
  ·subst hij
   rw [hin']
   rw [List.getElem?_set,if_pos rfl] at hx
   split at hx
   ·exact hx
   ·simp at hx
  ·rw [hout i hij]
   rw [List.getElem?_set,if_neg (Ne.symm hij)] at hx
   exact h4 i x hx
 ·rw [World.frozen?_setCell]
  refine ⟨?_,(h5 i hi).2⟩
  by_cases hij:i=j
  ·subst hij;rw [hin'];rfl
  ·rw [hout i hij];exact (h5 i hi).1
end
section
variable {P:Program}{w:World}
theorem run_append_OwnA (t ty e:TypeId)(i:TypeInfo)(z:Value)(size bytes:Nat)(ht:P.underlying t=some (.slice e))(hi:P.info? e=some i)(hz:i.zero=some z)
  (hsize:i.size=size) (hby:i.bytes=bytes) (hzs:z.cells.size=size) (hsz:0 < size) {B:Nat} {v:Value} {n:Nat} {xs:List Value} (h:Own w B size v n xs)
  (a:Addr) (m c:Nat) (news:List Value) (hl:news.length=m*size) (hnews:∀ j u,news[j]? = some u→w.cell? (a.add j)=some u) (h1:∀ u∈news,u.oneCell'=true)
  (h63:n+m≤maxLen) (hbytes:(n+m)*bytes≤140737488355328) (hB:B≤w.heap.size) :
  ∃ v' w',(Builtin.append_ #[t,t] ty #[v,.slice (some a) m c]).run P w=.ok v' w'∧Own w' B size v' (n+m) (xs++news)∧w.grownBy w' v.ownBlock∧∀ k,v'.ownBlock=some k→v.ownBlock=some k∨w.heap.size≤k:=by
 obtain ⟨hx,_,h3⟩:=h
 rcases h3 with ⟨rfl,rfl⟩ | ⟨g,off,cap,rfl,hBg,hg,hn,hc,hr⟩
 ·have:xs=[]:=List.eq_nil_of_length_eq_zero (by simpa using hx)
  subst this
  obtain ⟨v',w',r1,r2,r3,_⟩:=run_append_own (P:=P) w w.heap.size t ty e i z size bytes ht hi hz hsize hby hzs hsz (.slice none 0 0) 0 [] (World.ownsRow_nil w w.heap.size e size) a m c news hl hnews h1 h63 hbytes (Nat.le_refl _)
  exact ⟨v',w',r1,.of_row r2 h63 hB,r3,fun k hk=>.inr (r2.lt k hk).1⟩
 ·by_cases hroom:n+m≤cap
  ·have hle:n*size+news.length≤cap*size:=by rw [hl,←Nat.add_mul];exact Nat.mul_le_mul_right _ hroom
   have hrun:=run_append_room_cells (P:=P) w t ty e i ht hi g off n cap a m c news (by rw [hl,hsize]) hnews h1 hroom
    (fun j hj=>by rw [hsize,Nat.add_assoc];exact (hr _ (by omega)).1) (fun j hj=>by rw [hsize,Nat.add_assoc];exact (hr _ (by omega)).2)
   rw [hsize] at hrun
   refine ⟨_,_,hrun,⟨by rw [List.length_append,hx,hl,Nat.add_mul],h63,.inr ⟨g,off,cap,rfl,hBg,by rw [setCells_size];exact hg,hroom,fun j u hu=>?_,fun j hj=>?_⟩⟩,setCells_grown g news _ w,fun k hk=>.inl hk⟩
   ·by_cases hj:j < n*size
    ·rw [List.getElem?_append_left (by omega)] at hu
     rw [World.cell?_setCells_out g news _ w ⟨g,off+j,none⟩ (fun _ _=>.inl (by simp;omega))]
     exact hc j u hu
    ·rw [List.getElem?_append_right (by omega)] at hu
     obtain ⟨k1,k2⟩:=List.getElem?_eq_some_iff.1 hu
     have:=World.cell?_setCells_in g news (off+n*size) w (fun j' hj'=>by rw [Nat.add_assoc];exact (hr _ (by omega)).1) (j-xs.length) k1
     rw [k2] at this
     rw [show off+j=off+n*size+(j-xs.length) by omega]
     exact this
   ·rw [World.frozen?_setCells]
    refine ⟨?_,(hr j hj).2⟩
    by_cases hj2:n*size≤j∧j < n*size+news.length
    ·have:=World.cell?_setCells_in g news (off+n*size) w (fun j' hj'=>by rw [Nat.add_assoc];exact (hr _ (by omega)).1) (j-n*size) (by omega)
     rw [show off+j=off+n*size+(j-n*size) by omega,this]
     rfl
    ·rw [World.cell?_setCells_out g news _ w ⟨g,off+j,none⟩ (fun _ _=>by simp only [];omega)]
     exact (hr j hj).1
  ·obtain ⟨v',w',r1,r2,r3⟩:=run_append_arg_grows (P:=P) w t ty e i z size bytes ht hi hz hsize hby hzs hsz ⟨g,off,none⟩ n cap xs hx (fun j u hj=>by rw [Addr.add_lit];exact hc j u hj) a m c news hl hnews (by omega) h63 hbytes
   exact ⟨v',w',r1,.of_row r2 h63 hB,⟨r3.os,r3.tape,r3.output,r3.size,fun k hk _=>r3.block k hk (by simp)⟩,fun k hk=>.inr (r2.lt k hk).1⟩
theorem run_append_Own (t ty e:TypeId)(i:TypeInfo)(z:Value)(size bytes:Nat)(ht:P.underlying t=some (.slice e))(hi:P.info? e=some i)(hz:i.zero=some z)
  (hsize:i.size=size) (hby:i.bytes=bytes) (hzs:z.cells.size=size) (hsz:0 < size) {B:Nat} {v:Value} {n:Nat} {xs:List Value} (h:Own w B size v n xs)
  (a:Addr) (m c:Nat) (news:List Value) (hl:news.length=m*size) (hnews:∀ j u,news[j]? = some u→w.cell? (a.add j)=some u) (h1:∀ u∈news,u.oneCell'=true)
  (h63:n+m≤maxLen) (hbytes:(n+m)*bytes≤140737488355328) (hB:B≤w.heap.size) :
  ∃ v' w',(Builtin.append_ #[t,t] ty #[v,.slice (some a) m c]).run P w=.ok v' w'∧Own w' B size v' (n+m) (xs++news)∧w.grownBy w' v.ownBlock:=by
 obtain ⟨v',w',r1,r2,r3,_⟩:=run_append_OwnA (P:=P) t ty e i z size bytes ht hi hz hsize hby hzs hsz h a m c news hl hnews h1 h63 hbytes hB
 exact ⟨v',w',r1,r2,r3⟩
theorem wpList_append_Own {ops:Array Oper}{rest:List Oper}{o:Oper}{a:Act}{Q:Exit→Act→World→Prop}(hgd:o.guard=none)(s x:Operand)(t:TypeId)
  (ho:o.op=.call { callee:=.builtin .append,args:=#[s,x],argTypes:=#[t,t] }) (e:TypeId) (i:TypeInfo) (z:Value) (size bytes:Nat) (ht:P.underlying t=some (.slice e)) (hi:P.info? e=some i)
  (hz:i.zero=some z) (hsize:i.size=size) (hby:i.bytes=bytes) (hzs:z.cells.size=size) (hsz:0 < size) {B:Nat} (v:Value) (n:Nat) (xs:List Value) (hs:a.eval s=v) (h:Own w B size v n xs)
  (ad:Addr) (m c:Nat) (news:List Value) (hx:a.eval x=.slice (some ad) m c) (hl:news.length=m*size) (hnews:∀ j u,news[j]? = some u→w.cell? (ad.add j)=some u) (h1:∀ u∈news,u.oneCell'=true)
  (h63:n+m≤maxLen) (hbytes:(n+m)*bytes≤140737488355328) (hB:B≤w.heap.size)
  (hK:∀ v' w',Own w' B size v' (n+m) (xs++news)→w.grownBy w' v.ownBlock→wpList P ops Q rest (a.put o.dst v') w'):wpList P ops Q (o::rest) a w:=by
 refine wpList_plain hgd fun K hK'=>?_
 obtain ⟨v',w',hrun,r1,r2⟩:=run_append_Own (P:=P) t o.type e i z size bytes ht hi hz hsize hby hzs hsz h ad m c news hl hnews h1 h63 hbytes hB
 unfold Oper.wp
 simp [execOp,ho,resolve,invoke,builtin,hs,hx,hrun,Result.andThen]
 exact hK' _ _ (hK v' w' r1 r2)
theorem Own.grown {B size n:Nat}{v:Value}{xs:List Value}{w0 w':World}(h:Own w B size v n xs)(hb:Below B w0 w)(hB:B≤w.heap.size)(hg:w.grownBy w' v.ownBlock):Below B w0 w' :=
 hb.grown hg hB fun k hk=>(h.lt k hk).1
end
end Go.Proofs.YtjbpbfhgjldliaaGreat
