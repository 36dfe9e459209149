/- The contract of the answer's Same of layer 4: are these the same texts? -/
import Derived.Test.YtjbpbfhgjldliaaGreatGBase
import Derived.Test.YtjbpbfhgjldliaaGreatGVaryRead
import Derived.Lib.QuietBelow
import Derived.Lib.AppendStr
import Derived.Deep.RegionHeld3
namespace Go.Proofs.YtjbpbfhgjldliaaGreat
open Go Go.RowKit
theorem one_new (w:World)(x:Value)(T:TypeId):∀ (j:Nat)(u:Value),[x][j]? = some u→(w.alloc (.cells #[x] T)).cell? ((⟨w.heap.size,0,none⟩:Addr).add j)=some u:=by
 intro j u hu
 cases j with
 | zero=>simp only [List.getElem?_cons_zero,Option.some.injEq] at hu;subst hu;simp [Addr.add]
 | succ j=>simp at hu
theorem one_str (x:ByteArray):∀ u∈[Value.string x],u.oneCell'=true:=by
 intro u hu;rw [List.mem_singleton] at hu;subst hu;rfl
theorem below_alloc {B:Nat}{a w:World}(h:Below B a w)(hB:B≤w.heap.size)(o:Obj):Below B a (w.alloc o)∧B≤(w.alloc o).heap.size:=⟨h.alloc hB o,by simp;omega⟩
theorem boxed_below {w w':World}{o:Obj}(hg:(w.alloc o).grownBy w' (some w.heap.size)):Below w.heap.size w w' :=
 (Below.alloc (.refl _ w) (Nat.le_refl _) o).grown hg (by simp) (fun k hk=>by cases hk;exact Nat.le_refl _)
theorem TapeIn.new {T:TypeId}{w w':World}{b:Nat}{s:ByteArray}{bad:Bool}(h:TapeIn T w b s bad)(k:w.grownBy w' none):TapeIn T w' b s bad:=by
 unfold TapeIn;rw [k.block b h.lt (by simp)];exact h
def mkB (l:List UInt8):ByteArray:=⟨l.toArray⟩
theorem mkB_data (l:List UInt8):(mkB l).data.toList=l:=rfl
theorem str_ne_cases (a b:ByteArray):(a=b∧(a.toList==b.toList)=true∧(a.toList != b.toList)=false)∨(a≠b∧(a.toList==b.toList)=false∧(a.toList != b.toList)=true):=by
 by_cases h:a=b
 ·left;subst h;simp
 ·right
  have hn:¬a.toList=b.toList:=fun e=>h (bytes_ext (by rwa [ByteArray.toList_eq,ByteArray.toList_eq] at e))
  exact ⟨h,by simpa using hn,by simpa using hn⟩
def Suf (r s:ByteArray):Prop:=∃ k,k≤s.size∧r=s.extract k s.size
theorem Suf.refl (s:ByteArray):Suf s s:=⟨0,Nat.zero_le _,bytes_ext (by rw [data_extract,List.drop_zero,List.take_of_length_le (by rw [data_size];omega)])⟩
theorem Suf.data {r s:ByteArray}(h:Suf r s):∃ k,k≤s.size∧r.data.toList=s.data.toList.drop k:=by
 obtain ⟨k,hk,rfl⟩:=h
 refine ⟨k,hk,?_⟩
 rw [data_extract,List.take_of_length_le (by rw [List.length_drop,data_size];exact Nat.le_refl _)]
theorem Suf.of {r s:ByteArray}{k:Nat}(hk:k≤s.size)(h:r.data.toList=s.data.toList.drop k):Suf r s :=
 ⟨k,hk,bytes_ext (by rw [h,data_extract,List.take_of_length_le (by rw [List.length_drop,data_size];exact Nat.le_refl _)])⟩
theorem Suf.trans {a b c:ByteArray}(h:Suf a b)(k:Suf b c):Suf a c:=by
 obtain ⟨i,hi,e1⟩:=h.data
 obtain ⟨j,hj,e2⟩:=k.data
 have hb:b.size=c.size-j:=by rw [←data_size b,e2,List.length_drop,data_size]
 exact Suf.of (k:=j+i) (by omega) (by rw [e1,e2,List.drop_drop])
theorem Suf.split {r s:ByteArray}(h:Suf r s):s.data.toList=(s.extract 0 (s.size-r.size)).data.toList++r.data.toList∧r.size≤s.size:=by
 obtain ⟨k,hk,e⟩:=h.data
 have hr:r.size=s.size-k:=by rw [←data_size r,e,List.length_drop,data_size]
 rw [data_extract,e,hr]
 simp only [List.drop_zero,Nat.sub_zero]
 rw [show s.size-(s.size-k)=k by omega,List.take_append_drop]
 exact ⟨rfl,by omega⟩
def GivesStrs (P:Program)(f:FuncId)(args:Array Value)(w:World)(l:List ByteArray):Prop:=Calls P f args w fun e w'=>∃ v,e=.returned v∧StrsIn w' v l∧Below w.heap.size w w'
theorem GivesStrs.stepB {P:Program}{f:FuncId}{args:Array Value}{w:World}{l:List ByteArray}(h:GivesStrs P f args w l){B:Nat}{w0:World}(hb:Below B w0 w)(hB:B≤w.heap.size)
  {R:Ending→World→Prop} (k:∀ v w',StrsIn w' v l→Below B w0 w'→B≤w'.heap.size→Below w.heap.size w w'→R (.returned v) w'):Calls P f args w R :=
 Calls.mono h fun _ _ ⟨_,he,hi,hw⟩=>he▸k _ _ hi (hb.trans (hw.mono hB)) (Nat.le_trans hB hw.size) hw
def TakesStrs (P:Program)(T:TypeId)(f:FuncId)(more:List Value)(b:Nat)(s:ByteArray)(l:List ByteArray)(s':ByteArray):Prop :=
 ∀ w:World,TapeIn T w b s false→Calls P f (Value.pointer (some ⟨b,0,none⟩)::more).toArray w fun e w'=>∃ v,e=.returned v∧StrsIn w' v l∧Fresh w.heap.size v∧TapeIn T w' b s' false∧w.grownBy w' (some b)
theorem TakesStrs.stepB {P:Program}{T:TypeId}{f:FuncId}{more:List Value}{b:Nat}{s s':ByteArray}{l:List ByteArray}(h:TakesStrs P T f more b s l s')
  {w0 w:World} {B:Nat} (hT:TapeIn T w b s false) (hb:Below B w0 w) (hB:B≤w.heap.size) (hr:B≤b) {R:Ending→World→Prop}
  (k:∀ v w',StrsIn w' v l→Fresh w.heap.size v→TapeIn T w' b s' false→Below B w0 w'→B≤w'.heap.size→w.grownBy w' (some b)→R (.returned v) w') :
  Calls P f (Value.pointer (some ⟨b,0,none⟩)::more).toArray w R :=
 (h w hT).mono fun _ _ ⟨_,he,hi,hf,hT',hw⟩=>he▸k _ _ hi hf hT' (hb.grown hw hB (fun k hk=>by cases hk;exact hr)) (Nat.le_trans hB hw.size) hw
def TakesNone (P:Program)(T:TypeId)(f:FuncId)(more:List Value)(b:Nat)(s:ByteArray)(bad:Bool)(v:Value):Prop :=
 ∀ w:World,TapeIn T w b s bad→Calls P f (Value.pointer (some ⟨b,0,none⟩)::more).toArray w fun e w'=>∃ s',e=.returned v∧TapeIn T w' b s' true∧w.grownBy w' (some b)
theorem StrsIn.len {w:World}{v:Value}{l:List ByteArray}(h:StrsIn w v l):l.length≤maxLen:=h.2.1
theorem StrsIn.kept {w w':World}{v:Value}{l:List ByteArray}(h:StrsIn w v l)(hb:Below w.heap.size w w'):StrsIn w' v l:=SliceOf.later h hb
theorem BoolsIn.len {w:World}{v:Value}{l:List Bool}(h:BoolsIn w v l):l.length≤maxLen:=h.2.1
theorem BoolsIn.kept {w w':World}{v:Value}{l:List Bool}(h:BoolsIn w v l)(hb:Below w.heap.size w w'):BoolsIn w' v l:=SliceOf.later h hb
theorem one_parts {α:Type}{f:α→Value}{w:World}{v:Value}{l:List α}(h:SliceOf w 1 v l.length (l.map f)):(l=[]∧∃ A cap,v=.slice A 0 cap) ∨
  (0 < l.length∧∃ b off cap,v=.slice (some ⟨b,off,none⟩) l.length cap∧b < w.heap.size∧∀ j (hj:j < l.length),w.cell? ⟨b,off+j,none⟩=some (f l[j])):=by
 obtain ⟨A,cap,e,hk⟩:=one_at h
 cases l with
 | nil=>exact .inl ⟨rfl,A,cap,e⟩
 | cons x l =>
  obtain ⟨b,off,ea,hb,hc⟩:=hk 0 (by simp)
  subst ea
  exact .inr ⟨by simp,b,off,cap,e,hb,hc⟩
theorem StrsIn.parts {w:World}{v:Value}{l:List ByteArray}(h:StrsIn w v l):(l=[]∧∃ A cap,v=.slice A 0 cap) ∨
  (0 < l.length∧∃ b off cap,v=.slice (some ⟨b,off,none⟩) l.length cap∧b < w.heap.size∧∀ j (hj:j < l.length),w.cell? ⟨b,off+j,none⟩=some (.string l[j])):=one_parts h
theorem BoolsIn.parts {w:World}{v:Value}{l:List Bool}(h:BoolsIn w v l):(l=[]∧∃ A cap,v=.slice A 0 cap) ∨
  (0 < l.length∧∃ b off cap,v=.slice (some ⟨b,off,none⟩) l.length cap∧b < w.heap.size∧∀ j (hj:j < l.length),w.cell? ⟨b,off+j,none⟩=some (.bool l[j])):=one_parts h
theorem lit_ones {α:Type}(f:α→Value)(w:World)(T:TypeId)(l:List α)(h:l.length≤1000):SliceOf (w.alloc (.cells (l.map f).toArray T)) 1 (.slice (some ⟨w.heap.size,0,none⟩) l.length l.length) l.length (l.map f):=by
 have:=(Own.lit (B:=0) (size:=1) w (l.map f).toArray T l.length (Nat.zero_le _) (by unfold maxLen;omega) (by simp)).slice
 exact this
theorem Own.some_ {w:World}{B size n:Nat}{v:Value}{xs:List Value}(h:Own w B size v n xs)(h0:0 < n):∃ g off cap,v=.slice (some ⟨g,off,none⟩) n cap:=by
 rcases h.2.2 with ⟨_,hn⟩ | ⟨g,off,cap,hv,_⟩
 ·omega
 ·exact ⟨g,off,cap,hv⟩
theorem cell_kept {w w':World}{a:Addr}{v:Value}(h:w.cell? a=some v)(hb:Below w.heap.size w w'):w'.cell? a=some v:=(hb.cell (block_lt_of_cell h)).trans h
theorem lit_strs (w:World)(T:TypeId)(l:List ByteArray)(h:l.length≤1000):StrsIn (w.alloc (.cells (l.map Value.string).toArray T)) (.slice (some ⟨w.heap.size,0,none⟩) l.length l.length) l:=lit_ones Value.string w T l h
theorem one_texts (l:List ByteArray):∀ u∈l.map Value.string,u.oneCell'=true:=by
 intro u hu
 obtain ⟨x,_,rfl⟩:=List.mem_map.1 hu
 rfl
theorem strs_of {w:World}{B n:Nat}{v:Value}{l:List ByteArray}(h:Own w B 1 v n (l.map Value.string))(hn:n=l.length):StrsIn w v l:=by
 subst hn;exact h.slice
theorem fresh_at {B g n c:Nat}(h:B≤g):Fresh B (.slice (some ⟨g,0,none⟩) n c):=fun k hk=>by
 simp only [Value.ownBlock,Option.some.injEq] at hk
 omega
def ReadsStrs (P:Program)(T:TypeId)(f:FuncId)(more:List Value)(b:Nat)(s:ByteArray)(l:List ByteArray)(r:ByteArray)(bad:Bool):Prop :=
 ∀ w:World,TapeIn T w b s false→Calls P f (Value.pointer (some ⟨b,0,none⟩)::more).toArray w fun e w'=>∃ v s',e=.returned v∧StrsIn w' v l∧Fresh w.heap.size v∧TapeIn T w' b s' bad∧w.grownBy w' (some b)∧(bad=false→s'=r)
theorem TakesStrs.reads {P:Program}{T:TypeId}{f:FuncId}{more:List Value}{b:Nat}{s s':ByteArray}{l:List ByteArray}(h:TakesStrs P T f more b s l s'):ReadsStrs P T f more b s l s' false :=
 fun w hT=>(h w hT).mono fun _ _ ⟨v,he,hi,hf,hT',hg⟩=>⟨v,s',he,hi,hf,hT',hg,fun _=>rfl⟩
theorem Takes.reads {P:Program}{T:TypeId}{f:FuncId}{more:List Value}{b:Nat}{s s' r:ByteArray}(h:Takes P T f more b s false (.slice none 0 0) s' true):ReadsStrs P T f more b s [] r true :=
 fun w hT=>(h w hT).mono fun _ _ ⟨he,hT',hg⟩=>⟨_,s',he,SliceOf.nil_ _ _ _ _,fresh_nil _,hT',hg,fun h=>absurd h (by decide)⟩
theorem TakesNone.reads {P:Program}{T:TypeId}{f:FuncId}{more:List Value}{b:Nat}{s r:ByteArray}(h:TakesNone P T f more b s false (.slice none 0 0)):ReadsStrs P T f more b s [] r true :=
 fun w hT=>(h w hT).mono fun _ _ ⟨s',he,hT',hg⟩=>⟨_,s',he,SliceOf.nil_ _ _ _ _,fresh_nil _,hT',hg,fun h=>absurd h (by decide)⟩
section
variable {w:World}{B n:Nat}{xs:List Value}{g off cap:Nat}
theorem Own.room (h:Own w B 1 (.slice (some ⟨g,off,none⟩) n cap) n xs)(news:List Value)(hroom:n+news.length≤cap)(hm:n+news.length≤maxLen) :
  Own (w.setCells g (off+n) news) B 1 (.slice (some ⟨g,off,none⟩) (n+news.length) cap) (n+news.length) (xs++news):=by
 obtain ⟨hBg,hg,_,hc,hr⟩:=h.parts
 have hx:xs.length=n:=by simpa using h.1
 refine ⟨by rw [List.length_append,hx,Nat.mul_one],hm,.inr ⟨g,off,cap,rfl,hBg,by rw [setCells_size];exact hg,hroom,fun j u hu=>?_,fun j hj=>?_⟩⟩
 ·by_cases hj:j < n
  ·rw [List.getElem?_append_left (by omega)] at hu
   rw [World.cell?_setCells_out g news _ w ⟨g,off+j,none⟩ (fun _ _=>.inl (by simp;omega))]
   exact hc j u hu
  ·rw [List.getElem?_append_right (by omega)] at hu
   obtain ⟨k1,k2⟩:=List.getElem?_eq_some_iff.1 hu
   have:=World.cell?_setCells_in g news (off+n) w (fun j' hj'=>by rw [Nat.add_assoc];exact (hr _ (by omega)).1) (j-xs.length) k1
   rw [k2] at this
   rw [show off+j=off+n+(j-xs.length) by omega]
   exact this
 ·rw [World.frozen?_setCells]
  refine ⟨?_,(hr j hj).2⟩
  by_cases hj2:n≤j∧j < n+news.length
  ·have:=World.cell?_setCells_in g news (off+n) w (fun j' hj'=>by rw [Nat.add_assoc];exact (hr _ (by omega)).1) (j-n) (by omega)
   rw [show off+j=off+n+(j-n) by omega,this]
   rfl
  ·rw [World.cell?_setCells_out g news _ w ⟨g,off+j,none⟩ (fun _ _=>by simp only [];omega)]
   exact (hr j hj).1
end
theorem own_aside {w w':World}{B b size n:Nat}{v:Value}{xs:List Value}(h:Own w B size v n xs)(hb:b < B)(hg:w.grownBy w' (some b)):Own w' B size v n xs :=
 h.other hg fun k hk e=>by have:=(h.lt k hk).1;cases e;omega
theorem fill_at {α:Type}(xs zs:List α)(k:Nat)(h:k < xs.length)(hz:zs.length=xs.length):(xs.take k++zs.drop k)[k]? = zs[k]? := by
 rw [List.getElem?_append_right (by rw [List.length_take];omega),List.length_take,Nat.min_eq_left (by omega),Nat.sub_self,List.getElem?_drop,Nat.add_zero]
theorem fill_next {α:Type}(xs zs:List α)(k:Nat)(h:k < xs.length)(hz:zs.length=xs.length):(xs.take k++zs.drop k).set k xs[k]=xs.take (k+1)++zs.drop (k+1):=by
 rw [List.set_append,if_neg (by rw [List.length_take];omega),List.length_take,Nat.min_eq_left (by omega),Nat.sub_self,take_add xs k h,List.append_assoc]
 congr 1
 rw [List.drop_eq_getElem_cons (by omega:k < zs.length)]
 rfl
theorem Own.fillCell {w:World}{B g n:Nat}{xs zs:List Value}{k:Nat}(h:Own w B 1 (.slice (some ⟨g,0,none⟩) n n) n (xs.take k++zs.drop k))(hx:xs.length=n)(hz:zs.length=n)(hk:k < n) :
  w.cell? ⟨g,k,none⟩=some (zs[k]'(by omega))∧w.frozen? ⟨g,k,none⟩=false:=by
 obtain ⟨_,_,_,hc,hr⟩:=h.parts
 have h1:=hc k _ (by rw [fill_at xs zs k (by omega) (by omega),List.getElem?_eq_getElem (by omega)])
 have h2:=(hr k (by omega)).2
 rw [Nat.zero_add] at h1 h2
 exact ⟨h1,h2⟩
theorem Own.filled {w:World}{B g n:Nat}{xs zs:List Value}{k:Nat}(h:Own w B 1 (.slice (some ⟨g,0,none⟩) n n) n (xs.take k++zs.drop k))(hx:xs.length=n)(hz:zs.length=n)(hk:k < n){u:Value}(hu:xs[k]? = some u) :
  Own (w.setCell ⟨g,k,none⟩ u) B 1 (.slice (some ⟨g,0,none⟩) n n) n (xs.take (k+1)++zs.drop (k+1)):=by
 have h1:=h.stored k (by omega) u
 obtain ⟨hk',rfl⟩:=List.getElem?_eq_some_iff.1 hu
 rw [fill_next xs zs k (by omega) (by omega),Nat.zero_add] at h1
 exact h1
theorem Own.full {w:World}{B size g n c:Nat}{xs zs:List Value}(h:Own w B size (.slice (some ⟨g,0,none⟩) n c) n (xs.take n++zs.drop n))(hx:xs.length=n)(hz:zs.length=n):Own w B size (.slice (some ⟨g,0,none⟩) n c) n xs:=by
 rwa [List.take_of_length_le (by omega),List.drop_of_length_le (by omega),List.append_nil] at h
theorem own_empty {w:World}{B g:Nat}(size:Nat)(hB:B≤g)(hg:g < w.heap.size):Own w B size (.slice (some ⟨g,0,none⟩) 0 0) 0 [] :=
 ⟨by simp,Nat.zero_le _,.inr ⟨g,0,0,rfl,hB,hg,Nat.le_refl _,fun j u hu=>by simp at hu,fun j hj=>by omega⟩⟩
section
variable {P:Program}{w:World}
theorem run_append_src (t ty e:TypeId)(i:TypeInfo)(z:Value)(size bytes:Nat)(ht:P.underlying t=some (.slice e))(hi:P.info? e=some i)(hz:i.zero=some z)
  (hsize:i.size=size) (hby:i.bytes=bytes) (hzs:z.cells.size=size) (hsz:0 < size) {B:Nat} {v:Value} {n:Nat} {xs:List Value} (h:Own w B size v n xs)
  {sv:Value} {m:Nat} {news:List Value} (hs:SliceOf w size sv m news) (h1:∀ u∈news,u.oneCell'=true)
  (h63:n+m≤maxLen) (hbytes:(n+m)*bytes≤140737488355328) (hB:B≤w.heap.size) :
  ∃ v' w',(Builtin.append_ #[t,t] ty #[v,sv]).run P w=.ok v' w'∧Own w' B size v' (n+m) (xs++news)∧w.grownBy w' v.ownBlock∧∀ k,v'.ownBlock=some k→v.ownBlock=some k∨w.heap.size≤k:=by
 obtain ⟨A,c,rfl,hat⟩:=hs.at_
 cases A with
 | none =>
  have hm:m=0:=by
   rcases Nat.eq_zero_or_pos m with h0|h0
   ·exact h0
   ·obtain ⟨b,off,e1,_⟩:=hat h0;cases e1
  subst hm
  have hn:news=[]:=List.eq_nil_of_length_eq_zero (by rw [hs.1];simp)
  subst hn
  refine ⟨v,w,?_,by simpa using h,⟨rfl,rfl,rfl,Nat.le_refl _,fun _ _ _=>rfl⟩,fun k hk=>.inl hk⟩
  obtain ⟨_,_,h3⟩:=h
  rcases h3 with ⟨rfl,rfl⟩ | ⟨g,off,cap,rfl,_,_,hnc,_⟩
  ·simp [Builtin.append_,run_underlying ht,sizeOf,typeInfo,hi,Builtin.lenOf,Builtin.firstCells]
  ·simp [Builtin.append_,run_underlying ht,sizeOf,typeInfo,hi,Builtin.lenOf,Builtin.firstCells,hnc,storeCells]
 | some a =>
  by_cases h0:0 < m
  ·obtain ⟨b,off,e1,_,hc⟩:=hat h0
   cases e1
   exact run_append_OwnA t ty e i z size bytes ht hi hz hsize hby hzs hsz h ⟨b,off,none⟩ m c news hs.1 (fun j u hj=>by rw [Addr.add_lit];exact hc j u hj) h1 h63 hbytes hB
  ·obtain rfl:m=0:=by omega
   have hn:news=[]:=List.eq_nil_of_length_eq_zero (by rw [hs.1];simp)
   subst hn
   exact run_append_OwnA t ty e i z size bytes ht hi hz hsize hby hzs hsz h a 0 c [] (by simp) (fun j u hj=>by simp at hj) h1 h63 hbytes hB
theorem wpList_append_src {ops:Array Oper}{rest:List Oper}{o:Oper}{a:Act}{Q:Exit→Act→World→Prop}(hgd:o.guard=none)(s x:Operand)(t:TypeId)
  (ho:o.op=.call { callee:=.builtin .append,args:=#[s,x],argTypes:=#[t,t] }) (e:TypeId) (i:TypeInfo) (z:Value) (size bytes:Nat) (ht:P.underlying t=some (.slice e)) (hi:P.info? e=some i)
  (hz:i.zero=some z) (hsize:i.size=size) (hby:i.bytes=bytes) (hzs:z.cells.size=size) (hsz:0 < size) {B:Nat} (v:Value) (n:Nat) (xs:List Value) (hv:a.eval s=v) (h:Own w B size v n xs)
  (sv:Value) (m:Nat) (news:List Value) (hx:a.eval x=sv) (hs:SliceOf w size sv m news) (h1:∀ u∈news,u.oneCell'=true)
  (h63:n+m≤maxLen) (hbytes:(n+m)*bytes≤140737488355328) (hB:B≤w.heap.size)
  (hK:∀ v' w',Own w' B size v' (n+m) (xs++news)→w.grownBy w' v.ownBlock→(∀ k,v'.ownBlock=some k→v.ownBlock=some k∨w.heap.size≤k)→wpList P ops Q rest (a.put o.dst v') w'):wpList P ops Q (o::rest) a w:=by
 refine wpList_plain hgd fun K hK'=>?_
 obtain ⟨v',w',hrun,r1,r2,r3⟩:=run_append_src (P:=P) t o.type e i z size bytes ht hi hz hsize hby hzs hsz h hs h1 h63 hbytes hB
 unfold Oper.wp
 simp [execOp,ho,resolve,invoke,builtin,hv,hx,hrun,Result.andThen]
 exact hK' _ _ (hK v' w' r1 r2 r3)
end
set_option maxHeartbeats 1000000 in
theorem same_strs {w:World}{va vb:Value}{a b:List ByteArray}(ha:StrsIn w va a)(hb:StrsIn w vb b)(hla:a.length≤1000000)(hlb:b.length≤1000000) :
  GivesAt Tryz.prog 27 #[va,vb] w (.bool (decide (a=b))):=by
 have hg:=(start w).1
 obtain ⟨A,ca,rfl,hata⟩:=one_at ha
 obtain ⟨B,cb,rfl,hatb⟩:=one_at hb
 have HA:=Lib.hid hata
 have HB:=Lib.hid hatb
 clear ha hb hata hatb
 unfold GivesAt
 by_cases hl:a.length=b.length
 ·have d1:((a.length:Int)==(b.length:Int))=true:=by rw [beq_iff_eq];omega
  have hle:b.length=a.length:=hl.symm
  have HL:=Lib.hid hl
  clear hl
  go_enter Tryz.func27,Tryz.ntmps27
  rw [hle] at d1 ⊢
  clear hle
  go_wp2
  go_loopw [5] (fun i wr=>∃ k:Nat,k≤a.length∧i=.int .i64 k∧Hid (a.take k=b.take k)∧Below w.heap.size w wr) (fun i _=>a.length-(intOf i).toNat)
  case atStart=>exact ⟨0,by omega,rfl,show a.take 0=b.take 0 from rfl,hg⟩
  case round =>
   clear hg
   obtain ⟨k,hk,rfl,HE,hg⟩:=hrel
   by_cases hlt:k < a.length
   ·obtain ⟨b1,o1,rfl,hl1,hc1⟩:=HA.out k hlt
    obtain ⟨b2,o2,rfl,hl2,hc2⟩:=HB.out k (by have:=HL.out;omega)
    have hx1:=(hg.cell (p:=⟨b1,o1+k,none⟩) hl1).trans (hc1 k hlt)
    have hx2:=(hg.cell (p:=⟨b2,o2+k,none⟩) hl2).trans (hc2 k (by have:=HL.out;omega))
    have hT1:=take_add a k hlt
    have hT2:=take_add b k (by have:=HL.out;omega)
    have hne:a[k]≠b[k]'(by have:=HL.out;omega)→¬a=b:=by intro h e;subst e;exact h rfl
    generalize a[k]=x at *
    generalize b[k]'(by have:=HL.out;omega)=y at *
    rcases str_ne_cases x y with ⟨he,g1,g2⟩ | ⟨he,g1,g2⟩
    ·have HN:Hid (a.take (k+1)=b.take (k+1)):=by show _=_;rw [hT1,hT2,HE.out,he]
     clear hT1 hT2 hne he hc1 hc2
     go_wp2
     go_quiet (fail)
     go_wp2
     go_roundw
     case rel=>exact ⟨k+1,by omega,by go_num,HN,below_drewN hg _⟩
     case measure=>simp [intOf];omega
    ·have HD:=Lib.hid (show decide (a=b)=false by rw [decide_eq_false_iff_not];exact hne he)
     clear hT1 hT2 hne he hc1 hc2
     go_wp2
     go_quiet (fail)
     go_wp2
     go_ret
     exact ⟨ret_bool HD.out.symm,below_drewN hg _⟩
   ·obtain rfl:k=a.length:=by omega
    have HD:Hid (decide (a=b)=true):=by
     show _=_
     rw [decide_eq_true_eq]
     have:=HE.out
     rwa [List.take_length,List.take_of_length_le (by have:=HL.out;omega)] at this
    go_wp2
    go_ret
    exact ⟨ret_bool HD.out.symm,hg⟩
 ·have d1:((a.length:Int)==(b.length:Int))=false:=by rw [beq_eq_false_iff_ne];omega
  have HD:=Lib.hid (show decide (a=b)=false by rw [decide_eq_false_iff_not];intro e;exact hl (by rw [e]))
  go_enter Tryz.func27,Tryz.ntmps27
  go_wp2
  go_ret
  exact ⟨ret_bool HD.out.symm,hg⟩
end Go.Proofs.YtjbpbfhgjldliaaGreat
