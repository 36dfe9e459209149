/- Slices that a call owns side by side; boxes of tapes; literals of texts: for laws of all layers; no program. -/
import Derived.Test.YtegpikfgajoopaaGBase
import Derived.Test.YtegpikfgajoopaaGVaryRead
import Derived.Lib.QuietBelow
import Derived.Lib.AppendStr
import Derived.Deep.RegionHeld3
namespace Go.Proofs.Ytegpikfgajoopaa
open Go Go.RowKit
theorem below_alloc {B:Nat}{a w:World}(h:Below B a w)(hB:B≤w.heap.size)(o:Obj):Below B a (w.alloc o)∧B≤(w.alloc o).heap.size:=⟨h.alloc hB o,by simp;omega⟩
theorem TapeIn.new {T:TypeId}{w w':World}{b:Nat}{s:ByteArray}{bad:Bool}(h:TapeIn T w b s bad)(k:w.grownBy w' none):TapeIn T w' b s bad:=by
 unfold TapeIn;rw [k.block b h.lt (by simp)];exact h
def mkB (l:List UInt8):ByteArray:=⟨l.toArray⟩
theorem mkB_data (l:List UInt8):(mkB l).data.toList=l:=rfl
theorem str_ne_cases (a b:ByteArray):(a=b∧(a.toList==b.toList)=true∧(a.toList != b.toList)=false)∨(a≠b∧(a.toList==b.toList)=false∧(a.toList != b.toList)=true):=by
 by_cases h:a=b
 ·left;subst h;simp
 ·right
  have hn:¬a.toList=b.toList:=fun e=>h (bytes_ext (by rwa [ByteArray.toList_eq,ByteArray.toList_eq] at e))
  exact ⟨h,by simpa using hn,by simpa using hn⟩
def Suf (r s:ByteArray):Prop:=∃ k,k≤s.size∧r=s.extract k s.size
theorem Suf.refl (s:ByteArray):Suf s s:=⟨0,Nat.zero_le _,bytes_ext (by rw [data_extract,List.drop_zero,List.take_of_length_le (by rw [data_size];omega)])⟩
theorem Suf.data {r s:ByteArray}(h:Suf r s):∃ k,k≤s.size∧r.data.toList=s.data.toList.drop k:=by
 obtain ⟨k,hk,rfl⟩:=h
 refine ⟨k,hk,?_⟩
 rw [data_extract,List.take_of_length_le (by rw [List.length_drop,data_size];exact Nat.le_refl _)]
theorem Suf.of {r s:ByteArray}{k:Nat}(hk:k≤s.size)(h:r.data.toList=s.data.toList.drop k):Suf r s :=
 ⟨k,hk,bytes_ext (by rw [h,data_extract,List.take_of_length_le (by rw [List.length_drop,data_size];exact Nat.le_refl _)])⟩
theorem Suf.trans {a b c:ByteArray}(h:Suf a b)(k:Suf b c):Suf a c:=by
 obtain ⟨i,hi,e1⟩:=h.data
 obtain ⟨j,hj,e2⟩:=k.data
 have hb:b.size=c.size-j:=by rw [←data_size b,e2,List.length_drop,data_size]
 exact Suf.of (k:=j+i) (by omega) (by rw [e1,e2,List.drop_drop])
theorem Suf.split {r s:ByteArray}(h:Suf r s):s.data.toList=(s.extract 0 (s.size-r.size)).data.toList++r.data.toList∧r.size≤s.size:=by
 obtain ⟨k,hk,e⟩:=h.data
 have hr:r.size=s.size-k:=by rw [←data_size r,e,List.length_drop,data_size]
 rw [data_extract,e,hr]
 simp only [List.drop_zero,Nat.sub_zero]
 rw [show s.size-(s.size-k)=k by omega,List.take_append_drop]
 exact ⟨rfl,by omega⟩
def GivesStrs (P:Program)(f:FuncId)(args:Array Value)(w:World)(l:List ByteArray):Prop:=Calls P f args w fun e w'=>∃ v,e=.returned v∧StrsIn w' v l∧Below w.heap.size w w'
theorem GivesStrs.stepB {P:Program}{f:FuncId}{args:Array Value}{w:World}{l:List ByteArray}(h:GivesStrs P f args w l){B:Nat}{w0:World}(hb:Below B w0 w)(hB:B≤w.heap.size)
  {R:Ending→World→Prop} (k:∀ v w',StrsIn w' v l→Below B w0 w'→B≤w'.heap.size→Below w.heap.size w w'→R (.returned v) w'):Calls P f args w R :=
 Calls.mono h fun _ _ ⟨_,he,hi,hw⟩=>he▸k _ _ hi (hb.trans (hw.mono hB)) (Nat.le_trans hB hw.size) hw
def TakesStrs (P:Program)(T:TypeId)(f:FuncId)(more:List Value)(b:Nat)(s:ByteArray)(l:List ByteArray)(s':ByteArray):Prop :=
 ∀ w:World,TapeIn T w b s false→Calls P f (Value.pointer (some ⟨b,0,none⟩)::more).toArray w fun e w'=>∃ v,e=.returned v∧StrsIn w' v l∧Fresh w.heap.size v∧TapeIn T w' b s' false∧w.grownBy w' (some b)
theorem TakesStrs.stepB {P:Program}{T:TypeId}{f:FuncId}{more:List Value}{b:Nat}{s s':ByteArray}{l:List ByteArray}(h:TakesStrs P T f more b s l s')
  {w0 w:World} {B:Nat} (hT:TapeIn T w b s false) (hb:Below B w0 w) (hB:B≤w.heap.size) (hr:B≤b) {R:Ending→World→Prop}
  (k:∀ v w',StrsIn w' v l→Fresh w.heap.size v→TapeIn T w' b s' false→Below B w0 w'→B≤w'.heap.size→w.grownBy w' (some b)→R (.returned v) w') :
  Calls P f (Value.pointer (some ⟨b,0,none⟩)::more).toArray w R :=
 (h w hT).mono fun _ _ ⟨_,he,hi,hf,hT',hw⟩=>he▸k _ _ hi hf hT' (hb.grown hw hB (fun k hk=>by cases hk;exact hr)) (Nat.le_trans hB hw.size) hw
def TakesNone (P:Program)(T:TypeId)(f:FuncId)(more:List Value)(b:Nat)(s:ByteArray)(bad:Bool)(v:Value):Prop :=
 ∀ w:World,TapeIn T w b s bad→Calls P f (Value.pointer (some ⟨b,0,none⟩)::more).toArray w fun e w'=>∃ s',e=.returned v∧TapeIn T w' b s' true∧w.grownBy w' (some b)
theorem StrsIn.len {w:World}{v:Value}{l:List ByteArray}(h:StrsIn w v l):l.length≤maxLen:=h.2.1
theorem StrsIn.kept {w w':World}{v:Value}{l:List ByteArray}(h:StrsIn w v l)(hb:Below w.heap.size w w'):StrsIn w' v l:=SliceOf.later h hb
theorem BoolsIn.len {w:World}{v:Value}{l:List Bool}(h:BoolsIn w v l):l.length≤maxLen:=h.2.1
theorem BoolsIn.kept {w w':World}{v:Value}{l:List Bool}(h:BoolsIn w v l)(hb:Below w.heap.size w w'):BoolsIn w' v l:=SliceOf.later h hb
theorem one_parts {α:Type}{f:α→Value}{w:World}{v:Value}{l:List α}(h:SliceOf w 1 v l.length (l.map f)):(l=[]∧∃ A cap,v=.slice A 0 cap) ∨
  (0 < l.length∧∃ b off cap,v=.slice (some ⟨b,off,none⟩) l.length cap∧b < w.heap.size∧∀ j (hj:j < l.length),w.cell? ⟨b,off+j,none⟩=some (f l[j])):=by
 obtain ⟨A,cap,e,hk⟩:=one_at h
 cases l with
 | nil=>exact .inl ⟨rfl,A,cap,e⟩
 | cons x l =>
  obtain ⟨b,off,ea,hb,hc⟩:=hk 0 (by simp)
  subst ea
  exact .inr ⟨by simp,b,off,cap,e,hb,hc⟩
theorem StrsIn.parts {w:World}{v:Value}{l:List ByteArray}(h:StrsIn w v l):(l=[]∧∃ A cap,v=.slice A 0 cap) ∨
  (0 < l.length∧∃ b off cap,v=.slice (some ⟨b,off,none⟩) l.length cap∧b < w.heap.size∧∀ j (hj:j < l.length),w.cell? ⟨b,off+j,none⟩=some (.string l[j])):=one_parts h
theorem BoolsIn.parts {w:World}{v:Value}{l:List Bool}(h:BoolsIn w v l):(l=[]∧∃ A cap,v=.slice A 0 cap) ∨
  (0 < l.length∧∃ b off cap,v=.slice (some ⟨b,off,none⟩) l.length cap∧b < w.heap.size∧∀ j (hj:j < l.length),w.cell? ⟨b,off+j,none⟩=some (.bool l[j])):=one_parts h
def ReadsStrs (P:Program)(T:TypeId)(f:FuncId)(more:List Value)(b:Nat)(s:ByteArray)(l:List ByteArray)(r:ByteArray)(bad:Bool):Prop :=
 ∀ w:World,TapeIn T w b s false→Calls P f (Value.pointer (some ⟨b,0,none⟩)::more).toArray w fun e w'=>∃ v s',e=.returned v∧StrsIn w' v l∧Fresh w.heap.size v∧TapeIn T w' b s' bad∧w.grownBy w' (some b)∧(bad=false→s'=r)
theorem TakesStrs.reads {P:Program}{T:TypeId}{f:FuncId}{more:List Value}{b:Nat}{s s':ByteArray}{l:List ByteArray}(h:TakesStrs P T f more b s l s'):ReadsStrs P T f more b s l s' false :=
 fun w hT=>(h w hT).mono fun _ _ ⟨v,he,hi,hf,hT',hg⟩=>⟨v,s',he,hi,hf,hT',hg,fun _=>rfl⟩
theorem Takes.reads {P:Program}{T:TypeId}{f:FuncId}{more:List Value}{b:Nat}{s s' r:ByteArray}(h:Takes P T f more b s false (.slice none 0 0) s' true):ReadsStrs P T f more b s [] r true :=
 fun w hT=>(h w hT).mono fun _ _ ⟨he,hT',hg⟩=>⟨_,s',he,SliceOf.nil_ _ _ _ _,fresh_nil _,hT',hg,fun h=>absurd h (by decide)⟩
theorem TakesNone.reads {P:Program}{T:TypeId}{f:FuncId}{more:List Value}{b:Nat}{s r:ByteArray}(h:TakesNone P T f more b s false (.slice none 0 0)):ReadsStrs P T f more b s [] r true :=
 fun w hT=>(h w hT).mono fun _ _ ⟨s',he,hT',hg⟩=>⟨_,s',he,SliceOf.nil_ _ _ _ _,fresh_nil _,hT',hg,fun h=>absurd h (by decide)⟩
section
variable {w:World}{B n:Nat}{xs:List Value}{g off cap:Nat}
theorem Own.room (h:Own w B 1 (.slice (some ⟨g,off,none⟩) n cap) n xs)(news:List Value)(hroom:n+news.length≤cap)(hm:n+news.length≤maxLen) :
  Own (w.setCells g (off+n) news) B 1 (.slice (some ⟨g,off,none⟩) (n+news.length) cap) (n+news.length) (xs++news):=by
 obtain ⟨hBg,hg,_,hc,hr⟩:=h.parts
 have hx:xs.length=n:=by simpa using h.1
 refine ⟨by rw [List.length_append,hx,Nat.mul_one],hm,.inr ⟨g,off,cap,rfl,hBg,by rw [setCells_size];exact hg,hroom,fun j u hu=>?_,fun j hj=>?_⟩⟩
 ·by_cases hj:j < n
  ·rw [List.getElem?_append_left (by omega)] at hu
   rw [World.cell?_setCells_out g news _ w ⟨g,off+j,none⟩ (fun _ _=>.inl (by simp;omega))]
   exact hc j u hu
  ·rw [List.getElem?_append_right (by omega)] at hu
   obtain ⟨k1,k2⟩:=List.getElem?_eq_some_iff.1 hu
   have:=World.cell?_setCells_in g news (off+n) w (fun j' hj'=>by rw [Nat.add_assoc];exact (hr _ (by omega)).1) (j-xs.length) k1
   rw [k2] at this
   rw [show off+j=off+n+(j-xs.length) by omega]
   exact this
 ·rw [World.frozen?_setCells]
  refine ⟨?_,(hr j hj).2⟩
  by_cases hj2:n≤j∧j < n+news.length
  ·have:=World.cell?_setCells_in g news (off+n) w (fun j' hj'=>by rw [Nat.add_assoc];exact (hr _ (by omega)).1) (j-n) (by omega)
   rw [show off+j=off+n+(j-n) by omega,this]
   rfl
  ·rw [World.cell?_setCells_out g news _ w ⟨g,off+j,none⟩ (fun _ _=>by simp only [];omega)]
   exact (hr j hj).1
end
theorem fill_next {α:Type}(xs zs:List α)(k:Nat)(h:k < xs.length)(hz:zs.length=xs.length):(xs.take k++zs.drop k).set k xs[k]=xs.take (k+1)++zs.drop (k+1):=by
 rw [List.set_append,if_neg (by rw [List.length_take];omega),List.length_take,Nat.min_eq_left (by omega),Nat.sub_self,take_add xs k h,List.append_assoc]
 congr 1
 rw [List.drop_eq_getElem_cons (by omega:k < zs.length)]
 rfl
theorem Own.filled {w:World}{B g n:Nat}{xs zs:List Value}{k:Nat}(h:Own w B 1 (.slice (some ⟨g,0,none⟩) n n) n (xs.take k++zs.drop k))(hx:xs.length=n)(hz:zs.length=n)(hk:k < n){u:Value}(hu:xs[k]? = some u) :
  Own (w.setCell ⟨g,k,none⟩ u) B 1 (.slice (some ⟨g,0,none⟩) n n) n (xs.take (k+1)++zs.drop (k+1)):=by
 have h1:=h.stored k (by omega) u
 obtain ⟨hk',rfl⟩:=List.getElem?_eq_some_iff.1 hu
 rw [fill_next xs zs k (by omega) (by omega),Nat.zero_add] at h1
 exact h1
theorem own_empty {w:World}{B g:Nat}(size:Nat)(hB:B≤g)(hg:g < w.heap.size):Own w B size (.slice (some ⟨g,0,none⟩) 0 0) 0 [] :=
 ⟨by simp,Nat.zero_le _,.inr ⟨g,0,0,rfl,hB,hg,Nat.le_refl _,fun j u hu=>by simp at hu,fun j hj=>by omega⟩⟩
end Go.Proofs.Ytegpikfgajoopaa
