/- Bytes that a call has appended from nothing on, one text behind the other: for layers 4, 6, 7; no program. -/
import Derived.Test.YtnkhkkdmjabhnaaGBase
import Derived.Test.YtnkhkkdmjabhnaaGVaryRead
import Derived.Lib.QuietBelow
import Derived.Lib.AppendStr
import Derived.Deep.RegionHeld3
namespace Go.Proofs.Ytnkhkkdmjabhnaa
open Go Go.RowKit
theorem boxed_below {w w':World}{o:Obj}(hg:(w.alloc o).grownBy w' (some w.heap.size)):Below w.heap.size w w' :=
 (Below.alloc (.refl _ w) (Nat.le_refl _) o).grown hg (by simp) (fun k hk=>by cases hk;exact Nat.le_refl _)
theorem TapeIn.new {T:TypeId}{w w':World}{b:Nat}{s:ByteArray}{bad:Bool}(h:TapeIn T w b s bad)(k:w.grownBy w' none):TapeIn T w' b s bad:=by
 unfold TapeIn;rw [k.block b h.lt (by simp)];exact h
theorem TapeIn.appended {T:TypeId}{w w':World}{b B size n:Nat}{s:ByteArray}{bad:Bool}{v:Value}{xs:List Value}(h:TapeIn T w b s bad)(hO:Own w B size v n xs)(hb:b < B)(hg:w.grownBy w' v.ownBlock):TapeIn T w' b s bad:=by
 unfold TapeIn
 rw [hg.block b h.lt (fun e=>by have:=(hO.lt b e.symm).1;omega)]
 exact h
def mkB (l:List UInt8):ByteArray:=⟨l.toArray⟩
theorem mkB_size (l:List UInt8):(mkB l).size=l.length:=List.size_toArray
theorem mkB_data (l:List UInt8):(mkB l).data.toList=l:=rfl
theorem mkB_of (s:ByteArray):mkB s.data.toList=s:=bytes_ext rfl
theorem mkB_append (a b:List UInt8):mkB a++mkB b=mkB (a++b):=bytes_ext (by rw [data_append];rfl)
theorem str_ne_cases (a b:ByteArray):(a=b∧(a.toList==b.toList)=true∧(a.toList != b.toList)=false)∨(a≠b∧(a.toList==b.toList)=false∧(a.toList != b.toList)=true):=by
 by_cases h:a=b
 ·left;subst h;simp
 ·right
  have hn:¬a.toList=b.toList:=fun e=>h (bytes_ext (by rwa [ByteArray.toList_eq,ByteArray.toList_eq] at e))
  exact ⟨h,by simpa using hn,by simpa using hn⟩
def Suf (r s:ByteArray):Prop:=∃ k,k≤s.size∧r=s.extract k s.size
theorem Suf.refl (s:ByteArray):Suf s s:=⟨0,Nat.zero_le _,bytes_ext (by rw [data_extract,List.drop_zero,List.take_of_length_le (by rw [data_size];omega)])⟩
theorem Suf.data {r s:ByteArray}(h:Suf r s):∃ k,k≤s.size∧r.data.toList=s.data.toList.drop k:=by
 obtain ⟨k,hk,rfl⟩:=h
 refine ⟨k,hk,?_⟩
 rw [data_extract,List.take_of_length_le (by rw [List.length_drop,data_size];exact Nat.le_refl _)]
theorem Suf.of {r s:ByteArray}{k:Nat}(hk:k≤s.size)(h:r.data.toList=s.data.toList.drop k):Suf r s :=
 ⟨k,hk,bytes_ext (by rw [h,data_extract,List.take_of_length_le (by rw [List.length_drop,data_size];exact Nat.le_refl _)])⟩
theorem Suf.trans {a b c:ByteArray}(h:Suf a b)(k:Suf b c):Suf a c:=by
 obtain ⟨i,hi,e1⟩:=h.data
 obtain ⟨j,hj,e2⟩:=k.data
 have hb:b.size=c.size-j:=by rw [←data_size b,e2,List.length_drop,data_size]
 exact Suf.of (k:=j+i) (by omega) (by rw [e1,e2,List.drop_drop])
theorem Suf.split {r s:ByteArray}(h:Suf r s):s.data.toList=(s.extract 0 (s.size-r.size)).data.toList++r.data.toList∧r.size≤s.size:=by
 obtain ⟨k,hk,e⟩:=h.data
 have hr:r.size=s.size-k:=by rw [←data_size r,e,List.length_drop,data_size]
 rw [data_extract,e,hr]
 simp only [List.drop_zero,Nat.sub_zero]
 rw [show s.size-(s.size-k)=k by omega,List.take_append_drop]
 exact ⟨rfl,by omega⟩
def GivesStrs (P:Program)(f:FuncId)(args:Array Value)(w:World)(l:List ByteArray):Prop:=Calls P f args w fun e w'=>∃ v,e=.returned v∧StrsIn w' v l∧Below w.heap.size w w'
theorem GivesStrs.stepB {P:Program}{f:FuncId}{args:Array Value}{w:World}{l:List ByteArray}(h:GivesStrs P f args w l){B:Nat}{w0:World}(hb:Below B w0 w)(hB:B≤w.heap.size)
  {R:Ending→World→Prop} (k:∀ v w',StrsIn w' v l→Below B w0 w'→B≤w'.heap.size→Below w.heap.size w w'→R (.returned v) w'):Calls P f args w R :=
 Calls.mono h fun _ _ ⟨_,he,hi,hw⟩=>he▸k _ _ hi (hb.trans (hw.mono hB)) (Nat.le_trans hB hw.size) hw
def TakesStrs (P:Program)(T:TypeId)(f:FuncId)(more:List Value)(b:Nat)(s:ByteArray)(l:List ByteArray)(s':ByteArray):Prop :=
 ∀ w:World,TapeIn T w b s false→Calls P f (Value.pointer (some ⟨b,0,none⟩)::more).toArray w fun e w'=>∃ v,e=.returned v∧StrsIn w' v l∧Fresh w.heap.size v∧TapeIn T w' b s' false∧w.grownBy w' (some b)
theorem TakesStrs.stepB {P:Program}{T:TypeId}{f:FuncId}{more:List Value}{b:Nat}{s s':ByteArray}{l:List ByteArray}(h:TakesStrs P T f more b s l s')
  {w0 w:World} {B:Nat} (hT:TapeIn T w b s false) (hb:Below B w0 w) (hB:B≤w.heap.size) (hr:B≤b) {R:Ending→World→Prop}
  (k:∀ v w',StrsIn w' v l→Fresh w.heap.size v→TapeIn T w' b s' false→Below B w0 w'→B≤w'.heap.size→w.grownBy w' (some b)→R (.returned v) w') :
  Calls P f (Value.pointer (some ⟨b,0,none⟩)::more).toArray w R :=
 (h w hT).mono fun _ _ ⟨_,he,hi,hf,hT',hw⟩=>he▸k _ _ hi hf hT' (hb.grown hw hB (fun k hk=>by cases hk;exact hr)) (Nat.le_trans hB hw.size) hw
def TakesNone (P:Program)(T:TypeId)(f:FuncId)(more:List Value)(b:Nat)(s:ByteArray)(bad:Bool)(v:Value):Prop :=
 ∀ w:World,TapeIn T w b s bad→Calls P f (Value.pointer (some ⟨b,0,none⟩)::more).toArray w fun e w'=>∃ s',e=.returned v∧TapeIn T w' b s' true∧w.grownBy w' (some b)
theorem StrsIn.len {w:World}{v:Value}{l:List ByteArray}(h:StrsIn w v l):l.length≤maxLen:=h.2.1
theorem StrsIn.kept {w w':World}{v:Value}{l:List ByteArray}(h:StrsIn w v l)(hb:Below w.heap.size w w'):StrsIn w' v l:=SliceOf.later h hb
theorem BoolsIn.len {w:World}{v:Value}{l:List Bool}(h:BoolsIn w v l):l.length≤maxLen:=h.2.1
theorem BoolsIn.kept {w w':World}{v:Value}{l:List Bool}(h:BoolsIn w v l)(hb:Below w.heap.size w w'):BoolsIn w' v l:=SliceOf.later h hb
theorem one_parts {α:Type}{f:α→Value}{w:World}{v:Value}{l:List α}(h:SliceOf w 1 v l.length (l.map f)):(l=[]∧∃ A cap,v=.slice A 0 cap) ∨
  (0 < l.length∧∃ b off cap,v=.slice (some ⟨b,off,none⟩) l.length cap∧b < w.heap.size∧∀ j (hj:j < l.length),w.cell? ⟨b,off+j,none⟩=some (f l[j])):=by
 obtain ⟨A,cap,e,hk⟩:=one_at h
 cases l with
 | nil=>exact .inl ⟨rfl,A,cap,e⟩
 | cons x l =>
  obtain ⟨b,off,ea,hb,hc⟩:=hk 0 (by simp)
  subst ea
  exact .inr ⟨by simp,b,off,cap,e,hb,hc⟩
theorem StrsIn.parts {w:World}{v:Value}{l:List ByteArray}(h:StrsIn w v l):(l=[]∧∃ A cap,v=.slice A 0 cap) ∨
  (0 < l.length∧∃ b off cap,v=.slice (some ⟨b,off,none⟩) l.length cap∧b < w.heap.size∧∀ j (hj:j < l.length),w.cell? ⟨b,off+j,none⟩=some (.string l[j])):=one_parts h
theorem BoolsIn.parts {w:World}{v:Value}{l:List Bool}(h:BoolsIn w v l):(l=[]∧∃ A cap,v=.slice A 0 cap) ∨
  (0 < l.length∧∃ b off cap,v=.slice (some ⟨b,off,none⟩) l.length cap∧b < w.heap.size∧∀ j (hj:j < l.length),w.cell? ⟨b,off+j,none⟩=some (.bool l[j])):=one_parts h
def bytesV (l:List UInt8):List Value:=l.map fun b=>Value.int .u8 b.toNat
def OwnB (w:World)(B:Nat)(v:Value)(l:List UInt8):Prop:=Own w B 1 v l.length (bytesV l)
theorem OwnB.snoc {w:World}{B:Nat}{v:Value}{l:List UInt8}{n:Nat}{x:Int}(h:Own w B 1 v n (bytesV l++[Value.int .u8 x]))(hx:0≤x)(hx2:x < 256)(hn:n=l.length+1):OwnB w B v (l++[UInt8.ofNat x.toNat]):=by
 unfold OwnB
 have e1:bytesV (l++[UInt8.ofNat x.toNat])=bytesV l++[Value.int .u8 x]:=by
  unfold bytesV
  rw [List.map_append]
  simp only [List.map_cons,List.map_nil]
  rw [toNat_ofNat (by omega)]
  congr 3
  omega
 rw [e1,List.length_append]
 subst hn
 exact h
theorem run_string_own {P:Program}{w:World}{B:Nat}{v:Value}{l:List UInt8}(h:OwnB w B v l)(src dst e:TypeId)(hs:P.underlying src=some (.slice e))(he:P.underlying e=some (.int .u8))(hd:P.underlying dst=some .string) :
  (convert src dst v).run P w=.ok (.string ⟨l.toArray⟩) w:=by
 rcases h.2.2 with ⟨rfl,h0⟩ | ⟨g,off,cap,rfl,_,_,_,hc,_⟩
 ·obtain rfl:l=[]:=List.eq_nil_of_length_eq_zero h0
  have:=run_convert_bytes_nil (P:=P) (w:=w) src e hs he 0 0 dst hd
  exact this
 ·exact run_convert_bytes_back w src dst e ⟨g,off,none⟩ cap l hs he hd (fun j hj=>by
   rw [Addr.add_lit]
   exact hc j _ (by unfold bytesV;rw [List.getElem?_map,List.getElem?_eq_getElem hj];rfl))
def ReadsStrs (P:Program)(T:TypeId)(f:FuncId)(more:List Value)(b:Nat)(s:ByteArray)(l:List ByteArray)(r:ByteArray)(bad:Bool):Prop :=
 ∀ w:World,TapeIn T w b s false→Calls P f (Value.pointer (some ⟨b,0,none⟩)::more).toArray w fun e w'=>∃ v s',e=.returned v∧StrsIn w' v l∧Fresh w.heap.size v∧TapeIn T w' b s' bad∧w.grownBy w' (some b)∧(bad=false→s'=r)
theorem TakesStrs.reads {P:Program}{T:TypeId}{f:FuncId}{more:List Value}{b:Nat}{s s':ByteArray}{l:List ByteArray}(h:TakesStrs P T f more b s l s'):ReadsStrs P T f more b s l s' false :=
 fun w hT=>(h w hT).mono fun _ _ ⟨v,he,hi,hf,hT',hg⟩=>⟨v,s',he,hi,hf,hT',hg,fun _=>rfl⟩
theorem Takes.reads {P:Program}{T:TypeId}{f:FuncId}{more:List Value}{b:Nat}{s s' r:ByteArray}(h:Takes P T f more b s false (.slice none 0 0) s' true):ReadsStrs P T f more b s [] r true :=
 fun w hT=>(h w hT).mono fun _ _ ⟨he,hT',hg⟩=>⟨_,s',he,SliceOf.nil_ _ _ _ _,fresh_nil _,hT',hg,fun h=>absurd h (by decide)⟩
theorem TakesNone.reads {P:Program}{T:TypeId}{f:FuncId}{more:List Value}{b:Nat}{s r:ByteArray}(h:TakesNone P T f more b s false (.slice none 0 0)):ReadsStrs P T f more b s [] r true :=
 fun w hT=>(h w hT).mono fun _ _ ⟨s',he,hT',hg⟩=>⟨_,s',he,SliceOf.nil_ _ _ _ _,fresh_nil _,hT',hg,fun h=>absurd h (by decide)⟩
section
variable {w:World}{B n:Nat}{xs:List Value}{g off cap:Nat}
theorem Own.room (h:Own w B 1 (.slice (some ⟨g,off,none⟩) n cap) n xs)(news:List Value)(hroom:n+news.length≤cap)(hm:n+news.length≤maxLen) :
  Own (w.setCells g (off+n) news) B 1 (.slice (some ⟨g,off,none⟩) (n+news.length) cap) (n+news.length) (xs++news):=by
 obtain ⟨hBg,hg,_,hc,hr⟩:=h.parts
 have hx:xs.length=n:=by simpa using h.1
 refine ⟨by rw [List.length_append,hx,Nat.mul_one],hm,.inr ⟨g,off,cap,rfl,hBg,by rw [setCells_size];exact hg,hroom,fun j u hu=>?_,fun j hj=>?_⟩⟩
 ·by_cases hj:j < n
  ·rw [List.getElem?_append_left (by omega)] at hu
   rw [World.cell?_setCells_out g news _ w ⟨g,off+j,none⟩ (fun _ _=>.inl (by simp;omega))]
   exact hc j u hu
  ·rw [List.getElem?_append_right (by omega)] at hu
   obtain ⟨k1,k2⟩:=List.getElem?_eq_some_iff.1 hu
   have:=World.cell?_setCells_in g news (off+n) w (fun j' hj'=>by rw [Nat.add_assoc];exact (hr _ (by omega)).1) (j-xs.length) k1
   rw [k2] at this
   rw [show off+j=off+n+(j-xs.length) by omega]
   exact this
 ·rw [World.frozen?_setCells]
  refine ⟨?_,(hr j hj).2⟩
  by_cases hj2:n≤j∧j < n+news.length
  ·have:=World.cell?_setCells_in g news (off+n) w (fun j' hj'=>by rw [Nat.add_assoc];exact (hr _ (by omega)).1) (j-n) (by omega)
   rw [show off+j=off+n+(j-n) by omega,this]
   rfl
  ·rw [World.cell?_setCells_out g news _ w ⟨g,off+j,none⟩ (fun _ _=>by simp only [];omega)]
   exact (hr j hj).1
end
theorem fill_next {α:Type}(xs zs:List α)(k:Nat)(h:k < xs.length)(hz:zs.length=xs.length):(xs.take k++zs.drop k).set k xs[k]=xs.take (k+1)++zs.drop (k+1):=by
 rw [List.set_append,if_neg (by rw [List.length_take];omega),List.length_take,Nat.min_eq_left (by omega),Nat.sub_self,take_add xs k h,List.append_assoc]
 congr 1
 rw [List.drop_eq_getElem_cons (by omega:k < zs.length)]
 rfl
theorem Own.filled {w:World}{B g n:Nat}{xs zs:List Value}{k:Nat}(h:Own w B 1 (.slice (some ⟨g,0,none⟩) n n) n (xs.take k++zs.drop k))(hx:xs.length=n)(hz:zs.length=n)(hk:k < n){u:Value}(hu:xs[k]? = some u) :
  Own (w.setCell ⟨g,k,none⟩ u) B 1 (.slice (some ⟨g,0,none⟩) n n) n (xs.take (k+1)++zs.drop (k+1)):=by
 have h1:=h.stored k (by omega) u
 obtain ⟨hk',rfl⟩:=List.getElem?_eq_some_iff.1 hu
 rw [fill_next xs zs k (by omega) (by omega),Nat.zero_add] at h1
 exact h1
section
variable {P:Program}{w:World}
theorem run_append_Own_string (t u ty e:TypeId)(i:TypeInfo)(ht:P.underlying t=some (.slice e))(hu:P.underlying u=some .string)(hi:P.info? e=some i)(hz:i.zero=some (.int .u8 0))
  (hsize:i.size=1) (hby:i.bytes=1) {B:Nat} {v:Value} {n:Nat} {xs:List Value} (h:Own w B 1 v n xs) (s:ByteArray)
  (h63:n+s.size≤maxLen) (hbytes:n+s.size≤140737488355328) (hB:B≤w.heap.size) :
  ∃ v' w',(Builtin.append_ #[t,u] ty #[v,.string s]).run P w=.ok v' w'∧Own w' B 1 v' (n+s.size) (xs++Lib.strCells s)∧w.grownBy w' v.ownBlock:=by
 obtain ⟨hx,hn0,h3⟩:=h
 have hsmall:n+s.size≤9223372036854775807:=by simp only [maxLen] at h63;omega
 rcases h3 with ⟨rfl,rfl⟩ | ⟨g,off,cap,rfl,hBg,hg,hn,hc,hr⟩
 ·have:xs=[]:=List.eq_nil_of_length_eq_zero (by simpa using hx)
  subst this
  obtain ⟨v',w',r1,r2,r3,_⟩:=Lib.run_append_own_string (P:=P) w w.heap.size t u ty e i ht hu hi hz hsize hby (.slice none 0 0) 0 [] (World.ownsRow_nil w w.heap.size e 1) s h63 hbytes (Nat.le_refl _)
  exact ⟨v',w',r1,.of_row r2 h63 hB,r3⟩
 ·have hl:(Lib.strCells s).length=s.size:=Lib.strCells_length s
  by_cases hroom:n+s.size≤cap
  ·have hst:=run_storeCells_cells (P:=P) g (off+n*1) (Lib.strCells s) 0 w (fun j hj=>by rw [Nat.mul_one,Nat.add_zero,Nat.add_assoc];exact (hr _ (by omega)).1) (fun j hj=>by rw [Nat.mul_one,Nat.add_zero,Nat.add_assoc];exact (hr _ (by omega)).2) (Lib.strCells_oneCell s)
   simp only [Nat.add_zero,Nat.mul_one] at hst
   have hf:=Lib.run_firstCells_string (P:=P) w 1 s
   have hrun:(Builtin.append_ #[t,u] ty #[.slice (some ⟨g,off,none⟩) n cap,.string s]).run P w=.ok (.slice (some ⟨g,off,none⟩) (n+s.size) cap) (w.setCells g (off+n) (Lib.strCells s)):=by
    simp [Builtin.append_,run_underlying ht,run_underlying hu,sizeOf,typeInfo,hi,hsize,Builtin.lenOf,hroom,hf,Addr.add_lit,hst]
   have hO:=Own.room (g:=g) (off:=off) (cap:=cap) ⟨hx,hn0,.inr ⟨g,off,cap,rfl,hBg,hg,hn,hc,hr⟩⟩ (Lib.strCells s) (by omega) (by omega)
   rw [hl] at hO
   exact ⟨_,_,hrun,hO,setCells_grown g _ _ w⟩
  ·have hrun:=Lib.run_append_grow_string (P:=P) w t u ty e i (.int .u8 0) ht hu hi hz ⟨g,off,none⟩ n cap xs (by rw [hsize];exact hx) (fun j v hj=>by rw [Addr.add_lit];exact hc j v hj) s (by omega) (by omega) (by rw [hby];exact growslice_fits (by omega) (by omega))
   have hge:=grownCap_ge w (n+s.size) cap e
   have hcm:grownCap w (n+s.size) cap e≤maxLen:=grownCap_le_maxLen w (n+s.size) cap e h63
   have hlen:(xs++Lib.strCells s).length=(n+s.size)*1:=by rw [List.length_append,hl];omega
   refine ⟨_,_,hrun,Own.of_row (base:=w.heap.size) (e:=e) ⟨hlen,.inr ⟨w.heap.size,_,_,rfl,Nat.le_refl _,heap_alloc_new w.drew _,hge,hcm,?_,?_⟩⟩ h63 hB,⟨rfl,rfl,rfl,by simp,fun k hk _=>heap_alloc_old w.drew _ hk⟩⟩
   ·have hz1:(Value.int IntKind.u8 0).cells.size=1:=rfl
    simp only [Array.size_append,List.size_toArray,size_zeroCells,hz1,hl]
    omega
   ·simp only [Array.toList_append,List.append_assoc]
    rw [←List.append_assoc,←hlen]
    exact List.take_left
theorem wpList_append_Own_string {ops:Array Oper}{rest:List Oper}{o:Oper}{a:Act}{Q:Exit→Act→World→Prop}(hgd:o.guard=none)(sl x:Operand)(t u:TypeId)
  (ho:o.op=.call { callee:=.builtin .append,args:=#[sl,x],argTypes:=#[t,u] }) (e:TypeId) (i:TypeInfo) (ht:P.underlying t=some (.slice e)) (hu:P.underlying u=some .string) (hi:P.info? e=some i)
  (hz:i.zero=some (.int .u8 0)) (hsize:i.size=1) (hby:i.bytes=1) {B:Nat} (v:Value) (l:List UInt8) (hs:a.eval sl=v) (h:OwnB w B v l) (s:ByteArray) (hx:a.eval x=.string s)
  (h63:l.length+s.size≤140737488355328) (hB:B≤w.heap.size)
  (hK:∀ v' w',OwnB w' B v' (l++s.data.toList)→w.grownBy w' v.ownBlock→wpList P ops Q rest (a.put o.dst v') w'):wpList P ops Q (o::rest) a w:=by
 refine wpList_plain hgd fun K hK'=>?_
 obtain ⟨v',w',hrun,r1,r2⟩:=run_append_Own_string (P:=P) t u o.type e i ht hu hi hz hsize hby h s (by unfold maxLen;omega) h63 hB
 unfold Oper.wp execOp
 simp only [ho,resolve,invoke,builtin,Sem.run_bind,Sem.run_pure,Result.andThen_ok,List.map_toArray,List.map_cons,List.map_nil,hs,hx,hrun]
 refine hK' _ _ (hK v' w' ?_ r2)
 unfold OwnB
 rw [List.length_append,show s.data.toList.length=s.size from Array.length_toList,show bytesV (l++s.data.toList)=bytesV l++Lib.strCells s from List.map_append]
 exact r1
end
theorem own_empty {w:World}{B g:Nat}(size:Nat)(hB:B≤g)(hg:g < w.heap.size):Own w B size (.slice (some ⟨g,0,none⟩) 0 0) 0 [] :=
 ⟨by simp,Nat.zero_le _,.inr ⟨g,0,0,rfl,hB,hg,Nat.le_refl _,fun j u hu=>by simp at hu,fun j hj=>by omega⟩⟩
section
variable {P:Program}{w:World}
theorem run_append_src (t ty e:TypeId)(i:TypeInfo)(z:Value)(size bytes:Nat)(ht:P.underlying t=some (.slice e))(hi:P.info? e=some i)(hz:i.zero=some z)
  (hsize:i.size=size) (hby:i.bytes=bytes) (hzs:z.cells.size=size) (hsz:0 < size) {B:Nat} {v:Value} {n:Nat} {xs:List Value} (h:Own w B size v n xs)
  {sv:Value} {m:Nat} {news:List Value} (hs:SliceOf w size sv m news) (h1:∀ u∈news,u.oneCell'=true)
  (h63:n+m≤maxLen) (hbytes:(n+m)*bytes≤140737488355328) (hB:B≤w.heap.size) :
  ∃ v' w',(Builtin.append_ #[t,t] ty #[v,sv]).run P w=.ok v' w'∧Own w' B size v' (n+m) (xs++news)∧w.grownBy w' v.ownBlock∧∀ k,v'.ownBlock=some k→v.ownBlock=some k∨w.heap.size≤k:=by
 obtain ⟨A,c,rfl,hat⟩:=hs.at_
 cases A with
 | none =>
  have hm:m=0:=by
   rcases Nat.eq_zero_or_pos m with h0|h0
   ·exact h0
   ·obtain ⟨b,off,e1,_⟩:=hat h0;cases e1
  subst hm
  have hn:news=[]:=List.eq_nil_of_length_eq_zero (by rw [hs.1];simp)
  subst hn
  refine ⟨v,w,?_,by simpa using h,⟨rfl,rfl,rfl,Nat.le_refl _,fun _ _ _=>rfl⟩,fun k hk=>.inl hk⟩
  obtain ⟨_,_,h3⟩:=h
  rcases h3 with ⟨rfl,rfl⟩ | ⟨g,off,cap,rfl,_,_,hnc,_⟩
  ·simp [Builtin.append_,run_underlying ht,sizeOf,typeInfo,hi,Builtin.lenOf,Builtin.firstCells]
  ·simp [Builtin.append_,run_underlying ht,sizeOf,typeInfo,hi,Builtin.lenOf,Builtin.firstCells,hnc,storeCells]
 | some a =>
  by_cases h0:0 < m
  ·obtain ⟨b,off,e1,_,hc⟩:=hat h0
   cases e1
   exact run_append_OwnA t ty e i z size bytes ht hi hz hsize hby hzs hsz h ⟨b,off,none⟩ m c news hs.1 (fun j u hj=>by rw [Addr.add_lit];exact hc j u hj) h1 h63 hbytes hB
  ·obtain rfl:m=0:=by omega
   have hn:news=[]:=List.eq_nil_of_length_eq_zero (by rw [hs.1];simp)
   subst hn
   exact run_append_OwnA t ty e i z size bytes ht hi hz hsize hby hzs hsz h a 0 c [] (by simp) (fun j u hj=>by simp at hj) h1 h63 hbytes hB
theorem wpList_append_src {ops:Array Oper}{rest:List Oper}{o:Oper}{a:Act}{Q:Exit→Act→World→Prop}(hgd:o.guard=none)(s x:Operand)(t:TypeId)
  (ho:o.op=.call { callee:=.builtin .append,args:=#[s,x],argTypes:=#[t,t] }) (e:TypeId) (i:TypeInfo) (z:Value) (size bytes:Nat) (ht:P.underlying t=some (.slice e)) (hi:P.info? e=some i)
  (hz:i.zero=some z) (hsize:i.size=size) (hby:i.bytes=bytes) (hzs:z.cells.size=size) (hsz:0 < size) {B:Nat} (v:Value) (n:Nat) (xs:List Value) (hv:a.eval s=v) (h:Own w B size v n xs)
  (sv:Value) (m:Nat) (news:List Value) (hx:a.eval x=sv) (hs:SliceOf w size sv m news) (h1:∀ u∈news,u.oneCell'=true)
  (h63:n+m≤maxLen) (hbytes:(n+m)*bytes≤140737488355328) (hB:B≤w.heap.size)
  (hK:∀ v' w',Own w' B size v' (n+m) (xs++news)→w.grownBy w' v.ownBlock→(∀ k,v'.ownBlock=some k→v.ownBlock=some k∨w.heap.size≤k)→wpList P ops Q rest (a.put o.dst v') w'):wpList P ops Q (o::rest) a w:=by
 refine wpList_plain hgd fun K hK'=>?_
 obtain ⟨v',w',hrun,r1,r2,r3⟩:=run_append_src (P:=P) t o.type e i z size bytes ht hi hz hsize hby hzs hsz h hs h1 h63 hbytes hB
 unfold Oper.wp
 simp [execOp,ho,resolve,invoke,builtin,hv,hx,hrun,Result.andThen]
 exact hK' _ _ (hK v' w' r1 r2 r3)
end
def Aside (v u:Value):Prop:=∀ k,v.ownBlock=some k→u.ownBlock≠some k
theorem Try.infoB5:(Try.prog.info? 5).map (fun i=>(i.zero,i.size,i.bytes))=some (some (.int .u8 0),1,1):=by kernel_rfl
def RowB (w:World)(B:Nat)(e:TypeId)(v:Value)(l:List UInt8):Prop:=w.ownsRow B e 1 v l.length (bytesV l)
theorem RowB.step {w:World}{B n:Nat}{e:TypeId}{v:Value}{l m:List UInt8}{s:ByteArray}(h:w.ownsRow B e 1 v n (bytesV l++Lib.strCells s))(hm:m=l++s.data.toList)(hn:n=l.length+s.size):RowB w B e v m:=by
 unfold RowB
 subst hm;subst hn
 rw [List.length_append,data_size,show bytesV (l++s.data.toList)=bytesV l++Lib.strCells s from List.map_append]
 exact h
theorem RowB.own {w:World}{B:Nat}{e:TypeId}{v:Value}{l:List UInt8}(h:RowB w B e v l)(hl:l.length≤maxLen):OwnB w B v l:=Own.of_row h hl (Nat.le_refl _)
theorem RowB.later {w w':World}{B:Nat}{e:TypeId}{v:Value}{l:List UInt8}(h:RowB w B e v l)(hb:Below w.heap.size w w'):RowB w' B e v l :=
 World.ownsRow.kept (row:=none) h ⟨hb.os,hb.tape,hb.output,hb.size,fun k hk _=>hb.block k hk⟩ (by cases hv:v.ownBlock <;> simp)
end Go.Proofs.Ytnkhkkdmjabhnaa
