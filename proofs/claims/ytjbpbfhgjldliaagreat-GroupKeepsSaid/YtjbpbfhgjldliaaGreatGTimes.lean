/- The contract of the answer's Compare of layer 9. -/
import Derived.Test.YtjbpbfhgjldliaaGreatGStrs
import Derived.Test.YtjbpbfhgjldliaaGreatGCell
namespace Go.Proofs.YtjbpbfhgjldliaaGreat
open Go Go.RowKit
def cmpL:List ByteArray→List ByteArray→Int
 | [],[]=>0
 | [],_::_=>-1
 | _::_,[]=>1
 | a::x,b::y=>if a=b then cmpL x y else if ltB a b then -1 else 1
theorem cmpL_self:∀ a:List ByteArray,cmpL a a=0
 | []=>rfl
 | x::a=>by unfold cmpL;rw [if_pos rfl];exact cmpL_self a
theorem cmpL_front (x:ByteArray)(a b:List ByteArray):cmpL (x::a) (x::b)=cmpL a b:=by
 show (if x=x then cmpL a b else _)=_
 rw [if_pos rfl]
theorem cmpL_less (x y:ByteArray)(a b:List ByteArray)(h:ltB x y=true):cmpL (x::a) (y::b) = -1:=by
 show (if x=y then cmpL a b else if ltB x y then -1 else 1)=_
 rw [if_neg (ltB_ne h),if_pos h]
theorem cmpL_more (x y:ByteArray)(a b:List ByteArray)(h:ltB y x=true):cmpL (x::a) (y::b)=1:=by
 show (if x=y then cmpL a b else if ltB x y then -1 else 1)=_
 rw [if_neg (ltB_ne h).symm,if_neg (by rw [ltB_asym h];decide)]
theorem lt_three (x y:ByteArray):x=y∨ltB x y=true∨ltB y x=true:=by
 cases h:ltB x y with
 | true=>exact .inr (.inl rfl)
 | false =>
  cases k:ltB y x with
  | true=>exact .inr (.inr rfl)
  | false=>exact .inl (ltB_tri h k)
theorem cmpL_range:∀ a b:List ByteArray,-1≤cmpL a b∧cmpL a b≤1
 | [],[]=>by decide
 | [],_::_=>by show -1≤(-1:Int)∧(-1:Int)≤1;decide
 | _::_,[]=>by show -1≤(1:Int)∧(1:Int)≤1;decide
 | x::a,y::b=>by
  rcases lt_three x y with rfl|h|h
  ·rw [cmpL_front];exact cmpL_range a b
  ·rw [cmpL_less _ _ _ _ h];decide
  ·rw [cmpL_more _ _ _ _ h];decide
theorem cmpL_swap:∀ a b:List ByteArray,cmpL b a = - cmpL a b
 | [],[]=>rfl
 | [],_::_=>rfl
 | _::_,[]=>rfl
 | x::a,y::b=>by
  rcases lt_three x y with rfl|h|h
  ·rw [cmpL_front,cmpL_front];exact cmpL_swap a b
  ·rw [cmpL_less _ _ _ _ h,cmpL_more _ _ _ _ h];rfl
  ·rw [cmpL_less _ _ _ _ h,cmpL_more _ _ _ _ h]
theorem cmpL_zero:∀ a b:List ByteArray,cmpL a b=0↔a=b
 | [],[]=>by simp [cmpL]
 | [],_::_=>by simp [cmpL]
 | _::_,[]=>by simp [cmpL]
 | x::a,y::b=>by
  rcases lt_three x y with rfl|h|h
  ·rw [cmpL_front,cmpL_zero a b,List.cons.injEq];simp
  ·rw [cmpL_less _ _ _ _ h,List.cons.injEq]
   have:=ltB_ne h
   constructor
   ·intro h;exact absurd h (by decide)
   ·intro h;exact absurd h.1 this
  ·rw [cmpL_more _ _ _ _ h,List.cons.injEq]
   have:=(ltB_ne h).symm
   constructor
   ·intro h;exact absurd h (by decide)
   ·intro h;exact absurd h.1 this
theorem cmpL_chain:∀ a b c:List ByteArray,cmpL a b = -1→cmpL b c = -1→cmpL a c = -1
 | [],[],_,h,_=>absurd h (by decide)
 | _::_,[],_,h,_=>absurd h (by show ¬(1:Int) = -1;decide)
 | _,_::_,[],_,h=>absurd h (by show ¬(1:Int) = -1;decide)
 | [],_::_,_::_,_,_=>rfl
 | x::a,y::b,z::c,h,k=>by
  rcases lt_three x y with rfl|h1|h1
  ·rw [cmpL_front] at h
   rcases lt_three x z with rfl|k1|k1
   ·rw [cmpL_front] at k ⊢;exact cmpL_chain a b c h k
   ·exact cmpL_less _ _ _ _ k1
   ·rw [cmpL_more _ _ _ _ k1] at k;exact absurd k (by decide)
  ·rcases lt_three y z with rfl|k1|k1
   ·exact cmpL_less _ _ _ _ h1
   ·exact cmpL_less _ _ _ _ (ltB_trans h1 k1)
   ·rw [cmpL_more _ _ _ _ k1] at k;exact absurd k (by decide)
  ·rw [cmpL_more _ _ _ _ h1] at h;exact absurd h (by decide)
def pickOk (row:List ByteArray)(cols:List Int):Bool:=cols.all fun c=>decide (0≤c)&&decide (c < row.length)
def pickF (row:List ByteArray)(cols:List Int):List ByteArray:=cols.map fun c=>row.getD c.toNat ⟨#[]⟩
def pickL (row:List ByteArray)(cols:List Int):List ByteArray:=if pickOk row cols then pickF row cols else []
theorem pickF_length (row:List ByteArray)(cols:List Int):(pickF row cols).length=cols.length:=List.length_map _
theorem pickL_yes {row:List ByteArray}{cols:List Int}(h:pickOk row cols=true):pickL row cols=pickF row cols:=if_pos h
theorem pickL_no {row:List ByteArray}{cols:List Int}(h:pickOk row cols=false):pickL row cols=[]:=by unfold pickL;rw [h];rfl
theorem pickOk_of {row:List ByteArray}{cols:List Int}(h:∀ c∈cols,0≤c∧c < row.length):pickOk row cols=true:=by
 unfold pickOk
 rw [List.all_eq_true]
 intro c hc
 rw [decide_eq_true (h c hc).1,decide_eq_true (h c hc).2];rfl
theorem pickOk_not {row:List ByteArray}{cols:List Int}{c:Int}(hc:c∈cols)(h:¬(0≤c∧c < row.length)):pickOk row cols=false:=by
 cases hp:pickOk row cols with
 | false=>rfl
 | true =>
  unfold pickOk at hp
  rw [List.all_eq_true] at hp
  have:=hp c hc
  rw [Bool.and_eq_true,decide_eq_true_eq,decide_eq_true_eq] at this
  exact absurd this h
theorem pickF_get (row:List ByteArray)(cols:List Int)(k:Nat)(hk:k < cols.length)(j:Nat)(hj:j < row.length)(e:cols[k]=j):((pickF row cols).map Value.string)[k]? = some (.string row[j]):=by
 unfold pickF
 rw [List.getElem?_map,List.getElem?_map,List.getElem?_eq_getElem hk,e]
 simp only [Option.map_some,Int.toNat_natCast]
 rw [List.getD_eq_getElem?_getD,List.getElem?_eq_getElem hj];rfl
theorem pickF_snoc (row:List ByteArray)(cols:List Int)(k:Nat)(hk:k < cols.length)(j:Nat)(hj:j < row.length)(e:cols[k]=j):pickF row (cols.take (k+1))=pickF row (cols.take k)++[row[j]]:=by
 unfold pickF
 rw [List.take_add_one,List.getElem?_eq_getElem hk,List.map_append,e]
 simp only [Option.toList_some,List.map_cons,List.map_nil,Int.toNat_natCast]
 rw [List.getD_eq_getElem?_getD,List.getElem?_eq_getElem hj];rfl
abbrev Tm:=List ByteArray×Int
def timesV (tv:List (Value×Int)):List Value:=tv.flatMap fun t=>[t.1,.int .i64 t.2]
def timesA (t:Value×Int):Value:=.agg #[t.1,.int .i64 t.2]
def RowsOf (w:World):List (Value×Int)→List Tm→Prop
 | [],[]=>True
 | t::tv,x::l=>(StrsIn w t.1 x.1∧t.2=x.2)∧RowsOf w tv l
 | _,_=>False
def TimesIn (w:World)(v:Value)(l:List Tm):Prop:=∃ tv,SliceOf w 2 v l.length (timesV tv)∧RowsOf w tv l
theorem timesV_nil:timesV []=[]:=rfl
theorem timesV_cons (t:Value×Int)(tv:List (Value×Int)):timesV (t::tv)=t.1::.int .i64 t.2::timesV tv:=rfl
theorem timesV_append (a b:List (Value×Int)):timesV (a++b)=timesV a++timesV b:=List.flatMap_append
theorem timesV_length (tv:List (Value×Int)):(timesV tv).length=tv.length*2:=by
 induction tv with
 | nil=>rfl
 | cons t tv ih=>rw [timesV_cons,List.length_cons,List.length_cons,ih,List.length_cons];omega
theorem timesV_get:∀ (tv:List (Value×Int))(j:Nat)(h:j < tv.length),(timesV tv)[j*2]? = some tv[j].1∧(timesV tv)[j*2+1]? = some (.int .i64 tv[j].2)
 | [],j,h=>absurd h (by simp)
 | t::tv,0,_=>⟨rfl,rfl⟩
 | t::tv,j+1,h=>by
  have:=timesV_get tv j (by simpa using h)
  have e1:(j+1)*2=j*2+2:=by omega
  rw [e1]
  exact this
section
variable {w w':World}
theorem RowsOf.length:∀ {tv:List (Value×Int)}{l:List Tm},RowsOf w tv l→tv.length=l.length
 | [],[],_=>rfl
 | _::_,_::_,h=>by rw [List.length_cons,List.length_cons,RowsOf.length h.2]
 | [],_::_,h=>h.elim
 | _::_,[],h=>h.elim
theorem RowsOf.kept (hb:Below w.heap.size w w'):∀ {tv:List (Value×Int)}{l:List Tm},RowsOf w tv l→RowsOf w' tv l
 | [],[],_=>trivial
 | _::_,_::_,h=>⟨⟨StrsIn.kept h.1.1 hb,h.1.2⟩,RowsOf.kept hb h.2⟩
 | [],_::_,h=>h.elim
 | _::_,[],h=>h.elim
theorem RowsOf.append:∀ {a b:List (Value×Int)}{l m:List Tm},RowsOf w a l→RowsOf w b m→RowsOf w (a++b) (l++m)
 | [],_,[],_,_,h=>h
 | _::_,_,_::_,_,h,k=>⟨h.1,RowsOf.append h.2 k⟩
 | [],_,_::_,_,h,_=>h.elim
 | _::_,_,[],_,h,_=>h.elim
theorem RowsOf.take:∀ {a:List (Value×Int)}{l:List Tm}(k:Nat),RowsOf w a l→RowsOf w (a.take k) (l.take k)
 | [],[],k,_=>by rw [List.take_nil,List.take_nil];trivial
 | _::_,_::_,0,_=>trivial
 | _::_,_::_,k+1,h=>⟨h.1,RowsOf.take k h.2⟩
 | [],_::_,_,h=>h.elim
 | _::_,[],_,h=>h.elim
theorem RowsOf.drop:∀ {a:List (Value×Int)}{l:List Tm}(k:Nat),RowsOf w a l→RowsOf w (a.drop k) (l.drop k)
 | [],[],k,_=>by rw [List.drop_nil,List.drop_nil];trivial
 | _::_,_::_,0,h=>h
 | _::_,_::_,k+1,h=>RowsOf.drop k h.2
 | [],_::_,_,h=>h.elim
 | _::_,[],_,h=>h.elim
theorem RowsOf.get:∀ {a:List (Value×Int)}{l:List Tm},RowsOf w a l→∀ (k:Nat)(h1:k < a.length)(h2:k < l.length),StrsIn w a[k].1 l[k].1∧a[k].2=l[k].2
 | _::_,_::_,h,0,_,_=>h.1
 | _::_,_::_,h,k+1,h1,h2=>RowsOf.get h.2 k (by simpa using h1) (by simpa using h2)
 | [],_::_,h,_,_,_=>h.elim
 | _::_,[],h,_,_,_=>h.elim
theorem RowsOf.one {v:Value}{n:Int}{row:List ByteArray}(h:StrsIn w v row):RowsOf w [(v,n)] [(row,n)]:=⟨⟨h,rfl⟩,trivial⟩
theorem RowsOf.map (f:Int→Int):∀ {a:List (Value×Int)}{l:List Tm},RowsOf w a l→RowsOf w (a.map fun t=>(t.1,f t.2)) (l.map fun x=>(x.1,f x.2))
 | [],[],_=>trivial
 | _::_,_::_,h=>⟨⟨h.1.1,congrArg f h.1.2⟩,RowsOf.map f h.2⟩
 | [],_::_,h=>h.elim
 | _::_,[],h=>h.elim
theorem RowsOf.one_cell:∀ {a:List (Value×Int)}{l:List Tm},RowsOf w a l→∀ u∈timesV a,u.oneCell'=true
 | [],[],_,u,hu=>absurd hu (by simp [timesV])
 | t::_,_::_,h,u,hu=>by
  rw [timesV_cons] at hu
  rcases List.mem_cons.1 hu with rfl|hu
  ·obtain ⟨A,c,e,_⟩:=h.1.1.at_
   rw [e];rfl
  ·rcases List.mem_cons.1 hu with rfl|hu
   ·rfl
   ·exact RowsOf.one_cell h.2 u hu
 | [],_::_,h,_,_=>h.elim
 | _::_,[],h,_,_=>h.elim
theorem TimesIn.kept {v:Value}{l:List Tm}(h:TimesIn w v l)(hb:Below w.heap.size w w'):TimesIn w' v l:=by
 obtain ⟨tv,h1,h2⟩:=h
 exact ⟨tv,SliceOf.later h1 hb,h2.kept hb⟩
theorem TimesIn.len {v:Value}{l:List Tm}(h:TimesIn w v l):l.length≤maxLen:=by
 obtain ⟨tv,h1,_⟩:=h
 exact h1.2.1
theorem TimesIn.nil_ (w:World)(A:Option Addr)(cap:Nat):TimesIn w (.slice A 0 cap) []:=⟨[],SliceOf.nil_ _ _ _ _,trivial⟩
theorem times_at {v:Value}{l:List Tm}(h:TimesIn w v l):∃ tv A cap,v=.slice A l.length cap∧RowsOf w tv l ∧
  (∀ k,k < l.length→∃ b off,A=some ⟨b,off,none⟩∧b < w.heap.size∧∀ j (hj:j < l.length),∃ rv,StrsIn w rv l[j].1∧tv[j]? = some (rv,l[j].2)∧w.cell? ⟨b,off+j*2,none⟩=some rv∧w.cell? ⟨b,off+j*2+1,none⟩=some (.int .i64 l[j].2)):=by
 obtain ⟨tv,h1,h2⟩:=h
 obtain ⟨_,_,A,cap,e,_,h4⟩:=h1
 have hl:=h2.length
 refine ⟨tv,A,cap,e,h2,fun k hk=>?_⟩
 obtain ⟨b,off,ea,hb,hc⟩:=h4 (by omega)
 refine ⟨b,off,ea,hb,fun j hj=>?_⟩
 have hg:=h2.get j (by omega) hj
 have hv:=timesV_get tv j (by omega)
 refine ⟨tv[j].1,hg.1,?_,hc _ _ hv.1,?_⟩
 ·rw [List.getElem?_eq_getElem (by omega),←hg.2]
 ·rw [←hg.2];exact hc _ _ hv.2
theorem TimesIn.of {v:Value}{n:Nat}{tv:List (Value×Int)}{l:List Tm}(h:SliceOf w 2 v n (timesV tv))(hr:RowsOf w tv l)(hn:n=l.length):TimesIn w v l:=by
 subst hn;exact ⟨tv,h,hr⟩
theorem take_timesV:∀ (tv:List (Value×Int))(k:Nat),(timesV tv).take (k*2)=timesV (tv.take k)
 | [],k=>by rw [List.take_nil];exact List.take_nil
 | _::_,0=>rfl
 | t::tv,k+1=>by
  have e1:(k+1)*2=k*2+2:=by omega
  rw [e1]
  show t.1::Value.int .i64 t.2::(timesV tv).take (k*2)=t.1::.int .i64 t.2::timesV (tv.take k)
  rw [take_timesV tv k]
theorem drop_timesV:∀ (tv:List (Value×Int))(k:Nat),(timesV tv).drop (k*2)=timesV (tv.drop k)
 | [],k=>by rw [List.drop_nil];exact List.drop_nil
 | _::_,0=>rfl
 | t::tv,k+1=>by
  have e1:(k+1)*2=k*2+2:=by omega
  rw [e1]
  show (timesV tv).drop (k*2)=timesV (tv.drop k)
  rw [drop_timesV tv k]
end
theorem SliceOf.frontN {w:World}{size:Nat}{A:Option Addr}{n cap m:Nat}{xs:List Value}(h:SliceOf w size (.slice A n cap) n xs)(hm:m≤n):SliceOf w size (.slice A m cap) m (xs.take (m*size)):=by
 obtain ⟨h1,h2,A',cap',e,hr,h4⟩:=h
 cases e
 have hle:m*size≤n*size:=Nat.mul_le_mul_right _ hm
 refine ⟨by rw [List.length_take,h1];omega,by omega,A,cap,rfl,by omega,fun h0=>?_⟩
 obtain ⟨b,off,e1,hb,hc⟩:=h4 (by omega)
 refine ⟨b,off,e1,hb,fun j u hu=>hc j u ?_⟩
 rw [List.getElem?_take] at hu
 split at hu
 ·exact hu
 ·exact absurd hu (by simp)
theorem SliceOf.backN {w:World}{size:Nat}{b off n cap m:Nat}{xs:List Value}(h:SliceOf w size (.slice (some ⟨b,off,none⟩) n cap) n xs)(hm:m≤n){A:Option Addr}(hA:m < n→A=some ⟨b,off+m*size,none⟩) :
  SliceOf w size (.slice A (n-m) (cap-m)) (n-m) (xs.drop (m*size)):=by
 obtain ⟨h1,h2,A',cap',e,hr,h4⟩:=h
 cases e
 refine ⟨by rw [List.length_drop,h1,Nat.sub_mul],by omega,A,cap-m,rfl,by omega,fun h0=>?_⟩
 obtain ⟨b',off',e1,hb,hc⟩:=h4 (by omega)
 cases e1
 refine ⟨b,off+m*size,hA (by omega),hb,fun j u hu=>?_⟩
 rw [List.getElem?_drop] at hu
 rw [Nat.add_assoc]
 exact hc _ u hu
theorem lit_times (w:World)(T:TypeId)(tv:List (Value×Int))(l:List Tm)(hr:RowsOf w tv l)(h:l.length≤1000):TimesIn (w.alloc (.cells (timesV tv).toArray T)) (.slice (some ⟨w.heap.size,0,none⟩) l.length l.length) l:=by
 refine ⟨tv,(Own.lit (B:=0) (size:=2) w (timesV tv).toArray T l.length (Nat.zero_le _) (by unfold maxLen;omega) ?_).slice,hr.kept ((Below.refl _ w).alloc (Nat.le_refl _) _)⟩
 rw [List.size_toArray,timesV_length,hr.length]
def GivesTimes (P:Program)(f:FuncId)(args:Array Value)(w:World)(l:List Tm):Prop:=Calls P f args w fun e w'=>∃ v,e=.returned v∧TimesIn w' v l∧Below w.heap.size w w'
theorem GivesTimes.stepB {P:Program}{f:FuncId}{args:Array Value}{w:World}{l:List Tm}(h:GivesTimes P f args w l){B:Nat}{w0:World}(hb:Below B w0 w)(hB:B≤w.heap.size)
  {R:Ending→World→Prop} (k:∀ v w',TimesIn w' v l→Below B w0 w'→B≤w'.heap.size→Below w.heap.size w w'→R (.returned v) w'):Calls P f args w R :=
 Calls.mono h fun _ _ ⟨_,he,hi,hw⟩=>he▸k _ _ hi (hb.trans (hw.mono hB)) (Nat.le_trans hB hw.size) hw
def TimesQ (Q:Value→Prop)(w:World)(v:Value)(l:List Tm):Prop:=∃ tv,SliceOf w 2 v l.length (timesV tv)∧RowsOf w tv l∧∀ t∈tv,Q t.1
def GivesTimesQ (Q:Value→Prop)(P:Program)(f:FuncId)(args:Array Value)(w:World)(l:List Tm):Prop:=Calls P f args w fun e w'=>∃ v,e=.returned v∧TimesQ Q w' v l∧Below w.heap.size w w'
theorem TimesQ.times {Q:Value→Prop}{w:World}{v:Value}{l:List Tm}(h:TimesQ Q w v l):TimesIn w v l:=by
 obtain ⟨tv,h1,h2,_⟩:=h
 exact ⟨tv,h1,h2⟩
theorem TimesQ.kept {Q:Value→Prop}{w w':World}{v:Value}{l:List Tm}(h:TimesQ Q w v l)(hb:Below w.heap.size w w'):TimesQ Q w' v l:=by
 obtain ⟨tv,h1,h2,h3⟩:=h
 exact ⟨tv,SliceOf.later h1 hb,h2.kept hb,h3⟩
theorem TimesQ.nil_ (Q:Value→Prop)(w:World)(A:Option Addr)(cap:Nat):TimesQ Q w (.slice A 0 cap) []:=⟨[],SliceOf.nil_ _ _ _ _,trivial,fun _ h=>absurd h (by simp)⟩
theorem TimesQ.of {Q:Value→Prop}{w:World}{v:Value}{n:Nat}{tv:List (Value×Int)}{l:List Tm}(h:SliceOf w 2 v n (timesV tv))(hr:RowsOf w tv l)(hn:n=l.length)(hq:∀ t∈tv,Q t.1):TimesQ Q w v l:=by
 subst hn;exact ⟨tv,h,hr,hq⟩
theorem TimesIn.trueQ {w:World}{v:Value}{l:List Tm}(h:TimesIn w v l):TimesQ (fun _=>True) w v l:=by
 obtain ⟨tv,h1,h2⟩:=h
 exact ⟨tv,h1,h2,fun _ _=>trivial⟩
theorem GivesTimesQ.gives {Q:Value→Prop}{P:Program}{f:FuncId}{args:Array Value}{w:World}{l:List Tm}(h:GivesTimesQ Q P f args w l):GivesTimes P f args w l :=
 Calls.mono h fun _ _ ⟨v,he,ht,hb⟩=>⟨v,he,ht.times,hb⟩
theorem GivesTimesQ.stepB {Q:Value→Prop}{P:Program}{f:FuncId}{args:Array Value}{w:World}{l:List Tm}(h:GivesTimesQ Q P f args w l){B:Nat}{w0:World}(hb:Below B w0 w)(hB:B≤w.heap.size)
  {R:Ending→World→Prop} (k:∀ v w',TimesQ Q w' v l→Below B w0 w'→B≤w'.heap.size→Below w.heap.size w w'→R (.returned v) w'):Calls P f args w R :=
 Calls.mono h fun _ _ ⟨_,he,hi,hw⟩=>he▸k _ _ hi (hb.trans (hw.mono hB)) (Nat.le_trans hB hw.size) hw
theorem q_mid {Q:Value→Prop}{tv m:List (Value×Int)}(h:∀ t∈tv,Q t.1)(hm:∀ t∈m,Q t.1)(i j:Nat):∀ t∈tv.take i++m++tv.drop j,Q t.1:=fun t ht=>by
 rcases List.mem_append.1 ht with ht|ht
 ·rcases List.mem_append.1 ht with ht|ht
  ·exact h t (List.mem_of_mem_take ht)
  ·exact hm t ht
 ·exact h t (List.mem_of_mem_drop ht)
theorem q_end {Q:Value→Prop}{tv m:List (Value×Int)}(h:∀ t∈tv,Q t.1)(hm:∀ t∈m,Q t.1)(i:Nat):∀ t∈tv.take i++m,Q t.1:=fun t ht=>by
 rcases List.mem_append.1 ht with ht|ht
 ·exact h t (List.mem_of_mem_take ht)
 ·exact hm t ht
theorem q_one {Q:Value→Prop}{u:Value}{n:Int}(h:Q u):∀ t∈[(u,n)],Q t.1:=fun t ht=>by rw [List.mem_singleton.1 ht];exact h
theorem q_none {Q:Value→Prop}:∀ t∈([]:List (Value×Int)),Q t.1:=fun t ht=>absurd ht (by simp)
theorem q_set {Q:Value→Prop}{tv:List (Value×Int)}(h:∀ t∈tv,Q t.1)(j:Nat){u:Value}{n:Int}(hu:Q u):∀ t∈tv.set j (u,n),Q t.1:=fun t ht=>by
 rcases List.mem_or_eq_of_mem_set ht with ht|rfl
 ·exact h t ht
 ·exact hu
def cntW:List Tm→List ByteArray→Int
 | [],_=>0
 | t::l,r=>(if t.1=r then t.2 else 0)+cntW l r
def putW:List Tm→Tm→List Tm
 | [],x=>if x.2=0 then [] else [x]
 | t::l,x =>
  if cmpL t.1 x.1 = -1 then t::putW l x
  else if t.1=x.1 then (if x.2+t.2=0 then l else (x.1,x.2+t.2)::l)
  else (if x.2=0 then t::l else x::t::l)
def ofW (l:List Tm):List Tm:=l.foldl putW []
def sumW (a b:List Tm):List Tm:=b.foldl putW (ofW a)
def RightP (l:List Tm):Prop:=l.Pairwise (fun a b=>cmpL a.1 b.1 = -1)∧∀ t∈l,t.2≠0
def wtW:List Tm→Nat
 | []=>0
 | t::l=>t.2.natAbs+wtW l
theorem cmpL_ne {a b:List ByteArray}(h:cmpL a b = -1):a≠b:=by
 rintro rfl;rw [cmpL_self] at h;exact absurd h (by decide)
theorem cmpL_back {a b:List ByteArray}(h:¬cmpL a b = -1)(hn:a≠b):cmpL b a = -1:=by
 have h1:=cmpL_range a b
 have h2:=cmpL_zero a b
 have h3:=cmpL_swap a b
 have:cmpL a b≠0:=fun e=>hn (h2.1 e)
 omega
theorem cntW_append (a b:List Tm)(r:List ByteArray):cntW (a++b) r=cntW a r+cntW b r:=by
 induction a with
 | nil=>simp [cntW]
 | cons t a ih=>rw [List.cons_append];simp only [cntW];rw [ih];omega
theorem cntW_none {l:List Tm}{r:List ByteArray}(h:∀ t∈l,t.1≠r):cntW l r=0:=by
 induction l with
 | nil=>rfl
 | cons t l ih =>
  simp only [cntW]
  rw [if_neg (h t (List.mem_cons_self ..)),ih fun u hu=>h u (List.mem_cons_of_mem _ hu)];rfl
theorem cntW_put (l:List Tm)(x:Tm)(r:List ByteArray):cntW (putW l x) r=cntW l r+if x.1=r then x.2 else 0:=by
 induction l with
 | nil =>
  unfold putW
  split
  ·rename_i h
   simp only [cntW]
   split <;> omega
  ·simp only [cntW];omega
 | cons t l ih =>
  unfold putW
  split
  ·simp only [cntW];rw [ih];omega
  ·split
   ·rename_i h
    split
    ·simp only [cntW]
     rw [h]
     split <;> omega
    ·simp only [cntW]
     rw [h]
     split <;> omega
   ·split
    ·simp only [cntW]
     split <;> split <;> omega
    ·simp only [cntW];omega
theorem mem_put {l:List Tm}{x t:Tm}(h:t∈putW l x):t∈l∨t.1=x.1:=by
 induction l with
 | nil =>
  unfold putW at h
  split at h
  ·exact absurd h (by simp)
  ·rw [List.mem_singleton.1 h];exact .inr rfl
 | cons u l ih =>
  unfold putW at h
  split at h
  ·rcases List.mem_cons.1 h with rfl|h
   ·exact .inl (List.mem_cons_self ..)
   ·exact (ih h).imp (List.mem_cons_of_mem _) id
  ·split at h
   ·split at h
    ·exact .inl (List.mem_cons_of_mem _ h)
    ·rcases List.mem_cons.1 h with rfl|h
     ·exact .inr rfl
     ·exact .inl (List.mem_cons_of_mem _ h)
   ·split at h
    ·exact .inl h
    ·rcases List.mem_cons.1 h with rfl|h
     ·exact .inr rfl
     ·exact .inl h
theorem RightP.nil:RightP []:=⟨List.Pairwise.nil,fun t ht=>absurd ht (by simp)⟩
theorem RightP.cons_iff {t:Tm}{l:List Tm}:RightP (t::l)↔t.2≠0∧(∀ u∈l,cmpL t.1 u.1 = -1)∧RightP l:=by
 unfold RightP
 rw [List.pairwise_cons]
 constructor
 ·rintro ⟨⟨h1,h2⟩,h3⟩
  exact ⟨h3 t (List.mem_cons_self ..),h1,h2,fun u hu=>h3 u (List.mem_cons_of_mem _ hu)⟩
 ·rintro ⟨h1,h2,h3,h4⟩
  refine ⟨⟨h2,h3⟩,fun u hu=>?_⟩
  rcases List.mem_cons.1 hu with rfl|hu
  ·exact h1
  ·exact h4 u hu
theorem RightP.put {l:List Tm}(h:RightP l)(x:Tm):RightP (putW l x):=by
 induction l with
 | nil =>
  unfold putW
  split
  ·exact .nil
  ·rename_i hx;exact RightP.cons_iff.2 ⟨hx,fun u hu=>absurd hu (by simp),.nil⟩
 | cons t l ih =>
  obtain ⟨h1,h2,h3⟩:=RightP.cons_iff.1 h
  unfold putW
  split
  ·rename_i hc
   refine RightP.cons_iff.2 ⟨h1,fun u hu=>?_,ih h3⟩
   rcases mem_put hu with hu|hu
   ·exact h2 u hu
   ·rw [hu];exact hc
  ·rename_i hc
   split
   ·rename_i he
    split
    ·exact h3
    ·rename_i hz
     exact RightP.cons_iff.2 ⟨hz,fun u hu=>he▸h2 u hu,h3⟩
   ·rename_i hne
    split
    ·exact h
    ·rename_i hx
     have hb:=cmpL_back hc hne
     refine RightP.cons_iff.2 ⟨hx,fun u hu=>?_,h⟩
     rcases List.mem_cons.1 hu with rfl|hu
     ·exact hb
     ·exact cmpL_chain _ _ _ hb (h2 u hu)
theorem RightP.foldl {l m:List Tm}(h:RightP l):RightP (m.foldl putW l):=by
 induction m generalizing l with
 | nil=>exact h
 | cons x m ih=>exact ih (h.put x)
theorem cntW_foldl (l m:List Tm)(r:List ByteArray):cntW (m.foldl putW l) r=cntW l r+cntW m r:=by
 induction m generalizing l with
 | nil=>simp [cntW]
 | cons x m ih=>rw [List.foldl_cons,ih,cntW_put];simp only [cntW];omega
theorem of_right (l:List Tm):RightP (ofW l):=RightP.nil.foldl
theorem sum_right (a b:List Tm):RightP (sumW a b):=(of_right a).foldl
theorem cnt_of (l:List Tm)(r:List ByteArray):cntW (ofW l) r=cntW l r:=by unfold ofW;rw [cntW_foldl];simp [cntW]
theorem cnt_sum (a b:List Tm)(r:List ByteArray):cntW (sumW a b) r=cntW a r+cntW b r:=by unfold sumW;rw [cntW_foldl,cnt_of]
theorem cnt_mem {l:List Tm}(h:RightP l){t:Tm}(ht:t∈l):cntW l t.1=t.2:=by
 induction l with
 | nil=>exact absurd ht (by simp)
 | cons u l ih =>
  obtain ⟨_,h2,h3⟩:=RightP.cons_iff.1 h
  simp only [cntW]
  rcases List.mem_cons.1 ht with rfl|ht
  ·rw [if_pos rfl,cntW_none fun v hv=>(cmpL_ne (h2 v hv)).symm];omega
  ·rw [if_neg (cmpL_ne (h2 t ht)),ih h3 ht];omega
theorem cnt_not_mem {l:List Tm}{r:List ByteArray}(hc:cntW l r≠0):∃ t∈l,t.1=r:=by
 refine Classical.byContradiction fun hn=>hc (cntW_none fun t ht e=>hn ⟨t,ht,e⟩)
theorem right_ext:∀ {a b:List Tm},RightP a→RightP b→(∀ r,cntW a r=cntW b r)→a=b
 | [],[],_,_,_=>rfl
 | [],u::b,_,h,k=>by
  have h1:=cnt_mem h (List.mem_cons_self ..)
  rw [←k] at h1
  exact absurd h1.symm (RightP.cons_iff.1 h).1
 | t::a,[],h,_,k=>by
  have h1:=cnt_mem h (List.mem_cons_self ..)
  rw [k] at h1
  exact absurd h1.symm (RightP.cons_iff.1 h).1
 | t::a,u::b,h,g,k=>by
  obtain ⟨h1,h2,h3⟩:=RightP.cons_iff.1 h
  obtain ⟨g1,g2,g3⟩:=RightP.cons_iff.1 g
  have ht:=cnt_mem h (List.mem_cons_self ..)
  have hu:=cnt_mem g (List.mem_cons_self ..)
  have e1:t.1=u.1:=by
   obtain ⟨v,hv,e⟩:=cnt_not_mem (l:=u::b) (r:=t.1) (by rw [←k,ht];exact h1)
   obtain ⟨z,hz,e'⟩:=cnt_not_mem (l:=t::a) (r:=u.1) (by rw [k,hu];exact g1)
   rcases List.mem_cons.1 hv with rfl|hv
   ·exact e.symm
   ·rcases List.mem_cons.1 hz with rfl|hz
    ·exact e'
    ·have p:=g2 v hv
     have q:=h2 z hz
     rw [e] at p
     rw [e'] at q
     rw [cmpL_swap,q] at p
     exact absurd p (by decide)
  have e2:t.2=u.2:=by rw [←ht,←hu,k,e1]
  have et:t=u:=Prod.ext e1 e2
  subst et
  have hab:a=b:=right_ext h3 g3 fun r=>by
   have:=k r
   simp only [cntW] at this
   omega
  rw [hab]
theorem sum_nil (a:List Tm):sumW a []=ofW a:=rfl
theorem put_of (l:List Tm)(x:Tm):putW (ofW l) x=ofW (l++[x]):=by unfold ofW;rw [List.foldl_append];rfl
theorem sum_of_append (a b:List Tm):sumW a b=ofW (a++b):=by unfold sumW ofW;rw [List.foldl_append]
theorem mem_of {l:List Tm}{t:Tm}(h:t∈ofW l):∃ u∈l,u.1=t.1:=by
 have h1:=cnt_mem (of_right l) h
 rw [cnt_of] at h1
 exact cnt_not_mem (by rw [h1];exact (of_right l).2 t h)
theorem wtW_append (a b:List Tm):wtW (a++b)=wtW a+wtW b:=by
 induction a with
 | nil=>simp [wtW]
 | cons t a ih=>rw [List.cons_append];simp only [wtW];rw [ih];omega
theorem wtW_put (l:List Tm)(x:Tm):wtW (putW l x)≤wtW l+x.2.natAbs:=by
 induction l with
 | nil =>
  unfold putW
  split
  ·simp only [wtW];omega
  ·simp only [wtW];omega
 | cons t l ih =>
  unfold putW
  split
  ·simp only [wtW];omega
  ·split
   ·split
    ·simp only [wtW];omega
    ·simp only [wtW];omega
   ·split
    ·simp only [wtW];omega
    ·simp only [wtW];omega
theorem wtW_foldl (l m:List Tm):wtW (m.foldl putW l)≤wtW l+wtW m:=by
 induction m generalizing l with
 | nil=>simp [wtW]
 | cons x m ih=>rw [List.foldl_cons];have:=ih (putW l x);have:=wtW_put l x;simp only [wtW];omega
theorem wt_of (l:List Tm):wtW (ofW l)≤wtW l:=by have:=wtW_foldl [] l;simp only [wtW] at this;unfold ofW;omega
theorem wt_sum (a b:List Tm):wtW (sumW a b)≤wtW a+wtW b:=by have:=wtW_foldl (ofW a) b;have:=wt_of a;unfold sumW;omega
theorem cntW_le (l:List Tm)(r:List ByteArray):(cntW l r).natAbs≤wtW l:=by
 induction l with
 | nil=>simp [cntW,wtW]
 | cons t l ih=>simp only [cntW,wtW];split <;> omega
theorem wt_mem {l:List Tm}{t:Tm}(h:t∈l):t.2.natAbs≤wtW l:=by
 induction l with
 | nil=>exact absurd h (by simp)
 | cons u l ih =>
  simp only [wtW]
  rcases List.mem_cons.1 h with rfl|h
  ·omega
  ·have:=ih h;omega
theorem wt_each {l:List Tm}{n:Nat}(h:∀ t∈l,t.2.natAbs≤n):wtW l≤l.length*n:=by
 induction l with
 | nil=>simp [wtW]
 | cons t l ih =>
  have h1:=h t (List.mem_cons_self ..)
  have h2:=ih fun u hu=>h u (List.mem_cons_of_mem _ hu)
  simp only [wtW,List.length_cons,Nat.add_mul]
  omega
theorem put_length (l:List Tm)(x:Tm):(putW l x).length≤l.length+1:=by
 induction l with
 | nil=>unfold putW;split <;> simp
 | cons t l ih =>
  unfold putW
  split
  ·rw [List.length_cons,List.length_cons];omega
  ·split
   ·split
    ·simp only [List.length_cons];omega
    ·simp only [List.length_cons];omega
   ·split
    ·simp only [List.length_cons];omega
    ·simp only [List.length_cons];omega
theorem foldl_length (l m:List Tm):(m.foldl putW l).length≤l.length+m.length:=by
 induction m generalizing l with
 | nil=>simp
 | cons x m ih=>rw [List.foldl_cons];have:=ih (putW l x);have:=put_length l x;simp only [List.length_cons];omega
theorem of_length (l:List Tm):(ofW l).length≤l.length:=by have:=foldl_length [] l;simp only [List.length_nil] at this;unfold ofW;omega
theorem sum_length (a b:List Tm):(sumW a b).length≤a.length+b.length:=by have:=foldl_length (ofW a) b;have:=of_length a;unfold sumW;omega
theorem of_take (l:List Tm)(k:Nat)(h:k < l.length):ofW (l.take (k+1))=putW (ofW (l.take k)) l[k]:=by
 rw [take_add l k h,←put_of]
theorem sum_take (a l:List Tm)(k:Nat)(h:k < l.length):sumW a (l.take (k+1))=putW (sumW a (l.take k)) l[k]:=by
 rw [take_add l k h];unfold sumW;rw [List.foldl_append];rfl
theorem cntW_take (l:List Tm)(r:List ByteArray)(k:Nat)(h:k < l.length):cntW (l.take (k+1)) r=cntW (l.take k) r+if l[k].1=r then l[k].2 else 0:=by
 rw [take_add l k h,cntW_append];simp only [cntW];omega
def cmpB (a b:ByteArray):Int:=if a=b then 0 else if ltB a b then -1 else 1
theorem nan_calls (s:ByteArray)(w:World):Reads Tryz.prog 85 #[.string s] w (.bool false):=by
 have h:(s.toList != s.toList)=false:=by simp
 unfold Reads
 go_enter Tryz.func85,Tryz.ntmps85
 go_wp2
 go_ret
 exact ⟨rfl,rfl⟩
set_option maxHeartbeats 400000 in
theorem cmp_calls (a b:ByteArray)(w:World):Reads Tryz.prog 67 #[.string a,.string b] w (.int .i64 (cmpB a b)):=by
 unfold Reads
 rcases lt_three a b with rfl|h|h
 ·have h1:Op.bytesLess a.toList a.toList=false:=bl_irrefl _
  have h3:(a.toList==a.toList)=true:=by simp
  have HR:=Lib.hid (show cmpB a a=0 from if_pos rfl)
  go_enter Tryz.func67,Tryz.ntmps67
  go_wp2_with (go_at_call 85;refine (nan_calls _ _).step ?_)
  go_ret
  exact ⟨ret_int HR.out.symm,rfl⟩
 ·have h1:Op.bytesLess a.toList b.toList=true:=h
  have HR:=Lib.hid (show cmpB a b = -1 by unfold cmpB;rw [if_neg (ltB_ne h),if_pos h])
  go_enter Tryz.func67,Tryz.ntmps67
  go_wp2_with (go_at_call 85;refine (nan_calls _ _).step ?_)
  go_ret
  exact ⟨ret_int HR.out.symm,rfl⟩
 ·have h1:Op.bytesLess b.toList a.toList=true:=h
  have h2:Op.bytesLess a.toList b.toList=false:=ltB_asym h
  have h3:(a.toList==b.toList)=false:=by
   rcases str_ne_cases a b with ⟨he,_⟩ | ⟨_,h3,_⟩
   ·exact absurd he (ltB_ne h).symm
   ·exact h3
  have HR:=Lib.hid (show cmpB a b=1 by unfold cmpB;rw [if_neg (ltB_ne h).symm,if_neg (by rw [ltB_asym h];decide)])
  go_enter Tryz.func67,Tryz.ntmps67
  go_wp2_with (go_at_call 85;refine (nan_calls _ _).step ?_)
  go_ret
  exact ⟨ret_int HR.out.symm,rfl⟩
theorem drop_at {α:Type}(l:List α)(k:Nat)(h:k < l.length):l.drop k=l[k]::l.drop (k+1):=List.drop_eq_getElem_cons h
set_option maxHeartbeats 1000000 in
theorem slices_cmp_calls {w:World}{va vb:Value}{a b:List ByteArray}(ha:StrsIn w va a)(hb:StrsIn w vb b):Reads Tryz.prog 50 #[va,vb] w (.int .i64 (cmpL a b)):=by
 have hma:=ha.len
 have hmb:=hb.len
 unfold maxLen at hma hmb
 obtain ⟨A,ca,rfl,hata⟩:=one_at ha
 obtain ⟨B,cb,rfl,hatb⟩:=one_at hb
 have HA:=Lib.hid hata
 have HB:=Lib.hid hatb
 clear ha hb hata hatb
 unfold Reads
 go_enter Tryz.func50,Tryz.ntmps50
 go_wp2
 go_loop [11] (fun i=>∃ k:Nat,k≤a.length∧k≤b.length∧i=.int .i64 k∧Hid (cmpL a b=cmpL (a.drop k) (b.drop k))) (fun i=>a.length-(intOf i).toNat)
 case atStart=>exact ⟨0,Nat.zero_le _,Nat.zero_le _,rfl,rfl⟩
 case round =>
  obtain ⟨k,hka,hkb,rfl,HE⟩:=hrel
  by_cases hlt:k < a.length
  ·obtain ⟨b1,o1,rfl,hl1,hc1⟩:=HA.out k hlt
   have hx1:=hc1 k hlt
   by_cases hlb:k < b.length
   ·obtain ⟨b2,o2,rfl,hl2,hc2⟩:=HB.out k hlb
    have hx2:=hc2 k hlb
    have hE:=HE.out
    rw [drop_at a k hlt,drop_at b k hlb] at hE
    clear hc1 hc2 HE
    generalize a[k]=x at *
    generalize b[k]=y at *
    have HC:=Lib.hid (cmp_calls x y w)
    by_cases he:x=y
    ·have HN:=Lib.hid (show cmpL a b=cmpL (a.drop (k+1)) (b.drop (k+1)) by rw [hE,he,cmpL_front])
     have HC0:Hid (Reads Tryz.prog 67 #[.string x,.string y] w (.int .i64 0)):=by
      have:=HC.out;unfold cmpB at this;rw [if_pos he] at this;exact this
     clear hE HC he
     go_wp2_with (go_at_call 67;refine HC0.out.step ?_)
     go_round
     case rel=>exact ⟨k+1,by omega,by omega,by go_num,HN⟩
     case measure=>simp [intOf];omega
    ·obtain ⟨q,hq0,hq1,hq2⟩:∃ q,cmpB x y=q∧(q==0)=false∧cmpL a b=q:=by
      rw [hE]
      rcases lt_three x y with h|h|h
      ·exact absurd h he
      ·exact ⟨-1,by unfold cmpB;rw [if_neg he,if_pos h],rfl,cmpL_less _ _ _ _ h⟩
      ·exact ⟨1,by unfold cmpB;rw [if_neg he,if_neg (by rw [ltB_asym h];decide)],rfl,cmpL_more _ _ _ _ h⟩
     have HC1:Hid (Reads Tryz.prog 67 #[.string x,.string y] w (.int .i64 q)):=by
      have:=HC.out;rw [hq0] at this;exact this
     have HQ:=Lib.hid hq2
     clear hE HC he hq0 hq2
     go_wp2_with (go_at_call 67;refine HC1.out.step ?_)
     go_ret
     exact ⟨ret_int HQ.out.symm,rfl⟩
   ·obtain rfl:k=b.length:=by omega
    have HQ:Hid (cmpL a b=1):=by
     show _=_
     rw [HE.out,drop_at a _ hlt,List.drop_length];rfl
    clear hc1
    go_wp2
    go_ret
    exact ⟨ret_int HQ.out.symm,rfl⟩
  ·obtain rfl:k=a.length:=by omega
   have hE:=HE.out
   rw [List.drop_length] at hE
   by_cases hlb:a.length < b.length
   ·have HQ:Hid (cmpL a b = -1):=by
     show _=_
     rw [hE,drop_at b _ hlb];rfl
    clear hE
    go_wp2
    go_ret
    exact ⟨ret_int HQ.out.symm,rfl⟩
   ·have HQ:Hid (cmpL a b=0):=by
     show _=_
     rw [hE,List.drop_eq_nil_of_le (by omega)];rfl
    clear hE
    go_wp2
    go_ret
    exact ⟨ret_int HQ.out.symm,rfl⟩
set_option maxHeartbeats 400000 in
theorem compare_calls {w:World}{va vb:Value}{a b:List ByteArray}(ha:StrsIn w va a)(hb:StrsIn w vb b):Reads Tryz.prog 32 #[va,vb] w (.int .i64 (cmpL a b)):=by
 have h:=slices_cmp_calls ha hb
 obtain ⟨A,ca,rfl,_⟩:=one_at ha
 obtain ⟨B,cb,rfl,_⟩:=one_at hb
 clear ha hb
 unfold Reads
 go_enter Tryz.func32,Tryz.ntmps32
 go_wp2_with (go_at_call 50;refine h.step ?_)
 go_ret
 exact ⟨rfl,rfl⟩
set_option maxHeartbeats 1000000 in
theorem ref_compare_calls {w:World}{va vb:Value}{a b:List ByteArray}(ha:StrsIn w va a)(hb':StrsIn w vb b):GivesAt Tryz.prog 14 #[va,vb] w (.int .i64 (cmpL a b)):=by
 have hma:=ha.len
 have hmb:=hb'.len
 unfold maxLen at hma hmb
 have hg:=(start w).1
 obtain ⟨A,ca,rfl,hata⟩:=one_at ha
 obtain ⟨B,cb,rfl,hatb⟩:=one_at hb'
 have HA:=Lib.hid hata
 have HB:=Lib.hid hatb
 clear ha hb' hata hatb
 unfold GivesAt
 go_enter Tryz.func14,Tryz.ntmps14
 go_wp2
 go_loopw [5] (fun i wr=>∃ k:Nat,k≤a.length∧k≤b.length∧i=.int .i64 k∧Hid (cmpL a b=cmpL (a.drop k) (b.drop k))∧Below w.heap.size w wr) (fun i _=>a.length-(intOf i).toNat)
 case atStart=>exact ⟨0,Nat.zero_le _,Nat.zero_le _,rfl,rfl,hg⟩
 case round =>
  clear hg
  obtain ⟨k,hka,hkb,rfl,HE,hg⟩:=hrel
  by_cases hlt:k < a.length
  ·by_cases hlb:k < b.length
   ·obtain ⟨b1,o1,rfl,hl1,hc1⟩:=HA.out k hlt
    obtain ⟨b2,o2,rfl,hl2,hc2⟩:=HB.out k hlb
    have hx1:=(hg.cell (p:=⟨b1,o1+k,none⟩) hl1).trans (hc1 k hlt)
    have hx2:=(hg.cell (p:=⟨b2,o2+k,none⟩) hl2).trans (hc2 k hlb)
    have hE:=HE.out
    rw [drop_at a k hlt,drop_at b k hlb] at hE
    have d9:decide ((k:Int) < (b.length:Int))=true:=by rw [decide_eq_true_eq];omega
    clear hc1 hc2 HE
    generalize a[k]=x at *
    generalize b[k]=y at *
    rcases lt_three x y with he|h|h
    ·have HN:=Lib.hid (show cmpL a b=cmpL (a.drop (k+1)) (b.drop (k+1)) by rw [hE,he,cmpL_front])
     have g2:(x.toList != y.toList)=false:=by rw [he];simp
     have g3:(x.toList==y.toList)=true:=by rw [he];simp
     clear hE he
     go_wp2
     go_quiet (fail)
     go_wp2
     go_roundw
     case rel=>exact ⟨k+1,by omega,by omega,by go_num,HN,below_drewN hg _⟩
     case measure=>simp [intOf];omega
    ·have HQ:=Lib.hid (show cmpL a b = -1 by rw [hE];exact cmpL_less _ _ _ _ h)
     have g1:Op.bytesLess x.toList y.toList=true:=h
     obtain ⟨g2,g3⟩:(x.toList != y.toList)=true∧(x.toList==y.toList)=false:=by
      rcases str_ne_cases x y with ⟨he,_⟩ | ⟨_,h3,h2⟩
      ·exact absurd he (ltB_ne h)
      ·exact ⟨h2,h3⟩
     clear hE h
     go_wp2
     go_quiet (fail)
     go_wp2
     go_quiet (fail)
     go_wp2
     go_ret
     exact ⟨ret_int HQ.out.symm,below_drewN (below_drewN hg _) _⟩
    ·have HQ:=Lib.hid (show cmpL a b=1 by rw [hE];exact cmpL_more _ _ _ _ h)
     have g1:Op.bytesLess x.toList y.toList=false:=ltB_asym h
     obtain ⟨g2,g3⟩:(x.toList != y.toList)=true∧(x.toList==y.toList)=false:=by
      rcases str_ne_cases x y with ⟨he,_⟩ | ⟨_,h3,h2⟩
      ·exact absurd he (ltB_ne h).symm
      ·exact ⟨h2,h3⟩
     clear hE h
     go_wp2
     go_quiet (fail)
     go_wp2
     go_quiet (fail)
     go_wp2
     go_ret
     exact ⟨ret_int HQ.out.symm,below_drewN (below_drewN hg _) _⟩
   ·obtain rfl:k=b.length:=by omega
    have HQ:Hid (cmpL a b=1):=by
     show _=_
     rw [HE.out,drop_at a _ hlt,List.drop_length];rfl
    clear HE
    go_wp2
    go_ret
    exact ⟨ret_int HQ.out.symm,hg⟩
  ·obtain rfl:k=a.length:=by omega
   have hE:=HE.out
   rw [List.drop_length] at hE
   by_cases hlb:a.length < b.length
   ·have HQ:Hid (cmpL a b = -1):=by
     show _=_
     rw [hE,drop_at b _ hlb];rfl
    clear hE HE
    go_wp2
    go_ret
    exact ⟨ret_int HQ.out.symm,hg⟩
   ·have HQ:Hid (cmpL a b=0):=by
     show _=_
     rw [hE,List.drop_eq_nil_of_le (by omega)];rfl
    have hq:b.length=a.length:=by omega
    clear hE HE
    go_wp2
    go_ret
    exact ⟨ret_int HQ.out.symm,hg⟩
end Go.Proofs.YtjbpbfhgjldliaaGreat
