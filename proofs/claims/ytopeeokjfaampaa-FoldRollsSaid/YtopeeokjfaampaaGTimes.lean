/- The contract of the answer's Compare of layer 9. -/
import Derived.Test.YtopeeokjfaampaaGCell
import Derived.Test.YtopeeokjfaampaaGStrs
namespace Go.Proofs.Ytopeeokjfaampaa
open Go Go.RowKit
def cmpL:List ByteArray→List ByteArray→Int
 | [],[]=>0
 | [],_::_=>-1
 | _::_,[]=>1
 | a::x,b::y=>if a=b then cmpL x y else if ltB a b then -1 else 1
theorem cmpL_self:∀ a:List ByteArray,cmpL a a=0
 | []=>rfl
 | x::a=>by unfold cmpL;rw [if_pos rfl];exact cmpL_self a
theorem cmpL_front (x:ByteArray)(a b:List ByteArray):cmpL (x::a) (x::b)=cmpL a b:=by
 show (if x=x then cmpL a b else _)=_
 rw [if_pos rfl]
theorem cmpL_less (x y:ByteArray)(a b:List ByteArray)(h:ltB x y=true):cmpL (x::a) (y::b) = -1:=by
 show (if x=y then cmpL a b else if ltB x y then -1 else 1)=_
 rw [if_neg (ltB_ne h),if_pos h]
theorem cmpL_more (x y:ByteArray)(a b:List ByteArray)(h:ltB y x=true):cmpL (x::a) (y::b)=1:=by
 show (if x=y then cmpL a b else if ltB x y then -1 else 1)=_
 rw [if_neg (ltB_ne h).symm,if_neg (by rw [ltB_asym h];decide)]
theorem lt_three (x y:ByteArray):x=y∨ltB x y=true∨ltB y x=true:=by
 cases h:ltB x y with
 | true=>exact .inr (.inl rfl)
 | false =>
  cases k:ltB y x with
  | true=>exact .inr (.inr rfl)
  | false=>exact .inl (ltB_tri h k)
theorem cmpL_range:∀ a b:List ByteArray,-1≤cmpL a b∧cmpL a b≤1
 | [],[]=>by decide
 | [],_::_=>by show -1≤(-1:Int)∧(-1:Int)≤1;decide
 | _::_,[]=>by show -1≤(1:Int)∧(1:Int)≤1;decide
 | x::a,y::b=>by
  rcases lt_three x y with rfl|h|h
  ·rw [cmpL_front];exact cmpL_range a b
  ·rw [cmpL_less _ _ _ _ h];decide
  ·rw [cmpL_more _ _ _ _ h];decide
theorem cmpL_swap:∀ a b:List ByteArray,cmpL b a = - cmpL a b
 | [],[]=>rfl
 | [],_::_=>rfl
 | _::_,[]=>rfl
 | x::a,y::b=>by
  rcases lt_three x y with rfl|h|h
  ·rw [cmpL_front,cmpL_front];exact cmpL_swap a b
  ·rw [cmpL_less _ _ _ _ h,cmpL_more _ _ _ _ h];rfl
  ·rw [cmpL_less _ _ _ _ h,cmpL_more _ _ _ _ h]
theorem cmpL_zero:∀ a b:List ByteArray,cmpL a b=0↔a=b
 | [],[]=>by simp [cmpL]
 | [],_::_=>by simp [cmpL]
 | _::_,[]=>by simp [cmpL]
 | x::a,y::b=>by
  rcases lt_three x y with rfl|h|h
  ·rw [cmpL_front,cmpL_zero a b,List.cons.injEq];simp
  ·rw [cmpL_less _ _ _ _ h,List.cons.injEq]
   have:=ltB_ne h
   constructor
   ·intro h;exact absurd h (by decide)
   ·intro h;exact absurd h.1 this
  ·rw [cmpL_more _ _ _ _ h,List.cons.injEq]
   have:=(ltB_ne h).symm
   constructor
   ·intro h;exact absurd h (by decide)
   ·intro h;exact absurd h.1 this
theorem cmpL_chain:∀ a b c:List ByteArray,cmpL a b = -1→cmpL b c = -1→cmpL a c = -1
 | [],[],_,h,_=>absurd h (by decide)
 | _::_,[],_,h,_=>absurd h (by show ¬(1:Int) = -1;decide)
 | _,_::_,[],_,h=>absurd h (by show ¬(1:Int) = -1;decide)
 | [],_::_,_::_,_,_=>rfl
 | x::a,y::b,z::c,h,k=>by
  rcases lt_three x y with rfl|h1|h1
  ·rw [cmpL_front] at h
   rcases lt_three x z with rfl|k1|k1
   ·rw [cmpL_front] at k ⊢;exact cmpL_chain a b c h k
   ·exact cmpL_less _ _ _ _ k1
   ·rw [cmpL_more _ _ _ _ k1] at k;exact absurd k (by decide)
  ·rcases lt_three y z with rfl|k1|k1
   ·exact cmpL_less _ _ _ _ h1
   ·exact cmpL_less _ _ _ _ (ltB_trans h1 k1)
   ·rw [cmpL_more _ _ _ _ k1] at k;exact absurd k (by decide)
  ·rw [cmpL_more _ _ _ _ h1] at h;exact absurd h (by decide)
def pickOk (row:List ByteArray)(cols:List Int):Bool:=cols.all fun c=>decide (0≤c)&&decide (c < row.length)
def pickF (row:List ByteArray)(cols:List Int):List ByteArray:=cols.map fun c=>row.getD c.toNat ⟨#[]⟩
theorem pickF_length (row:List ByteArray)(cols:List Int):(pickF row cols).length=cols.length:=List.length_map _
theorem pickOk_of {row:List ByteArray}{cols:List Int}(h:∀ c∈cols,0≤c∧c < row.length):pickOk row cols=true:=by
 unfold pickOk
 rw [List.all_eq_true]
 intro c hc
 rw [decide_eq_true (h c hc).1,decide_eq_true (h c hc).2];rfl
theorem pickOk_not {row:List ByteArray}{cols:List Int}{c:Int}(hc:c∈cols)(h:¬(0≤c∧c < row.length)):pickOk row cols=false:=by
 cases hp:pickOk row cols with
 | false=>rfl
 | true =>
  unfold pickOk at hp
  rw [List.all_eq_true] at hp
  have:=hp c hc
  rw [Bool.and_eq_true,decide_eq_true_eq,decide_eq_true_eq] at this
  exact absurd this h
theorem pickF_get (row:List ByteArray)(cols:List Int)(k:Nat)(hk:k < cols.length)(j:Nat)(hj:j < row.length)(e:cols[k]=j):((pickF row cols).map Value.string)[k]? = some (.string row[j]):=by
 unfold pickF
 rw [List.getElem?_map,List.getElem?_map,List.getElem?_eq_getElem hk,e]
 simp only [Option.map_some,Int.toNat_natCast]
 rw [List.getD_eq_getElem?_getD,List.getElem?_eq_getElem hj];rfl
abbrev Tm:=List ByteArray×Int
def timesV (tv:List (Value×Int)):List Value:=tv.flatMap fun t=>[t.1,.int .i64 t.2]
def timesA (t:Value×Int):Value:=.agg #[t.1,.int .i64 t.2]
def RowsOf (w:World):List (Value×Int)→List Tm→Prop
 | [],[]=>True
 | t::tv,x::l=>(StrsIn w t.1 x.1∧t.2=x.2)∧RowsOf w tv l
 | _,_=>False
def TimesIn (w:World)(v:Value)(l:List Tm):Prop:=∃ tv,SliceOf w 2 v l.length (timesV tv)∧RowsOf w tv l
theorem timesV_nil:timesV []=[]:=rfl
theorem timesV_cons (t:Value×Int)(tv:List (Value×Int)):timesV (t::tv)=t.1::.int .i64 t.2::timesV tv:=rfl
theorem timesV_append (a b:List (Value×Int)):timesV (a++b)=timesV a++timesV b:=List.flatMap_append
theorem timesV_length (tv:List (Value×Int)):(timesV tv).length=tv.length*2:=by
 induction tv with
 | nil=>rfl
 | cons t tv ih=>rw [timesV_cons,List.length_cons,List.length_cons,ih,List.length_cons];omega
theorem timesV_get:∀ (tv:List (Value×Int))(j:Nat)(h:j < tv.length),(timesV tv)[j*2]? = some tv[j].1∧(timesV tv)[j*2+1]? = some (.int .i64 tv[j].2)
 | [],j,h=>absurd h (by simp)
 | t::tv,0,_=>⟨rfl,rfl⟩
 | t::tv,j+1,h=>by
  have:=timesV_get tv j (by simpa using h)
  have e1:(j+1)*2=j*2+2:=by omega
  rw [e1]
  exact this
section
variable {w w':World}
theorem RowsOf.length:∀ {tv:List (Value×Int)}{l:List Tm},RowsOf w tv l→tv.length=l.length
 | [],[],_=>rfl
 | _::_,_::_,h=>by rw [List.length_cons,List.length_cons,RowsOf.length h.2]
 | [],_::_,h=>h.elim
 | _::_,[],h=>h.elim
theorem RowsOf.kept (hb:Below w.heap.size w w'):∀ {tv:List (Value×Int)}{l:List Tm},RowsOf w tv l→RowsOf w' tv l
 | [],[],_=>trivial
 | _::_,_::_,h=>⟨⟨StrsIn.kept h.1.1 hb,h.1.2⟩,RowsOf.kept hb h.2⟩
 | [],_::_,h=>h.elim
 | _::_,[],h=>h.elim
theorem RowsOf.append:∀ {a b:List (Value×Int)}{l m:List Tm},RowsOf w a l→RowsOf w b m→RowsOf w (a++b) (l++m)
 | [],_,[],_,_,h=>h
 | _::_,_,_::_,_,h,k=>⟨h.1,RowsOf.append h.2 k⟩
 | [],_,_::_,_,h,_=>h.elim
 | _::_,_,[],_,h,_=>h.elim
theorem RowsOf.take:∀ {a:List (Value×Int)}{l:List Tm}(k:Nat),RowsOf w a l→RowsOf w (a.take k) (l.take k)
 | [],[],k,_=>by rw [List.take_nil,List.take_nil];trivial
 | _::_,_::_,0,_=>trivial
 | _::_,_::_,k+1,h=>⟨h.1,RowsOf.take k h.2⟩
 | [],_::_,_,h=>h.elim
 | _::_,[],_,h=>h.elim
theorem RowsOf.drop:∀ {a:List (Value×Int)}{l:List Tm}(k:Nat),RowsOf w a l→RowsOf w (a.drop k) (l.drop k)
 | [],[],k,_=>by rw [List.drop_nil,List.drop_nil];trivial
 | _::_,_::_,0,h=>h
 | _::_,_::_,k+1,h=>RowsOf.drop k h.2
 | [],_::_,_,h=>h.elim
 | _::_,[],_,h=>h.elim
theorem RowsOf.get:∀ {a:List (Value×Int)}{l:List Tm},RowsOf w a l→∀ (k:Nat)(h1:k < a.length)(h2:k < l.length),StrsIn w a[k].1 l[k].1∧a[k].2=l[k].2
 | _::_,_::_,h,0,_,_=>h.1
 | _::_,_::_,h,k+1,h1,h2=>RowsOf.get h.2 k (by simpa using h1) (by simpa using h2)
 | [],_::_,h,_,_,_=>h.elim
 | _::_,[],h,_,_,_=>h.elim
theorem RowsOf.one {v:Value}{n:Int}{row:List ByteArray}(h:StrsIn w v row):RowsOf w [(v,n)] [(row,n)]:=⟨⟨h,rfl⟩,trivial⟩
theorem RowsOf.map (f:Int→Int):∀ {a:List (Value×Int)}{l:List Tm},RowsOf w a l→RowsOf w (a.map fun t=>(t.1,f t.2)) (l.map fun x=>(x.1,f x.2))
 | [],[],_=>trivial
 | _::_,_::_,h=>⟨⟨h.1.1,congrArg f h.1.2⟩,RowsOf.map f h.2⟩
 | [],_::_,h=>h.elim
 | _::_,[],h=>h.elim
theorem TimesIn.kept {v:Value}{l:List Tm}(h:TimesIn w v l)(hb:Below w.heap.size w w'):TimesIn w' v l:=by
 obtain ⟨tv,h1,h2⟩:=h
 exact ⟨tv,SliceOf.later h1 hb,h2.kept hb⟩
theorem TimesIn.len {v:Value}{l:List Tm}(h:TimesIn w v l):l.length≤maxLen:=by
 obtain ⟨tv,h1,_⟩:=h
 exact h1.2.1
theorem TimesIn.nil_ (w:World)(A:Option Addr)(cap:Nat):TimesIn w (.slice A 0 cap) []:=⟨[],SliceOf.nil_ _ _ _ _,trivial⟩
theorem times_at {v:Value}{l:List Tm}(h:TimesIn w v l):∃ tv A cap,v=.slice A l.length cap∧RowsOf w tv l ∧
  (∀ k,k < l.length→∃ b off,A=some ⟨b,off,none⟩∧b < w.heap.size∧∀ j (hj:j < l.length),∃ rv,StrsIn w rv l[j].1∧tv[j]? = some (rv,l[j].2)∧w.cell? ⟨b,off+j*2,none⟩=some rv∧w.cell? ⟨b,off+j*2+1,none⟩=some (.int .i64 l[j].2)):=by
 obtain ⟨tv,h1,h2⟩:=h
 obtain ⟨_,_,A,cap,e,_,h4⟩:=h1
 have hl:=h2.length
 refine ⟨tv,A,cap,e,h2,fun k hk=>?_⟩
 obtain ⟨b,off,ea,hb,hc⟩:=h4 (by omega)
 refine ⟨b,off,ea,hb,fun j hj=>?_⟩
 have hg:=h2.get j (by omega) hj
 have hv:=timesV_get tv j (by omega)
 refine ⟨tv[j].1,hg.1,?_,hc _ _ hv.1,?_⟩
 ·rw [List.getElem?_eq_getElem (by omega),←hg.2]
 ·rw [←hg.2];exact hc _ _ hv.2
theorem TimesIn.of {v:Value}{n:Nat}{tv:List (Value×Int)}{l:List Tm}(h:SliceOf w 2 v n (timesV tv))(hr:RowsOf w tv l)(hn:n=l.length):TimesIn w v l:=by
 subst hn;exact ⟨tv,h,hr⟩
theorem take_timesV:∀ (tv:List (Value×Int))(k:Nat),(timesV tv).take (k*2)=timesV (tv.take k)
 | [],k=>by rw [List.take_nil];exact List.take_nil
 | _::_,0=>rfl
 | t::tv,k+1=>by
  have e1:(k+1)*2=k*2+2:=by omega
  rw [e1]
  show t.1::Value.int .i64 t.2::(timesV tv).take (k*2)=t.1::.int .i64 t.2::timesV (tv.take k)
  rw [take_timesV tv k]
theorem drop_timesV:∀ (tv:List (Value×Int))(k:Nat),(timesV tv).drop (k*2)=timesV (tv.drop k)
 | [],k=>by rw [List.drop_nil];exact List.drop_nil
 | _::_,0=>rfl
 | t::tv,k+1=>by
  have e1:(k+1)*2=k*2+2:=by omega
  rw [e1]
  show (timesV tv).drop (k*2)=timesV (tv.drop k)
  rw [drop_timesV tv k]
end
theorem SliceOf.frontN {w:World}{size:Nat}{A:Option Addr}{n cap m:Nat}{xs:List Value}(h:SliceOf w size (.slice A n cap) n xs)(hm:m≤n):SliceOf w size (.slice A m cap) m (xs.take (m*size)):=by
 obtain ⟨h1,h2,A',cap',e,hr,h4⟩:=h
 cases e
 have hle:m*size≤n*size:=Nat.mul_le_mul_right _ hm
 refine ⟨by rw [List.length_take,h1];omega,by omega,A,cap,rfl,by omega,fun h0=>?_⟩
 obtain ⟨b,off,e1,hb,hc⟩:=h4 (by omega)
 refine ⟨b,off,e1,hb,fun j u hu=>hc j u ?_⟩
 rw [List.getElem?_take] at hu
 split at hu
 ·exact hu
 ·exact absurd hu (by simp)
theorem SliceOf.backN {w:World}{size:Nat}{b off n cap m:Nat}{xs:List Value}(h:SliceOf w size (.slice (some ⟨b,off,none⟩) n cap) n xs)(hm:m≤n){A:Option Addr}(hA:m < n→A=some ⟨b,off+m*size,none⟩) :
  SliceOf w size (.slice A (n-m) (cap-m)) (n-m) (xs.drop (m*size)):=by
 obtain ⟨h1,h2,A',cap',e,hr,h4⟩:=h
 cases e
 refine ⟨by rw [List.length_drop,h1,Nat.sub_mul],by omega,A,cap-m,rfl,by omega,fun h0=>?_⟩
 obtain ⟨b',off',e1,hb,hc⟩:=h4 (by omega)
 cases e1
 refine ⟨b,off+m*size,hA (by omega),hb,fun j u hu=>?_⟩
 rw [List.getElem?_drop] at hu
 rw [Nat.add_assoc]
 exact hc _ u hu
theorem lit_times (w:World)(T:TypeId)(tv:List (Value×Int))(l:List Tm)(hr:RowsOf w tv l)(h:l.length≤1000):TimesIn (w.alloc (.cells (timesV tv).toArray T)) (.slice (some ⟨w.heap.size,0,none⟩) l.length l.length) l:=by
 refine ⟨tv,(Own.lit (B:=0) (size:=2) w (timesV tv).toArray T l.length (Nat.zero_le _) (by unfold maxLen;omega) ?_).slice,hr.kept ((Below.refl _ w).alloc (Nat.le_refl _) _)⟩
 rw [List.size_toArray,timesV_length,hr.length]
def GivesTimes (P:Program)(f:FuncId)(args:Array Value)(w:World)(l:List Tm):Prop:=Calls P f args w fun e w'=>∃ v,e=.returned v∧TimesIn w' v l∧Below w.heap.size w w'
def TimesQ (Q:Value→Prop)(w:World)(v:Value)(l:List Tm):Prop:=∃ tv,SliceOf w 2 v l.length (timesV tv)∧RowsOf w tv l∧∀ t∈tv,Q t.1
def GivesTimesQ (Q:Value→Prop)(P:Program)(f:FuncId)(args:Array Value)(w:World)(l:List Tm):Prop:=Calls P f args w fun e w'=>∃ v,e=.returned v∧TimesQ Q w' v l∧Below w.heap.size w w'
theorem TimesQ.times {Q:Value→Prop}{w:World}{v:Value}{l:List Tm}(h:TimesQ Q w v l):TimesIn w v l:=by
 obtain ⟨tv,h1,h2,_⟩:=h
 exact ⟨tv,h1,h2⟩
theorem TimesQ.kept {Q:Value→Prop}{w w':World}{v:Value}{l:List Tm}(h:TimesQ Q w v l)(hb:Below w.heap.size w w'):TimesQ Q w' v l:=by
 obtain ⟨tv,h1,h2,h3⟩:=h
 exact ⟨tv,SliceOf.later h1 hb,h2.kept hb,h3⟩
theorem TimesQ.nil_ (Q:Value→Prop)(w:World)(A:Option Addr)(cap:Nat):TimesQ Q w (.slice A 0 cap) []:=⟨[],SliceOf.nil_ _ _ _ _,trivial,fun _ h=>absurd h (by simp)⟩
theorem TimesQ.of {Q:Value→Prop}{w:World}{v:Value}{n:Nat}{tv:List (Value×Int)}{l:List Tm}(h:SliceOf w 2 v n (timesV tv))(hr:RowsOf w tv l)(hn:n=l.length)(hq:∀ t∈tv,Q t.1):TimesQ Q w v l:=by
 subst hn;exact ⟨tv,h,hr,hq⟩
theorem GivesTimesQ.gives {Q:Value→Prop}{P:Program}{f:FuncId}{args:Array Value}{w:World}{l:List Tm}(h:GivesTimesQ Q P f args w l):GivesTimes P f args w l :=
 Calls.mono h fun _ _ ⟨v,he,ht,hb⟩=>⟨v,he,ht.times,hb⟩
def cmpB (a b:ByteArray):Int:=if a=b then 0 else if ltB a b then -1 else 1
def putW:List Tm→Tm→List Tm
 | [],x=>if x.2=0 then [] else [x]
 | t::l,x =>
  if cmpL t.1 x.1 = -1 then t::putW l x
  else if t.1=x.1 then (if x.2+t.2=0 then l else (x.1,x.2+t.2)::l)
  else (if x.2=0 then t::l else x::t::l)
def ofW (l:List Tm):List Tm:=l.foldl putW []
def sumW (a b:List Tm):List Tm:=b.foldl putW (ofW a)
def RightP (l:List Tm):Prop:=l.Pairwise (fun a b=>cmpL a.1 b.1 = -1)∧∀ t∈l,t.2≠0
theorem cmpL_back {a b:List ByteArray}(h:¬cmpL a b = -1)(hn:a≠b):cmpL b a = -1:=by
 have h1:=cmpL_range a b
 have h2:=cmpL_zero a b
 have h3:=cmpL_swap a b
 have:cmpL a b≠0:=fun e=>hn (h2.1 e)
 omega
theorem mem_put {l:List Tm}{x t:Tm}(h:t∈putW l x):t∈l∨t.1=x.1:=by
 induction l with
 | nil =>
  unfold putW at h
  split at h
  ·exact absurd h (by simp)
  ·rw [List.mem_singleton.1 h];exact .inr rfl
 | cons u l ih =>
  unfold putW at h
  split at h
  ·rcases List.mem_cons.1 h with rfl|h
   ·exact .inl (List.mem_cons_self ..)
   ·exact (ih h).imp (List.mem_cons_of_mem _) id
  ·split at h
   ·split at h
    ·exact .inl (List.mem_cons_of_mem _ h)
    ·rcases List.mem_cons.1 h with rfl|h
     ·exact .inr rfl
     ·exact .inl (List.mem_cons_of_mem _ h)
   ·split at h
    ·exact .inl h
    ·rcases List.mem_cons.1 h with rfl|h
     ·exact .inr rfl
     ·exact .inl h
theorem RightP.nil:RightP []:=⟨List.Pairwise.nil,fun t ht=>absurd ht (by simp)⟩
theorem RightP.cons_iff {t:Tm}{l:List Tm}:RightP (t::l)↔t.2≠0∧(∀ u∈l,cmpL t.1 u.1 = -1)∧RightP l:=by
 unfold RightP
 rw [List.pairwise_cons]
 constructor
 ·rintro ⟨⟨h1,h2⟩,h3⟩
  exact ⟨h3 t (List.mem_cons_self ..),h1,h2,fun u hu=>h3 u (List.mem_cons_of_mem _ hu)⟩
 ·rintro ⟨h1,h2,h3,h4⟩
  refine ⟨⟨h2,h3⟩,fun u hu=>?_⟩
  rcases List.mem_cons.1 hu with rfl|hu
  ·exact h1
  ·exact h4 u hu
theorem RightP.put {l:List Tm}(h:RightP l)(x:Tm):RightP (putW l x):=by
 induction l with
 | nil =>
  unfold putW
  split
  ·exact .nil
  ·rename_i hx;exact RightP.cons_iff.2 ⟨hx,fun u hu=>absurd hu (by simp),.nil⟩
 | cons t l ih =>
  obtain ⟨h1,h2,h3⟩:=RightP.cons_iff.1 h
  unfold putW
  split
  ·rename_i hc
   refine RightP.cons_iff.2 ⟨h1,fun u hu=>?_,ih h3⟩
   rcases mem_put hu with hu|hu
   ·exact h2 u hu
   ·rw [hu];exact hc
  ·rename_i hc
   split
   ·rename_i he
    split
    ·exact h3
    ·rename_i hz
     exact RightP.cons_iff.2 ⟨hz,fun u hu=>he▸h2 u hu,h3⟩
   ·rename_i hne
    split
    ·exact h
    ·rename_i hx
     have hb:=cmpL_back hc hne
     refine RightP.cons_iff.2 ⟨hx,fun u hu=>?_,h⟩
     rcases List.mem_cons.1 hu with rfl|hu
     ·exact hb
     ·exact cmpL_chain _ _ _ hb (h2 u hu)
theorem RightP.foldl {l m:List Tm}(h:RightP l):RightP (m.foldl putW l):=by
 induction m generalizing l with
 | nil=>exact h
 | cons x m ih=>exact ih (h.put x)
theorem sum_nil (a:List Tm):sumW a []=ofW a:=rfl
end Go.Proofs.Ytopeeokjfaampaa
