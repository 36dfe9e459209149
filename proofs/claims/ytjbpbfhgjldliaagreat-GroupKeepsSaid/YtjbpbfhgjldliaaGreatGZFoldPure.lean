/- Rows taken together: what they come to, and groups of them; no program. -/
import Derived.Test.YtjbpbfhgjldliaaGreatGCell
import Derived.Test.YtjbpbfhgjldliaaGreatGTimes
import Derived.Test.YtjbpbfhgjldliaaGreatGWideB
namespace Go.Proofs.YtjbpbfhgjldliaaGreat
open Go Go.RowKit
def eB:ByteArray:=⟨#[]⟩
def cellD (row:List ByteArray)(col:Int):ByteArray:=if 0≤col then row.getD col.toNat eB else eB
def numC (s:ByteArray):Int:=if isInt s then numOf s else 0
structure Tal where
 rows:Int
 sum:Int
 lo:ByteArray
 hi:ByteArray
def minT (a b:ByteArray):ByteArray:=if a=eB then b else if b=eB then a else if ltB b a then b else a
def maxT (a b:ByteArray):ByteArray:=if ltB a b then b else a
def Tal.add (a b:Tal):Tal:=⟨a.rows+b.rows,a.sum+b.sum,minT a.lo b.lo,maxT a.hi b.hi⟩
def tal0:Tal:=⟨0,0,eB,eB⟩
def tal1 (col:Int)(x:Tm):Tal:=⟨x.2,numC (cellD x.1 col)*x.2,cellD x.1 col,cellD x.1 col⟩
def talL (col:Int)(l:List Tm):Tal:=l.foldr (fun x t=>(tal1 col x).add t) tal0
theorem lt_e (a:ByteArray):ltB a eB=false:=by
 unfold ltB
 rw [show eB.toList=[] by rw [ByteArray.toList_eq];rfl]
 cases a.toList <;> rfl
theorem e_lt {a:ByteArray}(h:a≠eB):ltB eB a=true:=by
 rcases lt_three eB a with k|k|k
 ·exact absurd k.symm h
 ·exact k
 ·rw [lt_e] at k;exact absurd k (by decide)
theorem minT_e (a:ByteArray):minT eB a=a:=by unfold minT;rw [if_pos rfl]
theorem minT_e2 (a:ByteArray):minT a eB=a:=by
 unfold minT
 split
 ·rename_i h;exact h.symm
 ·rw [if_pos rfl]
theorem minT_comm (a b:ByteArray):minT a b=minT b a:=by
 unfold minT
 by_cases ha:a=eB
 ·by_cases hb:b=eB
  ·rw [if_pos ha,if_pos hb,ha,hb]
  ·rw [if_pos ha,if_neg hb,if_pos ha]
 ·by_cases hb:b=eB
  ·rw [if_neg ha,if_pos hb,if_pos hb]
  ·rw [if_neg ha,if_neg hb,if_neg hb,if_neg ha]
   rcases lt_three a b with h|h|h
   ·subst h;rfl
   ·rw [if_pos h,ltB_asym h];rfl
   ·rw [if_pos h,ltB_asym h];rfl
theorem minT_ne {a b:ByteArray}(ha:a≠eB):minT a b≠eB:=by
 unfold minT
 rw [if_neg ha]
 split
 ·exact ha
 ·split
  ·assumption
  ·exact ha
theorem lt_le {a b c:ByteArray}(h:ltB a b=true)(k:ltB c b=false):ltB a c=true:=by
 rcases lt_three b c with e|e|e
 ·rw [←e];exact h
 ·exact ltB_trans h e
 ·rw [e] at k;exact absurd k (by decide)
theorem minT_assoc (a b c:ByteArray):minT (minT a b) c=minT a (minT b c):=by
 by_cases ha:a=eB
 ·rw [ha,minT_e,minT_e]
 ·by_cases hb:b=eB
  ·rw [hb,minT_e,minT_e2]
  ·by_cases hc:c=eB
   ·rw [hc,minT_e2,minT_e2]
   ·have e (x y:ByteArray) (hx:x≠eB) (hy:y≠eB):minT x y=if ltB y x then y else x:=by unfold minT;rw [if_neg hx,if_neg hy]
    rw [e a b ha hb,e b c hb hc]
    cases h1:ltB b a <;> cases h2:ltB c b <;> simp only [if_true,if_false,Bool.false_eq_true]
    ·rw [e a c ha hc,e a b ha hb,h1]
     cases h3:ltB c a
     ·rfl
     ·exfalso
      have:=lt_le h3 h1
      rw [this] at h2;exact absurd h2 (by decide)
    ·rw [e b c hb hc,h2,e a b ha hb,h1];rfl
    ·rw [e b c hb hc,h2,e a c ha hc,ltB_trans h2 h1];rfl
theorem maxT_e (a:ByteArray):maxT eB a=a:=by
 unfold maxT
 by_cases h:a=eB
 ·rw [h,lt_e];rfl
 ·rw [e_lt h];rfl
theorem maxT_e2 (a:ByteArray):maxT a eB=a:=by unfold maxT;rw [lt_e];rfl
theorem maxT_comm (a b:ByteArray):maxT a b=maxT b a:=by
 unfold maxT
 rcases lt_three a b with h|h|h
 ·subst h;rfl
 ·rw [if_pos h,ltB_asym h];rfl
 ·rw [if_pos h,ltB_asym h];rfl
theorem maxT_assoc (a b c:ByteArray):maxT (maxT a b) c=maxT a (maxT b c):=by
 have e (x y:ByteArray):maxT x y=if ltB x y then y else x:=rfl
 rw [e a b,e b c]
 cases h1:ltB a b <;> cases h2:ltB b c <;> simp only [if_true,if_false,Bool.false_eq_true]
 ·rw [e a c,e a b,h1]
  cases h3:ltB a c
  ·rfl
  ·exfalso
   rcases lt_three a b with k|k|k
   ·subst k;rw [h2] at h3;exact absurd h3 (by decide)
   ·rw [h1] at k;exact absurd k (by decide)
   ·rw [ltB_trans k h3] at h2;exact absurd h2 (by decide)
 ·rw [e b c,h2,e a b,h1];rfl
 ·rw [e b c,h2,e a c,ltB_trans h1 h2];rfl
theorem Tal.ext' {a b:Tal}(h1:a.rows=b.rows)(h2:a.sum=b.sum)(h3:a.lo=b.lo)(h4:a.hi=b.hi):a=b:=by
 cases a;cases b;simp_all
theorem Tal.add_comm (a b:Tal):a.add b=b.add a:=Tal.ext' (Int.add_comm ..) (Int.add_comm ..) (minT_comm ..) (maxT_comm ..)
theorem Tal.add_assoc (a b c:Tal):(a.add b).add c=a.add (b.add c):=Tal.ext' (Int.add_assoc ..) (Int.add_assoc ..) (minT_assoc ..) (maxT_assoc ..)
theorem Tal.zero_add (a:Tal):tal0.add a=a:=Tal.ext' (Int.zero_add _) (Int.zero_add _) (minT_e _) (maxT_e _)
theorem Tal.add_zero (a:Tal):a.add tal0=a:=by rw [Tal.add_comm,Tal.zero_add]
theorem talL_cons (col:Int)(x:Tm)(l:List Tm):talL col (x::l)=(tal1 col x).add (talL col l):=rfl
theorem talL_append (col:Int):∀ a b:List Tm,talL col (a++b)=(talL col a).add (talL col b)
 | [],b=>(Tal.zero_add _).symm
 | x::a,b=>by
  rw [List.cons_append,talL_cons,talL_cons,talL_append col a b,Tal.add_assoc]
theorem talL_one (col:Int)(x:Tm):talL col [x]=tal1 col x:=Tal.add_zero _
theorem talL_take (col:Int)(l:List Tm)(k:Nat)(h:k < l.length):talL col (l.take (k+1))=(talL col (l.take k)).add (tal1 col l[k]):=by
 rw [List.take_add_one,List.getElem?_eq_getElem h,Option.toList_some,talL_append,talL_one]
def numW (z:Int):Option ByteArray:=if fitsD (toW z) then some (cellInt (intD (toW z))) else none
def valT (t:Tal)(way:Int):Option ByteArray:=if way=1 then numW t.rows else if t.lo=eB then some eB else if way=3 then some t.lo else if way=4 then some t.hi else numW t.sum
def valP (l:List Tm)(a:Int×Int):Option ByteArray:=valT (talL a.2 l) a.1
def valsP (l:List Tm):List (Int×Int)→Option (List ByteArray)
 | []=>some []
 | a::gs=>match valP l a with
  | none=>none
  | some c=>(valsP l gs).map (c::·)
theorem vals_snoc (l:List Tm)(a:Int×Int):∀ gs:List (Int×Int),∀ vs c,valsP l gs=some vs→valP l a=some c→valsP l (gs++[a])=some (vs++[c])
 | [],vs,c,h1,h2=>by
  cases h1
  show (match valP l a with|none=>none|some c=>(some []).map (c::·))=_
  rw [h2];rfl
 | b::gs,vs,c,h1,h2=>by
  show (match valP l b with|none=>none|some c=>(valsP l (gs++[a])).map (c::·))=_
  change (match valP l b with|none=>none|some c=>(valsP l gs).map (c::·))=_ at h1
  cases hb:valP l b with
  | none=>rw [hb] at h1;exact absurd h1 (by simp)
  | some d =>
   rw [hb] at h1
   cases hv:valsP l gs with
   | none=>rw [hv] at h1;exact absurd h1 (by simp)
   | some us =>
    rw [hv] at h1
    cases h1
    show (valsP l (gs++[a])).map (d::·)=_
    rw [vals_snoc l a gs us c hv h2];rfl
theorem vals_none (l:List Tm):∀ (gs:List (Int×Int))(k:Nat)(h:k < gs.length),valP l gs[k]=none→valsP l gs=none
 | [],k,h,_=>absurd h (by simp)
 | a::gs,0,_,e=>by
  show (match valP l a with|none=>none|some c=>(valsP l gs).map (c::·))=_
  rw [show valP l a=none from e]
 | a::gs,k+1,h,e=>by
  have:=vals_none l gs k (by simpa using h) e
  show (match valP l a with|none=>none|some c=>(valsP l gs).map (c::·))=_
  rw [this]
  cases valP l a <;> rfl
def keyT (by_:List Int)(x:Tm):List ByteArray:=pickF x.1 by_
def okL (by_:List Int)(l:List Tm):List Tm:=l.filter fun x=>pickOk x.1 by_
def ofKey (by_:List Int)(k:List ByteArray)(l:List Tm):List Tm:=l.filter fun x=>decide (keyT by_ x=k)
def keysR (by_:List Int):List Tm→List (List ByteArray)
 | []=>[]
 | [x]=>[keyT by_ x]
 | x::y::t=>if keyT by_ x=keyT by_ y then keysR by_ (y::t) else keyT by_ x::keysR by_ (y::t)
def groupsK (by_:List Int)(gs:List (Int×Int))(l:List Tm):List (List ByteArray)→Option (List Tm)
 | []=>some []
 | k::ks=>match valsP (ofKey by_ k l) gs with
  | none=>none
  | some vs=>(groupsK by_ gs l ks).map ((k++vs,1)::·)
def groupsR (by_:List Int)(gs:List (Int×Int))(r:List Tm):Option (List Tm):=groupsK by_ gs r (keysR by_ r)
def insT (by_:List Int)(x:Tm):List Tm→List Tm
 | []=>[x]
 | y::t=>if cmpL (keyT by_ y) (keyT by_ x) = -1 then y::insT by_ x t else x::y::t
def sortT (by_:List Int):List Tm→List Tm
 | []=>[]
 | x::t=>insT by_ x (sortT by_ t)
def groupsP (l:List Tm)(by_:List Int)(gs:List (Int×Int)):Option (List Tm):=groupsR by_ gs (sortT by_ (okL by_ l))
theorem cmpL_back2 {a b:List ByteArray}(h:¬cmpL b a = -1)(hne:a≠b):cmpL a b = -1:=by
 have h1:=cmpL_range a b
 have h2:=cmpL_swap a b
 have h3:cmpL a b≠0:=fun e=>hne ((cmpL_zero a b).1 e)
 omega
theorem cmpL_irr {a b:List ByteArray}(h:cmpL a b = -1):a≠b:=by rintro rfl;rw [cmpL_self] at h;exact absurd h (by decide)
theorem cmpL_asym {a b:List ByteArray}(h:cmpL a b = -1):¬cmpL b a = -1:=by rw [cmpL_swap a b];omega
theorem strict_same:∀ {a b:List (List ByteArray)},(a.Pairwise fun x y=>cmpL x y = -1)→(b.Pairwise fun x y=>cmpL x y = -1)→(∀ k,k∈a↔k∈b)→a=b
 | [],[],_,_,_=>rfl
 | [],y::b,_,_,h=>absurd ((h y).2 (List.mem_cons_self ..)) (by simp)
 | x::a,[],_,_,h=>absurd ((h x).1 (List.mem_cons_self ..)) (by simp)
 | x::a,y::b,h1,h2,h=>by
  obtain ⟨p1,p2⟩:=List.pairwise_cons.1 h1
  obtain ⟨q1,q2⟩:=List.pairwise_cons.1 h2
  have e:x=y:=by
   rcases List.mem_cons.1 ((h x).1 (List.mem_cons_self ..)) with e|hx
   ·exact e
   ·rcases List.mem_cons.1 ((h y).2 (List.mem_cons_self ..)) with e|hy
    ·exact e.symm
    ·exact absurd (p1 y hy) (cmpL_asym (q1 x hx))
  subst e
  refine congrArg (x::·) (strict_same p2 q2 fun k=>?_)
  constructor
  ·intro hk
   rcases List.mem_cons.1 ((h k).1 (List.mem_cons_of_mem _ hk)) with rfl|hk2
   ·exact absurd rfl (cmpL_irr (p1 _ hk))
   ·exact hk2
  ·intro hk
   rcases List.mem_cons.1 ((h k).2 (List.mem_cons_of_mem _ hk)) with rfl|hk2
   ·exact absurd rfl (cmpL_irr (q1 _ hk))
   ·exact hk2
def alikeN (by_:List Int):List Tm→Nat
 | []=>0
 | x::t=>1+(t.takeWhile fun y=>decide (keyT by_ y=keyT by_ x)).length
theorem keysR_two (by_:List Int)(x y:Tm)(t:List Tm):keysR by_ (x::y::t)=if keyT by_ x=keyT by_ y then keysR by_ (y::t) else keyT by_ x::keysR by_ (y::t):=rfl
theorem alikeN_cons (by_:List Int)(x:Tm)(t:List Tm):alikeN by_ (x::t)=1+(t.takeWhile fun y=>decide (keyT by_ y=keyT by_ x)).length:=rfl
end Go.Proofs.YtjbpbfhgjldliaaGreat
