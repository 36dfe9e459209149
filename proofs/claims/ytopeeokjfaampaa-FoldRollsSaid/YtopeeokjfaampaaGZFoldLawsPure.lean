/- Layer 20's laws: facts on groups of groups, bounds, other orders; no program. -/
import Derived.Test.YtopeeokjfaampaaGZFoldPure
namespace Go.Proofs.Ytopeeokjfaampaa
open Go Go.RowKit
theorem numW_in {z:Int}(h0 : -9223372036854775808≤z)(h1:z≤9223372036854775807):numW z=some (cellInt z):=by
 have h:=fits_of h0 h1
 unfold ofD at h
 unfold numW
 rw [if_pos h.1,h.2]
theorem cellInt_ne (z:Int):cellInt z≠eB:=by
 intro h
 have:=congrArg (fun b:ByteArray=>b.size) h
 have e:(cellInt z).size=9:=by
  have:=isInt_cellInt z
  unfold isInt at this
  rw [Bool.and_eq_true,beq_iff_eq,beq_iff_eq] at this
  exact this.2
 have this:(cellInt z).size=eB.size:=this
 rw [e] at this
 exact absurd this (by decide)
theorem numC_cell {z:Int}(h0 : -9223372036854775808≤z)(h1:z≤9223372036854775807):numC (cellInt z)=z:=by
 unfold numC
 rw [if_pos (isInt_cellInt z)]
 exact numOf_cellInt z h0 h1
theorem numC_eB:numC eB=0:=by decide +kernel
theorem min_eB {a b:ByteArray}:minT a b=eB↔a=eB∧b=eB:=by
 constructor
 ·intro h
  by_cases ha:a=eB
  ·refine ⟨ha,?_⟩
   rw [ha,minT_e] at h;exact h
  ·exact absurd h (minT_ne ha)
 ·rintro ⟨rfl,rfl⟩;exact minT_e _
theorem max_eB {a b:ByteArray}:maxT a b=eB↔a=eB∧b=eB:=by
 constructor
 ·intro h
  unfold maxT at h
  cases k:ltB a b with
  | true =>
   rw [if_pos k] at h
   rw [h,lt_e] at k
   exact absurd k (by decide)
  | false =>
   rw [if_neg (by rw [k];decide)] at h
   subst h
   refine ⟨rfl,?_⟩
   by_cases hb:b=eB
   ·exact hb
   ·rw [e_lt hb] at k;exact absurd k (by decide)
 ·rintro ⟨rfl,rfl⟩;exact maxT_e _
theorem tal_none (col:Int):∀ l:List Tm,((talL col l).lo=eB↔(talL col l).hi=eB)∧((talL col l).lo=eB→(talL col l).sum=0)
 | []=>⟨Iff.rfl,fun _=>rfl⟩
 | x::l=>by
  obtain ⟨h1,h2⟩:=tal_none col l
  rw [talL_cons]
  refine ⟨?_,fun h=>?_⟩
  ·show minT (cellD x.1 col) (talL col l).lo=eB↔maxT (cellD x.1 col) (talL col l).hi=eB
   rw [min_eB,max_eB,h1]
  ·have h3:=min_eB.1 (show minT (cellD x.1 col) (talL col l).lo=eB from h)
   show numC (cellD x.1 col)*x.2+(talL col l).sum=0
   rw [h3.1,numC_eB,h2 h3.2];omega
def Few20 (c:Int)(l:List Tm):Prop:=∀ x∈l,1≤x.2∧x.2≤1000∧-1099511627776≤numC (cellD x.1 c)∧numC (cellD x.1 c)≤1099511627776
theorem few_bound {c:Int}:∀ {l:List Tm},Few20 c l→l.length≤(talL c l).rows∧(talL c l).rows≤1000*l.length∧-(1099511627776000*l.length)≤(talL c l).sum∧(talL c l).sum≤1099511627776000*l.length
 | [],_=>by simp [talL,tal0]
 | x::l,h=>by
  obtain ⟨h1,h2,h3,h4⟩:=few_bound (c:=c) (l:=l) fun y hy=>h y (List.mem_cons_of_mem _ hy)
  obtain ⟨g1,g2,g3,g4⟩:=h x (List.mem_cons_self ..)
  rw [talL_cons]
  show ((x::l).length:Int)≤x.2+(talL c l).rows∧x.2+(talL c l).rows≤1000*((x::l).length:Int)∧-(1099511627776000*((x::l).length:Int))≤numC (cellD x.1 c)*x.2+(talL c l).sum∧numC (cellD x.1 c)*x.2+(talL c l).sum≤1099511627776000*((x::l).length:Int)
  rw [List.length_cons]
  have k1:numC (cellD x.1 c)*x.2≤1099511627776000:=by
   have e1:numC (cellD x.1 c)*x.2≤1099511627776*x.2:=Int.mul_le_mul_of_nonneg_right g4 (by omega)
   omega
  have k2 : -1099511627776000≤numC (cellD x.1 c)*x.2:=by
   have e1 : -1099511627776*x.2≤numC (cellD x.1 c)*x.2:=Int.mul_le_mul_of_nonneg_right g3 (by omega)
   omega
  generalize numC (cellD x.1 c)*x.2=z at *
  omega
def cAgg (c:Int):List (Int×Int):=[(1,0),(2,c),(3,c),(4,c)]
def aAgg:List (Int×Int):=[(2,1),(2,2),(3,3),(4,4)]
def sumC (t:Tal):ByteArray:=if t.lo=eB then eB else cellInt t.sum
def hiC (t:Tal):ByteArray:=if t.lo=eB then eB else t.hi
theorem val_sumC {t:Tal}(h0 : -9223372036854775808≤t.sum)(h1:t.sum≤9223372036854775807):valT t 2=some (sumC t):=by
 unfold valT sumC
 rw [if_neg (by decide)]
 by_cases h:t.lo=eB
 ·rw [if_pos h,if_pos h]
 ·rw [if_neg h,if_neg h,if_neg (by decide),if_neg (by decide)];exact numW_in h0 h1
theorem val_loC (t:Tal):valT t 3=some t.lo:=by
 unfold valT
 rw [if_neg (by decide)]
 by_cases h:t.lo=eB
 ·rw [if_pos h,h]
 ·rw [if_neg h,if_pos rfl]
theorem val_hiC (t:Tal):valT t 4=some (hiC t):=by
 unfold valT hiC
 rw [if_neg (by decide)]
 by_cases h:t.lo=eB
 ·rw [if_pos h,if_pos h]
 ·rw [if_neg h,if_neg h,if_neg (by decide),if_pos rfl]
theorem talL_nil (q:Int):talL q []=tal0:=rfl
theorem rows_any (c d:Int)(l:List Tm):(talL c l).rows=(talL d l).rows:=by
 induction l with
 | nil=>rw [talL_nil,talL_nil]
 | cons x l ih =>
  have e (q:Int):(talL q (x::l)).rows=x.2+(talL q l).rows:=rfl
  rw [e c,e d,ih]
theorem vals_few {c:Int}{l:List Tm}(h:Few20 c l)(hl:l.length≤1000):valsP l (cAgg c)=some [cellInt (talL c l).rows,sumC (talL c l),(talL c l).lo,hiC (talL c l)]:=by
 obtain ⟨h1,h2,h3,h4⟩:=few_bound h
 have e1:valP l (1,0)=some (cellInt (talL c l).rows):=by
  show valT (talL 0 l) 1=_
  have:valT (talL 0 l) 1=numW (talL 0 l).rows:=if_pos rfl
  rw [this,rows_any 0 c l]
  exact numW_in (by omega) (by omega)
 have e2:valP l (2,c)=some (sumC (talL c l)):=by
  show valT (talL c l) 2=_
  exact val_sumC (by omega) (by omega)
 have e3:valP l (3,c)=some (talL c l).lo:=val_loC _
 have e4:valP l (4,c)=some (hiC (talL c l)):=val_hiC _
 unfold cAgg
 simp only [valsP,e1,e2,e3,e4,Option.map_some]
structure RollP (t:Tal) (g:List Tm):Prop where
 s1:(talL 1 g).sum=t.rows
 s2:(talL 2 g).sum=t.sum
 l2:(talL 2 g).lo=eB↔t.lo=eB
 l3:(talL 3 g).lo=t.lo
 h4:(talL 4 g).hi=t.hi
 l4:(talL 4 g).lo=eB↔t.lo=eB
theorem roll_nil (c:Int):RollP (talL c []) []:=by
 constructor <;> simp only [talL_nil] <;> rfl
theorem cell_at (k a b c d:ByteArray):cellD ([k]++[a,b,c,d]) 1=a∧cellD ([k]++[a,b,c,d]) 2=b∧cellD ([k]++[a,b,c,d]) 3=c∧cellD ([k]++[a,b,c,d]) 4=d:=⟨rfl,rfl,rfl,rfl⟩
theorem sumC_eB (t:Tal):sumC t=eB↔t.lo=eB:=by
 unfold sumC
 by_cases h:t.lo=eB
 ·rw [if_pos h];simp [h]
 ·rw [if_neg h];simp [h,cellInt_ne]
theorem roll_cons {c:Int}{s rest g:List Tm}{k:ByteArray}(hs:Few20 c s)(hsl:s.length≤1000)(h:RollP (talL c rest) g) :
  RollP (talL c (s++rest)) (([k]++[cellInt (talL c s).rows,sumC (talL c s),(talL c s).lo,hiC (talL c s)],1)::g):=by
 obtain ⟨b1,b2,b3,b4⟩:=few_bound hs
 obtain ⟨n1,n2⟩:=tal_none c s
 obtain ⟨k1,k2,k3,k4⟩:=cell_at k (cellInt (talL c s).rows) (sumC (talL c s)) (talL c s).lo (hiC (talL c s))
 generalize [k]++[cellInt (talL c s).rows,sumC (talL c s),(talL c s).lo,hiC (talL c s)]=row at *
 have hsum:numC (sumC (talL c s))=(talL c s).sum:=by
  unfold sumC
  by_cases e:(talL c s).lo=eB
  ·rw [if_pos e,numC_eB,n2 e]
  ·rw [if_neg e];exact numC_cell (by omega) (by omega)
 have hhi:hiC (talL c s)=(talL c s).hi:=by
  unfold hiC
  by_cases e:(talL c s).lo=eB
  ·rw [if_pos e];exact (n1.1 e).symm
  ·rw [if_neg e]
 rw [talL_append]
 refine ⟨?_,?_,?_,?_,?_,?_⟩ <;> rw [talL_cons]
 ·show numC (cellD row 1)*1+(talL 1 g).sum=(talL c s).rows+(talL c rest).rows
  rw [k1,h.s1,numC_cell (by omega) (by omega),Int.mul_one]
 ·show numC (cellD row 2)*1+(talL 2 g).sum=(talL c s).sum+(talL c rest).sum
  rw [k2,h.s2,hsum,Int.mul_one]
 ·show minT (cellD row 2) (talL 2 g).lo=eB↔minT (talL c s).lo (talL c rest).lo=eB
  rw [k2,min_eB,min_eB,h.l2,sumC_eB]
 ·show minT (cellD row 3) (talL 3 g).lo=minT (talL c s).lo (talL c rest).lo
  rw [k3,h.l3]
 ·show maxT (cellD row 4) (talL 4 g).hi=maxT (talL c s).hi (talL c rest).hi
  rw [k4,h.h4,hhi]
 ·show minT (cellD row 4) (talL 4 g).lo=eB↔minT (talL c s).lo (talL c rest).lo=eB
  rw [k4,min_eB,min_eB,h.l4,hhi,n1]
theorem roll_of (b c:Int):∀ (n:Nat)(r:List Tm),r.length=n→SortedK [b] r→Few20 c r→r.length≤1000→∃ g,groupsR [b] (cAgg c) r=some g∧RollP (talL c r) g∧g.length≤r.length∧(g=[]↔r=[])∧(∀ x∈g,x.2=1∧x.1.length=5)
 | 0,r,hn,_,_,_=>by
  have e:r=[]:=List.eq_nil_of_length_eq_zero hn
  subst e
  exact ⟨[],rfl,roll_nil c,Nat.le_refl _,Iff.rfl,fun _ h=>absurd h (by simp)⟩
 | n+1,[],hn,_,_,_=>absurd hn (by simp)
 | n+1,x::t,hn,hs,hf,hl=>by
  have hm:=alike_pos [b] x t
  have hst:=groups_step [b] (cAgg c) x t hs
  generalize alikeN [b] (x::t)=m at *
  have hlt:((x::t).drop m).length≤n:=by rw [List.length_drop];omega
  have hft:Few20 c ((x::t).take m):=fun y hy=>hf y (List.mem_of_mem_take hy)
  have hfd:Few20 c ((x::t).drop m):=fun y hy=>hf y (List.mem_of_mem_drop hy)
  have hll:((x::t).take m).length≤1000:=by rw [List.length_take];omega
  obtain ⟨g,hg,hr,hgl,_,hgx⟩:=roll_of b c _ ((x::t).drop m) rfl (hs.sublist (List.drop_sublist ..)) hfd (by rw [List.length_drop];omega)
  rw [vals_few hft hll] at hst
  dsimp only at hst
  rw [hg] at hst
  have hk:keyT [b] x=[x.1.getD b.toNat ⟨#[]⟩]:=rfl
  rw [hk] at hst
  refine ⟨_,hst,?_,?_,by simp,fun y hy=>?_⟩
  ·have:=roll_cons (k:=x.1.getD b.toNat ⟨#[]⟩) hft hll hr
   rwa [List.take_append_drop] at this
  ·rw [List.length_cons]
   rw [List.length_drop] at hgl
   omega
  ·rcases List.mem_cons.1 hy with rfl|hy
   ·exact ⟨rfl,rfl⟩
   ·exact hgx y hy
termination_by n=>n
decreasing_by omega
theorem okL_nil (l:List Tm):okL [] l=l:=by
 unfold okL
 exact List.filter_eq_self.2 fun _ _=>rfl
theorem ofKey_nil (l:List Tm):ofKey [] [] l=l:=by
 unfold ofKey
 exact List.filter_eq_self.2 fun _ _=>by simp [keyT,pickF]
theorem groups_nil (by_:List Int)(gs:List (Int×Int)):groupsP [] by_ gs=some []:=rfl
theorem groups_whole (gs:List (Int×Int)){l:List Tm}(hl:l≠[]):groupsP l [] gs=(valsP l gs).map fun vs=>[(vs,1)]:=by
 unfold groupsP groupsR
 rw [okL_nil]
 have hp:=sort_perm [] l
 have hk:keysR [] (sortT [] l)=[[]]:=by
  refine strict_same (keys_sorted [] _ (sort_sorted [] l)) (List.pairwise_singleton ..) fun k=>?_
  rw [keys_mem,List.mem_singleton]
  constructor
  ·rintro ⟨x,_,rfl⟩;rfl
  ·rintro rfl
   obtain ⟨x,hx⟩:=List.exists_mem_of_ne_nil l hl
   exact ⟨x,hp.mem_iff.2 hx,rfl⟩
 rw [hk]
 unfold groupsK
 rw [ofKey_nil,vals_same (fun col=>talL_perm col hp) gs]
 cases valsP l gs <;> rfl
theorem roll_vals {c:Int}{l g:List Tm}(h:RollP (talL c l) g)(hf:Few20 c l)(hl:l.length≤1000)(h1:(talL 1 g).lo≠eB):valsP g aAgg=valsP l (cAgg c):=by
 obtain ⟨b1,b2,b3,b4⟩:=few_bound hf
 obtain ⟨n1,n2⟩:=tal_none c l
 have e1:valP g (2,1)=some (cellInt (talL c l).rows):=by
  show valT (talL 1 g) 2=_
  rw [val_sumC (by rw [h.s1];omega) (by rw [h.s1];omega)]
  unfold sumC
  rw [if_neg h1,h.s1]
 have e2:valP g (2,2)=some (sumC (talL c l)):=by
  show valT (talL 2 g) 2=_
  rw [val_sumC (by rw [h.s2];omega) (by rw [h.s2];omega)]
  unfold sumC
  by_cases k:(talL c l).lo=eB
  ·rw [if_pos k,if_pos (h.l2.2 k)]
  ·rw [if_neg k,if_neg (fun q=>k (h.l2.1 q)),h.s2]
 have e3:valP g (3,3)=some (talL c l).lo:=by
  show valT (talL 3 g) 3=_
  rw [val_loC,h.l3]
 have e4:valP g (4,4)=some (hiC (talL c l)):=by
  show valT (talL 4 g) 4=_
  rw [val_hiC]
  unfold hiC
  by_cases k:(talL c l).lo=eB
  ·rw [if_pos k,if_pos (h.l4.2 k)]
  ·rw [if_neg k,if_neg (fun q=>k (h.l4.1 q)),h.h4]
 rw [vals_few hf hl]
 unfold aAgg
 simp only [valsP,e1,e2,e3,e4,Option.map_some]
theorem few_lo1 {b c:Int}:∀ (n:Nat)(r g:List Tm),r.length=n→SortedK [b] r→Few20 c r→r.length≤1000→r≠[]→groupsR [b] (cAgg c) r=some g→(talL 1 g).lo≠eB
 | _,[],_,_,_,_,_,h0,_=>absurd rfl h0
 | _,x::t,g,_,hs,hf,hl,_,hg=>by
  have hm:=alike_pos [b] x t
  have hst:=groups_step [b] (cAgg c) x t hs
  generalize alikeN [b] (x::t)=m at *
  have hft:Few20 c ((x::t).take m):=fun y hy=>hf y (List.mem_of_mem_take hy)
  rw [vals_few hft (by rw [List.length_take];omega)] at hst
  dsimp only at hst
  rw [hg] at hst
  cases hd:groupsR [b] (cAgg c) ((x::t).drop m) with
  | none=>rw [hd] at hst;exact absurd hst (by simp)
  | some g2 =>
   rw [hd] at hst
   have e:=Option.some.inj hst
   subst e
   rw [talL_cons]
   intro h
   have h2:minT (cellInt (talL c ((x::t).take m)).rows) (talL 1 g2).lo=eB:=h
   exact cellInt_ne _ (min_eB.1 h2).1
theorem rolls {b c:Int}{l:List Tm}(h4:∀ x∈l,x.1.length=4)(hb0:0≤b)(hb:b < 4)(hf:Few20 c l)(hl:l.length≤1000):∃ g wh,groupsP l [b] (cAgg c)=some g∧groupsP l [] (cAgg c)=some wh∧groupsP g [] aAgg=some wh∧g.length≤l.length∧(∀ x∈g,x.2=1∧x.1.length=5)∧wh.length≤1∧∀ x∈wh,x.1.length=4:=by
 have hok:okL [b] l=l:=by
  unfold okL
  exact List.filter_eq_self.2 fun x hx=>pickOk_of fun d hd=>by
   rw [List.mem_singleton.1 hd,h4 x hx];omega
 have hp:(sortT [b] l).Perm l:=sort_perm [b] l
 have hlen:=hp.length_eq
 have hfs:Few20 c (sortT [b] l):=fun x hx=>hf x (hp.mem_iff.1 hx)
 obtain ⟨g,hg,hr,hgl,hgn,hgx⟩:=roll_of b c _ (sortT [b] l) rfl (sort_sorted [b] l) hfs (by omega)
 have hgP:groupsP l [b] (cAgg c)=some g:=by unfold groupsP;rw [hok];exact hg
 by_cases h0:l=[]
 ·subst h0
  have e:g=[]:=hgn.2 rfl
  subst e
  exact ⟨[],[],hgP,rfl,rfl,Nat.le_refl _,fun _ h=>absurd h (by simp),by decide,fun _ h=>absurd h (by simp)⟩
 ·have hs0:sortT [b] l≠[]:=fun e=>h0 (by rw [e] at hp;exact List.Perm.nil_eq hp |>.symm)
  have hg0:g≠[]:=fun e=>hs0 (hgn.1 e)
  have hlo:=few_lo1 _ (sortT [b] l) g rfl (sort_sorted [b] l) hfs (by omega) hs0 hg
  rw [talL_perm c hp] at hr
  have hv:=vals_few hf hl
  have ha:=roll_vals hr hf hl hlo
  rw [hv] at ha
  refine ⟨g,_,hgP,by rw [groups_whole _ h0,hv];rfl,by rw [groups_whole _ hg0,ha];rfl,by omega,hgx,Nat.le_refl _,fun x hx=>?_⟩
  rw [List.mem_singleton.1 hx];rfl
theorem lo_le (col:Int):∀ (l:List Tm),∀ x∈l,cellD x.1 col≠eB→ltB (cellD x.1 col) (talL col l).lo=false∧ltB (talL col l).hi (cellD x.1 col)=false
 | [],x,hx,_=>absurd hx (by simp)
 | y::l,x,hx,hne=>by
  rw [talL_cons]
  show ltB (cellD x.1 col) (minT (cellD y.1 col) (talL col l).lo)=false∧ltB (maxT (cellD y.1 col) (talL col l).hi) (cellD x.1 col)=false
  have hmin (a b:ByteArray) (ha:a≠eB):ltB a (minT a b)=false:=by
   unfold minT
   rw [if_neg ha]
   split
   ·exact ltB_irrefl _
   ·split
    ·rename_i h;exact ltB_asym h
    ·exact ltB_irrefl _
  have hmax (a b:ByteArray):ltB (maxT a b) a=false:=by
   unfold maxT
   cases h:ltB a b with
   | true=>rw [if_pos rfl];exact ltB_asym h
   | false=>rw [if_neg (by decide)];exact ltB_irrefl _
  have hle (a b c:ByteArray) (hb:b≠eB) (h:ltB c b=false) (_:c≠eB):ltB c (minT a b)=false:=by
   unfold minT
   by_cases ha:a=eB
   ·rw [if_pos ha];exact h
   ·rw [if_neg ha,if_neg hb]
    by_cases k:ltB b a=true
    ·rw [if_pos k];exact h
    ·rw [if_neg k]
     cases q:ltB c a with
     | false=>rfl
     | true=>rw [lt_le q (by simpa using k)] at h;exact absurd h (by decide)
  have hge (a b c:ByteArray) (h:ltB b c=false):ltB (maxT a b) c=false:=by
   unfold maxT
   cases k:ltB a b with
   | true=>rw [if_pos rfl];exact h
   | false =>
    rw [if_neg (by decide)]
    cases q:ltB a c with
    | false=>rfl
    | true=>exfalso;rw [lt_le q h] at k;exact absurd k (by decide)
  rcases List.mem_cons.1 hx with rfl|hx
  ·exact ⟨hmin _ _ hne,hmax _ _⟩
  ·obtain ⟨h1,h2⟩:=lo_le col l x hx hne
   refine ⟨?_,hge _ _ _ h2⟩
   have hlo:(talL col l).lo≠eB:=fun e=>by
    have hall:∀ (m:List Tm),(talL col m).lo=eB→∀ z∈m,cellD z.1 col=eB:=fun m=>by
     induction m with
     | nil=>intro _ z hz;exact absurd hz (by simp)
     | cons z m ih =>
      intro hh u hu
      have h3:=min_eB.1 (show minT (cellD z.1 col) (talL col m).lo=eB from hh)
      rcases List.mem_cons.1 hu with rfl|hu
      ·exact h3.1
      ·exact ih h3.2 u hu
    exact hne (hall l e x hx)
   exact hle _ _ _ hlo h1 hne
theorem lo_mem (col:Int):∀ l:List Tm,(talL col l).lo≠eB→(∃ x∈l,cellD x.1 col≠eB∧cellD x.1 col=(talL col l).lo)∧∃ x∈l,cellD x.1 col≠eB∧cellD x.1 col=(talL col l).hi
 | [],h=>absurd rfl h
 | y::l,h=>by
  obtain ⟨q1,_⟩:=tal_none col l
  have ih:=lo_mem col l
  rw [talL_cons] at h ⊢
  change minT (cellD y.1 col) (talL col l).lo≠eB at h
  show (∃ x∈y::l,cellD x.1 col≠eB∧cellD x.1 col=minT (cellD y.1 col) (talL col l).lo)∧∃ x∈y::l,cellD x.1 col≠eB∧cellD x.1 col=maxT (cellD y.1 col) (talL col l).hi
  by_cases hy:cellD y.1 col=eB
  ·rw [hy,minT_e] at h
   rw [hy,minT_e,maxT_e]
   obtain ⟨⟨a,ha,h1⟩,b,hb,h2⟩:=ih h
   exact ⟨⟨a,List.mem_cons_of_mem _ ha,h1⟩,b,List.mem_cons_of_mem _ hb,h2⟩
  ·by_cases hl:(talL col l).lo=eB
   ·rw [hl,minT_e2,q1.1 hl,maxT_e2]
    exact ⟨⟨y,List.mem_cons_self ..,hy,rfl⟩,y,List.mem_cons_self ..,hy,rfl⟩
   ·obtain ⟨⟨a,ha,h1⟩,b,hb,h2⟩:=ih hl
    refine ⟨?_,?_⟩
    ·unfold minT
     rw [if_neg hy,if_neg hl]
     split
     ·exact ⟨a,List.mem_cons_of_mem _ ha,h1⟩
     ·exact ⟨y,List.mem_cons_self ..,hy,rfl⟩
    ·unfold maxT
     split
     ·exact ⟨b,List.mem_cons_of_mem _ hb,h2⟩
     ·exact ⟨y,List.mem_cons_self ..,hy,rfl⟩
def splitT (x:Tm):List Tm:=if 1 < x.2 then [(x.1,1),(x.1,x.2-1)] else [x]
theorem split_tal (col:Int)(x:Tm):talL col (splitT x)=tal1 col x:=by
 unfold splitT
 split
 ·rw [talL_cons,talL_one]
  have e1 (a:ByteArray):minT a a=a:=by
   unfold minT
   rw [ltB_irrefl]
   split <;> simp_all
  have e2 (a:ByteArray):maxT a a=a:=by unfold maxT;rw [ltB_irrefl];rfl
  refine Tal.ext' ?_ ?_ (e1 _) (e2 _)
  ·show 1+(x.2-1)=x.2
   omega
  ·show numC (cellD x.1 col)*1+numC (cellD x.1 col)*(x.2-1)=numC (cellD x.1 col)*x.2
   rw [Int.mul_sub]
   omega
 ·exact talL_one col x
theorem splits_tal (col:Int):∀ l:List Tm,talL col (l.flatMap splitT)=talL col l
 | []=>rfl
 | x::l=>by rw [List.flatMap_cons,talL_append,split_tal,splits_tal col l];rfl
theorem split_row {x y:Tm}(h:y∈splitT x):y.1=x.1:=by
 unfold splitT at h
 split at h
 ·simp only [List.mem_cons,List.not_mem_nil,or_false] at h
  rcases h with rfl|rfl <;> rfl
 ·rw [List.mem_singleton.1 h]
theorem split_some (x:Tm):∃ y∈splitT x,y.1=x.1:=by
 unfold splitT
 split
 ·exact ⟨_,List.mem_cons_self ..,rfl⟩
 ·exact ⟨_,List.mem_cons_self ..,rfl⟩
theorem split_filter (p:List ByteArray→Bool):∀ l:List Tm,(l.flatMap splitT).filter (fun x=>p x.1)=(l.filter fun x=>p x.1).flatMap splitT
 | []=>rfl
 | x::l=>by
  rw [List.flatMap_cons,List.filter_append,split_filter p l,List.filter_cons]
  cases h:p x.1 with
  | true =>
   rw [if_pos rfl,List.flatMap_cons,List.filter_eq_self.2 fun y hy=>by rw [split_row hy];exact h]
  | false =>
   rw [if_neg (by decide),List.filter_eq_nil_iff.2 fun y hy=>by rw [split_row hy,h];decide];rfl
def turnL (l:List Tm)(t:Nat):List Tm:=l.drop (t % l.length)++l.take (t % l.length)
theorem turn_perm (l:List Tm)(t:Nat):(turnL l t).Perm l:=List.perm_append_comm.trans (by rw [List.take_append_drop])
theorem turn_length (l:List Tm)(t:Nat):(turnL l t).length=l.length:=(turn_perm l t).length_eq
theorem turn_get (l:List Tm)(t i:Nat)(h:i < l.length):(turnL l t)[i]? = l[(i+t) % l.length]? := by
 have hm:t % l.length < l.length:=Nat.mod_lt _ (by omega)
 have he:(i+t) % l.length=(i+t % l.length) % l.length:=by rw [Nat.add_mod_mod]
 unfold turnL
 rw [he]
 generalize t % l.length=m at *
 by_cases hi:i < l.length-m
 ·have e2:(i+m) % l.length=i+m:=Nat.mod_eq_of_lt (by omega)
  rw [List.getElem?_append_left (by rw [List.length_drop];exact hi),List.getElem?_drop,e2,Nat.add_comm]
 ·have e2:(i+m) % l.length=i+m-l.length:=by rw [Nat.mod_eq_sub_mod (by omega),Nat.mod_eq_of_lt (by omega)]
  rw [List.getElem?_append_right (by rw [List.length_drop];omega),List.getElem?_take,if_pos (by rw [List.length_drop];omega),e2,List.length_drop]
  congr 1
  omega
theorem order_groups (l:List Tm)(t:Nat)(by_:List Int)(gs:List (Int×Int)):groupsP ((turnL l t).flatMap splitT) by_ gs=groupsP l by_ gs:=by
 refine groups_same by_ gs (l:=okL by_ ((turnL l t).flatMap splitT)) (m:=okL by_ l) (fun k=>?_) (fun k col=>?_) (sort_perm by_ _) (sort_perm by_ _) (sort_sorted by_ _) (sort_sorted by_ _)
 ·have hp:=turn_perm l t
  unfold okL
  rw [split_filter (fun r=>pickOk r by_)]
  constructor
  ·rintro ⟨x,hx,e⟩
   obtain ⟨y,hy,hxy⟩:=List.mem_flatMap.1 hx
   refine ⟨y,?_,by rw [←e];unfold keyT;rw [split_row hxy]⟩
   rw [List.mem_filter] at hy ⊢
   exact ⟨hp.mem_iff.1 hy.1,hy.2⟩
  ·rintro ⟨x,hx,e⟩
   obtain ⟨y,hy,hxy⟩:=split_some x
   refine ⟨y,List.mem_flatMap.2 ⟨x,?_,hy⟩,by rw [←e];unfold keyT;rw [hxy]⟩
   rw [List.mem_filter] at hx ⊢
   exact ⟨hp.mem_iff.2 hx.1,hx.2⟩
 ·unfold ofKey okL
  have e1:=split_filter (fun r=>pickOk r by_) (turnL l t)
  have e2:=split_filter (fun r=>decide (pickF r by_=k)) ((turnL l t).filter fun x=>pickOk x.1 by_)
  rw [e1]
  show talL col (List.filter (fun x=>decide (pickF x.1 by_=k)) _)=talL col (List.filter (fun x=>decide (pickF x.1 by_=k)) _)
  rw [e2,splits_tal]
  exact talL_perm col (((turn_perm l t).filter _).filter _)
end Go.Proofs.Ytopeeokjfaampaa
