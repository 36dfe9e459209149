/- The contract of layer 7's Join. -/
import Derived.Test.YtafmbnafibahkaaGreatGVaryRead
import Derived.Test.YtafmbnafibahkaaGreatGStrs
import Derived.Test.YtafmbnafibahkaaGreatGRuns
import Derived.Test.YtafmbnafibahkaaGreatGRepeat
namespace Go.Proofs.YtafmbnafibahkaaGreat
open Go Go.RowKit
def nowOf (ls:List Nat):Bool:=ls.length % 2==1
def bumpLast (ls:List Nat):List Nat:=match ls.getLast? with
 | none=>[]
 | some n=>ls.dropLast++[n+1]
def addGap (ls:List Nat)(x:Bool):List Nat:=if x=nowOf ls then bumpLast ls else ls++[1]
def lensOf (l:List Bool):List Nat:=l.foldl addGap [0]
theorem lensOf_snoc (l:List Bool)(x:Bool):lensOf (l++[x])=addGap (lensOf l) x:=by simp [lensOf,List.foldl_append]
def spreadG:Bool→List Nat→List Bool
 | _,[]=>[]
 | b,n::ls=>List.replicate n b++spreadG (!b) ls
def sumN:List Nat→Nat
 | []=>0
 | n::ls=>n+sumN ls
theorem spreadG_length:∀ (b:Bool)(ls:List Nat),(spreadG b ls).length=sumN ls
 | _,[]=>rfl
 | b,n::ls=>by simp [spreadG,sumN,spreadG_length (!b) ls]
theorem sumN_append (a b:List Nat):sumN (a++b)=sumN a+sumN b:=by
 induction a with
 | nil=>simp [sumN]
 | cons n a ih=>simp [sumN,ih];omega
def flip (b:Bool)(n:Nat):Bool:=if n % 2=1 then !b else b
theorem flip_succ (b:Bool)(n:Nat):flip (!b) n=flip b (n+1):=by
 unfold flip
 rcases Nat.mod_two_eq_zero_or_one n with h|h
 ·rw [if_neg (by omega),if_pos (by omega)]
 ·rw [if_pos h,if_neg (by omega),Bool.not_not]
theorem spreadG_append:∀ (b:Bool)(a c:List Nat),spreadG b (a++c)=spreadG b a++spreadG (flip b a.length) c
 | b,[],c=>rfl
 | b,n::a,c=>by
  simp only [List.cons_append,spreadG,List.length_cons]
  rw [spreadG_append (!b) a c,flip_succ,List.append_assoc]
def GoodG (ls:List Nat):Prop:=∃ n tl,ls=n::tl∧∀ m∈tl,1≤m
theorem GoodG.ne {ls:List Nat}(h:GoodG ls):ls≠[]:=by obtain ⟨n,tl,rfl,_⟩:=h;simp
theorem bump_eq (ls:List Nat)(n:Nat):bumpLast (ls++[n])=ls++[n+1]:=by simp [bumpLast]
theorem nowOf_flip (ls:List Nat)(n:Nat):nowOf (ls++[n])=flip true ls.length:=by
 unfold nowOf flip
 rw [List.length_append]
 rcases Nat.mod_two_eq_zero_or_one ls.length with h|h
 ·rw [if_neg (by omega)];simp;omega
 ·rw [if_pos h];simp;omega
theorem addGap_good (ls:List Nat)(x:Bool)(h:GoodG ls):GoodG (addGap ls x)∧spreadG true (addGap ls x)=spreadG true ls++[x]:=by
 have e:=(List.dropLast_concat_getLast h.ne).symm
 generalize ls.dropLast=a at e
 generalize ls.getLast h.ne=n at e
 have h':=h
 rw [e] at h' ⊢
 have hgood:∀ m,1≤m→GoodG (a++[m]):=by
  intro m hm
  obtain ⟨n0,tl,e1,h1⟩:=h'
  cases a with
  | nil=>exact ⟨m,[],rfl,by simp⟩
  | cons a0 a =>
   simp only [List.cons_append,List.cons.injEq] at e1
   refine ⟨a0,a++[m],rfl,fun k hk=>?_⟩
   rcases List.mem_append.1 hk with hk|hk
   ·exact h1 k (by rw [←e1.2];exact List.mem_append_left _ hk)
   ·simp at hk;omega
 unfold addGap
 split
 ·rename_i hx
  rw [bump_eq]
  refine ⟨hgood _ (by omega),?_⟩
  rw [nowOf_flip] at hx
  rw [spreadG_append,spreadG_append,←hx,List.append_assoc]
  congr 1
  simp [spreadG,List.replicate_succ']
 ·rename_i hx
  constructor
  ·obtain ⟨n0,tl,e1,h1⟩:=h'
   refine ⟨n0,tl++[1],by rw [e1];rfl,fun k hk=>?_⟩
   rcases List.mem_append.1 hk with hk|hk
   ·exact h1 k hk
   ·simp at hk;omega
  ·rw [spreadG_append true (a++[n])]
   congr 1
   rw [nowOf_flip] at hx
   have:flip true (a++[n]).length=x:=by
    rw [List.length_append]
    have:=flip_succ true a.length
    unfold flip at this hx ⊢
    simp only [List.length_cons,List.length_nil] at this ⊢
    rcases Nat.mod_two_eq_zero_or_one a.length with h0|h0
    ·rw [if_neg (by omega)] at hx
     rw [if_pos (by omega)]
     cases x <;> simp_all
    ·rw [if_pos h0] at hx
     rw [if_neg (by omega)]
     cases x <;> simp_all
   rw [this]
   rfl
theorem lensOf_good (l:List Bool):GoodG (lensOf l)∧spreadG true (lensOf l)=l:=by
 induction hn:l.length generalizing l with
 | zero=>have:l=[]:=List.eq_nil_of_length_eq_zero hn;subst this;exact ⟨⟨0,[],rfl,by simp⟩,rfl⟩
 | succ n ih =>
  have hne:l≠[]:=by rintro rfl;simp at hn
  have e:=(List.dropLast_concat_getLast hne).symm
  obtain ⟨h1,h2⟩:=ih l.dropLast (by rw [List.length_dropLast,hn];rfl)
  have h3:=addGap_good _ (l.getLast hne) h1
  rw [h2] at h3
  rw [e,lensOf_snoc]
  exact h3
theorem sumN_lensOf (l:List Bool):sumN (lensOf l)=l.length:=by rw [←spreadG_length true,(lensOf_good l).2]
def gapsB (ls:List Nat):List UInt8:=ls.flatMap vp
def gapsP (l:List Bool):List UInt8:=gapsB (lensOf l)
theorem gapsB_append (a b:List Nat):gapsB (a++b)=gapsB a++gapsB b:=by simp [gapsB]
theorem gapsB_cons (n:Nat)(b:List Nat):gapsB (n::b)=vp n++gapsB b:=by simp [gapsB]
theorem sumN_le {ls:List Nat}:∀ n∈ls,n≤sumN ls:=by
 induction ls with
 | nil=>simp
 | cons m ls ih =>
  intro n hn
  rcases List.mem_cons.1 hn with rfl|hn
  ·simp [sumN]
  ·have:=ih n hn;simp only [sumN];omega
theorem gapsB_tail:∀ (ls ls':List Nat)(r r':List UInt8),(∀ n∈ls,1≤n)→(∀ n∈ls,n < 18446744073709551616)→(∀ n∈ls',n < 18446744073709551616)→sumN ls≤sumN ls'→gapsB ls++r=gapsB ls'++r'→∃ tl,ls'=ls++tl∧r=gapsB tl++r'
 | [],ls',r,r',_,_,_,_,h=>⟨ls',rfl,h⟩
 | n::ls,[],r,r',h1,_,_,hs,_=>by have:=h1 n List.mem_cons_self;simp only [sumN] at hs;omega
 | n::ls,m::ls',r,r',h1,h2,h3,hs,h=>by
  rw [gapsB_cons,gapsB_cons,List.append_assoc,List.append_assoc] at h
  obtain ⟨e,k⟩:=vp_front (h2 n List.mem_cons_self) (h3 m List.mem_cons_self) h
  subst e
  simp only [sumN] at hs
  obtain ⟨tl,e1,e2⟩:=gapsB_tail ls ls' r r' (fun z hz=>h1 z (List.mem_cons_of_mem _ hz)) (fun z hz=>h2 z (List.mem_cons_of_mem _ hz)) (fun z hz=>h3 z (List.mem_cons_of_mem _ hz)) (by omega) k
  exact ⟨tl,by rw [e1];rfl,e2⟩
theorem gapsB_prefix (ls ls':List Nat)(r r':List UInt8)(g:GoodG ls)(g':GoodG ls')(hs:sumN ls≤sumN ls')(hb:sumN ls' < 18446744073709551616)(h:gapsB ls++r=gapsB ls'++r') :
  ∃ tl,ls'=ls++tl∧r=gapsB tl++r'∧∀ n∈tl,1≤n:=by
 obtain ⟨n,tl,rfl,h1⟩:=g
 obtain ⟨m,tl',rfl,h1'⟩:=g'
 have b1:∀ k∈(n::tl),k < 18446744073709551616:=fun k hk=>by have:=sumN_le k hk;omega
 have b2:∀ k∈(m::tl'),k < 18446744073709551616:=fun k hk=>by have:=sumN_le k hk;omega
 rw [gapsB_cons,gapsB_cons,List.append_assoc,List.append_assoc] at h
 obtain ⟨e,k⟩:=vp_front (b1 n List.mem_cons_self) (b2 m List.mem_cons_self) h
 subst e
 simp only [sumN] at hs
 obtain ⟨t,e1,e2⟩:=gapsB_tail tl tl' r r' h1 (fun z hz=>b1 z (List.mem_cons_of_mem _ hz)) (fun z hz=>b2 z (List.mem_cons_of_mem _ hz)) (by omega) k
 exact ⟨t,by rw [e1];rfl,e2,fun z hz=>h1' z (by rw [e1];exact List.mem_append_right _ hz)⟩
theorem tl_nil {tl:List Nat}(h:∀ n∈tl,1≤n)(h0:sumN tl=0):tl=[]:=by
 cases tl with
 | nil=>rfl
 | cons n tl=>have:=h n List.mem_cons_self;simp only [sumN] at h0;omega
theorem goodG_unique (ls ls':List Nat)(g:GoodG ls)(g':GoodG ls')(h:spreadG true ls=spreadG true ls'):ls=ls':=by
 have aux:∀ (b:Bool) (n m:Nat) (tl tl':List Nat),(∀ k∈tl,1≤k)→(∀ k∈tl',1≤k)→n < m→List.replicate n b++spreadG (!b) tl=List.replicate m b++spreadG (!b) tl'→False:=by
  intro b n m tl tl' h1 _ hlt h
  obtain ⟨k,rfl⟩:∃ k,m=n+(k+1):=⟨m-n-1,by omega⟩
  rw [←List.replicate_append_replicate,List.append_assoc] at h
  have h:=List.append_cancel_left h
  cases tl with
  | nil=>simp [spreadG,List.replicate_succ] at h
  | cons q tl =>
   have hq:=h1 q List.mem_cons_self
   obtain ⟨q,rfl⟩:∃ j,q=j+1:=⟨q-1,by omega⟩
   have h0:=congrArg List.head? h
   simp [spreadG,List.replicate_succ] at h0
 have all:∀ (tl tl':List Nat) (b:Bool),(∀ k∈tl,1≤k)→(∀ k∈tl',1≤k)→∀ n n',List.replicate n b++spreadG (!b) tl=List.replicate n' b++spreadG (!b) tl'→n::tl=n'::tl':=by
  intro tl
  induction tl with
  | nil =>
   intro tl' b h1 h2 n n' h
   rcases Nat.lt_trichotomy n n' with hlt|rfl|hlt
   ·exact (aux b n n' _ _ h1 h2 hlt h).elim
   ·have h:=List.append_cancel_left h
    have:=congrArg List.length h
    rw [spreadG_length,spreadG_length] at this
    rw [tl_nil h2 (by simpa [sumN] using this.symm)]
   ·exact (aux b n' n _ _ h2 h1 hlt h.symm).elim
  | cons q tl ih =>
   intro tl' b h1 h2 n n' h
   rcases Nat.lt_trichotomy n n' with hlt|rfl|hlt
   ·exact (aux b n n' _ _ h1 h2 hlt h).elim
   ·have h:=List.append_cancel_left h
    cases tl' with
    | nil =>
     have:=congrArg List.length h
     rw [spreadG_length,spreadG_length] at this
     have:=tl_nil h1 (by simpa [sumN] using this)
     exact absurd this (by simp)
    | cons q' tl' =>
     rw [ih tl' (!b) (fun k hk=>h1 k (List.mem_cons_of_mem _ hk)) (fun k hk=>h2 k (List.mem_cons_of_mem _ hk)) q q' h]
   ·exact (aux b n' n _ _ h2 h1 hlt h.symm).elim
 obtain ⟨n,tl,rfl,h1⟩:=g
 obtain ⟨m,tl',rfl,h1'⟩:=g'
 exact all tl tl' true h1 h1' n m h
theorem lensOf_spread (ls:List Nat)(h:GoodG ls):lensOf (spreadG true ls)=ls:=goodG_unique _ _ (lensOf_good _).1 h (lensOf_good _).2
def GapsAt (s:List UInt8)(many:Int)(l:List Bool)(r:List UInt8):Prop:=0≤many∧many≤4096∧(l.length:Int)=many∧s=gapsP l++r
theorem GapsAt.same {s:List UInt8}{many:Int}{l l':List Bool}{r r':List UInt8}(h:GapsAt s many l r)(k:GapsAt s many l' r'):l=l'∧r=r':=by
 obtain ⟨_,_,h3,h5⟩:=h
 obtain ⟨_,_,k3,k5⟩:=k
 obtain ⟨g,e⟩:=lensOf_good l
 obtain ⟨g',e'⟩:=lensOf_good l'
 obtain ⟨tl,e1,e2,e3⟩:=gapsB_prefix _ _ r r' g g' (by rw [sumN_lensOf,sumN_lensOf];omega) (by rw [sumN_lensOf];omega) (h5.symm.trans k5)
 have hz:sumN tl=0:=by
  have:=congrArg sumN e1
  rw [sumN_append,sumN_lensOf,sumN_lensOf] at this
  omega
 have ht:=tl_nil e3 hz
 subst ht
 rw [List.append_nil] at e1
 exact ⟨by rw [←e,←e',e1],by simpa [gapsB] using e2⟩
def Beg (ls:List Nat):Prop:=ls=[]∨GoodG ls
theorem Beg.snoc {ls:List Nat}(h:Beg ls){n:Nat}(hn:ls≠[]→1≤n):GoodG (ls++[n]):=by
 rcases h with rfl | ⟨m,tl,rfl,h1⟩
 ·exact ⟨n,[],rfl,by simp⟩
 ·refine ⟨m,tl++[n],rfl,fun k hk=>?_⟩
  rcases List.mem_append.1 hk with hk|hk
  ·exact h1 k hk
  ·rw [List.mem_singleton.1 hk];exact hn (by simp)
theorem sumN_snoc (ls:List Nat)(n:Nat):sumN (ls++[n])=sumN ls+n:=by rw [sumN_append];simp [sumN]
theorem gaps_more {ls:List Nat}(hg:Beg ls){s:List UInt8}{cur r:List UInt8}{many:Int}{l:List Bool}(e:s=gapsB ls++cur)(hs:ls=[]∨(sumN ls:Int) < many)(h:GapsAt s many l r) :
  ∃ m rest,m < 18446744073709551616∧cur=vp m++rest∧(m:Int)≤many-sumN ls∧(ls≠[]→1≤m):=by
 obtain ⟨h0,h1,h2,h3⟩:=h
 obtain ⟨g,eg⟩:=lensOf_good l
 have hsum:=sumN_lensOf l
 have hall:=@sumN_le (lensOf l)
 rcases hg with rfl|hg
 ·obtain ⟨m,tl,em,_⟩:=g
  have hm:=hall m (by rw [em];exact List.mem_cons_self)
  refine ⟨m,gapsB tl++r,by omega,?_,by simp only [sumN];omega,fun h=>absurd rfl h⟩
  rw [e] at h3
  rw [show gapsB []++cur=cur from rfl] at h3
  rw [h3]
  unfold gapsP
  rw [em,gapsB_cons,List.append_assoc]
 ·have hlt:(sumN ls:Int) < many:=hs.resolve_left hg.ne
  obtain ⟨tl,e1,e2,e3⟩:=gapsB_prefix ls (lensOf l) cur r hg g (by omega) (by omega) (e.symm.trans h3)
  have hst:sumN (lensOf l)=sumN ls+sumN tl:=by rw [e1,sumN_append]
  cases tl with
  | nil=>simp only [sumN] at hst;omega
  | cons m tl =>
   simp only [sumN] at hst
   exact ⟨m,gapsB tl++r,by omega,by rw [e2,gapsB_cons,List.append_assoc],by omega,fun _=>e3 m List.mem_cons_self⟩
def GState (s:ByteArray)(bad:Bool)(many:Int)(ls:List Nat)(cur:ByteArray)(bb:Bool):Prop :=
 Beg ls∧(sumN ls:Int)≤many∧((bb=false∧bad=false∧s.data.toList=gapsB ls++cur.data.toList)∨(bb=true∧(bad=true∨¬∃ l r,GapsAt s.data.toList many l r)))
theorem GState.first (s:ByteArray)(bad:Bool){many:Int}(h:0≤many):GState s bad many [] s bad:=by
 refine ⟨.inl rfl,by simpa [sumN] using h,?_⟩
 cases bad with
 | false=>exact .inl ⟨rfl,rfl,rfl⟩
 | true=>exact .inr ⟨rfl,.inl rfl⟩
theorem GState.next {s:ByteArray}{bad:Bool}{many:Int}{ls:List Nat}{cur:ByteArray}{bb:Bool}(h:GState s bad many ls cur bb)(hl:ls=[]∨(sumN ls:Int) < many) :
  let Y:=numT cur bb (many-sumN ls)
  (Y.1:Int)≤many-sumN ls∧((Y.2.2=true∨(ls≠[]∧Y.1=0))→(bad=true∨¬∃ l r,GapsAt s.data.toList many l r)) ∧
  ((ls=[]∨Y.1≠0)→GState s bad many (ls++[Y.1]) Y.2.1 Y.2.2):=by
 intro Y
 obtain ⟨hb,hs,h⟩:=h
 have hle:(Y.1:Int)≤many-sumN ls:=numT_le cur bb _ (by omega)
 have hbad:(Y.2.2=true∨(ls≠[]∧Y.1=0))→(bad=true∨¬∃ l r,GapsAt s.data.toList many l r):=by
  intro hY
  rcases h with ⟨rfl,hb0,e⟩ | ⟨_,h⟩
  ·refine .inr ?_
   rintro ⟨l,r,hG⟩
   obtain ⟨m,rest,hm,ec,hm2,hm3⟩:=gaps_more hb e hl hG
   have hcur:cur=printB m++mkB rest:=bytes_ext (by rw [data_append,print_data,mkB_data,ec])
   have hYe:Y=(m,mkB rest,false):=by
    show numT cur false _=_
    rw [hcur];exact numT_print m hm _ _ hm2
   rw [hYe] at hY
   rcases hY with hY | ⟨h1,h2⟩
   ·exact absurd hY (by show ¬false=true;decide)
   ·have:=hm3 h1;simp only at h2;omega
  ·exact h
 refine ⟨hle,hbad,fun hn=>⟨.inr (hb.snoc fun hne=>?_),by rw [sumN_snoc];omega,?_⟩⟩
 ·rcases hn with hn|hn
  ·exact absurd hn hne
  ·omega
 ·cases hY:Y.2.2 with
  | true=>exact .inr ⟨rfl,hbad (.inl hY)⟩
  | false =>
   rcases h with ⟨rfl,hb0,e⟩ | ⟨rfl,h⟩
   ·refine .inl ⟨rfl,hb0,?_⟩
    obtain ⟨_,g⟩:=numT_good hY
    have g':cur.data.toList=vp Y.1++Y.2.1.data.toList:=by
     rw [←print_data,←data_append];exact congrArg (fun x=>x.data.toList) g
    rw [e,g',gapsB_append,List.append_assoc]
    simp [gapsB]
   ·exact absurd (numT_good hY).1 (by decide)
theorem GState.last {s:ByteArray}{bad:Bool}{many:Int}{ls:List Nat}{cur:ByteArray}{bb:Bool}(h:GState s bad many ls cur bb)(hg:GoodG ls)(hl:(sumN ls:Int)=many)(hm:many≤4096) :
  (bb=false∧bad=false∧GapsAt s.data.toList many (spreadG true ls) cur.data.toList)∨(bb=true∧(bad=true∨¬∃ l r,GapsAt s.data.toList many l r)) :=
 h.2.2.imp (fun ⟨h1,h2,h3⟩=>⟨h1,h2,by omega,hm,by rw [spreadG_length];exact hl,by unfold gapsP;rw [lensOf_spread ls hg];exact h3⟩) id
theorem gaps_over {s:List UInt8}{many:Int}(h:many < 0∨4096 < many):¬∃ l r,GapsAt s many l r:=by
 rintro ⟨l,r,h0,h1,_⟩;omega
theorem spread_snoc (ls:List Nat)(n:Nat):spreadG true (ls++[n])=spreadG true ls++List.replicate n (flip true ls.length):=by
 rw [spreadG_append];simp [spreadG]
theorem flip_snoc (ls:List Nat)(n:Nat):flip true (ls++[n]).length = !flip true ls.length:=by
 rw [List.length_append,List.length_singleton,←flip_succ true ls.length]
 unfold flip
 split <;> simp
def GapsEnd (T:TypeId)(w:World)(b:Nat)(s:ByteArray)(bad:Bool)(many:Int)(e:Ending)(w':World):Prop :=
 ∃ v l s' bad',e=.returned v∧BoolsIn w' v l∧Fresh w.heap.size v∧TapeIn T w' b s' bad'∧w.grownBy w' (some b)∧l.length≤4096 ∧
  ((bad'=false∧bad=false∧GapsAt s.data.toList many l s'.data.toList)∨(bad'=true∧(bad=true∨¬∃ l r,GapsAt s.data.toList many l r)))
def GapsReadS (T:TypeId)(w:World)(b:Nat)(s:ByteArray)(bad:Bool)(many:Int)(e:Ending)(w':World):Prop :=
 (∃ v l r,e=.returned v∧bad=false∧GapsAt s.data.toList many l r∧BoolsIn w' v l∧Fresh w.heap.size v∧TapeIn T w' b (mkB r) false∧w.grownBy w' (some b)) ∨
 (e=.returned (.slice none 0 0)∧TapeIn T w' b s true∧w.grownBy w' (some b)∧(bad=true∨¬∃ l r,GapsAt s.data.toList many l r))
def isL (l:List ByteArray):List Bool:=l.map fun c=>decide (c≠⟨#[]⟩)
def fullL (l:List ByteArray):List ByteArray:=l.filter fun c=>decide (c≠⟨#[]⟩)
def cnt (is:List Bool):Nat:=(is.filter id).length
def joinF:List Bool→List ByteArray→List ByteArray
 | [],_=>[]
 | false::is,l=>⟨#[]⟩::joinF is l
 | true::is,[]=>⟨#[]⟩::joinF is []
 | true::is,c::l=>c::joinF is l
theorem joinF_length:∀ (is:List Bool)(l:List ByteArray),(joinF is l).length=is.length
 | [],_=>by simp [joinF]
 | false::is,l=>by simp [joinF,joinF_length is l]
 | true::is,[]=>by simp [joinF,joinF_length is []]
 | true::is,c::l=>by simp [joinF,joinF_length is l]
theorem joinF_yes:∀ (is:List Bool)(l:List ByteArray)(k:Nat),is[k]? = some true→∀ c,l[cnt (is.take k)]? = some c→(joinF is l)[k]? = some c
 | [],_,k,h,_,_=>by simp at h
 | false::is,l,0,h,_,_=>by simp at h
 | true::is,[],0,_,c,hc=>by simp at hc
 | true::is,d::l,0,_,c,hc=>by simpa [joinF,cnt] using hc
 | false::is,l,k+1,h,c,hc=>by
  simp only [joinF,List.getElem?_cons_succ]
  exact joinF_yes is l k (by simpa using h) c (by simpa [cnt] using hc)
 | true::is,[],k+1,_,c,hc=>by simp at hc
 | true::is,d::l,k+1,h,c,hc=>by
  simp only [joinF,List.getElem?_cons_succ]
  exact joinF_yes is l k (by simpa using h) c (by simpa [cnt] using hc)
theorem joinF_no:∀ (is:List Bool)(l:List ByteArray)(k:Nat),is[k]? = some false→(joinF is l)[k]? = some ⟨#[]⟩
 | [],_,k,h=>by simp at h
 | false::is,l,0,_=>by simp [joinF]
 | true::is,[],0,h=>by simp at h
 | true::is,d::l,0,h=>by simp at h
 | false::is,l,k+1,h=>by simp only [joinF,List.getElem?_cons_succ];exact joinF_no is l k (by simpa using h)
 | true::is,[],k+1,h=>by simp only [joinF,List.getElem?_cons_succ];exact joinF_no is [] k (by simpa using h)
 | true::is,d::l,k+1,h=>by simp only [joinF,List.getElem?_cons_succ];exact joinF_no is l k (by simpa using h)
theorem cnt_take (is:List Bool)(k:Nat)(h:k < is.length):cnt (is.take (k+1))=cnt (is.take k)+(if is[k] then 1 else 0):=by
 rw [take_add is k h]
 unfold cnt
 rw [List.filter_append,List.length_append]
 cases is[k] <;> rfl
theorem cnt_le (is:List Bool):cnt is≤is.length:=List.length_filter_le _ _
theorem cnt_take_le (is:List Bool)(k:Nat):cnt (is.take k)≤cnt is:=by
 conv=>rhs;rw [←List.take_append_drop k is]
 unfold cnt
 rw [List.filter_append,List.length_append];omega
theorem isL_length (l:List ByteArray):(isL l).length=l.length:=List.length_map _
theorem cnt_isL (l:List ByteArray):cnt (isL l)=(fullL l).length:=by
 unfold cnt isL fullL
 rw [List.filter_map,List.length_map];rfl
theorem fullL_length (l:List ByteArray):(fullL l).length≤l.length:=List.length_filter_le _ _
theorem joinF_back:∀ (l:List ByteArray),joinF (isL l) (fullL l)=l
 | []=>rfl
 | c::l=>by
  have ih:=joinF_back l
  unfold isL fullL at ih ⊢
  by_cases h:c=⟨#[]⟩
  ·subst h
   rw [List.map_cons,List.filter_cons_of_neg (by simp),show decide ((⟨#[]⟩:ByteArray)≠⟨#[]⟩)=false by simp]
   simp only [joinF,ih]
  ·rw [List.map_cons,List.filter_cons_of_pos (by simpa using h),show decide (c≠⟨#[]⟩)=true by simpa using h]
   simp only [joinF,ih]
def joinL (is:List Bool)(l:List ByteArray):List ByteArray:=if cnt is=l.length then joinF is l else []
def joinOk (is:List Bool)(l:List ByteArray):Bool:=decide (cnt is=l.length)
def gapsT (l:List Bool):ByteArray:=mkB (gapsP l)
def lenB:Value→Nat
 | .slice _ n _=>n
 | _=>0
theorem spread_vals (ls:List Nat)(n:Nat):(spreadG true (ls++[n])).map Value.bool=(spreadG true ls).map Value.bool++List.replicate n (Value.bool (flip true ls.length)):=by
 rw [spread_snoc,List.map_append,List.map_replicate]
set_option maxHeartbeats 1000000 in
set_option maxRecDepth 100000 in
theorem gaps_take_over (b:Nat)(s:ByteArray)(bad:Bool)(many:Int)(h:many < 0∨4096 < many)(w:World)(hT:TapeIn 154 w b s bad) :
  Calls Tryz.prog 184 #[.pointer (some ⟨b,0,none⟩),.int .i64 many] w (GapsEnd 154 w b s bad many):=by
 have hc1:=hT.c1
 have hf1:=hT.f0 1
 have hg:=grown_refl w (some b)
 have HN:=Lib.hid (gaps_over (s:=s.data.toList) h)
 by_cases h0:many < 0
 ·have d1:decide (many < 0)=true:=by rw [decide_eq_true_eq];exact h0
  clear h
  go_enter Tryz.func184,Tryz.ntmps184
  go_wp2
  go_ret
  exact ⟨_,[],s,true,rfl,SliceOf.nil_ _ _ _ _,fresh_nil _,hT.set1 true,grown_set hg _ _,by simp,.inr ⟨rfl,.inr HN.out⟩⟩
 ·have d1:decide (many < 0)=false:=by rw [decide_eq_false_iff_not];exact h0
  have d2:decide (4096 < many)=true:=by rw [decide_eq_true_eq];omega
  clear h
  go_enter Tryz.func184,Tryz.ntmps184
  go_wp2
  go_ret
  exact ⟨_,[],s,true,rfl,SliceOf.nil_ _ _ _ _,fresh_nil _,hT.set1 true,grown_set hg _ _,by simp,.inr ⟨rfl,.inr HN.out⟩⟩
set_option maxHeartbeats 2000000 in
set_option maxRecDepth 100000 in
theorem gaps_take_in (b:Nat)(s:ByteArray)(bad:Bool)(M:Nat)(hM:M≤4096)(w:World)(hT:TapeIn 154 w b s bad) :
  Calls Tryz.prog 184 #[.pointer (some ⟨b,0,none⟩),.int .i64 M] w (GapsEnd 154 w b s bad M):=by
 obtain ⟨i0,hi,hz0,hz1,hz2⟩:=info_parts Tryz.infoS4
 have hbw:=hT.lt
 have hg:=grown_refl w (some b)
 obtain ⟨n1,_,n3⟩:=(GState.first s bad (many:=(M:Int)) (by omega)).next (.inl rfl)
 have n3:=n3 (.inl rfl)
 rw [show ((M:Int)-(sumN []:Nat))=M by simp [sumN]] at n1 n3
 have H1:=Lib.hid (tnum_calls b s bad (M:Int))
 generalize numT s bad (M:Int)=Y at *
 obtain ⟨n,r1,b1⟩:=Y
 simp only [List.nil_append] at n1 n3 H1
 have HS:=Lib.hid n3
 have q1:IntKind.u64.wrap (M:Int)=(M:Int):=wrap_lt _ (by omega)
 have q2:IntKind.i64.wrap (n:Int)=(n:Int):=wrap_i64_nat _ (by omega)
 have hnM:n≤M:=by omega
 have hl0:BoolsIn (w.alloc (.cells #[.bool true] 4)) (.slice (some ⟨w.heap.size,0,none⟩) 1 1) [true]:=lit_ones Value.bool w 4 [true] (by decide)
 clear n1 n3
 go_enter Tryz.func184,Tryz.ntmps184
 go_wp2_with fail
 refine H1.out.stepG (hT.alloc _) (grown_alloc hg _) ?_
 clear hT hg
 intro w3 hT hg hq
 replace hl0:=SliceOf.fresh hl0 (fresh_at (Nat.le_refl w.heap.size)) hq hbw
 clear hq
 go_wp2_with fail
 refine (repeat_bools hl0 n (by omega)).mono ?_
 rintro e w4 ⟨v,rfl,hO,hq⟩
 replace hT:=hT.kept hq
 replace hO:=hO.mono hg.size
 replace hg:=grown_trans hg (grown_below hq _)
 clear hq hl0 H1
 go_wp2
 go_loopw [5,6] (fun v y wr=>∃ ls cur bb,Hid (GState s bad M ls cur bb)∧Hid (GoodG ls)∧sumN ls≤M∧y=.bool (flip true ls.length)∧Own wr w.heap.size 1 v (sumN ls) ((spreadG true ls).map Value.bool)∧TapeIn 154 wr b cur bb∧w.grownBy wr (some b)) (fun v _ _=>M-lenB v)
 case atStart =>
  have e0:sumN [n]=n:=by simp [sumN]
  exact ⟨[n],r1,b1,HS.out,⟨n,[],rfl,by simp⟩,by rw [e0];exact hnM,rfl,by rw [e0];simpa [spreadG] using hO,hT,hg⟩
 case round =>
  clear hT hg HS hO q2 hnM
  obtain ⟨ls,cur,bb,HS,HG,hsl,rfl,hO,hT,hg⟩:=hrel
  obtain ⟨A,cap,rfl⟩:=hO.len
  have c1:=hT.c1
  have f1:=hT.f0 1
  by_cases hlt:sumN ls < M
  ·obtain ⟨n1,n2,n3⟩:=HS.out.next (.inr (by omega))
   have hD:(M:Int)-(sumN ls:Int)=((M-sumN ls:Nat):Int):=by omega
   rw [hD] at n1 n2 n3
   have H1:=Lib.hid (tnum_calls b cur bb ((M-sumN ls:Nat):Int))
   have HNE:=Lib.hid HG.out.ne
   generalize numT cur bb ((M-sumN ls:Nat):Int)=Y at *
   obtain ⟨n,r1,b1⟩:=Y
   simp only at n1 n2 n3 H1
   have q2:IntKind.u64.wrap ((M-sumN ls:Nat):Int)=((M-sumN ls:Nat):Int):=wrap_lt _ (by omega)
   by_cases hn0:n=0
   ·subst hn0
    have HN:=Lib.hid (n2 (.inr ⟨HNE.out,rfl⟩))
    clear n1 n2 n3 HS HG HNE
    generalize sumN ls=K at *
    generalize flip true ls.length=y at *
    go_wp2_with fail
    refine H1.out.stepG hT hg ?_
    clear hT hg c1 f1
    intro w3 hT hg hq
    have c1:=hT.c1
    have f1:=hT.f0 1
    go_wp2
    go_ret
    exact ⟨_,[],r1,true,rfl,SliceOf.nil_ _ _ _ _,fresh_nil _,hT.set1 true,grown_set hg _ _,by simp,.inr ⟨rfl,HN.out⟩⟩
   ·have HSN:=Lib.hid (n3 (.inr hn0))
    have HGN:=Lib.hid (Beg.snoc (ls:=ls) (.inr HG.out) (n:=n) (fun _=>by omega))
    have HSV:=Lib.hid (spread_vals ls n)
    have HSN2:=Lib.hid (sumN_snoc ls n)
    have HFS:=Lib.hid (flip_snoc ls n)
    have dn:((n:Int)==0)=false:=by rw [beq_eq_false_iff_ne];omega
    have q3:IntKind.i64.wrap (n:Int)=(n:Int):=wrap_i64_nat _ (by omega)
    generalize hK:sumN ls=K at *
    generalize hy:flip true ls.length=y at *
    generalize (spreadG true ls).map Value.bool=xs at *
    clear n2 n3 HS HG HNE hK hy
    go_wp2_with fail
    refine H1.out.stepG hT hg ?_
    clear hT hg c1 f1
    intro w3 hT hg hq
    replace hO:=own_aside hO hbw hq
    have hl0:BoolsIn (w3.alloc (.cells #[.bool y] 4)) (.slice (some ⟨w3.heap.size,0,none⟩) 1 1) [y]:=lit_ones Value.bool w3 4 [y] (by show 1≤1000;decide)
    clear hq H1
    go_wp2_with fail
    refine (repeat_bools hl0 n (by omega)).mono ?_
    rintro e w4 ⟨v4,rfl,hO4,hq⟩
    replace hq:=lit_below hq
    replace hT:=hT.kept hq
    replace hO:=hO.later hq
    replace hg:=grown_trans hg (grown_below hq _)
    have hB4:w.heap.size≤w4.heap.size:=hg.size
    have hs4:=hO4.slice
    clear hl0 hq hO4
    go_wp2_with (at_builtin;refine wpList_append_src rfl (.tmp 42) (.tmp 47) 112 rfl 4 i0 (.bool false) 1 1 Tryz.underlying112 hi hz0 hz1 hz2 rfl (by decide) _ K xs rfl hO _ n _ rfl hs4 (one_rep _ _ rfl) (by unfold maxLen;omega) (by omega) hB4 ?_)
    intro v5 w5 hO5 hg5 _
    have hT5:=hT.appended hO hbw hg5
    have hgg:=grown_appended hg hO hg5
    have hlen:lenB v5=K+n:=by obtain ⟨_,_,rfl⟩:=hO5.len;rfl
    clear hO hT hg hg5 hs4
    go_wp2
    go_roundw
    case rel=>exact ⟨ls++[n],r1,b1,HSN.out,HGN.out,by rw [HSN2.out];omega,by rw [HFS.out],by rw [HSN2.out,HSV.out];exact hO5,hT5,hgg⟩
    case measure=>rw [hlen];simp [lenB];omega
  ·have hK:sumN ls=M:=by omega
   have HE:=Lib.hid (HS.out.last HG.out (by omega) (by omega))
   have HL:=Lib.hid (show sumN ls=(spreadG true ls).length from (spreadG_length true ls).symm)
   have HB:=Lib.hid (bools_of hO HL.out)
   have HF:=Lib.hid (fun k hk=>(hO.lt k hk).1)
   clear HS HG hO
   go_wp2
   go_ret
   exact ⟨_,spreadG true ls,cur,bb,rfl,HB.out,HF.out,hT,hg,by rw [←HL.out];omega,HE.out⟩
theorem gaps_take_calls (b:Nat)(s:ByteArray)(bad:Bool)(many:Int)(w:World)(hT:TapeIn 154 w b s bad) :
  Calls Tryz.prog 184 #[.pointer (some ⟨b,0,none⟩),.int .i64 many] w (GapsEnd 154 w b s bad many):=by
 by_cases h:many < 0∨4096 < many
 ·exact gaps_take_over b s bad many h w hT
 ·obtain ⟨M,rfl⟩:∃ M:Nat,many=(M:Int):=⟨many.toNat,by omega⟩
  exact gaps_take_in b s bad M (by omega) w hT
set_option maxHeartbeats 1000000 in
set_option maxRecDepth 100000 in
theorem gaps_read_callsS (b:Nat)(s:ByteArray)(bad:Bool)(many:Int)(w:World)(hT:TapeIn 154 w b s bad) :
  Calls Tryz.prog 169 #[.pointer (some ⟨b,0,none⟩),.int .i64 many] w (GapsReadS 154 w b s bad many):=by
 have hc0:=hT.c0
 have hc1:=hT.c1
 have hbw:=hT.lt
 have HK:=Lib.hid (fun b' w hT=>gaps_take_calls b' s bad many w hT)
 go_enter Tryz.func169,Tryz.ntmps169
 go_wp2_with fail
 refine (HK.out _ _ (box_tape w s bad _)).mono ?_
 rintro e w1 ⟨v,l,r,bad',rfl,hi,hfr,hA,hg,hll,hend⟩
 have hb1:=boxed_below hg
 have hT1:=hT.kept hb1
 have hfr':Fresh (w.heap.size+1) v:=by simpa using hfr
 have hB1:=hb1.size
 have HF:=Lib.hid hfr'
 have HI:=Lib.hid hi
 have HTT:=Lib.hid hT1
 have HBB:=Lib.hid hb1
 have c0:=hT1.c0
 have c1:=hT1.c1
 have a0:=hA.c0
 have a1:=hA.c1
 have f0:=hT1.f0 0
 have f1:=hT1.f0 1
 obtain ⟨A,cap,rfl,_⟩:=one_at hi
 clear hT hc0 hc1 hg hfr hfr' hi
 rcases hend with ⟨rfl,rfl,hS⟩ | ⟨rfl,hN⟩
 ·have HS:=Lib.hid hS
  clear hS
  go_wp2
  go_ret
  have hF2:=Fresh.mono HF.out (show w.heap.size≤w.heap.size+1 by omega)
  refine .inl ⟨_,l,r.data.toList,rfl,rfl,HS.out,?_,hF2,by rw [mkB_of];exact (HTT.out.set0 _).set1 _,grown_set (grown_set (grown_below HBB.out _) _ _) _ _⟩
  exact SliceOf.fresh HI.out HF.out (grown_set (grown_set (grown_refl w1 (some b)) 0 (.string r)) 1 (.bool false)) (by omega)
 ·have HN:=Lib.hid hN
  clear hN
  go_wp2
  go_ret
  exact .inr ⟨rfl,HTT.out.set1 _,grown_set (grown_below HBB.out _) _ _,HN.out⟩
theorem Tryz.infoJ9:(Tryz.prog.info? 9).map (fun i=>(i.zero,i.size,i.bytes))=some (some (.string ⟨#[]⟩),1,16):=by kernel_rfl
def zeroBools (n:Nat):List Value:=List.replicate n (Value.bool false)
theorem isL_take (l:List ByteArray)(k:Nat)(h:k < l.length):isL (l.take (k+1))=isL (l.take k)++[decide (l[k]≠⟨#[]⟩)]:=by
 unfold isL;rw [take_add l k h,List.map_append];rfl
theorem fullL_take (l:List ByteArray)(k:Nat)(h:k < l.length):(l[k]=⟨#[]⟩→fullL (l.take (k+1))=fullL (l.take k))∧(l[k]≠⟨#[]⟩→fullL (l.take (k+1))=fullL (l.take k)++[l[k]]):=by
 unfold fullL
 rw [take_add l k h,List.filter_append]
 refine ⟨fun h=>?_,fun h=>?_⟩
 ·rw [List.filter_cons_of_neg (by simpa using h)];simp
 ·rw [List.filter_cons_of_pos (by simpa using h)];simp
theorem isL_get (l:List ByteArray)(k:Nat)(h:k < l.length):((isL l).map Value.bool)[k]? = some (.bool (decide (l[k]≠⟨#[]⟩))):=by
 unfold isL;rw [List.getElem?_map,List.getElem?_map,List.getElem?_eq_getElem h];rfl
theorem one_newS (w:World)(p:Addr)(v x:Value)(T:TypeId):∀ (j:Nat)(u:Value),[x][j]? = some u→((w.setCell p v).alloc (.cells #[x] T)).cell? ((⟨w.heap.size,0,none⟩:Addr).add j)=some u:=by
 have h:=one_new (w.setCell p v) x T
 rwa [show (w.setCell p v).heap.size=w.heap.size by simp] at h
def SplitEnd (w:World)(l:List ByteArray)(e:Ending)(w':World):Prop :=
 ∃ v1 v2,e=.returned (.tuple #[v1,v2])∧BoolsIn w' v1 (isL l)∧StrsIn w' v2 (fullL l)∧Below w.heap.size w w'
set_option maxHeartbeats 1000000 in
set_option maxRecDepth 100000 in
theorem split_calls {w:World}{v:Value}{l:List ByteArray}(h:StrsIn w v l)(hl:l.length≤1000000):Calls Tryz.prog 113 #[v] w (SplitEnd w l):=by
 obtain ⟨i0,hi,hz0,hz1,hz2⟩:=info_parts Tryz.infoS4
 obtain ⟨j0,hj,jz0,jz1,jz2⟩:=info_parts Tryz.infoJ9
 obtain ⟨hb,hB⟩:=start w
 obtain ⟨A,cap,rfl,hat⟩:=one_at h
 have HAT:=Lib.hid hat
 clear h hat
 go_enter Tryz.func113,Tryz.ntmps113
 go_wp2_with (at_make;refine wpList_make_full _ rfl _ _ 112 rfl w.heap.size 4 i0 (.bool false) 1 Tryz.underlying112 hi hz0 hz1 .i64 .i64 _ _ l.length rfl rfl rfl rfl (by rw [hz2];omega) (by unfold maxLen;omega) hB ?_)
 intro w1 hrow hg1
 rw [toList_madeCells_one] at hrow
 have hO:Own w1 w.heap.size 1 (.slice (some ⟨w.heap.size,0,none⟩) l.length l.length) l.length (zeroBools l.length):=Own.of_row (B:=w.heap.size) hrow (by unfold maxLen;omega) (Nat.le_refl _)
 have hb1:Below w.heap.size w w1:=hb.grown hg1 hB (fun k hk=>by cases hk)
 have hs1:w.heap.size+1≤w1.heap.size:=by have:=hO.lt w.heap.size rfl;omega
 clear hrow hg1 hb hB
 have hX:((isL l).map Value.bool).length=l.length:=by rw [List.length_map,isL_length]
 have hZ:(zeroBools l.length).length=l.length:=List.length_replicate
 have HX:=Lib.hid hX
 have HZ:=Lib.hid hZ
 clear hX hZ
 go_wp2
 go_loopw [5,13] (fun v i wr=>∃ k:Nat,k≤l.length∧i=.int .i64 k∧Own wr w.heap.size 1 (.slice (some ⟨w.heap.size,0,none⟩) l.length l.length) l.length (((isL l).map Value.bool).take k++(zeroBools l.length).drop k)∧Own wr (w.heap.size+1) 1 v (fullL (l.take k)).length ((fullL (l.take k)).map Value.string)∧Below w.heap.size w wr∧w.heap.size+1≤wr.heap.size) (fun _ i _=>l.length-(intOf i).toNat)
 case atStart=>exact ⟨0,Nat.zero_le _,rfl,by simpa using hO,Own.nil_ _ _ _,hb1,hs1⟩
 case round =>
  clear hO hb1 hs1
  obtain ⟨k,hk,rfl,hO,hP,hb,hs⟩:=hrel
  by_cases hlt:k < l.length
  ·obtain ⟨b,off,rfl,hbl,hc⟩:=HAT.out k hlt
   have hx:=(hb.cell (p:=⟨b,off+k,none⟩) hbl).trans (hc k hlt)
   have HF:=Lib.hid (fullL_take l k hlt)
   have HG:=Lib.hid (isL_get l k hlt)
   have hfl:=fullL_length (l.take k)
   rw [List.length_take] at hfl
   obtain ⟨hs1,hs2⟩:=hO.fillCell HX.out HZ.out hlt
   have hz9:(zeroBools l.length)[k]? = some (Value.bool false):=by unfold zeroBools;rw [List.getElem?_replicate,if_pos hlt]
   have hz8:(zeroBools l.length)[k]'(by rw [HZ.out];exact hlt)=Value.bool false:=by unfold zeroBools;rw [List.getElem_replicate]
   rw [hz8] at hs1
   have HO:=Lib.hid hO
   have HP:=Lib.hid hP
   obtain ⟨_,_,rfl⟩:=hP.len
   clear hc hO hP hz8
   generalize l[k]=c at *
   rcases str_ne_cases c ⟨#[]⟩ with ⟨he,g1,g2⟩ | ⟨he,g1,g2⟩
   ·rw [empty_toList] at g1 g2
    have g3:c.toList.isEmpty=true:=by rw [he,empty_toList];rfl
    have HSK:=Lib.hid (fill_skip ((isL l).map Value.bool) (zeroBools l.length) k (by rw [HX.out];exact hlt) (by rw [HX.out,HZ.out]) (HG.out.trans (by rw [hz9,he];rfl)))
    have HFF:=Lib.hid (HF.out.1 he)
    clear hz9 HG hs1 hs2
    go_wp2
    go_roundw
    case rel=>exact ⟨k+1,by omega,by go_num,by rw [←HSK.out];exact HO.out,by rw [HFF.out];exact HP.out,hb,hs⟩
    case measure=>simp [intOf];omega
   ·rw [empty_toList] at g1 g2
    have g3:c.toList.isEmpty=false:=by simpa using g2
    have HFF:=Lib.hid (HF.out.2 he)
    have HO':=Lib.hid (HO.out.filled HX.out HZ.out hlt (u:=.bool true) (HG.out.trans (by rw [decide_eq_true he])))
    have hbb:=hb.setCell (Nat.le_refl w.heap.size) (p:=⟨w.heap.size,k,none⟩) (.bool true)
    have HP':=Lib.hid (own_aside HP.out (Nat.lt_succ_self w.heap.size) (grown_set (grown_refl wr (some w.heap.size)) k (.bool true)))
    have hsz:w.heap.size+1≤(wr.setCell ⟨w.heap.size,k,none⟩ (.bool true)).heap.size:=by simpa using hs
    clear hz9 HG HO HP
    go_wp2_with (at_builtin;refine wpList_append_Own rfl _ _ 44 rfl 9 j0 (.string ⟨#[]⟩) 1 16 Tryz.underlying44 hj jz0 jz1 jz2 rfl (by decide) _ _ _ rfl (Own.alloc HP'.out _) ⟨wr.heap.size,0,none⟩ 1 1 [_] rfl rfl (one_newS _ _ _ _ _) (one_str _) ?c1 ?c2 (Nat.le_trans hsz (by simp)) ?_)
    case c1=>unfold maxLen;omega
    case c2=>omega
    intro v4 w4 hO4 hg4
    have hP1:=Own.alloc HP'.out (.cells #[Value.string c] 9)
    have hlt4:=fun k hk=>(hP1.lt k hk).1
    have HO5:=Lib.hid ((Own.alloc HO'.out (.cells #[Value.string c] 9)).other hg4 (fun k hk e=>by
     simp only [Value.ownBlock,Option.some.injEq] at hk
     have:=hlt4 k e.symm;omega))
    have hb4:=(hbb.alloc (Nat.le_trans (Nat.le_succ _) hsz) (.cells #[Value.string c] 9)).grown hg4 (by have:=hsz;simp at this ⊢;omega) (fun k hk=>by have:=hlt4 k hk;omega)
    have hs4:w.heap.size+1≤w4.heap.size:=Nat.le_trans hsz (Nat.le_trans (by simp) hg4.size)
    have HL4:=Lib.hid (show (fullL (l.take k)++[c]).length=(fullL (l.take k)).length+1 by rw [List.length_append];rfl)
    have HM4:=Lib.hid (show (fullL (l.take k)++[c]).map Value.string=(fullL (l.take k)).map Value.string++[Value.string c] by rw [List.map_append];rfl)
    have HP4:=Lib.hid hO4
    clear hO4 hg4 hP1 hlt4 hbb hb hs hsz HP' HO'
    go_wp2
    go_roundw
    case rel=>exact ⟨k+1,by omega,by go_num,HO5.out,by rw [HFF.out,HL4.out,HM4.out];exact HP4.out,hb4,hs4⟩
    case measure=>simp [intOf];omega
  ·obtain rfl:k=l.length:=by omega
   have h2:=(hO.full HX.out HZ.out).slice
   rw [List.take_length] at hP
   have H3:=Lib.hid hP.slice
   obtain ⟨_,_,rfl⟩:=hP.len
   clear hO hP
   go_wp2
   go_ret2
   refine ⟨_,_,rfl,?_,H3.out,hb⟩
   unfold BoolsIn
   rw [isL_length]
   exact h2
set_option maxHeartbeats 1000000 in
set_option maxRecDepth 100000 in
theorem ref_split_calls {w:World}{v:Value}{l:List ByteArray}(h:StrsIn w v l)(hl:l.length≤1000000):Calls Tryz.prog 94 #[v] w (SplitEnd w l):=by
 obtain ⟨i0,hi,hz0,hz1,hz2⟩:=info_parts Tryz.infoS4
 obtain ⟨j0,hj,jz0,jz1,jz2⟩:=info_parts Tryz.infoJ9
 obtain ⟨hb,hB⟩:=start w
 obtain ⟨A,cap,rfl,hat⟩:=one_at h
 have HAT:=Lib.hid hat
 clear h hat
 go_enter Tryz.func94,Tryz.ntmps94
 go_wp2
 go_loopw [4,5,6] (fun x y i wr=>∃ (k:Nat),k≤l.length∧i=.int .i64 k∧Own wr w.heap.size 1 x k ((isL (l.take k)).map Value.bool)∧Own wr w.heap.size 1 y (fullL (l.take k)).length ((fullL (l.take k)).map Value.string)∧Aside x y∧Below w.heap.size w wr) (fun _ _ i _=>l.length-(intOf i).toNat)
 case atStart=>exact ⟨0,by omega,rfl,Own.nil_ _ _ _,Own.nil_ _ _ _,fun k hk=>by simp [Value.ownBlock] at hk,hb⟩
 case round =>
  clear hb hB
  obtain ⟨k,hk,rfl,hO,hP,hap,hb⟩:=hrel
  have hB:=hb.size
  by_cases hlt:k < l.length
  ·obtain ⟨b,off,rfl,hbl,hc⟩:=HAT.out k hlt
   have hxw:=hc k hlt
   have hx:=(hb.cell (p:=⟨b,off+k,none⟩) hbl).trans hxw
   have HXW:=Lib.hid hxw
   have HF:=Lib.hid (fullL_take l k hlt)
   have HIS:=Lib.hid (show (isL (l.take (k+1))).map Value.bool=(isL (l.take k)).map Value.bool++[Value.bool (decide (l[k]≠⟨#[]⟩))] by rw [isL_take l k hlt,List.map_append];rfl)
   have hfl:=fullL_length (l.take k)
   rw [List.length_take] at hfl
   obtain ⟨A1,p1,rfl⟩:=hO.len
   obtain ⟨A2,p2,rfl⟩:=hP.len
   generalize (isL (l.take k)).map Value.bool=xs at *
   clear hc hxw
   generalize l[k]=c at *
   obtain ⟨g,hg1,hg2⟩:∃ g,c.toList.isEmpty = !g∧decide (c≠⟨#[]⟩)=g:=by
    refine ⟨!c.toList.isEmpty,by simp,?_⟩
    rcases str_ne_cases c ⟨#[]⟩ with ⟨he,_,g2⟩ | ⟨he,_,g2⟩
    ·rw [decide_eq_false (by simpa using he),he,empty_toList];rfl
    ·rw [empty_toList] at g2;rw [decide_eq_true he];simpa using g2.symm
   rw [hg2] at HIS
   have hce:(g=false→c=⟨#[]⟩)∧(g=true→c≠⟨#[]⟩):=by subst hg2;simp
   have HCE:=Lib.hid hce
   clear hg2 hce
   cases g with
   | false =>
    have HFF:=Lib.hid (HF.out.1 (HCE.out.1 rfl))
    go_wp2_with (at_builtin;refine wpList_append_OwnA rfl _ _ 112 rfl 4 i0 (.bool false) 1 1 Tryz.underlying112 hi hz0 hz1 hz2 rfl (by decide) _ _ _ rfl (Own.alloc hO _) ⟨wr.heap.size,0,none⟩ 1 1 [_] rfl rfl (one_new _ _ _) (one_bool _) ?c1 ?c2 (below_alloc hb hB _).2 ?_)
    case c1=>unfold maxLen;omega
    case c2=>omega
    intro v3 w3 hO3 hg3 ha3
    have hb3:=(Own.alloc hO (.cells #[Value.bool false] 4)).grown (below_alloc hb hB _).1 (below_alloc hb hB _).2 hg3
    obtain ⟨hP3,hap3⟩:=own_beside (Own.alloc hP (.cells #[Value.bool false] 4)) hap hg3 (fun k hk=>(ha3 k hk).imp id fun h=>by simpa using h)
    have hx3:=(hb3.cell (p:=⟨b,off+k,none⟩) hbl).trans HXW.out
    have HO3:=Lib.hid hO3
    have HP3:=Lib.hid hP3
    have HAP3:=Lib.hid hap3
    clear hO hP hb hB hap hg3 ha3 hx hO3 hP3 hap3
    go_wp2
    go_roundw
    case rel=>exact ⟨k+1,by omega,by go_num,by rw [HIS.out];exact HO3.out,by rw [HFF.out];exact HP3.out,HAP3.out,hb3⟩
    case measure=>simp [intOf];omega
   | true =>
    have HFF:=Lib.hid (HF.out.2 (HCE.out.2 rfl))
    go_wp2_with (at_builtin;refine wpList_append_OwnA rfl _ _ 112 rfl 4 i0 (.bool false) 1 1 Tryz.underlying112 hi hz0 hz1 hz2 rfl (by decide) _ _ _ rfl (Own.alloc hO _) ⟨wr.heap.size,0,none⟩ 1 1 [_] rfl rfl (one_new _ _ _) (one_bool _) ?c1 ?c2 (below_alloc hb hB _).2 ?_)
    case c1=>unfold maxLen;omega
    case c2=>omega
    intro v3 w3 hO3 hg3 ha3
    have hb3:=(Own.alloc hO (.cells #[Value.bool true] 4)).grown (below_alloc hb hB _).1 (below_alloc hb hB _).2 hg3
    have hB3:=hb3.size
    obtain ⟨hP3,hap3⟩:=own_beside (Own.alloc hP (.cells #[Value.bool true] 4)) hap hg3 (fun k hk=>(ha3 k hk).imp id fun h=>by simpa using h)
    have hx3:=(hb3.cell (p:=⟨b,off+k,none⟩) hbl).trans HXW.out
    obtain ⟨A3,p3,rfl⟩:=hO3.len
    have HO3:=Lib.hid hO3
    have HAP3:=Lib.hid hap3
    clear hO hP hb hB hap hg3 ha3 hx hO3 hap3
    go_wp2_with (at_builtin;refine wpList_append_OwnA rfl _ _ 44 rfl 9 j0 (.string ⟨#[]⟩) 1 16 Tryz.underlying44 hj jz0 jz1 jz2 rfl (by decide) _ _ _ rfl (Own.alloc hP3 _) ⟨w3.heap.size,0,none⟩ 1 1 [_] rfl rfl (one_new _ _ _) (one_str _) ?c3 ?c4 (below_alloc hb3 hB3 _).2 ?_)
    case c3=>unfold maxLen;omega
    case c4=>omega
    intro v5 w5 hP5 hg5 ha5
    have hb5:=(Own.alloc hP3 (.cells #[Value.string c] 9)).grown (below_alloc hb3 hB3 _).1 (below_alloc hb3 hB3 _).2 hg5
    obtain ⟨hO5,hap5⟩:=own_beside (Own.alloc HO3.out (.cells #[Value.string c] 9)) HAP3.out.sym hg5 (fun k hk=>(ha5 k hk).imp id fun h=>by simpa using h)
    have HO5:=Lib.hid hO5
    have HP5:=Lib.hid hP5
    have HAP5:=Lib.hid hap5.sym
    have HL4:=Lib.hid (show (fullL (l.take k)++[c]).length=(fullL (l.take k)).length+1 by rw [List.length_append];rfl)
    have HM4:=Lib.hid (show (fullL (l.take k)++[c]).map Value.string=(fullL (l.take k)).map Value.string++[Value.string c] by rw [List.map_append];rfl)
    clear hP3 hb3 hB3 hx3 hg5 ha5 hO5 hP5 hap5 HO3 HAP3
    go_wp2
    go_roundw
    case rel=>exact ⟨k+1,by omega,by go_num,by rw [HIS.out];exact HO5.out,by rw [HFF.out,HL4.out,HM4.out];exact HP5.out,HAP5.out,hb5⟩
    case measure=>simp [intOf];omega
  ·obtain rfl:k=l.length:=by omega
   rw [List.take_length] at hO hP
   have H3:=Lib.hid (strs_of hP rfl)
   have H2:=Lib.hid (bools_of hO (isL_length l).symm)
   obtain ⟨_,_,rfl⟩:=hO.len
   obtain ⟨_,_,rfl⟩:=hP.len
   clear hO hP hap
   go_wp2
   go_ret2
   exact ⟨_,_,rfl,H2.out,H3.out,hb⟩
def zeroTexts (n:Nat):List Value:=List.replicate n (Value.string ⟨#[]⟩)
theorem joinL_length (is:List Bool)(l:List ByteArray):(joinL is l).length≤is.length:=by
 unfold joinL
 split
 ·rw [joinF_length];exact Nat.le_refl _
 ·simp
def JoinEnd (w:World)(is:List Bool)(l:List ByteArray)(e:Ending)(w':World):Prop :=
 ∃ v,e=.returned (.tuple #[v,.bool (joinOk is l)])∧StrsIn w' v (joinL is l)∧Below w.heap.size w w'
theorem join_no {w w':World}{is:List Bool}{l:List ByteArray}(h:cnt is≠l.length)(hb:Below w.heap.size w w'):JoinEnd w is l (.returned (.tuple #[.slice none 0 0,.bool false])) w':=by
 have e1:joinOk is l=false:=by unfold joinOk;rw [decide_eq_false h]
 have e2:joinL is l=[]:=by unfold joinL;rw [if_neg h]
 exact ⟨_,by rw [e1],by rw [e2];exact SliceOf.nil_ _ _ _ _,hb⟩
theorem join_yes {w w':World}{is:List Bool}{l:List ByteArray}{v:Value}(h:cnt is=l.length)(hv:StrsIn w' v (joinF is l))(hb:Below w.heap.size w w'):JoinEnd w is l (.returned (.tuple #[v,.bool true])) w':=by
 have e1:joinOk is l=true:=by unfold joinOk;rw [decide_eq_true h]
 have e2:joinL is l=joinF is l:=by unfold joinL;rw [if_pos h]
 exact ⟨_,by rw [e1],by rw [e2];exact hv,hb⟩
set_option maxHeartbeats 1000000 in
set_option maxRecDepth 100000 in
theorem join_calls {w:World}{vi v:Value}{is:List Bool}{l:List ByteArray}(hi:BoolsIn w vi is)(h:StrsIn w v l)(hl:l.length≤1000000)(hn:is.length≤1000000) :
  Calls Tryz.prog 172 #[vi,v] w (JoinEnd w is l):=by
 obtain ⟨j0,hj,jz0,jz1,jz2⟩:=info_parts Tryz.infoJ9
 obtain ⟨hb,hB⟩:=start w
 obtain ⟨A1,cap1,rfl,hat1⟩:=one_at hi
 obtain ⟨A2,cap2,rfl,hat2⟩:=one_at h
 have HAT1:=Lib.hid hat1
 have HAT2:=Lib.hid hat2
 clear h hi hat1 hat2
 go_enter Tryz.func172,Tryz.ntmps172
 go_wp2_with (at_make;refine wpList_make_full _ rfl _ _ 44 rfl w.heap.size 9 j0 (.string ⟨#[]⟩) 1 Tryz.underlying44 hj jz0 jz1 .i64 .i64 _ _ is.length rfl rfl rfl rfl (by rw [jz2];omega) (by unfold maxLen;omega) hB ?_)
 intro w1 hrow hg1
 rw [toList_madeCells_one] at hrow
 have hO:Own w1 w.heap.size 1 (.slice (some ⟨w.heap.size,0,none⟩) is.length is.length) is.length (zeroTexts is.length):=Own.of_row (B:=w.heap.size) hrow (by unfold maxLen;omega) (Nat.le_refl _)
 have hb1:Below w.heap.size w w1:=hb.grown hg1 hB (fun k hk=>by cases hk)
 clear hrow hg1 hb hB
 have HX:=Lib.hid (show ((joinF is l).map Value.string).length=is.length by rw [List.length_map,joinF_length])
 have HZ:=Lib.hid (show (zeroTexts is.length).length=is.length from List.length_replicate)
 go_wp2
 go_loopw [7,15] (fun u i wr=>∃ k:Nat,k≤is.length∧i=.int .i64 k∧u=.int .i64 (cnt (is.take k))∧cnt (is.take k)≤l.length∧Own wr w.heap.size 1 (.slice (some ⟨w.heap.size,0,none⟩) is.length is.length) is.length (((joinF is l).map Value.string).take k++(zeroTexts is.length).drop k)∧Below w.heap.size w wr) (fun _ i _=>is.length-(intOf i).toNat)
 case atStart=>exact ⟨0,Nat.zero_le _,rfl,rfl,Nat.zero_le _,by simpa using hO,hb1⟩
 case round =>
  clear hO hb1
  obtain ⟨k,hk,rfl,rfl,hu,hO,hb⟩:=hrel
  by_cases hlt:k < is.length
  ·obtain ⟨b,off,rfl,hbl,hc⟩:=HAT1.out k hlt
   have hx:=(hb.cell (p:=⟨b,off+k,none⟩) hbl).trans (hc k hlt)
   have HC:=Lib.hid (cnt_take is k hlt)
   have HCL:=Lib.hid (cnt_take_le is (k+1))
   have HGET:=Lib.hid (List.getElem?_eq_getElem hlt)
   have HJN:=Lib.hid (joinF_no is l k)
   have HJY:=Lib.hid (joinF_yes is l k)
   obtain ⟨hs1,hs2⟩:=hO.fillCell HX.out HZ.out hlt
   have hz9:(zeroTexts is.length)[k]? = some (Value.string ⟨#[]⟩):=by unfold zeroTexts;rw [List.getElem?_replicate,if_pos hlt]
   have hz8:(zeroTexts is.length)[k]'(by rw [HZ.out];exact hlt)=Value.string ⟨#[]⟩:=by unfold zeroTexts;rw [List.getElem_replicate]
   rw [hz8] at hs1
   have HO:=Lib.hid hO
   clear hc hO hz8
   generalize is[k]=y at *
   cases y with
   | false =>
    have HC0:=Lib.hid (show cnt (is.take (k+1))=cnt (is.take k) from HC.out)
    have HSK:=Lib.hid (fill_skip ((joinF is l).map Value.string) (zeroTexts is.length) k (by rw [HX.out];exact hlt) (by rw [HX.out,HZ.out]) (by rw [hz9,List.getElem?_map,HJN.out HGET.out];rfl))
    clear hz9 hs1 hs2
    go_wp2
    go_roundw
    case rel=>exact ⟨k+1,by omega,by go_num,by rw [HC0.out],by rw [HC0.out];exact hu,by rw [←HSK.out];exact HO.out,hb⟩
    case measure=>simp [intOf];omega
   | true =>
    have HC1:=Lib.hid (show cnt (is.take (k+1))=cnt (is.take k)+1 from HC.out)
    generalize hq:cnt (is.take k)=q at *
    by_cases hql:q < l.length
    ·obtain ⟨b2,off2,rfl,hbl2,hc2⟩:=HAT2.out q hql
     have hx2:=(hb.cell (p:=⟨b2,off2+q,none⟩) hbl2).trans (hc2 q hql)
     have HY:=Lib.hid (HJY.out HGET.out l[q] (by rw [List.getElem?_eq_getElem hql]))
     have HO':=Lib.hid (HO.out.filled HX.out HZ.out hlt (u:=.string l[q]) (by rw [List.getElem?_map,HY.out];rfl))
     have hbb:=hb.setCell (Nat.le_refl w.heap.size) (p:=⟨w.heap.size,k,none⟩) (.string l[q])
     have d1:((q:Int)==(l.length:Int))=false:=by rw [beq_eq_false_iff_ne];omega
     clear hc2 hz9 HJN HJY HY HO
     generalize l[q]=c at *
     go_wp2
     go_roundw
     case rel=>exact ⟨k+1,by omega,by go_num,by rw [HC1.out];go_num,by rw [HC1.out];omega,HO'.out,hbb⟩
     case measure=>simp [intOf];omega
    ·have d1:((q:Int)==(l.length:Int))=true:=by rw [beq_iff_eq];omega
     have HNE:=Lib.hid (show cnt is≠l.length by have h1:=HC1.out;have h2:=HCL.out;omega)
     clear hz9 HJN HJY HO
     go_wp2
     go_ret2
     exact join_no HNE.out hb
  ·obtain rfl:k=is.length:=by omega
   have HT:=Lib.hid (show cnt (is.take is.length)=cnt is by rw [List.take_length])
   rw [List.take_length] at hu ⊢
   generalize hq:cnt is=q at *
   by_cases hql:q < l.length
   ·have HNE:=Lib.hid (show cnt is≠l.length by omega)
    clear hq HT hO
    go_wp2
    go_ret2
    exact join_no HNE.out hb
   ·have HE:=Lib.hid (show cnt is=l.length by omega)
    have H2:=Lib.hid (strs_of (hO.full HX.out HZ.out) (joinF_length is l).symm)
    clear hq HT hO
    go_wp2
    go_ret2
    exact join_yes HE.out H2.out hb
end Go.Proofs.YtafmbnafibahkaaGreat
