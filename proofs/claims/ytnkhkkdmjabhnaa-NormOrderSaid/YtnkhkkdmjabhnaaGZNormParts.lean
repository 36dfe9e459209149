/- What a condition asks at once, as a list of terms; no program. -/
import Derived.Test.YtnkhkkdmjabhnaaGZNormOrder
namespace Go.Proofs.Ytnkhkkdmjabhnaa
open Go Go.RowKit
def trueT:Trm:=.mk 107 0 yesC []
def trueL:List UInt8:=printL trueT
mutual
def leavesT:Trm→List Trm
 | .mk op col cell ks=>if op=38∧ks.length=2 then (leavesTs ks).flatten else if printL (.mk op col cell ks)=trueL then [] else [.mk op col cell ks]
def leavesTs:List Trm→List (List Trm)
 | []=>[]
 | k::ks=>leavesT k::leavesTs ks
end
theorem leavesTs_map:∀ ks,leavesTs ks=ks.map leavesT
 | []=>by rw [leavesTs];rfl
 | k::ks=>by rw [leavesTs,leavesTs_map ks];rfl
theorem leaves_eq (t:Trm):leavesT t=if t.op=38∧t.kids.length=2 then (t.kids.map leavesT).flatten else if printL t=trueL then [] else [t]:=by
 cases t with
 | mk o c b ks=>rw [leavesT,leavesTs_map];rfl
theorem leaves_and (c:Int)(x:ByteArray)(a b:Trm):leavesT (.mk 38 c x [a,b])=leavesT a++leavesT b:=by
 rw [leaves_eq,if_pos ⟨rfl,rfl⟩]
 show ([leavesT a,leavesT b]:List (List Trm)).flatten=_
 simp
def ltP (a b:Trm):Bool:=Op.bytesLess (printL a) (printL b)
def RisesT (l:List Trm):Prop:=l.Pairwise fun a b=>ltP a b=true
def insT:List Trm→Trm→List Trm
 | [],c=>[c]
 | w::ws,c=>if ltP w c=true then w::insT ws c else if printL w=printL c then w::ws else c::w::ws
def atP (l:List Trm)(p:List UInt8):Option Trm:=l.find? fun x=>decide (printL x=p)
theorem atP_nil (p:List UInt8):atP [] p=none:=rfl
theorem atP_cons (x:Trm)(l:List Trm)(p:List UInt8):atP (x::l) p=if printL x=p then some x else atP l p:=by
 unfold atP
 rw [List.find?_cons]
 by_cases h:printL x=p
 ·rw [if_pos h,decide_eq_true h]
 ·rw [if_neg h,decide_eq_false h]
theorem atP_append (a b:List Trm)(p:List UInt8):atP (a++b) p=(atP a p).or (atP b p):=List.find?_append
theorem atP_none {l:List Trm}{p:List UInt8}:atP l p=none↔∀ x∈l,printL x≠p:=by
 unfold atP
 rw [List.find?_eq_none]
 exact ⟨fun h x hx e=>h x hx (decide_eq_true e),fun h x hx e=>h x hx (of_decide_eq_true e)⟩
theorem atP_some {l:List Trm}{p:List UInt8}{x:Trm}(h:atP l p=some x):x∈l∧printL x=p :=
 ⟨List.mem_of_find?_eq_some h,of_decide_eq_true (List.find?_some (p:=fun x=>decide (printL x=p)) h)⟩
theorem ltP_tri {a b:Trm}(h:ltP a b≠true)(k:printL a≠printL b):ltP b a=true:=by
 cases hb:ltP b a with
 | true=>rfl
 | false =>
  have ha:ltP a b=false:=by
   cases he:ltP a b with
   | true=>exact absurd he h
   | false=>rfl
  exact absurd (bl_tri _ _ ha hb) k
theorem ltP_ne {a b:Trm}(h:ltP a b=true):printL a≠printL b:=fun e=>by
 unfold ltP at h
 rw [e,bl_irrefl] at h
 exact absurd h (by decide)
theorem ltP_trans {a b c:Trm}(h:ltP a b=true)(k:ltP b c=true):ltP a c=true:=bl_trans _ _ _ h k
theorem mem_insT {l:List Trm}{c x:Trm}(h:x∈insT l c):x∈l∨x=c:=by
 induction l with
 | nil=>exact .inr (List.mem_singleton.1 h)
 | cons w ws ih =>
  unfold insT at h
  split at h
  ·rcases List.mem_cons.1 h with rfl|h
   ·exact .inl List.mem_cons_self
   ·rcases ih h with h|h
    ·exact .inl (List.mem_cons_of_mem _ h)
    ·exact .inr h
  ·split at h
   ·exact .inl h
   ·rcases List.mem_cons.1 h with rfl|h
    ·exact .inr rfl
    ·exact .inl h
theorem rises_insT {l:List Trm}(c:Trm)(h:RisesT l):RisesT (insT l c):=by
 induction l with
 | nil=>exact List.pairwise_singleton _ _
 | cons w ws ih =>
  obtain ⟨h1,h2⟩:=List.pairwise_cons.1 h
  unfold insT
  split
  ·rename_i hw
   refine List.pairwise_cons.2 ⟨fun x hx=>?_,ih h2⟩
   rcases mem_insT hx with hx|rfl
   ·exact h1 x hx
   ·exact hw
  ·split
   ·exact h
   ·rename_i h3 h4
    have hcw:=ltP_tri h3 h4
    refine List.pairwise_cons.2 ⟨fun x hx=>?_,h⟩
    rcases List.mem_cons.1 hx with rfl|hx
    ·exact hcw
    ·exact ltP_trans hcw (h1 x hx)
theorem at_insT {l:List Trm}(c:Trm)(h:RisesT l)(p:List UInt8):atP (insT l c) p=atP (l++[c]) p:=by
 induction l with
 | nil=>rfl
 | cons w ws ih =>
  obtain ⟨h1,h2⟩:=List.pairwise_cons.1 h
  unfold insT
  split
  ·rw [List.cons_append,atP_cons,atP_cons,ih h2]
  ·split
   ·rename_i h4
    rw [atP_append,atP_cons,atP_cons,atP_nil]
    by_cases e:printL w=p
    ·rw [if_pos e];rfl
    ·rw [if_neg e,if_neg (by rw [←h4];exact e),Option.or_none]
   ·rename_i h3 h4
    have hcw:=ltP_tri h3 h4
    rw [atP_append,atP_cons,atP_cons c,atP_nil]
    by_cases e:printL c=p
    ·rw [if_pos e,if_pos e]
     have:atP (w::ws) p=none:=by
      rw [atP_none]
      intro x hx e2
      rcases List.mem_cons.1 hx with rfl|hx
      ·exact ltP_ne hcw (by rw [e,e2])
      ·exact ltP_ne (ltP_trans hcw (h1 x hx)) (by rw [e,e2])
     rw [this];rfl
    ·rw [if_neg e,if_neg e,Option.or_none]
theorem fold_insT:∀ (l s:List Trm),RisesT s→RisesT (l.foldl insT s)∧(∀ p,atP (l.foldl insT s) p=atP (s++l) p)∧∀ x∈l.foldl insT s,x∈s∨x∈l
 | [],s,h=>⟨h,fun p=>by rw [List.foldl_nil,List.append_nil],fun x hx=>.inl hx⟩
 | c::l,s,h=>by
  obtain ⟨h1,h2,h3⟩:=fold_insT l (insT s c) (rises_insT c h)
  refine ⟨h1,fun p=>?_,fun x hx=>?_⟩
  ·rw [List.foldl_cons,h2,atP_append,at_insT c h,←atP_append,List.append_assoc]
   rfl
  ·rcases h3 x hx with h4|h4
   ·rcases mem_insT h4 with h5|rfl
    ·exact .inl h5
    ·exact .inr List.mem_cons_self
   ·exact .inr (List.mem_cons_of_mem _ h4)
theorem rises_one:∀ (a b:List Trm),RisesT a→RisesT b→(∀ p,atP a p=atP b p)→a=b
 | [],[],_,_,_=>rfl
 | [],y::b,_,_,h=>by
  have:=h (printL y)
  rw [atP_nil,atP_cons,if_pos rfl] at this
  exact absurd this (by simp)
 | x::a,[],_,_,h=>by
  have:=h (printL x)
  rw [atP_nil,atP_cons,if_pos rfl] at this
  exact absurd this (by simp)
 | x::a,y::b,ha,hb,h=>by
  obtain ⟨a1,a2⟩:=List.pairwise_cons.1 ha
  obtain ⟨b1,b2⟩:=List.pairwise_cons.1 hb
  have hx:=h (printL x)
  have hy:=h (printL y)
  rw [atP_cons,if_pos rfl,atP_cons] at hx
  rw [atP_cons,atP_cons y,if_pos rfl] at hy
  have hxy:x=y:=by
   by_cases e:printL y=printL x
   ·rw [if_pos e] at hx;exact Option.some.inj hx
   ·rw [if_neg e] at hx
    rw [if_neg (Ne.symm e)] at hy
    have p:=b1 x (atP_some hx.symm).1
    have q:=a1 y (atP_some hy).1
    have:=ltP_trans p q
    unfold ltP at this
    rw [bl_irrefl] at this
    exact absurd this (by decide)
  subst hxy
  rw [rises_one a b a2 b2 fun p=>?_]
  by_cases e:printL x=p
  ·have na:atP a p=none:=atP_none.2 fun z hz e2=>ltP_ne (a1 z hz) (by rw [e,e2])
   have nb:atP b p=none:=atP_none.2 fun z hz e2=>ltP_ne (b1 z hz) (by rw [e,e2])
   rw [na,nb]
  ·have:=h p
   rwa [atP_cons,atP_cons,if_neg e,if_neg e] at this
def partsT (t:Trm):List Trm:=(leavesT t).foldl insT []
theorem parts_rise (t:Trm):RisesT (partsT t):=(fold_insT (leavesT t) [] List.Pairwise.nil).1
theorem parts_at (t:Trm)(p:List UInt8):atP (partsT t) p=atP (leavesT t) p:=(fold_insT (leavesT t) [] List.Pairwise.nil).2.1 p
theorem parts_leaf {t x:Trm}(h:x∈partsT t):x∈leavesT t:=by
 rcases (fold_insT (leavesT t) [] List.Pairwise.nil).2.2 x h with h|h
 ·exact absurd h (by simp)
 ·exact h
theorem parts_one {t:Trm}{l:List Trm}(h:RisesT l)(k:∀ p,atP l p=atP (leavesT t) p):l=partsT t:=rises_one _ _ h (parts_rise t) fun p=>by rw [k,parts_at]
theorem parts_and (c:Int)(x:ByteArray)(a b:Trm):partsT (.mk 38 c x [a,b])=(partsT b).foldl insT (partsT a):=by
 obtain ⟨h1,h2,_⟩:=fold_insT (partsT b) (partsT a) (parts_rise a)
 refine (parts_one h1 fun p=>?_).symm
 rw [h2,atP_append,parts_at,parts_at,←atP_append,leaves_and]
theorem parts_other {t:Trm}(h:¬(t.op=38∧t.kids.length=2)):partsT t=if printL t=trueL then [] else [t]:=by
 unfold partsT
 rw [leaves_eq,if_neg h]
 split <;> rfl
theorem leaves_ok:∀ t,OkA t→∀ x∈leavesT t,OkA x∧¬(x.op=38∧x.kids.length=2)∧printL x≠trueL:=by
 intro t
 induction t using Trm.ind with
 | h t ih =>
  intro ht x hx
  rw [leaves_eq] at hx
  split at hx
  ·rw [List.mem_flatten] at hx
   obtain ⟨l,hl,hx⟩:=hx
   obtain ⟨k,hk,rfl⟩:=List.mem_map.1 hl
   exact ih k hk (ht.kid hk) x hx
  ·split at hx
   ·exact absurd hx (by simp)
   ·rename_i h1 h2
    rw [List.mem_singleton.1 hx]
    exact ⟨ht,h1,h2⟩
theorem leaves_self {x:Trm}(h:¬(x.op=38∧x.kids.length=2))(k:printL x≠trueL):leavesT x=[x]:=by
 rw [leaves_eq,if_neg h,if_neg k]
theorem leaf_at {t x:Trm}(h:x∈leavesT t):∃ y∈partsT t,printL y=printL x:=by
 cases hp:atP (partsT t) (printL x) with
 | none =>
  rw [parts_at,atP_none] at hp
  exact absurd rfl (hp x h)
 | some y=>exact ⟨y,atP_some hp⟩
theorem mem_prints (t:Trm)(p:List UInt8):p∈(partsT t).map printL↔p∈(leavesT t).map printL:=by
 rw [List.mem_map,List.mem_map]
 constructor
 ·rintro ⟨x,hx,e⟩;exact ⟨x,parts_leaf hx,e⟩
 ·rintro ⟨x,hx,e⟩
  obtain ⟨y,hy,e2⟩:=leaf_at hx
  exact ⟨y,hy,e2.trans e⟩
def RisesL (l:List (List UInt8)):Prop:=l.Pairwise fun a b=>Op.bytesLess a b=true
theorem prints_rise (t:Trm):RisesL ((partsT t).map printL):=by
 unfold RisesL
 rw [List.pairwise_map]
 exact parts_rise t
theorem risesL_one:∀ (a b:List (List UInt8)),RisesL a→RisesL b→(∀ x,x∈a↔x∈b)→a=b
 | [],[],_,_,_=>rfl
 | [],y::b,_,_,h=>absurd ((h y).2 List.mem_cons_self) (by simp)
 | x::a,[],_,_,h=>absurd ((h x).1 List.mem_cons_self) (by simp)
 | x::a,y::b,ha,hb,h=>by
  obtain ⟨a1,a2⟩:=List.pairwise_cons.1 ha
  obtain ⟨b1,b2⟩:=List.pairwise_cons.1 hb
  have hxy:x=y:=by
   rcases List.mem_cons.1 ((h x).1 List.mem_cons_self) with e|hx
   ·exact e
   ·rcases List.mem_cons.1 ((h y).2 List.mem_cons_self) with e|hy
    ·exact e.symm
    ·have:=bl_trans _ _ _ (a1 y hy) (b1 x hx)
     rw [bl_irrefl] at this
     exact absurd this (by decide)
  subst hxy
  have ne:∀ z,Op.bytesLess x z=true→z≠x:=fun z hz e=>by
   rw [e,bl_irrefl] at hz
   exact absurd hz (by decide)
  rw [risesL_one a b a2 b2 fun z=>?_]
  constructor
  ·intro hz
   rcases List.mem_cons.1 ((h z).1 (List.mem_cons_of_mem _ hz)) with e|hz'
   ·exact absurd e (ne z (a1 z hz))
   ·exact hz'
  ·intro hz
   rcases List.mem_cons.1 ((h z).2 (List.mem_cons_of_mem _ hz)) with e|hz'
   ·exact absurd e (ne z (b1 z hz))
   ·exact hz'
theorem prints_one {t u:Trm}(h:∀ p,p∈(leavesT t).map printL↔p∈(leavesT u).map printL):(partsT t).map printL=(partsT u).map printL :=
 risesL_one _ _ (prints_rise t) (prints_rise u) fun p=>by rw [mem_prints,mem_prints];exact h p
theorem insT_length (l:List Trm)(c:Trm):l.length≤(insT l c).length∧(insT l c).length≤l.length+1:=by
 induction l with
 | nil=>simp [insT]
 | cons w ws ih =>
  unfold insT
  split
  ·simp only [List.length_cons];omega
  ·split <;> simp
theorem fold_length:∀ (l s:List Trm),s.length≤(l.foldl insT s).length∧(l.foldl insT s).length≤s.length+l.length
 | [],s=>by simp
 | c::l,s=>by
  have h1:=insT_length s c
  have h2:=fold_length l (insT s c)
  rw [List.foldl_cons,List.length_cons]
  omega
def andT (a b:Trm):Trm:=.mk 38 0 noC [a,b]
def joinT:List Trm→Trm
 | []=>trueT
 | x::l=>l.foldl andT x
theorem join_snoc (x:Trm)(l:List Trm)(y:Trm):joinT (x::(l++[y]))=andT (joinT (x::l)) y:=by
 show (l++[y]).foldl andT x=andT (l.foldl andT x) y
 rw [List.foldl_append]
 rfl
theorem leaves_fold:∀ (l:List Trm)(x:Trm),(∀ y∈l,leavesT y=[y])→leavesT (l.foldl andT x)=leavesT x++l
 | [],x,_=>by simp
 | y::l,x,h=>by
  rw [List.foldl_cons,leaves_fold l _ fun z hz=>h z (List.mem_cons_of_mem _ hz)]
  unfold andT
  rw [leaves_and,h y List.mem_cons_self,List.append_assoc]
  rfl
theorem leaves_true:leavesT trueT=[]:=by
 rw [leaves_eq,if_neg (by rintro ⟨h,_⟩;exact absurd h (by decide)),if_pos (show printL trueT=trueL from rfl)]
theorem leaves_join {l:List Trm}(h:∀ y∈l,leavesT y=[y]):leavesT (joinT l)=l:=by
 cases l with
 | nil=>exact leaves_true
 | cons x l =>
  show leavesT (l.foldl andT x)=_
  rw [leaves_fold l x fun y hy=>h y (List.mem_cons_of_mem _ hy),h x List.mem_cons_self]
  rfl
theorem parts_join {t:Trm}(ht:OkA t):partsT (joinT (partsT t))=partsT t:=by
 refine (parts_one (parts_rise t) fun p=>?_).symm
 rw [leaves_join fun y hy=>?_]
 have:=leaves_ok t ht y (parts_leaf hy)
 exact leaves_self this.2.1 this.2.2
theorem both_iff (a b:ByteArray):bothC a b=yesC↔a=yesC∧b=yesC:=by
 have hny:nayC≠yesC:=by decide +kernel
 have hoy:noC≠yesC:=by decide +kernel
 unfold bothC
 by_cases h:a=nayC∨b=nayC
 ·rw [if_pos h]
  refine ⟨fun e=>absurd e hny,fun ⟨e1,e2⟩=>?_⟩
  rcases h with h|h
  ·exact absurd (h.symm.trans e1) hny
  ·exact absurd (h.symm.trans e2) hny
 ·rw [if_neg h]
  by_cases k:a=yesC∧b=yesC
  ·rw [if_pos k];exact ⟨fun _=>k,fun _=>rfl⟩
  ·rw [if_neg k];exact ⟨fun e=>absurd e hoy,fun e=>absurd e k⟩
theorem eval_and (row:List ByteArray)(c:Int)(x:ByteArray)(a b:Trm):evalT row (.mk 38 c x [a,b])=bothC (evalT row a) (evalT row b):=by
 rw [eval_eq]
 show opC row 38 c x (kidC row (.mk 38 c x [a,b]) 0) (kidC row (.mk 38 c x [a,b]) 1)=_
 unfold opC
 rw [if_neg (show ¬(38:Int)=99 by decide),if_neg (show ¬(38:Int)=107 by decide),if_neg (show ¬(38:Int)=61 by decide),if_neg (show ¬(38:Int)=60 by decide),if_pos rfl]
 rfl
theorem true_ok:OkA trueT:=.mk ⟨by decide,by decide,by decide,by decide⟩ fun k hk=>absurd hk (by simp [trueT,Trm.kids])
theorem eval_true (row:List ByteArray):evalT row trueT=yesC:=by
 rw [eval_eq];rfl
theorem eval_leaves (row:List ByteArray):∀ t,OkA t→(evalT row t=yesC↔∀ x∈leavesT t,evalT row x=yesC):=by
 intro t
 induction t using Trm.ind with
 | h t ih =>
  intro ht
  by_cases h:t.op=38∧t.kids.length=2
  ·obtain ⟨op,col,cell,ks⟩:=t
   obtain ⟨h1,h2⟩:=h
   replace h1:op=38:=h1
   replace h2:ks.length=2:=h2
   subst h1
   match ks,h2 with
   | [a,b],_ =>
    rw [eval_and,both_iff,leaves_and,ih a (by simp [Trm.kids]) (ht.kid (by simp [Trm.kids])),ih b (by simp [Trm.kids]) (ht.kid (by simp [Trm.kids]))]
    simp only [List.mem_append]
    exact ⟨fun ⟨p,q⟩ x hx=>hx.elim (p x) (q x),fun p=>⟨fun x hx=>p x (.inl hx),fun x hx=>p x (.inr hx)⟩⟩
  ·rw [leaves_eq,if_neg h]
   by_cases k:printL t=trueL
   ·rw [if_pos k]
    refine ⟨fun _ x hx=>absurd hx (by simp),fun _=>?_⟩
    rw [print_eval row t ht trueT true_ok k,eval_true]
   ·rw [if_neg k]
    simp
theorem eval_parts (row:List ByteArray){t:Trm}(ht:OkA t):evalT row t=yesC↔∀ x∈partsT t,evalT row x=yesC:=by
 rw [eval_leaves row t ht]
 constructor
 ·exact fun h x hx=>h x (parts_leaf hx)
 ·intro h x hx
  obtain ⟨y,hy,e⟩:=leaf_at hx
  rw [print_eval row x (leaves_ok t ht x hx).1 y (leaves_ok t ht y (parts_leaf hy)).1 e.symm]
  exact h y hy
theorem eval_fold (row:List ByteArray):∀ (l:List Trm)(x:Trm),evalT row (l.foldl andT x)=yesC↔evalT row x=yesC∧∀ y∈l,evalT row y=yesC
 | [],x=>by simp
 | y::l,x=>by
  rw [List.foldl_cons,eval_fold row l]
  unfold andT
  rw [eval_and,both_iff]
  simp only [List.mem_cons,forall_eq_or_imp]
  exact ⟨fun h=>⟨h.1.1,h.1.2,h.2⟩,fun h=>⟨⟨h.1,h.2.1⟩,h.2.2⟩⟩
theorem eval_join (row:List ByteArray)(l:List Trm):evalT row (joinT l)=yesC↔∀ x∈l,evalT row x=yesC:=by
 cases l with
 | nil=>simp [joinT,eval_true]
 | cons x l =>
  show evalT row (l.foldl andT x)=yesC↔_
  rw [eval_fold]
  simp
end Go.Proofs.Ytnkhkkdmjabhnaa
