/- What a condition asks at once: a term's bytes, and what they tell; no program. -/
import Derived.Test.YtnkhkkdmjabhnaaGVary
import Derived.Test.YtnkhkkdmjabhnaaGZTermPure
import Derived.Test.YtnkhkkdmjabhnaaGShelf
namespace Go.Proofs.Ytnkhkkdmjabhnaa
open Go Go.RowKit
inductive OkA:Trm→Prop
 | mk {t:Trm}:okT t→(∀ k∈t.kids,OkA k)→OkA t
theorem OkA.ok {t:Trm}(h:OkA t):okT t:=by cases h;assumption
theorem OkA.kid {t k:Trm}(h:OkA t)(hk:k∈t.kids):OkA k:=by cases h with|mk _ h2=>exact h2 k hk
def fieldL (op col:Int)(cell:ByteArray):List UInt8:=if op=99 then vp (foldI col).toNat else if op=107 then vp cell.size++cell.data.toList else []
def headL (op col:Int)(cell:ByteArray)(n:Nat):List UInt8:=UInt8.ofNat op.toNat::(fieldL op col cell++vp n)
def swapL (op:Int):List (List UInt8)→List (List UInt8)
 | [a,b]=>if op=61∧Op.bytesLess b a=true then [b,a] else [a,b]
 | l=>l
mutual
def printL:Trm→List UInt8
 | .mk op col cell ks=>headL op col cell ks.length++(swapL op (printLs ks)).flatten
def printLs:List Trm→List (List UInt8)
 | []=>[]
 | k::ks=>printL k::printLs ks
end
theorem printLs_map:∀ ks,printLs ks=ks.map printL
 | []=>by rw [printLs];rfl
 | k::ks=>by rw [printLs,printLs_map ks];rfl
theorem printL_eq (t:Trm):printL t=headL t.op t.col t.cell t.kids.length++(swapL t.op (t.kids.map printL)).flatten:=by
 cases t with
 | mk o c b ks=>rw [printL,printLs_map];rfl
theorem vp_front {a b:Nat}{r s:List UInt8}(h:vp a++r=vp b++s):a=b∧r=s:=by
 obtain ⟨x,c,e,h1,h2,_⟩:=vp_form a
 obtain ⟨y,d,f,k1,k2,_⟩:=vp_form b
 have s1:stopAt (vp a++r)=x.length:=by rw [e,List.append_assoc];exact stopAt_form x c r h1 h2
 have s2:stopAt (vp b++s)=y.length:=by rw [f,List.append_assoc];exact stopAt_form y d s k1 k2
 have l1:(vp a).length=x.length+1:=by rw [e];simp
 have l2:(vp b).length=y.length+1:=by rw [f];simp
 have hl:(vp a).length=(vp b).length:=by
  rw [h,s2] at s1
  omega
 obtain ⟨e1,e2⟩:=List.append_inj h hl
 refine ⟨?_,e2⟩
 have:=congrArg val7 e1
 rwa [val7_vp,val7_vp] at this
theorem byte_op {a b:Int}(h0:0≤a)(h1:a≤255)(k0:0≤b)(k1:b≤255)(h:UInt8.ofNat a.toNat=UInt8.ofNat b.toNat):a=b:=by
 have:=congrArg UInt8.toNat h
 rw [toNat_ofNat (by omega),toNat_ofNat (by omega)] at this
 omega
theorem head_front {t u:Trm}(ht:okT t)(hu:okT u){n m:Nat}{r s:List UInt8}(h:headL t.op t.col t.cell n++r=headL u.op u.col u.cell m++s) :
  t.op=u.op∧(t.op=99→t.col=u.col)∧(t.op=107→t.cell=u.cell)∧n=m∧headL t.op t.col t.cell n=headL u.op u.col u.cell m∧r=s:=by
 obtain ⟨t0,t1,t2,t3⟩:=ht
 obtain ⟨u0,u1,u2,u3⟩:=hu
 unfold headL at h
 rw [List.cons_append,List.cons_append,List.cons.injEq,List.append_assoc,List.append_assoc] at h
 obtain ⟨e1,h⟩:=h
 have eo:=byte_op t0 t1 u0 u1 e1
 by_cases h99:t.op=99
 ·have u99:u.op=99:=by omega
  unfold fieldL at h
  rw [if_pos h99,if_pos u99] at h
  obtain ⟨a1,h⟩:=vp_front h
  obtain ⟨a2,h⟩:=vp_front h
  have hc:t.col=u.col:=by
   have:=congrArg openI a1
   rwa [open_fold,open_fold] at this
  refine ⟨eo,fun _=>hc,fun h=>by omega,a2,?_,h⟩
  unfold headL fieldL
  rw [if_pos h99,if_pos u99,hc,a2,eo]
 ·by_cases h107:t.op=107
  ·have u99:¬u.op=99:=by omega
   have u107:u.op=107:=by omega
   unfold fieldL at h
   rw [if_neg h99,if_neg u99,if_pos h107,if_pos u107,List.append_assoc,List.append_assoc] at h
   obtain ⟨a1,h⟩:=vp_front h
   obtain ⟨a2,h⟩:=List.append_inj h (by rw [Array.length_toList,Array.length_toList];exact a1)
   obtain ⟨a3,h⟩:=vp_front h
   have hc:t.cell=u.cell:=ba_ext a2
   refine ⟨eo,fun h=>absurd h h99,fun _=>hc,a3,?_,h⟩
   unfold headL fieldL
   rw [if_neg h99,if_neg u99,if_pos h107,if_pos u107,hc,a3,eo]
  ·have u99:¬u.op=99:=by omega
   have u107:¬u.op=107:=by omega
   unfold fieldL at h
   rw [if_neg h99,if_neg u99,if_neg h107,if_neg u107,List.nil_append,List.nil_append] at h
   obtain ⟨a3,h⟩:=vp_front h
   refine ⟨eo,fun h=>absurd h h99,fun h=>absurd h h107,a3,?_,h⟩
   unfold headL fieldL
   rw [if_neg h99,if_neg u99,if_neg h107,if_neg u107,a3,eo]
theorem flat_front:∀ (a b:List (List UInt8))(r s:List UInt8),a.length=b.length→(∀ p∈a,∀ q∈b,∀ x y,p++x=q++y→p=q∧x=y)→a.flatten++r=b.flatten++s→a=b∧r=s
 | [],[],r,s,_,_,h=>⟨rfl,by simpa using h⟩
 | [],_::_,_,_,h,_,_=>by simp at h
 | _::_,[],_,_,h,_,_=>by simp at h
 | p::a,q::b,r,s,hl,hf,h=>by
  rw [List.flatten_cons,List.flatten_cons,List.append_assoc,List.append_assoc] at h
  obtain ⟨e1,h1⟩:=hf p List.mem_cons_self q List.mem_cons_self _ _ h
  obtain ⟨e2,h2⟩:=flat_front a b r s (by simpa using hl) (fun p hp q hq=>hf p (List.mem_cons_of_mem _ hp) q (List.mem_cons_of_mem _ hq)) h1
  exact ⟨by rw [e1,e2],h2⟩
theorem swap_perm (op:Int)(l:List (List UInt8)):(swapL op l).Perm l:=by
 unfold swapL
 split
 ·split
  ·exact List.Perm.swap _ _ _
  ·exact List.Perm.refl _
 ·exact List.Perm.refl _
theorem swap_length (op:Int)(l:List (List UInt8)):(swapL op l).length=l.length:=(swap_perm op l).length_eq
theorem swap_mem {op:Int}{l:List (List UInt8)}{p:List UInt8}(h:p∈swapL op l):p∈l:=(swap_perm op l).mem_iff.1 h
theorem flat_swap_length (op:Int)(l:List (List UInt8)):(swapL op l).flatten.length=l.flatten.length:=(swap_perm op l).flatten.length_eq
theorem print_front:∀ t,OkA t→∀ u,OkA u→∀ r s,printL t++r=printL u++s→printL t=printL u∧r=s:=by
 intro t
 induction t using Trm.ind with
 | h t ih =>
  intro ht u hu r s h
  rw [printL_eq t,printL_eq u,List.append_assoc,List.append_assoc] at h
  obtain ⟨e1,_,_,e4,e5,h⟩:=head_front ht.ok hu.ok h
  have hf:=flat_front (swapL t.op (t.kids.map printL)) (swapL u.op (u.kids.map printL)) r s (by rw [swap_length,swap_length,List.length_map,List.length_map];exact e4) (fun p hp q hq x y hxy=>by
   obtain ⟨k,hk,rfl⟩:=List.mem_map.1 (swap_mem hp)
   obtain ⟨l,hl,rfl⟩:=List.mem_map.1 (swap_mem hq)
   exact ih k hk (ht.kid hk) l (hu.kid hl) x y hxy) h
  refine ⟨?_,hf.2⟩
  rw [printL_eq t,printL_eq u,e5,hf.1]
theorem swap_two (op:Int)(a b:List UInt8):swapL op [a,b]=if op=61∧Op.bytesLess b a=true then [b,a] else [a,b]:=rfl
theorem swap_two_eq {op:Int}{a b c d:List UInt8}(h:swapL op [a,b]=swapL op [c,d]):(a=c∧b=d)∨(op=61∧a=d∧b=c):=by
 rw [swap_two,swap_two] at h
 split at h <;> split at h
 ·simp only [List.cons.injEq,and_true] at h;exact .inl ⟨h.2,h.1⟩
 ·rename_i h1 _;simp only [List.cons.injEq,and_true] at h;exact .inr ⟨h1.1,h.2,h.1⟩
 ·rename_i _ h1;simp only [List.cons.injEq,and_true] at h;exact .inr ⟨h1.1,h.1,h.2⟩
 ·simp only [List.cons.injEq,and_true] at h;exact .inl h
theorem swap_not {op:Int}{l:List (List UInt8)}(h:¬(op=61∧l.length=2)):swapL op l=l:=by
 unfold swapL
 split
 ·rename_i a b
  rw [if_neg fun e=>h ⟨e.1,rfl⟩]
 ·rfl
theorem print_parts {t u:Trm}(ht:OkA t)(hu:OkA u)(h:printL t=printL u):t.op=u.op∧(t.op=99→t.col=u.col)∧(t.op=107→t.cell=u.cell)∧t.kids.length=u.kids.length∧swapL t.op (t.kids.map printL)=swapL u.op (u.kids.map printL):=by
 have h':printL t++[]=printL u++[]:=by rw [h]
 rw [printL_eq t,printL_eq u,List.append_assoc,List.append_assoc] at h'
 obtain ⟨e1,e2,e3,e4,_,h'⟩:=head_front ht.ok hu.ok h'
 refine ⟨e1,e2,e3,e4,?_⟩
 refine (flat_front _ _ [] [] (by rw [swap_length,swap_length,List.length_map,List.length_map];exact e4) (fun p hp q hq x y hxy=>?_) h').1
 obtain ⟨k,hk,rfl⟩:=List.mem_map.1 (swap_mem hp)
 obtain ⟨l,hl,rfl⟩:=List.mem_map.1 (swap_mem hq)
 exact print_front k (ht.kid hk) l (hu.kid hl) x y hxy
theorem opC_61 (row:List ByteArray)(c d:Int)(x y a b:ByteArray):opC row 61 c x a b=opC row 61 d y b a:=by
 have e:∀ (c:Int) (x a b:ByteArray),opC row 61 c x a b=if a=noC∨b=noC then noC else boolCell (decide (a=b)):=fun c x a b=>by
  unfold opC
  rw [if_neg (show ¬(61:Int)=99 by decide),if_neg (show ¬(61:Int)=107 by decide),if_pos rfl]
 rw [e,e]
 by_cases h:a=noC∨b=noC
 ·rw [if_pos h,if_pos h.symm]
 ·rw [if_neg h,if_neg fun e=>h e.symm]
  congr 1
  exact decide_eq_decide.2 eq_comm
theorem opC_field (row:List ByteArray)(op c d:Int)(x y a b:ByteArray)(h1:op=99→c=d)(h2:op=107→x=y):opC row op c x a b=opC row op d y a b:=by
 unfold opC
 by_cases e:op=99
 ·rw [h1 e];simp only [e,if_true]
 ·rw [if_neg e,if_neg e]
  by_cases e2:op=107
  ·rw [h2 e2]
  ·rw [if_neg e2,if_neg e2]
theorem print_eval (row:List ByteArray):∀ t,OkA t→∀ u,OkA u→printL t=printL u→evalT row t=evalT row u:=by
 intro t
 induction t using Trm.ind with
 | h t ih =>
  intro ht u hu h
  obtain ⟨e1,e2,e3,e4,e5⟩:=print_parts ht hu h
  have hk:∀ i j (hi:i < t.kids.length) (hj:j < u.kids.length),printL t.kids[i]=printL u.kids[j]→kidC row t i=kidC row u j:=fun i j hi hj e=>by
   rw [kidC_some hi,kidC_some hj]
   exact ih _ (List.getElem_mem hi) (ht.kid (List.getElem_mem hi)) _ (hu.kid (List.getElem_mem hj)) e
  rw [eval_eq,eval_eq,←e1]
  by_cases hs:t.op=61∧t.kids.length=2
  ·obtain ⟨h61,h2⟩:=hs
   match hkt:t.kids,hku:u.kids with
   | [a,b],[c,d] =>
    rw [hkt,hku,←e1,List.map_cons,List.map_cons,List.map_nil,List.map_cons,List.map_cons,List.map_nil] at e5
    have g:∀ i j,i < 2→j < 2→∀ (hi:i < t.kids.length) (hj:j < u.kids.length),printL t.kids[i]=printL u.kids[j]→kidC row t i=kidC row u j:=fun i j _ _ hi hj=>hk i j hi hj
    have ha:t.kids[0]'(by omega)=a:=by simp [hkt]
    have hb:t.kids[1]'(by omega)=b:=by simp [hkt]
    have hc:u.kids[0]'(by omega)=c:=by simp [hku]
    have hd:u.kids[1]'(by omega)=d:=by simp [hku]
    rcases swap_two_eq e5 with ⟨p,q⟩ | ⟨_,p,q⟩
    ·rw [hk 0 0 (by omega) (by omega) (by rw [ha,hc];exact p),hk 1 1 (by omega) (by omega) (by rw [hb,hd];exact q)]
     exact opC_field row _ _ _ _ _ _ _ e2 e3
    ·rw [hk 0 1 (by omega) (by omega) (by rw [ha,hd];exact p),hk 1 0 (by omega) (by omega) (by rw [hb,hc];exact q),h61]
     exact opC_61 row _ _ _ _ _ _
   | [],_=>rw [hkt] at h2;simp at h2
   | [_],_=>rw [hkt] at h2;simp at h2
   | _::_::_::_,_=>rw [hkt] at h2;simp at h2
   | [_,_],[]=>rw [hkt,hku] at e4;simp at e4
   | [_,_],[_]=>rw [hkt,hku] at e4;simp at e4
   | [_,_],_::_::_::_=>rw [hkt,hku] at e4;simp at e4
  ·rw [swap_not (by rw [List.length_map];exact hs),swap_not (by rw [List.length_map,←e1,←e4];exact hs)] at e5
   have hq:∀ i,kidC row t i=kidC row u i:=fun i=>by
    by_cases hi:i < t.kids.length
    ·have hj:i < u.kids.length:=by omega
     refine hk i i hi hj ?_
     have:=congrArg (·[i]?) e5
     simp only [List.getElem?_map,List.getElem?_eq_getElem hi,List.getElem?_eq_getElem hj,Option.map_some,Option.some.injEq] at this
     exact this
    ·rw [kidC_none (by omega),kidC_none (by omega)]
   rw [hq 0,hq 1]
   exact opC_field row _ _ _ _ _ _ _ e2 e3
end Go.Proofs.Ytnkhkkdmjabhnaa
