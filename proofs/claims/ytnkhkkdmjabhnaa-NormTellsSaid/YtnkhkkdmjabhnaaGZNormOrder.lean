/- Terms' bytes in order; a term with the lesser part first; no program. -/
import Derived.Test.YtnkhkkdmjabhnaaGZNormPure
import Derived.Lib.Bytealg
namespace Go.Proofs.Ytnkhkkdmjabhnaa
open Go Go.RowKit
abbrev cb (a b:List UInt8):Int:=Lib.compareBytes a b
theorem u8_tri {a b:UInt8}(h:¬a < b)(k:¬b < a):a=b:=by
 rw [UInt8.lt_iff_toNat_lt] at h k
 rw [←UInt8.toNat_inj]
 omega
theorem u8_asym {a b:UInt8}(h:a < b):¬b < a:=by
 rw [UInt8.lt_iff_toNat_lt] at *
 omega
theorem cb_cons (x y:UInt8)(a b:List UInt8):cb (x::a) (y::b)=if x < y then -1 else if y < x then 1 else cb a b:=rfl
theorem cb_lt:∀ a b,cb a b < 0↔Op.bytesLess a b=true
 | [],[]=>by decide
 | [],_::_=>by simp [cb,Lib.compareBytes,Op.bytesLess]
 | _::_,[]=>by simp [cb,Lib.compareBytes,Op.bytesLess]
 | x::a,y::b=>by
  rw [cb_cons]
  simp only [Op.bytesLess,Bool.or_eq_true,Bool.and_eq_true,decide_eq_true_eq,beq_iff_eq]
  by_cases h:x < y
  ·rw [if_pos h];simp [h]
  ·rw [if_neg h]
   by_cases k:y < x
   ·rw [if_pos k]
    simp only [h,false_or]
    constructor
    ·intro e;exact absurd e (by decide)
    ·rintro ⟨rfl,_⟩;exact absurd k h
   ·rw [if_neg k,u8_tri h k]
    simp [cb_lt a b]
theorem cb_zero:∀ a b,cb a b=0↔a=b
 | [],[]=>by decide
 | [],_::_=>by simp [cb,Lib.compareBytes]
 | _::_,[]=>by simp [cb,Lib.compareBytes]
 | x::a,y::b=>by
  rw [cb_cons,List.cons.injEq]
  by_cases h:x < y
  ·rw [if_pos h]
   constructor
   ·intro e;exact absurd e (by decide)
   ·rintro ⟨rfl,_⟩;exact absurd h (u8_asym h)
  ·rw [if_neg h]
   by_cases k:y < x
   ·rw [if_pos k]
    constructor
    ·intro e;exact absurd e (by decide)
    ·rintro ⟨rfl,_⟩;exact absurd k h
   ·rw [if_neg k,cb_zero a b]
    exact ⟨fun e=>⟨u8_tri h k,e⟩,fun e=>e.2⟩
theorem cb_app:∀ c x y,cb (c++x) (c++y)=cb x y
 | [],_,_=>rfl
 | z::c,x,y=>by
  rw [List.cons_append,List.cons_append,cb_cons,if_neg (fun h=>u8_asym h h),if_neg (fun h=>u8_asym h h),cb_app c x y]
theorem cb_diff:∀ p q,(∀ x y,p++x=q++y→p=q)→p≠q→∀ x y,cb (p++x) (q++y)=cb p q
 | [],q,h,hn,_,_=>absurd (h q [] (by simp)) hn
 | p::ps,[],h,hn,_,_=>absurd (h [] (p::ps) (by simp)) hn
 | a::p,b::q,h,hn,x,y=>by
  rw [List.cons_append,List.cons_append,cb_cons,cb_cons]
  by_cases h1:a < b
  ·rw [if_pos h1,if_pos h1]
  ·rw [if_neg h1,if_neg h1]
   by_cases h2:b < a
   ·rw [if_pos h2,if_pos h2]
   ·rw [if_neg h2,if_neg h2]
    have e:=u8_tri h1 h2
    subst e
    exact cb_diff p q (fun x y hxy=>by have:=h x y (by rw [List.cons_append,List.cons_append,hxy]);simpa using this) (fun e=>hn (by rw [e])) x y
inductive OrdT:Trm→Prop
 | mk {t:Trm}:swapL t.op (t.kids.map printL)=t.kids.map printL→(∀ k∈t.kids,OrdT k)→OrdT t
theorem OrdT.kid {t k:Trm}(h:OrdT t)(hk:k∈t.kids):OrdT k:=by cases h with|mk _ h2=>exact h2 k hk
theorem OrdT.print {t:Trm}(h:OrdT t):printL t=headL t.op t.col t.cell t.kids.length++(t.kids.map printL).flatten:=by
 cases h with|mk h1 _=>rw [printL_eq,h1]
theorem cmp_head {a b:Trm}(ha:OkA a)(hb:OkA b)(oa:OrdT a)(ob:OrdT b)(h:cb (headL a.op a.col a.cell a.kids.length) (headL b.op b.col b.cell b.kids.length)≠0) :
  cb (printL a) (printL b)=cb (headL a.op a.col a.cell a.kids.length) (headL b.op b.col b.cell b.kids.length):=by
 rw [oa.print,ob.print]
 exact cb_diff _ _ (fun x y hxy=>(head_front ha.ok hb.ok hxy).2.2.2.2.1) (fun e=>h ((cb_zero _ _).2 e)) _ _
theorem head_kids {a b:Trm}(ha:OkA a)(hb:OkA b)(h:cb (headL a.op a.col a.cell a.kids.length) (headL b.op b.col b.cell b.kids.length)=0):a.kids.length=b.kids.length:=by
 have e:=(cb_zero _ _).1 h
 have e2:headL a.op a.col a.cell a.kids.length++[]=headL b.op b.col b.cell b.kids.length++[]:=by rw [e]
 exact (head_front ha.ok hb.ok e2).2.2.2.1
theorem cmp_kid {a b:Trm}(ha:OkA a)(hb:OkA b)(oa:OrdT a)(ob:OrdT b)(h:cb (headL a.op a.col a.cell a.kids.length) (headL b.op b.col b.cell b.kids.length)=0){i:Nat}(hi:i < a.kids.length)(hj:i < b.kids.length)
  (hs:(a.kids.take i).map printL=(b.kids.take i).map printL) (hn:cb (printL a.kids[i]) (printL b.kids[i])≠0):cb (printL a) (printL b)=cb (printL a.kids[i]) (printL b.kids[i]):=by
 have e:=(cb_zero _ _).1 h
 have sa:a.kids=a.kids.take i++a.kids[i]::a.kids.drop (i+1):=by rw [←List.drop_eq_getElem_cons hi,List.take_append_drop]
 have sb:b.kids=b.kids.take i++b.kids[i]::b.kids.drop (i+1):=by rw [←List.drop_eq_getElem_cons hj,List.take_append_drop]
 have fa:(a.kids.map printL).flatten=((a.kids.take i).map printL).flatten++(printL a.kids[i]++((a.kids.drop (i+1)).map printL).flatten):=by
  conv=>lhs;rw [sa,List.map_append,List.map_cons,List.flatten_append,List.flatten_cons]
 have fb:(b.kids.map printL).flatten=((b.kids.take i).map printL).flatten++(printL b.kids[i]++((b.kids.drop (i+1)).map printL).flatten):=by
  conv=>lhs;rw [sb,List.map_append,List.map_cons,List.flatten_append,List.flatten_cons]
 rw [oa.print,ob.print,fa,fb,e,hs,cb_app,cb_app]
 exact cb_diff _ _ (fun x y hxy=>(print_front _ (ha.kid (List.getElem_mem hi)) _ (hb.kid (List.getElem_mem hj)) x y hxy).1) (fun e=>hn ((cb_zero _ _).2 e)) _ _
theorem cmp_same {a b:Trm}(oa:OrdT a)(ob:OrdT b)(h:cb (headL a.op a.col a.cell a.kids.length) (headL b.op b.col b.cell b.kids.length)=0)(hs:a.kids.map printL=b.kids.map printL):cb (printL a) (printL b)=0:=by
 rw [cb_zero,oa.print,ob.print,hs,(cb_zero _ _).1 h]
theorem take_step {a b:List Trm}{i:Nat}(hi:i < a.length)(hj:i < b.length)(hs:(a.take i).map printL=(b.take i).map printL)(h:cb (printL a[i]) (printL b[i])=0):(a.take (i+1)).map printL=(b.take (i+1)).map printL:=by
 rw [List.take_add_one,List.take_add_one,List.getElem?_eq_getElem hi,List.getElem?_eq_getElem hj,List.map_append,List.map_append,hs]
 simp [(cb_zero _ _).1 h]
def sortK (op:Int):List Trm→List Trm
 | [a,b]=>if op=61∧Op.bytesLess (printL b) (printL a)=true then [b,a] else [a,b]
 | l=>l
mutual
def ordT:Trm→Trm
 | .mk op col cell ks=>.mk op col cell (sortK op (ordTs ks))
def ordTs:List Trm→List Trm
 | []=>[]
 | k::ks=>ordT k::ordTs ks
end
theorem ordTs_map:∀ ks,ordTs ks=ks.map ordT
 | []=>by rw [ordTs];rfl
 | k::ks=>by rw [ordTs,ordTs_map ks];rfl
theorem ord_eq (t:Trm):ordT t=.mk t.op t.col t.cell (sortK t.op (t.kids.map ordT)):=by
 cases t with
 | mk o c b ks=>rw [ordT,ordTs_map];rfl
theorem sortK_not {op:Int}{l:List Trm}(h:¬(op=61∧l.length=2)):sortK op l=l:=by
 unfold sortK
 split
 ·rename_i a b
  rw [if_neg fun e=>h ⟨e.1,rfl⟩]
 ·rfl
theorem sortK_print (op:Int)(l:List Trm):(sortK op l).map printL=swapL op (l.map printL):=by
 match l with
 | []=>rfl
 | [a]=>rfl
 | [a,b] =>
  show (if op=61∧Op.bytesLess (printL b) (printL a)=true then [b,a] else [a,b]).map printL=swapL op [printL a,printL b]
  rw [swap_two]
  split <;> rfl
 | _::_::_::_=>rfl
theorem swap_twice (op:Int)(l:List (List UInt8)):swapL op (swapL op l)=swapL op l:=by
 match l with
 | []=>rfl
 | [a]=>rfl
 | [a,b] =>
  rw [swap_two]
  split
  ·rename_i h
   rw [swap_two,if_neg]
   intro e
   have:=bl_trans _ _ _ e.2 h.2
   rw [bl_irrefl] at this
   exact absurd this (by decide)
  ·rename_i h
   rw [swap_two,if_neg h]
 | _::_::_::_=>rfl
theorem sortK_perm (op:Int)(l:List Trm):(sortK op l).Perm l:=by
 match l with
 | []=>exact List.Perm.refl _
 | [a]=>exact List.Perm.refl _
 | [a,b] =>
  show (if op=61∧Op.bytesLess (printL b) (printL a)=true then [b,a] else [a,b]).Perm [a,b]
  split
  ·exact List.Perm.swap _ _ _
  ·exact List.Perm.refl _
 | _::_::_::_=>exact List.Perm.refl _
theorem ord_facts:∀ t,printL (ordT t)=printL t∧OrdT (ordT t):=by
 intro t
 induction t using Trm.ind with
 | h t ih =>
  have e:(t.kids.map ordT).map printL=t.kids.map printL:=by
   rw [List.map_map]
   exact List.map_congr_left fun k hk=>(ih k hk).1
  have e2:(ordT t).kids.map printL=swapL t.op (t.kids.map printL):=by
   rw [ord_eq]
   show (sortK t.op (t.kids.map ordT)).map printL=_
   rw [sortK_print,e]
  have el:(ordT t).kids.length=t.kids.length:=by
   have:=congrArg List.length e2
   rwa [List.length_map,swap_length,List.length_map] at this
  have eo:(ordT t).op=t.op∧(ordT t).col=t.col∧(ordT t).cell=t.cell:=by rw [ord_eq];exact ⟨rfl,rfl,rfl⟩
  refine ⟨?_,.mk ?_ fun k hk=>?_⟩
  ·rw [printL_eq,printL_eq t,el,eo.1,eo.2.1,eo.2.2,e2,swap_twice]
  ·rw [eo.1,e2,swap_twice]
  ·rw [ord_eq] at hk
   have hk2:k∈t.kids.map ordT:=(sortK_perm t.op _).mem_iff.1 hk
   obtain ⟨x,hx,rfl⟩:=List.mem_map.1 hk2
   exact (ih x hx).2
end Go.Proofs.Ytnkhkkdmjabhnaa
