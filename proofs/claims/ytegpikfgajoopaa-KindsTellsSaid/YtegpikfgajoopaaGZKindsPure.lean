/- What terms come to, by kinds: plain facts; no program. -/
import Derived.Test.YtegpikfgajoopaaGZTermPure
namespace Go.Proofs.Ytegpikfgajoopaa
open Go Go.RowKit
def manyN (op:Int):Int:=if op=99∨op=107 then 0 else if op=33∨op=63 then 1 else if op=61∨op=60∨op=38∨op=124 then 2 else -1
def fitK (a b:Int):Bool:=decide (a=b)||(decide (a=0)||decide (b=0))
def topK (cols:List (Int×Bool))(op col:Int)(cell:ByteArray)(a b:Int):Int×Int :=
 if op=99 then (if 0≤col∧col < cols.length then ((cols.getD col.toNat (0,false)).1,0) else (0,1))
 else if op=107 then (if rightB cell=true then (kindI cell,0) else (0,1))
 else if op=61∨op=60 then (if fitK a b=true then (98,0) else (0,5))
 else if op=38∨op=124 then (if fitK a 98=true∧fitK b 98=true then (98,0) else (0,5))
 else if op=33 then (if fitK a 98=true then (98,0) else (0,5))
 else (98,0)
mutual
def ofK (cols:List (Int×Bool)):Trm→Int×Int
 | .mk op col cell ks=>if (ks.length:Int)=manyN op then (match ofKs cols ks with
  | .inl e=>(0,e)
  | .inr l=>topK cols op col cell (l.getD 0 0) (l.getD 1 0)) else (0,1)
def ofKs (cols:List (Int×Bool)):List Trm→Sum Int (List Int)
 | []=>.inr []
 | k::ks=>match ofK cols k,ofKs cols ks with
  | (a,e),r=>if e=0 then (match r with
   | .inl e2=>.inl e2
   | .inr l=>.inr (a::l)) else .inl e
end
theorem ofK_eq (cols:List (Int×Bool))(op col:Int)(cell:ByteArray)(ks:List Trm):ofK cols (.mk op col cell ks)=if (ks.length:Int)=manyN op then (match ofKs cols ks with
  | .inl e=>(0,e)
  | .inr l=>topK cols op col cell (l.getD 0 0) (l.getD 1 0)) else (0,1):=by rw [ofK]
theorem ofKs_append (cols:List (Int×Bool)):∀ a b:List Trm,ofKs cols (a++b)=match ofKs cols a,ofKs cols b with
  | .inl e,_=>.inl e
  | .inr _,.inl e=>.inl e
  | .inr l,.inr m=>.inr (l++m)
 | [],b=>by
  rw [List.nil_append,ofKs]
  cases ofKs cols b <;> rfl
 | k::a,b=>by
  rw [List.cons_append,ofKs,ofKs,ofKs_append cols a b]
  rcases ofK cols k with ⟨u,e⟩
  by_cases h:e=0
  ·subst h
   cases ofKs cols a <;> cases ofKs cols b <;> rfl
  ·dsimp only
   rw [if_neg h,if_neg h]
theorem ofKs_one (cols:List (Int×Bool))(k:Trm):ofKs cols [k]=if (ofK cols k).2=0 then .inr [(ofK cols k).1] else .inl (ofK cols k).2:=by
 rw [ofKs,ofKs]
theorem ofKs_step {cols:List (Int×Bool)}{ks:List Trm}{l:List Int}{j:Nat}(h:j < ks.length)(hl:ofKs cols (ks.take j)=.inr l)(hx:(ofK cols ks[j]).2=0):ofKs cols (ks.take (j+1))=.inr (l++[(ofK cols ks[j]).1]):=by
 have e:ks.take (j+1)=ks.take j++[ks[j]]:=by rw [List.take_add_one,List.getElem?_eq_getElem h];rfl
 rw [e,ofKs_append,hl,ofKs_one,if_pos hx]
theorem ofKs_stop {cols:List (Int×Bool)}{ks:List Trm}{l:List Int}{j:Nat}(h:j < ks.length)(hl:ofKs cols (ks.take j)=.inr l)(hx:(ofK cols ks[j]).2≠0):ofKs cols ks=.inl (ofK cols ks[j]).2:=by
 have e:ks=(ks.take j++[ks[j]])++ks.drop (j+1):=by rw [List.append_assoc,List.singleton_append,←List.drop_eq_getElem_cons h,List.take_append_drop]
 conv=>lhs;rw [e]
 rw [ofKs_append,ofKs_append,hl,ofKs_one,if_neg hx]
theorem ofKs_len {cols:List (Int×Bool)}:∀ {ks:List Trm}{l:List Int},ofKs cols ks=.inr l→l.length=ks.length
 | [],l,h=>by rw [ofKs] at h;rw [←Sum.inr.inj h];rfl
 | k::ks,l,h=>by
  rw [ofKs] at h
  rcases hk:ofK cols k with ⟨u,e⟩
  rw [hk] at h
  dsimp only at h
  by_cases he:e=0
  ·rw [if_pos he] at h
   cases h2:ofKs cols ks with
   | inl e2=>rw [h2] at h;exact absurd h (by simp)
   | inr m =>
    rw [h2] at h
    rw [←Sum.inr.inj h,List.length_cons,List.length_cons,ofKs_len h2]
  ·rw [if_neg he] at h;exact absurd h (by simp)
def kindK (cols:List (Int×Bool))(t:Trm):Int×Int:=if 30 < wrap64 (sizeT t:Nat) then (0,8) else ofK cols t
def whereK (cols:List (Int×Bool))(t:Trm):Int:=if (kindK cols t).2=0 then (if fitK (kindK cols t).1 98=true then 0 else 5) else (kindK cols t).2
end Go.Proofs.Ytegpikfgajoopaa
