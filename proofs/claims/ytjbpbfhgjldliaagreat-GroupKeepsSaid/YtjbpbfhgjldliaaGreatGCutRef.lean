/- Slices of slices of rows: as lists of lists, and such as a call owns and that grow; no program. -/
import Derived.Test.YtjbpbfhgjldliaaGreatGStrs
import Derived.Test.YtjbpbfhgjldliaaGreatGTimes
namespace Go.Proofs.YtjbpbfhgjldliaaGreat
open Go Go.RowKit
def PiecesIn (w:World)(v:Value)(P:List (List Tm)):Prop:=∃ tv:List Value,SliceOf w 1 v P.length tv∧tv.length=P.length∧∀ j (h1:j < tv.length)(h2:j < P.length),TimesIn w tv[j] P[j]
section
variable {w w':World}
theorem PiecesIn.kept {v:Value}{P:List (List Tm)}(h:PiecesIn w v P)(hb:Below w.heap.size w w'):PiecesIn w' v P:=by
 obtain ⟨tv,h1,h2,h3⟩:=h
 exact ⟨tv,SliceOf.later h1 hb,h2,fun j a b=>(h3 j a b).kept hb⟩
theorem pieces_at {v:Value}{P:List (List Tm)}(h:PiecesIn w v P):∃ A cap,v=.slice A P.length cap ∧
  (∀ k,k < P.length→∃ b off,A=some ⟨b,off,none⟩∧b < w.heap.size∧∀ j (hj:j < P.length),∃ pv,TimesIn w pv P[j]∧w.cell? ⟨b,off+j,none⟩=some pv):=by
 obtain ⟨tv,h1,h2,h3⟩:=h
 obtain ⟨_,_,A,cap,e,_,h4⟩:=h1
 refine ⟨A,cap,e,fun k hk=>?_⟩
 obtain ⟨b,off,ea,hb,hc⟩:=h4 (by omega)
 refine ⟨b,off,ea,hb,fun j hj=>⟨tv[j]'(by omega),h3 j (by omega) hj,hc j _ (List.getElem?_eq_getElem (by omega))⟩⟩
def AllRows (w:World):List (List (Value×Int))→List (List Tm)→Prop
 | [],[]=>True
 | x::X,p::P=>RowsOf w x p∧AllRows w X P
 | _,_=>False
theorem AllRows.length:∀ {X:List (List (Value×Int))}{P:List (List Tm)},AllRows w X P→X.length=P.length
 | [],[],_=>rfl
 | _::_,_::_,h=>by rw [List.length_cons,List.length_cons,AllRows.length h.2]
 | [],_::_,h=>h.elim
 | _::_,[],h=>h.elim
theorem AllRows.append:∀ {X Y:List (List (Value×Int))}{P Q:List (List Tm)},AllRows w X P→AllRows w Y Q→AllRows w (X++Y) (P++Q)
 | [],_,[],_,_,h=>h
 | _::_,_,_::_,_,h,k=>⟨h.1,AllRows.append h.2 k⟩
 | [],_,_::_,_,h,_=>h.elim
 | _::_,_,[],_,h,_=>h.elim
theorem AllRows.one {x:List (Value×Int)}{p:List Tm}(h:RowsOf w x p):AllRows w [x] [p]:=⟨h,trivial⟩
theorem AllRows.get:∀ {X:List (List (Value×Int))}{P:List (List Tm)},AllRows w X P→∀ j (h1:j < X.length)(h2:j < P.length),RowsOf w X[j] P[j]
 | _::_,_::_,h,0,_,_=>h.1
 | _::_,_::_,h,j+1,h1,h2=>AllRows.get h.2 j (by simpa using h1) (by simpa using h2)
 | [],_::_,h,_,_,_=>h.elim
 | _::_,[],h,_,_,_=>h.elim
structure PGrown (w:World) (B:Nat) (v:Value) (tv:List Value) (X:List (List (Value×Int))):Prop where
 len:tv.length=X.length
 own:Own w B 1 v tv.length tv
 inn:∀ j (h1:j < tv.length) (h2:j < X.length),Own w B 2 tv[j] X[j].length (timesV X[j])
 off:∀ j (h1:j < tv.length) b,v.ownBlock=some b→tv[j].ownBlock≠some b
 apart:∀ i j (hi:i < tv.length) (hj:j < tv.length),i≠j→∀ b,tv[i].ownBlock=some b→tv[j].ownBlock≠some b
theorem PGrown.nil_ (w:World)(B:Nat):PGrown w B (.slice none 0 0) [] []:=⟨rfl,Own.nil_ _ _ _,fun j h=>absurd h (by simp),fun j h=>absurd h (by simp),fun i j h=>absurd h (by simp)⟩
section
variable {B:Nat}{v:Value}{tv:List Value}{X:List (List (Value×Int))}
theorem PGrown.later (h:PGrown w B v tv X)(hb:Below w.heap.size w w'):PGrown w' B v tv X:=⟨h.len,h.own.later hb,fun j a b=>(h.inn j a b).later hb,h.off,h.apart⟩
theorem PGrown.lt (h:PGrown w B v tv X):∀ k,v.ownBlock=some k→B≤k:=fun k hk=>(h.own.lt k hk).1
theorem PGrown.push {v':Value}(h:PGrown w B v tv X)(hg:w.grownBy w' v.ownBlock)(hv:∀ k,v'.ownBlock=some k→v.ownBlock=some k∨w.heap.size≤k)(hO:Own w' B 1 v' (tv.length+1) (tv++[.slice none 0 0])) :
  PGrown w' B v' (tv++[.slice none 0 0]) (X++[[]]):=by
 have hinn:∀ j (h1:j < tv.length) (h2:j < X.length),Own w' B 2 tv[j] X[j].length (timesV X[j]):=fun j h1 h2=>(h.inn j h1 h2).other hg fun k hk e=>h.off j h1 k e.symm hk
 refine ⟨by simp [h.len],by simpa using hO,fun j h1 h2=>?_,fun j h1 b hb=>?_,fun i j hi hj hne b hb=>?_⟩
 ·by_cases hj:j < tv.length
  ·rw [List.getElem_append_left hj,List.getElem_append_left (by have:=h.len;omega)]
   exact hinn j hj _
  ·have hj2:j=tv.length:=by simp at h1;omega
   subst hj2
   have e2:(X++[[]])[tv.length]'h2=[]:=by rw [List.getElem_append_right (by have:=h.len;omega)];simp
   rw [List.getElem_append_right (Nat.le_refl _),e2]
   simpa [timesV] using Own.nil_ w' B 2
 ·by_cases hj:j < tv.length
  ·rw [List.getElem_append_left hj]
   intro e
   rcases hv b hb with e2|e2
   ·exact h.off j hj b e2 e
   ·have:=((h.inn j hj (by have:=h.len;omega)).lt b e).2;omega
  ·have hj2:j=tv.length:=by simp at h1;omega
   subst hj2
   rw [List.getElem_append_right (Nat.le_refl _)]
   simp [Value.ownBlock]
 ·by_cases hi2:i < tv.length
  ·by_cases hj2:j < tv.length
   ·rw [List.getElem_append_left hi2] at hb
    rw [List.getElem_append_left hj2]
    exact h.apart i j hi2 hj2 hne b hb
   ·rw [List.getElem_append_right (by omega)]
    simp [Value.ownBlock]
  ·rw [List.getElem_append_right (by omega)] at hb
   simp [Value.ownBlock] at hb
theorem PGrown.last {tq:List Value}{u:Value}{Y:List (List (Value×Int))}{y:List (Value×Int)}(h:PGrown w B v (tq++[u]) (Y++[y])):tq.length=Y.length∧Own w B 2 u y.length (timesV y) ∧
  ∃ g off cap,v=.slice (some ⟨g,off,none⟩) (tq.length+1) cap∧B≤g∧g < w.heap.size∧w.cell? ⟨g,off+tq.length,none⟩=some u∧w.frozen? ⟨g,off+tq.length,none⟩=false∧u.ownBlock≠some g:=by
 have hl:tq.length=Y.length:=by have:=h.len;simpa using this
 have hu:=h.inn tq.length (by simp) (by simp [hl])
 have e1:(tq++[u])[tq.length]'(by simp)=u:=by simp
 have e2:(Y++[y])[tq.length]'(by simp [hl])=y:=by simp [hl]
 rw [e1,e2] at hu
 have ho:=h.own
 have hoff:=h.off tq.length (by simp)
 rw [e1] at hoff
 rw [List.length_append,List.length_singleton] at ho
 rcases ho.2.2 with ⟨_,hn⟩ | ⟨g,off,cap,rfl,hB,hg,hn,hc,hr⟩
 ·omega
 ·refine ⟨hl,hu,g,off,cap,rfl,hB,hg,hc tq.length u (by simp),(hr tq.length (by omega)).2,hoff g rfl⟩
theorem PGrown.drew (h:PGrown w B v tv X):PGrown w.drew B v tv X:=⟨h.len,h.own,h.inn,h.off,h.apart⟩
theorem PGrown.slot {tq:List Value}{u:Value}{g off cap n:Nat}(h:PGrown w B (.slice (some ⟨g,off,none⟩) n cap) (tq++[u]) X)(hg:w.grownBy w' u.ownBlock) :
  w'.cell? ⟨g,off+tq.length,none⟩=some u∧w'.frozen? ⟨g,off+tq.length,none⟩=false:=by
 have e1:(tq++[u])[tq.length]'(by simp)=u:=by simp
 have hoffu:=h.off tq.length (by simp) g rfl
 rw [e1] at hoffu
 have hown:=h.own
 obtain ⟨A',c',e⟩:=hown.len
 cases e
 have hOut:Own w' B 1 (.slice (some ⟨g,off,none⟩) (tq++[u]).length cap) (tq++[u]).length (tq++[u]):=hown.other hg fun k hk e2=>by
  simp only [Value.ownBlock,Option.some.injEq] at hk
  subst hk
  exact hoffu e2.symm
 obtain ⟨_,_,hn,hc,hr⟩:=hOut.parts
 exact ⟨hc tq.length u (by simp),(hr tq.length (by simp at hn;omega)).2⟩
end
end
end Go.Proofs.YtjbpbfhgjldliaaGreat
