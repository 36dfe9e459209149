/- Parts of blocks in memory: each one's rows, the rows that come to it, whether it is written anew; rows stay beside a block without numbers and texts; no program. -/
import Derived.Test.YtafmbnafibahkaaGreatGWeighOwn
import Derived.Test.YtafmbnafibahkaaGreatGBlockOwn
import Derived.Test.YtafmbnafibahkaaGreatGCutMade
namespace Go.Proofs.YtafmbnafibahkaaGreat
open Go Go.RowKit
theorem putW_front {x:Tm}{L:List Tm}:∀ {A:List Tm},(∀ t∈A,cmpL t.1 x.1 = -1)→putW (A++L) x=A++putW L x
 | [],_=>rfl
 | t::A,h=>by
  rw [List.cons_append]
  show putW (t::(A++L)) x=t::(A++putW L x)
  conv=>lhs;unfold putW
  rw [if_pos (h t (List.mem_cons_self ..)),putW_front fun u hu=>h u (List.mem_cons_of_mem _ hu)]
theorem cmpL_turn {a b:List ByteArray}(h:cmpL a b = -1):cmpL b a=1:=by rw [cmpL_swap a b,h];rfl
theorem putW_back {x:Tm}{B:List Tm}(hB:∀ t∈B,cmpL x.1 t.1 = -1):∀ M:List Tm,putW (M++B) x=putW M x++B
 | []=>by
  cases B with
  | nil=>simp
  | cons t B =>
   have ht:=hB t (List.mem_cons_self ..)
   have h1:=cmpL_turn ht
   have h2:¬t.1=x.1:=fun e=>by rw [e,cmpL_self] at ht;exact absurd ht (by decide)
   rw [List.nil_append]
   conv=>lhs;unfold putW
   rw [if_neg (by rw [h1];decide),if_neg h2]
   show _=(if x.2=0 then [] else [x])++t::B
   split <;> rfl
 | t::M=>by
  rw [List.cons_append]
  conv=>lhs;unfold putW
  conv=>rhs;unfold putW
  split
  ·rw [putW_back hB M];rfl
  ·split
   ·split <;> rfl
   ·split <;> rfl
theorem homeTo_spec (P:List (List Tm))(r:List ByteArray):∀ n,(homeTo P r n=0∨(1≤homeTo P r n∧homeTo P r n < n∧cmpL (headR (P.getD (homeTo P r n) [])) r≤0))∧∀ i,homeTo P r n < i→i < n→1≤i→¬cmpL (headR (P.getD i [])) r≤0
 | 0=>⟨.inl rfl,fun i _ h _=>absurd h (by omega)⟩
 | n+1=>by
  have ih:=homeTo_spec P r n
  unfold homeTo
  by_cases h:1≤n∧cmpL (headR (P.getD n [])) r≤0
  ·rw [if_pos h]
   exact ⟨.inr ⟨h.1,by omega,h.2⟩,fun i h1 h2 _=>absurd h1 (by omega)⟩
  ·rw [if_neg h]
   refine ⟨ih.1.imp id fun ⟨a,b,c⟩=>⟨a,by omega,c⟩,fun i h1 h2 h3=>?_⟩
   by_cases e:i=n
   ·subst e
    exact fun hc=>h ⟨h3,hc⟩
   ·exact ih.2 i h1 (by omega) h3
section
variable {R:List Tm}
theorem pieces_order (hR:RightP R){i j:Nat}(hij:i < j)(hj:j < (cutL R).length):∀ a∈(cutL R)[i]'(by omega),∀ b∈(cutL R)[j],cmpL a.1 b.1 = -1:=by
 have h:=hR.1
 rw [←cutL_flatten R,List.pairwise_flatten] at h
 exact List.pairwise_iff_getElem.1 h.2 i j (by omega) hj hij
theorem piece_head {i:Nat}(hi:i < (cutL R).length):∃ t r,(cutL R)[i]=t::r∧headR (cutL R)[i]=t.1:=by
 have hne:=((cutL_good R).1 _ (List.getElem_mem hi)).1
 cases h:(cutL R)[i] with
 | nil=>exact absurd h hne
 | cons t r=>exact ⟨t,r,rfl,rowAt_get (by simp)⟩
theorem head_least (hR:RightP R){i:Nat}(hi:i < (cutL R).length){b:Tm}(hb:b∈(cutL R)[i]):headR (cutL R)[i]=b.1∨cmpL (headR (cutL R)[i]) b.1 = -1:=by
 obtain ⟨t,r,e,eh⟩:=piece_head hi
 have h:=hR.1.sublist (piece_sub (List.getElem_mem hi))
 rw [e] at hb h
 rw [eh]
 rcases List.mem_cons.1 hb with rfl|hb
 ·exact .inl rfl
 ·exact .inr ((List.pairwise_cons.1 h).1 b hb)
theorem few_cut (hR:RightP R)(x:Tm):∃ A M B Z,cutL R=A++M++B∧M.length≤2∧cutL (putW R x)=A++Z++B:=by
 by_cases h0:(cutL R).length=0
 ·have e:cutL R=[]:=List.eq_nil_of_length_eq_zero h0
  exact ⟨[],[],[],cutL (putW R x),by simp [e],by simp,by simp⟩
 have hg:=cutL_good R
 obtain ⟨hs1,hs2⟩:=homeTo_spec (cutL R) x.1 (cutL R).length
 have hlt:=homeTo_lt (cutL R) x.1 (cutL R).length (by omega)
 generalize hh:homeTo (cutL R) x.1 (cutL R).length=h at *
 have getD_at:∀ i (hi:i < (cutL R).length),(cutL R).getD i []=(cutL R)[i]:=fun i hi=>by rw [List.getD_eq_getElem?_getD,List.getElem?_eq_getElem hi];rfl
 -- the lower end
 obtain ⟨lo,hlo1,hlo2,hlo3⟩:∃ lo,lo≤h∧h+1-lo≤2∧(0 < lo→∀ (hi:lo < (cutL R).length),cmpL (headR (cutL R)[lo]) x.1 = -1):=by
  by_cases hz:h=0
  ·exact ⟨0,by omega,by omega,fun h=>absurd h (by omega)⟩
  ·have hle:cmpL (headR (cutL R)[h]) x.1≤0:=by
    rcases hs1 with e | ⟨_,_,e⟩
    ·exact absurd e hz
    ·rwa [getD_at h hlt] at e
   by_cases he:cmpL (headR (cutL R)[h]) x.1=0
   ·refine ⟨h-1,by omega,by omega,fun hpos hi=>?_⟩
    obtain ⟨t,r,e,eh⟩:=piece_head hi
    obtain ⟨t2,r2,e2,eh2⟩:=piece_head hlt
    have ho:=pieces_order hR (show h-1 < h by omega) hlt t (by rw [e];simp) t2 (by rw [e2];simp)
    rw [eh,←(cmpL_zero _ _).1 he,eh2]
    exact ho
   ·refine ⟨h,by omega,by omega,fun _ hi=>?_⟩
    have:=(cmpL_range (headR (cutL R)[h]) x.1).1
    omega
 have hP:cutL R=(cutL R).take lo++(((cutL R).drop lo).take (h+1-lo))++(cutL R).drop (h+1):=by
  have e1:(cutL R).drop (h+1)=((cutL R).drop lo).drop (h+1-lo):=by rw [List.drop_drop];congr 1;omega
  rw [e1,List.append_assoc,List.take_append_drop,List.take_append_drop]
 have hAm:∀ t∈((cutL R).take lo).flatten,cmpL t.1 x.1 = -1:=fun t ht=>by
  obtain ⟨p,hp,ht⟩:=List.mem_flatten.1 ht
  obtain ⟨i,hi,rfl⟩:=List.mem_iff_getElem.1 hp
  rw [List.length_take] at hi
  rw [List.getElem_take] at ht
  have hlo:lo < (cutL R).length:=by omega
  obtain ⟨t2,r2,e2,eh2⟩:=piece_head hlo
  have ho:=pieces_order hR (show i < lo by omega) hlo t ht t2 (by rw [e2];simp)
  have hx:=hlo3 (by omega) hlo
  rw [eh2] at hx
  exact cmpL_chain _ _ _ ho hx
 have hBm:∀ t∈((cutL R).drop (h+1)).flatten,cmpL x.1 t.1 = -1:=fun t ht=>by
  obtain ⟨p,hp,ht⟩:=List.mem_flatten.1 ht
  obtain ⟨i,hi,rfl⟩:=List.mem_iff_getElem.1 hp
  rw [List.length_drop] at hi
  rw [List.getElem_drop] at ht
  have hk:h+1+i < (cutL R).length:=by omega
  have hno:=hs2 (h+1+i) (by omega) hk (by omega)
  rw [getD_at _ hk] at hno
  have hrg:=cmpL_range (headR (cutL R)[h+1+i]) x.1
  have hx:cmpL x.1 (headR (cutL R)[h+1+i]) = -1:=by rw [cmpL_swap (headR (cutL R)[h+1+i]) x.1];omega
  rcases head_least hR hk ht with e|e
  ·rw [←e];exact hx
  ·exact cmpL_chain _ _ _ hx e
 have hfl:R=((cutL R).take lo).flatten++((((cutL R).drop lo).take (h+1-lo)).flatten++((cutL R).drop (h+1)).flatten):=by
  have:=congrArg List.flatten hP
  rw [cutL_flatten,List.flatten_append,List.flatten_append,List.append_assoc] at this
  exact this
 have hput:putW R x=((cutL R).take lo).flatten++(putW (((cutL R).drop lo).take (h+1-lo)).flatten x++((cutL R).drop (h+1)).flatten):=by
  conv=>lhs;rw [hfl]
  rw [putW_front hAm,putW_back hBm]
 have hMne:∃ r1,(((cutL R).drop lo).take (h+1-lo)).flatten=((cutL R)[lo]'(by omega))++r1:=by
  have e1:(cutL R).drop lo=(cutL R)[lo]'(by omega)::(cutL R).drop (lo+1):=List.drop_eq_getElem_cons (by omega)
  obtain ⟨n,hn⟩:∃ n,h+1-lo=n+1:=⟨h-lo,by omega⟩
  rw [e1,hn,List.take_succ_cons,List.flatten_cons]
  exact ⟨_,rfl⟩
 refine ⟨(cutL R).take lo,((cutL R).drop lo).take (h+1-lo),(cutL R).drop (h+1),cutL (putW (((cutL R).drop lo).take (h+1-lo)).flatten x),hP,by rw [List.length_take];omega,?_⟩
 have hgA:CutP ((cutL R).take lo):=by rw [hP] at hg;exact hg.front.front
 have hgB:CutP ((cutL R).drop (h+1)):=by rw [hP] at hg;exact hg.back
 rw [hput,cut_append,cut_append,hgA.unique,hgB.unique,List.append_assoc]
 ·right
  intro t ht
  have hne:(cutL R).drop (h+1)≠[]:=fun e=>by rw [e] at ht;simp at ht
  have hk:h+1 < (cutL R).length:=by
   rcases Nat.lt_or_ge (h+1) (cutL R).length with h2|h2
   ·exact h2
   ·exact absurd (List.drop_eq_nil_of_le h2) hne
  rw [List.drop_eq_getElem_cons hk,List.flatten_cons] at ht
  obtain ⟨t2,r2,e2,_⟩:=piece_head hk
  rw [e2] at ht
  simp at ht
  subst ht
  refine (cutL_good R).2 (cutL R)[h+1] ?_ t2 (by rw [e2];rfl)
  rw [List.mem_iff_getElem]
  exact ⟨h,by rw [List.length_tail];omega,by rw [List.getElem_tail]⟩
 ·by_cases hlz:lo=0
  ·left
   rw [hlz];rfl
  ·right
   intro t ht
   have hlo:lo < (cutL R).length:=by omega
   obtain ⟨t2,r2,e2,eh2⟩:=piece_head hlo
   obtain ⟨r1,e1⟩:=hMne
   have hx:=hlo3 (by omega) hlo
   rw [eh2] at hx
   rw [e1,e2,List.cons_append] at ht
   have hpt:putW (t2::(r2++r1)) x=t2::putW (r2++r1) x:=putW_front (A:=[t2]) (fun u hu=>by rw [List.mem_singleton.1 hu];exact hx)
   rw [hpt] at ht
   simp at ht
   subst ht
   refine (cutL_good R).2 (cutL R)[lo] ?_ t2 (by rw [e2];rfl)
   rw [List.mem_iff_getElem]
   exact ⟨lo-1,by rw [List.length_tail];omega,by rw [List.getElem_tail];congr 1;omega⟩
end
abbrev PartT:=List Tm×List Tm×Bool
def contT (p:PartT):List Tm:=p.1++p.2.1
def segL (L:List PartT)(i e:Nat):List Tm:=((L.take e).drop i).flatMap contT
theorem segL_none (L:List PartT)(i:Nat):segL L i i=[]:=by
 unfold segL
 have:(L.take i).drop i=[]:=List.drop_eq_nil_of_le (by rw [List.length_take];omega)
 rw [this];rfl
theorem segL_next (L:List PartT)(i e:Nat)(h:i≤e)(he:e < L.length):segL L i (e+1)=segL L i e++contT L[e]:=by
 unfold segL
 rw [take_add L e he,List.drop_append_of_le_length (by rw [List.length_take];omega),List.flatMap_append,List.flatMap_cons,List.flatMap_nil,List.append_nil]
theorem segL_split (L:List PartT)(i:Nat):∀ e,i≤e→e≤L.length→segL L 0 e=segL L 0 i++segL L i e
 | 0,h,_=>by
  obtain rfl:i=0:=by omega
  simp [segL]
 | e+1,h,he=>by
  by_cases h2:i=e+1
  ·subst h2;rw [segL_none];simp
  ·rw [segL_next L 0 e (Nat.zero_le _) (by omega),segL_next L i e (by omega) (by omega),segL_split L i e (by omega) (by omega),List.append_assoc]
theorem segL_first (L:List PartT)(i:Nat):∀ e,(hie:i < e)→(he:e≤L.length)→segL L i e=contT (L[i]'(by omega))++segL L (i+1) e
 | 0,h,_=>absurd h (by omega)
 | e+1,h,he=>by
  by_cases h2:i=e
  ·subst h2;rw [segL_next L i i (Nat.le_refl _) (by omega),segL_none,segL_none];simp
  ·rw [segL_next L i e (by omega) (by omega),segL_next L (i+1) e (by omega) (by omega),segL_first L i e (by omega) (by omega),List.append_assoc]
theorem mem_segL {L:List PartT}{i:Nat}:∀ {e:Nat}{t:Tm},e≤L.length→t∈segL L i e→∃ j,∃ h:j < L.length,i≤j∧j < e∧t∈contT L[j]
 | 0,t,_,h=>by simp [segL] at h
 | e+1,t,he,h=>by
  by_cases h2:i≤e
  ·rw [segL_next L i e h2 (by omega)] at h
   rcases List.mem_append.1 h with h|h
   ·obtain ⟨j,hj,h3,h4,h5⟩:=mem_segL (by omega) h
    exact ⟨j,hj,h3,by omega,h5⟩
   ·exact ⟨e,by omega,h2,by omega,h⟩
  ·have:segL L i (e+1)=[]:=by
    unfold segL
    rw [List.drop_eq_nil_of_le (by rw [List.length_take];omega)];rfl
   rw [this] at h
   simp at h
theorem of_glue (A:List Tm):∀ B:List Tm,(∀ a∈A,∀ b∈B,cmpL a.1 b.1 = -1)→ofW (A++B)=ofW A++ofW B:=by
 refine cutL_ind (fun _=>by simp [ofW]) fun B x ih h=>?_
 rw [←List.append_assoc,←put_of,ih fun a ha b hb=>h a ha b (by simp [hb]),←put_of]
 refine putW_front fun t ht=>?_
 obtain ⟨u,hu,e⟩:=mem_of ht
 rw [←e]
 exact h u hu x (by simp)
theorem whole_glue (a b:List Tm):wholeW (a++b)=(wholeW a&&wholeW b):=by unfold wholeW;rw [List.all_append]
structure Parted (L:List PartT) (P:List (List Tm)) (S:List Tm):Prop where
 order:∀ i j (h:i < j) (hj:j < L.length),∀ a∈contT (L[i]'(by omega)),∀ b∈contT L[j],cmpL a.1 b.1 = -1
 all:ofW (segL L 0 L.length)=S
 still:∀ i (h:i < L.length),L[i].2.2=false→∃ hp:i < P.length,L[i].1=P[i]∧L[i].2.1=[]∧RightP P[i]∧wholeW P[i]=true∧cutL P[i]=[P[i]]
 head:∀ i (h:i < L.length),0 < i→(L[i].2.2=false∨(L[i-1]'(by omega)).2.2=false)→∃ t r,L[i].1=t::r∧begR t.1=true∧t.2≠0∧∀ u∈r++L[i].2.1,cmpL t.1 u.1 = -1
section
variable {L:List PartT}{P:List (List Tm)}{S:List Tm}
theorem Parted.glue (h:Parted L P S){i e:Nat}(hi:i≤e)(he:e≤L.length):ofW (segL L 0 e)=ofW (segL L 0 i)++ofW (segL L i e):=by
 rw [segL_split L i e hi he]
 refine of_glue _ _ fun a ha b hb=>?_
 obtain ⟨j,hj,_,hj2,ha⟩:=mem_segL (by omega) ha
 obtain ⟨k,hk,hk1,_,hb⟩:=mem_segL he hb
 exact h.order j k (by omega) hk a ha b hb
theorem Parted.cut (h:Parted L P S){i e:Nat}(hi:i < e)(he:e≤L.length)(hs:i=0∨(L[i]'(by omega)).2.2=false∨(L[i-1]'(by omega)).2.2=false) :
  cutL (ofW (segL L 0 e))=cutL (ofW (segL L 0 i))++cutL (ofW (segL L i e)):=by
 rw [h.glue (Nat.le_of_lt hi) he]
 refine cut_append ?_
 by_cases h0:i=0
 ·left;subst h0;rw [segL_none];rfl
 ·right
  obtain ⟨t,r,e1,hb,ht,hu⟩:=h.head i (by omega) (by omega) (hs.resolve_left h0)
  have e2:segL L i e=[t]++(r++(L[i]'(by omega)).2.1++segL L (i+1) e):=by
   rw [segL_first L i e hi he]
   unfold contT
   rw [e1];simp
  have e3:ofW (segL L i e)=[t]++ofW (r++(L[i]'(by omega)).2.1++segL L (i+1) e):=by
   rw [e2,of_glue]
   ·congr 1
    show putW [] t=[t]
    unfold putW
    rw [if_neg ht]
   ·intro a ha b hb2
    rw [List.mem_singleton.1 ha]
    rcases List.mem_append.1 hb2 with hb2|hb2
    ·exact hu b hb2
    ·obtain ⟨k,hk,hk1,_,hb2⟩:=mem_segL he hb2
     refine h.order i k (by omega) hk t ?_ b hb2
     unfold contT
     rw [e1];simp
  intro x hx
  rw [e3] at hx
  simp at hx
  subst hx
  exact hb
theorem Parted.next (h:Parted L P S){i:Nat}(hi:i < L.length)(hn:L[i].2.2=false):∃ hp:i < P.length,cutL (ofW (segL L 0 (i+1)))=cutL (ofW (segL L 0 i))++[P[i]]∧wholeW (ofW (segL L 0 (i+1)))=wholeW (ofW (segL L 0 i)):=by
 obtain ⟨hp,e1,e2,hr,hw,hc⟩:=h.still i hi hn
 have e3:ofW (segL L i (i+1))=P[i]:=by
  rw [segL_next L i i (Nat.le_refl _) hi,segL_none]
  unfold contT
  rw [e1,e2,List.nil_append,List.append_nil]
  exact of_of_right hr
 refine ⟨hp,?_,?_⟩
 ·rw [h.cut (Nat.lt_succ_self i) (by omega) (.inr (.inl hn)),e3,hc]
 ·rw [h.glue (Nat.le_succ i) (by omega),e3,whole_glue,hw,Bool.and_true]
theorem Parted.no (h:Parted L P S){e:Nat}(he:e≤L.length)(hn:wholeW (ofW (segL L 0 e))=false):wholeW S=false:=by
 rw [←h.all,h.glue he (Nat.le_refl _),whole_glue,hn,Bool.false_and]
end
abbrev PartV:=Value×Value×Bool
def partC (t:PartV):List Value:=[t.1,t.2.1,.bool t.2.2]
def partsV (pv:List PartV):List Value:=pv.flatMap partC
theorem partsV_cons (t:PartV)(pv:List PartV):partsV (t::pv)=t.1::t.2.1::.bool t.2.2::partsV pv:=rfl
theorem partsV_append (a b:List PartV):partsV (a++b)=partsV a++partsV b:=List.flatMap_append
theorem partsV_length (pv:List PartV):(partsV pv).length=pv.length*3:=by
 induction pv with
 | nil=>rfl
 | cons t pv ih=>rw [partsV_cons,List.length_cons,List.length_cons,List.length_cons,ih,List.length_cons];omega
theorem partsV_get:∀ (pv:List PartV)(j:Nat)(h:j < pv.length),(partsV pv)[j*3]? = some pv[j].1∧(partsV pv)[j*3+1]? = some pv[j].2.1∧(partsV pv)[j*3+2]? = some (.bool pv[j].2.2)
 | [],j,h=>absurd h (by simp)
 | t::pv,0,_=>⟨rfl,rfl,rfl⟩
 | t::pv,j+1,h=>by
  have:=partsV_get pv j (by simpa using h)
  have e1:(j+1)*3=j*3+3:=by omega
  rw [e1]
  exact this
theorem partsV_set0:∀ (pv:List PartV)(k:Nat)(h:k < pv.length)(u:Value),(partsV pv).set (k*3) u=partsV (pv.set k (u,pv[k].2.1,pv[k].2.2))
 | [],k,h,_=>absurd h (by simp)
 | t::pv,0,h,u=>rfl
 | t::pv,k+1,h,u=>by
  have e1:(k+1)*3=k*3+1+1+1:=by omega
  rw [e1,partsV_cons,List.set_cons_succ,List.set_cons_succ,List.set_cons_succ,partsV_set0 pv k (by simpa using h) u,List.set_cons_succ,partsV_cons]
  simp
theorem partsV_set1:∀ (pv:List PartV)(k:Nat)(h:k < pv.length)(u:Value),(partsV pv).set (k*3+1) u=partsV (pv.set k (pv[k].1,u,pv[k].2.2))
 | [],k,h,_=>absurd h (by simp)
 | t::pv,0,h,u=>rfl
 | t::pv,k+1,h,u=>by
  have e1:(k+1)*3+1=k*3+1+1+1+1:=by omega
  rw [e1,partsV_cons,List.set_cons_succ,List.set_cons_succ,List.set_cons_succ,partsV_set1 pv k (by simpa using h) u,List.set_cons_succ,partsV_cons]
  simp
theorem made_parts (n:Nat):(madeCells #[Value.slice none 0 0,.slice none 0 0,.bool false] (n*3)).toList=partsV (List.replicate n (.slice none 0 0,.slice none 0 0,false)):=by
 have e:∀ m:Nat,(madeCells #[Value.slice none 0 0,.slice none 0 0,.bool false] m).toList=(List.range m).map fun j=>(#[Value.slice none 0 0,.slice none 0 0,.bool false]:Array Value)[j % 3]! := by
  intro m
  unfold madeCells
  simp
 rw [e]
 induction n with
 | zero=>rfl
 | succ n ih =>
  rw [show (n+1)*3=n*3+1+1+1 by omega,List.range_succ,List.range_succ,List.range_succ,List.map_append,List.map_append,List.map_append,ih,List.replicate_succ',partsV_append]
  rw [List.append_assoc,List.append_assoc]
  congr 1
  have h0:n*3 % 3=0:=by omega
  have h1:(n*3+1) % 3=1:=by omega
  have h2:(n*3+1+1) % 3=2:=by omega
  simp only [List.map_cons,List.map_nil,h0,h1,h2]
  rfl
def Plain (w:World)(O:Nat):Prop:=∀ j u,w.cell? ⟨O,j,none⟩=some u→(∀ s,u≠.string s)∧∀ k n,u≠.int k n
def PlainV (u:Value):Prop:=(∀ s,u≠.string s)∧∀ k n,u≠.int k n
theorem plain_slice (A:Option Addr)(n c:Nat):PlainV (.slice A n c):=⟨fun _=>by simp,fun _ _=>by simp⟩
theorem plain_bool (b:Bool):PlainV (.bool b):=⟨fun _=>by simp,fun _ _=>by simp⟩
section
variable {w w':World}{O:Nat}
theorem Plain.later (h:Plain w O)(hO:O < w.heap.size)(hb:Below w.heap.size w w'):Plain w' O:=fun j u e=>h j u ((hb.cell (p:=⟨O,j,none⟩) hO).symm.trans e)
theorem Plain.set (h:Plain w O){k:Nat}{u:Value}(hc:w.cell? ⟨O,k,none⟩=some u){v:Value}(hv:PlainV v):Plain (w.setCell ⟨O,k,none⟩ v) O:=fun j x e=>by
 by_cases hjk:j=k
 ·subst hjk
  rw [World.cell?_setCell_same _ _ _ hc] at e
  obtain rfl:=Option.some.inj e
  exact hv
 ·rw [World.cell?_setCell_other _ _ _ _ (fun e2:(⟨O,k,none⟩:Addr)=⟨O,j,none⟩=>hjk (by simp only [Addr.mk.injEq] at e2;omega))] at e
  exact h j x e
theorem Plain.lit (w:World)(cs:Array Value)(T:TypeId)(h:∀ u∈cs.toList,PlainV u):Plain (w.alloc (.cells cs T)) w.heap.size:=fun j u e=>by
 rw [World.cell?_alloc_new] at e
 obtain ⟨hj,rfl⟩:=Array.getElem?_eq_some_iff.1 e
 exact h _ (Array.mem_toList_iff.2 (Array.getElem_mem hj))
theorem Plain.made {base size n:Nat}{T:TypeId}{xs:List Value}(h:w.ownsRow base T size (.slice (some ⟨O,0,none⟩) n n) n xs)(hx:∀ x∈xs,PlainV x):Plain w O:=by
 intro j u hc
 rcases h.2 with ⟨h',_⟩ | ⟨g,cap,cur,e1,_,hg,_,_,hcs,ht⟩
 ·simp at h'
 ·simp only [Value.slice.injEq,Option.some.injEq,Addr.mk.injEq,and_true,true_and] at e1
  obtain ⟨rfl,rfl⟩:=e1
  rw [cell_of_row w O j cur T (0,0) hg] at hc
  have hm:u∈xs:=by
   rw [←ht,List.take_of_length_le (by rw [Array.length_toList,hcs];exact Nat.le_refl _)]
   obtain ⟨hj,e⟩:=Array.getElem?_eq_some_iff.1 hc
   rw [←e]
   exact Array.mem_toList_iff.2 (Array.getElem_mem hj)
  exact hx _ hm
theorem SliceOf.but {size n:Nat}{ov u:Value}{xs:List Value}(h:SliceOf w size u n xs)(hk:KeptBut w ov w')(hne:0 < n→∀ b,u.ownBlock=some b→ov.ownBlock≠some b):SliceOf w' size u n xs:=by
 rcases Nat.eq_zero_or_pos n with h0|h0
 ·subst h0
  obtain ⟨h1,_,A,cap,e,_⟩:=h
  have hx:xs=[]:=List.eq_nil_of_length_eq_zero (by rw [h1];simp)
  subst hx;subst e
  exact SliceOf.nil_ _ _ _ _
 ·exact SliceOf.keepOwn h hk.1 fun k hkk hlt=>hk.2 k hlt (hne h0 k hkk)
theorem StrsIn.but {ov u:Value}{l:List ByteArray}(h:StrsIn w u l)(hp:∀ O,ov.ownBlock=some O→Plain w O)(hk:KeptBut w ov w'):StrsIn w' u l :=
 SliceOf.but h hk fun h0 b hb e=>by
  obtain ⟨A,cap,e1,hat⟩:=one_at h
  obtain ⟨b',off,ea,_,hc⟩:=hat 0 h0
  subst ea;subst e1
  simp only [Value.ownBlock,Option.some.injEq] at hb
  subst hb
  exact (hp _ e _ _ (hc 0 h0)).1 _ rfl
theorem RowsOf.but {ov:Value}(hp:∀ O,ov.ownBlock=some O→Plain w O)(hk:KeptBut w ov w'):∀ {tv:List (Value×Int)}{l:List Tm},RowsOf w tv l→RowsOf w' tv l
 | [],[],_=>trivial
 | _::_,_::_,h=>⟨⟨StrsIn.but h.1.1 hp hk,h.1.2⟩,RowsOf.but hp hk h.2⟩
 | [],_::_,h=>h.elim
 | _::_,[],h=>h.elim
theorem TimesIn.but {ov u:Value}{l:List Tm}(h:TimesIn w u l)(hp:∀ O,ov.ownBlock=some O→Plain w O)(hk:KeptBut w ov w'):TimesIn w' u l:=by
 obtain ⟨tv,h1,h2⟩:=h
 refine ⟨tv,h1.but hk fun h0 b hb e=>?_,h2.but hp hk⟩
 have hl:=h2.length
 obtain ⟨A,cap,e1,h4⟩:=h1.at_
 obtain ⟨b',off,ea,_,hc⟩:=h4 h0
 subst ea;subst e1
 simp only [Value.ownBlock,Option.some.injEq] at hb
 subst hb
 exact (hp _ e _ _ (hc _ _ (timesV_get tv 0 (by omega)).2)).2 _ _ rfl
theorem KeptBut.of {ov:Value}(hg:w.grownBy w' ov.ownBlock):KeptBut w ov w':=(KeptBut.refl w ov).grown (fun _ h=>.inl h) hg
end
def HeadsIn (w:World)(v:Value)(P:List (List Tm)):Prop:=∃ pv:List PartV,SliceOf w 3 v P.length (partsV pv)∧pv.length=P.length∧(∀ j (h1:j < pv.length)(h2:j < P.length),TimesIn w pv[j].1 P[j])∧∀ j (h1:j < pv.length),∃ A n c,pv[j].2.1=.slice A n c
def PartIn (w:World)(t:PartV)(p:PartT):Prop:=TimesIn w t.1 p.1∧TimesIn w t.2.1 p.2.1∧t.2.2=p.2.2
def PartsIn (w:World)(v:Value)(L:List PartT):Prop:=∃ pv:List PartV,SliceOf w 3 v L.length (partsV pv)∧pv.length=L.length∧∀ j (h1:j < pv.length)(h2:j < L.length),PartIn w pv[j] L[j]
section
variable {w w':World}
theorem HeadsIn.kept {v:Value}{P:List (List Tm)}(h:HeadsIn w v P)(hb:Below w.heap.size w w'):HeadsIn w' v P:=by
 obtain ⟨pv,h1,h2,h3,h5⟩:=h
 exact ⟨pv,SliceOf.later h1 hb,h2,fun j a b=>(h3 j a b).kept hb,h5⟩
theorem PartsIn.kept {v:Value}{L:List PartT}(h:PartsIn w v L)(hb:Below w.heap.size w w'):PartsIn w' v L:=by
 obtain ⟨pv,h1,h2,h3⟩:=h
 exact ⟨pv,SliceOf.later h1 hb,h2,fun j a b=>⟨(h3 j a b).1.kept hb,(h3 j a b).2.1.kept hb,(h3 j a b).2.2⟩⟩
theorem heads_at {v:Value}{P:List (List Tm)}(h:HeadsIn w v P):∃ A cap,v=.slice A P.length cap∧P.length≤cap ∧
  (∀ k,k < P.length→∃ b off,A=some ⟨b,off,none⟩∧b < w.heap.size∧∀ j (hj:j < P.length),∃ rv Am nm cm fl,TimesIn w rv P[j]∧w.cell? ⟨b,off+j*3,none⟩=some rv∧w.cell? ⟨b,off+j*3+1,none⟩=some (.slice Am nm cm)∧w.cell? ⟨b,off+j*3+2,none⟩=some (.bool fl)):=by
 obtain ⟨pv,h1,h2,h3,h5⟩:=h
 obtain ⟨_,_,A,cap,e,hr,h4⟩:=h1
 refine ⟨A,cap,e,hr,fun k hk=>?_⟩
 obtain ⟨b,off,ea,hb,hc⟩:=h4 (by omega)
 refine ⟨b,off,ea,hb,fun j hj=>?_⟩
 have hj':j < pv.length:=by omega
 have hv:=partsV_get pv j hj'
 obtain ⟨Am,nm,cm,em⟩:=h5 j hj'
 rw [em] at hv
 refine ⟨pv[j].1,Am,nm,cm,pv[j].2.2,h3 j hj' hj,hc _ _ hv.1,?_,?_⟩
 ·rw [Nat.add_assoc];exact hc _ _ hv.2.1
 ·rw [Nat.add_assoc];exact hc _ _ hv.2.2
theorem HeadsIn.tail {g off n cap:Nat}{P:List (List Tm)}(h:HeadsIn w (.slice (some ⟨g,off,none⟩) n cap) P)(h0:0 < P.length):HeadsIn w (.slice (some ⟨g,off+3,none⟩) (P.length-1) (cap-1)) (P.drop 1):=by
 obtain ⟨pv,h1,h2,h3,h5⟩:=h
 obtain ⟨h11,h12,A,c,e1,hr,h4⟩:=h1
 simp only [Value.slice.injEq] at e1
 obtain ⟨rfl,rfl,rfl⟩:=e1
 obtain ⟨p,P,rfl⟩:∃ p Q,P=p::Q:=by cases P with|nil=>simp at h0|cons p Q=>exact ⟨p,Q,rfl⟩
 obtain ⟨t,pv,rfl⟩:∃ t Q,pv=t::Q:=by cases pv with|nil=>simp at h2|cons p Q=>exact ⟨p,Q,rfl⟩
 rw [List.length_cons] at h2 hr h4
 rw [List.length_cons] at h2
 simp only [List.drop_succ_cons,List.drop_zero,List.length_cons,Nat.add_sub_cancel]
 refine ⟨pv,⟨by rw [partsV_length];omega,by rw [List.length_cons] at h12;omega,some ⟨g,off+3,none⟩,cap-1,rfl,by omega,fun h0=>?_⟩,by omega,fun j a b=>h3 (j+1) (by simp;omega) (by simp;omega),fun j a=>h5 (j+1) (by simp;omega)⟩
 obtain ⟨b,o,ea,hb,hc⟩:=h4 (by omega)
 simp only [Option.some.injEq,Addr.mk.injEq,and_true] at ea
 obtain ⟨rfl,rfl⟩:=ea
 refine ⟨g,off+3,rfl,hb,fun j u hu=>?_⟩
 have:=hc (j+3) u (by rw [partsV_cons];simpa using hu)
 rw [show off+3+j=off+(j+3) by omega];exact this
end
structure Sharing (w0 ws w:World) (v:Value) (pv:List PartV) (P SL:List (List Tm)) (FL:List Bool):Prop where
 l1:pv.length=P.length
 l2:SL.length=P.length
 l3:FL.length=P.length
 own:Own w w0.heap.size 3 v P.length (partsV pv)
 blk:∀ O,v.ownBlock=some O→O < ws.heap.size∧Plain ws O
 rows:∀ j (h1:j < pv.length) (h2:j < P.length),TimesIn ws pv[j].1 P[j]
 but:KeptBut ws v w
 more:∀ j (h1:j < pv.length) (h2:j < SL.length),∃ tv,Own w ws.heap.size 2 pv[j].2.1 SL[j].length (timesV tv)∧RowsOf w0 tv SL[j]
 apart:∀ i j (hi:i < pv.length) (hj:j < pv.length),i≠j→∀ b,pv[i].2.1.ownBlock=some b→pv[j].2.1.ownBlock≠some b
 flag:∀ j (h1:j < pv.length) (h2:j < FL.length),pv[j].2.2=FL[j]
section
variable {w0 ws w w':World}{v:Value}{pv:List PartV}{P SL:List (List Tm)}{FL:List Bool}
theorem Sharing.later (h:Sharing w0 ws w v pv P SL FL)(hb:Below w.heap.size w w'):Sharing w0 ws w' v pv P SL FL :=
 ⟨h.l1,h.l2,h.l3,h.own.later hb,h.blk,h.rows,h.but.below hb,fun j a b=>(h.more j a b).imp fun _ ⟨x,y⟩=>⟨x.later hb,y⟩,h.apart,h.flag⟩
theorem Sharing.parts (h:Sharing w0 ws w v pv P SL FL)(hb:Below w0.heap.size w0 w){L:List PartT}(hl:L.length=P.length)(hL:∀ j (h0:j < L.length)(h1:j < P.length)(h2:j < SL.length)(h3:j < FL.length),L[j]=(P[j],SL[j],FL[j])):PartsIn w v L:=by
 refine ⟨pv,by rw [hl];exact h.own.slice,by rw [h.l1,hl],fun j a b=>?_⟩
 have e:=hL j b (by omega) (by have:=h.l2;omega) (by have:=h.l3;omega)
 rw [e]
 obtain ⟨tv,h1,h2⟩:=h.more j a (by have:=h.l2;omega)
 exact ⟨(h.rows j a (by omega)).but (fun O hO=>(h.blk O hO).2) h.but,TimesIn.of h1.slice (h2.kept hb) rfl,h.flag j a _⟩
theorem Sharing.start (hO:Own w w0.heap.size 3 v P.length (partsV pv))(hp:∀ O,v.ownBlock=some O→Plain w O)(hl:pv.length=P.length)(hr:∀ j (h1:j < pv.length)(h2:j < P.length),TimesIn w pv[j].1 P[j]){a0:Bool}(hz:∀ j (h1:j < pv.length),pv[j].2=(.slice none 0 0,a0)) :
  Sharing w0 w w v pv P (List.replicate P.length []) (List.replicate P.length a0):=by
 refine ⟨hl,List.length_replicate,List.length_replicate,hO,fun O h=>⟨(hO.lt O h).2,hp O h⟩,hr,KeptBut.refl _ _,fun j a b=>⟨[],?_,?_⟩,fun i j hi hj _ b e=>?_,fun j a b=>?_⟩
 ·rw [List.getElem_replicate,hz j a]
  exact Own.nil_ _ _ _
 ·rw [List.getElem_replicate];trivial
 ·rw [hz i hi] at e
  simp [Value.ownBlock] at e
 ·rw [List.getElem_replicate,hz j a]
theorem Sharing.cells {g off n cap:Nat}(h:Sharing w0 ws w (.slice (some ⟨g,off,none⟩) n cap) pv P SL FL)(j:Nat)(hj:j < pv.length) :
  w.cell? ⟨g,off+j*3,none⟩=some pv[j].1∧w.cell? ⟨g,off+j*3+1,none⟩=some pv[j].2.1∧w.cell? ⟨g,off+j*3+2,none⟩=some (.bool pv[j].2.2)∧w.frozen? ⟨g,off+j*3,none⟩=false∧w.frozen? ⟨g,off+j*3+1,none⟩=false∧w.frozen? ⟨g,off+j*3+2,none⟩=false:=by
 have hO:=h.own
 obtain ⟨A',cap',e⟩:=hO.len
 cases e
 obtain ⟨_,_,hn,hc,hr⟩:=hO.parts
 have hv:=partsV_get pv j hj
 have hl:=h.l1
 refine ⟨hc _ _ hv.1,?_,?_,(hr (j*3) (by omega)).2,?_,?_⟩
 ·rw [Nat.add_assoc];exact hc _ _ hv.2.1
 ·rw [Nat.add_assoc];exact hc _ _ hv.2.2
 ·rw [Nat.add_assoc];exact (hr (j*3+1) (by omega)).2
 ·rw [Nat.add_assoc];exact (hr (j*3+2) (by omega)).2
theorem Sharing.off (h:Sharing w0 ws w v pv P SL FL)(i:Nat)(hi:i < pv.length):∀ b,v.ownBlock=some b→pv[i].2.1.ownBlock≠some b:=fun b hb e=>by
 have h1:=(h.blk b hb).1
 obtain ⟨tv,h2,_⟩:=h.more i hi (by have:=h.l1;have:=h.l2;omega)
 have:=(h2.lt b e).1
 omega
theorem Sharing.slot {g off n cap:Nat}(h:Sharing w0 ws w (.slice (some ⟨g,off,none⟩) n cap) pv P SL FL)(i:Nat)(hi:i < pv.length)(hg:w.grownBy w' pv[i].2.1.ownBlock) :
  w'.cell? ⟨g,off+i*3+1,none⟩=some pv[i].2.1∧w'.frozen? ⟨g,off+i*3+1,none⟩=false:=by
 have hO:=h.own
 have hoff:=h.off i hi
 obtain ⟨A',cap',e⟩:=hO.len
 cases e
 have hO2:=hO.other hg fun k hk e2=>hoff k hk e2.symm
 obtain ⟨_,_,hn,hc,hr⟩:=hO2.parts
 have hl:=h.l1
 rw [Nat.add_assoc]
 exact ⟨hc _ _ (partsV_get pv i hi).2.1,(hr (i*3+1) (by omega)).2⟩
theorem Sharing.grew {g off n cap:Nat}(h:Sharing w0 ws w (.slice (some ⟨g,off,none⟩) n cap) pv P SL FL)(i:Nat)(hi:i < pv.length)(hi2:i < SL.length)(hg:w.grownBy w' pv[i].2.1.ownBlock){u' rv:Value}{row:List ByteArray}{c:Int}{tv:List (Value×Int)}
  (hu:∀ k,u'.ownBlock=some k→pv[i].2.1.ownBlock=some k∨w.heap.size≤k) (hO:Own w' ws.heap.size 2 u' (SL[i].length+1) (timesV tv++[rv,.int .i64 c])) (hR:RowsOf w0 tv SL[i]) (hx:StrsIn w0 rv row) :
  Sharing w0 ws (w'.setCell ⟨g,off+i*3+1,none⟩ u') (.slice (some ⟨g,off,none⟩) n cap) (pv.set i (pv[i].1,u',pv[i].2.2)) P (SL.set i (SL[i]++[(row,c)])) FL:=by
 have hO0:=h.own
 have hoff:=h.off i hi
 obtain ⟨A',cap',e⟩:=hO0.len
 cases e
 have hO1:=hO0.other hg fun k hk e2=>hoff k hk e2.symm
 have hl:=h.l1
 have hO2:=hO1.stored (i*3+1) (by omega) u'
 rw [partsV_set1 pv i hi,←Nat.add_assoc] at hO2
 have hg2:=setCells_grown g [u'] (off+i*3+1) w'
 simp only [World.setCells] at hg2
 have hglt:=h.blk g rfl
 have hgw:=(hO0.lt g rfl).2
 have hb:=h.but.1
 have hu'g:u'.ownBlock≠some g:=fun e2=>by
  rcases hu g e2 with e3|e3
  ·exact hoff g rfl e3
  ·omega
 have hrow:∀ j (hj:j < pv.length),(pv.set i (pv[i].1,u',pv[i].2.2))[j]'(by simpa using hj)=if i=j then (pv[i].1,u',pv[i].2.2) else pv[j]:=fun j hj=>List.getElem_set ..
 refine ⟨by rw [List.length_set];exact hl,by rw [List.length_set];exact h.l2,h.l3,hO2,h.blk,fun j a b=>?_,?_,fun j a b=>?_,fun k j hk hj hne b hb2=>?_,fun j a b=>?_⟩
 ·rw [List.length_set] at a
  rw [hrow j a]
  split
  ·rename_i e;subst e;exact h.rows i a b
  ·exact h.rows j a b
 ·have k1:KeptBut ws (.slice (some ⟨g,off,none⟩) P.length cap) w':=h.but.grown (x:=pv[i].2.1) (fun k hk=>by
   obtain ⟨tv2,h2,_⟩:=h.more i hi hi2
   exact .inr (h2.lt k hk).1) hg
  exact k1.grown (x:=.slice (some ⟨g,off,none⟩) P.length cap) (fun k hk=>.inl hk) hg2
 ·rw [List.length_set] at a b
  rw [hrow j a,List.getElem_set]
  split
  ·rename_i e
   subst e
   refine ⟨tv++[(rv,c)],?_,hR.append (RowsOf.one hx)⟩
   rw [List.length_append,timesV_append]
   exact hO.other hg2 fun k hk e2=>hu'g (by rw [hk,e2])
  ·rename_i hne
   obtain ⟨tv2,h2,h3⟩:=h.more j a b
   refine ⟨tv2,(h2.other hg fun k hk e2=>?_).other hg2 fun k hk e2=>?_,h3⟩
   ·exact h.apart i j hi a hne k e2.symm hk
   ·simp only [Option.some.injEq] at e2
    subst e2
    exact h.off j a k rfl hk
 ·rw [List.length_set] at hk hj
  rw [hrow k hk] at hb2
  rw [hrow j hj]
  split at hb2
  ·rename_i e
   subst e
   rw [if_neg hne]
   intro e2
   rcases hu b hb2 with e3|e3
   ·exact h.apart i j hi hj hne b e3 e2
   ·obtain ⟨tv2,h2,_⟩:=h.more j hj (by have:=h.l2;omega)
    have:=(h2.lt b e2).2;omega
  ·rename_i hne2
   split
   ·rename_i e
    subst e
    intro e2
    rcases hu b e2 with e3|e3
    ·exact h.apart k i hk hi hne b hb2 e3
    ·obtain ⟨tv2,h2,_⟩:=h.more k hk (by have:=h.l2;omega)
     have:=(h2.lt b hb2).2;omega
   ·exact h.apart k j hk hj hne b hb2
 ·rw [List.length_set] at a
  rw [hrow j a]
  split
  ·rename_i e;subst e;exact h.flag i a b
  ·exact h.flag j a b
end
end Go.Proofs.YtafmbnafibahkaaGreat
