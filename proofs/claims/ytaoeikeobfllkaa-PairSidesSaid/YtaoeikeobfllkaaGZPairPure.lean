/- Rows of two tables joined: what meets, what comes of it, of rows together too; no program. -/
import Derived.Test.YtaoeikeobfllkaaGTimes
namespace Go.Proofs.Ytaoeikeobfllkaa
open Go Go.RowKit
abbrev Cl:=Int×Int
def atF (a:List ByteArray)(c:Int):ByteArray:=if 0≤c∧c < (a.length:Int) then a.getD c.toNat ⟨#[]⟩ else ⟨#[]⟩
def meet1 (a b:List ByteArray)(c:Cl):Bool:=decide (atF a c.1≠⟨#[]⟩)&&decide (atF a c.1=atF b c.2)
def meetsB (a b:List ByteArray)(on:List Cl):Bool:=on.all (meet1 a b)
def bothT (x y:Tm):Tm:=(x.1++y.1,x.2*y.2)
def withL (x:Tm)(m:List Tm)(on:List Cl):List Tm:=(m.filter fun y=>meetsB x.1 y.1 on).map (bothT x)
def pairsL (l m:List Tm)(on:List Cl):List Tm:=l.flatMap fun x=>withL x m on
def joinS (l m:List Tm)(on:List Cl):List Tm:=ofW (pairsL l m on)
def linI (f:List ByteArray→Int):List Tm→Int
 | []=>0
 | t::l=>t.2*f t.1+linI f l
theorem linI_append (f:List ByteArray→Int)(a b:List Tm):linI f (a++b)=linI f a+linI f b:=by
 induction a with
 | nil=>simp [linI]
 | cons t a ih=>rw [List.cons_append];simp only [linI];rw [ih];omega
theorem linI_put (f:List ByteArray→Int)(l:List Tm)(x:Tm):linI f (putW l x)=linI f l+x.2*f x.1:=by
 induction l with
 | nil =>
  unfold putW
  split
  ·rename_i h
   simp only [linI,h]
   omega
  ·simp only [linI];omega
 | cons t l ih =>
  unfold putW
  split
  ·simp only [linI];rw [ih];omega
  ·split
   ·rename_i h
    have hm:(x.2+t.2)*f t.1=x.2*f t.1+t.2*f t.1:=Int.add_mul ..
    split
    ·rename_i h0
     rw [h0] at hm
     simp only [linI]
     rw [←h]
     omega
    ·simp only [linI]
     rw [←h]
     omega
   ·split
    ·rename_i h0
     simp only [linI,h0]
     omega
    ·simp only [linI]
     omega
theorem linI_foldl (f:List ByteArray→Int)(l m:List Tm):linI f (m.foldl putW l)=linI f l+linI f m:=by
 induction m generalizing l with
 | nil=>simp [linI]
 | cons x m ih=>rw [List.foldl_cons,ih,linI_put];simp only [linI];omega
theorem linI_of (f:List ByteArray→Int)(l:List Tm):linI f (ofW l)=linI f l:=by unfold ofW;rw [linI_foldl];simp [linI]
theorem linI_sum (f:List ByteArray→Int)(a b:List Tm):linI f (sumW a b)=linI f a+linI f b:=by unfold sumW;rw [linI_foldl,linI_of]
theorem linI_congr {f g:List ByteArray→Int}{l:List Tm}(h:∀ x∈l,f x.1=g x.1):linI f l=linI g l:=by
 induction l with
 | nil=>rfl
 | cons t l ih =>
  simp only [linI]
  rw [h t (List.mem_cons_self ..),ih fun x hx=>h x (List.mem_cons_of_mem _ hx)]
theorem linI_add (f g:List ByteArray→Int)(l:List Tm):linI (fun a=>f a+g a) l=linI f l+linI g l:=by
 induction l with
 | nil=>rfl
 | cons t l ih=>simp only [linI];rw [ih,Int.mul_add];omega
theorem linI_zero (l:List Tm):linI (fun _=>0) l=0:=by
 induction l with
 | nil=>rfl
 | cons t l ih=>simp only [linI,ih];omega
theorem linI_mul (c:Int)(f:List ByteArray→Int)(l:List Tm):linI (fun a=>c*f a) l=c*linI f l:=by
 induction l with
 | nil=>simp [linI]
 | cons t l ih=>simp only [linI];rw [ih,Int.mul_add,Int.mul_left_comm]
theorem cnt_linI (l:List Tm)(r:List ByteArray):cntW l r=linI (fun a=>if a=r then 1 else 0) l:=by
 induction l with
 | nil=>rfl
 | cons t l ih =>
  simp only [cntW,linI]
  rw [ih]
  split <;> omega
theorem linI_swap (F:List ByteArray→List ByteArray→Int)(l m:List Tm):linI (fun a=>linI (fun b=>F a b) m) l=linI (fun b=>linI (fun a=>F a b) l) m:=by
 induction l with
 | nil=>simp only [linI];rw [linI_zero]
 | cons t l ih =>
  simp only [linI]
  rw [ih,linI_add,linI_mul]
def bilF (on:List Cl)(g:List ByteArray→Int)(a b:List ByteArray):Int:=if meetsB a b on=true then g (a++b) else 0
theorem lin_with (g:List ByteArray→Int)(x:Tm)(m:List Tm)(on:List Cl):linI g (withL x m on)=x.2*linI (fun b=>bilF on g x.1 b) m:=by
 induction m with
 | nil=>simp [withL,linI]
 | cons y m ih =>
  unfold withL at ih ⊢
  rw [List.filter_cons]
  by_cases h:meetsB x.1 y.1 on=true
  ·rw [if_pos h,List.map_cons]
   simp only [linI,bothT,bilF,if_pos h]
   simp only [bilF] at ih
   rw [ih,Int.mul_add,Int.mul_assoc]
  ·rw [if_neg h]
   simp only [linI,bilF,if_neg h]
   simp only [bilF] at ih
   rw [ih]
   simp
theorem lin_pairs (g:List ByteArray→Int)(l m:List Tm)(on:List Cl):linI g (pairsL l m on)=linI (fun a=>linI (fun b=>bilF on g a b) m) l:=by
 induction l with
 | nil=>rfl
 | cons x l ih =>
  unfold pairsL at ih ⊢
  rw [List.flatMap_cons,linI_append,ih,lin_with]
  rfl
def oneF (r:List ByteArray)(a:List ByteArray):Int:=if a=r then 1 else 0
theorem cnt_pairs (l m:List Tm)(on:List Cl)(r:List ByteArray):cntW (pairsL l m on) r=linI (fun a=>linI (fun b=>bilF on (oneF r) a b) m) l:=by
 rw [cnt_linI]
 exact lin_pairs (oneF r) l m on
theorem cnt_join (l m:List Tm)(on:List Cl)(r:List ByteArray):cntW (joinS l m on) r=linI (fun a=>linI (fun b=>bilF on (oneF r) a b) m) l:=by
 unfold joinS
 rw [cnt_of,cnt_pairs]
theorem join_right (l m:List Tm)(on:List Cl):RightP (joinS l m on):=of_right _
theorem join_of (l m:List Tm)(on:List Cl):joinS (ofW l) (ofW m) on=joinS l m on :=
 right_ext (join_right ..) (join_right ..) fun r=>by
  rw [cnt_join,cnt_join,linI_of]
  exact linI_congr fun x _=>linI_of _ _
theorem join_sumL (a b m:List Tm)(on:List Cl):joinS (sumW a b) m on=sumW (joinS a m on) (joinS b m on) :=
 right_ext (join_right ..) (sum_right _ _) fun r=>by rw [cnt_sum,cnt_join,cnt_join,cnt_join,linI_sum]
theorem join_sumR (l a b:List Tm)(on:List Cl):joinS l (sumW a b) on=sumW (joinS l a on) (joinS l b on) :=
 right_ext (join_right ..) (sum_right _ _) fun r=>by
  rw [cnt_sum,cnt_join,cnt_join,cnt_join,←linI_add]
  exact linI_congr fun x _=>linI_sum _ _ _
theorem join_nil (l:List Tm)(on:List Cl):joinS l [] on=[]:=by
 unfold joinS
 have:pairsL l [] on=[]:=by
  unfold pairsL
  rw [List.flatMap_eq_nil_iff]
  intro x _
  rfl
 rw [this]
 rfl
theorem with_take (x:Tm)(m:List Tm)(on:List Cl)(k:Nat)(h:k < m.length):withL x (m.take (k+1)) on=withL x (m.take k) on++if meetsB x.1 m[k].1 on=true then [bothT x m[k]] else []:=by
 unfold withL
 rw [List.take_add_one,List.getElem?_eq_getElem h,Option.toList_some,List.filter_append,List.map_append,List.filter_cons]
 split <;> rfl
theorem pairs_take (l m:List Tm)(on:List Cl)(k:Nat)(h:k < l.length):pairsL (l.take (k+1)) m on=pairsL (l.take k) m on++withL l[k] m on:=by
 unfold pairsL
 rw [List.take_add_one,List.getElem?_eq_getElem h,Option.toList_some,List.flatMap_append]
 simp
theorem with_length (x:Tm)(m:List Tm)(on:List Cl):(withL x m on).length≤m.length:=by
 unfold withL
 rw [List.length_map]
 exact List.length_filter_le _ _
theorem pairs_length (l m:List Tm)(on:List Cl):(pairsL l m on).length≤l.length*m.length:=by
 induction l with
 | nil=>simp [pairsL]
 | cons x l ih =>
  unfold pairsL at ih ⊢
  rw [List.flatMap_cons,List.length_append,List.length_cons,Nat.add_mul,Nat.one_mul]
  have:=with_length x m on
  omega
theorem wt_with (x:Tm)(m:List Tm)(on:List Cl):wtW (withL x m on)≤x.2.natAbs*wtW m:=by
 induction m with
 | nil=>simp [withL,wtW]
 | cons y m ih =>
  unfold withL at ih ⊢
  rw [List.filter_cons]
  by_cases h:meetsB x.1 y.1 on=true
  ·rw [if_pos h,List.map_cons]
   simp only [wtW,bothT]
   rw [Int.natAbs_mul,Nat.mul_add]
   omega
  ·rw [if_neg h]
   simp only [wtW]
   rw [Nat.mul_add]
   omega
theorem wt_pairs (l m:List Tm)(on:List Cl):wtW (pairsL l m on)≤wtW l*wtW m:=by
 induction l with
 | nil=>simp [pairsL,wtW]
 | cons x l ih =>
  unfold pairsL at ih ⊢
  rw [List.flatMap_cons,wtW_append]
  simp only [wtW]
  rw [Nat.add_mul]
  have:=wt_with x m on
  omega
theorem mem_pairs {l m:List Tm}{on:List Cl}{t:Tm}(h:t∈pairsL l m on):∃ x∈l,∃ y∈m,meetsB x.1 y.1 on=true∧t=bothT x y:=by
 unfold pairsL withL at h
 obtain ⟨x,hx,ht⟩:=List.mem_flatMap.1 h
 obtain ⟨y,hy,rfl⟩:=List.mem_map.1 ht
 obtain ⟨hy1,hy2⟩:=List.mem_filter.1 hy
 exact ⟨x,hx,y,hy1,hy2,rfl⟩
theorem mem_join {l m:List Tm}{on:List Cl}{t:Tm}(h:t∈joinS l m on):∃ x∈l,∃ y∈m,t.1=x.1++y.1:=by
 obtain ⟨u,hu,e⟩:=mem_of h
 obtain ⟨x,hx,y,hy,_,rfl⟩:=mem_pairs hu
 exact ⟨x,hx,y,hy,e.symm⟩
def keyOk (a:List ByteArray)(cs:List Int):Bool:=cs.all fun c=>decide (atF a c≠⟨#[]⟩)
def keyL (a:List ByteArray)(cs:List Int):List ByteArray:=cs.map (atF a)++List.replicate (6-cs.length) ⟨#[]⟩
theorem keyL_length {a:List ByteArray}{cs:List Int}(h:cs.length≤6):(keyL a cs).length=6:=by
 unfold keyL
 rw [List.length_append,List.length_map,List.length_replicate]
 omega
theorem meets_append (a b:List ByteArray)(c d:List Cl):meetsB a b (c++d)=(meetsB a b c&&meetsB a b d):=by
 unfold meetsB
 rw [List.all_append]
theorem meets_key (a b:List ByteArray)(on:List Cl):meetsB a b on=true↔keyOk a (on.map (·.1))=true∧keyOk b (on.map (·.2))=true∧keyL a (on.map (·.1))=keyL b (on.map (·.2)):=by
 have e:∀ on:List Cl,meetsB a b on=true↔keyOk a (on.map (·.1))=true∧keyOk b (on.map (·.2))=true∧(on.map (·.1)).map (atF a)=(on.map (·.2)).map (atF b):=by
  intro on
  induction on with
  | nil=>simp [meetsB,keyOk]
  | cons c on ih =>
   unfold meetsB keyOk meet1 at ih ⊢
   simp only [List.all_cons,List.map_cons,Bool.and_eq_true,decide_eq_true_eq,List.cons.injEq,ih]
   constructor
   ·rintro ⟨⟨h1,h2⟩,h3,h4,h5⟩
    exact ⟨⟨h1,h3⟩,⟨h2▸h1,h4⟩,h2,h5⟩
   ·rintro ⟨⟨h1,h3⟩,⟨_,h4⟩,h2,h5⟩
    exact ⟨⟨h1,h2⟩,h3,h4,h5⟩
 rw [e on]
 unfold keyL
 rw [List.length_map,List.length_map]
 constructor
 ·rintro ⟨h1,h2,h3⟩
  exact ⟨h1,h2,by rw [h3]⟩
 ·rintro ⟨h1,h2,h3⟩
  exact ⟨h1,h2,List.append_cancel_right h3⟩
def groupL (m:List Tm)(cs:List Int)(k:List ByteArray):List Tm:=m.filter fun y=>keyOk y.1 cs&&decide (keyL y.1 cs=k)
theorem group_take (m:List Tm)(cs:List Int)(k:List ByteArray)(j:Nat)(h:j < m.length):groupL (m.take (j+1)) cs k=groupL (m.take j) cs k++if keyOk m[j].1 cs=true∧keyL m[j].1 cs=k then [m[j]] else []:=by
 unfold groupL
 rw [List.take_add_one,List.getElem?_eq_getElem h,Option.toList_some,List.filter_append,List.filter_cons]
 simp only [Bool.and_eq_true,decide_eq_true_eq]
 split <;> rfl
theorem group_length (m:List Tm)(cs:List Int)(k:List ByteArray):(groupL m cs k).length≤m.length:=List.length_filter_le _ _
theorem mem_group {m:List Tm}{cs:List Int}{k:List ByteArray}{t:Tm}(h:t∈groupL m cs k):t∈m:=(List.mem_filter.1 h).1
theorem with_group {x:Tm}{m:List Tm}{on kd ot:List Cl}(he:on=kd++ot)(hk:keyOk x.1 (kd.map (·.1))=true) :
  withL x (groupL m (kd.map (·.2)) (keyL x.1 (kd.map (·.1)))) ot=withL x m on:=by
 subst he
 unfold withL groupL
 rw [List.filter_filter]
 congr 1
 refine List.filter_congr fun y _=>?_
 rw [meets_append,Bool.eq_iff_iff]
 simp only [Bool.and_eq_true,decide_eq_true_eq]
 rw [meets_key x.1 y.1 kd]
 constructor
 ·rintro ⟨h1,h2,h3⟩
  exact ⟨⟨hk,h2,h3.symm⟩,h1⟩
 ·rintro ⟨⟨_,h2,h3⟩,h1⟩
  exact ⟨h1,h2,h3.symm⟩
theorem with_none {x:Tm}{m:List Tm}{on kd ot:List Cl}(he:on=kd++ot)(hk:keyOk x.1 (kd.map (·.1))=false):withL x m on=[]:=by
 subst he
 unfold withL
 have:(m.filter fun y=>meetsB x.1 y.1 (kd++ot))=[]:=by
  rw [List.filter_eq_nil_iff]
  intro y _ h
  rw [meets_append,Bool.and_eq_true] at h
  have:=(meets_key x.1 y.1 kd).1 h.1
  rw [hk] at this
  exact absurd this.1 (by decide)
 rw [this]
 rfl
def backC (on:List Cl):List Cl:=on.map fun c=>(c.2,c.1)
theorem meets_back (a b:List ByteArray)(on:List Cl):meetsB b a (backC on)=meetsB a b on:=by
 induction on with
 | nil=>rfl
 | cons c on ih =>
  unfold meetsB backC at ih ⊢
  rw [List.map_cons,List.all_cons,List.all_cons,ih]
  congr 1
  unfold meet1
  rw [Bool.eq_iff_iff]
  simp only [Bool.and_eq_true,decide_eq_true_eq]
  constructor
  ·rintro ⟨h1,h2⟩
   exact ⟨h2▸h1,h2.symm⟩
  ·rintro ⟨h1,h2⟩
   exact ⟨h2▸h1,h2.symm⟩
def Two (l:List Tm):Prop:=∀ x∈l,x.1.length=2
def swap4 (r:List ByteArray):List ByteArray:=r.drop 2++r.take 2
theorem swap_append {a:List ByteArray}(b:List ByteArray)(ha:a.length=2):swap4 (a++b)=b++a:=by
 unfold swap4
 rw [List.drop_append_of_le_length (by omega),List.take_append_of_le_length (by omega),List.drop_of_length_le (by omega),List.take_of_length_le (by omega)]
 simp
theorem join_four {l m:List Tm}{on:List Cl}(hl:Two l)(hm:Two m):∀ t∈joinS l m on,t.1.length=4:=fun t ht=>by
 obtain ⟨x,hx,y,hy,e⟩:=mem_join ht
 rw [e,List.length_append,hl x hx,hm y hy]
theorem swap_swap {r:List ByteArray}(h:r.length=4):swap4 (swap4 r)=r:=by
 unfold swap4
 match r,h with
 | [a,b,c,d],_=>rfl
theorem cnt_back {l m:List Tm}{on:List Cl}(hl:Two l)(hm:Two m){r:List ByteArray}(hr:r.length=4):cntW (joinS m l (backC on)) (swap4 r)=cntW (joinS l m on) r:=by
 rw [cnt_join,cnt_join,linI_swap]
 refine linI_congr fun x hx=>linI_congr fun y hy=>?_
 unfold bilF oneF
 rw [meets_back]
 have h1:=hl x hx
 have h2:=hm y hy
 have e:y.1++x.1=swap4 r↔x.1++y.1=r:=by
  rw [←swap_append y.1 h1]
  constructor
  ·intro h
   have:=congrArg swap4 h
   rw [swap_swap (by rw [List.length_append];omega),swap_swap hr] at this
   exact this
  ·intro h
   rw [h]
 simp only [e]
theorem nodup_le {α:Type}:∀ (l m:List α),l.Nodup→(∀ x∈l,x∈m)→l.length≤m.length
 | [],_,_,_=>Nat.zero_le _
 | a::l,m,hd,hs=>by
  obtain ⟨m1,m2,rfl⟩:=List.append_of_mem (hs a (List.mem_cons_self ..))
  obtain ⟨hd1,hd2⟩:=List.nodup_cons.1 hd
  have:=nodup_le l (m1++m2) hd2 fun x hx=>by
   have h1:=hs x (List.mem_cons_of_mem _ hx)
   rcases List.mem_append.1 h1 with h1|h1
   ·exact List.mem_append.2 (.inl h1)
   ·rcases List.mem_cons.1 h1 with rfl|h1
    ·exact absurd hx hd1
    ·exact List.mem_append.2 (.inr h1)
  rw [List.length_append] at this
  rw [List.length_append,List.length_cons,List.length_cons]
  omega
theorem right_nodup {l:List Tm}(h:RightP l):(l.map (·.1)).Nodup:=by
 unfold List.Nodup
 rw [List.pairwise_map]
 exact h.1.imp fun h=>cmpL_ne h
theorem back_le {l m:List Tm}{on:List Cl}(hl:Two l)(hm:Two m):(joinS l m on).length≤(joinS m l (backC on)).length:=by
 have hd:=right_nodup (join_right l m on)
 have hd2:(((joinS l m on).map (·.1)).map swap4).Nodup:=by
  unfold List.Nodup at hd ⊢
  rw [List.pairwise_map,List.pairwise_map]
  rw [List.pairwise_map] at hd
  refine List.Pairwise.imp_of_mem ?_ hd
  intro a b ha hb hn he
  refine hn ?_
  have:=congrArg swap4 he
  rwa [swap_swap (join_four hl hm a ha),swap_swap (join_four hl hm b hb)] at this
 have hs:∀ r∈((joinS l m on).map (·.1)).map swap4,r∈(joinS m l (backC on)).map (·.1):=by
  intro r hr
  obtain ⟨q,hq,rfl⟩:=List.mem_map.1 hr
  obtain ⟨t,ht,rfl⟩:=List.mem_map.1 hq
  have hc:=cnt_back (on:=on) hl hm (join_four hl hm t ht)
  rw [cnt_mem (join_right l m on) ht] at hc
  obtain ⟨u,hu,e⟩:=cnt_not_mem (l:=joinS m l (backC on)) (r:=swap4 t.1) (by rw [hc];exact (join_right l m on).2 t ht)
  exact List.mem_map.2 ⟨u,hu,e⟩
 have:=nodup_le _ _ hd2 hs
 simpa using this
theorem back_back (on:List Cl):backC (backC on)=on:=by
 unfold backC
 rw [List.map_map]
 exact List.map_id' on
theorem back_length {l m:List Tm}{on:List Cl}(hl:Two l)(hm:Two m):(joinS l m on).length=(joinS m l (backC on)).length:=by
 have h1:=back_le (on:=on) hl hm
 have h2:=back_le (on:=backC on) hm hl
 rw [back_back] at h2
 omega
def manyW (l:List Tm):Int:=linI (fun _=>1) l
theorem many_nil:manyW []=0:=rfl
theorem many_take (l:List Tm)(k:Nat)(h:k < l.length):manyW (l.take (k+1))=manyW (l.take k)+l[k].2:=by
 unfold manyW
 rw [List.take_add_one,List.getElem?_eq_getElem h,Option.toList_some,linI_append]
 simp only [linI]
 omega
theorem many_le (l:List Tm):(manyW l).natAbs≤wtW l:=by
 unfold manyW
 induction l with
 | nil=>exact Nat.le_refl _
 | cons x l ih=>simp only [linI,wtW];omega
theorem wt_take_le (l:List Tm)(k:Nat):wtW (l.take k)≤wtW l:=by
 conv=>rhs;rw [←List.take_append_drop k l]
 rw [wtW_append]
 omega
theorem many_all (l m:List Tm):manyW (joinS l m [])=manyW l*manyW m:=by
 unfold manyW joinS
 rw [linI_of,lin_pairs]
 have e:(fun a=>linI (fun b=>bilF [] (fun _=>1) a b) m)=fun _=>linI (fun _=>1) m*1:=by
  funext a
  rw [Int.mul_one]
  exact linI_congr fun y _=>rfl
 rw [e,linI_mul,Int.mul_comm]
theorem meets_more {a b:List ByteArray}{on:List Cl}{c:Cl}(h:meetsB a b (on++[c])=true):meetsB a b on=true:=by
 rw [meets_append,Bool.and_eq_true] at h
 exact h.1
end Go.Proofs.Ytaoeikeobfllkaa
