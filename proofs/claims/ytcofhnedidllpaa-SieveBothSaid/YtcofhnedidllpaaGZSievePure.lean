/- Rows that a term is yes of, and rows' cells in columns: what each comes to, of rows together too; no program. -/
import Derived.Test.YtcofhnedidllpaaGTimes
import Derived.Test.YtcofhnedidllpaaGZTermPure
namespace Go.Proofs.Ytcofhnedidllpaa
open Go Go.RowKit
def filtS (t:Trm)(l:List Tm):List Tm:=l.filter fun x=>decide (evalT x.1 t=yesC)
def pickO (cols:List Int)(x:Tm):Option Tm:=if pickOk x.1 cols=true then some (pickF x.1 cols,x.2) else none
def pickedS (cols:List Int)(l:List Tm):List Tm:=l.filterMap (pickO cols)
def projS (cols:List Int)(l:List Tm):List Tm:=ofW (pickedS cols l)
def linS (g:List ByteArray→Bool):List Tm→Int
 | []=>0
 | t::l=>(if g t.1=true then t.2 else 0)+linS g l
theorem linS_append (g:List ByteArray→Bool)(a b:List Tm):linS g (a++b)=linS g a+linS g b:=by
 induction a with
 | nil=>simp [linS]
 | cons t a ih=>rw [List.cons_append];simp only [linS];rw [ih];omega
theorem linS_put (g:List ByteArray→Bool)(l:List Tm)(x:Tm):linS g (putW l x)=linS g l+if g x.1=true then x.2 else 0:=by
 induction l with
 | nil =>
  unfold putW
  split
  ·rename_i h
   simp only [linS]
   split <;> omega
  ·simp only [linS];omega
 | cons t l ih =>
  unfold putW
  split
  ·simp only [linS];rw [ih];omega
  ·split
   ·rename_i h
    split
    ·simp only [linS]
     rw [h]
     split <;> omega
    ·simp only [linS]
     rw [h]
     split <;> omega
   ·split
    ·simp only [linS]
     split <;> split <;> omega
    ·simp only [linS];omega
theorem linS_foldl (g:List ByteArray→Bool)(l m:List Tm):linS g (m.foldl putW l)=linS g l+linS g m:=by
 induction m generalizing l with
 | nil=>simp [linS]
 | cons x m ih=>rw [List.foldl_cons,ih,linS_put];simp only [linS];omega
theorem lin_of (g:List ByteArray→Bool)(l:List Tm):linS g (ofW l)=linS g l:=by unfold ofW;rw [linS_foldl];simp [linS]
theorem lin_sum (g:List ByteArray→Bool)(a b:List Tm):linS g (sumW a b)=linS g a+linS g b:=by unfold sumW;rw [linS_foldl,lin_of]
theorem linS_congr {f g:List ByteArray→Bool}{l:List Tm}(h:∀ x∈l,f x.1=g x.1):linS f l=linS g l:=by
 induction l with
 | nil=>rfl
 | cons t l ih =>
  simp only [linS]
  rw [h t (List.mem_cons_self ..),ih fun x hx=>h x (List.mem_cons_of_mem _ hx)]
theorem cnt_lin (l:List Tm)(r:List ByteArray):cntW l r=linS (fun a=>decide (a=r)) l:=by
 induction l with
 | nil=>rfl
 | cons t l ih=>simp only [cntW,linS,decide_eq_true_eq];rw [ih]
theorem lin_filt (g:List ByteArray→Bool)(t:Trm)(l:List Tm):linS g (filtS t l)=linS (fun a=>decide (evalT a t=yesC)&&g a) l:=by
 induction l with
 | nil=>rfl
 | cons x l ih =>
  unfold filtS at ih ⊢
  rw [List.filter_cons]
  by_cases h:evalT x.1 t=yesC
  ·rw [if_pos (by simp [h])]
   simp only [linS,ih,h,decide_true,Bool.true_and]
  ·rw [if_neg (by simp [h])]
   simp only [linS,ih,h,decide_false,Bool.false_and]
   simp
theorem lin_picked (g:List ByteArray→Bool)(cols:List Int)(l:List Tm):linS g (pickedS cols l)=linS (fun a=>pickOk a cols&&g (pickF a cols)) l:=by
 induction l with
 | nil=>rfl
 | cons x l ih =>
  unfold pickedS at ih ⊢
  rw [List.filterMap_cons]
  unfold pickO at ih ⊢
  by_cases h:pickOk x.1 cols=true
  ·rw [if_pos h]
   simp only [linS,ih,h,Bool.true_and]
  ·rw [if_neg h]
   simp only [linS,ih,h,Bool.false_and]
   simp
theorem cnt_filt (t:Trm)(l:List Tm)(r:List ByteArray):cntW (filtS t l) r=linS (fun a=>decide (evalT a t=yesC)&&decide (a=r)) l:=by rw [cnt_lin,lin_filt]
theorem cnt_picked (cols:List Int)(l:List Tm)(r:List ByteArray):cntW (pickedS cols l) r=linS (fun a=>pickOk a cols&&decide (pickF a cols=r)) l:=by rw [cnt_lin,lin_picked]
theorem cnt_proj (cols:List Int)(l:List Tm)(r:List ByteArray):cntW (projS cols l) r=linS (fun a=>pickOk a cols&&decide (pickF a cols=r)) l:=by unfold projS;rw [cnt_of,cnt_picked]
theorem filt_right {t:Trm}{l:List Tm}(h:RightP l):RightP (filtS t l):=⟨h.1.filter _,fun x hx=>h.2 x (List.mem_filter.1 hx).1⟩
theorem proj_right (cols:List Int)(l:List Tm):RightP (projS cols l):=of_right _
theorem filt_sum (t:Trm)(a b:List Tm):filtS t (sumW a b)=sumW (filtS t a) (filtS t b) :=
 right_ext (filt_right (sum_right _ _)) (sum_right _ _) fun r=>by rw [cnt_sum,cnt_filt,cnt_filt,cnt_filt,lin_sum]
theorem filt_minus (t:Trm)(l:List Tm):filtS t (minusW l)=minusW (filtS t l):=by
 unfold filtS minusW
 rw [List.filter_map]
 rfl
theorem proj_sum (cols:List Int)(a b:List Tm):projS cols (sumW a b)=sumW (projS cols a) (projS cols b) :=
 right_ext (proj_right _ _) (sum_right _ _) fun r=>by rw [cnt_sum,cnt_proj,cnt_proj,cnt_proj,lin_sum]
theorem filt_twice (t:Trm)(l:List Tm):filtS t (filtS t l)=filtS t l:=by unfold filtS;rw [List.filter_filter];simp
theorem filt_both (a b:Trm)(l:List Tm):filtS b (filtS a l)=l.filter fun x=>decide (evalT x.1 b=yesC)&&decide (evalT x.1 a=yesC):=by unfold filtS;rw [List.filter_filter]
theorem proj_proj (c:Int)(l:List Tm):projS [0,0] (projS [c] l)=projS [c,c] l :=
 right_ext (proj_right _ _) (proj_right _ _) fun r=>by
  rw [cnt_proj,cnt_proj]
  unfold projS
  rw [lin_of,lin_picked]
  refine linS_congr fun x _=>?_
  simp only [pickOk,pickF,List.all_cons,List.all_nil,List.map_cons,List.map_nil,List.length_cons,List.length_nil,Bool.and_true]
  cases h:(decide (0≤c)&&decide (c < (x.1.length:Int))) with
  | true=>simp
  | false=>simp
theorem parts_sum {t u v:Trm}{l:List Tm}(h:∀ x∈l,(evalT x.1 t=yesC∧evalT x.1 u≠yesC∧evalT x.1 v≠yesC)∨(evalT x.1 t≠yesC∧evalT x.1 u=yesC∧evalT x.1 v≠yesC)∨(evalT x.1 t≠yesC∧evalT x.1 u≠yesC∧evalT x.1 v=yesC)) :
  sumW (sumW (filtS t l) (filtS u l)) (filtS v l)=ofW l :=
 right_ext (sum_right _ _) (of_right _) fun r=>by
  rw [cnt_sum,cnt_sum,cnt_filt,cnt_filt,cnt_filt,cnt_of,cnt_lin l]
  induction l with
  | nil=>rfl
  | cons x l ih =>
   have:=ih fun y hy=>h y (List.mem_cons_of_mem _ hy)
   simp only [linS]
   rcases h x (List.mem_cons_self ..) with ⟨h1,h2,h3⟩ | ⟨h1,h2,h3⟩ | ⟨h1,h2,h3⟩ <;> simp only [h1,h2,h3,decide_true,decide_false,Bool.true_and,Bool.false_and] <;> simp at * <;> omega
theorem filt_length (t:Trm)(l:List Tm):(filtS t l).length≤l.length:=List.length_filter_le _ _
theorem picked_length (cols:List Int)(l:List Tm):(pickedS cols l).length≤l.length:=List.length_filterMap_le _ _
theorem proj_length (cols:List Int)(l:List Tm):(projS cols l).length≤l.length:=Nat.le_trans (of_length _) (picked_length _ _)
theorem wt_filt (t:Trm)(l:List Tm):wtW (filtS t l)≤wtW l:=by
 induction l with
 | nil=>exact Nat.le_refl _
 | cons x l ih =>
  unfold filtS at ih ⊢
  rw [List.filter_cons]
  split <;> simp only [wtW] <;> omega
theorem wt_picked (cols:List Int)(l:List Tm):wtW (pickedS cols l)≤wtW l:=by
 induction l with
 | nil=>exact Nat.le_refl _
 | cons x l ih =>
  unfold pickedS at ih ⊢
  rw [List.filterMap_cons]
  unfold pickO at ih ⊢
  by_cases h:pickOk x.1 cols=true
  ·rw [if_pos h];simp only [wtW];omega
  ·rw [if_neg h];simp only [wtW];omega
theorem wt_proj (cols:List Int)(l:List Tm):wtW (projS cols l)≤wtW l:=Nat.le_trans (wt_of _) (wt_picked _ _)
theorem filt_take (t:Trm)(l:List Tm)(k:Nat)(h:k < l.length):filtS t (l.take (k+1))=filtS t (l.take k)++if evalT l[k].1 t=yesC then [l[k]] else []:=by
 unfold filtS
 rw [take_add l k h,List.filter_append,List.filter_cons]
 split <;> simp_all
theorem picked_take (cols:List Int)(l:List Tm)(k:Nat)(h:k < l.length):pickedS cols (l.take (k+1))=pickedS cols (l.take k)++if pickOk l[k].1 cols=true then [(pickF l[k].1 cols,l[k].2)] else []:=by
 unfold pickedS
 rw [take_add l k h,List.filterMap_append,List.filterMap_cons]
 unfold pickO
 split <;> rename_i hc <;> split at hc <;> simp_all
theorem proj_take (cols:List Int)(l:List Tm)(k:Nat)(h:k < l.length):projS cols (l.take (k+1))=if pickOk l[k].1 cols=true then putW (projS cols (l.take k)) (pickF l[k].1 cols,l[k].2) else projS cols (l.take k):=by
 unfold projS
 rw [picked_take cols l k h]
 split
 ·rw [put_of]
 ·rw [List.append_nil]
theorem mem_filt {t:Trm}{l:List Tm}{x:Tm}(h:x∈filtS t l):x∈l:=(List.mem_filter.1 h).1
theorem mem_picked {cols:List Int}{l:List Tm}{x:Tm}(h:x∈pickedS cols l):x.1.length=cols.length∧∃ y∈l,y.2=x.2:=by
 obtain ⟨y,hy,e⟩:=List.mem_filterMap.1 h
 unfold pickO at e
 split at e
 ·rw [←Option.some.inj e];exact ⟨pickF_length _ _,y,hy,rfl⟩
 ·exact absurd e (by simp)
end Go.Proofs.Ytcofhnedidllpaa
