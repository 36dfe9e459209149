/- What TableBag stands on: plain facts; no program. -/
import Derived.Test.YtafmbnafibahkaaGreatGCalmM
namespace Go.Proofs.YtafmbnafibahkaaGreat
open Go Go.RowKit
def fitB (cols:List (Int×Bool))(x:Tm):Bool:=(rowN cols x.1==0)&&(decide (x.2≤1048576)&&decide (-1048576≤x.2))
def fitsAll (cols:List (Int×Bool))(l:List Tm):Bool:=l.all (fitB cols)
theorem fitsAll_step {cols:List (Int×Bool)}{l:List Tm}{k:Nat}(hk:k < l.length):fitsAll cols (l.take (k+1))=(fitsAll cols (l.take k)&&fitB cols l[k]):=by
 rw [take_add l k hk]
 unfold fitsAll
 rw [List.all_append]
 simp
theorem fitsAll_yes {cols:List (Int×Bool)}{l:List Tm}(h:fitsAll cols l=true):checkN cols l=0:=by
 unfold fitsAll at h
 rw [List.all_eq_true] at h
 refine check_never (rowsN_zero.2 fun x hx=>?_) fun x hx=>?_
 ·have:=h x hx
  unfold fitB at this
  rw [Bool.and_eq_true,beq_iff_eq] at this
  exact this.1
 ·have:=h x hx
  unfold fitB at this
  simp only [Bool.and_eq_true,decide_eq_true_eq] at this
  unfold oftenT
  simp only [Bool.or_eq_false_iff,decide_eq_false_iff_not]
  omega
theorem fitsAll_no {cols:List (Int×Bool)}{l:List Tm}(h:fitsAll cols l=false):checkN cols l≠0:=fun hc=>by
 obtain ⟨h1,h2⟩:=check_zero hc
 have:fitsAll cols l=true:=by
  unfold fitsAll
  rw [List.all_eq_true]
  intro x hx
  have a1:=h1 x hx
  have a2:=h2 x hx
  unfold fitB
  simp only [Bool.and_eq_true,beq_iff_eq,decide_eq_true_eq]
  omega
 rw [h] at this
 exact absurd this (by decide)
theorem apply_refused {t:Tbl}{l:List Tm}(h:fitsAll t.cols l=false):applyN t l≠0:=by
 unfold applyN
 rw [if_neg (fitsAll_no h)]
 exact fitsAll_no h
def wantB (l:List Tm)(k:Nat):Bool:=wholeW l&&(l.take k).all fun x=>decide (x.2≤1048576)
theorem wantB_zero (l:List Tm):wantB l 0=wholeW l:=by unfold wantB;simp
theorem wantB_step {l:List Tm}{k:Nat}(hk:k < l.length):wantB l (k+1)=(wantB l k&&decide (l[k].2≤1048576)):=by
 unfold wantB
 rw [take_add l k hk,List.all_append,Bool.and_assoc]
 simp
theorem wantB_end {l:List Tm}:wantB l l.length=(wholeW l&&!overB l):=by
 unfold wantB overB
 rw [List.take_length]
 congr 1
 induction l with
 | nil=>rfl
 | cons x l ih =>
  rw [List.all_cons,List.any_cons,ih,Bool.not_or]
  congr 1
  by_cases h:x.2≤1048576
  ·rw [decide_eq_true h,decide_eq_false (by omega)];rfl
  ·rw [decide_eq_false h,decide_eq_true (by omega)];rfl
theorem apply_wanted {t:Tbl}{l:List Tm}(hc:checkN t.cols l=0)(hl:(sumW t.rows l).length≤200):(applyN t l==0)=wantB (sumW t.rows l) (sumW t.rows l).length:=by
 rw [wantB_end]
 unfold applyN
 rw [if_pos hc]
 cases hw:wholeW (sumW t.rows l) with
 | false=>simp
 | true =>
  cases ho:overB (sumW t.rows l) with
  | true=>simp
  | false =>
   rw [if_pos rfl,if_neg (by simp;exact hl)]
   rfl
theorem applyT_no_ {t:Tbl}{l:List Tm}(h:applyN t l≠0):applyT t l=t:=by unfold applyT;rw [if_neg h]
theorem right_none {cols:List (Int×Bool)}(h:newN abc14 cols=1):rightC cols=false:=by
 unfold newN at h
 have hn:nameB abc14=true:=by decide +kernel
 rw [hn] at h
 cases hr:rightC cols with
 | false=>rfl
 | true=>rw [hr,if_pos ⟨rfl,rfl⟩] at h;exact absurd h (by decide)
end Go.Proofs.YtafmbnafibahkaaGreat
