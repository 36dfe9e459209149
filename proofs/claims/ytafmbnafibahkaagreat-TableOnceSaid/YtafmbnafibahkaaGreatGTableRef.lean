/- Tables in boxes, told of a word: loaded, stored, kept; no program. -/
import Derived.Test.YtafmbnafibahkaaGreatGStrs
import Derived.Test.YtafmbnafibahkaaGreatGBlockUnder
import Derived.Test.YtafmbnafibahkaaGreatGWeighRef
import Derived.Test.YtafmbnafibahkaaGreatGWeighFns
import Derived.Test.YtafmbnafibahkaaGreatGWeighSmall
import Derived.Test.YtafmbnafibahkaaGreatGCutBlocks
import Derived.Test.YtafmbnafibahkaaGreatGCutMade
import Derived.Test.YtafmbnafibahkaaGreatGShapeZ
import Derived.Deep.RegionLaw
import Derived.Deep.RegionWith
namespace Go.Proofs.YtafmbnafibahkaaGreat
open Go Go.RowKit
structure Tbl where
 name:ByteArray
 cols:List (Int×Bool)
 R:List Tm
 T:List Tm
def Tbl.rows (t:Tbl):List Tm:=sumW t.R t.T
def rowsN (cols:List (Int×Bool)):List Tm→Int
 | []=>0
 | x::l=>if rowN cols x.1=0 then rowsN cols l else rowN cols x.1
def oftenB (l:List Tm):Bool:=l.any fun x=>decide (1048576 < x.2)||decide (x.2 < -1048576)
def checkN (cols:List (Int×Bool))(l:List Tm):Int:=if rowsN cols l=0 then (if oftenB l=true then 8 else 0) else rowsN cols l
def overB (l:List Tm):Bool:=l.any fun x=>decide (1048576 < x.2)
def applyN (t:Tbl)(l:List Tm):Int :=
 if checkN t.cols l=0 then (if wholeW (sumW t.rows l)=true then (if overB (sumW t.rows l)=true∨200 < (sumW t.rows l).length then 8 else 0) else 6) else checkN t.cols l
def applyT (t:Tbl)(l:List Tm):Tbl:=if applyN t l=0 then { t with T:=sumW t.T l } else t
def packT (t:Tbl):Tbl:={ t with R:=t.rows,T:=[] }
theorem rowsN_snoc (cols:List (Int×Bool))(l:List Tm)(x:Tm):rowsN cols (l++[x])=if rowsN cols l=0 then rowN cols x.1 else rowsN cols l:=by
 induction l with
 | nil =>
  show (if rowN cols x.1=0 then (0:Int) else rowN cols x.1)=rowN cols x.1
  split
  ·rename_i h;exact h.symm
  ·rfl
 | cons y l ih =>
  show (if rowN cols y.1=0 then rowsN cols (l++[x]) else rowN cols y.1)=if (if rowN cols y.1=0 then rowsN cols l else rowN cols y.1)=0 then rowN cols x.1 else (if rowN cols y.1=0 then rowsN cols l else rowN cols y.1)
  by_cases h:rowN cols y.1=0
  ·rw [if_pos h,if_pos h,ih]
  ·rw [if_neg h,if_neg h,if_neg h]
theorem rowsN_stop {cols:List (Int×Bool)}{x:Tm}{b:List Tm}(hx:rowN cols x.1≠0):∀ {a:List Tm},rowsN cols a=0→rowsN cols (a++x::b)=rowN cols x.1
 | [],_=>if_neg hx
 | y::a,h=>by
  show (if rowN cols y.1=0 then rowsN cols (a++x::b) else rowN cols y.1)=_
  by_cases hy:rowN cols y.1=0
  ·rw [if_pos hy]
   refine rowsN_stop hx ?_
   have:(if rowN cols y.1=0 then rowsN cols a else rowN cols y.1)=0:=h
   rwa [if_pos hy] at this
  ·have:(if rowN cols y.1=0 then rowsN cols a else rowN cols y.1)=0:=h
   rw [if_neg hy] at this
   exact absurd this hy
theorem rowsN_at {cols:List (Int×Bool)}{l:List Tm}{k:Nat}(hk:k < l.length)(h:rowsN cols (l.take k)=0)(hx:rowN cols l[k].1≠0):checkN cols l=rowN cols l[k].1:=by
 have e:l=l.take k++l[k]::l.drop (k+1):=by rw [←List.drop_eq_getElem_cons hk,List.take_append_drop]
 have h2:rowsN cols l=rowN cols l[k].1:=by
  conv=>lhs;rw [e]
  exact rowsN_stop hx h
 unfold checkN
 rw [h2,if_neg hx]
theorem rowsN_next {cols:List (Int×Bool)}{l:List Tm}{k:Nat}(hk:k < l.length)(h:rowsN cols (l.take k)=0)(hx:rowN cols l[k].1=0):rowsN cols (l.take (k+1))=0:=by
 rw [take_add l k hk,rowsN_snoc,if_pos h,hx]
def oftenT (x:Tm):Bool:=decide (1048576 < x.2)||decide (x.2 < -1048576)
theorem check_often {cols:List (Int×Bool)}{l:List Tm}(h:rowsN cols l=0){x:Tm}(hx:x∈l)(ho:oftenT x=true):checkN cols l=8:=by
 unfold checkN
 have:oftenB l=true:=by unfold oftenB;rw [List.any_eq_true];exact ⟨x,hx,ho⟩
 rw [if_pos h,if_pos this]
theorem check_never {cols:List (Int×Bool)}{l:List Tm}(h:rowsN cols l=0)(ho:∀ x∈l,oftenT x=false):checkN cols l=0:=by
 unfold checkN
 have:oftenB l=false:=by unfold oftenB;rw [List.any_eq_false];exact fun x hx=>by rw [show (decide (1048576 < x.2)||decide (x.2 < -1048576))=oftenT x from rfl,ho x hx];decide
 rw [if_pos h,if_neg (by rw [this];decide)]
theorem rowsN_zero {cols:List (Int×Bool)}{l:List Tm}:rowsN cols l=0↔∀ x∈l,rowN cols x.1=0:=by
 induction l with
 | nil=>exact ⟨fun _ x hx=>absurd hx (by simp),fun _=>rfl⟩
 | cons y l ih =>
  show (if rowN cols y.1=0 then rowsN cols l else rowN cols y.1)=0↔_
  by_cases h:rowN cols y.1=0
  ·rw [if_pos h,ih]
   exact ⟨fun k x hx=>(List.mem_cons.1 hx).elim (fun e=>e▸h) (k x),fun k x hx=>k x (List.mem_cons_of_mem _ hx)⟩
  ·rw [if_neg h]
   exact ⟨fun k=>absurd k h,fun k=>k y (List.mem_cons_self ..)⟩
theorem check_zero {cols:List (Int×Bool)}{l:List Tm}(h:checkN cols l=0):(∀ x∈l,rowN cols x.1=0)∧∀ x∈l,x.2.natAbs≤1048576:=by
 unfold checkN at h
 by_cases h0:rowsN cols l=0
 ·rw [if_pos h0] at h
  refine ⟨rowsN_zero.1 h0,fun x hx=>?_⟩
  cases ho:oftenB l with
  | true=>rw [ho,if_pos rfl] at h;exact absurd h (by decide)
  | false =>
   unfold oftenB at ho
   rw [List.any_eq_false] at ho
   have:=ho x hx
   simp only [Bool.or_eq_true,decide_eq_true_eq] at this
   omega
 ·rw [if_neg h0] at h
  exact absurd h h0
structure GoodT (t:Tbl):Prop where
 cols:t.cols.length≤6
 right:RightP t.R
 there:∀ x∈t.R,1≤x.2∧x.2≤1048576
 fits:∀ x∈t.R,rowN t.cols x.1=0
 few:t.R.length≤200
 tail:RightP t.T
 tfits:∀ x∈t.T,rowN t.cols x.1=0
 rthere:∀ x∈t.rows,1≤x.2∧x.2≤1048576
 rfew:t.rows.length≤200
section
variable {t:Tbl}
theorem GoodT.tail_eq (h:GoodT t):t.T=sumW t.rows (minusW t.R):=right_ext h.tail (sum_right _ _) fun r=>by
 unfold Tbl.rows
 rw [cnt_sum,cnt_sum,cnt_minus];omega
theorem GoodT.tlen (h:GoodT t):t.T.length≤400:=by
 rw [h.tail_eq]
 have h1:=sum_length t.rows (minusW t.R)
 rw [minus_length] at h1
 have:=h.few
 have:=h.rfew
 omega
theorem there_wt {l:List Tm}(h:∀ x∈l,1≤x.2∧x.2≤1048576)(hl:l.length≤200):wtW l≤209715200:=by
 have h1:=wt_each (l:=l) (n:=1048576) (fun x hx=>by have:=h x hx;omega)
 have h2:l.length*1048576≤200*1048576:=Nat.mul_le_mul_right _ hl
 omega
theorem GoodT.twt (h:GoodT t):wtW t.T≤419430400:=by
 rw [h.tail_eq]
 have h1:=wt_sum t.rows (minusW t.R)
 rw [wt_minus] at h1
 have h2:=there_wt h.there h.few
 have h3:=there_wt h.rthere h.rfew
 omega
theorem GoodT.rfits (h:GoodT t):∀ x∈t.rows,rowN t.cols x.1=0:=fun x hx=>by
 unfold Tbl.rows at hx
 rcases mem_sum hx with ⟨u,hu,e⟩ | ⟨u,hu,e⟩
 ·rw [←e];exact h.fits u hu
 ·rw [←e];exact h.tfits u hu
theorem GoodT.rright (_h:GoodT t):RightP t.rows:=sum_right _ _
theorem GoodT.rows0 (h:GoodT t):Rows0 t.R t.cols 200 209715200:=⟨h.right,fun x hx=>(h.there x hx).1,h.fits,h.few,there_wt h.there h.few⟩
theorem GoodT.pack (h:GoodT t):GoodT (packT t):=by
 have e:(packT t).rows=t.rows:=by
  show sumW t.rows []=t.rows
  rw [sum_nil,of_of_right h.rright]
 exact ⟨h.cols,h.rright,h.rthere,h.rfits,h.rfew,RightP.nil,fun x hx=>absurd hx (by simp [packT]),by rw [e];exact h.rthere,by rw [e];exact h.rfew⟩
theorem pack_rows (t:Tbl):(packT t).rows=t.rows:=by
 show sumW t.rows []=t.rows
 rw [sum_nil]
 exact of_of_right (sum_right _ _)
theorem apply_zero {l:List Tm}(h:applyN t l=0):checkN t.cols l=0∧wholeW (sumW t.rows l)=true∧overB (sumW t.rows l)=false∧(sumW t.rows l).length≤200:=by
 unfold applyN at h
 by_cases h0:checkN t.cols l=0
 ·rw [if_pos h0] at h
  by_cases h1:wholeW (sumW t.rows l)=true
  ·rw [if_pos h1] at h
   by_cases h2:overB (sumW t.rows l)=true∨200 < (sumW t.rows l).length
   ·rw [if_pos h2] at h;exact absurd h (by decide)
   ·refine ⟨h0,h1,?_,by omega⟩
    cases ho:overB (sumW t.rows l) with
    | true=>exact absurd (.inl ho) h2
    | false=>rfl
  ·rw [if_neg h1] at h;exact absurd h (by decide)
 ·rw [if_neg h0] at h;exact absurd h h0
theorem applyT_rows {l:List Tm}(h:applyN t l=0):(applyT t l).rows=sumW t.rows l:=by
 unfold applyT
 rw [if_pos h]
 exact right_ext (sum_right _ _) (sum_right _ _) fun r=>by
  unfold Tbl.rows
  simp only [cnt_sum]
  omega
theorem GoodT.apply (h:GoodT t)(l:List Tm):GoodT (applyT t l):=by
 by_cases h0:applyN t l=0
 ·obtain ⟨h1,h2,h3,h4⟩:=apply_zero h0
  have hc:=(check_zero h1).1
  have er:=applyT_rows h0
  have e1:applyT t l={ t with T:=sumW t.T l }:=by unfold applyT;rw [if_pos h0]
  have hth:∀ x∈sumW t.rows l,1≤x.2∧x.2≤1048576:=fun x hx=>by
   have k0:=(sum_right t.rows l).2 x hx
   unfold wholeW at h2
   rw [List.all_eq_true] at h2
   have k1:=h2 x hx
   rw [decide_eq_true_eq] at k1
   unfold overB at h3
   rw [List.any_eq_false] at h3
   have k2:=h3 x hx
   rw [decide_eq_true_eq] at k2
   omega
  rw [e1] at er ⊢
  exact ⟨h.cols,h.right,h.there,h.fits,h.few,sum_right _ _,fun x hx=>by
   rcases mem_sum hx with ⟨u,hu,e⟩ | ⟨u,hu,e⟩
   ·rw [←e];exact h.tfits u hu
   ·rw [←e];exact hc u hu,by rw [er];exact hth,by rw [er];exact h4⟩
 ·unfold applyT
  rw [if_neg h0];exact h
theorem apply_wt {l:List Tm}(h:GoodT t)(hc:checkN t.cols l=0)(hl:l.length≤1000):wtW t.rows+wtW l≤4611686018427387904∧wtW t.T+wtW l≤4611686018427387904:=by
 have h1:=wt_each (l:=l) (n:=1048576) (fun x hx=>(check_zero hc).2 x hx)
 have h2:l.length*1048576≤1000*1048576:=Nat.mul_le_mul_right _ hl
 have h3:=there_wt h.rthere h.rfew
 have h4:=h.twt
 omega
end
def newT (name:ByteArray)(cols:List (Int×Bool)):Tbl:=⟨name,cols,[],[]⟩
theorem newT_good {name:ByteArray}{cols:List (Int×Bool)}(h:cols.length≤6):GoodT (newT name cols) :=
 ⟨h,RightP.nil,fun x hx=>absurd hx (by simp [newT]),fun x hx=>absurd hx (by simp [newT]),by simp [newT],RightP.nil,fun x hx=>absurd hx (by simp [newT]),fun x hx=>absurd hx (by show ¬x∈sumW [] [];simp [sumW,ofW]),by show (sumW [] []).length≤200;simp [sumW,ofW]⟩
theorem right_cols {cols:List (Int×Bool)}(h:rightC cols=true):cols.length≤6:=by
 unfold rightC at h
 rw [Bool.and_eq_true,Bool.and_eq_true,decide_eq_true_eq,decide_eq_true_eq] at h
 omega
def newN (name:ByteArray)(cols:List (Int×Bool)):Int:=if nameB name=true∧rightC cols=true then 0 else 1
def newA (name:ByteArray)(cols:List (Int×Bool)):Tbl:=if newN name cols=0 then newT name cols else newT ⟨#[]⟩ []
theorem newA_good (name:ByteArray)(cols:List (Int×Bool)):GoodT (newA name cols):=by
 unfold newA newN
 by_cases h:nameB name=true∧rightC cols=true
 ·rw [if_pos h,if_pos rfl];exact newT_good (right_cols h.2)
 ·rw [if_neg h,if_neg (by decide)];exact newT_good (by decide)
theorem GoodT.goodP {t:Tbl}(h:GoodT t):∀ p∈cutL t.R,GoodP p t.cols:=h.rows0.good (by decide) (by decide)
theorem GoodT.few_cut {t:Tbl}(h:GoodT t):(cutL t.R).length≤200:=Nat.le_trans (cutL_length_le _) h.few
theorem GoodT.flat {t:Tbl}(h:GoodT t):rightW (cutL t.R).flatten=true:=by rw [cutL_flatten];exact decide_eq_true h.right
theorem short_fits {cols:List (Int×Bool)}{l:List Tm}(h:∀ x∈l,rowN cols x.1=0)(hc:cols.length≤6):ShortR l:=fun x hx=>by have:=(fit_row (h x hx)).1;omega
theorem sizes_fits {cols:List (Int×Bool)}{l:List Tm}(h:∀ x∈l,rowN cols x.1=0):∀ x∈l,cols.length≤x.1.length∧∀ c∈x.1,c.size≤1000000:=fun x hx=>by
 obtain ⟨e,hr⟩:=fit_row (h x hx)
 exact ⟨by omega,fun c hc=>Nat.le_trans (rightB_size (hr c hc)) (by decide)⟩
def TBox (w:World)(B:Nat)(n:ByteArray)(cv bv tv:Value):Prop:=Own w B 4 (.slice (some ⟨B,0,none⟩) 1 1) 1 [.string n,cv,bv,tv]
section
variable {w w':World}{B:Nat}{n:ByteArray}{cv bv tv:Value}
theorem TBox.cells (h:TBox w B n cv bv tv):w.cell? ⟨B,0,none⟩=some (.string n)∧w.cell? ⟨B,1,none⟩=some cv∧w.cell? ⟨B,2,none⟩=some bv∧w.cell? ⟨B,3,none⟩=some tv∧B < w.heap.size:=by
 obtain ⟨_,h2,_,hc,_⟩:=Own.parts h
 have e0:=hc 0 _ rfl
 have e1:=hc 1 _ rfl
 have e2:=hc 2 _ rfl
 have e3:=hc 3 _ rfl
 rw [Nat.zero_add] at e0 e1 e2 e3
 exact ⟨e0,e1,e2,e3,h2⟩
theorem TBox.free (h:TBox w B n cv bv tv):w.frozen? ⟨B,0,none⟩=false∧w.frozen? ⟨B,1,none⟩=false∧w.frozen? ⟨B,2,none⟩=false∧w.frozen? ⟨B,3,none⟩=false:=by
 obtain ⟨_,_,_,_,hr⟩:=Own.parts h
 have e0:=(hr 0 (by decide)).2
 have e1:=(hr 1 (by decide)).2
 have e2:=(hr 2 (by decide)).2
 have e3:=(hr 3 (by decide)).2
 rw [Nat.zero_add] at e0 e1 e2 e3
 exact ⟨e0,e1,e2,e3⟩
theorem TBox.later (h:TBox w B n cv bv tv)(hb:Below w.heap.size w w'):TBox w' B n cv bv tv:=Own.later h hb
theorem TBox.other (h:TBox w B n cv bv tv){row:Option Nat}(hg:w.grownBy w' row)(hne:row≠some B):TBox w' B n cv bv tv :=
 Own.other h hg fun k hk e=>by
  simp only [Value.ownBlock,Option.some.injEq] at hk
  subst hk
  exact hne e.symm
theorem TBox.put2 (h:TBox w B n cv bv tv)(v:Value):TBox (w.setCell ⟨B,2,none⟩ v) B n cv v tv:=by
 have:=Own.stored h 2 (by decide) v
 simp only [Nat.zero_add] at this
 exact this
theorem TBox.put3 (h:TBox w B n cv bv tv)(v:Value):TBox (w.setCell ⟨B,3,none⟩ v) B n cv bv v:=by
 have:=Own.stored h 3 (by decide) v
 simp only [Nat.zero_add] at this
 exact this
theorem TBox.putAll (h:TBox w B n cv bv tv)(n':ByteArray)(cv' bv' tv':Value):TBox ((((w.setCell ⟨B,0,none⟩ (.string n')).setCell ⟨B,1,none⟩ cv').setCell ⟨B,2,none⟩ bv').setCell ⟨B,3,none⟩ tv') B n' cv' bv' tv':=by
 have:=Own.stored (Own.stored (Own.stored (Own.stored h 0 (by decide) (.string n')) 1 (by decide) cv') 2 (by decide) bv') 3 (by decide) tv'
 simp only [Nat.zero_add] at this
 exact this
theorem tbox_lit (w:World)(T:TypeId)(n:ByteArray)(cv bv tv:Value):TBox (w.alloc (.cells #[.string n,cv,bv,tv] T)) w.heap.size n cv bv tv :=
 Own.lit (size:=4) w #[.string n,cv,bv,tv] T 1 (Nat.le_refl _) (by unfold maxLen;omega) rfl
theorem below_four {B O:Nat}{w0:World}(hb:Below B w0 w)(h:B≤O)(a b c d:Value):Below B w0 ((((w.setCell ⟨O,0,none⟩ a).setCell ⟨O,1,none⟩ b).setCell ⟨O,2,none⟩ c).setCell ⟨O,3,none⟩ d) :=
 (((hb.setCell (p:=⟨O,0,none⟩) h a).setCell (p:=⟨O,1,none⟩) h b).setCell (p:=⟨O,2,none⟩) h c).setCell (p:=⟨O,3,none⟩) h d
end
structure TblOf (w:World) (cv bv tv:Value) (t:Tbl):Prop where
 cols:ColsIn w cv t.cols
 blks:BlksIn w bv (blksL (cutL t.R) t.cols.length)
 tail:TimesIn w tv t.T
def TblIn (w:World)(v:Value)(t:Tbl):Prop:=∃ cv bv tv,v=.agg #[.string t.name,cv,bv,tv]∧TblOf w cv bv tv t
section
variable {w w':World}{cv bv tv v:Value}{t:Tbl}
theorem TblOf.kept (h:TblOf w cv bv tv t)(hb:Below w.heap.size w w'):TblOf w' cv bv tv t:=⟨h.cols.kept hb,h.blks.kept hb,h.tail.kept hb⟩
theorem TblIn.kept (h:TblIn w v t)(hb:Below w.heap.size w w'):TblIn w' v t:=by
 obtain ⟨cv,bv,tv,e,h2⟩:=h
 exact ⟨cv,bv,tv,e,h2.kept hb⟩
theorem TblOf.slices (h:TblOf w cv bv tv t):(∃ A p,cv=.slice A t.cols.length p)∧(∃ A p,bv=.slice A (cutL t.R).length p)∧∃ A p,tv=.slice A t.T.length p:=by
 obtain ⟨A1,p1,e1,_⟩:=cols_at h.cols
 obtain ⟨A2,p2,e2,_⟩:=blksL_at h.blks
 obtain ⟨_,A3,p3,e3,_⟩:=times_at h.tail
 exact ⟨⟨A1,p1,e1⟩,⟨A2,p2,e2⟩,⟨A3,p3,e3⟩⟩
end
def TRowsEnd (w:World)(t:Tbl)(e:Ending)(w':World):Prop:=∃ v,e=.returned (.tuple #[v,.int .i64 (cutL t.R).length])∧TimesIn w' v t.rows∧Below w.heap.size w w'
def TNewEnd (w:World)(name:ByteArray)(cols:List (Int×Bool))(e:Ending)(w':World):Prop:=∃ v,e=.returned (.tuple #[v,.int .i64 (newN name cols)])∧TblIn w' v (newA name cols)∧Below w.heap.size w w'
def TApplyEnd (w:World)(t:Tbl)(l:List Tm)(e:Ending)(w':World):Prop:=∃ v,e=.returned (.tuple #[v,.int .i64 (applyN t l)])∧TblIn w' v (applyT t l)∧Below w.heap.size w w'
def TPackEnd (w:World)(t:Tbl)(e:Ending)(w':World):Prop:=∃ v,e=.returned v∧TblIn w' v (packT t)∧Below w.heap.size w w'
def NoInt (w:World)(O:Nat):Prop:=∀ j k n,w.cell? ⟨O,j,none⟩≠some (Value.int k n)
def boxV (O:Nat):Value:=.slice (some ⟨O,0,none⟩) 1 1
section
variable {w w':World}{O:Nat}
theorem NoInt.later (h:NoInt w O)(hO:O < w.heap.size)(hb:Below w.heap.size w w'):NoInt w' O:=fun j k n e=>h j k n ((hb.cell (p:=⟨O,j,none⟩) hO).symm.trans e)
theorem NoInt.other (h:NoInt w O)(hO:O < w.heap.size){row:Option Nat}(hg:w.grownBy w' row)(hne:row≠some O):NoInt w' O:=fun j k n e=>by
 rw [World.cell?_of_block (w:=w) (a:=⟨O,j,none⟩) (hg.block O hO (fun e2=>hne e2.symm))] at e
 exact h j k n e
theorem NoInt.box (w:World)(T:TypeId)(n:ByteArray)(A1 A2 A3:Option Addr)(n1 n2 n3 p1 p2 p3:Nat):NoInt (w.alloc (.cells #[.string n,.slice A1 n1 p1,.slice A2 n2 p2,.slice A3 n3 p3] T)) w.heap.size:=fun j k m e=>by
 rw [World.cell?_alloc_new] at e
 match j,e with
 | 0,e=>simp at e
 | 1,e=>simp at e
 | 2,e=>simp at e
 | 3,e=>simp at e
 | j+4,e=>simp at e
theorem TimesQ.boxed {Q:Value→Prop}{v:Value}{l:List Tm}(h:TimesQ Q w v l)(hq:∀ u,Q u→RowOff (boxV O) u)(hn:NoInt w O)(hg:w.grownBy w' (some O)):TimesQ Q w' v l:=by
 obtain ⟨tv,h1,h2,h3⟩:=h
 refine ⟨tv,?_,h2.offs (v:=boxV O) hg (fun t ht=>hq _ (h3 t ht)),h3⟩
 rcases Nat.eq_zero_or_pos l.length with h0|h0
 ·have hl:l=[]:=List.eq_nil_of_length_eq_zero h0
  subst hl
  obtain ⟨k1,_,A,cap,e,_⟩:=h1
  have hx:timesV tv=[]:=List.eq_nil_of_length_eq_zero (by rw [k1];simp)
  rw [hx,e]
  exact SliceOf.nil_ _ _ _ _
 ·refine SliceOf.keepOwn h1 hg.size fun k hk hlt=>hg.block k hlt fun e=>?_
  obtain ⟨A,cap,e1,h4⟩:=h1.at_
  obtain ⟨b',off,ea,_,hc⟩:=h4 h0
  subst ea;subst e1
  simp only [Value.ownBlock,Option.some.injEq] at hk e
  subst hk
  have hl:=h2.length
  have:=hc _ _ (timesV_get tv 0 (by omega)).2
  subst e
  exact hn _ _ _ this
theorem TimesIn.oldQ {v:Value}{l:List Tm}(h:TimesIn w v l)(hb:Below w.heap.size w w')(Q:Value→Prop)(hQ:∀ u r,StrsIn w u r→Q u):TimesQ Q w' v l:=by
 obtain ⟨tv,h1,h2⟩:=h
 exact ⟨tv,SliceOf.later h1 hb,h2.kept hb,fun t ht=>by
  obtain ⟨x,_,hx,_⟩:=h2.mem t ht
  exact hQ _ _ hx⟩
theorem box_below {u:Value}{r:List ByteArray}(h:StrsIn w u r)(hO:w.heap.size≤O):RowOff (boxV O) u:=RowOff.below h (Nat.le_refl _) fun k hk=>by
 simp only [boxV,Value.ownBlock,Option.some.injEq] at hk
 omega
theorem box_fresh {u:Value}(h:Fresh w.heap.size u)(hO:O < w.heap.size):RowOff (boxV O) u:=RowOff.of_fresh h fun k hk=>by
 simp only [boxV,Value.ownBlock,Option.some.injEq] at hk
 omega
end
section
variable {w w':World}{O:Nat}{Q:Value→Prop}
theorem SliceOf.boxed {s n:Nat}{v:Value}{cs:List Value}(h:SliceOf w s v n cs)(hint:0 < n→∃ (i:Nat)(k:IntKind)(m:Int),cs[i]? = some (Value.int k m))(hn:NoInt w O)(hg:w.grownBy w' (some O)):SliceOf w' s v n cs:=by
 rcases Nat.eq_zero_or_pos n with h0|h0
 ·obtain ⟨k1,_,A,cap,e,_⟩:=h
  subst h0
  have hx:cs=[]:=List.eq_nil_of_length_eq_zero (by rw [k1];simp)
  rw [hx,e]
  exact SliceOf.nil_ _ _ _ _
 ·refine SliceOf.keepOwn h hg.size fun k hk hlt=>hg.block k hlt fun e=>?_
  obtain ⟨A,cap,e1,h4⟩:=h.at_
  obtain ⟨b',off,ea,_,hc⟩:=h4 h0
  subst ea;subst e1
  simp only [Value.ownBlock,Option.some.injEq] at hk e
  subst hk
  obtain ⟨i,kk,m,hi⟩:=hint h0
  have:=hc _ _ hi
  subst e
  exact hn _ _ _ this
theorem ColsIn.boxed {v:Value}{l:List (Int×Bool)}(h:ColsIn w v l)(hn:NoInt w O)(hg:w.grownBy w' (some O)):ColsIn w' v l :=
 SliceOf.boxed h (fun h0=>by
  match l,h0 with
  | c::l,_=>exact ⟨0,_,_,rfl⟩) hn hg
def BlksQ (Q:Value→Prop)(w:World)(v:Value)(l:List Blk):Prop:=∃ tv:List (Value×Blk),tv.map Prod.snd=l∧SliceOf w 3 v l.length (blksV tv)∧(∀ t∈tv,StrsIn w t.1 t.2.2.1)∧∀ t∈tv,Q t.1
theorem BlksQ.blks {v:Value}{l:List Blk}(h:BlksQ Q w v l):BlksIn w v l:=by
 obtain ⟨tv,h1,h2,h3,_⟩:=h
 exact ⟨tv,h1,h2,h3⟩
theorem BlksQ.kept {v:Value}{l:List Blk}(h:BlksQ Q w v l)(hb:Below w.heap.size w w'):BlksQ Q w' v l:=by
 obtain ⟨tv,h1,h2,h3,h4⟩:=h
 exact ⟨tv,h1,SliceOf.later h2 hb,fun t ht=>StrsIn.kept (h3 t ht) hb,h4⟩
theorem BlksQ.nil_ (Q:Value→Prop)(w:World)(A:Option Addr)(cap:Nat):BlksQ Q w (.slice A 0 cap) []:=⟨[],rfl,SliceOf.nil_ _ _ _ _,fun t ht=>absurd ht (by simp),fun t ht=>absurd ht (by simp)⟩
theorem BlksQ.mono {Q':Value→Prop}{v:Value}{l:List Blk}(h:BlksQ Q w v l)(hq:∀ u,Q u→Q' u):BlksQ Q' w v l:=by
 obtain ⟨tv,h1,h2,h3,h4⟩:=h
 exact ⟨tv,h1,h2,h3,fun t ht=>hq _ (h4 t ht)⟩
theorem BlksQ.boxed {v:Value}{l:List Blk}(h:BlksQ Q w v l)(hq:∀ u,Q u→RowOff (boxV O) u)(hn:NoInt w O)(hg:w.grownBy w' (some O)):BlksQ Q w' v l:=by
 obtain ⟨tv,h1,h2,h3,h4⟩:=h
 refine ⟨tv,h1,SliceOf.boxed h2 (fun h0=>?_) hn hg,fun t ht=>StrsIn.off (v:=boxV O) (h3 t ht) (hq _ (h4 t ht)) hg,h4⟩
 subst h1
 match tv,h0 with
 | t::tv,_=>exact ⟨0,_,_,rfl⟩
theorem TimesQ.mono {Q':Value→Prop}{v:Value}{l:List Tm}(h:TimesQ Q w v l)(hq:∀ u,Q u→Q' u):TimesQ Q' w v l:=by
 obtain ⟨tv,h1,h2,h3⟩:=h
 exact ⟨tv,h1,h2,fun t ht=>hq _ (h3 t ht)⟩
theorem TimesQ.oldQ {Q':Value→Prop}{v:Value}{l:List Tm}(h:TimesQ Q w v l)(hb:Below w.heap.size w w')(hQ:∀ u r,StrsIn w u r→Q u→Q' u):TimesQ Q' w' v l:=by
 obtain ⟨tv,h1,h2,h3⟩:=h
 exact ⟨tv,SliceOf.later h1 hb,h2.kept hb,fun t ht=>by
  obtain ⟨x,_,hx,_⟩:=h2.mem t ht
  exact hQ _ _ hx (h3 t ht)⟩
structure TblQ (Q:Value→Prop) (w:World) (cv bv tv:Value) (t:Tbl):Prop where
 cols:ColsIn w cv t.cols
 blks:BlksQ Q w bv (blksL (cutL t.R) t.cols.length)
 tail:TimesQ Q w tv t.T
def TblInQ (Q:Value→Prop)(w:World)(v:Value)(t:Tbl):Prop:=∃ cv bv tv,v=.agg #[.string t.name,cv,bv,tv]∧TblQ Q w cv bv tv t
variable {cv bv tv v:Value}{t:Tbl}
theorem TblQ.of (h:TblQ Q w cv bv tv t):TblOf w cv bv tv t:=⟨h.cols,h.blks.blks,h.tail.times⟩
theorem TblInQ.tbl (h:TblInQ Q w v t):TblIn w v t:=by
 obtain ⟨cv,bv,tv,e,h2⟩:=h
 exact ⟨cv,bv,tv,e,h2.of⟩
theorem TblQ.kept (h:TblQ Q w cv bv tv t)(hb:Below w.heap.size w w'):TblQ Q w' cv bv tv t:=⟨h.cols.kept hb,h.blks.kept hb,h.tail.kept hb⟩
theorem TblInQ.kept (h:TblInQ Q w v t)(hb:Below w.heap.size w w'):TblInQ Q w' v t:=by
 obtain ⟨cv,bv,tv,e,h2⟩:=h
 exact ⟨cv,bv,tv,e,h2.kept hb⟩
theorem TblQ.boxed (h:TblQ Q w cv bv tv t)(hq:∀ u,Q u→RowOff (boxV O) u)(hn:NoInt w O)(hg:w.grownBy w' (some O)):TblQ Q w' cv bv tv t:=⟨h.cols.boxed hn hg,h.blks.boxed hq hn hg,h.tail.boxed hq hn hg⟩
theorem TblInQ.boxed (h:TblInQ Q w v t)(hq:∀ u,Q u→RowOff (boxV O) u)(hn:NoInt w O)(hg:w.grownBy w' (some O)):TblInQ Q w' v t:=by
 obtain ⟨cv,bv,tv,e,h2⟩:=h
 exact ⟨cv,bv,tv,e,h2.boxed hq hn hg⟩
theorem TblQ.mono {Q':Value→Prop}(h:TblQ Q w cv bv tv t)(hq:∀ u,Q u→Q' u):TblQ Q' w cv bv tv t:=⟨h.cols,h.blks.mono hq,h.tail.mono hq⟩
theorem TblOf.noneQ (Q:Value→Prop)(h:TblOf w cv bv tv t)(hR:t.R=[])(hT:t.T=[]):TblQ Q w cv bv tv t:=by
 obtain ⟨_,⟨A2,p2,e2⟩,A3,p3,e3⟩:=h.slices
 refine ⟨h.cols,?_,?_⟩
 ·rw [e2,hR];exact BlksQ.nil_ _ _ _ _
 ·rw [e3,hT];exact TimesQ.nil_ _ _ _ _
theorem BlksIn.trueQ {v:Value}{l:List Blk}(h:BlksIn w v l):BlksQ (fun _=>True) w v l:=by
 obtain ⟨tv,h1,h2,h3⟩:=h
 exact ⟨tv,h1,h2,h3,fun _ _=>trivial⟩
theorem TblIn.trueQ (h:TblIn w v t):TblInQ (fun _=>True) w v t:=by
 obtain ⟨cv,bv,tv,e,h2⟩:=h
 exact ⟨cv,bv,tv,e,⟨h2.cols,h2.blks.trueQ,h2.tail.trueQ⟩⟩
theorem lit_timesQ (Q:Value→Prop)(w:World)(T:TypeId)(tv:List (Value×Int))(l:List Tm)(hr:RowsOf w tv l)(h:l.length≤1000)(hq:∀ t∈tv,Q t.1):TimesQ Q (w.alloc (.cells (timesV tv).toArray T)) (.slice (some ⟨w.heap.size,0,none⟩) l.length l.length) l:=by
 refine ⟨tv,(Own.lit (B:=0) (size:=2) w (timesV tv).toArray T l.length (Nat.zero_le _) (by unfold maxLen;omega) ?_).slice,hr.kept ((Below.refl _ w).alloc (Nat.le_refl _) _),hq⟩
 rw [List.size_toArray,timesV_length,hr.length]
def TApplyQ (Q:Value→Prop)(w:World)(t:Tbl)(l:List Tm)(e:Ending)(w':World):Prop:=∃ v,e=.returned (.tuple #[v,.int .i64 (applyN t l)])∧TblInQ Q w' v (applyT t l)∧Below w.heap.size w w'
def TPackQ (Q:Value→Prop)(w:World)(t:Tbl)(e:Ending)(w':World):Prop:=∃ v,e=.returned v∧TblInQ Q w' v (packT t)∧Below w.heap.size w w'
theorem NoInt.put (h:NoInt w O)(i:Nat){x:Value}(hx:∀ k n,x≠Value.int k n)(hc:w.cell? ⟨O,i,none⟩≠none):NoInt (w.setCell ⟨O,i,none⟩ x) O:=fun j k n e=>by
 by_cases hj:j=i
 ·subst hj
  obtain ⟨y,hy⟩:=Option.ne_none_iff_exists'.1 hc
  rw [World.cell?_setCell_same _ _ _ hy] at e
  exact hx k n (Option.some.inj e)
 ·rw [World.cell?_setCell_other _ _ _ _ (by intro e2;simp only [Addr.mk.injEq,true_and,and_true] at e2;exact hj e2.symm)] at e
  exact h j k n e
theorem NoInt.putAll {B:Nat}{n n':ByteArray}{cv bv tv:Value}{A1 A2 A3:Option Addr}{n1 n2 n3 p1 p2 p3:Nat}(h:NoInt w B)(hx:TBox w B n cv bv tv):NoInt ((((w.setCell ⟨B,0,none⟩ (.string n')).setCell ⟨B,1,none⟩ (.slice A1 n1 p1)).setCell ⟨B,2,none⟩ (.slice A2 n2 p2)).setCell ⟨B,3,none⟩ (.slice A3 n3 p3)) B:=by
 have s0:=Own.stored hx 0 (by decide) (.string n')
 have s1:=Own.stored s0 1 (by decide) (.slice A1 n1 p1)
 have s2:=Own.stored s1 2 (by decide) (.slice A2 n2 p2)
 simp only [Nat.zero_add] at s0 s1 s2
 have c0:=hx.cells.1
 have c1:=(TBox.cells (n:=n') (cv:=cv) (bv:=bv) (tv:=tv) s0).2.1
 have c2:=(TBox.cells (n:=n') (cv:=.slice A1 n1 p1) (bv:=bv) (tv:=tv) s1).2.2.1
 have c3:=(TBox.cells (n:=n') (cv:=.slice A1 n1 p1) (bv:=.slice A2 n2 p2) (tv:=tv) s2).2.2.2.1
 exact (((h.put 0 (by intro k n e;cases e) (by rw [c0];simp)).put 1 (by intro k n e;cases e) (by rw [c1];simp)).put 2 (by intro k n e;cases e) (by rw [c2];simp)).put 3 (by intro k n e;cases e) (by rw [c3];simp)
end
theorem Tryz.infoCn58:(Tryz.prog.info? 58).map (fun i=>(i.zero,i.size,i.bytes))=some (some (.agg #[.int .u8 0,.bool false]),2,2):=by kernel_rfl
theorem one_cols (l:List (Int×Bool)):∀ u∈colsV l,u.oneCell'=true:=by
 intro u hu
 unfold colsV at hu
 rw [List.mem_flatMap] at hu
 obtain ⟨c,_,hu⟩:=hu
 unfold colV at hu
 simp only [List.mem_cons,List.not_mem_nil,or_false] at hu
 rcases hu with rfl|rfl <;> rfl
theorem newN_no {name:ByteArray}{cols:List (Int×Bool)}(h:¬(nameB name=true∧rightC cols=true)):newN name cols=1:=if_neg h
theorem newN_yes {name:ByteArray}{cols:List (Int×Bool)}(h:nameB name=true)(h2:rightC cols=true):newN name cols=0:=if_pos ⟨h,h2⟩
theorem newA_no {name:ByteArray}{cols:List (Int×Bool)}(h:newN name cols=1):newA name cols=newT ⟨#[]⟩ []:=by unfold newA;rw [h,if_neg (by decide)]
theorem newA_yes {name:ByteArray}{cols:List (Int×Bool)}(h:newN name cols=0):newA name cols=newT name cols:=by unfold newA;rw [h,if_pos rfl]
theorem tbl_zero (w:World):TblIn w (.agg #[.string ⟨#[]⟩,.slice none 0 0,.slice none 0 0,.slice none 0 0]) (newT ⟨#[]⟩ []) :=
 ⟨_,_,_,rfl,⟨SliceOf.nil_ _ _ _ _,BlksIn.nil_ _ _ _,TimesIn.nil_ _ _ _⟩⟩
set_option maxHeartbeats 2000000 in
set_option maxRecDepth 100000 in
theorem ref_table_new_calls {w:World}{vc:Value}{name:ByteArray}{cols:List (Int×Bool)}(hc:ColsIn w vc cols)(hl:cols.length≤1000)(hs:name.size≤1000000):Calls Tryz.prog 10 #[.string name,vc] w (TNewEnd w name cols):=by
 obtain ⟨c0,hci,cz0,cz1,cz2⟩:=info_parts Tryz.infoCn58
 have hq0:Below w.heap.size w (w.alloc (.cells #[.string ⟨#[]⟩,.slice none 0 0,.slice none 0 0,.slice none 0 0] 28)):=Below.alloc (.refl _ _) (Nat.le_refl _) _
 have hz:=tbox_lit w 28 ⟨#[]⟩ (.slice none 0 0) (.slice none 0 0) (.slice none 0 0)
 have hsz:w.heap.size+1≤(w.alloc (.cells #[.string ⟨#[]⟩,.slice none 0 0,.slice none 0 0,.slice none 0 0] 28)).heap.size:=by simp
 have HC0:=Lib.hid hc
 have HN:=Lib.hid (ref_shape_name_calls name hs)
 have HR:Hid (∀ w',Below w.heap.size w w'→GivesAt Tryz.prog 22 #[vc] w' (.bool (rightC cols))):=fun w' hb=>ref_shape_right_calls (hc.kept hb)
 obtain ⟨Ac,pc,rfl,_⟩:=cols_at hc
 clear hc
 unfold TNewEnd
 cases hn:nameB name with
 | false =>
  rw [hn] at HN
  have HE:=Lib.hid (newN_no (name:=name) (cols:=cols) (by rw [hn];simp))
  clear hn
  go_enter Tryz.func10,Tryz.ntmps10
  go_wp2_with fail
  generalize w.alloc (.cells #[.string ⟨#[]⟩,.slice none 0 0,.slice none 0 0,.slice none 0 0] 28)=w1 at *
  refine HN.out.stepB (w0:=w) (B:=w.heap.size) hq0 (by omega) ?_
  intro w3 hb3 _ hq3
  have hz3:=hz.later hq3
  clear hz hq0 HN hq3
  obtain ⟨g0,g1,g2,g3,_⟩:=hz3.cells
  obtain ⟨k0,k1,k2,k3⟩:=hz3.free
  have hz5:=hz3.putAll ⟨#[]⟩ (.slice none 0 0) (.slice none 0 0) (.slice none 0 0)
  have HB5:=Lib.hid (below_four hb3 (Nat.le_refl _) (.string ⟨#[]⟩) (.slice none 0 0) (.slice none 0 0) (.slice none 0 0))
  clear hz3 hb3
  go_wp2
  obtain ⟨v0,v1,v2,v3,_⟩:=hz5.cells
  refine ⟨rfl,.tuple #[.agg #[.string ⟨#[]⟩,.slice none 0 0,.slice none 0 0,.slice none 0 0],.int .i64 1],?_,_,by rw [HE.out],?_,HB5.out⟩
  ·simp [results,Tryz.results10,go_sem,v0,v1,v2,v3]
  ·rw [newA_no HE.out];exact tbl_zero _
 | true =>
  rw [hn] at HN
  cases hr:rightC cols with
  | false =>
   rw [hr] at HR
   have HE:=Lib.hid (newN_no (name:=name) (cols:=cols) (by rw [hr];simp))
   clear hn hr
   go_enter Tryz.func10,Tryz.ntmps10
   go_wp2_with fail
   generalize w.alloc (.cells #[.string ⟨#[]⟩,.slice none 0 0,.slice none 0 0,.slice none 0 0] 28)=w1 at *
   refine HN.out.stepB (w0:=w) (B:=w.heap.size) hq0 (by omega) ?_
   intro w2 hb2 _ hq2
   have hz2:=hz.later hq2
   clear hz hq0 HN hq2
   go_wp2_with fail
   refine (HR.out _ hb2).stepB (w0:=w) (B:=w.heap.size) hb2 hb2.size ?_
   intro w3 hb3 _ hq3
   have hz3:=hz2.later hq3
   clear hz2 hb2 HR hq3
   obtain ⟨g0,g1,g2,g3,_⟩:=hz3.cells
   obtain ⟨k0,k1,k2,k3⟩:=hz3.free
   have hz5:=hz3.putAll ⟨#[]⟩ (.slice none 0 0) (.slice none 0 0) (.slice none 0 0)
   have HB5:=Lib.hid (below_four hb3 (Nat.le_refl _) (.string ⟨#[]⟩) (.slice none 0 0) (.slice none 0 0) (.slice none 0 0))
   clear hz3 hb3
   go_wp2
   obtain ⟨v0,v1,v2,v3,_⟩:=hz5.cells
   refine ⟨rfl,.tuple #[.agg #[.string ⟨#[]⟩,.slice none 0 0,.slice none 0 0,.slice none 0 0],.int .i64 1],?_,_,by rw [HE.out],?_,HB5.out⟩
   ·simp [results,Tryz.results10,go_sem,v0,v1,v2,v3]
   ·rw [newA_no HE.out];exact tbl_zero _
  | true =>
   rw [hr] at HR
   have HE:=Lib.hid (newN_yes hn hr)
   clear hn hr
   go_enter Tryz.func10,Tryz.ntmps10
   go_wp2_with fail
   generalize w.alloc (.cells #[.string ⟨#[]⟩,.slice none 0 0,.slice none 0 0,.slice none 0 0] 28)=w1 at *
   refine HN.out.stepB (w0:=w) (B:=w.heap.size) hq0 (by omega) ?_
   intro w2 hb2 _ hq2
   have hz2:=hz.later hq2
   have hs2:=Nat.le_trans hsz hq2.size
   clear hz hq0 HN hq2
   go_wp2_with fail
   refine (HR.out _ hb2).stepB (w0:=w) (B:=w.heap.size) hb2 hb2.size ?_
   intro w3 hb3 _ hq3
   have hz3:=hz2.later hq3
   have hs3:=Nat.le_trans hs2 hq3.size
   clear hz2 hb2 HR hq3 hs2 hsz
   have hqa:Below w3.heap.size w3 (w3.alloc (.cells #[] 58)):=Below.alloc (.refl _ _) (Nat.le_refl _) _
   have HO0:Hid (Own (w3.alloc (.cells #[] 58)) w3.heap.size 2 (.slice (some ⟨w3.heap.size,0,none⟩) 0 0) 0 []):=own_empty 2 (Nat.le_refl _) (by simp)
   have HSL:=Lib.hid (HC0.out.kept (hb3.trans (hqa.mono hb3.size)))
   have hza:=hz3.later hqa
   have hba:=hb3.trans (hqa.mono hb3.size)
   have HS3:=Lib.hid hs3
   clear hqa hs3 hz3 hb3
   unfold ColsIn at HSL
   go_wp2_with (at_builtin;refine wpList_append_src rfl (.tmp 16) (.tmp 17) 22 rfl 58 c0 (.agg #[.int .u8 0,.bool false]) 2 2 Tryz.underlying22 hci cz0 cz1 cz2 rfl (by decide) (B:=w3.heap.size) (.slice (some ⟨w3.heap.size,0,none⟩) 0 0) 0 [] rfl HO0.out _ cols.length (colsV cols) rfl HSL.out (one_cols _) (by unfold maxLen;omega) (by omega) (by simp) ?_)
   intro v7 w7 hO7 hg7 _
   have hO:Own w7 w3.heap.size 2 v7 cols.length (colsV cols):=by simpa using hO7
   have hz7:=hza.other hg7 (by simp only [Value.ownBlock,ne_eq,Option.some.injEq];have:=HS3.out;omega)
   have hb7:=hba.grown hg7 (by have:=HS3.out;simp;omega) (fun j hj=>by simp only [Value.ownBlock,Option.some.injEq] at hj;have:=HS3.out;omega)
   obtain ⟨A7,p7,rfl⟩:=hO.len
   have hf7:Fresh w3.heap.size (.slice A7 cols.length p7):=fun k hk=>(hO.lt k hk).1
   obtain ⟨g0,g1,g2,g3,_⟩:=hz7.cells
   obtain ⟨k0,k1,k2,k3⟩:=hz7.free
   have hz5:=hz7.putAll name (.slice A7 cols.length p7) (.slice none 0 0) (.slice none 0 0)
   have HB5:=Lib.hid (below_four hb7 (Nat.le_refl _) (.string name) (.slice A7 cols.length p7) (.slice none 0 0) (.slice none 0 0))
   have hg5:=setCells_grown w.heap.size [Value.string name,.slice A7 cols.length p7,.slice none 0 0,.slice none 0 0] 0 w7
   simp only [World.setCells,Nat.zero_add,Nat.reduceAdd] at hg5
   have HC5:=Lib.hid (SliceOf.fresh hO.slice hf7 hg5 (by have:=HS3.out;omega))
   clear hO7 hg7 hO hz7 hb7 hza hba hf7 hg5 HSL HO0
   go_wp2
   obtain ⟨v0,v1,v2,v3,_⟩:=hz5.cells
   refine ⟨rfl,.tuple #[.agg #[.string name,.slice A7 cols.length p7,.slice none 0 0,.slice none 0 0],.int .i64 0],?_,_,by rw [HE.out],?_,HB5.out⟩
   ·simp [results,Tryz.results10,go_sem,v0,v1,v2,v3]
   ·rw [newA_yes HE.out];exact ⟨_,_,_,rfl,⟨HC5.out,BlksIn.nil_ _ _ _,TimesIn.nil_ _ _ _⟩⟩
set_option maxHeartbeats 1000000 in
set_option maxRecDepth 100000 in
theorem ref_table_rows_calls {w:World}{v:Value}{t:Tbl}(h:TblIn w v t)(hg:GoodT t):Calls Tryz.prog 20 #[v] w (TRowsEnd w t):=by
 obtain ⟨cv,bv,tv,rfl,hT⟩:=h
 obtain ⟨⟨Ac,pc,rfl⟩,⟨Ab,pb,rfl⟩,⟨At,pt,rfl⟩⟩:=hT.slices
 have hq0:Below w.heap.size w (w.alloc (.cells #[.string t.name,.slice Ac t.cols.length pc,.slice Ab (cutL t.R).length pb,.slice At t.T.length pt] 28)):=Below.alloc (.refl _ _) (Nat.le_refl _) _
 have hx:=tbox_lit w 28 t.name (.slice Ac t.cols.length pc) (.slice Ab (cutL t.R).length pb) (.slice At t.T.length pt)
 have HT:=Lib.hid (hT.kept hq0)
 have HG:=Lib.hid hg
 have HALL:=Lib.hid (ref_all_calls (P:=cutL t.R) HT.out.blks HT.out.cols hg.goodP (by rw [cutL_flatten];have:=hg.few;omega) (by have:=hg.few_cut;omega) (by have:=hg.cols;omega))
 have HB:=Lib.hid hq0
 clear hT hg hq0
 unfold TRowsEnd
 go_enter Tryz.func20,Tryz.ntmps20
 obtain ⟨_,x1,x2,_,_⟩:=hx.cells
 go_wp2_with fail
 generalize w.alloc (.cells #[.string t.name,.slice Ac t.cols.length pc,.slice Ab (cutL t.R).length pb,.slice At t.T.length pt] 28)=w1 at *
 clear x1 x2
 refine HALL.out.mono ?_
 rintro e w2 ⟨v2,he,hv2,hq2⟩
 rw [if_pos HG.out.flat] at he hv2
 rw [cutL_flatten] at hv2
 subst he
 have hx2:=hx.later hq2
 obtain ⟨z0,z1,z2,z3,_⟩:=hx2.cells
 have HB2:=Lib.hid (HB.out.trans (hq2.mono HB.out.size))
 have hb0:Below w2.heap.size w2 w2.drew:=Below.drew (.refl _ _)
 have HB0:=Lib.hid hb0
 have HSUM:=Lib.hid (ref_weigh_sum_calls (hv2.kept hb0) ((HT.out.tail.kept hq2).kept hb0) (by have:=HG.out.few;have:=HG.out.tlen;omega) (by have:=there_wt HG.out.there HG.out.few;have:=HG.out.twt;omega))
 have HZ2:=Lib.hid z2
 have HZ3:=Lib.hid z3
 obtain ⟨A2,p2,e2⟩:∃ A2 p2,v2=.slice A2 t.R.length p2:=by obtain ⟨_,A2,p2,e,_⟩:=times_at hv2;exact ⟨A2,p2,e⟩
 subst e2
 clear hv2 hq2 hx hx2 hb0 HALL HT z0 z1
 generalize t.R.length=rl at *
 generalize t.T.length=tl at *
 go_wp2_with fail
 go_region_law (go_simp;go_at_call 24;refine HSUM.out.mono ?_;rintro e w4 ⟨v4,rfl,h4,hq40⟩;have HQ4:=Lib.hid (HB0.out.trans hq40);have y2:=cell_kept HZ2.out HQ4.out;have y3:=cell_kept HZ3.out HQ4.out;have H4:=Lib.hid h4;clear h4 hq40)
 all_goals
  have hb4:=HB2.out.trans (HQ4.out.mono HB2.out.size)
  obtain ⟨A4,p4,e4⟩:∃ A4 p4,v4=.slice A4 (sumW t.R t.T).length p4:=by obtain ⟨_,A4,p4,e,_⟩:=times_at H4.out;exact ⟨A4,p4,e⟩
  subst e4
  clear y2 y3 z2 z3 HZ2 HZ3
  go_wp2
  go_ret2
  exact ⟨_,rfl,H4.out,hb4⟩
set_option maxHeartbeats 1000000 in
set_option maxRecDepth 100000 in
theorem ref_table_pack_q (Q:Value→Prop){w:World}{v:Value}{t:Tbl}(h:TblIn w v t)(hg:GoodT t)(hQ:∀ u,Fresh w.heap.size u→Q u):Calls Tryz.prog 18 #[v] w (TPackQ Q w t):=by
 obtain ⟨cv,bv,tv,rfl,hT⟩:=h
 obtain ⟨⟨Ac,pc,rfl⟩,⟨Ab,pb,rfl⟩,⟨At,pt,rfl⟩⟩:=hT.slices
 have hq0:Below w.heap.size w (w.alloc (.cells #[.string t.name,.slice Ac t.cols.length pc,.slice Ab (cutL t.R).length pb,.slice At t.T.length pt] 28)):=Below.alloc (.refl _ _) (Nat.le_refl _) _
 have hqz:Below (w.alloc (.cells #[.string t.name,.slice Ac t.cols.length pc,.slice Ab (cutL t.R).length pb,.slice At t.T.length pt] 28)).heap.size (w.alloc (.cells #[.string t.name,.slice Ac t.cols.length pc,.slice Ab (cutL t.R).length pb,.slice At t.T.length pt] 28)) ((w.alloc (.cells #[.string t.name,.slice Ac t.cols.length pc,.slice Ab (cutL t.R).length pb,.slice At t.T.length pt] 28)).alloc (.cells #[.string ⟨#[]⟩,.slice none 0 0,.slice none 0 0,.slice none 0 0] 28)):=Below.alloc (.refl _ _) (Nat.le_refl _) _
 have hx:=(tbox_lit w 28 t.name (.slice Ac t.cols.length pc) (.slice Ab (cutL t.R).length pb) (.slice At t.T.length pt)).later hqz
 have hz:=tbox_lit (w.alloc (.cells #[.string t.name,.slice Ac t.cols.length pc,.slice Ab (cutL t.R).length pb,.slice At t.T.length pt] 28)) 28 ⟨#[]⟩ (.slice none 0 0) (.slice none 0 0) (.slice none 0 0)
 have hsz:(w.alloc (.cells #[.string t.name,.slice Ac t.cols.length pc,.slice Ab (cutL t.R).length pb,.slice At t.T.length pt] 28)).heap.size=w.heap.size+1:=by simp
 rw [hsz] at hz
 have hsz2:((w.alloc (.cells #[.string t.name,.slice Ac t.cols.length pc,.slice Ab (cutL t.R).length pb,.slice At t.T.length pt] 28)).alloc (.cells #[.string ⟨#[]⟩,.slice none 0 0,.slice none 0 0,.slice none 0 0] 28)).heap.size=w.heap.size+2:=by simp
 have hb:=hq0.trans (hqz.mono hq0.size)
 have HT0:=Lib.hid hT
 have HT:=Lib.hid (hT.kept hb)
 have HG:=Lib.hid hg
 have HQ:=Lib.hid hQ
 have HRW:=Lib.hid (ref_table_rows_calls (w:=(w.alloc (.cells #[.string t.name,.slice Ac t.cols.length pc,.slice Ab (cutL t.R).length pb,.slice At t.T.length pt] 28)).alloc (.cells #[.string ⟨#[]⟩,.slice none 0 0,.slice none 0 0,.slice none 0 0] 28)) ⟨_,_,_,rfl,HT.out⟩ hg)
 unfold TRowsEnd at HRW
 clear hT hg hq0 hqz hsz hQ
 unfold TPackQ
 go_enter Tryz.func18,Tryz.ntmps18
 obtain ⟨x0,x1,x2,x3,_⟩:=hx.cells
 go_wp2_with fail
 generalize (w.alloc (.cells #[.string t.name,.slice Ac t.cols.length pc,.slice Ab (cutL t.R).length pb,.slice At t.T.length pt] 28)).alloc (.cells #[.string ⟨#[]⟩,.slice none 0 0,.slice none 0 0,.slice none 0 0] 28)=w1 at *
 clear x0 x1 x2 x3
 refine HRW.out.mono ?_
 rintro e w2 ⟨v2,rfl,hv2,hq2⟩
 have hx2:=hx.later hq2
 have hz2:=hz.later hq2
 have hb2:=hb.trans (hq2.mono hb.size)
 have hs2:w.heap.size+2≤w2.heap.size:=by have:=hq2.size;omega
 have HBL:=Lib.hid (ref_blocks_new hv2 t.cols.length (sizes_fits HG.out.rfits) (by have:=HG.out.cols;omega) (by have:=HG.out.rfew;omega) (wt_range (by have:=there_wt HG.out.rthere HG.out.rfew;omega)))
 unfold BlocksNew at HBL
 obtain ⟨A2,p2,e2⟩:∃ A2 p2,v2=.slice A2 t.rows.length p2:=by obtain ⟨_,A2,p2,e,_⟩:=times_at hv2;exact ⟨A2,p2,e⟩
 subst e2
 obtain ⟨y0,y1,y2,y3,_⟩:=hx2.cells
 clear hv2 hq2 hx hz hb HRW HT hsz2
 generalize t.rows.length=rl at *
 go_wp2_with fail
 refine HBL.out.mono ?_
 rintro e w3 ⟨v3,tv3,rfl,he3,hs3v,hc3,hf3,hv3f,hq3⟩
 have hx3:=hx2.later hq3
 have hz3:=hz2.later hq3
 have hb3:=hb2.trans (hq3.mono hb2.size)
 have hs3:w.heap.size+2≤w3.heap.size:=Nat.le_trans hs2 hq3.size
 have hg3:=setCells_grown w.heap.size [v3,.slice none 0 0] 2 w3
 simp only [World.setCells,Nat.reduceAdd] at hg3
 have hx4:=(hx3.put2 v3).put3 (.slice none 0 0)
 have hz4:=hz3.other hg3 (by simp)
 have hb4:=(hb3.setCell (p:=⟨w.heap.size,2,none⟩) (Nat.le_refl _) v3).setCell (p:=⟨w.heap.size,3,none⟩) (Nat.le_refl _) (.slice none 0 0)
 have hz5:=hz4.putAll t.name (.slice Ac t.cols.length pc) v3 (.slice none 0 0)
 have HB5:=Lib.hid (below_four hb4 (Nat.le_succ _) (.string t.name) (.slice Ac t.cols.length pc) v3 (.slice none 0 0))
 have hgB:=setCells_grown (w.heap.size+1) [Value.string t.name,.slice Ac t.cols.length pc,v3,.slice none 0 0] 0 ((w3.setCell ⟨w.heap.size,2,none⟩ v3).setCell ⟨w.heap.size,3,none⟩ (.slice none 0 0))
 simp only [World.setCells,Nat.zero_add,Nat.reduceAdd] at hgB
 have HBI:Hid (BlksQ Q ((((((w3.setCell ⟨w.heap.size,2,none⟩ v3).setCell ⟨w.heap.size,3,none⟩ (.slice none 0 0)).setCell ⟨w.heap.size+1,0,none⟩ (.string t.name)).setCell ⟨w.heap.size+1,1,none⟩ (.slice Ac t.cols.length pc)).setCell ⟨w.heap.size+1,2,none⟩ v3).setCell ⟨w.heap.size+1,3,none⟩ (.slice none 0 0)) v3 (blksL (cutL t.rows) t.cols.length)) :=
  ⟨tv3,he3,SliceOf.fresh (SliceOf.fresh hs3v hv3f hg3 (by omega)) hv3f hgB (by omega),fun x hx3=>SliceOf.fresh (SliceOf.fresh (hc3 x hx3) (hf3 x hx3) hg3 (by omega)) (hf3 x hx3) hgB (by omega),fun x hx3=>HQ.out _ ((hf3 x hx3).mono hb2.size)⟩
 obtain ⟨A3,p3,ea3,hat3⟩:=hs3v.at_
 subst ea3
 obtain ⟨y0,y1,y2,y3,_⟩:=hx3.cells
 obtain ⟨f0,f1,f2,f3⟩:=hx3.free
 obtain ⟨u0,u1,u2,u3,_⟩:=hx4.cells
 obtain ⟨g0,g1,g2,g3,_⟩:=hz4.cells
 obtain ⟨k0,k1,k2,k3⟩:=hz4.free
 clear hat3 hs3v hv3f hc3 hf3 he3 hg3 hgB hx3 hx4 hz4 hz3 hb3 hb4 HBL hq3
 generalize (blksL (cutL t.rows) t.cols.length).length=bl at *
 go_wp2
 obtain ⟨v0,v1,v2,v3,_⟩:=hz5.cells
 refine ⟨rfl,.agg #[.string t.name,.slice Ac t.cols.length pc,.slice A3 bl p3,.slice none 0 0],?_,_,rfl,⟨_,_,_,rfl,⟨HT0.out.cols.kept HB5.out,HBI.out,TimesQ.nil_ _ _ _ _⟩⟩,HB5.out⟩
 simp [results,Tryz.results18,go_sem,v0,v1,v2,v3]
set_option maxHeartbeats 2000000 in
set_option maxRecDepth 100000 in
theorem ref_table_check_calls {w:World}{v vl:Value}{t:Tbl}{l:List Tm}(h:TblIn w v t)(hl:TimesIn w vl l):GivesAt Tryz.prog 14 #[v,vl] w (.int .i64 (checkN t.cols l)):=by
 have hm:=hl.len
 unfold maxLen at hm
 obtain ⟨cv,bv,tv,rfl,hT⟩:=h
 obtain ⟨⟨Ac,pc,rfl⟩,⟨Ab,pb,rfl⟩,⟨At,pt,rfl⟩⟩:=hT.slices
 have hq0:Below w.heap.size w (w.alloc (.cells #[.string t.name,.slice Ac t.cols.length pc,.slice Ab (cutL t.R).length pb,.slice At t.T.length pt] 28)):=Below.alloc (.refl _ _) (Nat.le_refl _) _
 have hx:=tbox_lit w 28 t.name (.slice Ac t.cols.length pc) (.slice Ab (cutL t.R).length pb) (.slice At t.T.length pt)
 have HC:=Lib.hid (hT.cols.kept hq0)
 have HL0:=Lib.hid (hl.kept hq0)
 obtain ⟨tvl,A,cap,rfl,_,hat⟩:=times_at HL0.out
 have HAT:=Lib.hid hat
 have HB:=Lib.hid hq0
 clear hT hq0 hat hl
 unfold GivesAt
 go_enter Tryz.func14,Tryz.ntmps14
 go_wp2
 generalize w.alloc (.cells #[.string t.name,.slice Ac t.cols.length pc,.slice Ab (cutL t.R).length pb,.slice At t.T.length pt] 28)=w1 at *
 have HX:=Lib.hid hx
 clear hx HL0
 go_loopw [5] (fun i wr=>∃ k:Nat,k≤l.length∧i=.int .i64 k∧Hid (rowsN t.cols (l.take k)=0)∧Below w1.heap.size w1 wr) (fun i _=>l.length-(intOf i).toNat)
 case atStart=>exact ⟨0,Nat.zero_le _,rfl,rfl,.refl _ _⟩
 case round =>
  obtain ⟨k,hk,rfl,HS,hb⟩:=hrel
  have hB:=hb.size
  by_cases hlt:k < l.length
  ·obtain ⟨b,off,rfl,hbl,hc⟩:=HAT.out k hlt
   obtain ⟨rv,hrs,htv,c1,c2⟩:=hc k hlt
   have x1:=(hb.cell (p:=⟨b,off+k*2,none⟩) hbl).trans c1
   obtain ⟨_,z1,_,_,_⟩:=(HX.out.later hb).cells
   have hrs1:=StrsIn.kept hrs hb
   have hcs:=HC.out.kept hb
   have HROW:Hid (∀ W,Below wr.heap.size wr W→GivesAt Tryz.prog 23 #[.slice Ac t.cols.length pc,rv] W (.int .i64 (rowN t.cols l[k].1))):=fun W hW=>ref_row_calls (hcs.kept hW) (StrsIn.kept hrs1 hW)
   have HN:=Lib.hid (rowsN_next (cols:=t.cols) hlt HS.out)
   have HA:=Lib.hid (rowsN_at (cols:=t.cols) hlt HS.out)
   obtain ⟨Ar,pr,ear,hone⟩:=one_at hrs
   subst ear
   have i0:(0:Int)≤(k:Int):=by omega
   have i1:(k:Int) < (l.length:Int):=by omega
   have e1:=fun d os=>cell_regrown x1 d os
   have e2:=fun d os=>cell_regrown z1 d os
   clear hc c1 c2 htv hrs hrs1 hcs hone x1 z1
   generalize l[k].1.length=rl at *
   by_cases hr:rowN t.cols l[k].1=0
   ·have HN1:=Lib.hid (HN.out hr)
    have d1:(rowN t.cols l[k].1 != 0)=false:=by simp [hr]
    clear HN HA hr
    generalize rowN t.cols l[k].1=rn at *
    go_wp2_with fail
    refine wp_region_quiet_below (by kernel_rfl) (by kernel_rfl) ?_
    repeat (first|go_big_quiet_skip|(go_big_quiet_want;go_big_quiet_op;first|go_big_quiet_on|(apply Exists.intro;refine ⟨fun _=>?_,?_⟩;(first|(go_at_call 23;exact Calls.regrown_of (HROW.out _ (below_regrown wr _ _))));go_big_quiet_on)))
    refine wpQuiet_nil ?_
    rintro w3 ⟨p,hw3⟩
    have hq3:Below wr.heap.size wr w3:=hw3▸below_regrown wr p.d p.os
    have hb3:=hb.trans (hq3.mono hB)
    clear hw3 e1 e2 hq3 hb hB
    go_wp2
    go_roundw
    case rel=>exact ⟨k+1,by omega,by go_num,HN1.out,hb3⟩
    case measure=>simp [intOf];omega
   ·have HA1:=Lib.hid (HA.out hr)
    have d1:(rowN t.cols l[k].1 != 0)=true:=by simp [hr]
    clear HN HA hr
    generalize hrn:rowN t.cols l[k].1=rn at *
    go_wp2_with fail
    refine wp_region_quiet_below (by kernel_rfl) (by kernel_rfl) ?_
    repeat (first|go_big_quiet_skip|(go_big_quiet_want;go_big_quiet_op;first|go_big_quiet_on|(apply Exists.intro;refine ⟨fun _=>?_,?_⟩;(first|(go_at_call 23;exact Calls.regrown_of (HROW.out _ (below_regrown wr _ _))));go_big_quiet_on)))
    refine wpQuiet_nil ?_
    rintro w3 ⟨p,hw3⟩
    have hq3:Below wr.heap.size wr w3:=hw3▸below_regrown wr p.d p.os
    have hbe:=HB.out.trans ((hb.trans (hq3.mono hB)).mono HB.out.size)
    clear hw3 e1 e2 hq3 hb hB hrn
    go_wp2
    go_ret
    exact ⟨ret_int HA1.out.symm,hbe⟩
  ·obtain rfl:k=l.length:=by omega
   rw [List.take_length] at HS
   have HB2:=Lib.hid (HB.out.trans (hb.mono HB.out.size))
   have HBW:=Lib.hid hb
   obtain ⟨w2,hw2⟩:∃ w2,w2=wr:=⟨wr,rfl⟩
   subst hw2
   clear hb hB
   go_wp2
   go_loop [7] (fun i=>∃ k:Nat,k≤l.length∧i=.int .i64 k∧Hid (∀ x∈l.take k,oftenT x=false)) (fun i=>l.length-(intOf i).toNat)
   case atStart=>exact ⟨0,Nat.zero_le _,rfl,fun x hx=>absurd hx (by simp)⟩
   case round =>
    obtain ⟨k,hk2,rfl,HO⟩:=hrel
    by_cases hlt2:k < l.length
    ·obtain ⟨b,off,rfl,hbl,hc⟩:=HAT.out k hlt2
     obtain ⟨rv,hrs,htv,c1,c2⟩:=hc k hlt2
     have x2:=(HBW.out.cell (p:=⟨b,off+k*2+1,none⟩) hbl).trans c2
     have HTK:=Lib.hid (take_add l k hlt2)
     have HM:=Lib.hid (List.getElem_mem hlt2)
     have i0:(0:Int)≤(k:Int):=by omega
     have i1:(k:Int) < (l.length:Int):=by omega
     clear hc c1 c2 htv hrs
     generalize l[k]=x at *
     obtain ⟨row,n⟩:=x
     dsimp only at *
     by_cases h1:1048576 < n
     ·have d1:decide (1048576 < n)=true:=decide_eq_true h1
      have HE:=Lib.hid (check_often HS.out HM.out (show oftenT (row,n)=true by unfold oftenT;rw [d1];rfl))
      clear h1
      go_wp2
      go_ret
      exact ⟨ret_int HE.out.symm,HB2.out⟩
     ·have d1:decide (1048576 < n)=false:=decide_eq_false h1
      by_cases h2:n < -1048576
      ·have d2:decide (n < -1048576)=true:=decide_eq_true h2
       have HE:=Lib.hid (check_often HS.out HM.out (show oftenT (row,n)=true by unfold oftenT;rw [d1,d2];rfl))
       clear h1 h2
       go_wp2
       go_ret
       exact ⟨ret_int HE.out.symm,HB2.out⟩
      ·have d2:decide (n < -1048576)=false:=decide_eq_false h2
       have HO2:Hid (∀ x∈l.take (k+1),oftenT x=false):=fun x hx=>by
        rw [HTK.out] at hx
        rcases List.mem_append.1 hx with hx|hx
        ·exact HO.out x hx
        ·rw [List.mem_singleton.1 hx];unfold oftenT;rw [d1,d2];rfl
       clear h1 h2
       go_wp2
       go_round
       case rel=>exact ⟨k+1,by omega,by go_num,HO2.out⟩
       case measure=>simp [intOf];omega
    ·obtain rfl:k=l.length:=by omega
     rw [List.take_length] at HO
     have HE:=Lib.hid (check_never HS.out HO.out)
     go_wp2
     go_ret
     exact ⟨ret_int HE.out.symm,HB2.out⟩
theorem applyT_no {t:Tbl}{l:List Tm}(h:applyN t l≠0):applyT t l=t:=if_neg h
theorem applyN_check {t:Tbl}{l:List Tm}(h:checkN t.cols l≠0):applyN t l=checkN t.cols l:=if_neg h
theorem applyN_under {t:Tbl}{l:List Tm}(h:checkN t.cols l=0)(hw:wholeW (sumW t.rows l)=false):applyN t l=6:=by
 unfold applyN
 rw [if_pos h,if_neg (by rw [hw];decide)]
theorem applyN_over {t:Tbl}{l:List Tm}(h:checkN t.cols l=0)(hw:wholeW (sumW t.rows l)=true){x:Tm}(hx:x∈sumW t.rows l)(ho:1048576 < x.2):applyN t l=8:=by
 unfold applyN
 have:overB (sumW t.rows l)=true:=by unfold overB;rw [List.any_eq_true];exact ⟨x,hx,decide_eq_true ho⟩
 rw [if_pos h,if_pos hw,if_pos (.inl this)]
theorem applyN_many {t:Tbl}{l:List Tm}(h:checkN t.cols l=0)(hw:wholeW (sumW t.rows l)=true)(ho:200 < (sumW t.rows l).length):applyN t l=8:=by
 unfold applyN
 rw [if_pos h,if_pos hw,if_pos (.inr ho)]
theorem applyN_ok {t:Tbl}{l:List Tm}(h:checkN t.cols l=0)(hw:wholeW (sumW t.rows l)=true)(hn:∀ x∈sumW t.rows l,¬1048576 < x.2)(ho:¬200 < (sumW t.rows l).length):applyN t l=0:=by
 unfold applyN
 have:overB (sumW t.rows l)=false:=by unfold overB;rw [List.any_eq_false];exact fun x hx=>by rw [decide_eq_true_eq];exact hn x hx
 rw [if_pos h,if_pos hw,if_neg (by rw [this];simp;omega)]
def awayT (O:Nat)(u:Value):Prop:=RowOff (boxV O) u∧RowOff (boxV (O+1)) u
def awayQ (Q:Value→Prop)(O:Nat)(u:Value):Prop:=awayT O u∧Q u
set_option maxHeartbeats 4000000 in
set_option maxRecDepth 100000 in
theorem ref_table_apply_q (Q:Value→Prop){w:World}{v vl:Value}{t:Tbl}{l:List Tm}(h:TblInQ Q w v t)(hg:GoodT t)(hl:TimesQ Q w vl l)(hll:l.length≤1000):Calls Tryz.prog 16 #[v,vl] w (TApplyQ Q w t l):=by
 obtain ⟨cv,bv,tv,rfl,hT⟩:=h
 obtain ⟨⟨Ac,pc,rfl⟩,⟨Ab,pb,rfl⟩,⟨At,pt,rfl⟩⟩:=hT.of.slices
 have hq0:Below w.heap.size w (w.alloc (.cells #[.string t.name,.slice Ac t.cols.length pc,.slice Ab (cutL t.R).length pb,.slice At t.T.length pt] 28)):=Below.alloc (.refl _ _) (Nat.le_refl _) _
 have hqz:Below (w.alloc (.cells #[.string t.name,.slice Ac t.cols.length pc,.slice Ab (cutL t.R).length pb,.slice At t.T.length pt] 28)).heap.size (w.alloc (.cells #[.string t.name,.slice Ac t.cols.length pc,.slice Ab (cutL t.R).length pb,.slice At t.T.length pt] 28)) ((w.alloc (.cells #[.string t.name,.slice Ac t.cols.length pc,.slice Ab (cutL t.R).length pb,.slice At t.T.length pt] 28)).alloc (.cells #[.string ⟨#[]⟩,.slice none 0 0,.slice none 0 0,.slice none 0 0] 28)):=Below.alloc (.refl _ _) (Nat.le_refl _) _
 have hx:=(tbox_lit w 28 t.name (.slice Ac t.cols.length pc) (.slice Ab (cutL t.R).length pb) (.slice At t.T.length pt)).later hqz
 have hni:=(NoInt.box w 28 t.name Ac Ab At t.cols.length (cutL t.R).length t.T.length pc pb pt).later (by simp) hqz
 have hz:=tbox_lit (w.alloc (.cells #[.string t.name,.slice Ac t.cols.length pc,.slice Ab (cutL t.R).length pb,.slice At t.T.length pt] 28)) 28 ⟨#[]⟩ (.slice none 0 0) (.slice none 0 0) (.slice none 0 0)
 have hnz:=NoInt.box (w.alloc (.cells #[.string t.name,.slice Ac t.cols.length pc,.slice Ab (cutL t.R).length pb,.slice At t.T.length pt] 28)) 28 ⟨#[]⟩ none none none 0 0 0 0 0 0
 have hsz:(w.alloc (.cells #[.string t.name,.slice Ac t.cols.length pc,.slice Ab (cutL t.R).length pb,.slice At t.T.length pt] 28)).heap.size=w.heap.size+1:=by simp
 rw [hsz] at hz hnz
 have hsz2:((w.alloc (.cells #[.string t.name,.slice Ac t.cols.length pc,.slice Ab (cutL t.R).length pb,.slice At t.T.length pt] 28)).alloc (.cells #[.string ⟨#[]⟩,.slice none 0 0,.slice none 0 0,.slice none 0 0] 28)).heap.size=w.heap.size+2:=by simp
 have hb:=hq0.trans (hqz.mono hq0.size)
 have HT0:=Lib.hid hT
 have HL0:=Lib.hid hl
 have HG:=Lib.hid hg
 have HCK:=Lib.hid (ref_table_check_calls (w:=(w.alloc (.cells #[.string t.name,.slice Ac t.cols.length pc,.slice Ab (cutL t.R).length pb,.slice At t.T.length pt] 28)).alloc (.cells #[.string ⟨#[]⟩,.slice none 0 0,.slice none 0 0,.slice none 0 0] 28)) ⟨_,_,_,rfl,hT.of.kept hb⟩ (hl.times.kept hb))
 obtain ⟨Al,pl,eal⟩:∃ Al pl,vl=.slice Al l.length pl:=by obtain ⟨_,A,p,e,_⟩:=times_at hl.times;exact ⟨A,p,e⟩
 subst eal
 clear hT hg hq0 hqz hsz hl
 unfold TApplyQ
 go_enter Tryz.func16,Tryz.ntmps16
 obtain ⟨x0,x1,x2,x3,_⟩:=hx.cells
 go_wp2_with fail
 generalize (w.alloc (.cells #[.string t.name,.slice Ac t.cols.length pc,.slice Ab (cutL t.R).length pb,.slice At t.T.length pt] 28)).alloc (.cells #[.string ⟨#[]⟩,.slice none 0 0,.slice none 0 0,.slice none 0 0] 28)=w2 at *
 clear x0 x1 x2 x3
 refine HCK.out.stepB (w0:=w) (B:=w.heap.size) hb (by omega) ?_
 intro w3 hb3 _ hq3
 have hx3:=hx.later hq3
 have hz3:=hz.later hq3
 have hni3:=hni.later (by omega) hq3
 have hnz3:=hnz.later (by omega) hq3
 have hs3:w.heap.size+2≤w3.heap.size:=by have:=hq3.size;omega
 clear hx hz hb HCK hq3 hni hnz hsz2
 by_cases hc:checkN t.cols l=0
 ·have d1:(checkN t.cols l != 0)=false:=by simp [hc]
  have HC:=Lib.hid hc
  have HRW:=Lib.hid (ref_table_rows_calls (w:=w3) ⟨_,_,_,rfl,HT0.out.of.kept hb3⟩ HG.out)
  unfold TRowsEnd at HRW
  obtain ⟨x0,x1,x2,x3,_⟩:=hx3.cells
  clear hc
  go_wp2_with fail
  refine HRW.out.mono ?_
  rintro e w4 ⟨v4,rfl,hv4,hq4⟩
  have hx4:=hx3.later hq4
  have hz4:=hz3.later hq4
  have hb4:=hb3.trans (hq4.mono hb3.size)
  have hni4:=hni3.later (by omega) hq4
  have hnz4:=hnz3.later (by omega) hq4
  have hs4:w.heap.size+2≤w4.heap.size:=Nat.le_trans hs3 hq4.size
  have hck:checkN t.cols l=0:=HC.out
  have hwt:=apply_wt HG.out hck hll
  have HSM:=Lib.hid (ref_weigh_sum_calls hv4 (HL0.out.times.kept hb4) (by have:=HG.out.rfew;omega) hwt.1)
  obtain ⟨A4,p4,e4⟩:∃ A4 p4,v4=.slice A4 t.rows.length p4:=by obtain ⟨_,A4,p4,e,_⟩:=times_at hv4;exact ⟨A4,p4,e⟩
  subst e4
  have HWT:=Lib.hid hwt.2
  have HCK:=Lib.hid hck
  clear hv4 hq4 hx3 hz3 hb3 hni3 hnz3 hs3 x0 x1 x2 x3 HRW HC hck hwt
  generalize t.rows.length=rl at *
  go_wp2_with fail
  refine HSM.out.stepB (w0:=w) (B:=w.heap.size) hb4 (by omega) ?_
  intro v5 w5 hv5 hb5 _ hq5
  have hx5:=hx4.later hq5
  have hz5:=hz4.later hq5
  have hni5:=hni4.later (by omega) hq5
  have hnz5:=hnz4.later (by omega) hq5
  have hs5:w.heap.size+2≤w5.heap.size:=Nat.le_trans hs4 hq5.size
  have HWH:=Lib.hid (ref_weigh_whole_calls hv5)
  have HV5:=Lib.hid hv5
  obtain ⟨A5,p5,e5⟩:∃ A5 p5,v5=.slice A5 (sumW t.rows l).length p5:=by obtain ⟨_,A5,p5,e,_⟩:=times_at hv5;exact ⟨A5,p5,e⟩
  subst e5
  clear hv5 hq5 hx4 hz4 hb4 hni4 hnz4 hs4 HSM
  cases hwh:wholeW (sumW t.rows l) with
  | false =>
   rw [hwh] at HWH
   have HE:=Lib.hid (applyN_under HCK.out hwh)
   clear hwh HV5
   generalize (sumW t.rows l).length=sl at *
   go_wp2_with fail
   refine HWH.out.stepB (w0:=w) (B:=w.heap.size) hb5 (by omega) ?_
   intro w6 hb6 _ hq6
   have hx6:=hx5.later hq6
   have hz6:=hz5.later hq6
   clear hq6 hx5 hz5 hb5 hni5 hnz5 hs5 HWH
   obtain ⟨y0,y1,y2,y3,_⟩:=hx6.cells
   obtain ⟨g0,g1,g2,g3,_⟩:=hz6.cells
   obtain ⟨k0,k1,k2,k3⟩:=hz6.free
   have hz5:=hz6.putAll t.name (.slice Ac t.cols.length pc) (.slice Ab (cutL t.R).length pb) (.slice At t.T.length pt)
   have HB5:=Lib.hid (below_four hb6 (Nat.le_succ _) (.string t.name) (.slice Ac t.cols.length pc) (.slice Ab (cutL t.R).length pb) (.slice At t.T.length pt))
   have HNE:Hid (applyN t l≠0):=fun e=>absurd ((Hid.out HE).symm.trans e) (by decide)
   clear hx6 hz6 hb6
   go_wp2
   obtain ⟨v0,v1,v2,v3,_⟩:=hz5.cells
   refine ⟨rfl,.tuple #[.agg #[.string t.name,.slice Ac t.cols.length pc,.slice Ab (cutL t.R).length pb,.slice At t.T.length pt],.int .i64 (6)],?_,_,by rw [Hid.out HE],?_,HB5.out⟩
   ·simp [results,Tryz.results16,go_sem,v0,v1,v2,v3]
   ·rw [applyT_no HNE.out];exact ⟨_,_,_,rfl,HT0.out.kept HB5.out⟩
  | true =>
   rw [hwh] at HWH
   have HWW:=Lib.hid hwh
   clear hwh
   have hsl:(sumW t.rows l).length≤1000000:=by have:=sum_length t.rows l;have:=HG.out.rfew;omega
   go_wp2_with fail
   refine HWH.out.stepB (w0:=w) (B:=w.heap.size) hb5 (by omega) ?_
   intro w6 hb6 _ hq6
   have hx6:=hx5.later hq6
   have hz6:=hz5.later hq6
   have hni6:=hni5.later (by omega) hq6
   have hnz6:=hnz5.later (by omega) hq6
   have hs6:w.heap.size+2≤w6.heap.size:=Nat.le_trans hs5 hq6.size
   obtain ⟨tv6,A6,p6,e6,_,hat6⟩:=times_at (HV5.out.kept hq6)
   simp only [Value.slice.injEq,true_and] at e6
   obtain ⟨rfl,rfl⟩:=e6
   have HAT:=Lib.hid hat6
   clear hq6 hx5 hz5 hb5 hni5 hnz5 hs5 HWH HV5 hat6
   go_wp2
   generalize hS:sumW t.rows l=S at *
   have HSS:=Lib.hid hS
   clear hS
   go_loop [9] (fun i=>∃ k:Nat,k≤S.length∧i=.int .i64 k∧Hid (∀ x∈S.take k,¬1048576 < x.2)) (fun i=>S.length-(intOf i).toNat)
   case atStart=>exact ⟨0,Nat.zero_le _,rfl,fun x hx=>absurd hx (by simp)⟩
   case round =>
    obtain ⟨k,hk,rfl,HO⟩:=hrel
    by_cases hlt:k < S.length
    ·obtain ⟨b,off,rfl,hbl,hcc⟩:=HAT.out k hlt
     obtain ⟨rv,hrs,htv,c1,c2⟩:=hcc k hlt
     have HTK:=Lib.hid (take_add S k hlt)
     have HM:=Lib.hid (List.getElem_mem hlt)
     have i0:(0:Int)≤(k:Int):=by omega
     have i1:(k:Int) < (S.length:Int):=by omega
     clear hcc c1 htv hrs
     generalize S[k]=x at *
     obtain ⟨row,n⟩:=x
     dsimp only at *
     by_cases h1:1048576 < n
     ·have d3:decide (1048576 < n)=true:=decide_eq_true h1
      have HE:=Lib.hid (applyN_over HCK.out (HSS.out▸HWW.out) (x:=(row,n)) (HSS.out▸HM.out) h1)
      clear h1
      obtain ⟨y0,y1,y2,y3,_⟩:=hx6.cells
      obtain ⟨g0,g1,g2,g3,_⟩:=hz6.cells
      obtain ⟨k0,k1,k2,k3⟩:=hz6.free
      have hz5:=hz6.putAll t.name (.slice Ac t.cols.length pc) (.slice Ab (cutL t.R).length pb) (.slice At t.T.length pt)
      have HB5:=Lib.hid (below_four hb6 (Nat.le_succ _) (.string t.name) (.slice Ac t.cols.length pc) (.slice Ab (cutL t.R).length pb) (.slice At t.T.length pt))
      have HNE:Hid (applyN t l≠0):=fun e=>absurd ((Hid.out HE).symm.trans e) (by decide)
      clear hx6 hz6 hb6
      go_wp2
      obtain ⟨v0,v1,v2,v3,_⟩:=hz5.cells
      refine ⟨rfl,.tuple #[.agg #[.string t.name,.slice Ac t.cols.length pc,.slice Ab (cutL t.R).length pb,.slice At t.T.length pt],.int .i64 (8)],?_,_,by rw [Hid.out HE],?_,HB5.out⟩
      ·simp [results,Tryz.results16,go_sem,v0,v1,v2,v3]
      ·rw [applyT_no HNE.out];exact ⟨_,_,_,rfl,HT0.out.kept HB5.out⟩
     ·have d3:decide (1048576 < n)=false:=decide_eq_false h1
      have HO2:Hid (∀ x∈S.take (k+1),¬1048576 < x.2):=fun x hx=>by
       rw [HTK.out] at hx
       rcases List.mem_append.1 hx with hx|hx
       ·exact HO.out x hx
       ·rw [List.mem_singleton.1 hx];exact h1
      clear h1
      go_wp2
      go_round
      case rel=>exact ⟨k+1,by omega,by go_num,HO2.out⟩
      case measure=>simp [intOf];omega
    ·obtain rfl:k=S.length:=by omega
     rw [List.take_length] at HO
     by_cases hm:200 < S.length
     ·have d3:decide ((200:Int) < (S.length:Int))=true:=decide_eq_true (by omega)
      have HE:=Lib.hid (applyN_many HCK.out (HSS.out▸HWW.out) (by rw [HSS.out];exact hm))
      obtain ⟨y0,y1,y2,y3,_⟩:=hx6.cells
      obtain ⟨g0,g1,g2,g3,_⟩:=hz6.cells
      obtain ⟨k0,k1,k2,k3⟩:=hz6.free
      have hz5:=hz6.putAll t.name (.slice Ac t.cols.length pc) (.slice Ab (cutL t.R).length pb) (.slice At t.T.length pt)
      have HB5:=Lib.hid (below_four hb6 (Nat.le_succ _) (.string t.name) (.slice Ac t.cols.length pc) (.slice Ab (cutL t.R).length pb) (.slice At t.T.length pt))
      have HNE:Hid (applyN t l≠0):=fun e=>absurd ((Hid.out HE).symm.trans e) (by decide)
      clear hx6 hz6 hb6
      go_wp2
      obtain ⟨v0,v1,v2,v3,_⟩:=hz5.cells
      refine ⟨rfl,.tuple #[.agg #[.string t.name,.slice Ac t.cols.length pc,.slice Ab (cutL t.R).length pb,.slice At t.T.length pt],.int .i64 (8)],?_,_,by rw [Hid.out HE],?_,HB5.out⟩
      ·simp [results,Tryz.results16,go_sem,v0,v1,v2,v3]
      ·rw [applyT_no HNE.out];exact ⟨_,_,_,rfl,HT0.out.kept HB5.out⟩
     ·have d3:decide ((200:Int) < (S.length:Int))=false:=decide_eq_false (by omega)
      have HE:=Lib.hid (applyN_ok HCK.out (HSS.out▸HWW.out) (by rw [HSS.out];exact HO.out) (by rw [HSS.out];exact hm))
      have HTQ:Hid (TimesQ (awayQ Q w.heap.size) w6 (.slice At t.T.length pt) t.T):=TimesQ.oldQ HT0.out.tail hb6 fun u r hu hq=>⟨⟨box_below hu (Nat.le_refl _),box_below hu (Nat.le_succ _)⟩,hq⟩
      have HLQ:Hid (TimesQ (awayQ Q w.heap.size) w6 (.slice Al l.length pl) l):=TimesQ.oldQ HL0.out hb6 fun u r hu hq=>⟨⟨box_below hu (Nat.le_refl _),box_below hu (Nat.le_succ _)⟩,hq⟩
      have HSM:=Lib.hid (ref_weigh_sum_q (awayQ Q w.heap.size) HTQ.out HLQ.out (by have:=HG.out.tlen;omega) HWT.out)
      unfold GivesTimesQ at HSM
      obtain ⟨x0,x1,x2,x3,_⟩:=hx6.cells
      clear hm
      go_wp2_with fail
      refine HSM.out.mono ?_
      rintro e w7 ⟨v7,rfl,hv7,hq7⟩
      have hx7:=hx6.later hq7
      have hz7:=hz6.later hq7
      have hb7:=hb6.trans (hq7.mono hb6.size)
      have hni7:=hni6.later (by omega) hq7
      have hnz7:=hnz6.later (by omega) hq7
      have hs7:w.heap.size+2≤w7.heap.size:=Nat.le_trans hs6 hq7.size
      obtain ⟨A7,p7,e7⟩:∃ A7 p7,v7=.slice A7 (sumW t.T l).length p7:=by obtain ⟨_,A7,p7,e,_⟩:=times_at hv7.times;exact ⟨A7,p7,e⟩
      subst e7
      have hgA:=setCells_grown w.heap.size [Value.slice A7 (sumW t.T l).length p7] 3 w7
      simp only [World.setCells] at hgA
      have hx8:=hx7.put3 (.slice A7 (sumW t.T l).length p7)
      have hz8:=hz7.other hgA (by simp)
      have hb8:=hb7.setCell (p:=⟨w.heap.size,3,none⟩) (Nat.le_refl _) (.slice A7 (sumW t.T l).length p7)
      have hnz8:=hnz7.other (by omega) hgA (by simp)
      have hv8:=hv7.boxed (O:=w.heap.size) (fun u hu=>hu.1.1) hni7 hgA
      have hgB:=setCells_grown (w.heap.size+1) [Value.string t.name,.slice Ac t.cols.length pc,.slice Ab (cutL t.R).length pb,.slice A7 (sumW t.T l).length p7] 0 (w7.setCell ⟨w.heap.size,3,none⟩ (.slice A7 (sumW t.T l).length p7))
      simp only [World.setCells,Nat.zero_add,Nat.reduceAdd] at hgB
      have HV9:=Lib.hid ((hv8.boxed (O:=w.heap.size+1) (fun u hu=>hu.1.2) hnz8 hgB).mono (Q':=Q) fun u hu=>hu.2)
      have hz9:=hz8.putAll t.name (.slice Ac t.cols.length pc) (.slice Ab (cutL t.R).length pb) (.slice A7 (sumW t.T l).length p7)
      have HB9:=Lib.hid (below_four hb8 (Nat.le_succ _) (.string t.name) (.slice Ac t.cols.length pc) (.slice Ab (cutL t.R).length pb) (.slice A7 (sumW t.T l).length p7))
      obtain ⟨y0,y1,y2,y3,_⟩:=hx7.cells
      obtain ⟨_,_,_,f3⟩:=hx7.free
      obtain ⟨u0,u1,u2,u3,_⟩:=hx8.cells
      obtain ⟨g0,g1,g2,g3,_⟩:=hz8.cells
      obtain ⟨k0,k1,k2,k3⟩:=hz8.free
      clear hv7 hv8 hgA hgB hq7 hx6 hz6 hb6 hx7 hz7 hb7 hx8 hz8 hb8 hni6 hnz6 hni7 hnz7 hnz8 HSM x0 x1 x2 x3 hs6 hs7
      generalize (sumW t.T l).length=tl at *
      go_wp2
      obtain ⟨v0,v1,v2,v3,_⟩:=hz9.cells
      refine ⟨rfl,.tuple #[.agg #[.string t.name,.slice Ac t.cols.length pc,.slice Ab (cutL t.R).length pb,.slice A7 tl p7],.int .i64 0],?_,_,by rw [HE.out],?_,HB9.out⟩
      ·simp [results,Tryz.results16,go_sem,v0,v1,v2,v3]
      ·have e1:applyT t l={ t with T:=sumW t.T l }:=if_pos HE.out
       rw [e1]
       exact ⟨_,_,_,rfl,⟨HT0.out.cols.kept HB9.out,HT0.out.blks.kept HB9.out,HV9.out⟩⟩
 ·have d1:(checkN t.cols l != 0)=true:=by simp [hc]
  have HCZ:=Lib.hid hc
  have HE:=Lib.hid (applyN_check hc)
  clear hc hni3 hnz3
  obtain ⟨y0,y1,y2,y3,_⟩:=hx3.cells
  obtain ⟨g0,g1,g2,g3,_⟩:=hz3.cells
  obtain ⟨k0,k1,k2,k3⟩:=hz3.free
  have hz5:=hz3.putAll t.name (.slice Ac t.cols.length pc) (.slice Ab (cutL t.R).length pb) (.slice At t.T.length pt)
  have HB5:=Lib.hid (below_four hb3 (Nat.le_succ _) (.string t.name) (.slice Ac t.cols.length pc) (.slice Ab (cutL t.R).length pb) (.slice At t.T.length pt))
  have HNE:Hid (applyN t l≠0):=fun e=>HCZ.out ((Hid.out HE).symm.trans e)
  clear hx3 hz3 hb3
  go_wp2
  obtain ⟨v0,v1,v2,v3,_⟩:=hz5.cells
  refine ⟨rfl,.tuple #[.agg #[.string t.name,.slice Ac t.cols.length pc,.slice Ab (cutL t.R).length pb,.slice At t.T.length pt],.int .i64 (checkN t.cols l)],?_,_,by rw [Hid.out HE],?_,HB5.out⟩
  ·simp [results,Tryz.results16,go_sem,v0,v1,v2,v3]
  ·rw [applyT_no HNE.out];exact ⟨_,_,_,rfl,HT0.out.kept HB5.out⟩
def TblAt (Q:Value→Prop)(w:World)(O:Nat)(t:Tbl):Prop:=∃ A1 p1 A2 p2 A3 p3,TBox w O t.name (.slice A1 t.cols.length p1) (.slice A2 (cutL t.R).length p2) (.slice A3 t.T.length p3)∧TblQ Q w (.slice A1 t.cols.length p1) (.slice A2 (cutL t.R).length p2) (.slice A3 t.T.length p3) t∧NoInt w O
section
variable {Q:Value→Prop}{w w':World}{O:Nat}{t t':Tbl}{v:Value}
theorem TblAt.lt (h:TblAt Q w O t):O < w.heap.size:=by
 obtain ⟨_,_,_,_,_,_,hx,_⟩:=h
 exact hx.cells.2.2.2.2
theorem TblAt.kept (h:TblAt Q w O t)(hb:Below w.heap.size w w'):TblAt Q w' O t:=by
 have hl:=h.lt
 obtain ⟨A1,p1,A2,p2,A3,p3,hx,hT,hn⟩:=h
 exact ⟨A1,p1,A2,p2,A3,p3,hx.later hb,hT.kept hb,hn.later hl hb⟩
theorem TblAt.mono {Q':Value→Prop}(h:TblAt Q w O t)(hq:∀ u,Q u→Q' u):TblAt Q' w O t:=by
 obtain ⟨A1,p1,A2,p2,A3,p3,hx,hT,hn⟩:=h
 exact ⟨A1,p1,A2,p2,A3,p3,hx,hT.mono hq,hn⟩
theorem TblInQ.parts (h:TblInQ Q w v t):∃ A1 p1 A2 p2 A3 p3,v=.agg #[.string t.name,.slice A1 t.cols.length p1,.slice A2 (cutL t.R).length p2,.slice A3 t.T.length p3]∧TblQ Q w (.slice A1 t.cols.length p1) (.slice A2 (cutL t.R).length p2) (.slice A3 t.T.length p3) t:=by
 obtain ⟨cv,bv,tv,rfl,hT⟩:=h
 obtain ⟨⟨A1,p1,rfl⟩,⟨A2,p2,rfl⟩,⟨A3,p3,rfl⟩⟩:=hT.of.slices
 exact ⟨A1,p1,A2,p2,A3,p3,rfl,hT⟩
def putT (w:World)(O:Nat)(a b c d:Value):World:=(((w.setCell ⟨O,0,none⟩ a).setCell ⟨O,1,none⟩ b).setCell ⟨O,2,none⟩ c).setCell ⟨O,3,none⟩ d
theorem putT_grown (w:World)(O:Nat)(a b c d:Value):w.grownBy (putT w O a b c d) (some O):=by
 have:=setCells_grown O [a,b,c,d] 0 w
 simp only [World.setCells,Nat.zero_add,Nat.reduceAdd] at this
 exact this
theorem TblAt.store {A1 A2 A3:Option Addr}{p1 p2 p3:Nat}(h:TblAt Q w O t)(hq:∀ u,Q u→RowOff (boxV O) u)(hT:TblQ Q w (.slice A1 t'.cols.length p1) (.slice A2 (cutL t'.R).length p2) (.slice A3 t'.T.length p3) t') :
  TblAt Q (putT w O (.string t'.name) (.slice A1 t'.cols.length p1) (.slice A2 (cutL t'.R).length p2) (.slice A3 t'.T.length p3)) O t':=by
 obtain ⟨_,_,_,_,_,_,hx,_,hn⟩:=h
 exact ⟨A1,p1,A2,p2,A3,p3,hx.putAll _ _ _ _,hT.boxed hq hn (putT_grown _ _ _ _ _ _),hn.putAll hx⟩
theorem TblAt.other {O':Nat}{a b c d:Value}(h:TblAt Q w O t)(h2:NoInt w O')(hq:∀ u,Q u→RowOff (boxV O') u)(hne:O≠O'):TblAt Q (putT w O' a b c d) O t:=by
 have hl:=h.lt
 obtain ⟨A1,p1,A2,p2,A3,p3,hx,hT,hn⟩:=h
 have hg:=putT_grown w O' a b c d
 exact ⟨A1,p1,A2,p2,A3,p3,hx.other hg (by simpa using Ne.symm hne),hT.boxed hq h2 hg,hn.other hl hg (by simpa using Ne.symm hne)⟩
theorem TblAt.noInt (h:TblAt Q w O t):NoInt w O:=by
 obtain ⟨_,_,_,_,_,_,_,_,hn⟩:=h
 exact hn
theorem TblAt.new {A1 A2 A3:Option Addr}{p1 p2 p3:Nat}(T:TypeId)(h:TblQ Q w (.slice A1 t.cols.length p1) (.slice A2 (cutL t.R).length p2) (.slice A3 t.T.length p3) t) :
  TblAt (fun u=>Q u∧RowOff (boxV w.heap.size) u) (w.alloc (.cells #[.string t.name,.slice A1 t.cols.length p1,.slice A2 (cutL t.R).length p2,.slice A3 t.T.length p3] T)) w.heap.size t :=
 ⟨A1,p1,A2,p2,A3,p3,tbox_lit _ _ _ _ _ _,⟨h.cols.kept (Below.alloc (.refl _ _) (Nat.le_refl _) _),by
  obtain ⟨tv,h1,h2,h3,h4⟩:=h.blks
  exact ⟨tv,h1,SliceOf.alloc h2 _,fun x hx=>SliceOf.alloc (h3 x hx) _,fun x hx=>⟨h4 x hx,box_below (h3 x hx) (Nat.le_refl _)⟩⟩,h.tail.oldQ (Below.alloc (.refl _ _) (Nat.le_refl _) _) fun u r hu hq=>⟨hq,box_below hu (Nat.le_refl _)⟩⟩,NoInt.box _ _ _ _ _ _ _ _ _ _ _ _⟩
theorem TblAt.parts (h:TblAt Q w O t):∃ A1 p1 A2 p2 A3 p3,TBox w O t.name (.slice A1 t.cols.length p1) (.slice A2 (cutL t.R).length p2) (.slice A3 t.T.length p3)∧TblQ Q w (.slice A1 t.cols.length p1) (.slice A2 (cutL t.R).length p2) (.slice A3 t.T.length p3) t∧NoInt w O:=h
def AppR (Q:Value→Prop)(t':Tbl)(n:Int):Value→World→Prop:=fun v w=>∃ v1,v=.tuple #[v1,.int .i64 n]∧TblInQ Q w v1 t'
theorem AppR.kept {n:Int}:∀ (v:Value)(w w':World),Below w.heap.size w w'→AppR Q t' n v w→AppR Q t' n v w':=fun v w w' hb h=>by
 obtain ⟨v1,e,h1⟩:=h
 exact ⟨v1,e,h1.kept hb⟩
theorem TblInQ.keptF:∀ (v:Value)(w w':World),Below w.heap.size w w'→(fun v w=>TblInQ Q w v t') v w→(fun v w=>TblInQ Q w v t') v w':=fun _ _ _ hb h=>h.kept hb
def TupS (n:Int):Value→Prop:=fun v=>∃ v1,v=.tuple #[v1,.int .i64 n]
def ZeroP (B:Nat):Value→World→Prop:=fun v w=>∃ b,v=.pointer (some ⟨b,0,none⟩)∧B≤b∧TBox w b ⟨#[]⟩ (.slice none 0 0) (.slice none 0 0) (.slice none 0 0)
theorem ZeroP.kept {B:Nat}:∀ (v:Value)(w w':World),Below w.heap.size w w'→ZeroP B v w→ZeroP B v w':=fun v w w' hb h=>by
 obtain ⟨b,e,h1,h2⟩:=h
 exact ⟨b,e,h1,h2.later hb⟩
def RowP (B:Nat)(row:List ByteArray)(k:Int):Value→World→Prop:=fun v w=>∃ A p,v=.agg #[.slice A row.length p,.int .i64 k]∧StrsIn w (.slice A row.length p) row∧Fresh B (.slice A row.length p)
theorem RowP.kept {B:Nat}{row:List ByteArray}{k:Int}:∀ (v:Value)(w w':World),Below w.heap.size w w'→RowP B row k v w→RowP B row k v w':=fun v w w' hb h=>by
 obtain ⟨A,p,e,h1,h2⟩:=h
 exact ⟨A,p,e,StrsIn.kept h1 hb,h2⟩
def TimesP (l:List Tm):Value→World→Prop:=fun v w=>TimesIn w v l
theorem TimesP.kept {l:List Tm}:∀ (v:Value)(w w':World),Below w.heap.size w w'→TimesP l v w→TimesP l v w':=fun _ _ _ hb h=>TimesIn.kept h hb
def TblP (t:Tbl):Value→World→Prop:=fun v w=>TblIn w v t
theorem TblP.kept {t:Tbl}:∀ (v:Value)(w w':World),Below w.heap.size w w'→TblP t v w→TblP t v w':=fun _ _ _ hb h=>TblIn.kept h hb
def BlksP (l:List Blk):Value→World→Prop:=fun v w=>BlksIn w v l
theorem BlksP.kept {l:List Blk}:∀ (v:Value)(w w':World),Below w.heap.size w w'→BlksP l v w→BlksP l v w':=fun _ _ _ hb h=>BlksIn.kept h hb
def LitP (Q:Value→Prop)(l:List Tm):Value→World→Prop:=fun v w=>∃ A p,v=.slice A l.length p∧TimesQ Q w (.slice A l.length p) l
theorem LitP.kept {l:List Tm}:∀ (v:Value)(w w':World),Below w.heap.size w w'→LitP Q l v w→LitP Q l v w':=fun v w w' hb h=>by
 obtain ⟨A,p,e,h1⟩:=h
 exact ⟨A,p,e,h1.kept hb⟩
end
end Go.Proofs.YtafmbnafibahkaaGreat
