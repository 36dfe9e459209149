/- Tables in boxes, told of a word: loaded, stored, kept; no program. -/
import Derived.Test.YtafmbnafibahkaaGreatGStrs
import Derived.Test.YtafmbnafibahkaaGreatGBlockUnder
import Derived.Test.YtafmbnafibahkaaGreatGWeighRef
import Derived.Test.YtafmbnafibahkaaGreatGWeighFns
import Derived.Test.YtafmbnafibahkaaGreatGWeighSmall
import Derived.Test.YtafmbnafibahkaaGreatGCutBlocks
import Derived.Test.YtafmbnafibahkaaGreatGCutMade
import Derived.Test.YtafmbnafibahkaaGreatGShapeZ
import Derived.Deep.RegionLaw
import Derived.Deep.RegionWith
namespace Go.Proofs.YtafmbnafibahkaaGreat
open Go Go.RowKit
structure Tbl where
 name:ByteArray
 cols:List (Int×Bool)
 R:List Tm
 T:List Tm
def Tbl.rows (t:Tbl):List Tm:=sumW t.R t.T
def rowsN (cols:List (Int×Bool)):List Tm→Int
 | []=>0
 | x::l=>if rowN cols x.1=0 then rowsN cols l else rowN cols x.1
def oftenB (l:List Tm):Bool:=l.any fun x=>decide (1048576 < x.2)||decide (x.2 < -1048576)
def checkN (cols:List (Int×Bool))(l:List Tm):Int:=if rowsN cols l=0 then (if oftenB l=true then 8 else 0) else rowsN cols l
def overB (l:List Tm):Bool:=l.any fun x=>decide (1048576 < x.2)
def applyN (t:Tbl)(l:List Tm):Int :=
 if checkN t.cols l=0 then (if wholeW (sumW t.rows l)=true then (if overB (sumW t.rows l)=true∨200 < (sumW t.rows l).length then 8 else 0) else 6) else checkN t.cols l
def applyT (t:Tbl)(l:List Tm):Tbl:=if applyN t l=0 then { t with T:=sumW t.T l } else t
def packT (t:Tbl):Tbl:={ t with R:=t.rows,T:=[] }
theorem rowsN_snoc (cols:List (Int×Bool))(l:List Tm)(x:Tm):rowsN cols (l++[x])=if rowsN cols l=0 then rowN cols x.1 else rowsN cols l:=by
 induction l with
 | nil =>
  show (if rowN cols x.1=0 then (0:Int) else rowN cols x.1)=rowN cols x.1
  split
  ·rename_i h;exact h.symm
  ·rfl
 | cons y l ih =>
  show (if rowN cols y.1=0 then rowsN cols (l++[x]) else rowN cols y.1)=if (if rowN cols y.1=0 then rowsN cols l else rowN cols y.1)=0 then rowN cols x.1 else (if rowN cols y.1=0 then rowsN cols l else rowN cols y.1)
  by_cases h:rowN cols y.1=0
  ·rw [if_pos h,if_pos h,ih]
  ·rw [if_neg h,if_neg h,if_neg h]
theorem rowsN_stop {cols:List (Int×Bool)}{x:Tm}{b:List Tm}(hx:rowN cols x.1≠0):∀ {a:List Tm},rowsN cols a=0→rowsN cols (a++x::b)=rowN cols x.1
 | [],_=>if_neg hx
 | y::a,h=>by
  show (if rowN cols y.1=0 then rowsN cols (a++x::b) else rowN cols y.1)=_
  by_cases hy:rowN cols y.1=0
  ·rw [if_pos hy]
   refine rowsN_stop hx ?_
   have:(if rowN cols y.1=0 then rowsN cols a else rowN cols y.1)=0:=h
   rwa [if_pos hy] at this
  ·have:(if rowN cols y.1=0 then rowsN cols a else rowN cols y.1)=0:=h
   rw [if_neg hy] at this
   exact absurd this hy
theorem rowsN_at {cols:List (Int×Bool)}{l:List Tm}{k:Nat}(hk:k < l.length)(h:rowsN cols (l.take k)=0)(hx:rowN cols l[k].1≠0):checkN cols l=rowN cols l[k].1:=by
 have e:l=l.take k++l[k]::l.drop (k+1):=by rw [←List.drop_eq_getElem_cons hk,List.take_append_drop]
 have h2:rowsN cols l=rowN cols l[k].1:=by
  conv=>lhs;rw [e]
  exact rowsN_stop hx h
 unfold checkN
 rw [h2,if_neg hx]
theorem rowsN_next {cols:List (Int×Bool)}{l:List Tm}{k:Nat}(hk:k < l.length)(h:rowsN cols (l.take k)=0)(hx:rowN cols l[k].1=0):rowsN cols (l.take (k+1))=0:=by
 rw [take_add l k hk,rowsN_snoc,if_pos h,hx]
def oftenT (x:Tm):Bool:=decide (1048576 < x.2)||decide (x.2 < -1048576)
theorem check_never {cols:List (Int×Bool)}{l:List Tm}(h:rowsN cols l=0)(ho:∀ x∈l,oftenT x=false):checkN cols l=0:=by
 unfold checkN
 have:oftenB l=false:=by unfold oftenB;rw [List.any_eq_false];exact fun x hx=>by rw [show (decide (1048576 < x.2)||decide (x.2 < -1048576))=oftenT x from rfl,ho x hx];decide
 rw [if_pos h,if_neg (by rw [this];decide)]
theorem rowsN_zero {cols:List (Int×Bool)}{l:List Tm}:rowsN cols l=0↔∀ x∈l,rowN cols x.1=0:=by
 induction l with
 | nil=>exact ⟨fun _ x hx=>absurd hx (by simp),fun _=>rfl⟩
 | cons y l ih =>
  show (if rowN cols y.1=0 then rowsN cols l else rowN cols y.1)=0↔_
  by_cases h:rowN cols y.1=0
  ·rw [if_pos h,ih]
   exact ⟨fun k x hx=>(List.mem_cons.1 hx).elim (fun e=>e▸h) (k x),fun k x hx=>k x (List.mem_cons_of_mem _ hx)⟩
  ·rw [if_neg h]
   exact ⟨fun k=>absurd k h,fun k=>k y (List.mem_cons_self ..)⟩
theorem check_zero {cols:List (Int×Bool)}{l:List Tm}(h:checkN cols l=0):(∀ x∈l,rowN cols x.1=0)∧∀ x∈l,x.2.natAbs≤1048576:=by
 unfold checkN at h
 by_cases h0:rowsN cols l=0
 ·rw [if_pos h0] at h
  refine ⟨rowsN_zero.1 h0,fun x hx=>?_⟩
  cases ho:oftenB l with
  | true=>rw [ho,if_pos rfl] at h;exact absurd h (by decide)
  | false =>
   unfold oftenB at ho
   rw [List.any_eq_false] at ho
   have:=ho x hx
   simp only [Bool.or_eq_true,decide_eq_true_eq] at this
   omega
 ·rw [if_neg h0] at h
  exact absurd h h0
structure GoodT (t:Tbl):Prop where
 cols:t.cols.length≤6
 right:RightP t.R
 there:∀ x∈t.R,1≤x.2∧x.2≤1048576
 fits:∀ x∈t.R,rowN t.cols x.1=0
 few:t.R.length≤200
 tail:RightP t.T
 tfits:∀ x∈t.T,rowN t.cols x.1=0
 rthere:∀ x∈t.rows,1≤x.2∧x.2≤1048576
 rfew:t.rows.length≤200
section
variable {t:Tbl}
theorem GoodT.tail_eq (h:GoodT t):t.T=sumW t.rows (minusW t.R):=right_ext h.tail (sum_right _ _) fun r=>by
 unfold Tbl.rows
 rw [cnt_sum,cnt_sum,cnt_minus];omega
theorem GoodT.tlen (h:GoodT t):t.T.length≤400:=by
 rw [h.tail_eq]
 have h1:=sum_length t.rows (minusW t.R)
 rw [minus_length] at h1
 have:=h.few
 have:=h.rfew
 omega
theorem there_wt {l:List Tm}(h:∀ x∈l,1≤x.2∧x.2≤1048576)(hl:l.length≤200):wtW l≤209715200:=by
 have h1:=wt_each (l:=l) (n:=1048576) (fun x hx=>by have:=h x hx;omega)
 have h2:l.length*1048576≤200*1048576:=Nat.mul_le_mul_right _ hl
 omega
theorem GoodT.twt (h:GoodT t):wtW t.T≤419430400:=by
 rw [h.tail_eq]
 have h1:=wt_sum t.rows (minusW t.R)
 rw [wt_minus] at h1
 have h2:=there_wt h.there h.few
 have h3:=there_wt h.rthere h.rfew
 omega
theorem GoodT.rfits (h:GoodT t):∀ x∈t.rows,rowN t.cols x.1=0:=fun x hx=>by
 unfold Tbl.rows at hx
 rcases mem_sum hx with ⟨u,hu,e⟩ | ⟨u,hu,e⟩
 ·rw [←e];exact h.fits u hu
 ·rw [←e];exact h.tfits u hu
theorem GoodT.rright (_h:GoodT t):RightP t.rows:=sum_right _ _
theorem GoodT.rows0 (h:GoodT t):Rows0 t.R t.cols 200 209715200:=⟨h.right,fun x hx=>(h.there x hx).1,h.fits,h.few,there_wt h.there h.few⟩
theorem GoodT.pack (h:GoodT t):GoodT (packT t):=by
 have e:(packT t).rows=t.rows:=by
  show sumW t.rows []=t.rows
  rw [sum_nil,of_of_right h.rright]
 exact ⟨h.cols,h.rright,h.rthere,h.rfits,h.rfew,RightP.nil,fun x hx=>absurd hx (by simp [packT]),by rw [e];exact h.rthere,by rw [e];exact h.rfew⟩
theorem pack_rows (t:Tbl):(packT t).rows=t.rows:=by
 show sumW t.rows []=t.rows
 rw [sum_nil]
 exact of_of_right (sum_right _ _)
theorem apply_zero {l:List Tm}(h:applyN t l=0):checkN t.cols l=0∧wholeW (sumW t.rows l)=true∧overB (sumW t.rows l)=false∧(sumW t.rows l).length≤200:=by
 unfold applyN at h
 by_cases h0:checkN t.cols l=0
 ·rw [if_pos h0] at h
  by_cases h1:wholeW (sumW t.rows l)=true
  ·rw [if_pos h1] at h
   by_cases h2:overB (sumW t.rows l)=true∨200 < (sumW t.rows l).length
   ·rw [if_pos h2] at h;exact absurd h (by decide)
   ·refine ⟨h0,h1,?_,by omega⟩
    cases ho:overB (sumW t.rows l) with
    | true=>exact absurd (.inl ho) h2
    | false=>rfl
  ·rw [if_neg h1] at h;exact absurd h (by decide)
 ·rw [if_neg h0] at h;exact absurd h h0
theorem applyT_rows {l:List Tm}(h:applyN t l=0):(applyT t l).rows=sumW t.rows l:=by
 unfold applyT
 rw [if_pos h]
 exact right_ext (sum_right _ _) (sum_right _ _) fun r=>by
  unfold Tbl.rows
  simp only [cnt_sum]
  omega
theorem GoodT.apply (h:GoodT t)(l:List Tm):GoodT (applyT t l):=by
 by_cases h0:applyN t l=0
 ·obtain ⟨h1,h2,h3,h4⟩:=apply_zero h0
  have hc:=(check_zero h1).1
  have er:=applyT_rows h0
  have e1:applyT t l={ t with T:=sumW t.T l }:=by unfold applyT;rw [if_pos h0]
  have hth:∀ x∈sumW t.rows l,1≤x.2∧x.2≤1048576:=fun x hx=>by
   have k0:=(sum_right t.rows l).2 x hx
   unfold wholeW at h2
   rw [List.all_eq_true] at h2
   have k1:=h2 x hx
   rw [decide_eq_true_eq] at k1
   unfold overB at h3
   rw [List.any_eq_false] at h3
   have k2:=h3 x hx
   rw [decide_eq_true_eq] at k2
   omega
  rw [e1] at er ⊢
  exact ⟨h.cols,h.right,h.there,h.fits,h.few,sum_right _ _,fun x hx=>by
   rcases mem_sum hx with ⟨u,hu,e⟩ | ⟨u,hu,e⟩
   ·rw [←e];exact h.tfits u hu
   ·rw [←e];exact hc u hu,by rw [er];exact hth,by rw [er];exact h4⟩
 ·unfold applyT
  rw [if_neg h0];exact h
theorem apply_wt {l:List Tm}(h:GoodT t)(hc:checkN t.cols l=0)(hl:l.length≤1000):wtW t.rows+wtW l≤4611686018427387904∧wtW t.T+wtW l≤4611686018427387904:=by
 have h1:=wt_each (l:=l) (n:=1048576) (fun x hx=>(check_zero hc).2 x hx)
 have h2:l.length*1048576≤1000*1048576:=Nat.mul_le_mul_right _ hl
 have h3:=there_wt h.rthere h.rfew
 have h4:=h.twt
 omega
end
def newT (name:ByteArray)(cols:List (Int×Bool)):Tbl:=⟨name,cols,[],[]⟩
theorem newT_good {name:ByteArray}{cols:List (Int×Bool)}(h:cols.length≤6):GoodT (newT name cols) :=
 ⟨h,RightP.nil,fun x hx=>absurd hx (by simp [newT]),fun x hx=>absurd hx (by simp [newT]),by simp [newT],RightP.nil,fun x hx=>absurd hx (by simp [newT]),fun x hx=>absurd hx (by show ¬x∈sumW [] [];simp [sumW,ofW]),by show (sumW [] []).length≤200;simp [sumW,ofW]⟩
def newN (name:ByteArray)(cols:List (Int×Bool)):Int:=if nameB name=true∧rightC cols=true then 0 else 1
def newA (name:ByteArray)(cols:List (Int×Bool)):Tbl:=if newN name cols=0 then newT name cols else newT ⟨#[]⟩ []
theorem GoodT.goodP {t:Tbl}(h:GoodT t):∀ p∈cutL t.R,GoodP p t.cols:=h.rows0.good (by decide) (by decide)
theorem GoodT.few_cut {t:Tbl}(h:GoodT t):(cutL t.R).length≤200:=Nat.le_trans (cutL_length_le _) h.few
theorem GoodT.flat {t:Tbl}(h:GoodT t):rightW (cutL t.R).flatten=true:=by rw [cutL_flatten];exact decide_eq_true h.right
theorem short_fits {cols:List (Int×Bool)}{l:List Tm}(h:∀ x∈l,rowN cols x.1=0)(hc:cols.length≤6):ShortR l:=fun x hx=>by have:=(fit_row (h x hx)).1;omega
theorem sizes_fits {cols:List (Int×Bool)}{l:List Tm}(h:∀ x∈l,rowN cols x.1=0):∀ x∈l,cols.length≤x.1.length∧∀ c∈x.1,c.size≤1000000:=fun x hx=>by
 obtain ⟨e,hr⟩:=fit_row (h x hx)
 exact ⟨by omega,fun c hc=>Nat.le_trans (rightB_size (hr c hc)) (by decide)⟩
def TBox (w:World)(B:Nat)(n:ByteArray)(cv bv tv:Value):Prop:=Own w B 4 (.slice (some ⟨B,0,none⟩) 1 1) 1 [.string n,cv,bv,tv]
section
variable {w w':World}{B:Nat}{n:ByteArray}{cv bv tv:Value}
theorem TBox.cells (h:TBox w B n cv bv tv):w.cell? ⟨B,0,none⟩=some (.string n)∧w.cell? ⟨B,1,none⟩=some cv∧w.cell? ⟨B,2,none⟩=some bv∧w.cell? ⟨B,3,none⟩=some tv∧B < w.heap.size:=by
 obtain ⟨_,h2,_,hc,_⟩:=Own.parts h
 have e0:=hc 0 _ rfl
 have e1:=hc 1 _ rfl
 have e2:=hc 2 _ rfl
 have e3:=hc 3 _ rfl
 rw [Nat.zero_add] at e0 e1 e2 e3
 exact ⟨e0,e1,e2,e3,h2⟩
theorem TBox.free (h:TBox w B n cv bv tv):w.frozen? ⟨B,0,none⟩=false∧w.frozen? ⟨B,1,none⟩=false∧w.frozen? ⟨B,2,none⟩=false∧w.frozen? ⟨B,3,none⟩=false:=by
 obtain ⟨_,_,_,_,hr⟩:=Own.parts h
 have e0:=(hr 0 (by decide)).2
 have e1:=(hr 1 (by decide)).2
 have e2:=(hr 2 (by decide)).2
 have e3:=(hr 3 (by decide)).2
 rw [Nat.zero_add] at e0 e1 e2 e3
 exact ⟨e0,e1,e2,e3⟩
theorem TBox.later (h:TBox w B n cv bv tv)(hb:Below w.heap.size w w'):TBox w' B n cv bv tv:=Own.later h hb
theorem TBox.drew (h:TBox w B n cv bv tv):TBox w.drew B n cv bv tv:=Own.drew h
theorem TBox.other (h:TBox w B n cv bv tv){row:Option Nat}(hg:w.grownBy w' row)(hne:row≠some B):TBox w' B n cv bv tv :=
 Own.other h hg fun k hk e=>by
  simp only [Value.ownBlock,Option.some.injEq] at hk
  subst hk
  exact hne e.symm
theorem TBox.put2 (h:TBox w B n cv bv tv)(v:Value):TBox (w.setCell ⟨B,2,none⟩ v) B n cv v tv:=by
 have:=Own.stored h 2 (by decide) v
 simp only [Nat.zero_add] at this
 exact this
theorem TBox.put3 (h:TBox w B n cv bv tv)(v:Value):TBox (w.setCell ⟨B,3,none⟩ v) B n cv bv v:=by
 have:=Own.stored h 3 (by decide) v
 simp only [Nat.zero_add] at this
 exact this
theorem TBox.putAll (h:TBox w B n cv bv tv)(n':ByteArray)(cv' bv' tv':Value):TBox ((((w.setCell ⟨B,0,none⟩ (.string n')).setCell ⟨B,1,none⟩ cv').setCell ⟨B,2,none⟩ bv').setCell ⟨B,3,none⟩ tv') B n' cv' bv' tv':=by
 have:=Own.stored (Own.stored (Own.stored (Own.stored h 0 (by decide) (.string n')) 1 (by decide) cv') 2 (by decide) bv') 3 (by decide) tv'
 simp only [Nat.zero_add] at this
 exact this
theorem tbox_lit (w:World)(T:TypeId)(n:ByteArray)(cv bv tv:Value):TBox (w.alloc (.cells #[.string n,cv,bv,tv] T)) w.heap.size n cv bv tv :=
 Own.lit (size:=4) w #[.string n,cv,bv,tv] T 1 (Nat.le_refl _) (by unfold maxLen;omega) rfl
theorem below_four {B O:Nat}{w0:World}(hb:Below B w0 w)(h:B≤O)(a b c d:Value):Below B w0 ((((w.setCell ⟨O,0,none⟩ a).setCell ⟨O,1,none⟩ b).setCell ⟨O,2,none⟩ c).setCell ⟨O,3,none⟩ d) :=
 (((hb.setCell (p:=⟨O,0,none⟩) h a).setCell (p:=⟨O,1,none⟩) h b).setCell (p:=⟨O,2,none⟩) h c).setCell (p:=⟨O,3,none⟩) h d
end
structure TblOf (w:World) (cv bv tv:Value) (t:Tbl):Prop where
 cols:ColsIn w cv t.cols
 blks:BlksIn w bv (blksL (cutL t.R) t.cols.length)
 tail:TimesIn w tv t.T
def TblIn (w:World)(v:Value)(t:Tbl):Prop:=∃ cv bv tv,v=.agg #[.string t.name,cv,bv,tv]∧TblOf w cv bv tv t
section
variable {w w':World}{cv bv tv v:Value}{t:Tbl}
theorem TblOf.kept (h:TblOf w cv bv tv t)(hb:Below w.heap.size w w'):TblOf w' cv bv tv t:=⟨h.cols.kept hb,h.blks.kept hb,h.tail.kept hb⟩
theorem TblIn.kept (h:TblIn w v t)(hb:Below w.heap.size w w'):TblIn w' v t:=by
 obtain ⟨cv,bv,tv,e,h2⟩:=h
 exact ⟨cv,bv,tv,e,h2.kept hb⟩
theorem TblOf.slices (h:TblOf w cv bv tv t):(∃ A p,cv=.slice A t.cols.length p)∧(∃ A p,bv=.slice A (cutL t.R).length p)∧∃ A p,tv=.slice A t.T.length p:=by
 obtain ⟨A1,p1,e1,_⟩:=cols_at h.cols
 obtain ⟨A2,p2,e2,_⟩:=blksL_at h.blks
 obtain ⟨_,A3,p3,e3,_⟩:=times_at h.tail
 exact ⟨⟨A1,p1,e1⟩,⟨A2,p2,e2⟩,⟨A3,p3,e3⟩⟩
end
def TRowsEnd (w:World)(t:Tbl)(e:Ending)(w':World):Prop:=∃ v,e=.returned (.tuple #[v,.int .i64 (cutL t.R).length])∧TimesIn w' v t.rows∧Below w.heap.size w w'
def TNewEnd (w:World)(name:ByteArray)(cols:List (Int×Bool))(e:Ending)(w':World):Prop:=∃ v,e=.returned (.tuple #[v,.int .i64 (newN name cols)])∧TblIn w' v (newA name cols)∧Below w.heap.size w w'
def TApplyEnd (w:World)(t:Tbl)(l:List Tm)(e:Ending)(w':World):Prop:=∃ v,e=.returned (.tuple #[v,.int .i64 (applyN t l)])∧TblIn w' v (applyT t l)∧Below w.heap.size w w'
def NoInt (w:World)(O:Nat):Prop:=∀ j k n,w.cell? ⟨O,j,none⟩≠some (Value.int k n)
def boxV (O:Nat):Value:=.slice (some ⟨O,0,none⟩) 1 1
section
variable {w w':World}{O:Nat}
theorem NoInt.later (h:NoInt w O)(hO:O < w.heap.size)(hb:Below w.heap.size w w'):NoInt w' O:=fun j k n e=>h j k n ((hb.cell (p:=⟨O,j,none⟩) hO).symm.trans e)
theorem NoInt.other (h:NoInt w O)(hO:O < w.heap.size){row:Option Nat}(hg:w.grownBy w' row)(hne:row≠some O):NoInt w' O:=fun j k n e=>by
 rw [World.cell?_of_block (w:=w) (a:=⟨O,j,none⟩) (hg.block O hO (fun e2=>hne e2.symm))] at e
 exact h j k n e
theorem NoInt.box (w:World)(T:TypeId)(n:ByteArray)(A1 A2 A3:Option Addr)(n1 n2 n3 p1 p2 p3:Nat):NoInt (w.alloc (.cells #[.string n,.slice A1 n1 p1,.slice A2 n2 p2,.slice A3 n3 p3] T)) w.heap.size:=fun j k m e=>by
 rw [World.cell?_alloc_new] at e
 match j,e with
 | 0,e=>simp at e
 | 1,e=>simp at e
 | 2,e=>simp at e
 | 3,e=>simp at e
 | j+4,e=>simp at e
theorem TimesQ.boxed {Q:Value→Prop}{v:Value}{l:List Tm}(h:TimesQ Q w v l)(hq:∀ u,Q u→RowOff (boxV O) u)(hn:NoInt w O)(hg:w.grownBy w' (some O)):TimesQ Q w' v l:=by
 obtain ⟨tv,h1,h2,h3⟩:=h
 refine ⟨tv,?_,h2.offs (v:=boxV O) hg (fun t ht=>hq _ (h3 t ht)),h3⟩
 rcases Nat.eq_zero_or_pos l.length with h0|h0
 ·have hl:l=[]:=List.eq_nil_of_length_eq_zero h0
  subst hl
  obtain ⟨k1,_,A,cap,e,_⟩:=h1
  have hx:timesV tv=[]:=List.eq_nil_of_length_eq_zero (by rw [k1];simp)
  rw [hx,e]
  exact SliceOf.nil_ _ _ _ _
 ·refine SliceOf.keepOwn h1 hg.size fun k hk hlt=>hg.block k hlt fun e=>?_
  obtain ⟨A,cap,e1,h4⟩:=h1.at_
  obtain ⟨b',off,ea,_,hc⟩:=h4 h0
  subst ea;subst e1
  simp only [Value.ownBlock,Option.some.injEq] at hk e
  subst hk
  have hl:=h2.length
  have:=hc _ _ (timesV_get tv 0 (by omega)).2
  subst e
  exact hn _ _ _ this
theorem TimesIn.oldQ {v:Value}{l:List Tm}(h:TimesIn w v l)(hb:Below w.heap.size w w')(Q:Value→Prop)(hQ:∀ u r,StrsIn w u r→Q u):TimesQ Q w' v l:=by
 obtain ⟨tv,h1,h2⟩:=h
 exact ⟨tv,SliceOf.later h1 hb,h2.kept hb,fun t ht=>by
  obtain ⟨x,_,hx,_⟩:=h2.mem t ht
  exact hQ _ _ hx⟩
theorem box_below {u:Value}{r:List ByteArray}(h:StrsIn w u r)(hO:w.heap.size≤O):RowOff (boxV O) u:=RowOff.below h (Nat.le_refl _) fun k hk=>by
 simp only [boxV,Value.ownBlock,Option.some.injEq] at hk
 omega
theorem box_fresh {u:Value}(h:Fresh w.heap.size u)(hO:O < w.heap.size):RowOff (boxV O) u:=RowOff.of_fresh h fun k hk=>by
 simp only [boxV,Value.ownBlock,Option.some.injEq] at hk
 omega
end
section
variable {w w':World}{O:Nat}{Q:Value→Prop}
theorem SliceOf.boxed {s n:Nat}{v:Value}{cs:List Value}(h:SliceOf w s v n cs)(hint:0 < n→∃ (i:Nat)(k:IntKind)(m:Int),cs[i]? = some (Value.int k m))(hn:NoInt w O)(hg:w.grownBy w' (some O)):SliceOf w' s v n cs:=by
 rcases Nat.eq_zero_or_pos n with h0|h0
 ·obtain ⟨k1,_,A,cap,e,_⟩:=h
  subst h0
  have hx:cs=[]:=List.eq_nil_of_length_eq_zero (by rw [k1];simp)
  rw [hx,e]
  exact SliceOf.nil_ _ _ _ _
 ·refine SliceOf.keepOwn h hg.size fun k hk hlt=>hg.block k hlt fun e=>?_
  obtain ⟨A,cap,e1,h4⟩:=h.at_
  obtain ⟨b',off,ea,_,hc⟩:=h4 h0
  subst ea;subst e1
  simp only [Value.ownBlock,Option.some.injEq] at hk e
  subst hk
  obtain ⟨i,kk,m,hi⟩:=hint h0
  have:=hc _ _ hi
  subst e
  exact hn _ _ _ this
theorem ColsIn.boxed {v:Value}{l:List (Int×Bool)}(h:ColsIn w v l)(hn:NoInt w O)(hg:w.grownBy w' (some O)):ColsIn w' v l :=
 SliceOf.boxed h (fun h0=>by
  match l,h0 with
  | c::l,_=>exact ⟨0,_,_,rfl⟩) hn hg
def BlksQ (Q:Value→Prop)(w:World)(v:Value)(l:List Blk):Prop:=∃ tv:List (Value×Blk),tv.map Prod.snd=l∧SliceOf w 3 v l.length (blksV tv)∧(∀ t∈tv,StrsIn w t.1 t.2.2.1)∧∀ t∈tv,Q t.1
theorem BlksQ.blks {v:Value}{l:List Blk}(h:BlksQ Q w v l):BlksIn w v l:=by
 obtain ⟨tv,h1,h2,h3,_⟩:=h
 exact ⟨tv,h1,h2,h3⟩
theorem BlksQ.kept {v:Value}{l:List Blk}(h:BlksQ Q w v l)(hb:Below w.heap.size w w'):BlksQ Q w' v l:=by
 obtain ⟨tv,h1,h2,h3,h4⟩:=h
 exact ⟨tv,h1,SliceOf.later h2 hb,fun t ht=>StrsIn.kept (h3 t ht) hb,h4⟩
theorem BlksQ.nil_ (Q:Value→Prop)(w:World)(A:Option Addr)(cap:Nat):BlksQ Q w (.slice A 0 cap) []:=⟨[],rfl,SliceOf.nil_ _ _ _ _,fun t ht=>absurd ht (by simp),fun t ht=>absurd ht (by simp)⟩
theorem BlksQ.mono {Q':Value→Prop}{v:Value}{l:List Blk}(h:BlksQ Q w v l)(hq:∀ u,Q u→Q' u):BlksQ Q' w v l:=by
 obtain ⟨tv,h1,h2,h3,h4⟩:=h
 exact ⟨tv,h1,h2,h3,fun t ht=>hq _ (h4 t ht)⟩
theorem BlksQ.boxed {v:Value}{l:List Blk}(h:BlksQ Q w v l)(hq:∀ u,Q u→RowOff (boxV O) u)(hn:NoInt w O)(hg:w.grownBy w' (some O)):BlksQ Q w' v l:=by
 obtain ⟨tv,h1,h2,h3,h4⟩:=h
 refine ⟨tv,h1,SliceOf.boxed h2 (fun h0=>?_) hn hg,fun t ht=>StrsIn.off (v:=boxV O) (h3 t ht) (hq _ (h4 t ht)) hg,h4⟩
 subst h1
 match tv,h0 with
 | t::tv,_=>exact ⟨0,_,_,rfl⟩
theorem TimesQ.mono {Q':Value→Prop}{v:Value}{l:List Tm}(h:TimesQ Q w v l)(hq:∀ u,Q u→Q' u):TimesQ Q' w v l:=by
 obtain ⟨tv,h1,h2,h3⟩:=h
 exact ⟨tv,h1,h2,fun t ht=>hq _ (h3 t ht)⟩
theorem TimesQ.oldQ {Q':Value→Prop}{v:Value}{l:List Tm}(h:TimesQ Q w v l)(hb:Below w.heap.size w w')(hQ:∀ u r,StrsIn w u r→Q u→Q' u):TimesQ Q' w' v l:=by
 obtain ⟨tv,h1,h2,h3⟩:=h
 exact ⟨tv,SliceOf.later h1 hb,h2.kept hb,fun t ht=>by
  obtain ⟨x,_,hx,_⟩:=h2.mem t ht
  exact hQ _ _ hx (h3 t ht)⟩
structure TblQ (Q:Value→Prop) (w:World) (cv bv tv:Value) (t:Tbl):Prop where
 cols:ColsIn w cv t.cols
 blks:BlksQ Q w bv (blksL (cutL t.R) t.cols.length)
 tail:TimesQ Q w tv t.T
def TblInQ (Q:Value→Prop)(w:World)(v:Value)(t:Tbl):Prop:=∃ cv bv tv,v=.agg #[.string t.name,cv,bv,tv]∧TblQ Q w cv bv tv t
variable {cv bv tv v:Value}{t:Tbl}
theorem TblQ.of (h:TblQ Q w cv bv tv t):TblOf w cv bv tv t:=⟨h.cols,h.blks.blks,h.tail.times⟩
theorem TblInQ.tbl (h:TblInQ Q w v t):TblIn w v t:=by
 obtain ⟨cv,bv,tv,e,h2⟩:=h
 exact ⟨cv,bv,tv,e,h2.of⟩
theorem TblQ.kept (h:TblQ Q w cv bv tv t)(hb:Below w.heap.size w w'):TblQ Q w' cv bv tv t:=⟨h.cols.kept hb,h.blks.kept hb,h.tail.kept hb⟩
theorem TblInQ.kept (h:TblInQ Q w v t)(hb:Below w.heap.size w w'):TblInQ Q w' v t:=by
 obtain ⟨cv,bv,tv,e,h2⟩:=h
 exact ⟨cv,bv,tv,e,h2.kept hb⟩
theorem TblQ.boxed (h:TblQ Q w cv bv tv t)(hq:∀ u,Q u→RowOff (boxV O) u)(hn:NoInt w O)(hg:w.grownBy w' (some O)):TblQ Q w' cv bv tv t:=⟨h.cols.boxed hn hg,h.blks.boxed hq hn hg,h.tail.boxed hq hn hg⟩
theorem TblInQ.boxed (h:TblInQ Q w v t)(hq:∀ u,Q u→RowOff (boxV O) u)(hn:NoInt w O)(hg:w.grownBy w' (some O)):TblInQ Q w' v t:=by
 obtain ⟨cv,bv,tv,e,h2⟩:=h
 exact ⟨cv,bv,tv,e,h2.boxed hq hn hg⟩
theorem TblQ.mono {Q':Value→Prop}(h:TblQ Q w cv bv tv t)(hq:∀ u,Q u→Q' u):TblQ Q' w cv bv tv t:=⟨h.cols,h.blks.mono hq,h.tail.mono hq⟩
theorem TblInQ.mono {Q':Value→Prop}(h:TblInQ Q w v t)(hq:∀ u,Q u→Q' u):TblInQ Q' w v t:=by
 obtain ⟨cv,bv,tv,e,h2⟩:=h
 exact ⟨cv,bv,tv,e,h2.mono hq⟩
theorem TblOf.noneQ (Q:Value→Prop)(h:TblOf w cv bv tv t)(hR:t.R=[])(hT:t.T=[]):TblQ Q w cv bv tv t:=by
 obtain ⟨_,⟨A2,p2,e2⟩,A3,p3,e3⟩:=h.slices
 refine ⟨h.cols,?_,?_⟩
 ·rw [e2,hR];exact BlksQ.nil_ _ _ _ _
 ·rw [e3,hT];exact TimesQ.nil_ _ _ _ _
theorem TblIn.noneQ (Q:Value→Prop)(h:TblIn w v t)(hR:t.R=[])(hT:t.T=[]):TblInQ Q w v t:=by
 obtain ⟨cv,bv,tv,e,h2⟩:=h
 exact ⟨cv,bv,tv,e,h2.noneQ Q hR hT⟩
theorem BlksIn.trueQ {v:Value}{l:List Blk}(h:BlksIn w v l):BlksQ (fun _=>True) w v l:=by
 obtain ⟨tv,h1,h2,h3⟩:=h
 exact ⟨tv,h1,h2,h3,fun _ _=>trivial⟩
theorem TblIn.trueQ (h:TblIn w v t):TblInQ (fun _=>True) w v t:=by
 obtain ⟨cv,bv,tv,e,h2⟩:=h
 exact ⟨cv,bv,tv,e,⟨h2.cols,h2.blks.trueQ,h2.tail.trueQ⟩⟩
theorem lit_timesQ (Q:Value→Prop)(w:World)(T:TypeId)(tv:List (Value×Int))(l:List Tm)(hr:RowsOf w tv l)(h:l.length≤1000)(hq:∀ t∈tv,Q t.1):TimesQ Q (w.alloc (.cells (timesV tv).toArray T)) (.slice (some ⟨w.heap.size,0,none⟩) l.length l.length) l:=by
 refine ⟨tv,(Own.lit (B:=0) (size:=2) w (timesV tv).toArray T l.length (Nat.zero_le _) (by unfold maxLen;omega) ?_).slice,hr.kept ((Below.refl _ w).alloc (Nat.le_refl _) _),hq⟩
 rw [List.size_toArray,timesV_length,hr.length]
def TApplyQ (Q:Value→Prop)(w:World)(t:Tbl)(l:List Tm)(e:Ending)(w':World):Prop:=∃ v,e=.returned (.tuple #[v,.int .i64 (applyN t l)])∧TblInQ Q w' v (applyT t l)∧Below w.heap.size w w'
def TPackQ (Q:Value→Prop)(w:World)(t:Tbl)(e:Ending)(w':World):Prop:=∃ v,e=.returned v∧TblInQ Q w' v (packT t)∧Below w.heap.size w w'
theorem NoInt.put (h:NoInt w O)(i:Nat){x:Value}(hx:∀ k n,x≠Value.int k n)(hc:w.cell? ⟨O,i,none⟩≠none):NoInt (w.setCell ⟨O,i,none⟩ x) O:=fun j k n e=>by
 by_cases hj:j=i
 ·subst hj
  obtain ⟨y,hy⟩:=Option.ne_none_iff_exists'.1 hc
  rw [World.cell?_setCell_same _ _ _ hy] at e
  exact hx k n (Option.some.inj e)
 ·rw [World.cell?_setCell_other _ _ _ _ (by intro e2;simp only [Addr.mk.injEq,true_and,and_true] at e2;exact hj e2.symm)] at e
  exact h j k n e
theorem NoInt.putAll {B:Nat}{n n':ByteArray}{cv bv tv:Value}{A1 A2 A3:Option Addr}{n1 n2 n3 p1 p2 p3:Nat}(h:NoInt w B)(hx:TBox w B n cv bv tv):NoInt ((((w.setCell ⟨B,0,none⟩ (.string n')).setCell ⟨B,1,none⟩ (.slice A1 n1 p1)).setCell ⟨B,2,none⟩ (.slice A2 n2 p2)).setCell ⟨B,3,none⟩ (.slice A3 n3 p3)) B:=by
 have s0:=Own.stored hx 0 (by decide) (.string n')
 have s1:=Own.stored s0 1 (by decide) (.slice A1 n1 p1)
 have s2:=Own.stored s1 2 (by decide) (.slice A2 n2 p2)
 simp only [Nat.zero_add] at s0 s1 s2
 have c0:=hx.cells.1
 have c1:=(TBox.cells (n:=n') (cv:=cv) (bv:=bv) (tv:=tv) s0).2.1
 have c2:=(TBox.cells (n:=n') (cv:=.slice A1 n1 p1) (bv:=bv) (tv:=tv) s1).2.2.1
 have c3:=(TBox.cells (n:=n') (cv:=.slice A1 n1 p1) (bv:=.slice A2 n2 p2) (tv:=tv) s2).2.2.2.1
 exact (((h.put 0 (by intro k n e;cases e) (by rw [c0];simp)).put 1 (by intro k n e;cases e) (by rw [c1];simp)).put 2 (by intro k n e;cases e) (by rw [c2];simp)).put 3 (by intro k n e;cases e) (by rw [c3];simp)
end
theorem Tryz.infoCn58:(Tryz.prog.info? 58).map (fun i=>(i.zero,i.size,i.bytes))=some (some (.agg #[.int .u8 0,.bool false]),2,2):=by kernel_rfl
theorem one_cols (l:List (Int×Bool)):∀ u∈colsV l,u.oneCell'=true:=by
 intro u hu
 unfold colsV at hu
 rw [List.mem_flatMap] at hu
 obtain ⟨c,_,hu⟩:=hu
 unfold colV at hu
 simp only [List.mem_cons,List.not_mem_nil,or_false] at hu
 rcases hu with rfl|rfl <;> rfl
theorem newN_no {name:ByteArray}{cols:List (Int×Bool)}(h:¬(nameB name=true∧rightC cols=true)):newN name cols=1:=if_neg h
theorem newN_yes {name:ByteArray}{cols:List (Int×Bool)}(h:nameB name=true)(h2:rightC cols=true):newN name cols=0:=if_pos ⟨h,h2⟩
theorem newA_no {name:ByteArray}{cols:List (Int×Bool)}(h:newN name cols=1):newA name cols=newT ⟨#[]⟩ []:=by unfold newA;rw [h,if_neg (by decide)]
theorem newA_yes {name:ByteArray}{cols:List (Int×Bool)}(h:newN name cols=0):newA name cols=newT name cols:=by unfold newA;rw [h,if_pos rfl]
theorem tbl_zero (w:World):TblIn w (.agg #[.string ⟨#[]⟩,.slice none 0 0,.slice none 0 0,.slice none 0 0]) (newT ⟨#[]⟩ []) :=
 ⟨_,_,_,rfl,⟨SliceOf.nil_ _ _ _ _,BlksIn.nil_ _ _ _,TimesIn.nil_ _ _ _⟩⟩
theorem applyT_no {t:Tbl}{l:List Tm}(h:applyN t l≠0):applyT t l=t:=if_neg h
theorem applyN_check {t:Tbl}{l:List Tm}(h:checkN t.cols l≠0):applyN t l=checkN t.cols l:=if_neg h
def awayT (O:Nat)(u:Value):Prop:=RowOff (boxV O) u∧RowOff (boxV (O+1)) u
def awayQ (Q:Value→Prop)(O:Nat)(u:Value):Prop:=awayT O u∧Q u
def TblAt (Q:Value→Prop)(w:World)(O:Nat)(t:Tbl):Prop:=∃ A1 p1 A2 p2 A3 p3,TBox w O t.name (.slice A1 t.cols.length p1) (.slice A2 (cutL t.R).length p2) (.slice A3 t.T.length p3)∧TblQ Q w (.slice A1 t.cols.length p1) (.slice A2 (cutL t.R).length p2) (.slice A3 t.T.length p3) t∧NoInt w O
section
variable {Q:Value→Prop}{w w':World}{O:Nat}{t t':Tbl}{v:Value}
theorem TblAt.lt (h:TblAt Q w O t):O < w.heap.size:=by
 obtain ⟨_,_,_,_,_,_,hx,_⟩:=h
 exact hx.cells.2.2.2.2
theorem TblAt.kept (h:TblAt Q w O t)(hb:Below w.heap.size w w'):TblAt Q w' O t:=by
 have hl:=h.lt
 obtain ⟨A1,p1,A2,p2,A3,p3,hx,hT,hn⟩:=h
 exact ⟨A1,p1,A2,p2,A3,p3,hx.later hb,hT.kept hb,hn.later hl hb⟩
theorem TblAt.mono {Q':Value→Prop}(h:TblAt Q w O t)(hq:∀ u,Q u→Q' u):TblAt Q' w O t:=by
 obtain ⟨A1,p1,A2,p2,A3,p3,hx,hT,hn⟩:=h
 exact ⟨A1,p1,A2,p2,A3,p3,hx,hT.mono hq,hn⟩
theorem TblInQ.parts (h:TblInQ Q w v t):∃ A1 p1 A2 p2 A3 p3,v=.agg #[.string t.name,.slice A1 t.cols.length p1,.slice A2 (cutL t.R).length p2,.slice A3 t.T.length p3]∧TblQ Q w (.slice A1 t.cols.length p1) (.slice A2 (cutL t.R).length p2) (.slice A3 t.T.length p3) t:=by
 obtain ⟨cv,bv,tv,rfl,hT⟩:=h
 obtain ⟨⟨A1,p1,rfl⟩,⟨A2,p2,rfl⟩,⟨A3,p3,rfl⟩⟩:=hT.of.slices
 exact ⟨A1,p1,A2,p2,A3,p3,rfl,hT⟩
def putT (w:World)(O:Nat)(a b c d:Value):World:=(((w.setCell ⟨O,0,none⟩ a).setCell ⟨O,1,none⟩ b).setCell ⟨O,2,none⟩ c).setCell ⟨O,3,none⟩ d
theorem putT_grown (w:World)(O:Nat)(a b c d:Value):w.grownBy (putT w O a b c d) (some O):=by
 have:=setCells_grown O [a,b,c,d] 0 w
 simp only [World.setCells,Nat.zero_add,Nat.reduceAdd] at this
 exact this
theorem TblAt.store {A1 A2 A3:Option Addr}{p1 p2 p3:Nat}(h:TblAt Q w O t)(hq:∀ u,Q u→RowOff (boxV O) u)(hT:TblQ Q w (.slice A1 t'.cols.length p1) (.slice A2 (cutL t'.R).length p2) (.slice A3 t'.T.length p3) t') :
  TblAt Q (putT w O (.string t'.name) (.slice A1 t'.cols.length p1) (.slice A2 (cutL t'.R).length p2) (.slice A3 t'.T.length p3)) O t':=by
 obtain ⟨_,_,_,_,_,_,hx,_,hn⟩:=h
 exact ⟨A1,p1,A2,p2,A3,p3,hx.putAll _ _ _ _,hT.boxed hq hn (putT_grown _ _ _ _ _ _),hn.putAll hx⟩
theorem TblAt.other {O':Nat}{a b c d:Value}(h:TblAt Q w O t)(h2:NoInt w O')(hq:∀ u,Q u→RowOff (boxV O') u)(hne:O≠O'):TblAt Q (putT w O' a b c d) O t:=by
 have hl:=h.lt
 obtain ⟨A1,p1,A2,p2,A3,p3,hx,hT,hn⟩:=h
 have hg:=putT_grown w O' a b c d
 exact ⟨A1,p1,A2,p2,A3,p3,hx.other hg (by simpa using Ne.symm hne),hT.boxed hq h2 hg,hn.other hl hg (by simpa using Ne.symm hne)⟩
theorem TblAt.noInt (h:TblAt Q w O t):NoInt w O:=by
 obtain ⟨_,_,_,_,_,_,_,_,hn⟩:=h
 exact hn
theorem TblAt.new {A1 A2 A3:Option Addr}{p1 p2 p3:Nat}(T:TypeId)(h:TblQ Q w (.slice A1 t.cols.length p1) (.slice A2 (cutL t.R).length p2) (.slice A3 t.T.length p3) t) :
  TblAt (fun u=>Q u∧RowOff (boxV w.heap.size) u) (w.alloc (.cells #[.string t.name,.slice A1 t.cols.length p1,.slice A2 (cutL t.R).length p2,.slice A3 t.T.length p3] T)) w.heap.size t :=
 ⟨A1,p1,A2,p2,A3,p3,tbox_lit _ _ _ _ _ _,⟨h.cols.kept (Below.alloc (.refl _ _) (Nat.le_refl _) _),by
  obtain ⟨tv,h1,h2,h3,h4⟩:=h.blks
  exact ⟨tv,h1,SliceOf.alloc h2 _,fun x hx=>SliceOf.alloc (h3 x hx) _,fun x hx=>⟨h4 x hx,box_below (h3 x hx) (Nat.le_refl _)⟩⟩,h.tail.oldQ (Below.alloc (.refl _ _) (Nat.le_refl _) _) fun u r hu hq=>⟨hq,box_below hu (Nat.le_refl _)⟩⟩,NoInt.box _ _ _ _ _ _ _ _ _ _ _ _⟩
theorem TblAt.parts (h:TblAt Q w O t):∃ A1 p1 A2 p2 A3 p3,TBox w O t.name (.slice A1 t.cols.length p1) (.slice A2 (cutL t.R).length p2) (.slice A3 t.T.length p3)∧TblQ Q w (.slice A1 t.cols.length p1) (.slice A2 (cutL t.R).length p2) (.slice A3 t.T.length p3) t∧NoInt w O:=h
def AppR (Q:Value→Prop)(t':Tbl)(n:Int):Value→World→Prop:=fun v w=>∃ v1,v=.tuple #[v1,.int .i64 n]∧TblInQ Q w v1 t'
theorem AppR.kept {n:Int}:∀ (v:Value)(w w':World),Below w.heap.size w w'→AppR Q t' n v w→AppR Q t' n v w':=fun v w w' hb h=>by
 obtain ⟨v1,e,h1⟩:=h
 exact ⟨v1,e,h1.kept hb⟩
theorem TblInQ.keptF:∀ (v:Value)(w w':World),Below w.heap.size w w'→(fun v w=>TblInQ Q w v t') v w→(fun v w=>TblInQ Q w v t') v w':=fun _ _ _ hb h=>h.kept hb
def TupS (n:Int):Value→Prop:=fun v=>∃ v1,v=.tuple #[v1,.int .i64 n]
def ZeroP (B:Nat):Value→World→Prop:=fun v w=>∃ b,v=.pointer (some ⟨b,0,none⟩)∧B≤b∧TBox w b ⟨#[]⟩ (.slice none 0 0) (.slice none 0 0) (.slice none 0 0)
theorem ZeroP.kept {B:Nat}:∀ (v:Value)(w w':World),Below w.heap.size w w'→ZeroP B v w→ZeroP B v w':=fun v w w' hb h=>by
 obtain ⟨b,e,h1,h2⟩:=h
 exact ⟨b,e,h1,h2.later hb⟩
def RowP (B:Nat)(row:List ByteArray)(k:Int):Value→World→Prop:=fun v w=>∃ A p,v=.agg #[.slice A row.length p,.int .i64 k]∧StrsIn w (.slice A row.length p) row∧Fresh B (.slice A row.length p)
theorem RowP.kept {B:Nat}{row:List ByteArray}{k:Int}:∀ (v:Value)(w w':World),Below w.heap.size w w'→RowP B row k v w→RowP B row k v w':=fun v w w' hb h=>by
 obtain ⟨A,p,e,h1,h2⟩:=h
 exact ⟨A,p,e,StrsIn.kept h1 hb,h2⟩
def TimesP (l:List Tm):Value→World→Prop:=fun v w=>TimesIn w v l
theorem TimesP.kept {l:List Tm}:∀ (v:Value)(w w':World),Below w.heap.size w w'→TimesP l v w→TimesP l v w':=fun _ _ _ hb h=>TimesIn.kept h hb
def TblP (t:Tbl):Value→World→Prop:=fun v w=>TblIn w v t
theorem TblP.kept {t:Tbl}:∀ (v:Value)(w w':World),Below w.heap.size w w'→TblP t v w→TblP t v w':=fun _ _ _ hb h=>TblIn.kept h hb
def BlksP (l:List Blk):Value→World→Prop:=fun v w=>BlksIn w v l
theorem BlksP.kept {l:List Blk}:∀ (v:Value)(w w':World),Below w.heap.size w w'→BlksP l v w→BlksP l v w':=fun _ _ _ hb h=>BlksIn.kept h hb
def LitP (Q:Value→Prop)(l:List Tm):Value→World→Prop:=fun v w=>∃ A p,v=.slice A l.length p∧TimesQ Q w (.slice A l.length p) l
theorem LitP.kept {l:List Tm}:∀ (v:Value)(w w':World),Below w.heap.size w w'→LitP Q l v w→LitP Q l v w':=fun v w w' hb h=>by
 obtain ⟨A,p,e,h1⟩:=h
 exact ⟨A,p,e,h1.kept hb⟩
end
end Go.Proofs.YtafmbnafibahkaaGreat
