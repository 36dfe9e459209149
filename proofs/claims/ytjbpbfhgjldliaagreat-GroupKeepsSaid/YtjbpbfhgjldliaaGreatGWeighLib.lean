/- slices.SortFunc at no rows. -/
import Derived.Test.YtjbpbfhgjldliaaGreatGWeighRef
import Derived.Test.YtjbpbfhgjldliaaGreatGWeighFns
import Derived.Test.YtjbpbfhgjldliaaGreatGZShelf
import Derived.Shelf.Abstract
import Derived.Shelf.SlSortCmp.WholeK
namespace Go.Proofs.YtjbpbfhgjldliaaGreat
open Go Go.RowKit
def PredN (P:Program)(g:FuncId)(q:Int→Bool):Prop:=∀ (A:Option Addr)(c p:Nat)(n:Int),Gives P g #[.agg #[.slice A c p,.int .i64 n]] (.bool (q n))
def NoneOf (q:Int→Bool)(l:List Tm):Prop:=∀ t∈l,q t.2=false
def IdxEnd (q:Int→Bool)(l:List Tm)(z:Int):Prop:=(z = -1∧NoneOf q l)∨∃ k:Nat,∃ h:k < l.length,z=(k:Int)∧q (l[k]'h).2=true∧NoneOf q (l.take k)
theorem enters_none:∀ args w,(callFunc 64 args).run Tryz.prog w=.ok (.enter 64 args) w:=enters_of Tryz.func64 (by kernel_rfl) rfl
theorem enters_compare:∀ args w,(callFunc 61 args).run Tryz.prog w=.ok (.enter 61 args) w:=enters_of Tryz.func61 (by kernel_rfl) rfl
theorem pred_none:PredN Tryz.prog 64 (fun n=>n==0):=wnone_calls
set_option maxHeartbeats 1000000 in
theorem windex_calls (q:Int→Bool)(g:FuncId)(eg:∀ args w,(callFunc g args).run Tryz.prog w=.ok (.enter g args) w)(hp:PredN Tryz.prog g q){w:World}{v:Value}{l:List Tm}(h:TimesIn w v l) :
  Calls Tryz.prog 82 #[v,.func (.func g) #[] #[]] w fun e w'=>∃ z,e=.returned (.int .i64 z)∧IdxEnd q l z∧Below w.heap.size w w':=by
 have hm:=h.len
 unfold maxLen at hm
 obtain ⟨hb,hB⟩:=start w
 obtain ⟨tv,A,cap,rfl,_,hat⟩:=times_at h
 have HAT:=Lib.hid hat
 have HP:=Lib.hid hp
 clear h hat hp
 go_enter Tryz.func82,Tryz.ntmps82
 go_wp2
 go_loopw [5,8] (fun _ i wr=>∃ k:Nat,k≤l.length∧i=.int .i64 k∧Hid (NoneOf q (l.take k))∧Below w.heap.size w wr) (fun _ i _=>l.length-(intOf i).toNat)
 case atStart=>exact ⟨0,Nat.zero_le _,rfl,fun t ht=>absurd ht (by simp),hb⟩
 case round =>
  clear hb hB
  obtain ⟨k,hk,rfl,HS,hb⟩:=hrel
  have hB:=hb.size
  by_cases hlt:k < l.length
  ·obtain ⟨b,off,rfl,hbl,hc⟩:=HAT.out k hlt
   obtain ⟨rv,hs,_,c1,c2⟩:=hc k hlt
   have x1:=(hb.cell (p:=⟨b,off+k*2,none⟩) hbl).trans c1
   have x2:=(hb.cell (p:=⟨b,off+k*2+1,none⟩) hbl).trans c2
   have HT:=Lib.hid (take_add l k hlt)
   obtain ⟨Ar,pr,rfl⟩:∃ Ar pr,rv=.slice Ar l[k].1.length pr:=by obtain ⟨Ar,pr,e,_⟩:=one_at hs;exact ⟨Ar,pr,e⟩
   have HQ:=Lib.hid (HP.out Ar l[k].1.length pr l[k].2)
   have HE:Hid (q l[k].2=true→IdxEnd q l (k:Int)):=fun e=>.inr ⟨k,hlt,rfl,e,HS.out⟩
   clear hc c1 c2 hs
   generalize l[k]=t at *
   obtain ⟨row,n⟩:=t
   dsimp only at *
   cases hq:q n with
   | true =>
    have HE1:=Lib.hid (HE.out hq)
    rw [hq] at HQ
    clear HE hq
    go_wp2_with (go_at_fn g;refine HQ.out.step (w0:=w) (B:=w.heap.size) hb hB ?_;clear hb hB x1 x2;intro w2 hb hB)
    go_ret
    exact ⟨_,rfl,HE1.out,hb⟩
   | false =>
    have HN:Hid (NoneOf q (l.take (k+1))):=fun t ht=>by
     rw [HT.out] at ht
     rcases List.mem_append.1 ht with ht|ht
     ·exact HS.out t ht
     ·rw [List.mem_singleton.1 ht];exact hq
    rw [hq] at HQ
    clear HE hq
    go_wp2_with (go_at_fn g;refine HQ.out.step (w0:=w) (B:=w.heap.size) hb hB ?_;clear hb hB x1 x2;intro w2 hb hB)
    go_roundw
    case rel=>exact ⟨k+1,by omega,by go_num,HN.out,hb⟩
    case measure=>simp [intOf];omega
  ·obtain rfl:k=l.length:=by omega
   rw [List.take_length] at HS
   go_wp2
   go_ret
   exact ⟨_,rfl,.inl ⟨rfl,HS.out⟩,hb⟩
def keepW (l:List Tm):List Tm:=l.filter fun t=>!(t.2==0)
theorem keep_all {l:List Tm}(h:NoneOf (fun n=>n==0) l):keepW l=l:=by
 unfold keepW
 rw [List.filter_eq_self]
 intro t ht
 have e:(t.2==0)=false:=h t ht
 rw [e];rfl
structure DelAt (l lr:List Tm) (i j:Nat):Prop where
 lt:i < j
 le:j≤l.length
 len:lr.length=l.length
 front:lr.take i=keepW (l.take j)
 back:lr.drop j=l.drop j
theorem DelAt.first {l:List Tm}{k:Nat}(hk:k < l.length)(hq:(l[k].2==0)=true)(hn:NoneOf (fun n=>n==0) (l.take k)):DelAt l l k (k+1) where
 lt:=by omega
 le:=hk
 len:=rfl
 front:=by
  rw [take_add l k hk]
  have h1:=keep_all hn
  unfold keepW at h1 ⊢
  rw [List.filter_append,h1,List.filter_cons_of_neg (by rw [hq];decide),List.filter_nil,List.append_nil]
 back:=rfl
theorem DelAt.get {l lr:List Tm}{i j:Nat}(h:DelAt l lr i j)(hj:j < l.length):lr[j]'(by rw [h.len];exact hj)=l[j]:=by
 have h1:=h.back
 have hl:=h.len
 rw [List.drop_eq_getElem_cons (by omega),List.drop_eq_getElem_cons hj] at h1
 exact (List.cons.inj h1).1
theorem DelAt.skip {l lr:List Tm}{i j:Nat}(h:DelAt l lr i j)(hj:j < l.length)(hq:(l[j].2==0)=true):DelAt l lr i (j+1) where
 lt:=by have:=h.lt;omega
 le:=hj
 len:=h.len
 front:=by
  rw [h.front,take_add l j hj]
  unfold keepW
  rw [List.filter_append,List.filter_cons_of_neg (by rw [hq];decide),List.filter_nil,List.append_nil]
 back:=by
  have h1:=h.back
  have hl:=h.len
  rw [List.drop_eq_getElem_cons (by omega),List.drop_eq_getElem_cons hj] at h1
  exact (List.cons.inj h1).2
theorem DelAt.keep {l lr:List Tm}{i j:Nat}(h:DelAt l lr i j)(hj:j < l.length)(hq:(l[j].2==0)=false):DelAt l (lr.set i l[j]) (i+1) (j+1) where
 lt:=by have:=h.lt;omega
 le:=hj
 len:=by rw [List.length_set];exact h.len
 front:=by
  have hi:i < lr.length:=by have:=h.lt;have:=h.len;omega
  rw [take_add _ i (by rw [List.length_set];exact hi),List.getElem_set_self,List.take_set_of_le (Nat.le_refl i),h.front,take_add l j hj]
  unfold keepW
  rw [List.filter_append,List.filter_cons_of_pos (by rw [hq];decide),List.filter_nil]
 back:=by
  have h1:=h.back
  have hl:=h.len
  rw [List.drop_eq_getElem_cons (by omega),List.drop_eq_getElem_cons hj] at h1
  rw [List.drop_set_of_lt (by have:=h.lt;omega)]
  exact (List.cons.inj h1).2
def DeleteEnd (Q:Value→Prop)(B:Nat)(w:World)(l:List Tm)(e:Ending)(w':World):Prop:=∃ u,e=.returned u∧TimesQ Q w' u (keepW l)∧Below B w w'∧Fresh B u
set_option maxHeartbeats 2000000 in
set_option maxRecDepth 100000 in
theorem delete_calls (Q:Value→Prop){w:World}{B:Nat}{v:Value}{tv:List (Value×Int)}{l:List Tm}(h:TimesOwn w B v tv l)(hQ:∀ t∈tv,Q t.1)(hBw:B≤w.heap.size) :
  Calls Tryz.prog 62 #[v,.func (.func 64) #[] #[]] w (DeleteEnd Q B w l):=by
 have hml:=h.times.len
 unfold maxLen at hml
 have hix:=windex_calls _ _ enters_none pred_none h.times
 have eg:=enters_none
 have HN:=Lib.hid wnone_calls
 obtain ⟨A,cap,rfl⟩:=h.slice
 have HT:=Lib.hid h
 have HQ0:=Lib.hid hQ
 clear h hQ
 unfold DeleteEnd
 go_enter Tryz.func62,Tryz.ntmps62
 go_wp2_with fail
 refine hix.mono ?_
 clear hix
 rintro e w1 ⟨z,rfl,hz,hb1⟩
 have HT1:=Lib.hid (HT.out.later hb1)
 have hb:=hb1.mono hBw
 have hB1:B≤w1.heap.size:=Nat.le_trans hBw hb1.size
 clear HT hb1
 rcases hz with ⟨rfl,hno⟩ | ⟨k,hk,rfl,hq,hno⟩
 ·have HK:=Lib.hid (keep_all hno)
  have HF:Hid (Fresh B (.slice A l.length cap)):=fun k hk=>HT1.out.lt k hk
  clear hno
  go_wp2
  go_ret
  exact ⟨_,rfl,by rw [HK.out];exact HT1.out.timesQ HQ0.out,hb,HF.out⟩
 ·obtain ⟨g,off,cap9,e9,hc9⟩:=HT1.out.some_ (by omega)
  obtain ⟨rfl,rfl⟩:A=some ⟨g,off,none⟩∧cap=cap9:=by injection e9 with e1 _ e2;exact ⟨e1,e2⟩
  clear e9
  have HD:=Lib.hid (DelAt.first hk hq hno)
  clear hq hno
  have dk:((k:Int)==-1)=false:=by rw [beq_eq_false_iff_ne];omega
  go_wp2
  go_loopw [5,6,7] (fun i j _ wr=>∃ (I J:Nat) (tvr:List (Value×Int)) (lr:List Tm),i=.int .i64 I∧j=.int .i64 J∧Hid (DelAt l lr I J)∧Hid (TimesOwn wr B (.slice (some ⟨g,off,none⟩) l.length cap) tvr lr)∧Hid (∀ t∈tvr,Q t.1)∧Below B w wr∧B≤wr.heap.size) (fun _ j _ _=>l.length-(intOf j).toNat)
  case atStart=>exact ⟨k,k+1,tv,l,rfl,by go_num,HD.out,HT1.out,HQ0.out,hb,hB1⟩
  case round =>
   clear hb hB1 HD HT1 dk
   obtain ⟨I,J,tvr,lr,rfl,rfl,HD,HT,HQR,hb,hB⟩:=hrel
   have hIJ:=HD.out.lt
   have hJl:=HD.out.le
   have HLL:=Lib.hid HD.out.len
   by_cases hlt:J < l.length
   ·obtain ⟨rv,hs,hget,ho,y1,y2,f1,f2,hBg,hgl⟩:=HT.out.at_ J (by rw [HLL.out];exact hlt)
    have hqv:Q rv:=HQR.out _ (List.mem_of_getElem? hget)
    clear hget
    rw [HD.out.get hlt] at hs y2
    have HDS:=Lib.hid (HD.out.skip hlt)
    have HDK:=Lib.hid (HD.out.keep hlt)
    obtain ⟨Ar,pr,rfl⟩:∃ Ar pr,rv=.slice Ar l[J].1.length pr:=by obtain ⟨Ar,pr,e,_⟩:=one_at hs;exact ⟨Ar,pr,e⟩
    have HS:=Lib.hid hs
    have HOF:=Lib.hid ho
    have HQV:=Lib.hid hqv
    clear hs ho hqv
    generalize l[J]=t at *
    obtain ⟨row,n⟩:=t
    dsimp only at *
    have hbx:=box_tm wr 49 (.slice Ar row.length pr) n
    have hq4:=Below.alloc (.refl _ wr) (Nat.le_refl _) (.cells #[.slice Ar row.length pr,.int .i64 n] 49)
    have hs1:(wr.alloc (.cells #[.slice Ar row.length pr,.int .i64 n] 49)).heap.size=wr.heap.size+1:=by simp
    have HQ:=Lib.hid (HN.out Ar row.length pr n)
    have HBX:=Lib.hid hbx
    clear hbx
    cases hq:(n==0) with
    | true =>
     rw [hq] at HQ
     have HD2:=Lib.hid (HDS.out hq)
     clear HDS HDK hq
     go_wp2_with (go_at_fn 64;refine HQ.out.stepB (w0:=wr) (B:=wr.heap.size) hq4 (by simp) ?_;clear hq4;intro w5 hq5 hz5 hr5)
     go_roundw
     case rel=>exact ⟨I,J+1,tvr,lr,rfl,by go_num,HD2.out,HT.out.later hq5,HQR.out,hb.trans (hq5.mono hB),Nat.le_trans hB hq5.size⟩
     case measure=>simp [intOf];omega
    | false =>
     rw [hq] at HQ
     have HD2:=Lib.hid (HDK.out hq)
     clear HDS HDK hq
     have HIL:=Lib.hid (show I < lr.length by rw [HLL.out];omega)
     go_wp2_with (go_at_fn 64;refine HQ.out.stepB (w0:=wr) (B:=wr.heap.size) hq4 (by simp) ?_;clear hq4;intro w5 hq5 hz5 hr5;obtain ⟨z0,z1,_,_⟩:=(HBX.out.later hr5).cells;have HT5:=Lib.hid (HT.out.later hq5);obtain ⟨ri,_,_,_,i1,i2,g1,g2,_,hgl5⟩:=HT5.out.at_ I HIL.out)
     refine ⟨⟨I+1,J+1,_,_,by go_num,by go_num,HD2.out,HT5.out.stored I HIL.out n (StrsIn.kept HS.out hq5) HOF.out,q_set HQR.out I HQV.out,((hb.trans (hq5.mono hB)).setCell (p:=⟨g,off+I*2,none⟩) hBg _).setCell (p:=⟨g,off+I*2+1,none⟩) hBg _,?_⟩,?_⟩
     ·exact Nat.le_trans (Nat.le_trans hB hq5.size) (by simp)
     ·simp [intOf];omega
   ·obtain rfl:J=l.length:=by omega
    have hfr:=HD.out.front
    rw [List.take_length] at hfr
    have HFR:=Lib.hid hfr
    clear hfr
    have hO:=HT.out.own
    obtain ⟨hBg,hgl,hnc,hcc,hroom⟩:=(show Own wr B 2 (.slice (some ⟨g,off,none⟩) l.length cap) l.length (timesV tvr) by have:=hO;rwa [HLL.out] at this).parts
    have hcl:∀ ty,(Builtin.clear_ #[30] ty #[.slice (some ⟨g,off+I*2,none⟩) (l.length-I) (cap-I)]).run Tryz.prog wr=.ok (.tuple #[]) (wr.setCells g (off+I*2) (Builtin.zeroCells (Value.agg #[.slice none 0 0,.int .i64 0]).cells (l.length-I)).toList) :=
     fun ty=>run_clear_cells wr _ _ ty _ 2 Tryz.underlying30 Tryz.zeroValue49 rfl (by decide) (fun u hu=>by
      simp only [Value.cells,List.mem_cons,List.not_mem_nil,or_false] at hu
      rcases hu with rfl|rfl <;> rfl) g (off+I*2) _ _ (by omega) (fun j hj=>by rw [Nat.add_assoc];exact (hroom (I*2+j) (by omega)).1) (fun j hj=>by rw [Nat.add_assoc];exact (hroom (I*2+j) (by omega)).2)
    have HFT:=Lib.hid (HT.out.frontQ (Q:=Q) (m:=I) HQR.out (by omega) (Builtin.zeroCells (Value.agg #[.slice none 0 0,.int .i64 0]).cells (l.length-I)).toList)
    rw [HFR.out] at HFT
    have hb9:Below B w (wr.setCells g (off+I*2) (Builtin.zeroCells (Value.agg #[.slice none 0 0,.int .i64 0]).cells (l.length-I)).toList):=hb.grown (setCells_grown g _ _ wr) hB (fun j hj=>by cases hj;exact hBg)
    have HB9:=Lib.hid hb9
    have HF:Hid (Fresh B (.slice (some ⟨g,off,none⟩) I cap)):=fun k hk=>by
     simp only [Value.ownBlock,Option.some.injEq] at hk
     omega
    clear hb9 hO hcc hroom
    generalize (Builtin.zeroCells (Value.agg #[.slice none 0 0,.int .i64 0]).cells (l.length-I)).toList=zs at *
    have hne:¬cap=I:=by omega
    go_wp2
    go_ret
    exact ⟨_,rfl,HFT.out,HB9.out,HF.out⟩
abbrev RowAt (w:World):Type:={ x:Value×Tm // StrsIn w x.1 x.2.1 }
instance (w:World):Inhabited (RowAt w):=⟨⟨(.slice none 0 0,([],0)),SliceOf.nil_ w 1 none 0⟩⟩
def encR {w:World}(x:RowAt w):List Value:=[x.1.1,.int .i64 x.1.2.2]
def cmpR {w:World}(x y:RowAt w):Int:=cmpL x.1.2.1 y.1.2.1
def tvR {w:World}(d:List (RowAt w)):List (Value×Int):=d.map fun x=>(x.1.1,x.1.2.2)
def tmR {w:World}(d:List (RowAt w)):List Tm:=d.map fun x=>x.1.2
theorem rows_at {w:World}:∀ {tv:List (Value×Int)}{l:List Tm},RowsOf w tv l→∃ d:List (RowAt w),tvR d=tv∧tmR d=l
 | [],[],_=>⟨[],rfl,rfl⟩
 | (v,n)::_,(r,m)::_,h=>by
  obtain ⟨d,h1,h2⟩:=rows_at h.2
  obtain ⟨hs,hn⟩:=h.1
  dsimp only at hs hn
  subst hn
  exact ⟨⟨(v,(r,n)),hs⟩::d,by rw [←h1];rfl,by rw [←h2];rfl⟩
 | [],_::_,h=>h.elim
 | _::_,[],h=>h.elim
theorem rows_of {w:World}:∀ d:List (RowAt w),RowsOf w (tvR d) (tmR d)
 | []=>trivial
 | x::d=>⟨⟨x.2,rfl⟩,rows_of d⟩
theorem flat_get {w:World}(d:List (RowAt w))(j:Nat)(h:j < d.length*2):(timesV (tvR d))[j]? = some ((Go.Sort.flatK encR 2 d.toArray)[j]!):=by
 have hlen:(tvR d).length=d.length:=by unfold tvR;rw [List.length_map]
 have hi:j / 2 < d.length:=by omega
 have hv:=timesV_get (tvR d) (j / 2) (by omega)
 have hg:(tvR d)[j / 2]'(by omega)=(d[j / 2].1.1,d[j / 2].1.2.2):=by unfold tvR;rw [List.getElem_map]
 rw [hg] at hv
 rw [Go.Sort.get_flatK _ _ _ _ (by simpa using h),getElem!_pos d.toArray (j / 2) (by simpa using hi)]
 rcases Nat.mod_two_eq_zero_or_one j with e|e
 ·have ej:j=j / 2*2:=by omega
  rw [e]
  show _=some d[j / 2].1.1
  rw [←hv.1];congr 1
 ·have ej:j=j / 2*2+1:=by omega
  rw [e]
  show _=some (Value.int .i64 d[j / 2].1.2.2)
  rw [←hv.2];congr 1
theorem ltR {w:World}(x y:RowAt w):ltOf cmpR x y=decide (cmpL x.1.2.1 y.1.2.1 = -1):=by
 have h:=cmpL_range x.1.2.1 y.1.2.1
 unfold ltOf cmpR
 rw [decide_eq_decide];omega
theorem swoR (w:World):Go.Sort.SWO (ltOf (cmpR (w:=w))) where
 irrefl x:=by rw [ltR,cmpL_self];rfl
 trans x y z h1 h2:=by
  rw [ltR,decide_eq_true_eq] at *
  exact cmpL_chain _ _ _ h1 h2
 ntrans x y z h1 h2:=by
  rw [ltR,decide_eq_false_iff_not] at *
  intro h3
  by_cases e:y.1.2.1=x.1.2.1
  ·rw [←e] at h3;exact h2 h3
  ·exact h2 (cmpL_chain _ _ _ (cmpL_back h1 (fun k=>e k.symm)) h3)
theorem below_sorted {w0 w:World}{blk:Nat}(hb:Below w0.heap.size w0 w)(hB:w0.heap.size≤blk)(off m:Nat)(d:Array (RowAt w0))(os:Array Obj):Below w0.heap.size w0 (sortWorldK encR 2 w blk off m d os):=by
 refine hb.trans ⟨rfl,rfl,rfl,?_,fun k hk=>?_⟩
 ·simp [sortWorldK,Go.Sort.putRowK,Go.Sort.putRow,Go.Sort.mapBlock,Go.Sort.grow,Go.Sort.ahead]
 ·have hk2:k < w.heap.size:=Nat.lt_of_lt_of_le hk hb.size
  have hne:blk≠k:=by omega
  simp [sortWorldK,Go.Sort.putRowK,Go.Sort.putRow,Go.Sort.mapBlock,Go.Sort.grow,Go.Sort.ahead,Array.getElem?_append,hk2]
  rw [Array.getElem_modify,if_neg hne]
def SortEnd (w0:World)(v:Value)(l:List Tm)(e:Ending)(w':World):Prop:=e=.returned (.tuple #[])∧∃ tv' l',l'.Perm l∧l'.Pairwise (fun a b=>¬cmpL b.1 a.1 = -1)∧RowsOf w0 tv' l'∧SliceOf w' 2 v l.length (timesV tv')∧Below w0.heap.size w0 w'
theorem sort_some {w0 w:World}{g off cap:Nat}{tv:List (Value×Int)}{l:List Tm}(hr:RowsOf w0 tv l)(hO:Own w w0.heap.size 2 (.slice (some ⟨g,off,none⟩) l.length cap) l.length (timesV tv))(hb:Below w0.heap.size w0 w)(hl:l.length≤1000000) :
  Calls Tryz.prog 60 #[.slice (some ⟨g,off,none⟩) l.length cap,.func (.func 61) #[] #[]] w (SortEnd w0 (.slice (some ⟨g,off,none⟩) l.length cap) l):=by
 obtain ⟨d,rfl,rfl⟩:=rows_at hr
 have hlen:(tmR d).length=d.length:=by unfold tmR;rw [List.length_map]
 rw [hlen] at hO hl ⊢
 obtain ⟨hB,hg,hnc,hc,hroom⟩:=hO.parts
 have hle:d.length*2≤cap*2:=by omega
 have hda:d.toArray.size=d.length:=by simp
 have hH:Go.Sort.HoldsK encR 2 w g off d.toArray:=by
  intro j hj
  rw [Go.Sort.size_flatK] at hj
  have hj':j < d.length*2:=by simpa using hj
  exact ⟨hc j _ (flat_get d j hj'),(hroom j (by omega)).2⟩
 have hcmp:CmpLays Tryz.prog 61 #[] encR 2 cmpR g off d.toArray.size w:=fun m os dk _ x y=>by
  have hW:=below_sorted hb hB off m dk os
  exact (wcompare_grows x.1.2.2 y.1.2.2 (StrsIn.kept x.2 hW) (StrsIn.kept y.2 hW)).mono fun _ _ ⟨he,os',hw⟩=>⟨he,0,os',hw⟩
 have hcon:=AnyQ.slices_SortFunc Tryz.laysSort60 2 Tryz.isAgg49 Tryz.sizeOf49 encR (fun _=>rfl) (fun x u hu=>by
  obtain ⟨A,c,e,_⟩:=one_at x.2
  simp only [encR,List.mem_cons,List.not_mem_nil,or_false] at hu
  rcases hu with rfl|rfl
  ·rw [e];rfl
  ·rfl) cmpR (swoR w0) 61 #[] g off cap d.toArray w enters_compare hcmp hH hg (by omega)
 refine Calls.mono hcon ?_
 rintro e w' ⟨he,d',n,os,hp,hs,rfl⟩
 have hsz:d'.size=d.toArray.size:=hp.1
 have hsz':d'.toList.length=d.length:=by simpa using hsz
 have hH':=holdsK_sortWorldK encR 2 w g off n d.toArray d' os hg hH hsz
 refine ⟨he,tvR d'.toList,tmR d'.toList,?_,?_,rows_of _,?_,below_sorted hb hB off n d' os⟩
 ·have h2:=hp.2.2
  rw [←hsz,Array.extract_size,hsz,Array.extract_size] at h2
  exact h2.map _
 ·unfold tmR
  rw [List.pairwise_map,List.pairwise_iff_getElem]
  intro i j hi hj hij
  have h3:=hs i j (Nat.zero_le _) hij (by omega)
  rw [ltR,decide_eq_false_iff_not,getElem!_pos d' i (by simpa using hi),getElem!_pos d' j (by simpa using hj)] at h3
  simpa using h3
 ·have hl2:(tmR d).length=d.length:=hlen
  rw [hl2]
  refine ⟨?_,hO.2.1,_,cap,rfl,hnc,fun _=>⟨g,off,rfl,?_,fun j u hu=>?_⟩⟩
  ·rw [timesV_length];unfold tvR;rw [List.length_map,hsz']
  ·exact lt_sortWorldK encR 2 w g off n d' os hg
  ·have hj:j < d'.toList.length*2:=by
    have:=(List.getElem?_eq_some_iff.1 hu).1
    rw [timesV_length] at this
    unfold tvR at this
    rwa [List.length_map] at this
   rw [flat_get d'.toList j hj] at hu
   have h4:=(hH' j (by rw [Go.Sort.size_flatK];simpa using hj)).1
   rw [h4]
   simpa using hu
set_option maxHeartbeats 1000000 in
theorem insertion_none (p:Option Addr)(cap:Nat)(fv:Value)(w:World) :
  Calls Tryz.prog 94 #[.slice p 0 cap,.int .i64 0,.int .i64 0,fv] w fun e w'=>e=.returned (.tuple #[])∧w'=w:=by
 go_enter Tryz.func94,Tryz.ntmps94
 go_wp2
 refine wp_loop_rounds 1 ?_
 rw [rounds_succ]
 go_wp2
 go_end0
 exact ⟨rfl,rfl⟩
set_option maxHeartbeats 1000000 in
theorem pdq_none (p:Option Addr)(cap:Nat)(lim:Int)(fv:Value)(w:World) :
  Calls Tryz.prog 81 #[.slice p 0 cap,.int .i64 0,.int .i64 0,.int .i64 lim,fv] w fun e w'=>e=.returned (.tuple #[])∧w'=w:=by
 have hi:=fun W=>insertion_none p cap fv W
 go_enter Tryz.func81,Tryz.ntmps81
 go_wp2
 refine wp_loop_rounds 1 ?_
 rw [rounds_succ]
 go_wp2_with (go_at_call 94;refine (hi _).mono ?_;rintro e w' ⟨rfl,rfl⟩)
 (try simp only [Exit.inBlock,Exit.then]);refine bodyPost_ret (results_none rfl _ _ _) rfl ?_
 exact ⟨rfl,rfl⟩
set_option maxHeartbeats 1000000 in
theorem sort_none (p:Option Addr)(cap:Nat)(fv:Value)(w:World) :
  Calls Tryz.prog 60 #[.slice p 0 cap,fv] w fun e w'=>e=.returned (.tuple #[])∧w'=w:=by
 have hp:=fun lim W=>pdq_none p cap lim fv W
 have hl:=fun W=>Tryz.bits_Len 0 W (by omega) (by omega)
 go_enter Tryz.func60,Tryz.ntmps60
 go_wp2_with (first|(go_at_call 55;refine (hl _).mono ?_;rintro e w' ⟨rfl,rfl⟩)|(go_at_call 81;refine (hp _ _).mono ?_;rintro e w' ⟨rfl,rfl⟩))
 go_end0
 exact ⟨rfl,rfl⟩
theorem sort_calls {w0 w:World}{v:Value}{tv:List (Value×Int)}{l:List Tm}(hr:RowsOf w0 tv l)(hO:Own w w0.heap.size 2 v l.length (timesV tv))(hb:Below w0.heap.size w0 w)(hl:l.length≤1000000) :
  Calls Tryz.prog 60 #[v,.func (.func 61) #[] #[]] w (SortEnd w0 v l):=by
 obtain ⟨A,p,rfl⟩:=hO.len
 rcases hO.2.2 with ⟨e,h0⟩ | ⟨g,off,cap,e,_⟩
 ·have hl0:l=[]:=List.eq_nil_of_length_eq_zero h0
  subst hl0
  refine (sort_none A p _ w).mono ?_
  rintro e w' ⟨rfl,rfl⟩
  have ht:tv=[]:=List.eq_nil_of_length_eq_zero hr.length
  subst ht
  exact ⟨rfl,[],[],List.Perm.refl _,List.Pairwise.nil,trivial,SliceOf.nil_ _ _ _ _,hb⟩
 ·rw [e] at hO ⊢
  exact sort_some hr hO hb hl
end Go.Proofs.YtjbpbfhgjldliaaGreat
