/- The contract of layer 20's rising: the rows that have the columns, sorted by their cells there. -/
import Derived.Test.YtopeeokjfaampaaGWeighRef
import Derived.Test.YtopeeokjfaampaaGZPairAt
import Derived.Test.YtopeeokjfaampaaGWeighLib
import Derived.Test.YtopeeokjfaampaaGZFoldCmp
namespace Go.Proofs.Ytopeeokjfaampaa
open Go Go.RowKit
abbrev RowC (w:World) (cols:List Int):Type:={ x:Value×Tm // StrsIn w x.1 x.2.1∧pickOk x.2.1 cols=true }
section
variable {w:World}{cols:List Int}
def encC (x:RowC w cols):List Value:=[x.1.1,.int .i64 x.1.2.2]
def keyC (x:RowC w cols):List ByteArray:=keyT cols x.1.2
def cmpC (x y:RowC w cols):Int:=cmpL (keyC x) (keyC y)
def tvC (d:List (RowC w cols)):List (Value×Int):=d.map fun x=>(x.1.1,x.1.2.2)
def tmC (d:List (RowC w cols)):List Tm:=d.map fun x=>x.1.2
theorem rowsC_at:∀ {tv:List (Value×Int)}{l:List Tm},RowsOf w tv l→(∀ x∈l,pickOk x.1 cols=true)→∃ d:List (RowC w cols),tvC d=tv∧tmC d=l
 | [],[],_,_=>⟨[],rfl,rfl⟩
 | (v,n)::_,(r,m)::_,h,ho=>by
  obtain ⟨d,h1,h2⟩:=rowsC_at h.2 fun x hx=>ho x (List.mem_cons_of_mem _ hx)
  obtain ⟨hs,hn⟩:=h.1
  dsimp only at hs hn
  subst hn
  exact ⟨⟨(v,(r,n)),hs,ho _ (List.mem_cons_self ..)⟩::d,by show _::tvC d=_;rw [h1],by show _::tmC d=_;rw [h2]⟩
 | [],_::_,h,_=>h.elim
 | _::_,[],h,_=>h.elim
theorem rowsC_of:∀ d:List (RowC w cols),RowsOf w (tvC d) (tmC d)
 | []=>trivial
 | x::d=>⟨⟨x.2.1,rfl⟩,rowsC_of d⟩
theorem flatC_get [Inhabited (RowC w cols)](d:List (RowC w cols))(j:Nat)(h:j < d.length*2):(timesV (tvC d))[j]? = some ((Go.Sort.flatK encC 2 d.toArray)[j]!):=by
 have hlen:(tvC d).length=d.length:=by unfold tvC;rw [List.length_map]
 have hi:j / 2 < d.length:=by omega
 have hv:=timesV_get (tvC d) (j / 2) (by omega)
 have hg:(tvC d)[j / 2]'(by omega)=(d[j / 2].1.1,d[j / 2].1.2.2):=by unfold tvC;rw [List.getElem_map]
 rw [hg] at hv
 rw [Go.Sort.get_flatK _ _ _ _ (by simpa using h),getElem!_pos d.toArray (j / 2) (by simpa using hi)]
 rcases Nat.mod_two_eq_zero_or_one j with e|e
 ·have ej:j=j / 2*2:=by omega
  rw [e]
  show _=some d[j / 2].1.1
  rw [←hv.1];congr 1
 ·have ej:j=j / 2*2+1:=by omega
  rw [e]
  show _=some (Value.int .i64 d[j / 2].1.2.2)
  rw [←hv.2];congr 1
theorem ltC (x y:RowC w cols):ltOf cmpC x y=decide (cmpL (keyC x) (keyC y) = -1):=by
 have h:=cmpL_range (keyC x) (keyC y)
 unfold ltOf cmpC
 rw [decide_eq_decide];omega
theorem swoC (w:World)(cols:List Int):Go.Sort.SWO (ltOf (cmpC (w:=w) (cols:=cols))) where
 irrefl x:=by rw [ltC,cmpL_self];rfl
 trans x y z h1 h2:=by
  rw [ltC,decide_eq_true_eq] at *
  exact cmpL_chain _ _ _ h1 h2
 ntrans x y z h1 h2:=by
  rw [ltC,decide_eq_false_iff_not] at *
  intro h3
  by_cases e:keyC y=keyC x
  ·rw [←e] at h3;exact h2 h3
  ·exact h2 (cmpL_chain _ _ _ (cmpL_back2 h1 e) h3)
theorem below_sortedC [Inhabited (RowC w cols)]{wa wb:World}{blk:Nat}(hb:Below wa.heap.size wa wb)(hB:wa.heap.size≤blk)(off m:Nat)(d:Array (RowC w cols))(os:Array Obj):Below wa.heap.size wa (sortWorldK encC 2 wb blk off m d os):=by
 refine hb.trans ⟨rfl,rfl,rfl,?_,fun k hk=>?_⟩
 ·simp [sortWorldK,Go.Sort.putRowK,Go.Sort.putRow,Go.Sort.mapBlock,Go.Sort.grow,Go.Sort.ahead]
 ·have hk2:k < wb.heap.size:=Nat.lt_of_lt_of_le hk hb.size
  have hne:blk≠k:=by omega
  simp [sortWorldK,Go.Sort.putRowK,Go.Sort.putRow,Go.Sort.mapBlock,Go.Sort.grow,Go.Sort.ahead,Array.getElem?_append,hk2]
  rw [Array.getElem_modify,if_neg hne]
end
def SortC (w0:World)(v:Value)(l:List Tm)(cols:List Int)(e:Ending)(w':World):Prop:=e=.returned (.tuple #[])∧∃ tv' l',l'.Perm l∧SortedK cols l'∧RowsOf w0 tv' l'∧SliceOf w' 2 v l.length (timesV tv')∧Below w0.heap.size w0 w'
theorem sortC_some {w0 w:World}{g off cap gb:Nat}{vc:Value}{cols:List Int}{tv:List (Value×Int)}{l:List Tm}(hr:RowsOf w0 tv l)(ho:∀ x∈l,pickOk x.1 cols=true)(hc0:IntsIn w0 vc cols)(hx0:w0.cell? ⟨gb,0,none⟩=some vc)
  (hO:Own w w0.heap.size 2 (.slice (some ⟨g,off,none⟩) l.length cap) l.length (timesV tv)) (hb:Below w0.heap.size w0 w) (hl:l.length≤1000000) (h0:0 < l.length) :
  Calls Try.prog 22 #[.slice (some ⟨g,off,none⟩) l.length cap,.func (.func 23) #[] #[.pointer (some ⟨gb,0,none⟩)]] w (SortC w0 (.slice (some ⟨g,off,none⟩) l.length cap) l cols):=by
 obtain ⟨d,rfl,rfl⟩:=rowsC_at (cols:=cols) hr ho
 have hlen:(tmC d).length=d.length:=by unfold tmC;rw [List.length_map]
 rw [hlen] at hO hl h0 ⊢
 haveI:Inhabited (RowC w0 cols):=⟨d[0]⟩
 obtain ⟨hB,hg,hnc,hc,hroom⟩:=hO.parts
 have hle:d.length*2≤cap*2:=by omega
 have hda:d.toArray.size=d.length:=by simp
 have hH:Go.Sort.HoldsK (encC (w:=w0) (cols:=cols)) 2 w g off d.toArray:=by
  intro j hj
  rw [Go.Sort.size_flatK] at hj
  have hj':j < d.length*2:=by simpa using hj
  exact ⟨hc j _ (flatC_get d j hj'),(hroom j (by omega)).2⟩
 have hcmp:CmpLays Try.prog 23 #[.pointer (some ⟨gb,0,none⟩)] (encC (w:=w0) (cols:=cols)) 2 cmpC g off d.toArray.size w:=fun m os dk _ x y=>by
  have hW:=below_sortedC (w:=w0) (cols:=cols) hb hB off m dk os
  exact frise_lays x.1.2.2 y.1.2.2 (StrsIn.kept x.2.1 hW) (StrsIn.kept y.2.1 hW) (IntsIn.kept hc0 hW) (cell_kept hx0 hW) x.2.2 y.2.2
 have hcon:=AnyQ.slices_SortFunc Try.laysSort22 2 Try.isAgg27 Try.sizeOf27 encC (fun _=>rfl) (fun x u hu=>by
  obtain ⟨A,c,e,_⟩:=one_at x.2.1
  simp only [encC,List.mem_cons,List.not_mem_nil,or_false] at hu
  rcases hu with rfl|rfl
  ·rw [e];rfl
  ·rfl) cmpC (swoC w0 cols) 23 #[.pointer (some ⟨gb,0,none⟩)] g off cap d.toArray w enters_rise hcmp hH hg (by omega)
 refine Calls.mono hcon ?_
 rintro e w' ⟨he,d',n,os,hp,hs,rfl⟩
 have hsz:d'.size=d.toArray.size:=hp.1
 have hsz':d'.toList.length=d.length:=by simpa using hsz
 have hH':=holdsK_sortWorldK encC 2 w g off n d.toArray d' os hg hH hsz
 refine ⟨he,tvC d'.toList,tmC d'.toList,?_,?_,rowsC_of _,?_,below_sortedC hb hB off n d' os⟩
 ·have h2:=hp.2.2
  rw [←hsz,Array.extract_size,hsz,Array.extract_size] at h2
  exact h2.map _
 ·unfold tmC SortedK
  rw [List.pairwise_map,List.pairwise_iff_getElem]
  intro i j hi hj hij
  have h3:=hs i j (Nat.zero_le _) hij (by omega)
  rw [ltC,decide_eq_false_iff_not,getElem!_pos d' i (by simpa using hi),getElem!_pos d' j (by simpa using hj)] at h3
  show ¬cmpL (keyC _) (keyC _) = -1
  simpa using h3
 ·have hl2:(tmC d).length=d.length:=hlen
  rw [hl2]
  refine ⟨?_,hO.2.1,_,cap,rfl,hnc,fun _=>⟨g,off,rfl,?_,fun j u hu=>?_⟩⟩
  ·rw [timesV_length];unfold tvC;rw [List.length_map,hsz']
  ·exact lt_sortWorldK encC 2 w g off n d' os hg
  ·have hj:j < d'.toList.length*2:=by
    have:=(List.getElem?_eq_some_iff.1 hu).1
    rw [timesV_length] at this
    unfold tvC at this
    rwa [List.length_map] at this
   rw [flatC_get d'.toList j hj] at hu
   have h4:=(hH' j (by rw [Go.Sort.size_flatK];simpa using hj)).1
   rw [h4]
   simpa using hu
theorem sortC_calls {w0 w:World}{gb:Nat}{v vc:Value}{cols:List Int}{tv:List (Value×Int)}{l:List Tm}(hr:RowsOf w0 tv l)(ho:∀ x∈l,pickOk x.1 cols=true)(hc0:IntsIn w0 vc cols)(hx0:w0.cell? ⟨gb,0,none⟩=some vc)
  (hO:Own w w0.heap.size 2 v l.length (timesV tv)) (hb:Below w0.heap.size w0 w) (hl:l.length≤1000000) :
  Calls Try.prog 22 #[v,.func (.func 23) #[] #[.pointer (some ⟨gb,0,none⟩)]] w (SortC w0 v l cols):=by
 by_cases h0:0 < l.length
 ·obtain ⟨g,off,cap,rfl⟩:=hO.some_ h0
  exact sortC_some hr ho hc0 hx0 hO hb hl h0
 ·have hn:l=[]:=List.eq_nil_of_length_eq_zero (by omega)
  subst hn
  obtain ⟨A,p,e⟩:=hO.len
  have e2:v=.slice A 0 p:=e
  subst e2
  refine (sort_none A p _ w).mono ?_
  rintro e w' ⟨rfl,rfl⟩
  have ht:=hr.length
  have htv:tv=[]:=List.eq_nil_of_length_eq_zero ht
  subst htv
  exact ⟨rfl,[],[],.refl _,List.Pairwise.nil,trivial,hO.slice,hb⟩
theorem okL_take (cols:List Int)(l:List Tm)(k:Nat)(h:k < l.length):okL cols (l.take (k+1))=okL cols (l.take k)++if pickOk l[k].1 cols=true then [l[k]] else []:=by
 unfold okL
 rw [List.take_add_one,List.getElem?_eq_getElem h,Option.toList_some,List.filter_append]
 congr 1
 rw [List.filter_cons]
 split <;> rfl
theorem okL_length (cols:List Int)(l:List Tm):(okL cols l).length≤l.length:=List.length_filter_le ..
theorem okL_ok {cols:List Int}{l:List Tm}:∀ x∈okL cols l,pickOk x.1 cols=true:=fun _ hx=>(List.mem_filter.1 hx).2
set_option maxHeartbeats 4000000 in
set_option maxRecDepth 100000 in
theorem frising_calls {w:World}{v vc:Value}{l:List Tm}{cols:List Int}(h:TimesIn w v l)(hc:IntsIn w vc cols)(hl:l.length≤1000000) :
  Calls Try.prog 14 #[v,vc] w fun e w'=>∃ v' r,e=.returned v'∧TimesIn w' v' r∧r.Perm (okL cols l)∧SortedK cols r∧Below w.heap.size w w':=by
 obtain ⟨i0,hi,hz0,hz1,hz2⟩:=info_parts Try.infoM27
 obtain ⟨tv,A,cap,rfl,_,hat⟩:=times_at h
 obtain ⟨Ac,cc,rfl,_⟩:=one_at hc
 have hq0:=Below.alloc (.refl w.heap.size w) (Nat.le_refl _) (.cells #[.slice Ac cols.length cc] 36)
 have HX:=Lib.hid (box_cell w 36 #[.slice Ac cols.length cc] 0 _ rfl)
 have HAT:=Lib.hid hat
 have HC:=Lib.hid (IntsIn.kept hc hq0)
 have HB0:=Lib.hid hq0
 have HLL:=Lib.hid hl
 clear h hc hat hq0
 go_enter Try.func14,Try.ntmps14
 go_wp2
 generalize w.alloc _=w1 at *
 go_loopw [5,10] (fun x i wr=>∃ k:Nat,k≤l.length∧i=.int .i64 k∧Hid (∃ tv,Own wr w1.heap.size 2 x (okL cols (l.take k)).length (timesV tv)∧RowsOf w1 tv (okL cols (l.take k))∧Below w1.heap.size w1 wr)) (fun _ i _=>l.length-(intOf i).toNat)
 case atStart=>exact ⟨0,Nat.zero_le _,rfl,Lib.hid ⟨[],Own.nil_ _ _ _,trivial,.refl _ _⟩⟩
 case round =>
  obtain ⟨k,hk,rfl,HG⟩:=hrel
  obtain ⟨tv8,hO8,hR8,hB8⟩:=HG.out
  obtain ⟨A9,p9,e9⟩:=hO8.len
  have HBR:=Lib.hid hB8
  have hll:=HLL.out
  by_cases hlt:k < l.length
  ·have hbw:=HB0.out.trans (HBR.out.mono HB0.out.size)
   obtain ⟨b,off,rfl,hbl,hc⟩:=HAT.out k hlt
   obtain ⟨rv,hs,_,c1,c2⟩:=hc k hlt
   have x1:=(hbw.cell (p:=⟨b,off+k*2,none⟩) hbl).trans c1
   have x2:=(hbw.cell (p:=⟨b,off+k*2+1,none⟩) hbl).trans c2
   have HTK:=Lib.hid (okL_take cols l k hlt)
   have hs1:=StrsIn.kept hs HB0.out
   obtain ⟨Ar,pr,rfl⟩:∃ Ar pr,rv=.slice Ar l[k].1.length pr:=by obtain ⟨Ar,pr,e,_⟩:=one_at hs;exact ⟨Ar,pr,e⟩
   have hfl:=okL_length cols (l.take k)
   rw [List.length_take] at hfl
   obtain ⟨F,hF⟩:∃ F,okL cols (l.take k)=F:=⟨_,rfl⟩
   rw [hF] at hO8 hR8 HTK e9 hfl HG
   obtain ⟨m9,hm⟩:∃ m,F.length=m:=⟨_,rfl⟩
   have HM:Hid (F.length=m9):=hm
   rw [hm] at hO8 e9 hfl
   have HML:Hid (m9≤1000000):=by show _≤_;omega
   subst e9
   have HO8:=Lib.hid hO8
   have HR8:=Lib.hid hR8
   have i1:(k:Int) < (l.length:Int):=by omega
   have HLK:Hid (k < l.length):=hlt
   clear hc c1 c2 hs hfl hF hm hO8 hR8 hB8
   generalize l[k]=x at *
   obtain ⟨row,c⟩:=x
   dsimp only at *
   have HS1:=Lib.hid hs1
   have hq2:=Below.alloc (.refl wr.heap.size wr) (Nat.le_refl _) (.cells #[.slice Ar row.length pr,.int .i64 c] 27)
   have hx0:=cell_kept HX.out HBR.out
   have hx2:=cell_kept hx0 hq2
   have z0:=box_cell wr 27 #[.slice Ar row.length pr,.int .i64 c] 0 _ rfl
   have z1:=box_cell wr 27 #[.slice Ar row.length pr,.int .i64 c] 1 _ rfl
   have HHA:=Lib.hid (fun W (hW:Below w1.heap.size w1 W)=>fhasall_calls Ar pr row (IntsIn.kept HC.out hW))
   have HA2:=Lib.hid (HHA.out _ (HBR.out.trans (hq2.mono HBR.out.size)))
   have HQ2:=Lib.hid hq2
   have HW2:=Lib.hid (HBR.out.trans (hq2.mono HBR.out.size))
   clear hq2 HHA hs1 hbw hlt hk
   cases hy:pickOk row cols with
   | true =>
    have HTN:=Lib.hid (HTK.out.trans (by rw [if_pos hy]))
    rw [hy] at HA2
    clear hy HTK HG
    have hq3:=Below.alloc (.refl _ _) (Nat.le_refl _) (.cells #[.slice Ar row.length pr,.int .i64 c] 27) (w:=wr.alloc (.cells #[.slice Ar row.length pr,.int .i64 c] 27))
    have HO9:=Lib.hid ((HO8.out.later HQ2.out).later hq3)
    have HB9:=Lib.hid (HW2.out.trans (hq3.mono HW2.out.size))
    have hlit:=lit_tm (wr.alloc (.cells #[.slice Ar row.length pr,.int .i64 c] 27)) 27 (.slice Ar row.length pr) c
    rw [show (wr.alloc (.cells #[.slice Ar row.length pr,.int .i64 c] 27)).heap.size=wr.heap.size+1 by simp] at hlit
    have HLIT:=Lib.hid hlit
    clear hlit
    have H1:=Lib.hid (one_tm HS1.out c)
    have hml:=HML.out
    clear hq3
    go_wp2_with (first|(go_at_call 21;refine HA2.out.step ?_)|(at_builtin;refine wpList_append_src rfl (.tmp 18) (.tmp 20) 22 rfl 27 i0 (.agg #[.slice none 0 0,.int .i64 0]) 2 32 Try.underlying22 hi hz0 hz1 hz2 rfl (by decide) (B:=w1.heap.size) (.slice A9 m9 p9) m9 (timesV tv8) rfl HO9.out (.slice (some ⟨wr.heap.size+1,0,none⟩) 1 1) 1 [.slice Ar row.length pr,.int .i64 c] rfl HLIT.out H1.out (by unfold maxLen;omega) (by omega) HB9.out.size ?_))
    intro v7 w7 hO7 hg7 ha7
    have HG7:Hid (∃ tv,Own w7 w1.heap.size 2 v7 (okL cols (l.take (k+1))).length (timesV tv)∧RowsOf w1 tv (okL cols (l.take (k+1)))∧Below w1.heap.size w1 w7):=by
     refine ⟨tv8++[(.slice Ar row.length pr,c)],?_,?_,HB9.out.grown hg7 HB9.out.size fun k hk=>(HO9.out.lt k hk).1⟩
     ·rw [HTN.out,timesV_append,List.length_append,HM.out];exact hO7
     ·rw [HTN.out];exact HR8.out.append (RowsOf.one HS1.out)
    clear hO7 hg7 ha7 z0 z1 x1 x2 hx0 hx2 hml
    go_wp2
    go_roundw
    case rel=>exact ⟨k+1,HLK.out,by go_num,HG7⟩
    case measure=>have:=HLK.out;simp [intOf];omega
   | false =>
    have HTN:=Lib.hid (HTK.out.trans (by rw [if_neg (by rw [hy];decide),List.append_nil]))
    rw [hy] at HA2
    clear hy HTK
    have HG7:Hid (∃ tv,Own (wr.alloc (.cells #[.slice Ar row.length pr,.int .i64 c] 27)) w1.heap.size 2 (.slice A9 m9 p9) (okL cols (l.take (k+1))).length (timesV tv)∧RowsOf w1 tv (okL cols (l.take (k+1)))∧Below w1.heap.size w1 (wr.alloc (.cells #[.slice Ar row.length pr,.int .i64 c] 27))):=by
     rw [HTN.out,HM.out]
     exact ⟨tv8,HO8.out.later HQ2.out,HR8.out,HW2.out⟩
    go_wp2_with (go_at_call 21;refine HA2.out.step ?_)
    go_roundw
    case rel=>exact ⟨k+1,HLK.out,by go_num,HG7⟩
    case measure=>have:=HLK.out;simp [intOf];omega
  ·obtain rfl:k=l.length:=by omega
   rw [List.take_length] at hO8 hR8
   have hfl:=okL_length cols l
   have HSF:=Lib.hid (sortC_calls hR8 okL_ok HC.out HX.out hO8 HBR.out (by omega))
   clear hO8 hR8 HG hB8
   rw [List.take_length] at e9
   generalize hF:okL cols l=F at *
   have HFF:=Lib.hid hF
   clear hF
   generalize hm:F.length=m9 at *
   subst e9
   go_wp2_with fail
   refine HSF.out.mono ?_
   rintro e w3 ⟨rfl,tv',l',hp,hso,hr',hsl,hb3⟩
   have HP:=Lib.hid hp
   have HSO:=Lib.hid hso
   have hlen:=hp.length_eq
   have HT:=Lib.hid (TimesIn.of hsl (hr'.kept hb3) (by omega))
   have HB3:=Lib.hid (HB0.out.trans (hb3.mono HB0.out.size))
   clear hp hso hr' hsl hb3 hlen HSF
   go_wp2
   go_ret
   exact ⟨_,l',rfl,HT.out,by rw [HFF.out];exact HP.out,HSO.out,HB3.out⟩
end Go.Proofs.Ytopeeokjfaampaa
