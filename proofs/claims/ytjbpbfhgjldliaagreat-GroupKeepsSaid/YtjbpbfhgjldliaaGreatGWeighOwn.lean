/- The contracts of the library's Grow of nothing and Concat of two, and of layer 10's own Sum. -/
import Derived.Test.YtjbpbfhgjldliaaGreatGWeighRef
import Derived.Test.YtjbpbfhgjldliaaGreatGWeighFns
import Derived.Test.YtjbpbfhgjldliaaGreatGWeighLib
import Derived.Test.YtjbpbfhgjldliaaGreatGWeighSmall
import Derived.Lib.QuietBelow
import Derived.Lib.AppendZerosOnto
namespace Go.Proofs.YtjbpbfhgjldliaaGreat
open Go Go.RowKit
def CopyEnd (w:World)(row:List ByteArray)(n:Int)(e:Ending)(w':World):Prop :=
 ∃ A p,e=.returned (.agg #[.slice A row.length p,.int .i64 n])∧StrsIn w' (.slice A row.length p) row∧Fresh w.heap.size (.slice A row.length p)∧Below w.heap.size w w'
set_option maxHeartbeats 2000000 in
theorem copied_calls {w:World}{rv:Value}{row:List ByteArray}(n:Int)(h:StrsIn w rv row)(hl:row.length≤1000000):Calls Tryz.prog 83 #[timesA (rv,n)] w (CopyEnd w row n):=by
 obtain ⟨hb,hB⟩:=start w
 obtain ⟨Ar,pr,rfl,_⟩:=one_at h
 have hbx:=Below.alloc hb hB (.cells #[.slice Ar row.length pr,.int .i64 n] 49)
 have hs:StrsIn ((w.alloc (.cells #[.slice Ar row.length pr,.int .i64 n] 49)).alloc (.cells #[.slice none 0 0,.int .i64 0] 49)) (.slice Ar row.length pr) row:=SliceOf.alloc (SliceOf.alloc h _) _
 have hx:=(box_tm w 49 (.slice Ar row.length pr) n).later (Below.alloc (.refl _ _) (Nat.le_refl _) (.cells #[.slice none 0 0,.int .i64 0] 49))
 have hres:Own ((w.alloc (.cells #[.slice Ar row.length pr,.int .i64 n] 49)).alloc (.cells #[.slice none 0 0,.int .i64 0] 49)) w.heap.size 2 (.slice (some ⟨w.heap.size+1,0,none⟩) 1 1) 1 [.slice none 0 0,.int .i64 0]:=by
  have:=Own.lit (B:=w.heap.size) (size:=2) (w.alloc (.cells #[.slice Ar row.length pr,.int .i64 n] 49)) #[.slice none 0 0,.int .i64 0] 49 1 (by simp) (by unfold maxLen;omega) rfl
  simpa using this
 have hb2:=hbx.alloc (by simp) (.cells #[.slice none 0 0,.int .i64 0] 49)
 have hsz:((w.alloc (.cells #[.slice Ar row.length pr,.int .i64 n] 49)).alloc (.cells #[.slice none 0 0,.int .i64 0] 49)).heap.size=w.heap.size+2:=by simp
 have HG:=Lib.hid hl
 clear h hb hB hbx hl
 unfold CopyEnd timesA
 go_enter Tryz.func83,Tryz.ntmps83
 go_wp2
 generalize (w.alloc (.cells #[.slice Ar row.length pr,.int .i64 n] 49)).alloc (.cells #[.slice none 0 0,.int .i64 0] 49)=w2 at *
 obtain ⟨x0,x1,_,_⟩:=hx.cells
 have HX0:=Lib.hid x0
 have HX1:=Lib.hid x1
 have HRES:=Lib.hid hres
 have HB2:=Lib.hid hb2
 have HS:=Lib.hid hs
 have HSZ:=Lib.hid hsz
 have HC:=Lib.hid (clone_row_calls (w:=w2.drew) (SliceOf.drew hs) HG.out)
 unfold GivesOwnRow at HC
 clear hres hb2 hs hsz hx
 go_region_with (go_at_call 28;refine HC.out.mono ?_;rintro e w3 ⟨A9,p9,rfl,hs3,hf3,hq0⟩;have hq:=(Below.drew (.refl w2.heap.size w2)).trans hq0;clear hq0;have z1:=cell_kept HX1.out hq;obtain ⟨_,r1,_,r2,r3⟩:=(HRES.out.later hq).parts;have e0:=r2 0 _ rfl;have e1:=r2 1 _ rfl;have f0:=(r3 0 (by decide)).2;have f1:=(r3 1 (by decide)).2;rw [Nat.zero_add] at e0 e1 f0 f1)
 all_goals
  have hO:=Own.stored (Own.stored (HRES.out.later hq) 0 (by decide) (.slice A9 row.length p9)) 1 (by decide) (.int .i64 n)
  have hb4:=((HB2.out.trans (hq.mono HB2.out.size)).setCell (Nat.le_succ _) (p:=⟨w.heap.size+1,0+0,none⟩) (.slice A9 row.length p9)).setCell (Nat.le_succ _) (p:=⟨w.heap.size+1,0+1,none⟩) (.int .i64 n)
  have hs4:=SliceOf.fresh hs3 hf3 (setCells_grown (w.heap.size+1) [.slice A9 row.length p9,.int .i64 n] 0 w3) (by show w.heap.size+1 < w2.heap.size;rw [HSZ.out];omega)
  have HF:Hid (Fresh w.heap.size (.slice A9 row.length p9)):=hf3.mono HB2.out.size
  simp only [Nat.zero_add] at hO hb4
  simp only [World.setCells,Nat.zero_add] at hs4
  clear hq r1 r2 r3 e0 e1 f0 f1 hs3 hf3 z1
  generalize (w3.setCell ⟨w.heap.size+1,0,none⟩ (.slice A9 row.length p9)).setCell ⟨w.heap.size+1,1,none⟩ (.int .i64 n)=w5 at *
  obtain ⟨_,_,_,e2,_⟩:=hO.parts
  have e0:=e2 0 _ rfl
  have e1:=e2 1 _ rfl
  rw [Nat.zero_add] at e0 e1
  have HS4:=Lib.hid hs4
  clear e2 hO hs4
  go_wp2
  refine ⟨rfl,.agg #[.slice A9 row.length p9,.int .i64 n],?_,_,_,rfl,HS4.out,HF.out,hb4⟩
  simp [results,Tryz.results83,go_sem,e0,e1]
def KeptBut (w:World)(to:Value)(w':World):Prop:=w.heap.size≤w'.heap.size∧∀ k,k < w.heap.size→to.ownBlock≠some k→w'.heap[k]? = w.heap[k]?
theorem KeptBut.refl (w:World)(to:Value):KeptBut w to w:=⟨Nat.le_refl _,fun _ _ _=>rfl⟩
theorem KeptBut.below {w w1 w2:World}{to:Value}(h:KeptBut w to w1)(hb:Below w1.heap.size w1 w2):KeptBut w to w2:=⟨Nat.le_trans h.1 hb.size,fun k hk hn=>(hb.block k (Nat.lt_of_lt_of_le hk h.1)).trans (h.2 k hk hn)⟩
theorem KeptBut.grown {w w1 w2:World}{to x:Value}(h:KeptBut w to w1)(hx:∀ k,x.ownBlock=some k→to.ownBlock=some k∨w.heap.size≤k)(hg:w1.grownBy w2 x.ownBlock):KeptBut w to w2 :=
 ⟨Nat.le_trans h.1 hg.size,fun k hk hn=>(hg.block k (Nat.lt_of_lt_of_le hk h.1) (fun e=>by
  rcases hx k e.symm with e2|e2
  ·exact hn e2
  ·omega)).trans (h.2 k hk hn)⟩
def FromOr (w:World)(to x:Value):Prop:=∀ k,x.ownBlock=some k→to.ownBlock=some k∨w.heap.size≤k
theorem FromOr.next {w w1:World}{to x x':Value}(h:FromOr w to x)(hs:w.heap.size≤w1.heap.size)(hx:∀ k,x'.ownBlock=some k→x.ownBlock=some k∨w1.heap.size≤k):FromOr w to x':=fun k hk=>by
 rcases hx k hk with e|e
 ·exact h k e
 ·right;omega
structure OnceOf (l o:List Tm):Prop where
 cnt:∀ r,cntW o r=cntW l r
 rise:o.Pairwise (fun a b=>cmpL a.1 b.1 = -1)
 len:o.length≤l.length
 wt:wtW o≤wtW l
 last:∀ h:0 < l.length,∃ h2:0 < o.length,(o[o.length-1]'(by omega)).1=(l[l.length-1]'(by omega)).1
 mem:∀ t∈o,∃ u∈l,u.1=t.1
theorem cnt_one (x:Tm)(r:List ByteArray):cntW [x] r=if x.1=r then x.2 else 0:=by simp [cntW]
theorem wt_one (x:Tm):wtW [x]=x.2.natAbs:=by simp [wtW]
theorem OnceOf.nil:OnceOf [] []:=⟨fun _=>rfl,List.Pairwise.nil,Nat.le_refl _,Nat.le_refl _,fun h=>absurd h (by simp),fun t h=>absurd h (by simp)⟩
theorem OnceOf.last_add {l o:List Tm}{x y:Tm}(e:y.1=x.1):∀ h:0 < (l++[x]).length,∃ h2:0 < (o++[y]).length,((o++[y])[(o++[y]).length-1]'(by omega)).1=((l++[x])[(l++[x]).length-1]'(by omega)).1:=by
 intro h
 refine ⟨by simp,?_⟩
 simp only [List.length_append,List.length_cons,List.length_nil]
 rw [List.getElem_append_right (by omega),List.getElem_append_right (by omega)]
 simpa using e
theorem OnceOf.more {l o:List Tm}(h:OnceOf l o)(x:Tm)(hc:∀ t∈o,cmpL t.1 x.1 = -1):OnceOf (l++[x]) (o++[x]) where
 cnt r:=by rw [cntW_append,cntW_append,h.cnt r]
 rise:=List.pairwise_append.2 ⟨h.rise,List.pairwise_singleton _ _,fun a ha b hb=>by rw [List.mem_singleton.1 hb];exact hc a ha⟩
 len:=by have:=h.len;simp only [List.length_append,List.length_cons,List.length_nil];omega
 wt:=by have:=h.wt;rw [wtW_append,wtW_append];omega
 last:=OnceOf.last_add rfl
 mem t ht:=by
  rcases List.mem_append.1 ht with ht|ht
  ·obtain ⟨u,hu,e⟩:=h.mem t ht
   exact ⟨u,List.mem_append_left _ hu,e⟩
  ·exact ⟨x,List.mem_append_right _ (List.mem_singleton.2 rfl),by rw [List.mem_singleton.1 ht]⟩
theorem last_split {o:List Tm}{j:Nat}(h:o.length=j+1):o=o.take j++[o[j]'(by omega)]:=by
 rw [←take_add o j (by omega),←h,List.take_length]
theorem set_last {o:List Tm}{j:Nat}(h:o.length=j+1)(y:Tm):o.set j y=o.take j++[y]:=by
 rw [List.set_eq_take_append_cons_drop,if_pos (by omega),List.drop_eq_nil_of_le (by omega)]
theorem OnceOf.same_ {l o:List Tm}{t:Tm}(h:OnceOf l (o++[t]))(x:Tm)(he:t.1=x.1):OnceOf (l++[x]) (o++[(t.1,t.2+x.2)]):=by
 have hc:=h.cnt
 have hr:=h.rise
 have hw:=h.wt
 have hm:=h.mem
 have hn:=h.len
 rw [List.pairwise_append] at hr
 rw [wtW_append,wt_one] at hw
 rw [List.length_append] at hn
 refine ⟨fun r=>?_,List.pairwise_append.2 ⟨hr.1,List.pairwise_singleton _ _,fun a ha b hb=>?_⟩,?_,?_,OnceOf.last_add he,fun u hu=>?_⟩
 ·have:=hc r
  rw [cntW_append,cnt_one] at this
  rw [cntW_append,cntW_append,cnt_one,cnt_one,←this,←he]
  dsimp only
  split <;> omega
 ·rw [List.mem_singleton.1 hb]
  exact hr.2.2 a ha t (List.mem_singleton.2 rfl)
 ·simp only [List.length_append,List.length_cons,List.length_nil] at hn ⊢;omega
 ·rw [wtW_append,wtW_append,wt_one,wt_one];dsimp only;omega
 ·rcases List.mem_append.1 hu with hu|hu
  ·obtain ⟨y,hy,e⟩:=hm u (List.mem_append_left _ hu)
   exact ⟨y,List.mem_append_left _ hy,e⟩
  ·rw [List.mem_singleton.1 hu]
   exact ⟨x,List.mem_append_right _ (List.mem_singleton.2 rfl),he.symm⟩
theorem OnceOf.same {l o:List Tm}(h:OnceOf l o)(x:Tm)(j:Nat)(hj:o.length=j+1)(he:(o[j]'(by omega)).1=x.1):OnceOf (l++[x]) (o.set j ((o[j]'(by omega)).1,(o[j]'(by omega)).2+x.2)):=by
 rw [set_last hj]
 refine OnceOf.same_ ?_ x he
 rw [←last_split hj];exact h
def SortedW (l:List Tm):Prop:=l.Pairwise (fun a b=>¬cmpL b.1 a.1 = -1)
theorem OnceOf.ahead {l o:List Tm}{k j:Nat}(hs:SortedW l)(hk:k < l.length)(h:OnceOf (l.take k) o)(hj:o.length=j+1)(hne:(o[j]'(by omega)).1≠l[k].1):∀ t∈o,cmpL t.1 l[k].1 = -1:=by
 have hlt:(l.take k).length=k:=by rw [List.length_take];omega
 have hk0:0 < k:=by have:=h.len;omega
 obtain ⟨h2,e⟩:=h.last (by omega)
 have ej:o.length-1=j:=by omega
 have e':(o[j]'(by omega)).1=(l[k-1]'(by omega)).1:=by
  have e1:(o[o.length-1]'(by omega))=o[j]'(by omega):=by congr 1
  rw [←e1,e]
  congr 1
  rw [List.getElem_take]
  congr 1;omega
 have h3:=List.pairwise_iff_getElem.1 hs (k-1) k (by omega) hk (by omega)
 rw [←e'] at h3
 have h4:cmpL (o[j]'(by omega)).1 l[k].1 = -1:=cmpL_back h3 (fun e=>hne e.symm)
 intro t ht
 have hs2:=last_split hj
 have hr:=h.rise
 rw [hs2] at hr ht
 rw [List.pairwise_append] at hr
 rcases List.mem_append.1 ht with ht|ht
 ·exact cmpL_chain _ _ _ (hr.2.2 t ht _ (List.mem_singleton.2 rfl)) h4
 ·rw [List.mem_singleton.1 ht];exact h4
theorem fresh_snoc {B:Nat}{tv:List (Value×Int)}{u:Value}{n:Int}(h:∀ t∈tv,Fresh B t.1)(hu:Fresh B u):∀ t∈tv++[(u,n)],Fresh B t.1:=fun t ht=>by
 rcases List.mem_append.1 ht with ht|ht
 ·exact h t ht
 ·rw [List.mem_singleton.1 ht];exact hu
def OnceEnd (w:World)(l:List Tm)(e:Ending)(w':World):Prop:=∃ u tv o,e=.returned u∧OnceOf l o∧TimesOwn w' w.heap.size u tv o∧(∀ t∈tv,Fresh w.heap.size t.1)∧Below w.heap.size w w'
set_option maxHeartbeats 4000000 in
set_option maxRecDepth 100000 in
theorem once_calls {w:World}{v:Value}{l:List Tm}(h:TimesIn w v l)(hso:SortedW l)(hl:l.length≤1000000)(hw:wtW l≤4611686018427387904)(hS:ShortR l):Calls Tryz.prog 63 #[v] w (OnceEnd w l):=by
 obtain ⟨i0,hi,hz0,hz1,hz2⟩:=info_parts Tryz.infoM49
 obtain ⟨hb,hB⟩:=start w
 obtain ⟨tv,A,cap,rfl,_,hat⟩:=times_at h
 have HAT:=Lib.hid hat
 have HSH:=Lib.hid hS
 have HSO:=Lib.hid hso
 have HWT:Hid (∀ k,wtW (l.take k)≤wtW l):=by
  intro k
  have:=wtW_append (l.take k) (l.drop k)
  rw [List.take_append_drop] at this;omega
 clear h hat hS hso
 unfold OnceEnd
 go_enter Tryz.func63,Tryz.ntmps63
 go_wp2
 go_loopw [3,5,6,9] (fun x _ _ i wr=>∃ k:Nat,k≤l.length∧i=.int .i64 k∧Below w.heap.size w wr∧∃ tvr o,Hid (OnceOf (l.take k) o)∧Hid (TimesOwn wr w.heap.size x tvr o)∧Hid (∀ t∈tvr,Fresh w.heap.size t.1)) (fun _ _ _ i _=>l.length-(intOf i).toNat)
 case atStart=>exact ⟨0,Nat.zero_le _,rfl,hb,[],[],OnceOf.nil,TimesOwn.nil_ _ _,fun _ h=>absurd h (by simp)⟩
 case round =>
  clear hb hB
  obtain ⟨k,hk,rfl,hb,tvr,o,HO,HT,HFR⟩:=hrel
  have hB:=hb.size
  by_cases hlt:k < l.length
  ·obtain ⟨b,off,rfl,hbl,hc⟩:=HAT.out k hlt
   obtain ⟨rv,hs,_,c1,c2⟩:=hc k hlt
   have x1:=(hb.cell (p:=⟨b,off+k*2,none⟩) hbl).trans c1
   have x2:=(hb.cell (p:=⟨b,off+k*2+1,none⟩) hbl).trans c2
   have HTK:=Lib.hid (take_add l k hlt)
   have hsh:=HSH.out l[k] (List.getElem_mem hlt)
   have hs1:=StrsIn.kept hs hb
   obtain ⟨Ar,pr,rfl⟩:∃ Ar pr,rv=.slice Ar l[k].1.length pr:=by obtain ⟨Ar,pr,e,_⟩:=one_at hs;exact ⟨Ar,pr,e⟩
   have hlo:=HO.out.len
   rw [List.length_take] at hlo
   have hwo:=HO.out.wt
   have hwk:=wt_take l k hlt
   have hwx:=wt_mem (List.getElem_mem hlt)
   have HAH:=Lib.hid (fun j=>OnceOf.ahead (j:=j) HSO.out hlt HO.out)
   obtain ⟨A9,p9,rfl⟩:=HT.out.slice
   -- the box
   have hbx:=box_tm wr 49 (.slice Ar l[k].1.length pr) l[k].2
   have hq4:=Below.alloc (.refl _ wr) (Nat.le_refl _) (.cells #[.slice Ar l[k].1.length pr,.int .i64 l[k].2] 49)
   have HT4:=Lib.hid (HT.out.later hq4)
   have hs4:=StrsIn.kept hs1 hq4
   have hb4:=hb.trans (hq4.mono hB)
   have hsz4:(wr.alloc (.cells #[.slice Ar l[k].1.length pr,.int .i64 l[k].2] 49)).heap.size=wr.heap.size+1:=by simp
   clear hc c1 c2 hs hs1
   generalize l[k]=t at *
   obtain ⟨row,n⟩:=t
   dsimp only at *
   rcases Nat.eq_zero_or_pos o.length with h0|h0
   ·have ho:o=[]:=List.eq_nil_of_length_eq_zero h0
    subst ho
    have HM:=Lib.hid (HO.out.more (row,n) (fun t ht=>absurd ht (by simp)))
    clear h0 hlo hwo HAH
    have hM:([]:List Tm).length=0:=rfl
    have HOL:=Lib.hid hM
    have HBX:=Lib.hid hbx
    clear hbx
    go_wp2
    refine wp_region_quiet_below (by kernel_rfl) (by kernel_rfl) ?_
    repeat (first|go_big_quiet_skip|(go_big_quiet_want;go_big_quiet_op;first|go_big_quiet_on))
    refine wpQuiet_nil ?_
    rintro w5 ⟨pd,hw5⟩
    have hq5:Below (wr.alloc (.cells #[.slice Ar row.length pr,.int .i64 n] 49)).heap.size (wr.alloc (.cells #[.slice Ar row.length pr,.int .i64 n] 49)) w5:=hw5▸below_regrown _ pd.d pd.os
    clear hw5
    have HBX5:=Lib.hid (HBX.out.later hq5)
    obtain ⟨z0,z1,_,_⟩:=HBX5.out.cells
    have HT5:=Lib.hid (HT4.out.later hq5)
    have hs5:=StrsIn.kept hs4 hq5
    have hb5:=hb4.trans (hq5.mono hb4.size)
    have hcp:=copied_calls n hs5 hsh
    unfold timesA CopyEnd at hcp
    have HCP:=Lib.hid hcp
    have HLT5:=Lib.hid (show ∀ q,(Value.slice A9 0 p9).ownBlock=some q→q < w5.heap.size from fun q hq=>(HT5.out.own.lt q hq).2)
    have HB5:=Lib.hid hb5
    clear HBX HBX5 hq4 HT4 hs4 hb4 hq5 hs5 hcp hb hB x1 x2 HT hb5
    go_wp2_with fail
    refine HCP.out.mono ?_
    rintro e w6 ⟨A5,p5,rfl,hs6,hf6,hq6⟩
    have HOFF:=Lib.hid (RowOff.of_fresh (v:=.slice A9 0 p9) hf6 HLT5.out)
    have HFN:=Lib.hid (hf6.mono HB5.out.size)
    have HT7:=Lib.hid ((HT5.out.later hq6).later (Below.alloc (.refl _ w6) (Nat.le_refl _) (.cells #[.slice A5 row.length p5,.int .i64 n] 49)))
    have hs7:StrsIn (w6.alloc (.cells #[.slice A5 row.length p5,.int .i64 n] 49)) (.slice A5 row.length p5) row:=SliceOf.alloc hs6 _
    have hb6:=HB5.out.trans (hq6.mono HB5.out.size)
    have hb7:=hb6.alloc hb6.size (.cells #[.slice A5 row.length p5,.int .i64 n] 49)
    have HO7:=Lib.hid HT7.out.own
    rw [hM] at HO7
    have HS7:=Lib.hid hs7
    have HB7:=Lib.hid hb7
    have HLIT:=Lib.hid (lit_tm w6 49 (.slice A5 row.length p5) n)
    have H1:=Lib.hid (one_tm hs6 n)
    have HLM:=Lib.hid (show 0≤1000000 by omega)
    clear hs6 hf6 hq6 hs7 hb6 hb7 z0 z1 HCP hM
    go_wp2_with (at_builtin;refine wpList_append_src rfl (.tmp 37) (.tmp 40) 30 rfl 49 i0 (.agg #[.slice none 0 0,.int .i64 0]) 2 32 Tryz.underlying30 hi hz0 hz1 hz2 rfl (by decide) (B:=w.heap.size) (.slice A9 0 p9) 0 (timesV tvr) rfl HO7.out (.slice (some ⟨w6.heap.size,0,none⟩) 1 1) 1 [.slice A5 row.length p5,.int .i64 n] rfl HLIT.out H1.out (by have:=HLM.out;unfold maxLen;omega) (by have:=HLM.out;omega) HB7.out.size ?_)
    intro v8 w8 hO8 hg8 ha8
    have HT8:=Lib.hid (HT7.out.add HS7.out HOFF.out hg8 (by simpa using ha8) hO8 (by simp [HOL.out]))
    have hb8:=HB7.out.grown hg8 HB7.out.size (fun q hq=>(HT7.out.own.lt q hq).1)
    clear hO8 hg8 ha8
    go_wp2
    go_roundw
    case rel=>exact ⟨k+1,by omega,by go_num,hb8,_,_,by rw [HTK.out];exact HM.out,HT8.out,fresh_snoc HFR.out HFN.out⟩
    case measure=>simp [intOf];omega
   ·obtain ⟨j,hj⟩:∃ j,o.length=j+1:=⟨o.length-1,by omega⟩
    obtain ⟨g,off9,cap9,e9,hc9⟩:=HT.out.some_ (by omega)
    rw [hj] at e9 hc9
    rw [hj] at HT HT4
    obtain ⟨rfl,rfl⟩:A9=some ⟨g,off9,none⟩∧p9=cap9:=by injection e9 with e1 _ e2;exact ⟨e1,e2⟩
    clear e9
    obtain ⟨rv0,hs0,_,hoff0,y1,y2,_,f2,hBg,hgl⟩:=HT4.out.at_ j (by omega)
    have hcq:=fun (W:World) (hW:Below (wr.alloc (.cells #[.slice Ar row.length pr,.int .i64 n] 49)).heap.size (wr.alloc (.cells #[.slice Ar row.length pr,.int .i64 n] 49)) W)=>wcompare_calls (o[j]'(by omega)).2 n (StrsIn.kept hs0 hW) (StrsIn.kept hs4 hW)
    obtain ⟨Ar0,pr0,rfl⟩:∃ Ar0 pr0,rv0=.slice Ar0 (o[j]'(by omega)).1.length pr0:=by obtain ⟨Ar0,pr0,e,_⟩:=one_at hs0;exact ⟨Ar0,pr0,e⟩
    unfold timesA at hcq
    obtain ⟨z0,z1,_,_⟩:=hbx.cells
    have hzero:=cmpL_zero (o[j]'(by omega)).1 row
    have hwo0:=wt_mem (List.getElem_mem (show j < o.length by omega))
    have HSAME:=Lib.hid (HO.out.same (row,n) j hj)
    have HMORE:=Lib.hid (HO.out.more (row,n))
    have HAHJ:=Lib.hid (HAH.out j hj)
    clear HAH hs0 h0 hoff0
    have HCQ:=Lib.hid hcq
    clear hcq
    have HY2:=Lib.hid y2
    have HZ0:=Lib.hid z0
    have HZ1:=Lib.hid z1
    have HBX:=Lib.hid hbx
    clear hbx
    generalize hoj:o[j]'(by omega)=t0 at *
    obtain ⟨row0,n0⟩:=t0
    dsimp only at *
    have HOJ:=Lib.hid hoj
    clear hoj
    have q1:IntKind.i64.wrap (((j+1:Nat):Int)-1)=(j:Int):=by rw [show ((j+1:Nat):Int)-1=(j:Int) by omega];exact IntWalk.i64_in _ (by omega)
    have q1':IntKind.i64.wrap ((j:Int)+1-1)=(j:Int):=by rw [show (j:Int)+1-1=(j:Int) by omega];exact IntWalk.i64_in _ (by omega)
    have d0:decide (0≤(j:Int))=true:=by rw [decide_eq_true_eq];omega
    have hM:=hj
    have HOL:=Lib.hid hM
    by_cases he:row0=row
    ·have HSM:=Lib.hid (HSAME.out he)
     have d1:(cmpL row0 row==0)=true:=by rw [beq_iff_eq];exact hzero.2 he
     clear HSAME HMORE HAHJ he hzero
     generalize cmpL row0 row=z at *
     have a1:=fun d os=>cell_regrown y1 d os
     have a2:=fun d os=>cell_regrown y2 d os
     have a3:=fun d os=>cell_regrown z0 d os
     have a4:=fun d os=>cell_regrown z1 d os
     go_wp2
     refine wp_region_quiet_below (by kernel_rfl) (by kernel_rfl) ?_
     repeat (first|go_big_quiet_skip|(go_big_quiet_want;go_big_quiet_op;first|go_big_quiet_on|(apply Exists.intro;refine ⟨fun _=>?_,?_⟩;(first|(go_at_call 61;exact Calls.regrown_of (HCQ.out _ (below_regrown _ _ _))));go_big_quiet_on)))
     refine wpQuiet_nil ?_
     rintro w5 ⟨pd,hw5⟩
     have hq5:Below (wr.alloc (.cells #[.slice Ar row.length pr,.int .i64 n] 49)).heap.size (wr.alloc (.cells #[.slice Ar row.length pr,.int .i64 n] 49)) w5:=hw5▸below_regrown _ pd.d pd.os
     clear hw5
     have HBX5:=Lib.hid (HBX.out.later hq5)
     obtain ⟨z0,z1,_,_⟩:=HBX5.out.cells
     have HT5:=Lib.hid (HT4.out.later hq5)
     have hs5:=StrsIn.kept hs4 hq5
     have hb5:=hb4.trans (hq5.mono hb4.size)
     clear a1 a2 a3 a4 y1 y2
     have y2':=cell_kept HY2.out hq5
     have f2':=(HT5.out.at_ j (by omega))
     obtain ⟨_,_,_,_,_,_,_,f2',_,_⟩:=f2'
     obtain ⟨tv6,hT6,hf6⟩:=HT5.out.counted j (by omega) (n0+n)
     rw [HOJ.out] at hT6
     have HT6:=Lib.hid hT6
     have HF6:Hid (∀ t∈tv6,Fresh w.heap.size t.1):=fun t ht=>by
      obtain ⟨u,hu,e⟩:=hf6 t ht
      rw [e];exact HFR.out u hu
     clear hf6
     have hb6:=hb5.setCell hBg (p:=⟨g,off9+j*2+1,none⟩) (.int .i64 (n0+n))
     have HB6:=Lib.hid hb6
     have qn:IntKind.i64.wrap (n0+n)=n0+n:=IntWalk.i64_in _ (by omega)
     have HSZ:=Lib.hid hM
     clear HBX HBX5 hq4 HT4 hs4 hb4 hq5 hs5 hb hB x1 x2 HT hb5 hb6 hT6 HT5 hM
     go_wp2
     go_region
     go_wp2
     go_roundw
     case rel=>exact ⟨k+1,by omega,by go_num,HB6.out.drew,_,_,by rw [HTK.out];exact HSM.out,HT6.out.later (Below.drew (.refl _ _)),HF6.out⟩
     case measure=>simp [intOf];omega
    ·have HM:=Lib.hid (HMORE.out (HAHJ.out he))
     have d1:(cmpL row0 row==0)=false:=by rw [beq_eq_false_iff_ne];exact fun e=>he (hzero.1 e)
     clear HSAME HMORE HAHJ he hzero
     generalize cmpL row0 row=z at *
     have a1:=fun d os=>cell_regrown y1 d os
     have a2:=fun d os=>cell_regrown y2 d os
     have a3:=fun d os=>cell_regrown z0 d os
     have a4:=fun d os=>cell_regrown z1 d os
     go_wp2
     refine wp_region_quiet_below (by kernel_rfl) (by kernel_rfl) ?_
     repeat (first|go_big_quiet_skip|(go_big_quiet_want;go_big_quiet_op;first|go_big_quiet_on|(apply Exists.intro;refine ⟨fun _=>?_,?_⟩;(first|(go_at_call 61;exact Calls.regrown_of (HCQ.out _ (below_regrown _ _ _))));go_big_quiet_on)))
     refine wpQuiet_nil ?_
     rintro w5 ⟨pd,hw5⟩
     have hq5:Below (wr.alloc (.cells #[.slice Ar row.length pr,.int .i64 n] 49)).heap.size (wr.alloc (.cells #[.slice Ar row.length pr,.int .i64 n] 49)) w5:=hw5▸below_regrown _ pd.d pd.os
     clear hw5
     have HBX5:=Lib.hid (HBX.out.later hq5)
     obtain ⟨z0,z1,_,_⟩:=HBX5.out.cells
     have HT5:=Lib.hid (HT4.out.later hq5)
     have hs5:=StrsIn.kept hs4 hq5
     have hb5:=hb4.trans (hq5.mono hb4.size)
     clear a1 a2 a3 a4 y1 y2 f2
     have hcp:=copied_calls n hs5 hsh
     unfold timesA CopyEnd at hcp
     have HCP:=Lib.hid hcp
     have HLT5:=Lib.hid (show ∀ q,(Value.slice (some ⟨g,off9,none⟩) (j+1) p9).ownBlock=some q→q < w5.heap.size from fun q hq=>(HT5.out.own.lt q hq).2)
     have HB5:=Lib.hid hb5
     clear HBX HBX5 hq4 HT4 hs4 hb4 hq5 hs5 hcp hb hB x1 x2 HT hb5
     go_wp2_with fail
     refine HCP.out.mono ?_
     rintro e w6 ⟨A5,p5,rfl,hs6,hf6,hq6⟩
     have HOFF:=Lib.hid (RowOff.of_fresh (v:=.slice (some ⟨g,off9,none⟩) (j+1) p9) hf6 HLT5.out)
     have HFN:=Lib.hid (hf6.mono HB5.out.size)
     have HT7:=Lib.hid ((HT5.out.later hq6).later (Below.alloc (.refl _ w6) (Nat.le_refl _) (.cells #[.slice A5 row.length p5,.int .i64 n] 49)))
     have hs7:StrsIn (w6.alloc (.cells #[.slice A5 row.length p5,.int .i64 n] 49)) (.slice A5 row.length p5) row:=SliceOf.alloc hs6 _
     have hb6:=HB5.out.trans (hq6.mono HB5.out.size)
     have hb7:=hb6.alloc hb6.size (.cells #[.slice A5 row.length p5,.int .i64 n] 49)
     have HO7:=Lib.hid HT7.out.own
     rw [hM] at HO7
     have HS7:=Lib.hid hs7
     have HB7:=Lib.hid hb7
     have HLIT:=Lib.hid (lit_tm w6 49 (.slice A5 row.length p5) n)
     have H1:=Lib.hid (one_tm hs6 n)
     have HLM:=Lib.hid (show (j+1)≤1000000 by omega)
     clear hs6 hf6 hq6 hs7 hb6 hb7 z0 z1 HCP hM
     go_wp2_with (at_builtin;refine wpList_append_src rfl (.tmp 37) (.tmp 40) 30 rfl 49 i0 (.agg #[.slice none 0 0,.int .i64 0]) 2 32 Tryz.underlying30 hi hz0 hz1 hz2 rfl (by decide) (B:=w.heap.size) (.slice (some ⟨g,off9,none⟩) (j+1) p9) (j+1) (timesV tvr) rfl HO7.out (.slice (some ⟨w6.heap.size,0,none⟩) 1 1) 1 [.slice A5 row.length p5,.int .i64 n] rfl HLIT.out H1.out (by have:=HLM.out;unfold maxLen;omega) (by have:=HLM.out;omega) HB7.out.size ?_)
     intro v8 w8 hO8 hg8 ha8
     have HT8:=Lib.hid (HT7.out.add HS7.out HOFF.out hg8 (by simpa using ha8) hO8 (by simp [HOL.out]))
     have hb8:=HB7.out.grown hg8 HB7.out.size (fun q hq=>(HT7.out.own.lt q hq).1)
     clear hO8 hg8 ha8
     go_wp2
     go_roundw
     case rel=>exact ⟨k+1,by omega,by go_num,hb8,_,_,by rw [HTK.out];exact HM.out,HT8.out,fresh_snoc HFR.out HFN.out⟩
     case measure=>simp [intOf];omega
  ·obtain rfl:k=l.length:=by omega
   rw [List.take_length] at HO
   obtain ⟨A9,p9,rfl⟩:=HT.out.slice
   go_wp2
   go_ret
   exact ⟨_,_,_,rfl,HO.out,HT.out,HFR.out,hb⟩
theorem cnt_keep (l:List Tm)(r:List ByteArray):cntW (keepW l) r=cntW l r:=by
 induction l with
 | nil=>rfl
 | cons t l ih =>
  unfold keepW at ih ⊢
  rw [List.filter_cons]
  split
  ·simp only [cntW];rw [ih]
  ·rename_i h
   have e:t.2=0:=by simpa using h
   simp only [cntW];rw [ih,e];split <;> omega
theorem keep_right {o:List Tm}(h:o.Pairwise (fun a b=>cmpL a.1 b.1 = -1)):RightP (keepW o):=by
 refine ⟨h.filter _,fun t ht=>?_⟩
 have:=(List.mem_filter.1 ht).2
 intro e
 rw [e] at this
 exact absurd this (by decide)
theorem cnt_perm {a b:List Tm}(h:a.Perm b)(r:List ByteArray):cntW a r=cntW b r:=by
 induction h with
 | nil=>rfl
 | cons x _ ih=>simp only [cntW];rw [ih]
 | swap x y l=>simp only [cntW];omega
 | trans _ _ ih1 ih2=>rw [ih1,ih2]
theorem wt_perm {a b:List Tm}(h:a.Perm b):wtW a=wtW b:=by
 induction h with
 | nil=>rfl
 | cons x _ ih=>simp only [wtW];rw [ih]
 | swap x y l=>simp only [wtW];omega
 | trans _ _ ih1 ih2=>rw [ih1,ih2]
theorem once_of {l l' o:List Tm}(hp:l'.Perm l)(h:OnceOf l' o):keepW o=ofW l :=
 right_ext (keep_right h.rise) (of_right l) fun r=>by rw [cnt_keep,h.cnt,cnt_of,cnt_perm hp]
def GivesTimesF (Q:Value→Prop)(P:Program)(f:FuncId)(args:Array Value)(w:World)(l:List Tm):Prop:=Calls P f args w fun e w'=>∃ v,e=.returned v∧TimesQ Q w' v l∧Below w.heap.size w w'∧Fresh w.heap.size v
theorem GivesTimesF.q {Q:Value→Prop}{P:Program}{f:FuncId}{args:Array Value}{w:World}{l:List Tm}(h:GivesTimesF Q P f args w l):GivesTimesQ Q P f args w l:=Calls.mono h fun _ _ ⟨v,he,ht,hb,_⟩=>⟨v,he,ht,hb⟩
set_option maxHeartbeats 1000000 in
theorem weigh_of_f (Q:Value→Prop){w:World}{v:Value}{l:List Tm}(hQ:∀ u,Fresh w.heap.size u→Q u)(h:TimesIn w v l)(hl:l.length≤1000000)(hw:wtW l≤4611686018427387904)(hS:ShortR l):GivesTimesF Q Tryz.prog 46 #[v] w (ofW l):=by
 obtain ⟨tv,hsl,hrows⟩:=h
 have hcl:=clone_times_calls hsl hrows.one_cell hl
 obtain ⟨A,cap,rfl,_⟩:=hsl.at_
 have HR:=Lib.hid hrows
 have HSH:=Lib.hid hS
 have HQ:=Lib.hid hQ
 clear hsl hrows hS hQ
 unfold GivesTimesF
 go_enter Tryz.func46,Tryz.ntmps46
 go_wp2_with fail
 refine hcl.mono ?_
 clear hcl
 rintro e w1 ⟨v1,rfl,hO1,hb1⟩
 have hso:=sort_calls HR.out hO1 hb1 hl
 obtain ⟨A1,p1,rfl⟩:=hO1.len
 clear hO1
 go_wp2_with fail
 refine hso.mono ?_
 clear hso
 rintro e w2 ⟨rfl,tv2,l2,hp,hpw,hr2,hs2,hb2⟩
 have hl2:l2.length=l.length:=hp.length_eq
 have hT2:TimesIn w2 (.slice A1 l.length p1) l2:=TimesIn.of hs2 (hr2.kept hb2) hl2.symm
 have hon:=once_calls hT2 hpw (by omega) (by rw [wt_perm hp];exact hw) (fun t ht=>HSH.out t (hp.mem_iff.1 ht))
 have HP:=Lib.hid hp
 clear hp hpw hr2 hs2 hT2 hl2
 go_wp2_with fail
 refine hon.mono ?_
 clear hon
 rintro e w3 ⟨v3,tv3,o,rfl,ho,hT3,hf3,hb3⟩
 have hde:=delete_calls Q hT3 (fun t ht=>HQ.out _ ((hf3 t ht).mono hb2.size)) hb3.size
 clear hf3
 obtain ⟨A3,p3,rfl⟩:=hT3.slice
 have HE:=Lib.hid (once_of HP.out ho)
 have hb03:=hb2.trans (hb3.mono hb2.size)
 have hsz:=hb2.size
 clear hT3 ho
 go_wp2_with fail
 refine hde.mono ?_
 clear hde
 rintro e w4 ⟨v4,rfl,hT4,hb4,hF4⟩
 rw [HE.out] at hT4
 have hb:=hb03.trans (hb4.mono hsz)
 obtain ⟨A4,p4,rfl⟩:=times_slice hT4.times
 have HT:=Lib.hid hT4
 have HF:=Lib.hid (hF4.mono hsz)
 clear hT4 hF4 hb4 hb03 hb3 hb2 hb1 hsz
 go_wp2
 go_ret
 exact ⟨_,rfl,HT.out,hb,HF.out⟩
set_option maxHeartbeats 2000000 in
set_option maxRecDepth 100000 in
theorem grow_nil (w:World)(n:Nat)(hn:n≤2000000):Calls Tryz.prog 65 #[.slice none 0 0,.int .i64 n] w fun e w'=>∃ v,e=.returned v∧Own w' w.heap.size 2 v 0 []∧Below w.heap.size w w':=by
 obtain ⟨i0,hi,hz0,hz1,hz2⟩:=info_parts Tryz.infoM49
 obtain ⟨hb,hB⟩:=start w
 rcases Nat.eq_zero_or_pos n with h0|h0
 ·subst h0
  go_enter Tryz.func65,Tryz.ntmps65
  go_wp2
  go_ret
  exact ⟨_,rfl,Own.nil_ _ _ _,hb⟩
 ·have h:=fun ty=>Lib.run_append_grow_zeros (P:=Tryz.prog) w 30 3 ty 49 i0 (.agg #[.slice none 0 0,.int .i64 0]) .i64 .i64 Tryz.underlying30 Tryz.underlying3 hi hz0 none 0 0 [] (run_firstCells_none _ _ _ _ _) n h0 (by omega) (by omega) (by omega) (by rw [hz2];omega) (growslice_fits (by omega) (by rw [hz2];omega))
  simp only [Nat.zero_add] at h
  have hG:=grownCap_ge w n 0 49
  have hG2:=grownCap_le_maxLen w n 0 49 (by unfold maxLen;omega)
  generalize grownCap w n 0 49=G at *
  have hO:Own (w.drew.alloc (.cells ((([]:List Value).toArray++Builtin.zeroCells (Value.agg #[.slice none 0 0,.int .i64 0]).cells n)++Builtin.zeroCells (Value.agg #[.slice none 0 0,.int .i64 0]).cells (G-n)) 49)) w.heap.size 2 (.slice (some ⟨w.heap.size,0,none⟩) 0 G) 0 [] :=
   Own.of_row (World.ownsRow_made w.drew _ G (Nat.le_refl _) hG2 (by simp [Builtin.zeroCells,Value.cells];omega)) (Nat.zero_le _) (Nat.le_refl _)
  have hb1:Below w.heap.size w (w.drew.alloc (.cells ((([]:List Value).toArray++Builtin.zeroCells (Value.agg #[.slice none 0 0,.int .i64 0]).cells n)++Builtin.zeroCells (Value.agg #[.slice none 0 0,.int .i64 0]).cells (G-n)) 49)):=hb.drew.alloc (Nat.le_refl _) _
  generalize w.drew.alloc (.cells ((([]:List Value).toArray++Builtin.zeroCells (Value.agg #[.slice none 0 0,.int .i64 0]).cells n)++Builtin.zeroCells (Value.agg #[.slice none 0 0,.int .i64 0]).cells (G-n)) 49)=w1 at *
  have HO:=Lib.hid hO
  clear hO hG2
  have d1:decide ((n:Int) < 0)=false:=by rw [decide_eq_false_iff_not];omega
  have d2:decide (0 < (n:Int))=true:=by rw [decide_eq_true_eq];omega
  have q1:IntKind.i64.wrap (n:Int)=(n:Int):=IntWalk.i64_in _ (by omega)
  go_enter Tryz.func65,Tryz.ntmps65
  go_wp2_with (at_builtin;refine Lib.wpList_append_run _ rfl _ _ _ _ rfl _ _ rfl rfl _ _ (h _) ?_)
  all_goals
   go_ret
   exact ⟨_,rfl,HO.out,hb1⟩
set_option maxHeartbeats 2000000 in
set_option maxRecDepth 100000 in
theorem concat_calls {w:World}{g:Nat}{va vb:Value}{a b:List Tm}(_hg:g < w.heap.size)(h0:w.cell? ⟨g,0,none⟩=some va)(h1:w.cell? ⟨g,1,none⟩=some vb)(ha:TimesIn w va a)(hb':TimesIn w vb b)(hl:a.length+b.length≤1000000) :
  GivesTimes Tryz.prog 47 #[.slice (some ⟨g,0,none⟩) 2 2] w (a++b):=by
 obtain ⟨i0,hi,hz0,hz1,hz2⟩:=info_parts Tryz.infoM49
 obtain ⟨hb,hB⟩:=start w
 obtain ⟨tva,hsa,hra⟩:=ha
 obtain ⟨tvb,hsb,hrb⟩:=hb'
 have ka:=hra.one_cell
 have kb:=hrb.one_cell
 obtain ⟨Aa,ca,rfl,_⟩:=hsa.at_
 obtain ⟨Ab,cb,rfl,_⟩:=hsb.at_
 have HG:=Lib.hid (grow_nil w (a.length+b.length) (by omega))
 have H0:=Lib.hid h0
 have H1:=Lib.hid h1
 have HSA:=Lib.hid hsa
 have HSB:=Lib.hid hsb
 have HRA:=Lib.hid hra
 have HRB:=Lib.hid hrb
 have KA:=Lib.hid ka
 have KB:=Lib.hid kb
 clear hsa hsb hra hrb ka kb
 unfold GivesTimes
 go_enter Tryz.func47,Tryz.ntmps47
 go_wp2
 rw [Int.natCast_add] at HG
 have q1:IntKind.i64.wrap (a.length:Int)=(a.length:Int):=IntWalk.i64_in _ (by omega)
 have q2:IntKind.i64.wrap ((a.length:Int)+(b.length:Int))=(a.length:Int)+(b.length:Int):=IntWalk.i64_in _ (by omega)
 have d1:decide ((a.length:Int) < 0)=false:=by rw [decide_eq_false_iff_not];omega
 have d2:decide ((a.length:Int)+(b.length:Int) < 0)=false:=by rw [decide_eq_false_iff_not];omega
 refine wp_loop_rounds 3 ?_
 rw [rounds_succ]
 go_wp2
 rw [rounds_succ]
 go_wp2
 rw [rounds_succ]
 go_wp2_with fail
 refine HG.out.mono ?_
 rintro e w2 ⟨v2,rfl,hO2,hb2⟩
 have e0:=cell_kept H0.out hb2
 have e1:=cell_kept H1.out hb2
 have HO2:=Lib.hid hO2
 obtain ⟨A2,p2,rfl⟩:=hO2.len
 clear hO2 h0 h1
 go_wp2
 refine wp_loop_rounds 3 ?_
 rw [rounds_succ]
 go_wp2_with (at_builtin;refine wpList_append_src rfl (.tmp 31) (.tmp 32) 30 rfl 49 i0 (.agg #[.slice none 0 0,.int .i64 0]) 2 32 Tryz.underlying30 hi hz0 hz1 hz2 rfl (by decide) (B:=w.heap.size) (.slice A2 0 p2) 0 [] rfl HO2.out (.slice Aa a.length ca) a.length (timesV tva) rfl (SliceOf.later HSA.out hb2) KA.out (by unfold maxLen;omega) (by omega) hb2.size ?_)
 intro v3 w3 hO3 hg3 _
 have hb3:=hb2.grown hg3 hb2.size (fun j hj=>(HO2.out.lt j hj).1)
 have e2:=cell_kept H0.out hb3
 have e3:=cell_kept H1.out hb3
 have HO3:=Lib.hid hO3
 obtain ⟨A3,p3,rfl⟩:=hO3.len
 clear hO3 hg3 e0 e1 HO2
 go_wp2
 rw [rounds_succ]
 go_wp2_with (at_builtin;refine wpList_append_src rfl (.tmp 31) (.tmp 32) 30 rfl 49 i0 (.agg #[.slice none 0 0,.int .i64 0]) 2 32 Tryz.underlying30 hi hz0 hz1 hz2 rfl (by decide) (B:=w.heap.size) (.slice A3 a.length p3) a.length (timesV tva) rfl HO3.out (.slice Ab b.length cb) b.length (timesV tvb) rfl (SliceOf.later HSB.out hb3) KB.out (by unfold maxLen;omega) (by omega) hb3.size ?_)
 intro v4 w4 hO4 hg4 _
 have hb4:=hb3.grown hg4 hb3.size (fun j hj=>(HO3.out.lt j hj).1)
 have HT:Hid (TimesIn w4 v4 (a++b)):=TimesIn.of (tv:=tva++tvb) (by rw [timesV_append];exact hO4.slice) ((HRA.out.append HRB.out).kept hb4) (by rw [List.length_append])
 obtain ⟨A4,p4,rfl⟩:=hO4.len
 clear hO4 hg4 e2 e3 HO3
 go_wp2
 rw [rounds_succ]
 go_wp2
 go_ret
 exact ⟨_,rfl,HT.out,hb4⟩
theorem short_append {a b:List Tm}(ha:ShortR a)(hb:ShortR b):ShortR (a++b):=fun t ht=>(List.mem_append.1 ht).elim (ha t) (hb t)
set_option maxHeartbeats 1000000 in
theorem weigh_sum_f (Q:Value→Prop){w:World}{v u:Value}{a l:List Tm}(hQ:∀ u,Fresh w.heap.size u→Q u)(ha:TimesIn w v a)(h:TimesIn w u l)(hl:a.length+l.length≤1000000)(hw:wtW a+wtW l≤4611686018427387904)(hSa:ShortR a)(hS:ShortR l):GivesTimesF Q Tryz.prog 26 #[v,u] w (sumW a l):=by
 obtain ⟨hb,hB⟩:=start w
 obtain ⟨Aa,ca,rfl⟩:=times_slice ha
 obtain ⟨Ab,cb,rfl⟩:=times_slice h
 have hq1:=Below.alloc (.refl _ w) (Nat.le_refl _) (.cells #[.slice Aa a.length ca,.slice Ab l.length cb] 30)
 have hlit:Own (w.alloc (.cells #[.slice Aa a.length ca,.slice Ab l.length cb] 30)) w.heap.size 2 (.slice (some ⟨w.heap.size,0,none⟩) 1 1) 1 [.slice Aa a.length ca,.slice Ab l.length cb] :=
  Own.lit (B:=w.heap.size) (size:=2) w #[.slice Aa a.length ca,.slice Ab l.length cb] 30 1 (Nat.le_refl _) (by unfold maxLen;omega) rfl
 obtain ⟨_,hg,_,hc,_⟩:=hlit.parts
 have c0:=hc 0 _ rfl
 have c1:=hc 1 _ rfl
 rw [Nat.zero_add] at c0 c1
 have hcc:=concat_calls hg c0 c1 (ha.kept hq1) (h.kept hq1) hl
 clear hlit hg hc c0 c1
 have HL:=Lib.hid hl
 have HW:=Lib.hid (show wtW (a++l)≤4611686018427387904 by rw [wtW_append];exact hw)
 have HS:=Lib.hid (short_append hSa hS)
 have HQ1:=Lib.hid hq1
 have HQ:=Lib.hid hQ
 clear ha h hSa hS hq1 hQ
 unfold GivesTimes at hcc
 unfold GivesTimesF
 go_enter Tryz.func26,Tryz.ntmps26
 go_wp2_with fail
 refine hcc.mono ?_
 clear hcc
 rintro e w2 ⟨v2,rfl,hT2,hb2⟩
 have hof:=weigh_of_f Q (fun u hu=>HQ.out u (hu.mono (Nat.le_trans HQ1.out.size hb2.size))) hT2 (by rw [List.length_append];exact HL.out) HW.out HS.out
 have hb02:Below w.heap.size w w2:=HQ1.out.trans (hb2.mono HQ1.out.size)
 obtain ⟨A2,p2,e2⟩:=times_slice hT2
 rw [List.length_append] at e2
 obtain rfl:=e2
 rw [←sum_of_append] at hof
 unfold GivesTimesF at hof
 clear hT2 hb2
 go_wp2_with fail
 refine hof.mono ?_
 clear hof
 rintro e w3 ⟨v3,rfl,hT3,hb3,hF3⟩
 have hb03:=hb02.trans (hb3.mono hb02.size)
 obtain ⟨A3,p3,rfl⟩:=times_slice hT3.times
 have HT:=Lib.hid hT3
 have HF:=Lib.hid (hF3.mono hb02.size)
 clear hT3 hF3 hb3 hb02
 go_wp2
 go_ret
 exact ⟨_,rfl,HT.out,hb03,HF.out⟩
theorem weigh_sum_q (Q:Value→Prop){w:World}{v u:Value}{a l:List Tm}(hQ:∀ u,Fresh w.heap.size u→Q u)(ha:TimesIn w v a)(h:TimesIn w u l)(hl:a.length+l.length≤1000000)(hw:wtW a+wtW l≤4611686018427387904)(hSa:ShortR a)(hS:ShortR l):GivesTimesQ Q Tryz.prog 26 #[v,u] w (sumW a l):=(weigh_sum_f Q hQ ha h hl hw hSa hS).q
theorem weigh_sum_calls {w:World}{v u:Value}{a l:List Tm}(ha:TimesIn w v a)(h:TimesIn w u l)(hl:a.length+l.length≤1000000)(hw:wtW a+wtW l≤4611686018427387904)(hSa:ShortR a)(hS:ShortR l):GivesTimes Tryz.prog 26 #[v,u] w (sumW a l):=(weigh_sum_q (fun _=>True) (fun _ _=>trivial) ha h hl hw hSa hS).gives
end Go.Proofs.YtjbpbfhgjldliaaGreat
