/- The contract of layer 21's own Put. -/
import Derived.Test.YtjbpbfhgjldliaaGreatGBlocks
import Derived.Test.YtjbpbfhgjldliaaGreatGZCalm
import Derived.Test.YtjbpbfhgjldliaaGreatGCalmM
import Derived.Test.YtjbpbfhgjldliaaGreatGWeighRef
import Derived.Test.YtjbpbfhgjldliaaGreatGWeighFns
import Derived.Test.YtjbpbfhgjldliaaGreatGWideB
import Derived.Test.YtjbpbfhgjldliaaGreatGGroupKin
import Derived.Test.YtjbpbfhgjldliaaGreatGPairOn
import Derived.Test.YtjbpbfhgjldliaaGreatGWeighOwn
import Derived.Shelf.Abstract
import Derived.Lib.SliceRun
namespace Go.Proofs.YtjbpbfhgjldliaaGreat
open Go Go.RowKit
theorem gsum_toW (a b:Int):sumD (toW a) (toW b)=toW (a+b):=by
 unfold sumD
 obtain ⟨k,hk⟩:=val_toW a
 obtain ⟨j,hj⟩:=val_toW b
 rw [hk,hj]
 refine toW_same (k+j) ?_
 rw [Int.add_mul];omega
theorem gnum_calls (s:ByteArray):Gives Tryz.prog 87 #[.string s] (.tuple #[.int .i64 (numC s),.bool (isInt s)]):=by
 unfold numC
 cases h:isInt s with
 | true=>exact num_yes s h
 | false=>exact num_no s h
theorem gnum_in64 (s:ByteArray) : -9223372036854775808≤numOf s∧numOf s≤9223372036854775807:=by
 have bi (i:Nat):0≤byteI s i∧byteI s i < 256:=byte_range _
 have h1:=bi 1;have h2:=bi 2;have h3:=bi 3;have h4:=bi 4
 have h5:=bi 5;have h6:=bi 6;have h7:=bi 7;have h8:=bi 8
 unfold numOf offs
 omega
theorem gnumC_range (s:ByteArray) : -9223372036854775808≤numC s∧numC s≤9223372036854775807:=by
 unfold numC
 split
 ·exact gnum_in64 s
 ·omega
set_option maxHeartbeats 2000000 in
set_option maxRecDepth 100000 in
theorem gsum_calls {w:World}{v:Value}{l:List Tm}(h:TimesIn w v l)(h1:∀ t∈l,t.1.length=1)(hN:∀ x∈l,-9223372036854775808≤x.2∧x.2≤9223372036854775807):GivesAt Tryz.prog 70 #[v] w (wV (toW (sumL l))):=by
 obtain ⟨tv,A,cap,rfl,_,hat⟩:=times_at h
 have HAT:=Lib.hid hat
 have HNN:=Lib.hid hN
 have HL1:=Lib.hid h1
 have hm:=h.len
 unfold maxLen at hm
 have hst:=((Bxs.start w).lay 70 #[.int .i64 0,.int .u64 0]).lay 70 #[.int .i64 0,.int .u64 0]
 rw [show (w.alloc (.cells #[.int .i64 0,.int .u64 0] 70)).heap.size=w.heap.size+1 by simp] at hst
 have HST:Hid (Bxs w ((w.alloc (.cells #[.int .i64 0,.int .u64 0] 70)).alloc (.cells #[.int .i64 0,.int .u64 0] 70)) [(w.heap.size,[.int .i64 0,.int .u64 0]),(w.heap.size+1,[.int .i64 0,.int .u64 0])]):=hst
 clear h hat hN h1 hst
 unfold GivesAt
 go_enter Tryz.func70,Tryz.ntmps70
 go_wp2
 generalize World.alloc (World.alloc w _) _=w1 at *
 go_loopw [10] (fun i wr=>∃ k:Nat,k≤l.length∧i=.int .i64 k∧Hid (Bxs w wr [(w.heap.size,[.int .i64 0,.int .u64 0]),(w.heap.size+1,[.int .i64 (toW (sumL (l.take k))).1,.int .u64 (toW (sumL (l.take k))).2])])) (fun i _=>l.length-(intOf i).toNat)
 case atStart=>exact ⟨0,Nat.zero_le _,rfl,HST⟩
 case round =>
  obtain ⟨k,hk,rfl,HG0⟩:=hrel
  by_cases hlt:k < l.length
  ·have hbw:=HG0.out.below
   obtain ⟨b,off,rfl,hbl,hc⟩:=HAT.out k hlt
   obtain ⟨rv,hs,_,c1,c2⟩:=hc k hlt
   have x1:=(hbw.cell (p:=⟨b,off+k*2,none⟩) hbl).trans c1
   have x2:=(hbw.cell (p:=⟨b,off+k*2+1,none⟩) hbl).trans c2
   have HT0:=Lib.hid (sumL_take l k hlt)
   have HNK:=Lib.hid (HNN.out l[k] (List.getElem_mem hlt))
   have hl1:=HL1.out l[k] (List.getElem_mem hlt)
   obtain ⟨Ar,pr,rfl,hat2⟩:=one_at (StrsIn.kept hs hbw)
   obtain ⟨b7,off7,rfl,hbl7,hc7⟩:=hat2 0 (by omega)
   rw [hl1] at x1
   have y0:=hc7 0 (by omega)
   rw [Nat.add_zero,←cellD_first _ (by omega)] at y0
   have i1:(k:Int) < (l.length:Int):=by omega
   have HLK:Hid (k < l.length):=hlt
   clear hc c1 c2 hs hbw hat2 hc7
   generalize l[k]=x at *
   obtain ⟨row,c⟩:=x
   dsimp only at *
   have HG1:=Lib.hid (HG0.out.lay 49 #[.slice (some ⟨b7,off7,none⟩) 1 pr,.int .i64 c])
   have HGL:Hid (wr.heap.size=wr.heap.size):=rfl
   have hqa:=Below.alloc (.refl wr.heap.size wr) (Nat.le_refl _) (.cells #[.slice (some ⟨b7,off7,none⟩) 1 pr,.int .i64 c] 49)
   have y1:=cell_kept y0 hqa
   have z0:=box_cell wr 49 #[.slice (some ⟨b7,off7,none⟩) 1 pr,.int .i64 c] 0 _ rfl
   obtain ⟨d,hd⟩:∃ d,cellD row 0=d:=⟨_,rfl⟩
   rw [hd] at y1
   have HT:Hid (sumL (l.take (k+1))=sumL (l.take k)+c*numC d):=by rw [HT0.out,hd];exact Lib.hid rfl
   have HNR:=Lib.hid (gnumC_range d)
   have HPR:=Lib.hid (wide_product_calls HNR.out.1 HNR.out.2 HNK.out.1 HNK.out.2)
   have HSU:=Lib.hid (wide_sum_calls (toW_in (sumL (l.take k))) (toW_in (numC d*c)))
   rw [gsum_toW] at HSU
   have HPE:Hid (wV (prodD (numC d) c)=wV (toW (numC d*c))):=Lib.hid rfl
   rw [HPE.out] at HPR
   have HNUM:=Lib.hid (fun W=>gnum_calls d W)
   have HQN:Hid (toW (sumL (l.take (k+1)))=toW (sumL (l.take k)+numC d*c)):=by show _=_;rw [HT.out,Int.mul_comm]
   clear HPE HT HT0 hd hqa y0 hl1
   unfold wV at HPR HSU
   generalize toW (sumL (l.take k)+numC d*c)=qq at *
   generalize toW (numC d*c)=dd at *
   generalize toW (sumL (l.take k))=rr at *
   generalize numC d=nd at *
   generalize isInt d=bd at *
   obtain ⟨q1,q2⟩:=qq
   obtain ⟨d1,d2⟩:=dd
   obtain ⟨r1,r2⟩:=rr
   dsimp only at *
   go_wp2_with fail
   refine Calls.mono (HNUM.out _) ?_
   rintro e w4 ⟨rfl,hq⟩
   have HG:=Lib.hid (HG1.out.kept hq)
   clear HNUM HG0 HG1 hq y1 z0 x1 x2
   generalize wr.heap.size=g at *
   go_wp2_with fail
   refine wp_region_calm (offC w4) (fun k=>k==6) (fun _=>false) anyE true (by kernel_rfl) (by kernel_rfl) (by kernel_rfl) (by kernel_rfl) (by intro m hm;revert hm;simp;try omega) (offC_stable _) (offC_start _) ?_
   refine calm_fixA rfl rfl ?_
   apply Exists.intro
   refine ⟨fun a wz hc hk hf K hK=>?_,?_⟩
   ·have hb:Below w4.heap.size w4 wz:=hc rfl
    have h3:=hk 3 (by kernel_rfl)
    clear hk hf hc
    obtain ⟨⟨c0,c1⟩,f0,f1⟩:=((HG.out.kept hb).box 1 rfl).two
    obtain ⟨⟨x0,x1⟩,_,_⟩:=((HG.out.kept hb).box 2 rfl).two
    go_simp
    exact hK _ _ (Below.refl _ _) rfl
   refine calm_fixA rfl rfl ?_
   apply Exists.intro
   refine ⟨fun a wz hc hk hf K hK=>?_,?_⟩
   ·have h6:=hk 6 (by kernel_rfl)
    clear hk hf hc
    go_simp
    exact hK _ _ (Below.refl _ _) rfl
   refine calm_fixA rfl rfl ?_
   apply Exists.intro
   refine ⟨fun a wz hc hk hf K hK=>?_,?_⟩
   ·have h5:=hk 5 (by kernel_rfl)
    clear hk hf hc
    go_simp
    exact hK _ _ (Below.refl _ _) rfl
   refine calm_fixA rfl rfl ?_
   apply Exists.intro
   refine ⟨fun a wz hc hk hf K hK=>?_,?_⟩
   ·have hb:Below w4.heap.size w4 wz:=hc rfl
    have h24:=held_isV hf 0 rfl (by kernel_rfl)
    clear hk hf hc
    obtain ⟨⟨c0,c1⟩,f0,f1⟩:=((HG.out.kept hb).box 1 rfl).two
    obtain ⟨⟨x0,x1⟩,_,_⟩:=((HG.out.kept hb).box 2 rfl).two
    go_simp
    exact hK _ _ (Below.refl _ _) rfl
   refine calm_fixA rfl rfl ?_
   apply Exists.intro
   refine ⟨fun a wz hc hk hf K hK=>?_,?_⟩
   ·have hb:Below w4.heap.size w4 wz:=hc rfl
    have h23:=held_isV hf 2 rfl (by kernel_rfl)
    have h25:=held_isV hf 0 rfl (by kernel_rfl)
    clear hk hf hc
    go_simp
    refine Calls.mono (HPR.out wz) ?_
    rintro e w1 ⟨rfl,hq⟩
    exact hK _ _ hq rfl
   refine calm_fixA rfl rfl ?_
   apply Exists.intro
   refine ⟨fun a wz hc hk hf K hK=>?_,?_⟩
   ·have hb:Below w4.heap.size w4 wz:=hc rfl
    have h22:=held_isV hf 4 rfl (by kernel_rfl)
    have h26:=held_isV hf 0 rfl (by kernel_rfl)
    clear hk hf hc
    go_simp
    refine Calls.mono (HSU.out wz) ?_
    rintro e w1 ⟨rfl,hq⟩
    exact hK _ _ hq rfl
   refine calm_storeA (fun w0=>Bxs w w0 [(w.heap.size,[.int .i64 0,.int .u64 0]),(w.heap.size+1,[.int .i64 q1,.int .u64 q2]),(g,[.slice (some ⟨b7,off7,none⟩) 1 pr,.int .i64 c])]) rfl (fun m h=>by simpa using h) (fun a wz hb hk hf K hK=>?_) ?_
   ·have h3:=hk 3 (by kernel_rfl)
    have h27:=held_isV hf 0 rfl (by kernel_rfl)
    clear hk hf
    obtain ⟨⟨c0,c1⟩,f0,f1⟩:=((HG.out.kept hb).box 1 rfl).two
    have HP:=Lib.hid ((HG.out.kept hb).put2 1 rfl (.int .i64 q1) (.int .u64 q2))
    go_simp
    exact hK undef _ HP.out
   refine calm_nil ?_
   refine ⟨keeps_one (m:=6) (fun k h=>by simpa using h) ⟨.inr (loose_isV _),.inr (loose_isV _),.inr (loose_isV _),.inr (loose_isV _),.inr (loose_isV _),.inr (loose_isV _),.inl rfl,trivial⟩,?_⟩
   intro w6 hc
   simp only [lexL,calmEnd]
   rintro _ rfl _ rfl _ rfl _ rfl _ rfl _ rfl _ hst6
   obtain ⟨wx,hx,hq⟩:=hst6 rfl
   have HG6:=Lib.hid ((hx.kept hq).front 2)
   clear hst6 hx hq hc
   simp only [Act.put,List.setIfInBounds_toArray,List.set_cons_zero,List.set_cons_succ]
   go_wp2
   go_roundw
   case rel=>exact ⟨k+1,HLK.out,by go_num,by rw [HQN.out];exact HG6⟩
   case measure=>have:=HLK.out;simp [intOf];omega
  ·obtain rfl:k=l.length:=by omega
   rw [List.take_length] at HG0
   obtain ⟨⟨r1,r2⟩,hrr⟩:∃ r,toW (sumL l)=r:=⟨_,rfl⟩
   rw [hrr] at HG0
   have HRR:=Lib.hid hrr
   clear hrr
   dsimp only at HG0
   obtain ⟨⟨c0,c1⟩,_,_⟩:=(HG0.out.box 1 rfl).two
   obtain ⟨⟨d0,d1⟩,f0,f1⟩:=(HG0.out.box 0 rfl).two
   have HP:=Lib.hid (HG0.out.put2 0 rfl (.int .i64 r1) (.int .u64 r2))
   go_wp2
   obtain ⟨⟨e0,e1⟩,_,_⟩:=(HP.out.box 0 rfl).two
   refine ⟨rfl,.agg #[.int .i64 r1,.int .u64 r2],?_,by rw [HRR.out];rfl,HP.out.below⟩
   simp [results,Tryz.results70,go_sem,e0,e1]
def GrowN (w:World)(L:List Tm)(v:Value)(wx:World):Prop:=∃ tv,TimesOwn wx w.heap.size v tv L∧(∀ u∈tv,Fresh w.heap.size u.1)∧Below w.heap.size w wx
theorem GrowN.kept {w:World}{L:List Tm}:∀ (v:Value)(wx wy:World),Below wx.heap.size wx wy→GrowN w L v wx→GrowN w L v wy:=fun _ _ _ hb h=>by
 obtain ⟨tv,h1,h2,h3⟩:=h
 exact ⟨tv,h1.later hb,h2,h3.trans (hb.mono h3.size)⟩
theorem GrowN.nil_ (w:World):GrowN w [] (.slice none 0 0) w:=⟨[],TimesOwn.nil_ _ _,fun _ h=>absurd h (by simp),.refl _ _⟩
theorem GrowN.below {w wx:World}{L:List Tm}{v:Value}(h:GrowN w L v wx):Below w.heap.size w wx:=by
 obtain ⟨_,_,_,h3⟩:=h
 exact h3
theorem GrowN.slice {w wx:World}{L:List Tm}{v:Value}(h:GrowN w L v wx):∃ A p,v=.slice A L.length p:=by
 obtain ⟨_,h1,_,_⟩:=h
 exact h1.slice
theorem GrowN.lt {w wx:World}{L:List Tm}{v:Value}(h:GrowN w L v wx):∀ k,v.ownBlock=some k→k < wx.heap.size:=by
 obtain ⟨_,h1,_,_⟩:=h
 exact fun k hk=>(h1.own.lt k hk).2
theorem GrowN.new {w wx:World}{L:List Tm}{v:Value}(h:GrowN w L v wx):TimesNew wx w.heap.size v L:=by
 obtain ⟨tv,h1,h2,_⟩:=h
 exact ⟨tv,h1.own.slice,h1.rows,h2,fun k hk=>h1.lt k hk⟩
theorem GrowN.add {w wx wy:World}{L:List Tm}{v v' rv:Value}{row:List ByteArray}{c:Int}{n:Nat}{tv:List (Value×Int)}(h1:TimesOwn wx w.heap.size v tv L)(h2:∀ u∈tv,Fresh w.heap.size u.1)(h3:Below w.heap.size w wx)(hs:StrsIn wx rv row)(hf:Fresh w.heap.size rv)(ho:RowOff v rv)
  (hg:wx.grownBy wy v.ownBlock) (hv:∀ k,v'.ownBlock=some k→v.ownBlock=some k∨wx.heap.size≤k) (hO:Own wy w.heap.size 2 v' n (timesV tv++[rv,.int .i64 c])) (hn:n=L.length+1):GrowN w (L++[(row,c)]) v' wy:=by
 refine ⟨tv++[(rv,c)],h1.add hs ho hg hv hO hn,fun u hu=>?_,h3.grown hg h3.size fun k hk=>(h1.own.lt k hk).1⟩
 rcases List.mem_append.1 hu with hu|hu
 ·exact h2 u hu
 ·rw [List.mem_singleton.1 hu];exact hf
def NewEnd (w:World)(l:List Tm)(e:Ending)(w':World):Prop:=∃ v,e=.returned v∧TimesNew w' w.heap.size v l∧Below w.heap.size w w'
theorem GrowN.ends {w wx:World}{L:List Tm}{v:Value}(h:GrowN w L v wx):NewEnd w L (.returned v) wx:=⟨v,rfl,h.new,h.below⟩
theorem NewEnd.gives {P:Program}{f:FuncId}{args:Array Value}{w:World}{l:List Tm}(h:Calls P f args w (NewEnd w l)):GivesTimes P f args w l:=h.mono fun _ _ ⟨v,he,ht,hb⟩=>⟨v,he,ht.times,hb⟩
def RowR (B:Nat)(row:List ByteArray):Value→World→Prop:=fun v w=>∃ A p,v=.slice A row.length p∧StrsIn w (.slice A row.length p) row∧Fresh B (.slice A row.length p)
theorem RowR.kept {B:Nat}{row:List ByteArray}:∀ (v:Value)(w w':World),Below w.heap.size w w'→RowR B row v w→RowR B row v w':=fun v w w' hb h=>by
 obtain ⟨A,p,e,h1,h2⟩:=h
 exact ⟨A,p,e,StrsIn.kept h1 hb,h2⟩
def TmR (B:Nat)(row:List ByteArray)(c:Int):Value→World→Prop:=fun v w=>∃ A p,v=.agg #[.slice A row.length p,.int .i64 c]∧StrsIn w (.slice A row.length p) row∧Fresh B (.slice A row.length p)
theorem TmR.kept {B:Nat}{row:List ByteArray}{c:Int}:∀ (v:Value)(w w':World),Below w.heap.size w w'→TmR B row c v w→TmR B row c v w':=fun v w w' hb h=>by
 obtain ⟨A,p,e,h1,h2⟩:=h
 exact ⟨A,p,e,StrsIn.kept h1 hb,h2⟩
def OneR (B:Nat)(row:List ByteArray)(c:Int):Value→World→Prop:=fun v w=>∃ A p,SliceOf w 2 v 1 [.slice A row.length p,.int .i64 c]∧StrsIn w (.slice A row.length p) row∧Fresh B (.slice A row.length p)
theorem OneR.kept {B:Nat}{row:List ByteArray}{c:Int}:∀ (v:Value)(w w':World),Below w.heap.size w w'→OneR B row c v w→OneR B row c v w':=fun v w w' hb h=>by
 obtain ⟨A,p,h0,h1,h2⟩:=h
 exact ⟨A,p,SliceOf.later h0 hb,StrsIn.kept h1 hb,h2⟩
set_option maxHeartbeats 1000000 in
set_option maxRecDepth 100000 in
theorem gmany_calls {w:World}{v:Value}{l:List Tm}(h:TimesIn w v l)(hw:wtW l≤4611686018427387904):GivesAt Tryz.prog 51 #[v] w (.int .i64 (manyL l)):=by
 obtain ⟨tv,A,cap,rfl,_,hat⟩:=times_at h
 have HAT:=Lib.hid hat
 have HW:=Lib.hid hw
 have hm:=h.len
 unfold maxLen at hm
 clear h hat hw
 unfold GivesAt
 go_enter Tryz.func51,Tryz.ntmps51
 go_wp2
 go_loopw [3,8] (fun n i wr=>∃ k:Nat,k≤l.length∧i=.int .i64 k∧n=.int .i64 (manyL (l.take k))∧Hid (Below w.heap.size w wr)) (fun _ i _=>l.length-(intOf i).toNat)
 case atStart=>exact ⟨0,Nat.zero_le _,rfl,rfl,Lib.hid (.refl _ _)⟩
 case round =>
  obtain ⟨k,hk,rfl,rfl,HB⟩:=hrel
  by_cases hlt:k < l.length
  ·obtain ⟨b,off,rfl,hbl,hc⟩:=HAT.out k hlt
   obtain ⟨rv,hs,_,c1,c2⟩:=hc k hlt
   have x1:=(HB.out.cell (p:=⟨b,off+k*2,none⟩) hbl).trans c1
   have x2:=(HB.out.cell (p:=⟨b,off+k*2+1,none⟩) hbl).trans c2
   have HT:=Lib.hid (gmany_take l k hlt)
   have h1:=gmany_le (l.take (k+1))
   have h2:=gmany_le (l.take k)
   have h3:wtW (l.take (k+1))≤wtW l:=by conv=>{ rhs;rw [←List.take_append_drop (k+1) l,wtW_append] };exact Nat.le_add_right _ _
   have h4:wtW (l.take k)≤wtW l:=by conv=>{ rhs;rw [←List.take_append_drop k l,wtW_append] };exact Nat.le_add_right _ _
   have hww:=HW.out
   rw [HT.out] at h1
   obtain ⟨Ar,pr,rfl⟩:∃ Ar pr,rv=.slice Ar l[k].1.length pr:=by obtain ⟨Ar,pr,e,_⟩:=one_at hs;exact ⟨Ar,pr,e⟩
   have i1:(k:Int) < (l.length:Int):=by omega
   have HLK:Hid (k < l.length):=hlt
   clear hc c1 c2 hs
   generalize l[k]=t at *
   obtain ⟨row,c⟩:=t
   dsimp only at *
   have q1:IntKind.i64.wrap (manyL (l.take k)+c)=manyL (l.take k)+c:=IntWalk.i64_in _ (by omega)
   generalize manyL (l.take k)=m at *
   have z1:=box_cell wr 49 #[.slice Ar row.length pr,.int .i64 c] 1 _ rfl
   have HB2:=Lib.hid (HB.out.alloc HB.out.size (.cells #[.slice Ar row.length pr,.int .i64 c] 49))
   clear h1 h2 h3 h4 hww
   go_wp2
   go_roundw
   case rel=>exact ⟨k+1,HLK.out,by go_num,by rw [HT.out],HB2⟩
   case measure=>have:=HLK.out;simp [intOf];omega
  ·obtain rfl:k=l.length:=by omega
   rw [List.take_length]
   go_wp2
   go_ret
   exact ⟨rfl,HB.out⟩
theorem gpick_ok {row:List ByteArray}{c:Int}(h:pickOk row [c]=true):pickF row [c]=[cellD row c]:=by
 unfold pickOk at h
 simp only [List.all_cons,List.all_nil,Bool.and_true,Bool.and_eq_true,decide_eq_true_eq] at h
 unfold pickF cellD
 rw [if_pos h.1]
 rfl
theorem gpick_no {row:List ByteArray}{c:Int}(h:pickOk row [c]=false):cellD row c=eB:=by
 unfold cellD
 split
 ·rename_i h0
  rw [List.getD_eq_getElem?_getD,List.getElem?_eq_none]
  ·rfl
  ·unfold pickOk at h
   simp [h0] at h
   omega
 ·rfl
theorem gpick_one {w w':World}{row:List ByteArray}{c:Int}{e:Ending}(h:PickNew w row [c] e w') :
  (∃ b off p,e=.returned (.tuple #[.slice (some ⟨b,off,none⟩) 1 p,.bool true])∧w'.cell? ⟨b,off,none⟩=some (.string (cellD row c))∧StrsIn w' (.slice (some ⟨b,off,none⟩) 1 p) [cellD row c]∧Fresh w.heap.size (.slice (some ⟨b,off,none⟩) 1 p)∧Below w.heap.size w w') ∨
  (cellD row c=eB∧∃ A p,e=.returned (.tuple #[.slice A 0 p,.bool false])∧Below w.heap.size w w'):=by
 obtain ⟨v,rfl,hs,hf,hb⟩:=h
 cases hy:pickOk row [c] with
 | true =>
  rw [pickL_yes hy,gpick_ok hy] at hs
  have hs2:=hs
  obtain ⟨A,p,rfl,hat⟩:=one_at hs
  obtain ⟨b,off,rfl,_,hc⟩:=hat 0 (by simp)
  exact .inl ⟨b,off,p,rfl,hc 0 (by simp),hs2,hf,hb⟩
 | false =>
  rw [pickL_no hy] at hs
  obtain ⟨A,p,rfl,_⟩:=one_at hs
  exact .inr ⟨gpick_no hy,A,p,rfl,hb⟩
set_option maxHeartbeats 2000000 in
set_option maxRecDepth 100000 in
theorem gcells_new {w:World}{v:Value}{l:List Tm}(col:Int)(h:TimesIn w v l)(hl:l.length≤1000000):Calls Tryz.prog 68 #[v,.int .i64 col] w (NewEnd w (cellsL col l)):=by
 obtain ⟨i0,hi,hz0,hz1,hz2⟩:=info_parts Tryz.infoM49
 obtain ⟨tv,A,cap,rfl,_,hat⟩:=times_at h
 have HAT:=Lib.hid hat
 have HLL:=Lib.hid hl
 clear h hat hl
 go_enter Tryz.func68,Tryz.ntmps68
 go_wp2
 go_loopw [5,12] (fun x i wr=>∃ k:Nat,k≤l.length∧i=.int .i64 k∧Hid (GrowN w (cellsL col (l.take k)) x wr)) (fun _ i _=>l.length-(intOf i).toNat)
 case atStart=>exact ⟨0,Nat.zero_le _,rfl,Lib.hid (GrowN.nil_ w)⟩
 case round =>
  obtain ⟨k,hk,rfl,HG⟩:=hrel
  have HBR:=Lib.hid HG.out.below
  have HGLT0:=Lib.hid HG.out.lt
  obtain ⟨A9,p9,e9⟩:=HG.out.slice
  by_cases hlt:k < l.length
  ·obtain ⟨b,off,rfl,hbl,hc⟩:=HAT.out k hlt
   obtain ⟨rv,hs,_,c1,c2⟩:=hc k hlt
   have x1:=(HBR.out.cell (p:=⟨b,off+k*2,none⟩) hbl).trans c1
   have x2:=(HBR.out.cell (p:=⟨b,off+k*2+1,none⟩) hbl).trans c2
   have HTK:=Lib.hid (gcells_take col l k hlt)
   have HS0:=Lib.hid (StrsIn.kept hs HBR.out)
   obtain ⟨Ar,pr,rfl⟩:∃ Ar pr,rv=.slice Ar l[k].1.length pr:=by obtain ⟨Ar,pr,e,_⟩:=one_at hs;exact ⟨Ar,pr,e⟩
   have hfl:=gcells_length col (l.take k)
   rw [List.length_take] at hfl
   have hll:=HLL.out
   obtain ⟨F,hF⟩:∃ F,cellsL col (l.take k)=F:=⟨_,rfl⟩
   rw [hF] at HG HTK e9 hfl
   obtain ⟨m9,hm⟩:∃ m,F.length=m:=⟨_,rfl⟩
   have HM:Hid (F.length=m9):=hm
   rw [hm] at e9 hfl
   have HML:Hid (m9≤1000000):=by show _≤_;omega
   subst e9
   have i1:(k:Int) < (l.length:Int):=by omega
   have HLK:Hid (k < l.length):=hlt
   clear hc c1 c2 hs hfl hF hm hll
   generalize l[k]=x at *
   obtain ⟨row,c⟩:=x
   dsimp only at *
   have hq0:=Below.alloc (.refl wr.heap.size wr) (Nat.le_refl _) (.cells #[.slice Ar row.length pr,.int .i64 c] 49)
   have hq1:=Below.alloc (.refl _ _) (Nat.le_refl _) (.cells #[.int .i64 col] 3) (w:=wr.alloc (.cells #[.slice Ar row.length pr,.int .i64 c] 49))
   have hq2:=hq0.trans (hq1.mono hq0.size)
   have z0:=box_cell wr 49 #[.slice Ar row.length pr,.int .i64 c] 0 _ rfl
   have z1:=box_cell wr 49 #[.slice Ar row.length pr,.int .i64 c] 1 _ rfl
   have y1:=cell_kept z1 hq1
   have hp:=shape_pick_new (StrsIn.kept HS0.out hq2) (lit_col (wr.alloc (.cells #[.slice Ar row.length pr,.int .i64 c] 49)) 3 col) (by simp)
   rw [show (wr.alloc (.cells #[.slice Ar row.length pr,.int .i64 c] 49)).heap.size=wr.heap.size+1 by simp] at hp
   have HQ2:=Lib.hid hq2
   have hkl:k < 1000000:=by have:=HLL.out;omega
   clear hq0 hq1 hq2 hlt hk
   go_wp2_with fail
   refine hp.mono ?_
   intro e w3 hpe
   have HD:Hid (∀ y,cellD row col=y→cellF col (row,c)=if y=eB then [] else [([y],c)]):=fun y e=>by unfold cellF;rw [e]
   rcases gpick_one hpe with ⟨b3,o3,p3,rfl,hc3,hs3,hf3,hb3⟩ | ⟨hd,A3,p3,rfl,hb3⟩
   ·have HB3:=Lib.hid (HQ2.out.trans (hb3.mono HQ2.out.size))
    have y3:=cell_kept y1 hb3
    clear hp hpe z0 z1 y1 x1 x2
    have hf4:=hf3.mono HQ2.out.size
    replace HG:=Lib.hid (GrowN.kept _ _ _ HB3.out HG.out)
    generalize hcd:cellD row col=d at *
    have HD2:=Lib.hid (HD.out d rfl)
    by_cases he:d=⟨#[]⟩
    ·subst he
     have HGN:Hid (GrowN w (cellsL col (l.take (k+1))) (.slice A9 m9 p9) w3):=by rw [HTK.out,HD2.out,if_pos (show (⟨#[]⟩:ByteArray)=eB from rfl),List.append_nil];exact HG
     clear hb3 hs3 hf3 hf4 HD HD2 hcd HG
     go_wp2
     go_roundw
     case rel=>exact ⟨k+1,HLK.out,by go_num,HGN⟩
     case measure=>have:=HLK.out;simp [intOf];omega
    ·have e0:=text_some he
     have HTN:=Lib.hid (HTK.out.trans (by rw [HD2.out,if_neg (show ¬d=eB from he)]))
     have HS3:=Lib.hid hs3
     have HF4:=Lib.hid hf4
     obtain ⟨tv8,hT8,hF8,hB8⟩:=HG.out
     have hO8:=hT8.own
     rw [HM.out] at hO8
     have hq4:=Below.alloc (.refl w3.heap.size w3) (Nat.le_refl _) (.cells #[.slice (some ⟨b3,o3,none⟩) 1 p3,.int .i64 c] 49)
     have HO8:=Lib.hid (hO8.later hq4)
     have HB4:=Lib.hid (hB8.trans (hq4.mono hB8.size))
     have HT8:=Lib.hid (hT8.later hq4)
     have HF8:=Lib.hid hF8
     have HLIT:=Lib.hid (lit_tm w3 49 (.slice (some ⟨b3,o3,none⟩) 1 p3) c)
     have H1:=Lib.hid (one_tm hs3 c)
     have HQ4:=Lib.hid hq4
     have hml:=HML.out
     clear hb3 hs3 hf3 hf4 HD HD2 hcd hT8 hF8 hB8 hO8 hq4 he
     go_wp2_with (at_builtin;refine wpList_append_src rfl (.tmp 31) (.tmp 36) 30 rfl 49 i0 (.agg #[.slice none 0 0,.int .i64 0]) 2 32 Tryz.underlying30 hi hz0 hz1 hz2 rfl (by decide) (B:=w.heap.size) (.slice A9 m9 p9) m9 (timesV tv8) rfl HO8.out (.slice (some ⟨w3.heap.size,0,none⟩) 1 1) 1 [.slice (some ⟨b3,o3,none⟩) 1 p3,.int .i64 c] rfl HLIT.out H1.out (by unfold maxLen;omega) (by omega) HB4.out.size ?_)
     intro v7 w7 hO7 hg7 ha7
     have HG7:Hid (GrowN w (cellsL col (l.take (k+1))) v7 w7):=by
      rw [HTN.out]
      exact GrowN.add HT8.out HF8.out HB4.out (StrsIn.kept HS3.out HQ4.out) (HF4.out.mono HBR.out.size) (RowOff.of_fresh HF4.out fun k hk=>HGLT0.out k hk) hg7 (fun k hk=>by have:=ha7 k hk;simpa using this) hO7 (by rw [HM.out])
     clear hO7 hg7 ha7 hml
     obtain ⟨A5,p5,e5⟩:=HG7.out.slice
     go_wp2
     go_roundw
     case rel=>exact ⟨k+1,HLK.out,by go_num,HG7⟩
     case measure=>have:=HLK.out;simp [intOf];omega
   ·have HB3:=Lib.hid (HQ2.out.trans (hb3.mono HQ2.out.size))
    have HGN:Hid (GrowN w (cellsL col (l.take (k+1))) (.slice A9 m9 p9) w3):=by rw [HTK.out,HD.out _ hd,if_pos rfl,List.append_nil];exact Lib.hid (GrowN.kept _ _ _ HB3.out HG.out)
    clear hp hpe z0 z1 y1 x1 x2 hb3 HG HD
    go_wp2
    go_roundw
    case rel=>exact ⟨k+1,HLK.out,by go_num,HGN⟩
    case measure=>have:=HLK.out;simp [intOf];omega
  ·obtain rfl:k=l.length:=by omega
   rw [List.take_length] at HG e9
   generalize (cellsL col l).length=m9 at *
   subst e9
   go_wp2
   go_ret
   exact HG.out.ends
def PartEnd (w:World)(p:PartP)(e:Ending)(w':World):Prop:=∃ cv,e=.returned (partA cv p)∧timesK.In (Fresh w.heap.size) w' cv p.cells∧Below w.heap.size w w'
def FitP (p:PartP):Prop:=p.n.natAbs≤1152921504606846976∧p.cells.length≤100000∧wtW p.cells≤1152921504606846976∧ShortR p.cells
theorem part_way1 (p:PartP)(c:Int)(l:List Tm):partW p (1,c) l=part0:=if_pos rfl
theorem part_way34 (p:PartP)(a c:Int)(l:List Tm)(h:a≠1)(h2:a=3∨a=4):partW p (a,c) l=⟨p.n+manyL (cellsL c l),0,sumW p.cells (cellsL c l)⟩:=by unfold partW;rw [if_neg h,if_pos h2]
theorem part_way2 (p:PartP)(a c:Int)(l:List Tm)(h:a≠1)(h2:¬(a=3∨a=4)):partW p (a,c) l=⟨p.n+manyL (cellsL c l),p.s+sumL (cellsL c l),[]⟩:=by unfold partW;rw [if_neg h,if_neg h2]
theorem zero_w:toW 0=(0,0):=by decide +kernel
theorem four_grown (w:World)(b:Nat)(x y z u:Value):w.grownBy ((((w.setCell ⟨b,0,none⟩ x).setCell ⟨b,1,none⟩ y).setCell ⟨b,2,none⟩ z).setCell ⟨b,3,none⟩ u) (some b):=setCells_grown b [x,y,z,u] 0 w
theorem partEnd_of {w w':World}{p:PartP}{n a b:Int}{cv:Value}{q:PartP}(he:q=p)(h1:p.n=n)(h2:toW p.s=(a,b))(hc:timesK.In (Fresh w.heap.size) w' cv p.cells)(hb:Below w.heap.size w w'):PartEnd w q (.returned (.agg #[.int .i64 n,.int .i64 a,.int .u64 b,cv])) w':=by
 subst he
 exact ⟨cv,by unfold partA;rw [h1,h2],hc,hb⟩
set_option maxHeartbeats 4000000 in
set_option maxRecDepth 100000 in
theorem gpart_calls {w:World}{pv rv:Value}{p:PartP}{l:List Tm}(a:Int×Int)(hp:PartIn (fun _=>True) w pv p)(hr:TimesIn w rv l)(hf:FitP p)(hl:l.length≤100000)(hw:wtW l≤1152921504606846976) :
  Calls Tryz.prog 52 #[pv,.agg #[.int .i64 a.1,.int .i64 a.2],rv] w (PartEnd w (partW p a l)):=by
 obtain ⟨way,col⟩:=a
 obtain ⟨cv,rfl,hcv⟩:=hp
 obtain ⟨Ar,pr,rfl⟩:=times_slice hr
 obtain ⟨f1,f2,f3,f4⟩:=hf
 have hst:=(((Bxs.start w).lay 72 #[.int .i64 p.n,.int .i64 (toW p.s).1,.int .u64 (toW p.s).2,cv]).lay 28 #[.int .i64 way,.int .i64 col]).lay 72 #[.int .i64 0,.int .i64 0,.int .u64 0,.slice none 0 0]
 have e1:(w.alloc (.cells #[.int .i64 p.n,.int .i64 (toW p.s).1,.int .u64 (toW p.s).2,cv] 72)).heap.size=w.heap.size+1:=by simp
 have e2:((w.alloc (.cells #[.int .i64 p.n,.int .i64 (toW p.s).1,.int .u64 (toW p.s).2,cv] 72)).alloc (.cells #[.int .i64 way,.int .i64 col] 28)).heap.size=w.heap.size+2:=by simp
 rw [e1,e2] at hst
 have HST:=Lib.hid hst
 have hbst:=hst.below
 have hm1:=gmany_le (cellsL col l)
 have hm2:=gcells_wt col l
 have hm3:=gcells_length col l
 have hcl:=gcells_new col (hr.kept hbst) (by omega)
 have HSHO:Hid (ShortR (cellsL col l)):=fun t ht=>by rw [gcells_one col l t ht];decide
 have HONE:=Lib.hid (gcells_one col l)
 have HCV:=Lib.hid (timesK_times (hcv.kept hbst))
 obtain ⟨Ac,pc,rfl⟩:=hcv.slice
 have HF4:=Lib.hid f4
 have P1:=part_way1 p col l
 have P3:=fun h h2=>part_way34 p way col l h h2
 have P2:=fun h h2=>part_way2 p way col l h h2
 have HMX:Hid (∀ x∈cellsL col l,-9223372036854775808≤x.2∧x.2≤9223372036854775807):=fun x hx=>by have:=wt_mem hx;omega
 clear hst e1 e2 hr hcv f4
 generalize cellsL col l=C at *
 unfold partA
 go_enter Tryz.func52,Tryz.ntmps52
 go_wp2_with fail
 generalize World.alloc (World.alloc (World.alloc w _) _) _=w1 at *
 have HBS:=Lib.hid hbst
 obtain ⟨⟨a0,a1⟩,_⟩:=(HST.out.box 1 rfl).two
 go_wp2_with fail
 refine hcl.mono ?_
 rintro e w2 ⟨v2,rfl,hN2,hb2⟩
 have HG0:=Lib.hid (HST.out.kept hb2)
 have HC:=Lib.hid hN2.times
 have HCV2:=Lib.hid (HCV.out.kept hb2)
 obtain ⟨A2,p2,rfl⟩:=times_slice hN2.times
 obtain ⟨pn,ps,pcl⟩:=p
 dsimp only at *
 have HSQ:Hid (∃ s,toW ps=s):=⟨_,rfl⟩
 obtain ⟨⟨s1,s2⟩,hss⟩:=HSQ.out
 rw [hss] at HG0
 have HG:Hid (Bxs w w2 [(w.heap.size,[.int .i64 pn,.int .i64 s1,.int .u64 s2,.slice Ac pcl.length pc]),(w.heap.size+1,[.int .i64 way,.int .i64 col]),(w.heap.size+2,[.int .i64 0,.int .i64 0,.int .u64 0,.slice none 0 0])]):=HG0
 have HSS:=Lib.hid hss
 clear HG0 HSQ hss hcl hN2 hb2 HST HCV a0 a1
 have HMY:Hid (∀ W,Below w2.heap.size w2 W→GivesAt Tryz.prog 51 #[.slice A2 C.length p2] W (.int .i64 (manyL C))):=fun W hW=>gmany_calls (HC.out.kept hW) (by omega)
 have q1:IntKind.i64.wrap (pn+manyL C)=pn+manyL C:=IntWalk.i64_in _ (by omega)
 have HCL:Hid (pcl.length+C.length≤1000000):=by show _≤_;omega
 have HCW:Hid (wtW pcl+wtW C≤4611686018427387904):=by show _≤_;omega
 clear hbst hm1 hm2 hm3 f1 f2 f3
 generalize manyL C=mc at *
 go_wp2_with fail
 refine wp_region_calm (offC w2) (fun _=>false) (fun _=>false) anyE false (by kernel_rfl) (by kernel_rfl) (by kernel_rfl) (by kernel_rfl) (by intro m hm;revert hm;simp;try omega) (offC_stable _) (offC_start _) ?_
 refine calm_fixA rfl rfl ?_
 apply Exists.intro
 refine ⟨fun a wz hc hk hf K hK=>?_,?_⟩
 ·have h3:=hk 3 (by kernel_rfl)
  clear hk hf hc
  go_simp
  exact hK _ _ (Below.refl _ _) rfl
 refine calm_fixA rfl rfl ?_
 apply Exists.intro
 refine ⟨fun a wz hc hk hf K hK=>?_,?_⟩
 ·have hb:Below w2.heap.size w2 wz:=hc rfl
  have h13:=held_isV hf 0 rfl (by kernel_rfl)
  clear hk hf hc
  obtain ⟨⟨c0,c1,c2,c3⟩,_⟩:=((HG.out.kept hb).box 0 rfl).four
  go_simp
  exact hK _ _ (Below.refl _ _) rfl
 refine calm_fixA rfl rfl ?_
 apply Exists.intro
 refine ⟨fun a wz hc hk hf K hK=>?_,?_⟩
 ·have h7:=hk 7 (by kernel_rfl)
  clear hk hf hc
  go_simp
  exact hK _ _ (Below.refl _ _) rfl
 refine calm_fixA rfl rfl ?_
 apply Exists.intro
 refine ⟨fun a wz hc hk hf K hK=>?_,?_⟩
 ·have hb:Below w2.heap.size w2 wz:=hc rfl
  have h15:=held_isV hf 0 rfl (by kernel_rfl)
  clear hk hf hc
  go_simp
  refine Calls.mono (HMY.out wz (hb)) ?_
  rintro e w1 ⟨rfl,hq⟩
  exact hK _ _ hq rfl
 refine calm_fixA rfl rfl ?_
 apply Exists.intro
 refine ⟨fun a wz hc hk hf K hK=>?_,?_⟩
 ·have h14:=held_isV hf 2 rfl (by kernel_rfl)
  have h16:=held_isV hf 0 rfl (by kernel_rfl)
  clear hk hf hc
  go_simp
  exact hK _ _ (Below.refl _ _) rfl
 refine calm_fixA rfl rfl ?_
 apply Exists.intro
 refine ⟨fun a wz hc hk hf K hK=>?_,?_⟩
 ·have h17:=held_isV hf 0 rfl (by kernel_rfl)
  clear hk hf hc
  go_simp
  exact hK _ _ (Below.refl _ _) rfl
 refine calm_nil ?_
 refine ⟨keeps_none,?_⟩
 intro w3 hc
 simp only [lexL,calmEnd]
 rintro _ rfl _ rfl _ rfl _ rfl _ rfl _ rfl
 have hb3:Below w2.heap.size w2 w3:=hc rfl
 have HG3:=Lib.hid (HG.out.kept hb3)
 have HC3:=Lib.hid (HC.out.kept hb3)
 have HCV3:=Lib.hid (HCV2.out.kept hb3)
 clear hc hb3 HCV2
 simp only [Act.put,List.setIfInBounds_toArray,List.set_cons_zero,List.set_cons_succ]
 generalize hnn:pn+mc=nn at *
 have HNN:=Lib.hid hnn
 clear hnn HMY HG HC
 obtain ⟨⟨a0,a1⟩,_⟩:=(HG3.out.box 1 rfl).two
 obtain ⟨⟨d0,d1,d2,d3⟩,y0,y1,y2,y3⟩:=(HG3.out.box 2 rfl).four
 obtain ⟨⟨c0,c1,c2,c3⟩,_⟩:=(HG3.out.box 0 rfl).four
 by_cases hw1:way=1
 ·subst hw1
  have HG4:=Lib.hid (HG3.out.put4 2 rfl (.int .i64 0) (.int .i64 0) (.int .u64 0) (.slice none 0 0))
  have HP1:=Lib.hid P1
  clear P1 P2 P3 HG3
  go_wp2
  obtain ⟨⟨e0,e1,e2,e3⟩,_⟩:=(HG4.out.box 2 rfl).four
  refine ⟨rfl,.agg #[.int .i64 0,.int .i64 0,.int .u64 0,.slice none 0 0],?_,partEnd_of (p:=part0) HP1.out rfl zero_w (Kin.In.nil_ _ _ _ _ (fresh_nil _)) HG4.out.below⟩
  simp [results,Tryz.results52,go_sem,e0,e1,e2,e3]
 ·have g1:(way==1)=false:=by simpa using hw1
  by_cases hw3:way=3∨way=4
  ·have HP:=Lib.hid (P3 hw1 hw3)
   have HSM:=Lib.hid (weigh_sum_f (Fresh w3.heap.size) (fun _ h=>h) HCV3.out HC3.out HCL.out HCW.out HF4.out HSHO.out)
   have CASES:(way=3)∨((way==3)=false∧way=4):=by
    rcases hw3 with h|h
    ·exact .inl h
    ·exact .inr ⟨by subst h;decide,h⟩
   clear P1 P2 P3 hw3
   rcases CASES with rfl | ⟨g3,rfl⟩
   all_goals
    go_wp2_with fail
    refine Calls.mono HSM.out ?_
    rintro e w5 ⟨v5,rfl,hT5,hb5,hf5⟩
    have HG5:=Lib.hid (HG3.out.kept hb5)
    have HT5:Hid (timesK.In (Fresh w3.heap.size) w5 v5 (sumW pcl C)):=timesK_of hT5 hf5
    have HLT3:Hid (w.heap.size+2 < w3.heap.size∧w.heap.size≤w3.heap.size):=⟨(HG3.out.box 2 rfl).lt,HG3.out.below.size⟩
    obtain ⟨A5,p5,rfl⟩:=HT5.out.slice
    clear hT5 hb5 hf5 HSM HG3 a0 a1 d0 d1 d2 d3 y0 y1 y2 y3 c0 c1 c2 c3
    obtain ⟨⟨d0,d1,d2,d3⟩,y0,y1,y2,y3⟩:=(HG5.out.box 2 rfl).four
    have HG4:=Lib.hid (HG5.out.put4 2 rfl (.int .i64 nn) (.int .i64 0) (.int .u64 0) (.slice A5 (sumW pcl C).length p5))
    have HT4:Hid (timesK.In (Fresh w.heap.size) _ (.slice A5 (sumW pcl C).length p5) (sumW pcl C)):=Lib.hid ((HT5.out.off (v0:=.slice (some ⟨w.heap.size+2,0,none⟩) 1 1) (fun u hu=>RowOff.of_fresh hu fun k hk=>by simp only [Value.ownBlock,Option.some.injEq] at hk;have:=HLT3.out;omega) (four_grown w5 (w.heap.size+2) (.int .i64 nn) (.int .i64 0) (.int .u64 0) (.slice A5 (sumW pcl C).length p5))).mono fun u hu=>hu.mono HLT3.out.2)
    go_wp2
    obtain ⟨⟨e0,e1,e2,e3⟩,_⟩:=(HG4.out.box 2 rfl).four
    refine ⟨rfl,.agg #[.int .i64 nn,.int .i64 0,.int .u64 0,.slice A5 (sumW pcl C).length p5],?_,partEnd_of HP.out rfl zero_w HT4.out HG4.out.below⟩
    simp [results,Tryz.results52,go_sem,e0,e1,e2,e3]
  ·have g3:(way==3)=false:=by simpa using fun e=>hw3 (.inl e)
   have g4:(way==4)=false:=by simpa using fun e=>hw3 (.inr e)
   have HP:=Lib.hid (P2 hw1 hw3)
   have HSM:Hid (∀ W,Below w3.heap.size w3 W→GivesAt Tryz.prog 70 #[.slice A2 C.length p2] W (wV (toW (sumL C)))):=fun W hW=>gsum_calls (HC3.out.kept hW) HONE.out HMX.out
   have HSU:=Lib.hid (wide_sum_calls (toW_in ps) (toW_in (sumL C)))
   rw [gsum_toW,HSS.out] at HSU
   unfold wV at HSM HSU
   obtain ⟨⟨q1,q2⟩,hqq⟩:∃ q,toW (ps+sumL C)=q:=⟨_,rfl⟩
   rw [hqq] at HSU
   have HQQ:=Lib.hid hqq
   generalize toW (sumL C)=zz at *
   obtain ⟨z1,z2⟩:=zz
   dsimp only at HSM HSU
   clear P1 P2 P3 hw3 hqq d0 d1 d2 d3 y0 y1 y2 y3 c0 c1 c2 c3
   go_wp2_with fail
   refine wp_region_calm (offC w3) (fun k=>k==7) (fun _=>false) anyE true (by kernel_rfl) (by kernel_rfl) (by kernel_rfl) (by kernel_rfl) (by intro m hm;revert hm;simp;try omega) (offC_stable _) (offC_start _) ?_
   refine calm_fixA rfl rfl ?_
   apply Exists.intro
   refine ⟨fun a wz hc hk hf K hK=>?_,?_⟩
   ·have h8:=hk 8 (by kernel_rfl)
    clear hk hf hc
    go_simp
    exact hK _ _ (Below.refl _ _) rfl
   refine calm_fixA rfl rfl ?_
   apply Exists.intro
   refine ⟨fun a wz hc hk hf K hK=>?_,?_⟩
   ·have h3:=hk 3 (by kernel_rfl)
    clear hk hf hc
    go_simp
    exact hK _ _ (Below.refl _ _) rfl
   refine calm_fixA rfl rfl ?_
   apply Exists.intro
   refine ⟨fun a wz hc hk hf K hK=>?_,?_⟩
   ·have hb:Below w3.heap.size w3 wz:=hc rfl
    have h33:=held_isV hf 0 rfl (by kernel_rfl)
    clear hk hf hc
    obtain ⟨⟨c0,c1,c2,c3⟩,_⟩:=((HG3.out.kept hb).box 0 rfl).four
    go_simp
    exact hK _ _ (Below.refl _ _) rfl
   refine calm_fixA rfl rfl ?_
   apply Exists.intro
   refine ⟨fun a wz hc hk hf K hK=>?_,?_⟩
   ·have h7:=hk 7 (by kernel_rfl)
    clear hk hf hc
    go_simp
    exact hK _ _ (Below.refl _ _) rfl
   refine calm_fixA rfl rfl ?_
   apply Exists.intro
   refine ⟨fun a wz hc hk hf K hK=>?_,?_⟩
   ·have hb:Below w3.heap.size w3 wz:=hc rfl
    have h35:=held_isV hf 0 rfl (by kernel_rfl)
    clear hk hf hc
    go_simp
    refine Calls.mono (HSM.out wz hb) ?_
    rintro e w1 ⟨rfl,hq⟩
    exact hK _ _ hq rfl
   refine calm_fixA rfl rfl ?_
   apply Exists.intro
   refine ⟨fun a wz hc hk hf K hK=>?_,?_⟩
   ·have hb:Below w3.heap.size w3 wz:=hc rfl
    have h34:=held_isV hf 2 rfl (by kernel_rfl)
    have h36:=held_isV hf 0 rfl (by kernel_rfl)
    clear hk hf hc
    go_simp
    refine Calls.mono (HSU.out wz) ?_
    rintro e w1 ⟨rfl,hq⟩
    exact hK _ _ hq rfl
   refine calm_fixA rfl rfl ?_
   apply Exists.intro
   refine ⟨fun a wz hc hk hf K hK=>?_,?_⟩
   ·have h32:=held_isV hf 5 rfl (by kernel_rfl)
    have h37:=held_isV hf 0 rfl (by kernel_rfl)
    clear hk hf hc
    go_simp
    exact hK _ _ (Below.refl _ _) rfl
   refine calm_storeA (fun w0=>Bxs w w0 [(w.heap.size,[.int .i64 pn,.int .i64 s1,.int .u64 s2,.slice Ac pcl.length pc]),(w.heap.size+1,[.int .i64 way,.int .i64 col]),(w.heap.size+2,[.int .i64 nn,.int .i64 q1,.int .u64 q2,.slice none 0 0])]) rfl (fun m h=>by simpa using h) (fun a wz hb hk hf K hK=>?_) ?_
   ·have h6:=hk 6 (by kernel_rfl)
    have h38:=held_isV hf 0 rfl (by kernel_rfl)
    clear hk hf
    obtain ⟨⟨c0,c1,c2,c3⟩,f0,f1,f2,f3⟩:=((HG3.out.kept hb).box 2 rfl).four
    have HP:=Lib.hid ((HG3.out.kept hb).put4 2 rfl (.int .i64 nn) (.int .i64 q1) (.int .u64 q2) (.slice none 0 0))
    go_simp
    exact hK undef _ HP.out
   refine calm_nil ?_
   refine ⟨keeps_one (m:=7) (fun k h=>by simpa using h) ⟨.inr (loose_isV _),.inr (loose_isV _),.inr (loose_isV _),.inr (loose_isV _),.inr (loose_isV _),.inr (loose_isV _),.inr (loose_isV _),.inl rfl,trivial⟩,?_⟩
   intro w4 hc
   simp only [lexL,calmEnd]
   rintro _ rfl _ rfl _ rfl _ rfl _ rfl _ rfl _ rfl _ hst7
   obtain ⟨wx,hx,hq⟩:=hst7 rfl
   have HG4:=Lib.hid (hx.kept hq)
   clear hst7 hx hq hc
   simp only [Act.put,List.setIfInBounds_toArray,List.set_cons_zero,List.set_cons_succ]
   go_wp2
   obtain ⟨⟨e0,e1,e2,e3⟩,_⟩:=(HG4.out.box 2 rfl).four
   refine ⟨rfl,.agg #[.int .i64 nn,.int .i64 q1,.int .u64 q2,.slice none 0 0],?_,partEnd_of HP.out rfl HQQ.out (Kin.In.nil_ _ _ _ _ (fresh_nil _)) HG4.out.below⟩
   simp [results,Tryz.results52,go_sem,e0,e1,e2,e3]
abbrev ptrV (b:Nat):Value:=.pointer (some ⟨b,0,none⟩)
abbrev cboxV (b:Nat):Value:=.slice (some ⟨b,0,none⟩) 1 1
def bxC (w0:World)(m ms:Nat)(zs:List Value):Phase→World→Prop:=fun ph w=>Below w0.heap.size w0 w∧(ph ms=none→∀ p,ph m=some p→∃ b,p=ptrV b∧w0.heap.size≤b∧CBox w b zs)
theorem bxC_stable (w0:World)(m ms:Nat)(zs:List Value):∀ ph w w',Below w.heap.size w w'→bxC w0 m ms zs ph w→bxC w0 m ms zs ph w':=fun _ _ _ hb h=>⟨h.1.trans (hb.mono h.1.size),fun h1 p hp=>by
 obtain ⟨b,e,h2,h3⟩:=h.2 h1 p hp
 exact ⟨b,e,h2,h3.kept hb⟩⟩
theorem bxC_start (w0:World)(m ms:Nat)(zs:List Value):bxC w0 m ms zs (fun _=>none) w0.drew:=⟨Below.drew (.refl _ _),fun _ p hp=>by cases hp⟩
def bxM (m:Nat):MSpec:=fun ph v _=>ph m=some v
def bxEndM (w0:World)(m:Nat)(R:Nat→World→Prop):MSpec:=fun ph _ w=>∀ p,ph m=some p→∃ b,p=ptrV b∧w0.heap.size≤b∧R b w
def keyM (m ms B:Nat)(row:List ByteArray)(f:Value→Value):MSpec:=fun ph v w=>ph ms=none→∃ A p,v=f (.slice A row.length p)∧StrsIn w (.slice A row.length p) row∧Fresh B (.slice A row.length p)∧∀ b,ph m=some (ptrV b)→RowOff (cboxV b) (.slice A row.length p)
section
variable {m ms B:Nat}{row:List ByteArray}{f:Value→Value}{R:Nat→World→Prop}{w0:World}
theorem stable_bxM:StableM (bxM m):=fun _ _ _ _ _ h=>h
theorem stable_bxEndM (hR:∀ b w w',Below w.heap.size w w'→R b w→R b w'):StableM (bxEndM w0 m R):=fun _ _ _ _ hb h p hp=>by
 obtain ⟨b,e,h1,h2⟩:=h p hp
 exact ⟨b,e,h1,hR _ _ _ hb h2⟩
theorem stable_keyM:StableM (keyM m ms B row f):=fun _ _ _ _ hb h hp=>by
 obtain ⟨A,p,e,h1,h2,h3⟩:=h hp
 exact ⟨A,p,e,StrsIn.kept h1 hb,h2,h3⟩
variable {C:Phase→World→Prop}{st:Nat→Bool}{bef aft:Nat→Nat→Bool}{E:Nat→Value→World→World→Prop}
theorem keep_bx {k:Nat}(hm:k≠m):KeepAt C st bef aft E k (bxM m):=fun ph u v w w' _ _ _ h _=>by
 show setP ph k v m=some u
 rw [setP_ne _ (Ne.symm hm)]
 exact h
theorem keep_key_self:KeepAt C st bef aft E ms (keyM m ms B row f):=fun _ _ v _ _ _ _ _ _ _ h=>by rw [setP_self] at h;cases h
theorem keep_key_box (hne:ms≠m)(hE:∀ v w w',E m v w w'→Below w.heap.size w w'∧v=ptrV w.heap.size):KeepAt C st bef aft E m (keyM m ms B row f):=fun ph u v w w' _ _ _ h he hp=>by
 obtain ⟨hb,rfl⟩:=hE _ _ _ he
 rw [setP_ne _ hne] at hp
 obtain ⟨A,p,e,h1,h2,h3⟩:=h hp
 refine ⟨A,p,e,StrsIn.kept h1 hb,h2,fun b hb2=>?_⟩
 rw [setP_self] at hb2
 simp only [Option.some.injEq,Value.pointer.injEq,Addr.mk.injEq,and_true] at hb2
 subst hb2
 exact h1.lain.apart fun k hk=>by
  simp only [Value.ownBlock,Option.some.injEq] at hk
  omega
end
theorem parts_length:∀ (gs:List (Int×Int))(ps:List PartP)(l:List Tm),(partsW ps gs l).length=gs.length
 | [],_,_=>rfl
 | _::gs,ps,l=>by
  show (partsW ps.tail gs l).length+1=_
  rw [parts_length gs];rfl
theorem parts_get:∀ (gs:List (Int×Int))(ps:List PartP)(l:List Tm)(k:Nat)(h:k < gs.length),(partsW ps gs l)[k]? = some (partW (ps.getD k part0) gs[k] l)
 | [],_,_,k,h=>absurd h (by simp)
 | a::gs,ps,l,0,_=>by
  show some (partW (ps.headD part0) a l)=_
  cases ps <;> rfl
 | a::gs,ps,l,k+1,h=>by
  show (partsW ps.tail gs l)[k]? = _
  rw [parts_get gs ps.tail l k (by simpa using h)]
  cases ps <;> rfl
theorem parts_take (gs:List (Int×Int))(ps:List PartP)(l:List Tm)(k:Nat)(h:k < gs.length):(partsW ps gs l).take (k+1)=(partsW ps gs l).take k++[partW (ps.getD k part0) gs[k] l]:=by
 rw [List.take_add_one,parts_get gs ps l k h];rfl
theorem Bxs.more {w wr:World}{bs:List (Nat×List Value)}(h:Bxs w wr bs){b:Nat}{vs:List Value}(hc:CBox wr b vs)(hb:∀ q∈bs,q.1≠b)(hw:w.heap.size≤b):Bxs w wr (bs++[(b,vs)]):=by
 refine ⟨fun q hm=>?_,?_,h.below⟩
 ·rcases List.mem_append.1 hm with hm|hm
  ·exact h.at_ q hm
  ·rw [List.mem_singleton.1 hm];exact ⟨hc,hw⟩
 ·refine List.pairwise_append.2 ⟨h.apart,by simp,fun p hp q hq=>?_⟩
  rw [List.mem_singleton.1 hq];exact hb p hp
theorem three_grown (w:World)(b:Nat)(x y z:Value):w.grownBy (((w.setCell ⟨b,0,none⟩ x).setCell ⟨b,1,none⟩ y).setCell ⟨b,2,none⟩ z) (some b):=setCells_grown b [x,y,z] 0 w
theorem below_three {B O:Nat}{w0 w:World}(hb:Below B w0 w)(h:B≤O)(a b c:Value):Below B w0 (((w.setCell ⟨O,0,none⟩ a).setCell ⟨O,1,none⟩ b).setCell ⟨O,2,none⟩ c) :=
 ((hb.setCell (p:=⟨O,0,none⟩) h a).setCell (p:=⟨O,1,none⟩) h b).setCell (p:=⟨O,2,none⟩) h c
theorem Tryz.infoG72:(Tryz.prog.info? 72).map (fun i=>(i.zero,i.size,i.bytes))=some (some (.agg #[.int .i64 0,.int .i64 0,.int .u64 0,.slice none 0 0]),4,48):=by kernel_rfl
def aggF (nn:Int):Value→Value:=fun x=>.agg #[x,.int .i64 nn,.slice none 0 0]
def WithB (w2:World)(key:List ByteArray)(nn:Int):Nat→World→Prop:=fun b wx=>∃ A p,CBox wx b [.slice A key.length p,.int .i64 nn,.slice none 0 0]∧StrsIn wx (.slice A key.length p) key∧Fresh w2.heap.size (.slice A key.length p)∧RowOff (cboxV b) (.slice A key.length p)∧Below w2.heap.size w2 wx
theorem WithB.kept {w2:World}{key:List ByteArray}{nn:Int}:∀ (b:Nat)(w w':World),Below w.heap.size w w'→WithB w2 key nn b w→WithB w2 key nn b w':=fun b w w' hb h=>by
 obtain ⟨A,p,h1,h2,h3,h4,h5⟩:=h
 exact ⟨A,p,h1.kept hb,StrsIn.kept h2 hb,h3,h4,h5.trans (hb.mono h5.size)⟩
def OneP (B:Nat)(q:PartP):Value→World→Prop:=fun v w=>∃ cv,SliceOf w 4 v 1 (partK.cells (cv,q))∧timesK.In (Fresh B) w cv q.cells
theorem OneP.kept {B:Nat}{q:PartP}:∀ (v:Value)(w w':World),Below w.heap.size w w'→OneP B q v w→OneP B q v w':=fun v w w' hb h=>by
 obtain ⟨cv,h1,h2⟩:=h
 exact ⟨cv,SliceOf.later h1 hb,h2.kept hb⟩
theorem partK_lit (w:World)(T:TypeId)(t:Value×PartP):SliceOf (w.alloc (.cells #[.int .i64 t.2.n,.int .i64 (toW t.2.s).1,.int .u64 (toW t.2.s).2,t.1] T)) 4 (.slice (some ⟨w.heap.size,0,none⟩) 1 1) 1 (partK.cells t) :=
 (Own.lit (B:=0) (size:=4) w #[.int .i64 t.2.n,.int .i64 (toW t.2.s).1,.int .u64 (toW t.2.s).2,t.1] T 1 (Nat.zero_le _) (by unfold maxLen;omega) rfl).slice
def WGrow (w w3:World)(bs:List (Nat×List Value))(kv:Value)(key:List ByteArray)(tv:List (Value×PartP))(q:PartP):Value→World→Prop:=fun v wx=>∃ cv,Bxs w wx bs∧partK.Mine (Fresh w3.heap.size) wx w3.heap.size v (tv++[(cv,q)])∧StrsIn wx kv key∧w3.heap.size≤wx.heap.size
theorem WGrow.kept {w w3:World}{bs:List (Nat×List Value)}{kv:Value}{key:List ByteArray}{tv:List (Value×PartP)}{q:PartP}:∀ (v:Value)(wx wy:World),Below wx.heap.size wx wy→WGrow w w3 bs kv key tv q v wx→WGrow w w3 bs kv key tv q v wy:=fun v wx wy hb h=>by
 obtain ⟨cv,h1,h2,h3,h4⟩:=h
 exact ⟨cv,h1.kept hb,h2.later hb,StrsIn.kept h3 hb,Nat.le_trans h4 hb.size⟩
def WEnd (w w3:World)(bs:Value→List (Nat×List Value))(kv:Value)(key:List ByteArray)(tv:List (Value×PartP))(q:PartP)(wx:World):Prop:=∃ z,WGrow w w3 (bs z) kv key tv q z wx
theorem WEnd.kept {w w3 wx wy:World}{bs:Value→List (Nat×List Value)}{kv:Value}{key:List ByteArray}{tv:List (Value×PartP)}{q:PartP}(hb:Below wx.heap.size wx wy)(h:WEnd w w3 bs kv key tv q wx):WEnd w w3 bs kv key tv q wy:=by
 obtain ⟨z,h⟩:=h
 exact ⟨z,WGrow.kept z _ _ hb h⟩
def GroupEnd (w:World)(g:GroupP)(e:Ending)(w':World):Prop:=∃ kv pv,e=.returned (groupA kv pv g.n)∧groupK.R (Fresh w.heap.size) w' (kv,pv,g)∧Below w.heap.size w w'
def FitG (g:GroupP):Prop:=g.n.natAbs≤1152921504606846976∧g.key.length≤1000000∧∀ p∈g.parts,FitP p
theorem fit_zero:FitP part0:=⟨by decide,by decide,by decide,fun t ht=>absurd ht (by simp [part0])⟩
theorem fit_at {g:GroupP}(h:FitG g)(k:Nat):FitP (g.parts.getD k part0):=by
 rw [List.getD_eq_getElem?_getD]
 cases hk:g.parts[k]? with
 | none=>exact fit_zero
 | some p=>exact h.2.2 p (List.mem_of_getElem? hk)
set_option maxHeartbeats 4000000 in
set_option maxRecDepth 100000 in
theorem gwith_calls {w:World}{gv av rv:Value}{G:GroupP}{gs:List (Int×Int)}{l:List Tm}(hg:GroupIn (fun _=>True) w gv G)(ha:OnIn w av gs)(hr:TimesIn w rv l)(hf:FitG G)(hl:l.length≤100000)(hw:wtW l≤1152921504606846976)(hgs:gs.length≤1000000) :
  Calls Tryz.prog 33 #[gv,av,rv] w (GroupEnd w (withG G gs l)):=by
 obtain ⟨i0,hi,hz0,hz1,hz2⟩:=info_parts Tryz.infoG72
 obtain ⟨kv,pv,rfl,⟨hkey,_⟩,hparts⟩:=hg
 change StrsIn w kv G.key at hkey
 obtain ⟨Ak,pk,rfl,_⟩:=one_at hkey
 change partK.In _ w pv G.parts at hparts
 obtain ⟨ptv,Ap,pp,hpe,rfl,_,_,hpat⟩:=hparts.at_
 obtain ⟨Aa,ca,rfl,_,haat⟩:=on_at ha
 obtain ⟨Ar,pr,rfl⟩:=times_slice hr
 have hst:=((Bxs.start w).lay 46 #[.slice Ak G.key.length pk,.int .i64 G.n,.slice Ap G.parts.length pp]).lay 46 #[.slice none 0 0,.int .i64 0,.slice none 0 0]
 rw [show (w.alloc (.cells #[.slice Ak G.key.length pk,.int .i64 G.n,.slice Ap G.parts.length pp] 46)).heap.size=w.heap.size+1 by simp] at hst
 have HST:Hid (Bxs w ((w.alloc (.cells #[.slice Ak G.key.length pk,.int .i64 G.n,.slice Ap G.parts.length pp] 46)).alloc (.cells #[.slice none 0 0,.int .i64 0,.slice none 0 0] 46)) [(w.heap.size,[.slice Ak G.key.length pk,.int .i64 G.n,.slice Ap G.parts.length pp]),(w.heap.size+1,[.slice none 0 0,.int .i64 0,.slice none 0 0])]):=hst
 have HPAT:=Lib.hid hpat
 have HAAT:=Lib.hid haat
 have HRI:=Lib.hid hr
 have HKY:=Lib.hid (StrsIn.kept hkey hst.below)
 have HKL:=Lib.hid hf.2.1
 have HFT:=Lib.hid (fun k=>fit_at hf k)
 have hmn:=gmany_le l
 have hgn:=hf.1
 have q1:IntKind.i64.wrap (G.n+manyL l)=G.n+manyL l:=IntWalk.i64_in _ (by omega)
 have HMY:Hid (∀ W,Below ((w.alloc (.cells #[.slice Ak G.key.length pk,.int .i64 G.n,.slice Ap G.parts.length pp] 46)).alloc (.cells #[.slice none 0 0,.int .i64 0,.slice none 0 0] 46)).heap.size ((w.alloc (.cells #[.slice Ak G.key.length pk,.int .i64 G.n,.slice Ap G.parts.length pp] 46)).alloc (.cells #[.slice none 0 0,.int .i64 0,.slice none 0 0] 46)) W→GivesAt Tryz.prog 51 #[.slice Ar l.length pr] W (.int .i64 (manyL l))):=fun W hW=>gmany_calls ((hr.kept hst.below).kept hW) (by omega)
 have HLL:=Lib.hid hl
 have HLW:=Lib.hid hw
 clear hst hpat haat hr hkey hf hmn hgn hl hw hparts ha
 obtain ⟨nn,hnn⟩:∃ nn,G.n+manyL l=nn:=⟨_,rfl⟩
 have HNK:Hid (withG G gs l=⟨G.key,nn,partsW G.parts gs l⟩):=by
  show _=_
  unfold withG
  rw [hnn]
 replace q1:=q1.trans hnn
 generalize manyL l=mc at *
 clear hnn
 unfold groupA
 go_enter Tryz.func33,Tryz.ntmps33
 go_wp2_with fail
 generalize World.alloc (World.alloc w _) _=w2 at *
 refine wp_region_m (bxC w2 9 10 [.slice none 0 0,.int .i64 0,.slice none 0 0]) (fun k=>k==9||k==10) (fun k m=>(m==9&&[].contains k)||(m==10&&[0,1,2,3,4,5,6,7,8,9].contains k)) (fun k m=>(m==9&&[10].contains k)||(m==10&&[].contains k)) (fun m v w w1=>match m with|9=>Below w.heap.size w w1∧v=ptrV w.heap.size|_=>True) (by kernel_rfl) (by kernel_rfl) (by kernel_rfl) (by kernel_rfl) (by intro m hm;revert hm;simp;try omega) (bxC_stable w2 9 10 [.slice none 0 0,.int .i64 0,.slice none 0 0]) (bxC_start w2 9 10 [.slice none 0 0,.int .i64 0,.slice none 0 0]) ?_
 refine m_fix rfl ?_
 apply Exists.intro
 refine ⟨fun ph a wz hp hc hk hf K hK=>?_,?_⟩
 ·have h3:=hk 3 (by kernel_rfl)
  clear hk hf hc
  go_simp
  exact hK _ _ (Below.refl _ _) rfl
 refine m_fix rfl ?_
 apply Exists.intro
 refine ⟨fun ph a wz hp hc hk hf K hK=>?_,?_⟩
 ·have hb:Below w2.heap.size w2 wz:=hc.1
  have h11:=mheld_isV hf 0 rfl (by kernel_rfl)
  clear hk hf hc
  obtain ⟨⟨c0,c1,c2⟩,_⟩:=((HST.out.kept hb).box 0 rfl).three
  go_simp
  exact hK _ _ (Below.refl _ _) rfl
 refine m_var (keyM 9 10 w2.heap.size G.key id) rfl stable_keyM (fun ph a wz hp hc hk hf K hK=>?_) ?_
 ·have hb:Below w2.heap.size w2 wz:=hc.1
  have h12:=mheld_isV hf 0 rfl (by kernel_rfl)
  clear hk hf
  obtain ⟨⟨c0,c1,c2⟩,_⟩:=((HST.out.kept hb).box 0 rfl).three
  go_simp
  refine Calls.mono (clone_row_calls (StrsIn.kept HKY.out hb) HKL.out) ?_
  rintro e w9 ⟨A9,p9,rfl,hs9,hf9,hq⟩
  refine hK _ _ hq (fun _=>⟨A9,p9,rfl,hs9,hf9.mono hb.size,fun b hb2=>?_⟩)
  obtain ⟨b2,e2,h1,h2⟩:=hc.2 (hp.1 10 rfl rfl) _ hb2
  simp only [Value.pointer.injEq,Option.some.injEq,Addr.mk.injEq,and_true] at e2
  subst e2
  exact RowOff.of_fresh hf9 fun k hk=>by
   simp only [Value.ownBlock,Option.some.injEq] at hk
   have:=h2.lt
   omega
 refine m_fix rfl ?_
 apply Exists.intro
 refine ⟨fun ph a wz hp hc hk hf K hK=>?_,?_⟩
 ·have h3:=hk 3 (by kernel_rfl)
  clear hk hf hc
  go_simp
  exact hK _ _ (Below.refl _ _) rfl
 refine m_fix rfl ?_
 apply Exists.intro
 refine ⟨fun ph a wz hp hc hk hf K hK=>?_,?_⟩
 ·have hb:Below w2.heap.size w2 wz:=hc.1
  have h14:=mheld_isV hf 0 rfl (by kernel_rfl)
  clear hk hf hc
  obtain ⟨⟨c0,c1,c2⟩,_⟩:=((HST.out.kept hb).box 0 rfl).three
  go_simp
  exact hK _ _ (Below.refl _ _) rfl
 refine m_fix rfl ?_
 apply Exists.intro
 refine ⟨fun ph a wz hp hc hk hf K hK=>?_,?_⟩
 ·have h2:=hk 2 (by kernel_rfl)
  clear hk hf hc
  go_simp
  exact hK _ _ (Below.refl _ _) rfl
 refine m_fix rfl ?_
 apply Exists.intro
 refine ⟨fun ph a wz hp hc hk hf K hK=>?_,?_⟩
 ·have hb:Below w2.heap.size w2 wz:=hc.1
  have h16:=mheld_isV hf 0 rfl (by kernel_rfl)
  clear hk hf hc
  obtain ⟨⟨c0,c1,c2⟩,_⟩:=((HST.out.kept hb).box 0 rfl).three
  go_simp
  refine Calls.mono (HMY.out wz hb) ?_
  rintro e w1 ⟨rfl,hq⟩
  exact hK _ _ hq rfl
 refine m_fix rfl ?_
 apply Exists.intro
 refine ⟨fun ph a wz hp hc hk hf K hK=>?_,?_⟩
 ·have h15:=mheld_isV hf 2 rfl (by kernel_rfl)
  have h17:=mheld_isV hf 0 rfl (by kernel_rfl)
  clear hk hf hc
  go_simp
  exact hK _ _ (Below.refl _ _) rfl
 refine m_var (keyM 9 10 w2.heap.size G.key (aggF nn)) rfl stable_keyM (fun ph a wz hp hc hk hf K hK=>?_) ?_
 ·have hb:Below w2.heap.size w2 wz:=hc.1
  obtain ⟨v13,h13,S13⟩:=mheld_at hf 5 rfl (by kernel_rfl)
  have h18:=mheld_isV hf 0 rfl (by kernel_rfl)
  clear hk hf
  obtain ⟨⟨c0,c1,c2⟩,_⟩:=((HST.out.kept hb).box 0 rfl).three
  obtain ⟨A8,p8,rfl,s8,f8,o8⟩:=S13 (hp.1 10 rfl rfl)
  dsimp only [id] at h13
  go_simp
  exact hK _ _ (Below.refl _ _) (fun _=>⟨A8,p8,rfl,s8,f8,o8⟩)
 refine m_store (bxM 9) rfl stable_bxM (fun ph a wz hp hph hc hk hf K hK=>?_) ?_
 ·have hb:Below w2.heap.size w2 wz:=hc.1
  clear hk hf
  go_simp
  refine hK _ _ ⟨Below.alloc (.refl _ _) (Nat.le_refl _) _,rfl⟩ ⟨hc.1.trans ((Below.alloc (.refl _ _) (Nat.le_refl _) _).mono hc.1.size),fun _ p hp9=>?_⟩ (setP_self _ _ _)
  rw [setP_self] at hp9
  obtain rfl:=Option.some.inj hp9
  exact ⟨_,rfl,hb.size,cbox_lit _ _ _⟩
 refine m_store (bxEndM w2 9 (WithB w2 G.key nn)) rfl (stable_bxEndM WithB.kept) (fun ph a wz hp hph hc hk hf K hK=>?_) ?_
 ·have hb:Below w2.heap.size w2 wz:=hc.1
  obtain ⟨v7,h7,S7⟩:=mheld_at hf 0 rfl (by kernel_rfl)
  obtain ⟨v19,h19,S19⟩:=mheld_at hf 1 rfl (by kernel_rfl)
  clear hk hf
  obtain ⟨b2,rfl,hb3,hbx⟩:=hc.2 hph _ S7
  obtain ⟨A8,p8,rfl,s8,f8,o8⟩:=S19 hph
  unfold aggF at h19
  obtain ⟨⟨c0,c1,c2⟩,f0,f1,f2⟩:=hbx.three
  have hp3:=hbx.three_put (a':=.slice A8 G.key.length p8) (b':=.int .i64 nn) (c':=.slice none 0 0)
  have hof:=StrsIn.off s8 (o8 b2 S7) (three_grown wz b2 (.slice A8 G.key.length p8) (.int .i64 nn) (.slice none 0 0))
  have hbe:=below_three hb hb3 (.slice A8 G.key.length p8) (.int .i64 nn) (.slice none 0 0)
  have hlt:=hbx.lt
  have HST2:=Lib.hid hp3
  have HOF:=Lib.hid hof
  have HBE:=Lib.hid hbe
  have HS7:=Lib.hid S7
  have HO8:=Lib.hid (o8 b2 S7)
  clear hp3 hof hbe hbx S7 S19 hc hp s8 o8
  go_simp
  exact hK undef _ trivial ⟨HBE.out,fun h=>by rw [setP_self] at h;cases h⟩ (fun p hp9=>by
   rw [setP_ne _ (by decide),HS7.out] at hp9
   obtain rfl:=Option.some.inj hp9
   exact ⟨_,rfl,hb3,A8,p8,HST2.out,HOF.out,f8,HO8.out,HBE.out⟩)
 refine m_nil ?_
 refine ⟨keeps_m (fun m hm=>?_),?_⟩
 ·have hm2:m=9∨m=10:=by simpa [or_assoc] using hm
  rcases hm2 with rfl|rfl
  ·exact ⟨.inr (.inr (keep_isV _)),.inr (.inr (keep_isV _)),.inr (.inr (keep_key_box (by decide) fun _ _ _ h=>h)),.inr (.inr (keep_isV _)),.inr (.inr (keep_isV _)),.inr (.inr (keep_isV _)),.inr (.inr (keep_isV _)),.inr (.inr (keep_isV _)),.inr (.inr (keep_key_box (by decide) fun _ _ _ h=>h)),.inl rfl,.inr (.inl rfl),trivial⟩
  ·exact ⟨.inr (.inr (keep_isV _)),.inr (.inr (keep_isV _)),.inr (.inr keep_key_self),.inr (.inr (keep_isV _)),.inr (.inr (keep_isV _)),.inr (.inr (keep_isV _)),.inr (.inr (keep_isV _)),.inr (.inr (keep_isV _)),.inr (.inr keep_key_self),.inr (.inr (keep_bx (by decide))),.inl rfl,trivial⟩
 intro ph w3 hps hc
 simp only [mlexL,mEnd]
 rintro _ rfl _ rfl v13 S13 _ rfl _ rfl _ rfl _ rfl _ rfl v19 S19 v7 S7 _ hst10
 obtain ⟨g,rfl,hg2,A3,p3,hbx,hs3,hf3,ho3,hb3⟩:=hst10 v7 S7
 simp only [Act.put,List.setIfInBounds_toArray,List.set_cons_zero,List.set_cons_succ]
 have hb03:=HST.out.below.trans (hb3.mono HST.out.below.size)
 have HW3:=Lib.hid hb03.size
 have hlt:=(HST.out.box 1 rfl).lt
 have hbx3:=(HST.out.kept hb3).more hbx (fun q hq e=>by
  simp only [List.mem_cons,List.not_mem_nil,or_false] at hq
  rcases hq with rfl|rfl <;> (dsimp only at e hlt;omega)) (Nat.le_trans HST.out.below.size hg2)
 have HG3:Hid (w.heap.size+1 < g∧g < w3.heap.size):=⟨by dsimp only at hlt;omega,hbx.lt⟩
 have HS3:=Lib.hid hs3
 have HF3:=Lib.hid (hf3.mono HST.out.below.size)
 have HO3:=Lib.hid ho3
 have HF1:Hid (RowOff (cboxV (w.heap.size+1)) (.slice A3 G.key.length p3)):=RowOff.of_fresh hf3 fun k hk=>by
  simp only [Value.ownBlock,Option.some.injEq] at hk
  dsimp only at hlt
  omega
 have HL3:=Lib.hid hs3.lain
 have HB3:=Lib.hid hb03
 have HBX0:Hid (Bxs w w3 ((fun z=>[(w.heap.size,[.slice Ak G.key.length pk,.int .i64 G.n,.slice Ap G.parts.length pp]),(w.heap.size+1,[.slice none 0 0,.int .i64 0,.slice none 0 0]),(g,[.slice A3 G.key.length p3,.int .i64 nn,z])]) (.slice none 0 0))):=hbx3
 clear hbx hs3 hf3 ho3 hb3 hbx3 hlt hc hps S7 S13 S19 hst10 HMY HKY HST hb03 hg2
 go_wp2_with fail
 go_loopw [22] (fun i wr=>∃ k:Nat,k≤gs.length∧i=.int .i64 k∧Hid (∃ v tv,tv.map Prod.snd=(partsW G.parts gs l).take k∧Bxs w wr ((fun z=>[(w.heap.size,[.slice Ak G.key.length pk,.int .i64 G.n,.slice Ap G.parts.length pp]),(w.heap.size+1,[.slice none 0 0,.int .i64 0,.slice none 0 0]),(g,[.slice A3 G.key.length p3,.int .i64 nn,z])]) v)∧partK.Mine (Fresh w3.heap.size) wr w3.heap.size v tv∧StrsIn wr (.slice A3 G.key.length p3) G.key∧w3.heap.size≤wr.heap.size)) (fun i _=>gs.length-(intOf i).toNat)
 case atStart=>exact ⟨0,Nat.zero_le _,rfl,Lib.hid ⟨_,[],rfl,HBX0.out,Kin.Mine.nil_ _ _ _,HS3.out,Nat.le_refl _⟩⟩
 case round =>
  obtain ⟨k,hk,rfl,HZ⟩:=hrel
  obtain ⟨v,tv,htv,hbx,hm,hks,hsz3⟩:=HZ.out
  obtain ⟨A9,p9,rfl⟩:=hm.slice
  have hbw:=hbx.below
  have HTV:=Lib.hid htv
  by_cases hlt:k < gs.length
  ·obtain ⟨ba,oa,rfl,hal,hac⟩:=HAAT.out k hlt
   obtain ⟨a0,a1⟩:=hac k hlt
   replace a0:=(hbw.cell (p:=⟨ba,oa+k*2,none⟩) hal).trans a0
   replace a1:=(hbw.cell (p:=⟨ba,oa+k*2+1,none⟩) hal).trans a1
   have HTK:=Lib.hid (parts_take gs G.parts l k hlt)
   have htl:tv.length≤k:=by
    have:=congrArg List.length htv
    rw [List.length_map,List.length_take] at this
    omega
   have HTL:Hid (tv.length≤1000000):=by show _≤_;omega
   have HFK:=Lib.hid (HFT.out k)
   have HLK:Hid (k < gs.length):=hlt
   have i1:(k:Int) < (gs.length:Int):=by omega
   clear hac htv HZ
   generalize gs[k]=a at *
   obtain ⟨way,col⟩:=a
   dsimp only at *
   have HBXR:=Lib.hid hbx
   have HMR:=Lib.hid hm
   have HKSR:=Lib.hid hks
   have hksl:=hks.lain
   have HSZR:Hid (w3.heap.size≤wr.heap.size):=hsz3
   have HBY:Hid (Below w.heap.size w wr):=hbw
   have hq4:=Below.alloc (.refl wr.heap.size wr) (Nat.le_refl _) (.cells #[.int .i64 way,.int .i64 col] 28)
   obtain ⟨⟨y0,y1,y2⟩,_⟩:=((hbx.kept (hq4.alloc hq4.size (.cells #[.int .i64 0,.int .i64 0,.int .u64 0,.slice none 0 0] 72))).box 0 rfl).three
   clear hbx hm hks hq4
   by_cases hkp:k < G.parts.length
   ·obtain ⟨bp,op,rfl,hpl,hpc⟩:=HPAT.out k hkp
    obtain ⟨⟨cv,q0⟩,_,_,hq0,hr0,hc0⟩:=hpc k hkp
    change q0=_ at hq0
    change timesK.In _ w cv q0.cells at hr0
    have x0:=(hbw.cell (p:=⟨bp,op+k*4+0,none⟩) hpl).trans (hc0 0 _ rfl)
    have x1:=(hbw.cell (p:=⟨bp,op+k*4+1,none⟩) hpl).trans (hc0 1 _ rfl)
    have x2:=(hbw.cell (p:=⟨bp,op+k*4+2,none⟩) hpl).trans (hc0 2 _ rfl)
    have x3:=(hbw.cell (p:=⟨bp,op+k*4+3,none⟩) hpl).trans (hc0 3 _ rfl)
    rw [Nat.add_zero] at x0
    have HGD:Hid (G.parts.getD k part0=q0):=by
     show _=_
     rw [List.getD_eq_getElem?_getD,List.getElem?_eq_getElem hkp,hq0];rfl
    rw [HGD.out] at HTK HFK
    obtain ⟨Ac,pc,rfl⟩:=hr0.slice
    have HR4:=Lib.hid (hr0.kept hbw)
    have i2:(k:Int) < (G.parts.length:Int):=by omega
    dsimp only at x0 x1 x2 x3
    generalize hs5:toW q0.s=s5 at *
    have HSQ:=Lib.hid hs5
    obtain ⟨s1,s2⟩:=s5
    dsimp only at x0 x1 x2 x3
    clear hpc hr0 hc0 hq0 hs5
    have hqa:=Below.alloc (.refl wr.heap.size wr) (Nat.le_refl _) (.cells #[.int .i64 way,.int .i64 col] 28)
    have hqz:=hqa.alloc hqa.size (.cells #[.int .i64 0,.int .i64 0,.int .u64 0,.slice none 0 0] 72)
    have x0:=cell_kept x0 hqz
    have x1:=cell_kept x1 hqz
    have x2:=cell_kept x2 hqz
    have x3:=cell_kept x3 hqz
    have hqb:=hqa.alloc hqa.size (.cells #[.int .i64 q0.n,.int .i64 s1,.int .u64 s2,.slice Ac q0.cells.length pc] 72)
    have hb5:=(HBXR.out.lay 28 #[.int .i64 way,.int .i64 col]).lay 72 #[.int .i64 q0.n,.int .i64 s1,.int .u64 s2,.slice Ac q0.cells.length pc]
    rw [show (wr.alloc (.cells #[.int .i64 way,.int .i64 col] 28)).heap.size=wr.heap.size+1 by simp] at hb5
    have HBX:Hid (Bxs w ((wr.alloc (.cells #[.int .i64 way,.int .i64 col] 28)).alloc (.cells #[.int .i64 q0.n,.int .i64 s1,.int .u64 s2,.slice Ac q0.cells.length pc] 72)) [(w.heap.size,[.slice Ak G.key.length pk,.int .i64 G.n,.slice (some ⟨bp,op,none⟩) G.parts.length pp]),(w.heap.size+1,[.slice none 0 0,.int .i64 0,.slice none 0 0]),(g,[.slice A3 G.key.length p3,.int .i64 nn,.slice A9 tv.length p9]),(wr.heap.size,[.int .i64 way,.int .i64 col]),(wr.heap.size+1,[.int .i64 q0.n,.int .i64 s1,.int .u64 s2,.slice Ac q0.cells.length pc])]):=hb5
    have HOW:=Lib.hid (HMR.out.later hqb)
    have HKS:=Lib.hid (StrsIn.kept HKSR.out hqb)
    have HPI:=Lib.hid (HR4.out.kept hqb)
    have HS5:=Lib.hid hqb.size
    clear hqa hqb hb5 HBXR HMR HKSR HR4
    go_wp2_with fail
    generalize (wr.alloc (.cells #[.int .i64 way,.int .i64 col] 28)).alloc (.cells #[.int .i64 q0.n,.int .i64 s1,.int .u64 s2,.slice Ac q0.cells.length pc] 72)=w5 at *
    clear hqz
    have HPT:Hid (∀ W,Below w5.heap.size w5 W→Calls Tryz.prog 52 #[.agg #[.int .i64 q0.n,.int .i64 s1,.int .u64 s2,.slice Ac q0.cells.length pc],.agg #[.int .i64 way,.int .i64 col],.slice Ar l.length pr] W (PartEnd W (partW q0 (way,col) l))):=fun W hW=>gpart_calls (way,col) ⟨_,(by unfold partA;rw [HSQ.out]),HPI.out.kept hW⟩ ((HRI.out.kept HBX.out.below).kept hW) HFK.out HLL.out HLW.out
    have HVO:Hid (RowOff (.slice A9 tv.length p9) (.slice A3 G.key.length p3)):=HL3.out.apart fun k hk=>(HOW.out.lt k hk).1
    have HSZ:Hid (w3.heap.size≤w5.heap.size):=Lib.hid (Nat.le_trans HSZR.out HS5.out)
    have HBTR:Hid (Bxs w w5 ((fun z=>[(w.heap.size,[.slice Ak G.key.length pk,.int .i64 G.n,.slice (some ⟨bp,op,none⟩) G.parts.length pp]),(w.heap.size+1,[.slice none 0 0,.int .i64 0,.slice none 0 0]),(g,[.slice A3 G.key.length p3,.int .i64 nn,z])]) (.slice A9 tv.length p9))):=HBX.out.front 3
    generalize partW q0 (way,col) l=q at *
    clear y0 y1 y2 a0 a1 x0 x1 x2 x3
    refine wp_region_m (offM 7 w5) (fun k=>k==7||k==9) (fun k m=>(m==7&&[0,1,2,3,4,5,6].contains k)||(m==9&&[0,1,2,3,4,5,6,7,8].contains k)) (fun k m=>(m==7&&[8,9].contains k)||(m==9&&[].contains k)) (fun _ _ _ _=>True) (by kernel_rfl) (by kernel_rfl) (by kernel_rfl) (by kernel_rfl) (by intro m hm;revert hm;simp;try omega) (offM_stable _ _) (offM_start _ _) ?_
    refine m_fix rfl ?_
    apply Exists.intro
    refine ⟨fun ph a wz hp hc hk hf K hK=>?_,?_⟩
    ·have h7:=hk 7 (by kernel_rfl)
     clear hk hf hc
     go_simp
     exact hK _ _ (Below.refl _ _) rfl
    refine m_fix rfl ?_
    apply Exists.intro
    refine ⟨fun ph a wz hp hc hk hf K hK=>?_,?_⟩
    ·have hb:Below w5.heap.size w5 wz:=hc (hp.1 7 rfl rfl)
     have h37:=mheld_isV hf 0 rfl (by kernel_rfl)
     clear hk hf hc
     obtain ⟨⟨c0,c1,c2⟩,_⟩:=((HBX.out.kept hb).box 2 rfl).three
     obtain ⟨⟨a0,a1⟩,_⟩:=((HBX.out.kept hb).box 3 rfl).two
     obtain ⟨⟨b0,b1,b2,b3⟩,_⟩:=((HBX.out.kept hb).box 4 rfl).four
     go_simp
     exact hK _ _ (Below.refl _ _) rfl
    refine m_fix rfl ?_
    apply Exists.intro
    refine ⟨fun ph a wz hp hc hk hf K hK=>?_,?_⟩
    ·have hb:Below w5.heap.size w5 wz:=hc (hp.1 7 rfl rfl)
     have h10:=hk 10 (by kernel_rfl)
     clear hk hf hc
     obtain ⟨⟨c0,c1,c2⟩,_⟩:=((HBX.out.kept hb).box 2 rfl).three
     obtain ⟨⟨a0,a1⟩,_⟩:=((HBX.out.kept hb).box 3 rfl).two
     obtain ⟨⟨b0,b1,b2,b3⟩,_⟩:=((HBX.out.kept hb).box 4 rfl).four
     go_simp
     exact hK _ _ (Below.refl _ _) rfl
    refine m_fix rfl ?_
    apply Exists.intro
    refine ⟨fun ph a wz hp hc hk hf K hK=>?_,?_⟩
    ·have hb:Below w5.heap.size w5 wz:=hc (hp.1 7 rfl rfl)
     have h9:=hk 9 (by kernel_rfl)
     clear hk hf hc
     obtain ⟨⟨c0,c1,c2⟩,_⟩:=((HBX.out.kept hb).box 2 rfl).three
     obtain ⟨⟨a0,a1⟩,_⟩:=((HBX.out.kept hb).box 3 rfl).two
     obtain ⟨⟨b0,b1,b2,b3⟩,_⟩:=((HBX.out.kept hb).box 4 rfl).four
     go_simp
     exact hK _ _ (Below.refl _ _) rfl
    refine m_fix rfl ?_
    apply Exists.intro
    refine ⟨fun ph a wz hp hc hk hf K hK=>?_,?_⟩
    ·have h2:=hk 2 (by kernel_rfl)
     clear hk hf hc
     go_simp
     exact hK _ _ (Below.refl _ _) rfl
    refine m_var (tillM 7 (fun v w=>PartIn (Fresh w5.heap.size) w v q)) rfl (stable_tillM (fun _ _ _ hb h=>PartIn.kept h hb)) (fun ph a wz hp hc hk hf K hK=>?_) ?_
    ·have hb:Below w5.heap.size w5 wz:=hc (hp.1 7 rfl rfl)
     have h39:=mheld_isV hf 2 rfl (by kernel_rfl)
     have h40:=mheld_isV hf 1 rfl (by kernel_rfl)
     have h41:=mheld_isV hf 0 rfl (by kernel_rfl)
     clear hk hf
     obtain ⟨⟨c0,c1,c2⟩,_⟩:=((HBX.out.kept hb).box 2 rfl).three
     obtain ⟨⟨a0,a1⟩,_⟩:=((HBX.out.kept hb).box 3 rfl).two
     obtain ⟨⟨b0,b1,b2,b3⟩,_⟩:=((HBX.out.kept hb).box 4 rfl).four
     go_simp
     refine Calls.mono (HPT.out wz hb) ?_
     rintro e w9 ⟨c9,rfl,hc9,hq⟩
     exact hK _ _ hq (fun _=>⟨c9,rfl,hc9.mono fun u hu=>hu.mono hb.size⟩)
    refine m_var (tillM 7 (OneP w5.heap.size q)) rfl (stable_tillM OneP.kept) (fun ph a wz hp hc hk hf K hK=>?_) ?_
    ·have hb:Below w5.heap.size w5 wz:=hc (hp.1 7 rfl rfl)
     obtain ⟨v42,h42,S42⟩:=mheld_at hf 0 rfl (by kernel_rfl)
     replace S42:=S42 (hp.1 7 rfl rfl)
     clear hk hf
     obtain ⟨⟨c0,c1,c2⟩,_⟩:=((HBX.out.kept hb).box 2 rfl).three
     obtain ⟨⟨a0,a1⟩,_⟩:=((HBX.out.kept hb).box 3 rfl).two
     obtain ⟨⟨b0,b1,b2,b3⟩,_⟩:=((HBX.out.kept hb).box 4 rfl).four
     obtain ⟨c8,rfl,s8⟩:=S42
     unfold partA at h42
     go_simp
     exact hK _ _ (Below.alloc (.refl _ _) (Nat.le_refl _) _) (fun _=>⟨c8,partK_lit _ _ _,s8.kept (Below.alloc (.refl _ _) (Nat.le_refl _) _)⟩)
    refine m_store (tillM 9 (WGrow w w3 ((fun z=>[(w.heap.size,[.slice Ak G.key.length pk,.int .i64 G.n,.slice (some ⟨bp,op,none⟩) G.parts.length pp]),(w.heap.size+1,[.slice none 0 0,.int .i64 0,.slice none 0 0]),(g,[.slice A3 G.key.length p3,.int .i64 nn,z])]) (.slice A9 tv.length p9)) (.slice A3 G.key.length p3) G.key tv q)) rfl (stable_tillM WGrow.kept) (fun ph a wz hp hph hc hk hf K hK=>?_) ?_
    ·have hb:Below w5.heap.size w5 wz:=hc hph
     have h38:=mheld_isV hf 5 rfl (by kernel_rfl)
     obtain ⟨v43,h43,S43⟩:=mheld_at hf 0 rfl (by kernel_rfl)
     replace S43:=S43 hph
     clear hk hf
     obtain ⟨c8,s8,t8⟩:=S43
     have hT8:=HOW.out.later hb
     have hO8:=hT8.own
     refine step_append_srcS rfl (.tmp 38) (.tmp 43) 44 rfl 72 i0 (.agg #[.int .i64 0,.int .i64 0,.int .u64 0,.slice none 0 0]) 4 48 Tryz.underlying44 hi hz0 hz1 hz2 rfl (by decide) (B:=w3.heap.size) (.slice A9 tv.length p9) tv.length (partK.flat tv) ?_ hO8 _ 1 (partK.cells (c8,q)) ?_ s8 (partK.one (t:=(c8,q)) t8) ?_ ?_ ?_ fun v' w' r1 r2 r3 r4=>?_
     ·simp [Act.eval,h38]
     ·simp [Act.eval,h43]
     ·have:=HTL.out;unfold maxLen;omega
     ·have:=HTL.out;omega
     ·exact Nat.le_trans HSZ.out hb.size
     have hm:=hT8.add (t:=(c8,q)) (partK.mono (t:=(c8,q)) t8 fun u hu=>⟨hu.mono HSZ.out,RowOff.of_fresh hu fun k hk=>(HOW.out.lt k hk).2⟩) r2 r3 r1 rfl
     refine hK _ _ trivial (fun h=>by rw [setP_self] at h;cases h) (fun _=>⟨c8,(HBTR.out.kept hb).grown r2 fun k hk=>⟨Nat.le_trans HW3.out (HOW.out.lt k hk).1,fun q hq e=>?_⟩,hm,StrsIn.off (StrsIn.kept HKS.out hb) HVO.out r2,Nat.le_trans HSZ.out (Nat.le_trans hb.size r2.size)⟩)
     have h1:=(HOW.out.lt k hk).1
     have h2:=HG3.out
     simp only [List.mem_cons,List.not_mem_nil,or_false] at hq
     rcases hq with rfl|rfl|rfl <;> (simp only at e;omega)
    refine m_fix rfl ?_
    apply Exists.intro
    refine ⟨fun ph a wz hp hc hk hf K hK=>?_,?_⟩
    ·have h7:=hk 7 (by kernel_rfl)
     clear hk hf hc
     go_simp
     exact hK _ _ (Below.refl _ _) rfl
    refine m_store (fun _ _ wx=>WEnd w w3 (fun z=>[(w.heap.size,[.slice Ak G.key.length pk,.int .i64 G.n,.slice (some ⟨bp,op,none⟩) G.parts.length pp]),(w.heap.size+1,[.slice none 0 0,.int .i64 0,.slice none 0 0]),(g,[.slice A3 G.key.length p3,.int .i64 nn,z])]) (.slice A3 G.key.length p3) G.key tv q wx) rfl (fun _ _ _ _ hb h=>WEnd.kept hb h) (fun ph a wz hp hph hc hk hf K hK=>?_) ?_
    ·have h45:=mheld_isV hf 0 rfl (by kernel_rfl)
     obtain ⟨v44,h44,S44⟩:=mheld_at hf 1 rfl (by kernel_rfl)
     obtain ⟨c8,hbx,hm,hks,hsz9⟩:=S44 hph
     obtain ⟨⟨c0,c1,c2⟩,f0,f1,f2⟩:=(hbx.box 2 rfl).three
     obtain ⟨A8,p8,e8⟩:=hm.slice
     rw [List.length_append] at e8
     change v44=.slice A8 (tv.length+1) p8 at e8
     subst e8
     have HP7:=Lib.hid (hp.2 7 rfl rfl)
     have hg8:=cell_grown wz g 2 (.slice A8 (tv.length+1) p8)
     have hst:=hbx.put 2 rfl 2 (by simp) (.slice A8 (tv.length+1) p8)
     have hm2:=hm.beside (v0:=cboxV g) (fun u hu=>RowOff.of_fresh hu fun k hk=>by
      simp only [Value.ownBlock,Option.some.injEq] at hk
      have:=HG3.out
      omega) (fun k hk e=>by
      simp only [Value.ownBlock,Option.some.injEq] at hk
      have:=(hm.lt k e).1
      have:=HG3.out
      omega) hg8
     have hks2:=StrsIn.off hks HO3.out hg8
     have HF:Hid (WGrow w w3 ((fun z=>[(w.heap.size,[.slice Ak G.key.length pk,.int .i64 G.n,.slice (some ⟨bp,op,none⟩) G.parts.length pp]),(w.heap.size+1,[.slice none 0 0,.int .i64 0,.slice none 0 0]),(g,[.slice A3 G.key.length p3,.int .i64 nn,z])]) (.slice A8 (tv.length+1) p8)) (.slice A3 G.key.length p3) G.key tv q (.slice A8 (tv.length+1) p8) (wz.setCell ⟨g,2,none⟩ (.slice A8 (tv.length+1) p8))):=Lib.hid ⟨c8,hst,hm2,hks2,Nat.le_trans hsz9 hg8.size⟩
     clear hbx hm hks hst hm2 hks2 hg8 hk hf hc hp
     go_simp
     exact hK undef _ trivial (fun h=>by rw [setP_ne _ (by decide)] at h;have h7:=HP7.out;rw [h] at h7;cases h7) ⟨.slice A8 (tv.length+1) p8,HF.out⟩
    refine m_nil ?_
    refine ⟨keeps_m (fun m hm=>?_),?_⟩
    ·have hm2:m=7∨m=9:=by simpa [or_assoc] using hm
     rcases hm2 with rfl|rfl
     ·exact ⟨.inr (.inr (keep_isV _)),.inr (.inr (keep_isV _)),.inr (.inr (keep_isV _)),.inr (.inr (keep_isV _)),.inr (.inr (keep_isV _)),.inr (.inr keep_till_self),.inr (.inr keep_till_self),.inl rfl,.inr (.inl rfl),.inr (.inl rfl),trivial⟩
     ·exact ⟨.inr (.inr (keep_isV _)),.inr (.inr (keep_isV _)),.inr (.inr (keep_isV _)),.inr (.inr (keep_isV _)),.inr (.inr (keep_isV _)),.inr (.inr (keep_till_past rfl rfl (by decide))),.inr (.inr (keep_till_past rfl rfl (by decide))),.inr (.inr keep_till_self),.inr (.inr (keep_isV _)),.inl rfl,trivial⟩
    intro ph w6 hps hc
    simp only [mlexL,mEnd]
    rintro _ rfl _ rfl _ rfl _ rfl _ rfl v42 S42 v43 S43 v44 S44 _ rfl _ hst9
    obtain ⟨z6,hz6⟩:=hst9
    have HZ6:=Lib.hid hz6
    clear hz6 hc hps S42 S43 S44
    simp only [Act.put,List.setIfInBounds_toArray,List.set_cons_zero,List.set_cons_succ]
    go_wp2
    go_roundw
    case rel =>
     obtain ⟨c6,h1,h2,h3,h4⟩:=HZ6.out
     exact ⟨k+1,HLK.out,by go_num,_,_,by rw [HTK.out,List.map_append,HTV.out];rfl,h1,h2,h3,h4⟩
    case measure=>have:=HLK.out;simp [intOf];omega
   ·have HGD:Hid (G.parts.getD k part0=part0):=by
     show _=_
     rw [List.getD_eq_getElem?_getD,List.getElem?_eq_none (by omega)];rfl
    rw [HGD.out] at HTK HFK
    have i2:¬(k:Int) < (G.parts.length:Int):=by omega
    have HR4:Hid (timesK.In (fun _=>True) wr (.slice none 0 0) []):=Kin.In.nil_ _ _ _ _ trivial
    have HSQ:Hid (toW 0=(0,0)):=zero_w
    have hqa:=Below.alloc (.refl wr.heap.size wr) (Nat.le_refl _) (.cells #[.int .i64 way,.int .i64 col] 28)
    have hqb:=hqa.alloc hqa.size (.cells #[.int .i64 0,.int .i64 0,.int .u64 0,.slice none 0 0] 72)
    have hb5:=(HBXR.out.lay 28 #[.int .i64 way,.int .i64 col]).lay 72 #[.int .i64 0,.int .i64 0,.int .u64 0,.slice none 0 0]
    rw [show (wr.alloc (.cells #[.int .i64 way,.int .i64 col] 28)).heap.size=wr.heap.size+1 by simp] at hb5
    have HBX:Hid (Bxs w ((wr.alloc (.cells #[.int .i64 way,.int .i64 col] 28)).alloc (.cells #[.int .i64 0,.int .i64 0,.int .u64 0,.slice none 0 0] 72)) [(w.heap.size,[.slice Ak G.key.length pk,.int .i64 G.n,.slice Ap G.parts.length pp]),(w.heap.size+1,[.slice none 0 0,.int .i64 0,.slice none 0 0]),(g,[.slice A3 G.key.length p3,.int .i64 nn,.slice A9 tv.length p9]),(wr.heap.size,[.int .i64 way,.int .i64 col]),(wr.heap.size+1,[.int .i64 0,.int .i64 0,.int .u64 0,.slice none 0 0])]):=hb5
    have HOW:=Lib.hid (HMR.out.later hqb)
    have HKS:=Lib.hid (StrsIn.kept HKSR.out hqb)
    have HPI:=Lib.hid (HR4.out.kept hqb)
    have HS5:=Lib.hid hqb.size
    clear hqa hqb hb5 HBXR HMR HKSR HR4
    go_wp2_with fail
    generalize (wr.alloc (.cells #[.int .i64 way,.int .i64 col] 28)).alloc (.cells #[.int .i64 0,.int .i64 0,.int .u64 0,.slice none 0 0] 72)=w5 at *
    have HPT:Hid (∀ W,Below w5.heap.size w5 W→Calls Tryz.prog 52 #[.agg #[.int .i64 0,.int .i64 0,.int .u64 0,.slice none 0 0],.agg #[.int .i64 way,.int .i64 col],.slice Ar l.length pr] W (PartEnd W (partW part0 (way,col) l))):=fun W hW=>gpart_calls (way,col) ⟨_,(by unfold partA part0;rw [HSQ.out]),HPI.out.kept hW⟩ ((HRI.out.kept HBX.out.below).kept hW) HFK.out HLL.out HLW.out
    have HVO:Hid (RowOff (.slice A9 tv.length p9) (.slice A3 G.key.length p3)):=HL3.out.apart fun k hk=>(HOW.out.lt k hk).1
    have HSZ:Hid (w3.heap.size≤w5.heap.size):=Lib.hid (Nat.le_trans HSZR.out HS5.out)
    have HBTR:Hid (Bxs w w5 ((fun z=>[(w.heap.size,[.slice Ak G.key.length pk,.int .i64 G.n,.slice Ap G.parts.length pp]),(w.heap.size+1,[.slice none 0 0,.int .i64 0,.slice none 0 0]),(g,[.slice A3 G.key.length p3,.int .i64 nn,z])]) (.slice A9 tv.length p9))):=HBX.out.front 3
    generalize partW part0 (way,col) l=q at *
    clear y0 y1 y2 a0 a1
    refine wp_region_m (offM 7 w5) (fun k=>k==7||k==9) (fun k m=>(m==7&&[0,1,2,3,4,5,6].contains k)||(m==9&&[0,1,2,3,4,5,6,7,8].contains k)) (fun k m=>(m==7&&[8,9].contains k)||(m==9&&[].contains k)) (fun _ _ _ _=>True) (by kernel_rfl) (by kernel_rfl) (by kernel_rfl) (by kernel_rfl) (by intro m hm;revert hm;simp;try omega) (offM_stable _ _) (offM_start _ _) ?_
    refine m_fix rfl ?_
    apply Exists.intro
    refine ⟨fun ph a wz hp hc hk hf K hK=>?_,?_⟩
    ·have h7:=hk 7 (by kernel_rfl)
     clear hk hf hc
     go_simp
     exact hK _ _ (Below.refl _ _) rfl
    refine m_fix rfl ?_
    apply Exists.intro
    refine ⟨fun ph a wz hp hc hk hf K hK=>?_,?_⟩
    ·have hb:Below w5.heap.size w5 wz:=hc (hp.1 7 rfl rfl)
     have h37:=mheld_isV hf 0 rfl (by kernel_rfl)
     clear hk hf hc
     obtain ⟨⟨c0,c1,c2⟩,_⟩:=((HBX.out.kept hb).box 2 rfl).three
     obtain ⟨⟨a0,a1⟩,_⟩:=((HBX.out.kept hb).box 3 rfl).two
     obtain ⟨⟨b0,b1,b2,b3⟩,_⟩:=((HBX.out.kept hb).box 4 rfl).four
     go_simp
     exact hK _ _ (Below.refl _ _) rfl
    refine m_fix rfl ?_
    apply Exists.intro
    refine ⟨fun ph a wz hp hc hk hf K hK=>?_,?_⟩
    ·have hb:Below w5.heap.size w5 wz:=hc (hp.1 7 rfl rfl)
     have h10:=hk 10 (by kernel_rfl)
     clear hk hf hc
     obtain ⟨⟨c0,c1,c2⟩,_⟩:=((HBX.out.kept hb).box 2 rfl).three
     obtain ⟨⟨a0,a1⟩,_⟩:=((HBX.out.kept hb).box 3 rfl).two
     obtain ⟨⟨b0,b1,b2,b3⟩,_⟩:=((HBX.out.kept hb).box 4 rfl).four
     go_simp
     exact hK _ _ (Below.refl _ _) rfl
    refine m_fix rfl ?_
    apply Exists.intro
    refine ⟨fun ph a wz hp hc hk hf K hK=>?_,?_⟩
    ·have hb:Below w5.heap.size w5 wz:=hc (hp.1 7 rfl rfl)
     have h9:=hk 9 (by kernel_rfl)
     clear hk hf hc
     obtain ⟨⟨c0,c1,c2⟩,_⟩:=((HBX.out.kept hb).box 2 rfl).three
     obtain ⟨⟨a0,a1⟩,_⟩:=((HBX.out.kept hb).box 3 rfl).two
     obtain ⟨⟨b0,b1,b2,b3⟩,_⟩:=((HBX.out.kept hb).box 4 rfl).four
     go_simp
     exact hK _ _ (Below.refl _ _) rfl
    refine m_fix rfl ?_
    apply Exists.intro
    refine ⟨fun ph a wz hp hc hk hf K hK=>?_,?_⟩
    ·have h2:=hk 2 (by kernel_rfl)
     clear hk hf hc
     go_simp
     exact hK _ _ (Below.refl _ _) rfl
    refine m_var (tillM 7 (fun v w=>PartIn (Fresh w5.heap.size) w v q)) rfl (stable_tillM (fun _ _ _ hb h=>PartIn.kept h hb)) (fun ph a wz hp hc hk hf K hK=>?_) ?_
    ·have hb:Below w5.heap.size w5 wz:=hc (hp.1 7 rfl rfl)
     have h39:=mheld_isV hf 2 rfl (by kernel_rfl)
     have h40:=mheld_isV hf 1 rfl (by kernel_rfl)
     have h41:=mheld_isV hf 0 rfl (by kernel_rfl)
     clear hk hf
     obtain ⟨⟨c0,c1,c2⟩,_⟩:=((HBX.out.kept hb).box 2 rfl).three
     obtain ⟨⟨a0,a1⟩,_⟩:=((HBX.out.kept hb).box 3 rfl).two
     obtain ⟨⟨b0,b1,b2,b3⟩,_⟩:=((HBX.out.kept hb).box 4 rfl).four
     go_simp
     refine Calls.mono (HPT.out wz hb) ?_
     rintro e w9 ⟨c9,rfl,hc9,hq⟩
     exact hK _ _ hq (fun _=>⟨c9,rfl,hc9.mono fun u hu=>hu.mono hb.size⟩)
    refine m_var (tillM 7 (OneP w5.heap.size q)) rfl (stable_tillM OneP.kept) (fun ph a wz hp hc hk hf K hK=>?_) ?_
    ·have hb:Below w5.heap.size w5 wz:=hc (hp.1 7 rfl rfl)
     obtain ⟨v42,h42,S42⟩:=mheld_at hf 0 rfl (by kernel_rfl)
     replace S42:=S42 (hp.1 7 rfl rfl)
     clear hk hf
     obtain ⟨⟨c0,c1,c2⟩,_⟩:=((HBX.out.kept hb).box 2 rfl).three
     obtain ⟨⟨a0,a1⟩,_⟩:=((HBX.out.kept hb).box 3 rfl).two
     obtain ⟨⟨b0,b1,b2,b3⟩,_⟩:=((HBX.out.kept hb).box 4 rfl).four
     obtain ⟨c8,rfl,s8⟩:=S42
     unfold partA at h42
     go_simp
     exact hK _ _ (Below.alloc (.refl _ _) (Nat.le_refl _) _) (fun _=>⟨c8,partK_lit _ _ _,s8.kept (Below.alloc (.refl _ _) (Nat.le_refl _) _)⟩)
    refine m_store (tillM 9 (WGrow w w3 ((fun z=>[(w.heap.size,[.slice Ak G.key.length pk,.int .i64 G.n,.slice Ap G.parts.length pp]),(w.heap.size+1,[.slice none 0 0,.int .i64 0,.slice none 0 0]),(g,[.slice A3 G.key.length p3,.int .i64 nn,z])]) (.slice A9 tv.length p9)) (.slice A3 G.key.length p3) G.key tv q)) rfl (stable_tillM WGrow.kept) (fun ph a wz hp hph hc hk hf K hK=>?_) ?_
    ·have hb:Below w5.heap.size w5 wz:=hc hph
     have h38:=mheld_isV hf 5 rfl (by kernel_rfl)
     obtain ⟨v43,h43,S43⟩:=mheld_at hf 0 rfl (by kernel_rfl)
     replace S43:=S43 hph
     clear hk hf
     obtain ⟨c8,s8,t8⟩:=S43
     have hT8:=HOW.out.later hb
     have hO8:=hT8.own
     refine step_append_srcS rfl (.tmp 38) (.tmp 43) 44 rfl 72 i0 (.agg #[.int .i64 0,.int .i64 0,.int .u64 0,.slice none 0 0]) 4 48 Tryz.underlying44 hi hz0 hz1 hz2 rfl (by decide) (B:=w3.heap.size) (.slice A9 tv.length p9) tv.length (partK.flat tv) ?_ hO8 _ 1 (partK.cells (c8,q)) ?_ s8 (partK.one (t:=(c8,q)) t8) ?_ ?_ ?_ fun v' w' r1 r2 r3 r4=>?_
     ·simp [Act.eval,h38]
     ·simp [Act.eval,h43]
     ·have:=HTL.out;unfold maxLen;omega
     ·have:=HTL.out;omega
     ·exact Nat.le_trans HSZ.out hb.size
     have hm:=hT8.add (t:=(c8,q)) (partK.mono (t:=(c8,q)) t8 fun u hu=>⟨hu.mono HSZ.out,RowOff.of_fresh hu fun k hk=>(HOW.out.lt k hk).2⟩) r2 r3 r1 rfl
     refine hK _ _ trivial (fun h=>by rw [setP_self] at h;cases h) (fun _=>⟨c8,(HBTR.out.kept hb).grown r2 fun k hk=>⟨Nat.le_trans HW3.out (HOW.out.lt k hk).1,fun q hq e=>?_⟩,hm,StrsIn.off (StrsIn.kept HKS.out hb) HVO.out r2,Nat.le_trans HSZ.out (Nat.le_trans hb.size r2.size)⟩)
     have h1:=(HOW.out.lt k hk).1
     have h2:=HG3.out
     simp only [List.mem_cons,List.not_mem_nil,or_false] at hq
     rcases hq with rfl|rfl|rfl <;> (simp only at e;omega)
    refine m_fix rfl ?_
    apply Exists.intro
    refine ⟨fun ph a wz hp hc hk hf K hK=>?_,?_⟩
    ·have h7:=hk 7 (by kernel_rfl)
     clear hk hf hc
     go_simp
     exact hK _ _ (Below.refl _ _) rfl
    refine m_store (fun _ _ wx=>WEnd w w3 (fun z=>[(w.heap.size,[.slice Ak G.key.length pk,.int .i64 G.n,.slice Ap G.parts.length pp]),(w.heap.size+1,[.slice none 0 0,.int .i64 0,.slice none 0 0]),(g,[.slice A3 G.key.length p3,.int .i64 nn,z])]) (.slice A3 G.key.length p3) G.key tv q wx) rfl (fun _ _ _ _ hb h=>WEnd.kept hb h) (fun ph a wz hp hph hc hk hf K hK=>?_) ?_
    ·have h45:=mheld_isV hf 0 rfl (by kernel_rfl)
     obtain ⟨v44,h44,S44⟩:=mheld_at hf 1 rfl (by kernel_rfl)
     obtain ⟨c8,hbx,hm,hks,hsz9⟩:=S44 hph
     obtain ⟨⟨c0,c1,c2⟩,f0,f1,f2⟩:=(hbx.box 2 rfl).three
     obtain ⟨A8,p8,e8⟩:=hm.slice
     rw [List.length_append] at e8
     change v44=.slice A8 (tv.length+1) p8 at e8
     subst e8
     have HP7:=Lib.hid (hp.2 7 rfl rfl)
     have hg8:=cell_grown wz g 2 (.slice A8 (tv.length+1) p8)
     have hst:=hbx.put 2 rfl 2 (by simp) (.slice A8 (tv.length+1) p8)
     have hm2:=hm.beside (v0:=cboxV g) (fun u hu=>RowOff.of_fresh hu fun k hk=>by
      simp only [Value.ownBlock,Option.some.injEq] at hk
      have:=HG3.out
      omega) (fun k hk e=>by
      simp only [Value.ownBlock,Option.some.injEq] at hk
      have:=(hm.lt k e).1
      have:=HG3.out
      omega) hg8
     have hks2:=StrsIn.off hks HO3.out hg8
     have HF:Hid (WGrow w w3 ((fun z=>[(w.heap.size,[.slice Ak G.key.length pk,.int .i64 G.n,.slice Ap G.parts.length pp]),(w.heap.size+1,[.slice none 0 0,.int .i64 0,.slice none 0 0]),(g,[.slice A3 G.key.length p3,.int .i64 nn,z])]) (.slice A8 (tv.length+1) p8)) (.slice A3 G.key.length p3) G.key tv q (.slice A8 (tv.length+1) p8) (wz.setCell ⟨g,2,none⟩ (.slice A8 (tv.length+1) p8))):=Lib.hid ⟨c8,hst,hm2,hks2,Nat.le_trans hsz9 hg8.size⟩
     clear hbx hm hks hst hm2 hks2 hg8 hk hf hc hp
     go_simp
     exact hK undef _ trivial (fun h=>by rw [setP_ne _ (by decide)] at h;have h7:=HP7.out;rw [h] at h7;cases h7) ⟨.slice A8 (tv.length+1) p8,HF.out⟩
    refine m_nil ?_
    refine ⟨keeps_m (fun m hm=>?_),?_⟩
    ·have hm2:m=7∨m=9:=by simpa [or_assoc] using hm
     rcases hm2 with rfl|rfl
     ·exact ⟨.inr (.inr (keep_isV _)),.inr (.inr (keep_isV _)),.inr (.inr (keep_isV _)),.inr (.inr (keep_isV _)),.inr (.inr (keep_isV _)),.inr (.inr keep_till_self),.inr (.inr keep_till_self),.inl rfl,.inr (.inl rfl),.inr (.inl rfl),trivial⟩
     ·exact ⟨.inr (.inr (keep_isV _)),.inr (.inr (keep_isV _)),.inr (.inr (keep_isV _)),.inr (.inr (keep_isV _)),.inr (.inr (keep_isV _)),.inr (.inr (keep_till_past rfl rfl (by decide))),.inr (.inr (keep_till_past rfl rfl (by decide))),.inr (.inr keep_till_self),.inr (.inr (keep_isV _)),.inl rfl,trivial⟩
    intro ph w6 hps hc
    simp only [mlexL,mEnd]
    rintro _ rfl _ rfl _ rfl _ rfl _ rfl v42 S42 v43 S43 v44 S44 _ rfl _ hst9
    obtain ⟨z6,hz6⟩:=hst9
    have HZ6:=Lib.hid hz6
    clear hz6 hc hps S42 S43 S44
    simp only [Act.put,List.setIfInBounds_toArray,List.set_cons_zero,List.set_cons_succ]
    go_wp2
    go_roundw
    case rel =>
     obtain ⟨c6,h1,h2,h3,h4⟩:=HZ6.out
     exact ⟨k+1,HLK.out,by go_num,_,_,by rw [HTK.out,List.map_append,HTV.out];rfl,h1,h2,h3,h4⟩
    case measure=>have:=HLK.out;simp [intOf];omega
  ·have hkl:k=gs.length:=by omega
   subst hkl
   have HTV:Hid (tv.map Prod.snd=partsW G.parts gs l):=by
    show _=_
    rw [htv,List.take_of_length_le (by rw [parts_length];exact Nat.le_refl _)]
   obtain ⟨⟨c0,c1,c2⟩,f0,f1,f2⟩:=(hbx.box 2 rfl).three
   obtain ⟨⟨d0,d1,d2⟩,g0,g1,g2⟩:=(hbx.box 1 rfl).three
   have hb9:=hbx.put3 1 rfl (.slice A3 G.key.length p3) (.int .i64 nn) (.slice A9 tv.length p9)
   have hg9:=three_grown wr (w.heap.size+1) (.slice A3 G.key.length p3) (.int .i64 nn) (.slice A9 tv.length p9)
   have hks9:=StrsIn.off hks HF1.out hg9
   have hm9:=hm.beside (v0:=cboxV (w.heap.size+1)) (fun u hu=>RowOff.of_fresh hu fun k hk=>by
    simp only [Value.ownBlock,Option.some.injEq] at hk
    have:=HG3.out
    omega) (fun k hk e=>by
    simp only [Value.ownBlock,Option.some.injEq] at hk
    have:=(hm.lt k e).1
    have:=HG3.out
    omega) hg9
   have hin:=hm9.in_ (fun k hk=>(hm9.lt k hk).1)
   have HB9:=Lib.hid hb9
   have HR9:Hid (groupK.R (Fresh w.heap.size) _ (.slice A3 G.key.length p3,.slice A9 tv.length p9,⟨G.key,nn,tv.map Prod.snd⟩)):=Lib.hid ⟨⟨hks9,HF3.out⟩,hin.mono fun u hu=>hu.mono HW3.out⟩
   clear hb9 hg9 hks9 hm9 hin hm hks HZ htv
   go_wp2
   obtain ⟨⟨e0,e1,e2⟩,_⟩:=(HB9.out.box 1 rfl).three
   refine ⟨rfl,.agg #[.slice A3 G.key.length p3,.int .i64 nn,.slice A9 tv.length p9],?_,?_⟩
   ·simp [results,Tryz.results33,go_sem,e0,e1,e2]
   ·rw [HNK.out,←HTV.out]
    exact ⟨_,_,rfl,HR9.out,HB9.out.below⟩
def keepG (l:List GV):List GV:=l.filter fun t=>!(t.2.2.n==0)
def NoG (l:List GV):Prop:=∀ t∈l,(t.2.2.n==0)=false
theorem keepG_all {l:List GV}(h:NoG l):keepG l=l:=by
 unfold keepG
 rw [List.filter_eq_self]
 intro t ht
 rw [h t ht];rfl
theorem keepG_map (l:List GV):(keepG l).map (·.2.2)=(l.map (·.2.2)).filter fun g=>!(g.n==0):=by
 unfold keepG
 rw [List.filter_map];rfl
structure DelG (l lr:List GV) (i j:Nat):Prop where
 lt:i < j
 le:j≤l.length
 len:lr.length=l.length
 front:lr.take i=keepG (l.take j)
 back:lr.drop j=l.drop j
theorem DelG.first {l:List GV}{k:Nat}(hk:k < l.length)(hq:(l[k].2.2.n==0)=true)(hn:NoG (l.take k)):DelG l l k (k+1) where
 lt:=by omega
 le:=hk
 len:=rfl
 front:=by
  rw [take_add l k hk]
  have h1:=keepG_all hn
  unfold keepG at h1 ⊢
  rw [List.filter_append,h1,List.filter_cons_of_neg (by rw [hq];decide),List.filter_nil,List.append_nil]
 back:=rfl
theorem DelG.get {l lr:List GV}{i j:Nat}(h:DelG l lr i j)(hj:j < l.length):lr[j]'(by rw [h.len];exact hj)=l[j]:=by
 have h1:=h.back
 have hl:=h.len
 rw [List.drop_eq_getElem_cons (by omega),List.drop_eq_getElem_cons hj] at h1
 exact (List.cons.inj h1).1
theorem DelG.skip {l lr:List GV}{i j:Nat}(h:DelG l lr i j)(hj:j < l.length)(hq:(l[j].2.2.n==0)=true):DelG l lr i (j+1) where
 lt:=by have:=h.lt;omega
 le:=hj
 len:=h.len
 front:=by
  rw [h.front,take_add l j hj]
  unfold keepG
  rw [List.filter_append,List.filter_cons_of_neg (by rw [hq];decide),List.filter_nil,List.append_nil]
 back:=by
  have h1:=h.back
  have hl:=h.len
  rw [List.drop_eq_getElem_cons (by omega),List.drop_eq_getElem_cons hj] at h1
  exact (List.cons.inj h1).2
theorem DelG.keep {l lr:List GV}{i j:Nat}(h:DelG l lr i j)(hj:j < l.length)(hq:(l[j].2.2.n==0)=false):DelG l (lr.set i l[j]) (i+1) (j+1) where
 lt:=by have:=h.lt;omega
 le:=hj
 len:=by rw [List.length_set];exact h.len
 front:=by
  have hi:i < lr.length:=by have:=h.lt;have:=h.len;omega
  rw [take_add _ i (by rw [List.length_set];exact hi),List.getElem_set_self,List.take_set_of_le (Nat.le_refl i),h.front,take_add l j hj]
  unfold keepG
  rw [List.filter_append,List.filter_cons_of_pos (by rw [hq];decide),List.filter_nil]
 back:=by
  have h1:=h.back
  have hl:=h.len
  rw [List.drop_eq_getElem_cons (by omega),List.drop_eq_getElem_cons hj] at h1
  rw [List.drop_set_of_lt (by have:=h.lt;omega)]
  exact (List.cons.inj h1).2
theorem gnone_calls (A A2:Option Addr)(c p c2 p2:Nat)(n:Int):Gives Tryz.prog 44 #[.agg #[.slice A c p,.int .i64 n,.slice A2 c2 p2]] (.bool (n==0)):=by
 intro w
 obtain ⟨hb,hB⟩:=start w
 generalize hz:(n==0)=z
 cases z <;> (
  go_enter Tryz.func44,Tryz.ntmps44
  go_wp2
  go_ret
  exact ⟨rfl,hb.alloc hB _⟩)
theorem enters_gnone:∀ args w,(callFunc 44 args).run Tryz.prog w=.ok (.enter 44 args) w:=enters_of Tryz.func44 (by kernel_rfl) rfl
def IdxG (l:List GV)(z:Int):Prop:=(z = -1∧NoG l)∨∃ k:Nat,∃ h:k < l.length,z=(k:Int)∧((l[k]'h).2.2.n==0)=true∧NoG (l.take k)
set_option maxHeartbeats 2000000 in
theorem gindex_calls {Q:Value→Prop}{w:World}{B:Nat}{v:Value}{tv:List GV}(h:groupK.Mine Q w B v tv) :
  Calls Tryz.prog 58 #[v,.func (.func 44) #[] #[]] w fun e w'=>∃ z,e=.returned (.int .i64 z)∧IdxG tv z∧Below w.heap.size w w':=by
 have hm:=h.own.2.1
 unfold maxLen at hm
 have eg:=enters_gnone
 obtain ⟨hb,hB⟩:=start w
 have HN:=Lib.hid gnone_calls
 have HAT:Hid (∀ k (_:k < tv.length),∃ g off,(∃ cap,v=.slice (some ⟨g,off,none⟩) tv.length cap)∧g < w.heap.size∧∀ j (hj:j < tv.length) i u,(groupK.cells tv[j])[i]? = some u→w.cell? ⟨g,off+j*3+i,none⟩=some u):=fun k hk=>by
  obtain ⟨g,off,cap,e⟩:=h.some_ (by omega)
  subst e
  exact ⟨g,off,⟨cap,rfl⟩,(h.at_ k hk).2.2.1,fun j hj i u hu=>((h.at_ j hj).1 i u hu).1⟩
 have HE:=Lib.hid h.each
 obtain ⟨A,cap,rfl⟩:=h.slice
 clear h
 go_enter Tryz.func58,Tryz.ntmps58
 go_wp2
 go_loopw [5,8] (fun _ i wr=>∃ k:Nat,k≤tv.length∧i=.int .i64 k∧Hid (NoG (tv.take k))∧Below w.heap.size w wr) (fun _ i _=>tv.length-(intOf i).toNat)
 case atStart=>exact ⟨0,Nat.zero_le _,rfl,fun t ht=>absurd ht (by simp),hb⟩
 case round =>
  clear hb hB
  obtain ⟨k,hk,rfl,HS,hb⟩:=hrel
  have hB:=hb.size
  by_cases hlt:k < tv.length
  ·obtain ⟨b,off,⟨cap2,e2⟩,hbl,hc⟩:=HAT.out k hlt
   obtain ⟨rfl,rfl⟩:A=some ⟨b,off,none⟩∧cap=cap2:=by injection e2 with a _ b;exact ⟨a,b⟩
   have x0:=(hb.cell (p:=⟨b,off+k*3+0,none⟩) hbl).trans (hc k hlt 0 _ rfl)
   have x1:=(hb.cell (p:=⟨b,off+k*3+1,none⟩) hbl).trans (hc k hlt 1 _ rfl)
   have x2:=(hb.cell (p:=⟨b,off+k*3+2,none⟩) hbl).trans (hc k hlt 2 _ rfl)
   rw [Nat.add_zero] at x0
   have HT:=Lib.hid (take_add tv k hlt)
   obtain ⟨A0,p0,A1,p1,e3,e4⟩:=group_open_t tv[k] (HE.out _ (List.getElem_mem hlt))
   have HX:Hid ((tv[k].2.2.n==0)=true→IdxG tv (k:Int)):=fun e=>.inr ⟨k,hlt,rfl,e,HS.out⟩
   rw [e3] at x0
   rw [e4] at x2
   have i1:(k:Int) < (tv.length:Int):=by omega
   clear hc e2 e3 e4
   generalize tv[k]=t at *
   obtain ⟨kv,pv,g0⟩:=t
   dsimp only at *
   have HQ:=Lib.hid (HN.out A0 A1 g0.key.length p0 g0.parts.length p1 g0.n)
   cases hq:(g0.n==0) with
   | true =>
    have HE1:=Lib.hid (HX.out hq)
    rw [hq] at HQ
    clear HX hq
    go_wp2_with (go_at_fn 44;refine HQ.out.step (w0:=w) (B:=w.heap.size) hb hB ?_;clear hb hB x0 x1 x2;intro w2 hb hB)
    go_ret
    exact ⟨_,rfl,HE1.out,hb⟩
   | false =>
    have HNN:Hid (NoG (tv.take (k+1))):=fun t ht=>by
     rw [HT.out] at ht
     rcases List.mem_append.1 ht with ht|ht
     ·exact HS.out t ht
     ·rw [List.mem_singleton.1 ht];exact hq
    rw [hq] at HQ
    clear HX hq
    go_wp2_with (go_at_fn 44;refine HQ.out.step (w0:=w) (B:=w.heap.size) hb hB ?_;clear hb hB x0 x1 x2;intro w2 hb hB)
    go_roundw
    case rel=>exact ⟨k+1,by omega,by go_num,HNN.out,hb⟩
    case measure=>simp [intOf];omega
  ·obtain rfl:k=tv.length:=by omega
   rw [List.take_length] at HS
   go_wp2
   go_ret
   exact ⟨_,rfl,.inl ⟨rfl,HS.out⟩,hb⟩
def DeleteG (B:Nat)(w:World)(v:Value)(tv:List GV)(e:Ending)(w':World):Prop:=∃ u,e=.returned u∧groupK.In (fun _=>True) w' u ((keepG tv).map groupK.pr)∧Below B w w'∧w.grownBy w' v.ownBlock
set_option maxHeartbeats 4000000 in
set_option maxRecDepth 100000 in
theorem gdelete_calls {Q:Value→Prop}{w:World}{B:Nat}{v:Value}{tv:List GV}(h:groupK.Mine Q w B v tv)(hBw:B≤w.heap.size) :
  Calls Tryz.prog 45 #[v,.func (.func 44) #[] #[]] w (DeleteG B w v tv):=by
 have hml:=h.own.2.1
 unfold maxLen at hml
 have hix:=gindex_calls h
 have eg:=enters_gnone
 have HN:=Lib.hid gnone_calls
 obtain ⟨A,cap,rfl⟩:=h.slice
 have HT:=Lib.hid h
 clear h
 unfold DeleteG
 go_enter Tryz.func45,Tryz.ntmps45
 go_wp2_with fail
 refine hix.mono ?_
 clear hix
 rintro e w1 ⟨z,rfl,hz,hb1⟩
 have HT1:=Lib.hid (HT.out.later hb1)
 have HG1:Hid (w.grownBy w1 (Value.slice A tv.length cap).ownBlock):=Lib.hid (below_grown hb1)
 have hb:=hb1.mono hBw
 have hB1:B≤w1.heap.size:=Nat.le_trans hBw hb1.size
 clear HT hb1
 rcases hz with ⟨rfl,hno⟩ | ⟨k,hk,rfl,hq,hno⟩
 ·have HK:=Lib.hid (keepG_all hno)
  clear hno
  go_wp2
  go_ret
  exact ⟨_,rfl,by rw [HK.out];exact (HT1.out.mono fun _ _=>trivial).in_ trivial,hb,HG1.out⟩
 ·obtain ⟨g,off,cap9,e9⟩:=HT1.out.some_ (by omega)
  obtain ⟨rfl,rfl⟩:A=some ⟨g,off,none⟩∧cap=cap9:=by injection e9 with e1 _ e2;exact ⟨e1,e2⟩
  clear e9
  have HD:=Lib.hid (DelG.first hk hq hno)
  clear hq hno
  have dk:((k:Int)==-1)=false:=by rw [beq_eq_false_iff_ne];omega
  go_wp2
  go_loopw [5,6,7] (fun i j _ wr=>∃ (I J:Nat) (tvr:List GV),i=.int .i64 I∧j=.int .i64 J∧Hid (DelG tv tvr I J)∧Hid (groupK.Mine Q wr B (.slice (some ⟨g,off,none⟩) tv.length cap) tvr)∧Below B w wr∧B≤wr.heap.size∧Hid (w.grownBy wr (some g))) (fun _ j _ _=>tv.length-(intOf j).toNat)
  case atStart=>exact ⟨k,k+1,tv,rfl,by go_num,HD.out,HT1.out,hb,hB1,HG1⟩
  case round =>
   clear hb hB1 HD HT1 dk HG1
   obtain ⟨I,J,tvr,rfl,rfl,HD,HT,hb,hB,HGR⟩:=hrel
   have hIJ:=HD.out.lt
   have hJl:=HD.out.le
   have HLL:=Lib.hid HD.out.len
   by_cases hlt:J < tv.length
   ·have hJr:J < tvr.length:=by rw [HLL.out];exact hlt
    obtain ⟨hcs,hBg,hgl,-,-⟩:=HT.out.at_ J hJr
    have y0:wr.cell? ⟨g,off+J*3+0,none⟩=some _:=(hcs 0 _ rfl).1
    have y1:wr.cell? ⟨g,off+J*3+1,none⟩=some _:=(hcs 1 _ rfl).1
    have y2:wr.cell? ⟨g,off+J*3+2,none⟩=some _:=(hcs 2 _ rfl).1
    have hrj:=HT.out.each _ (List.getElem_mem hJr)
    rw [Nat.add_zero] at y0
    rw [HD.out.get hlt] at y0 y1 y2 hrj
    have HDS:=Lib.hid (HD.out.skip hlt)
    have HDK:=Lib.hid (HD.out.keep hlt)
    obtain ⟨A0,p0,A1,p1,e3,e4⟩:=group_open_t tv[J] hrj
    have HRJ:=Lib.hid hrj
    have HE3:=Lib.hid e3
    have HE4:=Lib.hid e4
    rw [e3] at y0
    rw [e4] at y2
    have i1:(J:Int) < (tv.length:Int):=by omega
    clear hcs hrj e3 e4
    generalize tv[J]=t at *
    obtain ⟨kv,pv,g0⟩:=t
    dsimp only at *
    have hq4:=Below.alloc (.refl _ wr) (Nat.le_refl _) (.cells #[.slice A0 g0.key.length p0,.int .i64 g0.n,.slice A1 g0.parts.length p1] 46)
    have hs1:(wr.alloc (.cells #[.slice A0 g0.key.length p0,.int .i64 g0.n,.slice A1 g0.parts.length p1] 46)).heap.size=wr.heap.size+1:=by simp
    have z0:=box_cell wr 46 #[.slice A0 g0.key.length p0,.int .i64 g0.n,.slice A1 g0.parts.length p1] 0 _ rfl
    have z1:=box_cell wr 46 #[.slice A0 g0.key.length p0,.int .i64 g0.n,.slice A1 g0.parts.length p1] 1 _ rfl
    have z2:=box_cell wr 46 #[.slice A0 g0.key.length p0,.int .i64 g0.n,.slice A1 g0.parts.length p1] 2 _ rfl
    have HQ:=Lib.hid (HN.out A0 A1 g0.key.length p0 g0.parts.length p1 g0.n)
    have HZ0:=Lib.hid z0
    have HZ1:=Lib.hid z1
    have HZ2:=Lib.hid z2
    cases hq:(g0.n==0) with
    | true =>
     rw [hq] at HQ
     have HD2:=Lib.hid (HDS.out hq)
     clear HDS HDK hq
     go_wp2_with (go_at_fn 44;refine HQ.out.stepB (w0:=wr) (B:=wr.heap.size) hq4 (by simp) ?_;clear hq4;intro w5 hq5 hz5 hr5)
     go_roundw
     case rel=>exact ⟨I,J+1,tvr,rfl,by go_num,HD2.out,HT.out.later hq5,hb.trans (hq5.mono hB),Nat.le_trans hB hq5.size,Lib.hid (ggrown_trans HGR.out (below_grown (row:=none) hq5) fun k hk=>by cases hk)⟩
     case measure=>simp [intOf];omega
    | false =>
     rw [hq] at HQ
     have HD2:=Lib.hid (HDK.out hq)
     clear HDS HDK hq
     have HIL:=Lib.hid (show I < tvr.length by rw [HLL.out];omega)
     have i2:(I:Int) < (tv.length:Int):=by omega
     go_wp2_with (go_at_fn 44;refine HQ.out.stepB (w0:=wr) (B:=wr.heap.size) hq4 (by simp) ?_;clear hq4 z0 z1 z2 y0 y1 y2;intro w5 hq5 hz5 hr5;have z0:=cell_kept HZ0.out hr5;have z1:=cell_kept HZ1.out hr5;have z2:=cell_kept HZ2.out hr5;have HT5:=Lib.hid (HT.out.later hq5);have u0:w5.cell? ⟨g,off+I*3+0,none⟩=some _∧w5.frozen? ⟨g,off+I*3+0,none⟩=false:=((HT5.out.at_ I HIL.out).1 0 _ rfl);have u1:w5.cell? ⟨g,off+I*3+1,none⟩=some _∧w5.frozen? ⟨g,off+I*3+1,none⟩=false:=((HT5.out.at_ I HIL.out).1 1 _ rfl);have u2:w5.cell? ⟨g,off+I*3+2,none⟩=some _∧w5.frozen? ⟨g,off+I*3+2,none⟩=false:=((HT5.out.at_ I HIL.out).1 2 _ rfl);obtain ⟨i0,g0'⟩:=u0;obtain ⟨i1',g1'⟩:=u1;obtain ⟨i2',g2'⟩:=u2;rw [Nat.add_zero] at i0 g0';have hgl5:=Nat.lt_of_lt_of_le hgl hq5.size)
     refine ⟨⟨I+1,J+1,_,by go_num,by go_num,HD2.out,?_,?_,?_,?_⟩,?_⟩
     ·have hst:=groups_stored HT5.out I HIL.out (groupK.kept HRJ.out hq5)
      dsimp only at hst
      rw [HE3.out,HE4.out] at hst
      have e5:(kv,pv,g0)=((.slice A0 g0.key.length p0,.slice A1 g0.parts.length p1,g0):GV):=by rw [HE3.out,HE4.out]
      rw [e5]
      exact hst
     ·exact (((hb.trans (hq5.mono hB)).setCell (p:=⟨g,off+I*3,none⟩) hBg _).setCell (p:=⟨g,off+I*3+1,none⟩) hBg _).setCell (p:=⟨g,off+I*3+2,none⟩) hBg _
     ·exact Nat.le_trans (Nat.le_trans hB hq5.size) (by simp)
     ·exact Lib.hid (ggrown_trans (ggrown_trans HGR.out (below_grown (row:=none) hq5) fun k hk=>by cases hk) (setCells_grown g [.slice A0 g0.key.length p0,.int .i64 g0.n,.slice A1 g0.parts.length p1] (off+I*3) w5) fun k hk=>.inl hk)
     ·simp [intOf];omega
   ·obtain rfl:J=tv.length:=by omega
    have hfr:=HD.out.front
    rw [List.take_length] at hfr
    have HFR:=Lib.hid hfr
    clear hfr
    have hO:=HT.out.own
    obtain ⟨hBg,hgl,hnc,hcc,hroom⟩:=(show Own wr B 3 (.slice (some ⟨g,off,none⟩) tv.length cap) tv.length (groupK.flat tvr) by have:=hO;rwa [HLL.out] at this).parts
    have hcl:∀ ty,(Builtin.clear_ #[29] ty #[.slice (some ⟨g,off+I*3,none⟩) (tv.length-I) (cap-I)]).run Tryz.prog wr=.ok (.tuple #[]) (wr.setCells g (off+I*3) (Builtin.zeroCells (Value.agg #[.slice none 0 0,.int .i64 0,.slice none 0 0]).cells (tv.length-I)).toList) :=
     fun ty=>run_clear_cells wr _ _ ty _ 3 Tryz.underlying29 Tryz.zeroValue46 rfl (by decide) (fun u hu=>by
      simp only [Value.cells,List.mem_cons,List.not_mem_nil,or_false] at hu
      rcases hu with rfl|rfl|rfl <;> rfl) g (off+I*3) _ _ (by omega) (fun j hj=>by rw [Nat.add_assoc];exact (hroom (I*3+j) (by omega)).1) (fun j hj=>by rw [Nat.add_assoc];exact (hroom (I*3+j) (by omega)).2)
    have HFT:=Lib.hid (HT.out.front (m:=I) (by omega) (Builtin.zeroCells (Value.agg #[.slice none 0 0,.int .i64 0,.slice none 0 0]).cells (tv.length-I)).toList)
    rw [HFR.out] at HFT
    have hb9:Below B w (wr.setCells g (off+I*3) (Builtin.zeroCells (Value.agg #[.slice none 0 0,.int .i64 0,.slice none 0 0]).cells (tv.length-I)).toList):=hb.grown (setCells_grown g _ _ wr) hB (fun j hj=>by cases hj;exact hBg)
    have HB9:=Lib.hid hb9
    have HG9:=Lib.hid (ggrown_trans HGR.out (setCells_grown g (Builtin.zeroCells (Value.agg #[.slice none 0 0,.int .i64 0,.slice none 0 0]).cells (tv.length-I)).toList (off+I*3) wr) fun k hk=>.inl hk)
    clear hb9 hO hcc hroom
    generalize (Builtin.zeroCells (Value.agg #[.slice none 0 0,.int .i64 0,.slice none 0 0]).cells (tv.length-I)).toList=zs at *
    have hne:¬cap=I:=by omega
    go_wp2
    go_ret
    exact ⟨_,rfl,HFT.out,HB9.out,HG9.out⟩
set_option maxHeartbeats 8000000 in
set_option maxRecDepth 100000 in
theorem gput_calls {w:World}{gv av rv:Value}{G:GroupP}{gs:List (Int×Int)}{row:List ByteArray}{n:Int}(hg:GroupIn (fun _=>True) w gv G)(ha:OnIn w av gs)(hr:StrsIn w rv row)(hf:FitG G)(hw:n.natAbs≤1152921504606846976)(hgs:gs.length≤1000000) :
  Calls Tryz.prog 17 #[gv,av,.agg #[rv,.int .i64 n]] w (GroupEnd w (withG G gs [(row,n)])):=by
 obtain ⟨kv,pv,rfl,⟨hkey,ht⟩,hparts⟩:=hg
 change StrsIn w kv G.key at hkey
 change partK.In _ w pv G.parts at hparts
 obtain ⟨Ak,pk,rfl,_⟩:=one_at hkey
 obtain ⟨Ap,pp,rfl⟩:=hparts.slice
 obtain ⟨Aa,ca,rfl⟩:=ha.slice
 obtain ⟨Ar,pr,rfl,_⟩:=one_at hr
 have hst:=(((Bxs.start w).lay 46 #[.slice Ak G.key.length pk,.int .i64 G.n,.slice Ap G.parts.length pp]).lay 49 #[.slice Ar row.length pr,.int .i64 n]).lay 46 #[.slice none 0 0,.int .i64 0,.slice none 0 0]
 rw [show (w.alloc (.cells #[.slice Ak G.key.length pk,.int .i64 G.n,.slice Ap G.parts.length pp] 46)).heap.size=w.heap.size+1 by simp,show ((w.alloc (.cells #[.slice Ak G.key.length pk,.int .i64 G.n,.slice Ap G.parts.length pp] 46)).alloc (.cells #[.slice Ar row.length pr,.int .i64 n] 49)).heap.size=w.heap.size+2 by simp] at hst
 have hsz2:(((w.alloc (.cells #[.slice Ak G.key.length pk,.int .i64 G.n,.slice Ap G.parts.length pp] 46)).alloc (.cells #[.slice Ar row.length pr,.int .i64 n] 49)).alloc (.cells #[.slice none 0 0,.int .i64 0,.slice none 0 0] 46)).heap.size=w.heap.size+1+1+1:=by simp
 have HST:=Lib.hid hst
 have HKY:=Lib.hid (StrsIn.kept hkey hst.below)
 have HPT:=Lib.hid (hparts.kept hst.below)
 have HA:=Lib.hid (ha.kept hst.below)
 have HR:=Lib.hid (StrsIn.kept hr hst.below)
 have HF:=Lib.hid hf
 have HWW:Hid (wtW [(row,n)]≤1152921504606846976):=by
  show _≤_
  simp only [wtW];omega
 clear hst hkey ht hparts ha hr hf hw
 unfold groupA
 go_enter Tryz.func17,Tryz.ntmps17
 go_wp2_with fail
 generalize World.alloc (World.alloc (World.alloc w _) _) _=w2 at *
 obtain ⟨⟨a0,a1,a2⟩,_⟩:=(HST.out.box 0 rfl).three
 obtain ⟨⟨b0,b1⟩,_⟩:=(HST.out.box 1 rfl).two
 have hq3:=Below.alloc (.refl w2.heap.size w2) (Nat.le_refl _) (.cells #[.slice Ar row.length pr,.int .i64 n] 49)
 have hlit:TimesIn (w2.alloc (.cells #[.slice Ar row.length pr,.int .i64 n] 49)) (.slice (some ⟨w2.heap.size,0,none⟩) 1 1) [(row,n)]:=lit_times w2 49 [(.slice Ar row.length pr,n)] [(row,n)] (RowsOf.one HR.out) (by simp)
 rw [hsz2] at hlit
 have HWI:=Lib.hid (gwith_calls (gv:=groupA (.slice Ak G.key.length pk) (.slice Ap G.parts.length pp) G.n) ⟨_,_,rfl,⟨StrsIn.kept HKY.out hq3,trivial⟩,HPT.out.kept hq3⟩ (HA.out.kept hq3) hlit HF.out (by simp) HWW.out hgs)
 have HST3:=Lib.hid (HST.out.kept hq3)
 clear hq3
 unfold groupA at HWI
 go_wp2_with fail
 refine Calls.mono HWI.out ?_
 rintro e w4 ⟨kv,pv,rfl,hR4,hb4⟩
 clear a0 a1 a2 b0 b1
 have HST4:=Lib.hid (HST3.out.kept hb4)
 obtain ⟨⟨d0,d1,d2⟩,f0,f1,f2⟩:=(HST4.out.box 2 rfl).three
 have HLT:=Lib.hid (HST3.out.box 2 rfl).lt
 have HWS:=Lib.hid HST3.out.below.size
 dsimp only at HLT
 obtain ⟨A4,p4,A5,p5,rfl,rfl,hk4,hf4,hp4⟩:=group_open hR4
 unfold groupA
 generalize hg9:withG G gs [(row,n)]=G9 at *
 have h9:=HST4.out.put3 2 rfl (.slice A4 G9.key.length p4) (.int .i64 G9.n) (.slice A5 G9.parts.length p5)
 have hgr:=three_grown w4 (w.heap.size+2) (.slice A4 G9.key.length p4) (.int .i64 G9.n) (.slice A5 G9.parts.length p5)
 have hoff:∀ u,Fresh ((w2.alloc (.cells #[.slice Ar row.length pr,.int .i64 n] 49)).heap.size) u→RowOff (cboxV (w.heap.size+2)) u:=fun u hu=>RowOff.of_fresh hu fun k hk=>by
  simp only [Value.ownBlock,Option.some.injEq] at hk
  have:=HLT.out
  omega
 have hk9:=StrsIn.off hk4 (hoff _ hf4) hgr
 have hp9:=hp4.off (v0:=cboxV (w.heap.size+2)) hoff hgr
 have HB9:=Lib.hid h9
 have HR9:=Lib.hid (group_of hk9 (hf4.mono HWS.out) (hp9.mono fun u hu=>hu.mono HWS.out))
 clear hk4 hf4 hp4 h9 hgr hk9 hp9 hg9 hb4 hoff
 go_wp2
 obtain ⟨⟨e0,e1,e2⟩,_⟩:=(HB9.out.box 2 rfl).three
 refine ⟨rfl,.agg #[.slice A4 G9.key.length p4,.int .i64 G9.n,.slice A5 G9.parts.length p5],?_,_,_,rfl,HR9.out,HB9.out.below⟩
 simp [results,Tryz.results17,go_sem,e0,e1,e2]
end Go.Proofs.YtjbpbfhgjldliaaGreat
