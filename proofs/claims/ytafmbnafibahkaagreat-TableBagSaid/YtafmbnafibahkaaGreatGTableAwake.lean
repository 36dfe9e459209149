/- What layer 14's laws stand on: plain facts; no program. -/
import Derived.Test.YtafmbnafibahkaaGreatGCell
import Derived.Test.YtafmbnafibahkaaGreatGWeighRef
import Derived.Test.YtafmbnafibahkaaGreatGTableRef
import Derived.Test.YtafmbnafibahkaaGreatGTableOwn
import Derived.Deep.RegionWith
import Derived.Deep.CutRange
namespace Go.Proofs.YtafmbnafibahkaaGreat
open Go Go.RowKit
def cols14:List (Int×Bool):=[(105,false)]
def abc14:ByteArray:=⟨#[97,98,99]⟩
def come14:List Tm:=[([cellInt 2],1),([cellInt 1],3)]
def there14:List Tm:=[([cellInt 1],3),([cellInt 2],1)]
def left14:List Tm:=[([cellInt 1],3)]
def goes14:List Tm:=[([cellInt 2],-2)]
def text14:List Tm:=[([⟨#[116,97]⟩],1)]
def many14:List Tm:=[([cellInt 1],1048576)]
def one14:List Tm:=[([cellInt 2],-1)]
def none14:List Tm:=[([],0)]
def much14:List Tm:=[([cellInt 1],2097152)]
def tA14:Tbl:=⟨abc14,cols14,[],there14⟩
def tP14:Tbl:=⟨abc14,cols14,there14,[]⟩
def tQ14:Tbl:=⟨abc14,cols14,there14,one14⟩
theorem new14:newN abc14 cols14=0:=by decide +kernel
theorem new14A:newA abc14 cols14=newT abc14 cols14:=by unfold newA;rw [if_pos new14]
theorem new14n:newN ⟨#[]⟩ cols14=1:=by decide +kernel
theorem new14B:newA ⟨#[]⟩ cols14=newT ⟨#[]⟩ []:=by unfold newA;rw [new14n,if_neg (by decide)]
theorem come14N:applyN (newT abc14 cols14) come14=0:=by decide +kernel
theorem come14s:sumW [] come14=there14:=by decide +kernel
theorem come14T:applyT (newT abc14 cols14) come14=tA14:=by
 unfold applyT
 rw [if_pos come14N]
 show Tbl.mk abc14 cols14 [] (sumW [] come14)=_
 rw [come14s];rfl
theorem goes14N:applyN tA14 goes14=6:=by decide +kernel
theorem text14N:applyN tA14 text14=5:=by decide +kernel
theorem many14N:applyN tA14 many14=8:=by decide +kernel
theorem rows14:tA14.rows=there14:=by decide +kernel
theorem pack14:packT tA14=tP14:=by
 show Tbl.mk abc14 cols14 tA14.rows []=_
 rw [rows14];rfl
theorem rowsP14:tP14.rows=there14:=by decide +kernel
theorem one14N:applyN tP14 one14=0:=by decide +kernel
theorem one14s:sumW [] one14=one14:=by decide +kernel
theorem one14T:applyT tP14 one14=tQ14:=by
 unfold applyT
 rw [if_pos one14N]
 show Tbl.mk abc14 cols14 there14 (sumW [] one14)=_
 rw [one14s];rfl
theorem rowsQ14:tQ14.rows=left14:=by decide +kernel
theorem none14N:checkN cols14 none14=1:=by decide +kernel
theorem much14N:checkN cols14 much14=8:=by decide +kernel
theorem newT14_good:GoodT (newT abc14 cols14):=newT_good (by decide)
theorem tA14_good:GoodT tA14:=come14T▸newT14_good.apply come14
theorem tP14_good:GoodT tP14:=pack14▸tA14_good.pack
theorem tQ14_good:GoodT tQ14:=one14T▸tP14_good.apply one14
theorem cut14:0 < (cutL there14).length∧(cutL there14).length≤2:=⟨by decide +kernel,cutL_length_le there14⟩
set_option maxHeartbeats 1000000 in
set_option maxRecDepth 100000 in
theorem row14_calls (n k:Int)(h1 : -9223372036854775808≤n)(h2:n≤9223372036854775807)(w:World):Calls Tryz.prog 30 #[.int .i64 n,.int .i64 k] w fun e w'=>∃ A p,e=.returned (.agg #[.slice A 1 p,.int .i64 k])∧StrsIn w' (.slice A 1 p) [cellInt n]∧Fresh w.heap.size (.slice A 1 p)∧Below w.heap.size w w':=by
 have HI:=Lib.hid (int_calls n h1 h2)
 have hb0:Below w.heap.size w (w.alloc (.cells #[.slice none 0 0,.int .i64 0] 46)):=Below.alloc (.refl _ _) (Nat.le_refl _) _
 have hres:Own (w.alloc (.cells #[.slice none 0 0,.int .i64 0] 46)) w.heap.size 2 (.slice (some ⟨w.heap.size,0,none⟩) 1 1) 1 [.slice none 0 0,.int .i64 0] :=
  Own.lit (B:=w.heap.size) (size:=2) w #[.slice none 0 0,.int .i64 0] 46 1 (by simp) (by unfold maxLen;omega) rfl
 have hsz:(w.alloc (.cells #[.slice none 0 0,.int .i64 0] 46)).heap.size=w.heap.size+1:=by simp
 clear h1 h2
 go_enter Tryz.func30,Tryz.ntmps30
 go_wp2_with fail
 generalize w.alloc (.cells #[.slice none 0 0,.int .i64 0] 46)=w1 at *
 have HSZ:=Lib.hid hsz
 have HB:=Lib.hid hb0
 have HRES:=Lib.hid hres
 clear hsz hb0 hres
 refine HI.out.stepB (w0:=w1) (B:=w1.heap.size) (.refl _ _) (Nat.le_refl _) ?_
 intro w2 hb2 _ hq2
 have hlt:w.heap.size < w2.heap.size:=by have:=hb2.size;have:=HSZ.out;omega
 have hO2:=HRES.out.later hq2
 obtain ⟨_,r1,_,r2,r3⟩:=hO2.parts
 have e0:=r2 0 _ rfl
 have e1:=r2 1 _ rfl
 have f0:=(r3 0 (by decide)).2
 have f1:=(r3 1 (by decide)).2
 rw [Nat.zero_add] at e0 e1 f0 f1
 have hO4:=Own.stored (Own.stored hO2 0 (by decide) (.slice (some ⟨w2.heap.size,0,none⟩) 1 1)) 1 (by decide) (.int .i64 k)
 have hb4:=((HB.out.trans (hb2.mono HB.out.size)).setCell (Nat.le_refl _) (p:=⟨w.heap.size,0+0,none⟩) (.slice (some ⟨w2.heap.size,0,none⟩) 1 1)).setCell (Nat.le_refl _) (p:=⟨w.heap.size,0+1,none⟩) (.int .i64 k)
 simp only [Nat.zero_add] at hO4 hb4
 have hs5:=lit_strs ((w2.setCell ⟨w.heap.size,0,none⟩ (.slice (some ⟨w2.heap.size,0,none⟩) 1 1)).setCell ⟨w.heap.size,1,none⟩ (.int .i64 k)) 9 [cellInt n] (by show 1≤1000;decide)
 rw [show ((w2.setCell ⟨w.heap.size,0,none⟩ (.slice (some ⟨w2.heap.size,0,none⟩) 1 1)).setCell ⟨w.heap.size,1,none⟩ (.int .i64 k)).heap.size=w2.heap.size by simp] at hs5
 have HO:=Lib.hid (hO4.later (Below.alloc (.refl _ _) (Nat.le_refl _) (.cells #[.string (cellInt n)] 9)))
 have HB4:=Lib.hid (hb4.alloc hb4.size (.cells #[.string (cellInt n)] 9))
 have HS4:=Lib.hid hs5
 clear hb2 hq2 hO2 hO4 hb4 hs5 r1 r2 r3
 go_wp2
 have hO:=HO.out
 obtain ⟨_,_,_,e2,_⟩:=hO.parts
 have g0:=e2 0 _ rfl
 have g1:=e2 1 _ rfl
 rw [Nat.zero_add] at g0 g1
 refine ⟨rfl,.agg #[.slice (some ⟨w2.heap.size,0,none⟩) 1 1,.int .i64 k],?_,_,_,rfl,HS4.out,fun j hj=>by simp only [Value.ownBlock,Option.some.injEq] at hj;omega,HB4.out⟩
 simp [results,Tryz.results30,go_sem,g0,g1]
theorem new14s_calls {w:World}{vc:Value}{name nm:ByteArray}{t:Tbl}{n:Int}{k1:Nat}(hc:ColsIn w vc cols14)(hs:name.size≤1000000)(hn:newN name cols14=n)(ht:newA name cols14=t)(e0:t.name=nm)(e1:t.cols.length=k1)(e2:t.R=[])(e3:t.T=[]) :
  Calls Tryz.prog 9 #[.string name,vc] w fun e w'=>∃ A1 p1 A2 p2 A3 p3,e=.returned (.tuple #[.agg #[.string nm,.slice A1 k1 p1,.slice A2 0 p2,.slice A3 0 p3],.int .i64 n])∧TblOf w' (.slice A1 k1 p1) (.slice A2 0 p2) (.slice A3 0 p3) t∧Below w.heap.size w w':=by
 refine (table_new_calls hc (by decide) hs).mono ?_
 rintro e w' ⟨v,he,⟨cv',bv',tv',hv,h'⟩,hb⟩
 rw [ht] at hv h'
 rw [hn] at he
 obtain ⟨⟨A1,p1,q1⟩,⟨A2,p2,q2⟩,⟨A3,p3,q3⟩⟩:=h'.slices
 rw [e1] at q1
 rw [e2] at q2
 rw [e3] at q3
 subst q1 q2 q3
 exact ⟨A1,p1,A2,p2,A3,p3,by rw [he,hv,e0];rfl,h',hb⟩
set_option maxHeartbeats 8000000 in
set_option maxRecDepth 100000 in
theorem awake_calls:Gives Tryz.prog 8 #[] (.bool true):=by
 intro w
 have hcols:ColsIn (w.alloc (.cells #[.int .u8 105,.bool false] 58)) (.slice (some ⟨w.heap.size,0,none⟩) 1 1) cols14:=lit_cols w 58 cols14 (by decide)
 have hb:=Below.alloc (.refl w.heap.size w) (Nat.le_refl _) (.cells #[.int .u8 105,.bool false] 58)
 have HN:=Lib.hid (new14s_calls (name:=abc14) (nm:=abc14) (t:=newT abc14 cols14) (k1:=1) hcols (by decide) new14 new14A rfl rfl rfl rfl)
 clear hcols
 go_enter Tryz.func8,Tryz.ntmps8
 go_wp2_with fail
 generalize w.alloc (.cells #[.int .u8 105,.bool false] 58)=w0 at *
 refine HN.out.mono ?_
 rintro e w1 ⟨A1,p1,A2,p2,A3,p3,rfl,h1,hk⟩
 have hb1:=hb.trans (hk.mono hb.size)
 clear hk hb HN
 have hx1:=tbox_lit w1 28 abc14 (.slice A1 1 p1) (.slice A2 0 p2) (.slice A3 0 p3)
 have hn1:=NoInt.box w1 28 abc14 A1 A2 A3 1 0 0 p1 p2 p3
 have hq:=Below.alloc (.refl w1.heap.size w1) (Nat.le_refl _) (.cells #[.string abc14,.slice A1 1 p1,.slice A2 0 p2,.slice A3 0 p3] 28)
 have hT2:=h1.kept hq
 have hb2:=hb1.trans (hq.mono hb1.size)
 have hw1:=hb1.size
 have hsz:(w1.alloc (.cells #[.string abc14,.slice A1 1 p1,.slice A2 0 p2,.slice A3 0 p3] 28)).heap.size=w1.heap.size+1:=by simp
 have hcolb:ColsIn ((w1.alloc (.cells #[.string abc14,.slice A1 1 p1,.slice A2 0 p2,.slice A3 0 p3] 28)).alloc (.cells #[.int .u8 105,.bool false] 58)) (.slice (some ⟨w1.heap.size+1,0,none⟩) 1 1) cols14:=by
  have:=lit_cols (w1.alloc (.cells #[.string abc14,.slice A1 1 p1,.slice A2 0 p2,.slice A3 0 p3] 28)) 58 cols14 (by decide)
  rw [hsz] at this
  exact this
 have hqb:=Below.alloc (.refl _ (w1.alloc (.cells #[.string abc14,.slice A1 1 p1,.slice A2 0 p2,.slice A3 0 p3] 28))) (Nat.le_refl _) (.cells #[.int .u8 105,.bool false] 58)
 have HX:=Lib.hid (hx1.later hqb)
 have HNI:=Lib.hid (hn1.later (by rw [hsz];omega) hqb)
 have HT:=Lib.hid (hT2.kept hqb)
 have HB:=Lib.hid (hb2.trans (hqb.mono hb2.size))
 have HN2:=Lib.hid (new14s_calls (name:=⟨#[]⟩) (nm:=⟨#[]⟩) (t:=newT ⟨#[]⟩ []) (k1:=0) hcolb (by decide) new14n new14B rfl rfl rfl rfl)
 have hlt0:w1.heap.size < ((w1.alloc (.cells #[.string abc14,.slice A1 1 p1,.slice A2 0 p2,.slice A3 0 p3] 28)).alloc (.cells #[.int .u8 105,.bool false] 58)).heap.size:=by rw [World.size_alloc,hsz];omega
 clear h1 hq hb1 hx1 hn1 hT2 hb2 hcolb hqb hsz
 go_wp2_with fail
 generalize hW2:(w1.alloc (.cells #[.string abc14,.slice A1 1 p1,.slice A2 0 p2,.slice A3 0 p3] 28)).alloc (.cells #[.int .u8 105,.bool false] 58)=w2 at *
 clear hW2
 generalize w1.heap.size=O at *
 refine HN2.out.mono ?_
 rintro e w3 ⟨A4,p4,A5,p5,A6,p6,rfl,h3,hk⟩
 have hq3:=hk.trans ((Below.alloc (.refl w3.heap.size w3) (Nat.le_refl _) (.cells #[.string ⟨#[]⟩,.slice A4 0 p4,.slice A5 0 p5,.slice A6 0 p6] 28)).mono hk.size)
 have hx4:=HX.out.later hq3
 have hn4:=HNI.out.later hlt0 hq3
 have hT4:=(HT.out.noneQ (RowOff (boxV O)) rfl rfl).kept hq3
 have hb4:=HB.out.trans (hq3.mono HB.out.size)
 have hlt4:O < (w3.alloc (.cells #[.string ⟨#[]⟩,.slice A4 0 p4,.slice A5 0 p5,.slice A6 0 p6] 28)).heap.size:=Nat.lt_of_lt_of_le hlt0 hq3.size
 have HX4:=Lib.hid hx4
 have HNI4:=Lib.hid hn4
 have HT4:=Lib.hid hT4
 have HB4:=Lib.hid hb4
 have HO:=Lib.hid hw1
 clear HX HNI HT HB HN2 h3 hk hq3 hlt0 hx4 hn4 hT4 hb4
 go_upto_region 3 with fail
 generalize w3.alloc (.cells #[.string ⟨#[]⟩,.slice A4 0 p4,.slice A5 0 p5,.slice A6 0 p6] 28)=w5 at *
 have HL4:=Lib.hid hlt4
 clear hlt4 hw1
 have HX:=HX4
 have HT:=HT4
 have HNI:=HNI4
 have HB:=HB4
 have HL:Hid (O < w5.heap.size):=HL4
 clear HX4 HT4 HNI4 HB4
 refine wp_region_calm (offC w5) (fun k=>k==8) (fun k=>k==7||k==9) anyE true (by kernel_rfl) (by kernel_rfl) (by kernel_rfl) (by kernel_rfl) (by intro m hm;revert hm;simp;try omega) (offC_stable _) (offC_start _) ?_
 refine calm_fixA rfl rfl ?_
 apply Exists.intro
 refine ⟨fun a wz hc hk hf K hK=>?_,?_⟩
 ·have hb:Below w5.heap.size w5 wz:=hc rfl
  have h1:=hk 1 (by kernel_rfl)
  clear hk hf hc
  obtain ⟨x0,x1,x2,x3,_⟩:=(HX.out.later hb).cells
  go_simp
  exact hK _ _ (Below.refl _ _) rfl
 refine calm_varA (RowP w5.heap.size [cellInt 2] (1)) rfl rfl RowP.kept (fun a wz hc hk hf K hK=>?_) ?_
 ·have hb:Below w5.heap.size w5 wz:=hc rfl
  clear hk hf hc
  go_simp
  refine (row14_calls 2 (1) (by decide) (by decide) _).mono ?_
  rintro e w1 ⟨A,p,rfl,h1,h2,hq⟩
  exact hK _ _ hq (fun _=>⟨A,p,rfl,h1,h2.mono hb.size⟩)
 refine calm_varA (RowP w5.heap.size [cellInt 1] (3)) rfl rfl RowP.kept (fun a wz hc hk hf K hK=>?_) ?_
 ·have hb:Below w5.heap.size w5 wz:=hc rfl
  clear hk hf hc
  go_simp
  refine (row14_calls 1 (3) (by decide) (by decide) _).mono ?_
  rintro e w1 ⟨A,p,rfl,h1,h2,hq⟩
  exact hK _ _ hq (fun _=>⟨A,p,rfl,h1,h2.mono hb.size⟩)
 refine calm_varA (LitP (RowOff (boxV O)) come14) rfl rfl LitP.kept (fun a wz hc hk hf K hK=>?_) ?_
 ·have hb:Below w5.heap.size w5 wz:=hc rfl
  obtain ⟨v32,h32,S32⟩:=held_at hf 1 rfl (by kernel_rfl)
  obtain ⟨v33,h33,S33⟩:=held_at hf 0 rfl (by kernel_rfl)
  clear hk hf hc
  obtain ⟨A32,p32,rfl,s32,f32⟩:=S32 rfl
  obtain ⟨A33,p33,rfl,s33,f33⟩:=S33 rfl
  have hlq:=lit_timesQ (RowOff (boxV O)) wz 46 [(.slice A32 1 p32,1),(.slice A33 1 p33,3)] come14 ⟨⟨s32,rfl⟩,⟨s33,rfl⟩,trivial⟩ (by decide) (fun t ht=>by
   simp only [List.mem_cons,List.not_mem_nil,or_false] at ht
   rcases ht with rfl|rfl
   ·exact box_fresh (f32.mono (Nat.le_refl _)) HL.out
   ·exact box_fresh (f33.mono (Nat.le_refl _)) HL.out
  )
  go_simp
  exact hK _ _ (Below.alloc (.refl _ _) (Nat.le_refl _) _) (fun _=>⟨_,_,rfl,hlq⟩)
 refine calm_varB (TupS 0) (AppR (RowOff (boxV O)) tA14 0) rfl rfl AppR.kept (fun a wz hc hk hf K hK=>?_) ?_
 ·have hb:Below w5.heap.size w5 wz:=hc rfl
  have h31:=held_isV hf 3 rfl (by kernel_rfl)
  obtain ⟨v34,h34,S34⟩:=held_at hf 0 rfl (by kernel_rfl)
  clear hk hf hc
  obtain ⟨A34,p34,rfl,s34⟩:=S34 rfl
  go_simp
  have hap:=table_apply_q (RowOff (boxV O)) (w:=wz) (t:=(newT abc14 cols14)) (l:=come14) ⟨_,_,_,rfl,HT.out.kept hb⟩ newT14_good (fun u hu=>box_fresh hu (Nat.lt_of_lt_of_le HL.out hb.size)) s34 (by decide)
  unfold TApplyQ at hap
  rw [come14T,come14N] at hap
  refine Calls.mono hap ?_
  rintro e w1 ⟨v1,rfl,h1,hq⟩
  exact hK _ _ hq ⟨⟨v1,rfl⟩,fun _=>⟨v1,rfl,h1⟩⟩
 refine calm_varB (TupS 0) (AppR (RowOff (boxV O)) tA14 0) rfl rfl AppR.kept (fun a wz hc hk hf K hK=>?_) ?_
 ·have hb:Below w5.heap.size w5 wz:=hc rfl
  obtain ⟨v35,h35,S35⟩:=held_at hf 0 rfl (by kernel_rfl)
  clear hk hf hc
  go_simp
  exact hK _ _ (Below.refl _ _) S35
 refine calm_varA (fun v wx=>TblInQ (RowOff (boxV O)) wx v tA14) rfl rfl TblInQ.keptF (fun a wz hc hk hf K hK=>?_) ?_
 ·have hb:Below w5.heap.size w5 wz:=hc rfl
  obtain ⟨v30,h30,S30⟩:=held_at hf 0 rfl (by kernel_rfl)
  clear hk hf hc
  obtain ⟨-,hr⟩:=S30
  obtain ⟨v1,rfl,h1⟩:=hr rfl
  go_simp
  exact hK _ _ (Below.refl _ _) (fun _=>h1)
 refine calm_fix rfl ?_
 apply Exists.intro
 refine ⟨fun ph a wz hl hc hk hf K hK=>?_,?_⟩
 ·obtain ⟨v30,h30,S30⟩:=held_at hf 1 rfl (by kernel_rfl)
  clear hk hf hc hl
  obtain ⟨⟨v1,rfl⟩,-⟩:=S30
  go_simp
  exact hK _ _ (Below.refl _ _) rfl
 refine calm_storeA (fun w0=>TblAt (RowOff (boxV O)) w0 O tA14∧Below w.heap.size w w0) rfl (fun m h=>by simpa using h) (fun a wz hb hk hf K hK=>?_) ?_
 ·have h1:=hk 1 (by kernel_rfl)
  obtain ⟨v36,h36,S36⟩:=held_at hf 1 rfl (by kernel_rfl)
  clear hk hf
  obtain ⟨A1,p1,A2,p2,A3,p3,rfl,hT⟩:=(S36 rfl).parts
  have hat0:TblAt (RowOff (boxV O)) w5 O (newT abc14 cols14):=⟨_,_,_,_,_,_,HX.out,HT.out,HNI.out⟩
  have hst:=(hat0.kept hb).store (fun u hu=>hu) hT
  have hbe:=below_four (HB.out.trans (hb.mono HB.out.size)) HO.out (.string tA14.name) (.slice A1 tA14.cols.length p1) (.slice A2 (cutL tA14.R).length p2) (.slice A3 tA14.T.length p3)
  obtain ⟨x0,x1,x2,x3,_⟩:=(HX.out.later hb).cells
  obtain ⟨f0,f1,f2,f3⟩:=(HX.out.later hb).free
  have HST:=Lib.hid hst
  have HBE:=Lib.hid hbe
  clear hst hbe hat0 hT
  go_simp
  exact hK undef _ ⟨HST.out,HBE.out⟩
 refine calm_fix rfl ?_
 apply Exists.intro
 refine ⟨fun ph a wz hl hc hk hf K hK=>?_,?_⟩
 ·have h37:=held_isV hf 1 rfl (by kernel_rfl)
  clear hk hf hc hl
  go_simp
  exact hK _ _ (Below.refl _ _) rfl
 refine calm_nil ?_
 refine ⟨keeps_one (m:=8) (fun k h=>by simpa using h) ⟨.inr (loose_isV _),.inr (loose_ahead _),.inr (loose_ahead _),.inr (loose_ahead _),.inr (loose_both _ _),.inr (loose_both _ _),.inr (loose_ahead _),.inr (loose_isV _),.inl rfl,.inr (loose_isV _),trivial⟩,?_⟩
 intro w6 hc
 simp only [lexL,calmEnd]
 rintro _ rfl v32 S32 v33 S33 v34 S34 v35 S35 v30 S30 v36 S36 _ rfl _ hst8 _ rfl
 obtain ⟨wx,⟨hA,hb⟩,hq⟩:=hst8 rfl
 replace hA:=hA.kept hq
 replace hb:=hb.trans (hq.mono hb.size)
 clear hst8 hq hc S32 S33 S34 S35 S30 S36 HX HT HNI HB HL
 obtain ⟨A1,p1,A2,p2,A3,p3,hx,hT,hn⟩:=hA
 have HL:=Lib.hid hx.cells.2.2.2.2
 have HX:=Lib.hid hx
 have HT:=Lib.hid hT
 have HNI:=Lib.hid hn
 have HB:=Lib.hid hb
 clear hx hT hn hb
 simp only [Act.put,List.setIfInBounds_toArray,List.set_cons_zero,List.set_cons_succ]
 go_wp2_with fail
 refine wp_region_calm (offC w6) (fun k=>k==8) (fun k=>k==6||k==9) anyE true (by kernel_rfl) (by kernel_rfl) (by kernel_rfl) (by kernel_rfl) (by intro m hm;revert hm;simp;try omega) (offC_stable _) (offC_start _) ?_
 refine calm_fixA rfl rfl ?_
 apply Exists.intro
 refine ⟨fun a wz hc hk hf K hK=>?_,?_⟩
 ·have hb:Below w6.heap.size w6 wz:=hc rfl
  have h1:=hk 1 (by kernel_rfl)
  clear hk hf hc
  obtain ⟨x0,x1,x2,x3,_⟩:=(HX.out.later hb).cells
  go_simp
  exact hK _ _ (Below.refl _ _) rfl
 refine calm_varA (RowP w6.heap.size [cellInt 2] (-2)) rfl rfl RowP.kept (fun a wz hc hk hf K hK=>?_) ?_
 ·have hb:Below w6.heap.size w6 wz:=hc rfl
  clear hk hf hc
  go_simp
  refine (row14_calls 2 (-2) (by decide) (by decide) _).mono ?_
  rintro e w1 ⟨A,p,rfl,h1,h2,hq⟩
  exact hK _ _ hq (fun _=>⟨A,p,rfl,h1,h2.mono hb.size⟩)
 refine calm_varA (LitP (RowOff (boxV O)) goes14) rfl rfl LitP.kept (fun a wz hc hk hf K hK=>?_) ?_
 ·have hb:Below w6.heap.size w6 wz:=hc rfl
  obtain ⟨v40,h40,S40⟩:=held_at hf 0 rfl (by kernel_rfl)
  clear hk hf hc
  obtain ⟨A40,p40,rfl,s40,f40⟩:=S40 rfl
  have hlq:=lit_timesQ (RowOff (boxV O)) wz 46 [(.slice A40 1 p40,-2)] goes14 ⟨⟨s40,rfl⟩,trivial⟩ (by decide) (fun t ht=>by
   simp only [List.mem_cons,List.not_mem_nil,or_false] at ht
   rcases ht with rfl
   ·exact box_fresh (f40.mono (Nat.le_refl _)) HL.out
  )
  go_simp
  exact hK _ _ (Below.alloc (.refl _ _) (Nat.le_refl _) _) (fun _=>⟨_,_,rfl,hlq⟩)
 refine calm_varB (TupS 6) (AppR (RowOff (boxV O)) tA14 6) rfl rfl AppR.kept (fun a wz hc hk hf K hK=>?_) ?_
 ·have hb:Below w6.heap.size w6 wz:=hc rfl
  have h39:=held_isV hf 2 rfl (by kernel_rfl)
  obtain ⟨v41,h41,S41⟩:=held_at hf 0 rfl (by kernel_rfl)
  clear hk hf hc
  obtain ⟨A41,p41,rfl,s41⟩:=S41 rfl
  go_simp
  have hap:=table_apply_q (RowOff (boxV O)) (w:=wz) (t:=tA14) (l:=goes14) ⟨_,_,_,rfl,HT.out.kept hb⟩ tA14_good (fun u hu=>box_fresh hu (Nat.lt_of_lt_of_le HL.out hb.size)) s41 (by decide)
  unfold TApplyQ at hap
  rw [(show applyT tA14 goes14=tA14 by unfold applyT;rw [if_neg (by rw [goes14N];decide)]),goes14N] at hap
  refine Calls.mono hap ?_
  rintro e w1 ⟨v1,rfl,h1,hq⟩
  exact hK _ _ hq ⟨⟨v1,rfl⟩,fun _=>⟨v1,rfl,h1⟩⟩
 refine calm_varB (TupS 6) (AppR (RowOff (boxV O)) tA14 6) rfl rfl AppR.kept (fun a wz hc hk hf K hK=>?_) ?_
 ·have hb:Below w6.heap.size w6 wz:=hc rfl
  obtain ⟨v42,h42,S42⟩:=held_at hf 0 rfl (by kernel_rfl)
  clear hk hf hc
  go_simp
  exact hK _ _ (Below.refl _ _) S42
 refine calm_varA (fun v wx=>TblInQ (RowOff (boxV O)) wx v tA14) rfl rfl TblInQ.keptF (fun a wz hc hk hf K hK=>?_) ?_
 ·have hb:Below w6.heap.size w6 wz:=hc rfl
  obtain ⟨v38,h38,S38⟩:=held_at hf 0 rfl (by kernel_rfl)
  clear hk hf hc
  obtain ⟨-,hr⟩:=S38
  obtain ⟨v1,rfl,h1⟩:=hr rfl
  go_simp
  exact hK _ _ (Below.refl _ _) (fun _=>h1)
 refine calm_fix rfl ?_
 apply Exists.intro
 refine ⟨fun ph a wz hl hc hk hf K hK=>?_,?_⟩
 ·obtain ⟨v38,h38,S38⟩:=held_at hf 1 rfl (by kernel_rfl)
  clear hk hf hc hl
  obtain ⟨⟨v1,rfl⟩,-⟩:=S38
  go_simp
  exact hK _ _ (Below.refl _ _) rfl
 refine calm_varA (ZeroP w6.heap.size) rfl rfl ZeroP.kept (fun a wz hc hk hf K hK=>?_) ?_
 ·have hb:Below w6.heap.size w6 wz:=hc rfl
  clear hk hf hc
  go_simp
  exact hK _ _ (Below.alloc (.refl _ _) (Nat.le_refl _) _) (fun _=>⟨_,rfl,hb.size,tbox_lit _ _ _ _ _ _⟩)
 refine calm_storeA (fun w0=>Below w6.heap.size w6 w0) rfl (fun m h=>by simpa using h) (fun a wz hb hk hf K hK=>?_) ?_
 ·obtain ⟨v6,h6,S6⟩:=held_at hf 0 rfl (by kernel_rfl)
  obtain ⟨v43,h43,S43⟩:=held_at hf 2 rfl (by kernel_rfl)
  clear hk hf
  obtain ⟨A1,p1,A2,p2,A3,p3,rfl,hT⟩:=(S43 rfl).parts
  obtain ⟨b,rfl,hbl,hz⟩:=S6 rfl
  have hbe:=below_four hb hbl (.string tA14.name) (.slice A1 tA14.cols.length p1) (.slice A2 (cutL tA14.R).length p2) (.slice A3 tA14.T.length p3)
  obtain ⟨x0,x1,x2,x3,_⟩:=hz.cells
  obtain ⟨f0,f1,f2,f3⟩:=hz.free
  have HBE:=Lib.hid hbe
  clear hbe hT hz
  go_simp
  exact hK undef _ HBE.out
 refine calm_fix rfl ?_
 apply Exists.intro
 refine ⟨fun ph a wz hl hc hk hf K hK=>?_,?_⟩
 ·have h44:=held_isV hf 2 rfl (by kernel_rfl)
  clear hk hf hc hl
  go_simp
  exact hK _ _ (Below.refl _ _) rfl
 refine calm_nil ?_
 refine ⟨keeps_one (m:=8) (fun k h=>by simpa using h) ⟨.inr (loose_isV _),.inr (loose_ahead _),.inr (loose_ahead _),.inr (loose_both _ _),.inr (loose_both _ _),.inr (loose_ahead _),.inr (loose_isV _),.inr (loose_ahead _),.inl rfl,.inr (loose_isV _),trivial⟩,?_⟩
 intro w7 hc
 simp only [lexL,calmEnd]
 rintro _ rfl v40 S40 v41 S41 v42 S42 v38 S38 v43 S43 _ rfl v6 S6 _ hst8 _ rfl
 obtain ⟨wx,hb0,hq⟩:=hst8 rfl
 have hq2:=hb0.trans (hq.mono hb0.size)
 have hx:=HX.out.later hq2
 have hT:=HT.out.kept hq2
 have hn:=HNI.out.later HL.out hq2
 have hb:=HB.out.trans (hq2.mono HB.out.size)
 clear hst8 hb0 hq hc S40 S41 S42 S38 S43 S6 HX HT HNI HB HL hq2
 have HL:=Lib.hid hx.cells.2.2.2.2
 have HX:=Lib.hid hx
 have HT:=Lib.hid hT
 have HNI:=Lib.hid hn
 have HB:=Lib.hid hb
 clear hx hT hn hb
 simp only [Act.put,List.setIfInBounds_toArray,List.set_cons_zero,List.set_cons_succ]
 obtain ⟨x0,x1,x2,x3,_⟩:=HX.out.cells
 have hq1:=Below.alloc (.refl w7.heap.size w7) (Nat.le_refl _) (.cells #[.string ⟨#[116,97]⟩] 9)
 have hs1:=lit_strs w7 9 [⟨#[116,97]⟩] (by decide)
 have hl1:=lit_times (w7.alloc (.cells #[.string ⟨#[116,97]⟩] 9)) 46 [(.slice (some ⟨w7.heap.size,0,none⟩) 1 1,1)] text14 ⟨⟨hs1,rfl⟩,trivial⟩ (by decide)
 have hsz:(w7.alloc (.cells #[.string ⟨#[116,97]⟩] 9)).heap.size=w7.heap.size+1:=by simp
 have hq2:=hq1.trans ((Below.alloc (.refl _ (w7.alloc (.cells #[.string ⟨#[116,97]⟩] 9))) (Nat.le_refl _) (.cells #[.slice (some ⟨w7.heap.size,0,none⟩) 1 1,.int .i64 1] 46)).mono hq1.size)
 rw [hsz] at hl1
 have HAP:=Lib.hid (table_apply_calls (t:=tA14) (l:=text14) ⟨_,_,_,rfl,(HT.out.of.kept hq2)⟩ tA14_good hl1 (by decide))
 unfold TApplyEnd at HAP
 rw [text14N,show applyT tA14 text14=tA14 by unfold applyT;rw [if_neg (by rw [text14N];decide)]] at HAP
 have HQ2:=Lib.hid hq2
 clear hq1 hs1 hl1 hsz hq2
 go_wp2_with fail
 generalize (w7.alloc (.cells #[.string ⟨#[116,97]⟩] 9)).alloc (.cells #[.slice (some ⟨w7.heap.size,0,none⟩) 1 1,.int .i64 1] 46)=w8 at *
 refine HAP.out.mono ?_
 rintro e w9 ⟨v9,rfl,h9,hq9⟩
 obtain ⟨B1,q1,B2,q2,B3,q3,rfl,-⟩:=h9.trueQ.parts
 clear x0 x1 x2 x3 HAP
 go_wp2_with fail
 generalize hwz:w9.alloc _=w10
 have hq10:Below w9.heap.size w9 w10:=hwz▸Below.alloc (.refl _ _) (Nat.le_refl _) _
 have hqa:=HQ2.out.trans (hq9.mono HQ2.out.size)
 have hq:=hqa.trans (hq10.mono hqa.size)
 clear hwz hq9 hq10 hqa h9 HQ2
 have hx:=HX.out.later hq
 have hT:=HT.out.kept hq
 have hn:=HNI.out.later HL.out hq
 have hb:=HB.out.trans (hq.mono HB.out.size)
 clear HX HT HNI HB HL hq
 have HL:=Lib.hid hx.cells.2.2.2.2
 have HX:=Lib.hid hx
 have HT:=Lib.hid hT
 have HNI:=Lib.hid hn
 have HB:=Lib.hid hb
 clear hx hT hn hb
 refine wp_region_calm (offC w10) (fun k=>k==8) (fun k=>k==6||k==9) anyE true (by kernel_rfl) (by kernel_rfl) (by kernel_rfl) (by kernel_rfl) (by intro m hm;revert hm;simp;try omega) (offC_stable _) (offC_start _) ?_
 refine calm_fixA rfl rfl ?_
 apply Exists.intro
 refine ⟨fun a wz hc hk hf K hK=>?_,?_⟩
 ·have hb:Below w10.heap.size w10 wz:=hc rfl
  have h1:=hk 1 (by kernel_rfl)
  clear hk hf hc
  obtain ⟨x0,x1,x2,x3,_⟩:=(HX.out.later hb).cells
  go_simp
  exact hK _ _ (Below.refl _ _) rfl
 refine calm_varA (RowP w10.heap.size [cellInt 1] (1048576)) rfl rfl RowP.kept (fun a wz hc hk hf K hK=>?_) ?_
 ·have hb:Below w10.heap.size w10 wz:=hc rfl
  clear hk hf hc
  go_simp
  refine (row14_calls 1 (1048576) (by decide) (by decide) _).mono ?_
  rintro e w1 ⟨A,p,rfl,h1,h2,hq⟩
  exact hK _ _ hq (fun _=>⟨A,p,rfl,h1,h2.mono hb.size⟩)
 refine calm_varA (LitP (RowOff (boxV O)) many14) rfl rfl LitP.kept (fun a wz hc hk hf K hK=>?_) ?_
 ·have hb:Below w10.heap.size w10 wz:=hc rfl
  obtain ⟨v55,h55,S55⟩:=held_at hf 0 rfl (by kernel_rfl)
  clear hk hf hc
  obtain ⟨A55,p55,rfl,s55,f55⟩:=S55 rfl
  have hlq:=lit_timesQ (RowOff (boxV O)) wz 46 [(.slice A55 1 p55,1048576)] many14 ⟨⟨s55,rfl⟩,trivial⟩ (by decide) (fun t ht=>by
   simp only [List.mem_cons,List.not_mem_nil,or_false] at ht
   rcases ht with rfl
   ·exact box_fresh (f55.mono (Nat.le_refl _)) HL.out
  )
  go_simp
  exact hK _ _ (Below.alloc (.refl _ _) (Nat.le_refl _) _) (fun _=>⟨_,_,rfl,hlq⟩)
 refine calm_varB (TupS 8) (AppR (RowOff (boxV O)) tA14 8) rfl rfl AppR.kept (fun a wz hc hk hf K hK=>?_) ?_
 ·have hb:Below w10.heap.size w10 wz:=hc rfl
  have h54:=held_isV hf 2 rfl (by kernel_rfl)
  obtain ⟨v56,h56,S56⟩:=held_at hf 0 rfl (by kernel_rfl)
  clear hk hf hc
  obtain ⟨A56,p56,rfl,s56⟩:=S56 rfl
  go_simp
  have hap:=table_apply_q (RowOff (boxV O)) (w:=wz) (t:=tA14) (l:=many14) ⟨_,_,_,rfl,HT.out.kept hb⟩ tA14_good (fun u hu=>box_fresh hu (Nat.lt_of_lt_of_le HL.out hb.size)) s56 (by decide)
  unfold TApplyQ at hap
  rw [(show applyT tA14 many14=tA14 by unfold applyT;rw [if_neg (by rw [many14N];decide)]),many14N] at hap
  refine Calls.mono hap ?_
  rintro e w1 ⟨v1,rfl,h1,hq⟩
  exact hK _ _ hq ⟨⟨v1,rfl⟩,fun _=>⟨v1,rfl,h1⟩⟩
 refine calm_varB (TupS 8) (AppR (RowOff (boxV O)) tA14 8) rfl rfl AppR.kept (fun a wz hc hk hf K hK=>?_) ?_
 ·have hb:Below w10.heap.size w10 wz:=hc rfl
  obtain ⟨v57,h57,S57⟩:=held_at hf 0 rfl (by kernel_rfl)
  clear hk hf hc
  go_simp
  exact hK _ _ (Below.refl _ _) S57
 refine calm_varA (fun v wx=>TblInQ (RowOff (boxV O)) wx v tA14) rfl rfl TblInQ.keptF (fun a wz hc hk hf K hK=>?_) ?_
 ·have hb:Below w10.heap.size w10 wz:=hc rfl
  obtain ⟨v53,h53,S53⟩:=held_at hf 0 rfl (by kernel_rfl)
  clear hk hf hc
  obtain ⟨-,hr⟩:=S53
  obtain ⟨v1,rfl,h1⟩:=hr rfl
  go_simp
  exact hK _ _ (Below.refl _ _) (fun _=>h1)
 refine calm_fix rfl ?_
 apply Exists.intro
 refine ⟨fun ph a wz hl hc hk hf K hK=>?_,?_⟩
 ·obtain ⟨v53,h53,S53⟩:=held_at hf 1 rfl (by kernel_rfl)
  clear hk hf hc hl
  obtain ⟨⟨v1,rfl⟩,-⟩:=S53
  go_simp
  exact hK _ _ (Below.refl _ _) rfl
 refine calm_varA (ZeroP w10.heap.size) rfl rfl ZeroP.kept (fun a wz hc hk hf K hK=>?_) ?_
 ·have hb:Below w10.heap.size w10 wz:=hc rfl
  clear hk hf hc
  go_simp
  exact hK _ _ (Below.alloc (.refl _ _) (Nat.le_refl _) _) (fun _=>⟨_,rfl,hb.size,tbox_lit _ _ _ _ _ _⟩)
 refine calm_storeA (fun w0=>Below w10.heap.size w10 w0) rfl (fun m h=>by simpa using h) (fun a wz hb hk hf K hK=>?_) ?_
 ·obtain ⟨v10,h10,S10⟩:=held_at hf 0 rfl (by kernel_rfl)
  obtain ⟨v58,h58,S58⟩:=held_at hf 2 rfl (by kernel_rfl)
  clear hk hf
  obtain ⟨A1,p1,A2,p2,A3,p3,rfl,hT⟩:=(S58 rfl).parts
  obtain ⟨b,rfl,hbl,hz⟩:=S10 rfl
  have hbe:=below_four hb hbl (.string tA14.name) (.slice A1 tA14.cols.length p1) (.slice A2 (cutL tA14.R).length p2) (.slice A3 tA14.T.length p3)
  obtain ⟨x0,x1,x2,x3,_⟩:=hz.cells
  obtain ⟨f0,f1,f2,f3⟩:=hz.free
  have HBE:=Lib.hid hbe
  clear hbe hT hz
  go_simp
  exact hK undef _ HBE.out
 refine calm_fix rfl ?_
 apply Exists.intro
 refine ⟨fun ph a wz hl hc hk hf K hK=>?_,?_⟩
 ·have h59:=held_isV hf 2 rfl (by kernel_rfl)
  clear hk hf hc hl
  go_simp
  exact hK _ _ (Below.refl _ _) rfl
 refine calm_nil ?_
 refine ⟨keeps_one (m:=8) (fun k h=>by simpa using h) ⟨.inr (loose_isV _),.inr (loose_ahead _),.inr (loose_ahead _),.inr (loose_both _ _),.inr (loose_both _ _),.inr (loose_ahead _),.inr (loose_isV _),.inr (loose_ahead _),.inl rfl,.inr (loose_isV _),trivial⟩,?_⟩
 intro w11 hc
 simp only [lexL,calmEnd]
 rintro _ rfl v55 S55 v56 S56 v57 S57 v53 S53 v58 S58 _ rfl v10 S10 _ hst8 _ rfl
 obtain ⟨wx,hb0,hq⟩:=hst8 rfl
 have hq2:=hb0.trans (hq.mono hb0.size)
 have hx:=HX.out.later hq2
 have hT:=HT.out.kept hq2
 have hn:=HNI.out.later HL.out hq2
 have hb:=HB.out.trans (hq2.mono HB.out.size)
 clear hst8 hb0 hq hc S55 S56 S57 S53 S58 S10 HX HT HNI HB HL hq2
 have HL:=Lib.hid hx.cells.2.2.2.2
 have HX:=Lib.hid hx
 have HT:=Lib.hid hT
 have HNI:=Lib.hid hn
 have HB:=Lib.hid hb
 clear hx hT hn hb
 simp only [Act.put,List.setIfInBounds_toArray,List.set_cons_zero,List.set_cons_succ]
 obtain ⟨x0,x1,x2,x3,_⟩:=HX.out.cells
 have HPK:=Lib.hid (table_pack_q (fun _=>True) (w:=w11) (t:=tA14) ⟨_,_,_,rfl,HT.out.of⟩ tA14_good (fun _ _=>trivial))
 unfold TPackQ at HPK
 rw [pack14] at HPK
 go_wp2_with fail
 refine HPK.out.mono ?_
 rintro e w12 ⟨v12,rfl,h12,hq12⟩
 obtain ⟨B1,q1,B2,q2,B3,q3,rfl,hT12⟩:=h12.parts
 have hx12:=HX.out.later hq12
 have ht12:=HT.out.of.kept hq12
 have hb12:=HB.out.trans (hq12.mono HB.out.size)
 have hat:=TblAt.new 28 hT12
 have hq13:=Below.alloc (.refl w12.heap.size w12) (Nat.le_refl _) (.cells #[.string tP14.name,.slice B1 tP14.cols.length q1,.slice B2 (cutL tP14.R).length q2,.slice B3 tP14.T.length q3] 28)
 have HRW:Hid (Calls Tryz.prog 19 #[.agg #[.string tP14.name,.slice B1 tP14.cols.length q1,.slice B2 (cutL tP14.R).length q2,.slice B3 tP14.T.length q3]] (w12.alloc (.cells #[.string tP14.name,.slice B1 tP14.cols.length q1,.slice B2 (cutL tP14.R).length q2,.slice B3 tP14.T.length q3] 28)) fun e w'=>∃ b off p,e=.returned (.tuple #[.slice (some ⟨b,off,none⟩) 2 p,.int .i64 (cutL there14).length])∧w'.cell? ⟨b,off+1,none⟩=some (.int .i64 3)∧b < w'.heap.size∧Below (w12.alloc (.cells #[.string tP14.name,.slice B1 tP14.cols.length q1,.slice B2 (cutL tP14.R).length q2,.slice B3 tP14.T.length q3] 28)).heap.size (w12.alloc (.cells #[.string tP14.name,.slice B1 tP14.cols.length q1,.slice B2 (cutL tP14.R).length q2,.slice B3 tP14.T.length q3] 28)) w'):=by
  refine Calls.mono (table_rows_calls (t:=tP14) ⟨_,_,_,rfl,hT12.of.kept hq13⟩ tP14_good) ?_
  rintro e w' ⟨v,rfl,h1,h2⟩
  rw [rowsP14] at h1
  obtain ⟨tv,A,p,rfl,_,hc⟩:=times_at h1
  obtain ⟨b,off,rfl,hbl,hcc⟩:=hc 0 (by decide)
  obtain ⟨_,_,_,_,c2⟩:=hcc 0 (by decide)
  rw [Nat.zero_mul,Nat.add_zero] at c2
  exact ⟨b,off,p,rfl,c2,hbl,h2⟩
 have hO2:w12.heap.size < (w12.alloc (.cells #[.string tP14.name,.slice B1 tP14.cols.length q1,.slice B2 (cutL tP14.R).length q2,.slice B3 tP14.T.length q3] 28)).heap.size:=by simp
 have HX12:=Lib.hid hx12
 have HT12:=Lib.hid ht12
 have HB12:=Lib.hid hb12
 have HAT:=Lib.hid hat
 have HQ13:=Lib.hid hq13
 clear x0 x1 x2 x3 HPK h12 hT12 hx12 ht12 hb12 hq12 hat hq13 HX HT HNI HB
 go_wp2_with fail
 generalize w12.alloc (.cells #[.string tP14.name,.slice B1 tP14.cols.length q1,.slice B2 (cutL tP14.R).length q2,.slice B3 tP14.T.length q3] 28)=w13 at *
 refine HRW.out.mono ?_
 rintro e w14 ⟨b14,off14,p14,rfl,c14,hb14,hq14⟩
 have hat:=HAT.out.kept hq14
 have HC14:=Lib.hid c14
 have HB14:=Lib.hid hb14
 have HQ14:=Lib.hid (HQ13.out.trans (hq14.mono HQ13.out.size))
 have HB:=Lib.hid (HB12.out.trans (HQ14.out.mono HB12.out.size))
 have HOW:Hid (w.heap.size≤w12.heap.size):=HB12.out.size
 clear c14 hb14 hq14 HRW HAT HQ13 hO2
 generalize hO2:w12.heap.size=O2 at *
 obtain ⟨A1,p1,A2,p2,A3,p3,hx,hT,hn⟩:=hat
 have HL2:=Lib.hid hx.cells.2.2.2.2
 have HO:=Lib.hid HOW.out
 have HX:=Lib.hid hx
 have HT:=Lib.hid (hT.mono (Q':=RowOff (boxV O2)) fun u hu=>hu.2)
 have HNI:=Lib.hid hn
 have HOE:=Lib.hid hO2
 have HCL:=Lib.hid cut14
 clear hx hT hn hO2
 obtain ⟨cl,hcl⟩:∃ cl,(cutL there14).length=cl:=⟨_,rfl⟩
 rw [hcl] at HCL ⊢
 have HCLE:=Lib.hid hcl
 clear hcl
 go_wp2_with fail
 refine wp_region_calm (offC w14) (fun k=>k==7) (fun k=>k==6||k==8) anyE true (by kernel_rfl) (by kernel_rfl) (by kernel_rfl) (by kernel_rfl) (by intro m hm;revert hm;simp;try omega) (offC_stable _) (offC_start _) ?_
 refine calm_fixA rfl rfl ?_
 apply Exists.intro
 refine ⟨fun a wz hc hk hf K hK=>?_,?_⟩
 ·have hb:Below w14.heap.size w14 wz:=hc rfl
  have h12:=hk 12 (by kernel_rfl)
  clear hk hf hc
  obtain ⟨x0,x1,x2,x3,_⟩:=(HX.out.later hb).cells
  go_simp
  exact hK _ _ (Below.refl _ _) rfl
 refine calm_varA (RowP w14.heap.size [cellInt 2] (-1)) rfl rfl RowP.kept (fun a wz hc hk hf K hK=>?_) ?_
 ·have hb:Below w14.heap.size w14 wz:=hc rfl
  clear hk hf hc
  go_simp
  refine (row14_calls 2 (-1) (by decide) (by decide) _).mono ?_
  rintro e w1 ⟨A,p,rfl,h1,h2,hq⟩
  exact hK _ _ hq (fun _=>⟨A,p,rfl,h1,h2.mono hb.size⟩)
 refine calm_varA (LitP (RowOff (boxV O2)) one14) rfl rfl LitP.kept (fun a wz hc hk hf K hK=>?_) ?_
 ·have hb:Below w14.heap.size w14 wz:=hc rfl
  obtain ⟨v69,h69,S69⟩:=held_at hf 0 rfl (by kernel_rfl)
  clear hk hf hc
  obtain ⟨A69,p69,rfl,s69,f69⟩:=S69 rfl
  have hlq:=lit_timesQ (RowOff (boxV O2)) wz 46 [(.slice A69 1 p69,-1)] one14 ⟨⟨s69,rfl⟩,trivial⟩ (by decide) (fun t ht=>by
   simp only [List.mem_cons,List.not_mem_nil,or_false] at ht
   rcases ht with rfl
   ·exact box_fresh (f69.mono (Nat.le_refl _)) HL2.out
  )
  go_simp
  exact hK _ _ (Below.alloc (.refl _ _) (Nat.le_refl _) _) (fun _=>⟨_,_,rfl,hlq⟩)
 refine calm_varB (TupS 0) (AppR (RowOff (boxV O2)) tQ14 0) rfl rfl AppR.kept (fun a wz hc hk hf K hK=>?_) ?_
 ·have hb:Below w14.heap.size w14 wz:=hc rfl
  have h68:=held_isV hf 2 rfl (by kernel_rfl)
  obtain ⟨v70,h70,S70⟩:=held_at hf 0 rfl (by kernel_rfl)
  clear hk hf hc
  obtain ⟨A70,p70,rfl,s70⟩:=S70 rfl
  go_simp
  have hap:=table_apply_q (RowOff (boxV O2)) (w:=wz) (t:=tP14) (l:=one14) ⟨_,_,_,rfl,HT.out.kept hb⟩ tP14_good (fun u hu=>box_fresh hu (Nat.lt_of_lt_of_le HL2.out hb.size)) s70 (by decide)
  unfold TApplyQ at hap
  rw [one14T,one14N] at hap
  refine Calls.mono hap ?_
  rintro e w1 ⟨v1,rfl,h1,hq⟩
  exact hK _ _ hq ⟨⟨v1,rfl⟩,fun _=>⟨v1,rfl,h1⟩⟩
 refine calm_varB (TupS 0) (AppR (RowOff (boxV O2)) tQ14 0) rfl rfl AppR.kept (fun a wz hc hk hf K hK=>?_) ?_
 ·have hb:Below w14.heap.size w14 wz:=hc rfl
  obtain ⟨v71,h71,S71⟩:=held_at hf 0 rfl (by kernel_rfl)
  clear hk hf hc
  go_simp
  exact hK _ _ (Below.refl _ _) S71
 refine calm_varA (fun v wx=>TblInQ (RowOff (boxV O2)) wx v tQ14) rfl rfl TblInQ.keptF (fun a wz hc hk hf K hK=>?_) ?_
 ·have hb:Below w14.heap.size w14 wz:=hc rfl
  obtain ⟨v67,h67,S67⟩:=held_at hf 0 rfl (by kernel_rfl)
  clear hk hf hc
  obtain ⟨-,hr⟩:=S67
  obtain ⟨v1,rfl,h1⟩:=hr rfl
  go_simp
  exact hK _ _ (Below.refl _ _) (fun _=>h1)
 refine calm_fix rfl ?_
 apply Exists.intro
 refine ⟨fun ph a wz hl hc hk hf K hK=>?_,?_⟩
 ·obtain ⟨v67,h67,S67⟩:=held_at hf 1 rfl (by kernel_rfl)
  clear hk hf hc hl
  obtain ⟨⟨v1,rfl⟩,-⟩:=S67
  go_simp
  exact hK _ _ (Below.refl _ _) rfl
 refine calm_storeA (fun w0=>TblAt (RowOff (boxV O2)) w0 O2 tQ14∧Below O2 w12 w0∧Below w.heap.size w w0∧w0.cell? ⟨b14,off14+1,none⟩=some (.int .i64 3)) rfl (fun m h=>by simpa using h) (fun a wz hb hk hf K hK=>?_) ?_
 ·have h12:=hk 12 (by kernel_rfl)
  obtain ⟨v72,h72,S72⟩:=held_at hf 1 rfl (by kernel_rfl)
  clear hk hf
  obtain ⟨A1,p1,A2,p2,A3,p3,rfl,hT⟩:=(S72 rfl).parts
  have hat0:TblAt (RowOff (boxV O2)) w14 O2 tP14:=⟨_,_,_,_,_,_,HX.out,HT.out,HNI.out⟩
  have hst:=(hat0.kept hb).store (fun u hu=>hu) hT
  have hbe:=below_four (HB.out.trans (hb.mono HB.out.size)) HO.out (.string tQ14.name) (.slice A1 tQ14.cols.length p1) (.slice A2 (cutL tQ14.R).length p2) (.slice A3 tQ14.T.length p3)
  have hc0:=(hb.cell (p:=⟨b14,off14+1,none⟩) HB14.out).trans HC14.out
  have hni:=HNI.out.later HL2.out hb
  have hne:b14≠O2:=fun e=>by subst e;exact hni _ _ _ hc0
  have hgr:=putT_grown wz O2 (.string tQ14.name) (.slice A1 tQ14.cols.length p1) (.slice A2 (cutL tQ14.R).length p2) (.slice A3 tQ14.T.length p3)
  have hc1:=(World.cell?_of_block (w:=wz) (a:=⟨b14,off14+1,none⟩) (hgr.block b14 (Nat.lt_of_lt_of_le HB14.out hb.size) (by simpa using hne))).trans hc0
  have HC1:=Lib.hid hc1
  have hz12:=below_four (HQ14.out.trans (hb.mono (Nat.le_of_lt HL2.out))) (Nat.le_refl O2) (.string tQ14.name) (.slice A1 tQ14.cols.length p1) (.slice A2 (cutL tQ14.R).length p2) (.slice A3 tQ14.T.length p3)
  have HZ12:=Lib.hid hz12
  clear hc0 hc1 hni hgr hne hz12
  obtain ⟨x0,x1,x2,x3,_⟩:=(HX.out.later hb).cells
  obtain ⟨f0,f1,f2,f3⟩:=(HX.out.later hb).free
  have HST:=Lib.hid hst
  have HBE:=Lib.hid hbe
  clear hst hbe hat0 hT
  go_simp
  exact hK undef _ ⟨HST.out,HZ12.out,HBE.out,HC1.out⟩
 refine calm_fix rfl ?_
 apply Exists.intro
 refine ⟨fun ph a wz hl hc hk hf K hK=>?_,?_⟩
 ·have h73:=held_isV hf 1 rfl (by kernel_rfl)
  clear hk hf hc hl
  go_simp
  exact hK _ _ (Below.refl _ _) rfl
 refine calm_nil ?_
 refine ⟨keeps_one (m:=7) (fun k h=>by simpa using h) ⟨.inr (loose_isV _),.inr (loose_ahead _),.inr (loose_ahead _),.inr (loose_both _ _),.inr (loose_both _ _),.inr (loose_ahead _),.inr (loose_isV _),.inl rfl,.inr (loose_isV _),trivial⟩,?_⟩
 intro w15 hc
 simp only [lexL,calmEnd]
 rintro _ rfl v69 S69 v70 S70 v71 S71 v67 S67 v72 S72 _ rfl _ hst7 _ rfl
 obtain ⟨wx,⟨hA,hb0,hb,hc⟩,hq⟩:=hst7 rfl
 have hlt:=hA.lt
 replace hA:=hA.kept hq
 have hq12:Below w12.heap.size w12 w15:=by
  rw [HOE.out]
  exact hb0.trans (hq.mono (Nat.le_of_lt hlt))
 have hb15:=hb.trans (hq.mono hb.size)
 have HXO:=Lib.hid (HX12.out.later hq12)
 have HTO:=Lib.hid (HT12.out.kept hq12)
 have HC15:=Lib.hid ((hq.cell (p:=⟨b14,off14+1,none⟩) (block_lt_of_cell hc)).trans hc)
 clear hst7 hb0 hb hc hq hlt hq12 S69 S70 S71 S67 S72 HX HT HNI HB HX12 HT12 HC14 HB14 HQ14 HL2
 obtain ⟨A1,p1,A2,p2,A3,p3,hx,hT,-⟩:=hA
 have hx:TBox w15 O2 abc14 (.slice A1 1 p1) (.slice A2 (cutL there14).length p2) (.slice A3 1 p3):=hx
 have hT:TblQ (RowOff (boxV O2)) w15 (.slice A1 1 p1) (.slice A2 (cutL there14).length p2) (.slice A3 1 p3) tQ14:=hT
 rw [HCLE.out] at hx hT
 have HRW:Hid (Calls Tryz.prog 19 #[.agg #[.string abc14,.slice A1 1 p1,.slice A2 cl p2,.slice A3 1 p3]] w15 fun e w'=>∃ A p,e=.returned (.tuple #[.slice A 1 p,.int .i64 cl])∧Below w15.heap.size w15 w'):=by
  refine Calls.mono (table_rows_calls (t:=tQ14) ⟨_,_,_,rfl,hT.of⟩ tQ14_good) ?_
  rintro e w' ⟨v,rfl,h1,h2⟩
  rw [rowsQ14] at h1
  obtain ⟨_,A,p,rfl,_⟩:=times_at h1
  refine ⟨A,p,?_,h2⟩
  rw [←HCLE.out];rfl
 have HXP:=Lib.hid hx
 have HB15:=Lib.hid hb15
 obtain ⟨x0,x1,x2,x3,_⟩:=hx.cells
 clear hx hT hb15
 simp only [Act.put,List.setIfInBounds_toArray,List.set_cons_zero,List.set_cons_succ]
 go_wp2_with fail
 refine HRW.out.mono ?_
 rintro e w16 ⟨A16,p16,rfl,hq16⟩
 have HXO16:=Lib.hid (HXO.out.later hq16)
 have HTO16:=Lib.hid (HTO.out.kept hq16)
 have HXP16:=Lib.hid (HXP.out.later hq16)
 have HB16:=Lib.hid (HB15.out.trans (hq16.mono HB15.out.size))
 have HC16:=Lib.hid ((hq16.cell (p:=⟨b14,off14+1,none⟩) (block_lt_of_cell HC15.out)).trans HC15.out)
 have HLC:=Lib.hid (block_lt_of_cell HC16.out)
 have d1:decide (0 < cl)=true:=decide_eq_true HCL.out.1
 have d2:decide ((0:Int) < (cl:Int))=true:=decide_eq_true (by have:=HCL.out.1;omega)
 clear x0 x1 x2 x3 hq16 HRW HXO HTO HXP HB15 HC15
 go_wp2_with fail
 refine wp_region_calm (offC w16) (fun _=>false) (fun _=>false) anyE false (by kernel_rfl) (by kernel_rfl) (by kernel_rfl) (by kernel_rfl) (by intro m hm;revert hm;simp;try omega) (offC_stable _) (offC_start _) ?_
 simp only [List.append_eq,List.cons_append,List.nil_append]
 refine calm_fixA rfl rfl ?_
 apply Exists.intro
 refine ⟨fun a wz hc hk hf K hK=>?_,?_⟩
 ·have h2:=hk 2 (by kernel_rfl)
  clear hk hf hc
  go_simp
  exact hK _ _ (Below.refl _ _) rfl
 refine calm_fixA rfl rfl ?_
 apply Exists.intro
 refine ⟨fun a wz hc hk hf K hK=>?_,?_⟩
 ·have h79:=held_isV hf 0 rfl (by kernel_rfl)
  clear hk hf hc
  go_simp
  exact hK _ _ (Below.refl _ _) rfl
 refine calm_fixA rfl rfl ?_
 apply Exists.intro
 refine ⟨fun a wz hc hk hf K hK=>?_,?_⟩
 ·have h80:=held_isV hf 0 rfl (by kernel_rfl)
  clear hk hf hc
  go_simp
  exact hK _ _ (Below.refl _ _) rfl
 refine calm_fixA rfl rfl ?_
 apply Exists.intro
 refine ⟨fun a wz hc hk hf K hK=>?_,?_⟩
 ·have h4:=hk 4 (by kernel_rfl)
  have h81:=held_isV hf 0 rfl (by kernel_rfl)
  clear hk hf hc
  go_simp
  exact hK _ _ (Below.refl _ _) rfl
 refine calm_fixA rfl rfl ?_
 apply Exists.intro
 refine ⟨fun a wz hc hk hf K hK=>?_,?_⟩
 ·have h82:=held_isV hf 0 rfl (by kernel_rfl)
  have h81:=held_isV hf 1 rfl (by kernel_rfl)
  clear hk hf hc
  go_simp
  exact hK _ _ (Below.refl _ _) rfl
 refine calm_fixA rfl rfl ?_
 apply Exists.intro
 refine ⟨fun a wz hc hk hf K hK=>?_,?_⟩
 ·have h81:=held_isV hf 2 rfl (by kernel_rfl)
  have h83:=held_isV hf 0 rfl (by kernel_rfl)
  clear hk hf hc
  go_simp
  exact hK _ _ (Below.refl _ _) rfl
 refine calm_fixA rfl rfl ?_
 apply Exists.intro
 refine ⟨fun a wz hc hk hf K hK=>?_,?_⟩
 ·have h84:=held_isV hf 0 rfl (by kernel_rfl)
  clear hk hf hc
  go_simp
  exact hK _ _ (Below.refl _ _) rfl
 refine calm_fixA rfl rfl ?_
 apply Exists.intro
 refine ⟨fun a wz hc hk hf K hK=>?_,?_⟩
 ·have h5:=hk 5 (by kernel_rfl)
  have h85:=held_isV hf 0 rfl (by kernel_rfl)
  clear hk hf hc
  go_simp
  exact hK _ _ (Below.refl _ _) rfl
 refine calm_fixA rfl rfl ?_
 apply Exists.intro
 refine ⟨fun a wz hc hk hf K hK=>?_,?_⟩
 ·have h86:=held_isV hf 0 rfl (by kernel_rfl)
  have h85:=held_isV hf 1 rfl (by kernel_rfl)
  clear hk hf hc
  go_simp
  exact hK _ _ (Below.refl _ _) rfl
 refine calm_fixA rfl rfl ?_
 apply Exists.intro
 refine ⟨fun a wz hc hk hf K hK=>?_,?_⟩
 ·have h85:=held_isV hf 2 rfl (by kernel_rfl)
  have h87:=held_isV hf 0 rfl (by kernel_rfl)
  clear hk hf hc
  go_simp
  exact hK _ _ (Below.refl _ _) rfl
 refine calm_fixA rfl rfl ?_
 apply Exists.intro
 refine ⟨fun a wz hc hk hf K hK=>?_,?_⟩
 ·have h88:=held_isV hf 0 rfl (by kernel_rfl)
  clear hk hf hc
  go_simp
  exact hK _ _ (Below.refl _ _) rfl
 refine calm_fixA rfl rfl ?_
 apply Exists.intro
 refine ⟨fun a wz hc hk hf K hK=>?_,?_⟩
 ·have h7:=hk 7 (by kernel_rfl)
  have h89:=held_isV hf 0 rfl (by kernel_rfl)
  clear hk hf hc
  go_simp
  exact hK _ _ (Below.refl _ _) rfl
 refine calm_fixA rfl rfl ?_
 apply Exists.intro
 refine ⟨fun a wz hc hk hf K hK=>?_,?_⟩
 ·have h90:=held_isV hf 0 rfl (by kernel_rfl)
  have h89:=held_isV hf 1 rfl (by kernel_rfl)
  clear hk hf hc
  go_simp
  exact hK _ _ (Below.refl _ _) rfl
 refine calm_fixA rfl rfl ?_
 apply Exists.intro
 refine ⟨fun a wz hc hk hf K hK=>?_,?_⟩
 ·have h89:=held_isV hf 2 rfl (by kernel_rfl)
  have h91:=held_isV hf 0 rfl (by kernel_rfl)
  clear hk hf hc
  go_simp
  exact hK _ _ (Below.refl _ _) rfl
 refine calm_fixA rfl rfl ?_
 apply Exists.intro
 refine ⟨fun a wz hc hk hf K hK=>?_,?_⟩
 ·have h92:=held_isV hf 0 rfl (by kernel_rfl)
  clear hk hf hc
  go_simp
  exact hK _ _ (Below.refl _ _) rfl
 refine calm_fixA rfl rfl ?_
 apply Exists.intro
 refine ⟨fun a wz hc hk hf K hK=>?_,?_⟩
 ·have h9:=hk 9 (by kernel_rfl)
  have h93:=held_isV hf 0 rfl (by kernel_rfl)
  clear hk hf hc
  go_simp
  exact hK _ _ (Below.refl _ _) rfl
 refine calm_fixA rfl rfl ?_
 apply Exists.intro
 refine ⟨fun a wz hc hk hf K hK=>?_,?_⟩
 ·have h94:=held_isV hf 0 rfl (by kernel_rfl)
  have h93:=held_isV hf 1 rfl (by kernel_rfl)
  clear hk hf hc
  go_simp
  exact hK _ _ (Below.refl _ _) rfl
 refine calm_fixA rfl rfl ?_
 apply Exists.intro
 refine ⟨fun a wz hc hk hf K hK=>?_,?_⟩
 ·have h93:=held_isV hf 2 rfl (by kernel_rfl)
  have h95:=held_isV hf 0 rfl (by kernel_rfl)
  clear hk hf hc
  go_simp
  exact hK _ _ (Below.refl _ _) rfl
 refine calm_fixA rfl rfl ?_
 apply Exists.intro
 refine ⟨fun a wz hc hk hf K hK=>?_,?_⟩
 ·have h96:=held_isV hf 0 rfl (by kernel_rfl)
  clear hk hf hc
  go_simp
  exact hK _ _ (Below.refl _ _) rfl
 refine calm_fixA rfl rfl ?_
 apply Exists.intro
 refine ⟨fun a wz hc hk hf K hK=>?_,?_⟩
 ·have h11:=hk 11 (by kernel_rfl)
  have h97:=held_isV hf 0 rfl (by kernel_rfl)
  clear hk hf hc
  go_simp
  exact hK _ _ (Below.refl _ _) rfl
 refine calm_fixA rfl rfl ?_
 apply Exists.intro
 refine ⟨fun a wz hc hk hf K hK=>?_,?_⟩
 ·have h98:=held_isV hf 0 rfl (by kernel_rfl)
  have h97:=held_isV hf 1 rfl (by kernel_rfl)
  clear hk hf hc
  go_simp
  exact hK _ _ (Below.refl _ _) rfl
 refine calm_fixA rfl rfl ?_
 apply Exists.intro
 refine ⟨fun a wz hc hk hf K hK=>?_,?_⟩
 ·have h97:=held_isV hf 2 rfl (by kernel_rfl)
  have h99:=held_isV hf 0 rfl (by kernel_rfl)
  clear hk hf hc
  go_simp
  exact hK _ _ (Below.refl _ _) rfl
 refine calm_fixA rfl rfl ?_
 apply Exists.intro
 refine ⟨fun a wz hc hk hf K hK=>?_,?_⟩
 ·have h100:=held_isV hf 0 rfl (by kernel_rfl)
  clear hk hf hc
  go_simp
  exact hK _ _ (Below.refl _ _) rfl
 refine calm_fixA rfl rfl ?_
 apply Exists.intro
 refine ⟨fun a wz hc hk hf K hK=>?_,?_⟩
 ·have h12:=hk 12 (by kernel_rfl)
  have h101:=held_isV hf 0 rfl (by kernel_rfl)
  clear hk hf hc
  go_simp
  exact hK _ _ (Below.refl _ _) rfl
 refine calm_fixA rfl rfl ?_
 apply Exists.intro
 refine ⟨fun a wz hc hk hf K hK=>?_,?_⟩
 ·have hb:Below w16.heap.size w16 wz:=hc rfl
  have h102:=held_isV hf 0 rfl (by kernel_rfl)
  have h101:=held_isV hf 1 rfl (by kernel_rfl)
  clear hk hf hc
  obtain ⟨x0,x1,x2,x3,_⟩:=(HXP16.out.later hb).cells
  go_simp
  exact hK _ _ (Below.refl _ _) rfl
 refine calm_fixA rfl rfl ?_
 apply Exists.intro
 refine ⟨fun a wz hc hk hf K hK=>?_,?_⟩
 ·have h103:=held_isV hf 0 rfl (by kernel_rfl)
  have h101:=held_isV hf 2 rfl (by kernel_rfl)
  clear hk hf hc
  go_simp
  exact hK _ _ (Below.refl _ _) rfl
 refine calm_fixA rfl rfl ?_
 apply Exists.intro
 refine ⟨fun a wz hc hk hf K hK=>?_,?_⟩
 ·have h14:=hk 14 (by kernel_rfl)
  have h101:=held_isV hf 3 rfl (by kernel_rfl)
  clear hk hf hc
  go_simp
  exact hK _ _ (Below.refl _ _) rfl
 refine calm_fixA rfl rfl ?_
 apply Exists.intro
 refine ⟨fun a wz hc hk hf K hK=>?_,?_⟩
 ·have h104:=held_isV hf 1 rfl (by kernel_rfl)
  have h105:=held_isV hf 0 rfl (by kernel_rfl)
  have h101:=held_isV hf 4 rfl (by kernel_rfl)
  clear hk hf hc
  go_simp
  exact hK _ _ (Below.refl _ _) rfl
 refine calm_fixA rfl rfl ?_
 apply Exists.intro
 refine ⟨fun a wz hc hk hf K hK=>?_,?_⟩
 ·have h101:=held_isV hf 5 rfl (by kernel_rfl)
  have h106:=held_isV hf 0 rfl (by kernel_rfl)
  clear hk hf hc
  go_simp
  exact hK _ _ (Below.refl _ _) rfl
 refine calm_fixA rfl rfl ?_
 apply Exists.intro
 refine ⟨fun a wz hc hk hf K hK=>?_,?_⟩
 ·have h107:=held_isV hf 0 rfl (by kernel_rfl)
  clear hk hf hc
  go_simp
  exact hK _ _ (Below.refl _ _) rfl
 refine calm_fixA rfl rfl ?_
 apply Exists.intro
 refine ⟨fun a wz hc hk hf K hK=>?_,?_⟩
 ·have h14:=hk 14 (by kernel_rfl)
  have h108:=held_isV hf 0 rfl (by kernel_rfl)
  clear hk hf hc
  go_simp
  exact hK _ _ (Below.refl _ _) rfl
 refine calm_fixA rfl rfl ?_
 apply Exists.intro
 refine ⟨fun a wz hc hk hf K hK=>?_,?_⟩
 ·have h109:=held_isV hf 0 rfl (by kernel_rfl)
  have h108:=held_isV hf 1 rfl (by kernel_rfl)
  clear hk hf hc
  go_simp
  exact hK _ _ (Below.refl _ _) rfl
 refine calm_fixA rfl rfl ?_
 apply Exists.intro
 refine ⟨fun a wz hc hk hf K hK=>?_,?_⟩
 ·have h108:=held_isV hf 2 rfl (by kernel_rfl)
  have h110:=held_isV hf 0 rfl (by kernel_rfl)
  clear hk hf hc
  go_simp
  exact hK _ _ (Below.refl _ _) rfl
 refine calm_fixA rfl rfl ?_
 apply Exists.intro
 refine ⟨fun a wz hc hk hf K hK=>?_,?_⟩
 ·have h111:=held_isV hf 0 rfl (by kernel_rfl)
  clear hk hf hc
  go_simp
  exact hK _ _ (Below.refl _ _) rfl
 refine calm_fixA rfl rfl ?_
 apply Exists.intro
 refine ⟨fun a wz hc hk hf K hK=>?_,?_⟩
 ·have h13:=hk 13 (by kernel_rfl)
  have h112:=held_isV hf 0 rfl (by kernel_rfl)
  clear hk hf hc
  go_simp
  exact hK _ _ (Below.refl _ _) rfl
 refine calm_fixA rfl rfl ?_
 apply Exists.intro
 refine ⟨fun a wz hc hk hf K hK=>?_,?_⟩
 ·have h113:=held_isV hf 0 rfl (by kernel_rfl)
  have h112:=held_isV hf 1 rfl (by kernel_rfl)
  clear hk hf hc
  go_simp
  exact hK _ _ (Below.refl _ _) rfl
 refine calm_fixA rfl rfl ?_
 apply Exists.intro
 refine ⟨fun a wz hc hk hf K hK=>?_,?_⟩
 ·have h114:=held_isV hf 0 rfl (by kernel_rfl)
  have h112:=held_isV hf 2 rfl (by kernel_rfl)
  clear hk hf hc
  go_simp
  exact hK _ _ (Below.refl _ _) rfl
 refine calm_fixA rfl rfl ?_
 apply Exists.intro
 refine ⟨fun a wz hc hk hf K hK=>?_,?_⟩
 ·have h112:=held_isV hf 3 rfl (by kernel_rfl)
  have h115:=held_isV hf 0 rfl (by kernel_rfl)
  clear hk hf hc
  go_simp
  exact hK _ _ (Below.refl _ _) rfl
 refine calm_fixA rfl rfl ?_
 apply Exists.intro
 refine ⟨fun a wz hc hk hf K hK=>?_,?_⟩
 ·have h116:=held_isV hf 0 rfl (by kernel_rfl)
  clear hk hf hc
  go_simp
  exact hK _ _ (Below.refl _ _) rfl
 refine calm_fixA rfl rfl ?_
 apply Exists.intro
 refine ⟨fun a wz hc hk hf K hK=>?_,?_⟩
 ·have h13:=hk 13 (by kernel_rfl)
  have h117:=held_isV hf 0 rfl (by kernel_rfl)
  clear hk hf hc
  go_simp
  exact hK _ _ (Below.refl _ _) rfl
 refine calm_fixA rfl rfl ?_
 apply Exists.intro
 refine ⟨fun a wz hc hk hf K hK=>?_,?_⟩
 ·have h118:=held_isV hf 0 rfl (by kernel_rfl)
  have h117:=held_isV hf 1 rfl (by kernel_rfl)
  clear hk hf hc
  go_simp
  exact hK _ _ (Below.refl _ _) rfl
 refine calm_fixA rfl rfl ?_
 apply Exists.intro
 refine ⟨fun a wz hc hk hf K hK=>?_,?_⟩
 ·have h119:=held_isV hf 0 rfl (by kernel_rfl)
  have h117:=held_isV hf 2 rfl (by kernel_rfl)
  clear hk hf hc
  go_simp
  exact hK _ _ (Below.refl _ _) rfl
 refine calm_fixA rfl rfl ?_
 apply Exists.intro
 refine ⟨fun a wz hc hk hf K hK=>?_,?_⟩
 ·have hb:Below w16.heap.size w16 wz:=hc rfl
  have h120:=held_isV hf 0 rfl (by kernel_rfl)
  have h117:=held_isV hf 3 rfl (by kernel_rfl)
  clear hk hf hc
  have c3:=(hb.cell (p:=⟨b14,off14+1,none⟩) HLC.out).trans HC16.out
  go_simp
  exact hK _ _ (Below.refl _ _) rfl
 refine calm_fixA rfl rfl ?_
 apply Exists.intro
 refine ⟨fun a wz hc hk hf K hK=>?_,?_⟩
 ·have h121:=held_isV hf 0 rfl (by kernel_rfl)
  have h117:=held_isV hf 4 rfl (by kernel_rfl)
  clear hk hf hc
  go_simp
  exact hK _ _ (Below.refl _ _) rfl
 refine calm_fixA rfl rfl ?_
 apply Exists.intro
 refine ⟨fun a wz hc hk hf K hK=>?_,?_⟩
 ·have h117:=held_isV hf 5 rfl (by kernel_rfl)
  have h122:=held_isV hf 0 rfl (by kernel_rfl)
  clear hk hf hc
  go_simp
  exact hK _ _ (Below.refl _ _) rfl
 refine calm_fixA rfl rfl ?_
 apply Exists.intro
 refine ⟨fun a wz hc hk hf K hK=>?_,?_⟩
 ·have h123:=held_isV hf 0 rfl (by kernel_rfl)
  clear hk hf hc
  go_simp
  exact hK _ _ (Below.refl _ _) rfl
 refine calm_fixA rfl rfl ?_
 apply Exists.intro
 refine ⟨fun a wz hc hk hf K hK=>?_,?_⟩
 ·have h15:=hk 15 (by kernel_rfl)
  have h124:=held_isV hf 0 rfl (by kernel_rfl)
  clear hk hf hc
  go_simp
  exact hK _ _ (Below.refl _ _) rfl
 refine calm_fixA rfl rfl ?_
 apply Exists.intro
 refine ⟨fun a wz hc hk hf K hK=>?_,?_⟩
 ·have h125:=held_isV hf 0 rfl (by kernel_rfl)
  have h124:=held_isV hf 1 rfl (by kernel_rfl)
  clear hk hf hc
  go_simp
  exact hK _ _ (Below.refl _ _) rfl
 refine calm_fixA rfl rfl ?_
 apply Exists.intro
 refine ⟨fun a wz hc hk hf K hK=>?_,?_⟩
 ·have h124:=held_isV hf 2 rfl (by kernel_rfl)
  have h126:=held_isV hf 0 rfl (by kernel_rfl)
  clear hk hf hc
  go_simp
  exact hK _ _ (Below.refl _ _) rfl
 refine calm_fixA rfl rfl ?_
 apply Exists.intro
 refine ⟨fun a wz hc hk hf K hK=>?_,?_⟩
 ·have h127:=held_isV hf 0 rfl (by kernel_rfl)
  clear hk hf hc
  go_simp
  exact hK _ _ (Below.refl _ _) rfl
 refine calm_fixA rfl rfl ?_
 apply Exists.intro
 refine ⟨fun a wz hc hk hf K hK=>?_,?_⟩
 ·have h16:=hk 16 (by kernel_rfl)
  have h128:=held_isV hf 0 rfl (by kernel_rfl)
  clear hk hf hc
  go_simp
  exact hK _ _ (Below.refl _ _) rfl
 refine calm_fixA rfl rfl ?_
 apply Exists.intro
 refine ⟨fun a wz hc hk hf K hK=>?_,?_⟩
 ·have h129:=held_isV hf 0 rfl (by kernel_rfl)
  have h128:=held_isV hf 1 rfl (by kernel_rfl)
  clear hk hf hc
  go_simp
  exact hK _ _ (Below.refl _ _) rfl
 refine calm_fixA rfl rfl ?_
 apply Exists.intro
 refine ⟨fun a wz hc hk hf K hK=>?_,?_⟩
 ·have h130:=held_isV hf 0 rfl (by kernel_rfl)
  have h128:=held_isV hf 2 rfl (by kernel_rfl)
  clear hk hf hc
  go_simp
  exact hK _ _ (Below.refl _ _) rfl
 refine calm_fixA rfl rfl ?_
 apply Exists.intro
 refine ⟨fun a wz hc hk hf K hK=>?_,?_⟩
 ·have h128:=held_isV hf 3 rfl (by kernel_rfl)
  have h131:=held_isV hf 0 rfl (by kernel_rfl)
  clear hk hf hc
  go_simp
  exact hK _ _ (Below.refl _ _) rfl
 refine calm_fixA rfl rfl ?_
 apply Exists.intro
 refine ⟨fun a wz hc hk hf K hK=>?_,?_⟩
 ·have h132:=held_isV hf 0 rfl (by kernel_rfl)
  clear hk hf hc
  go_simp
  exact hK _ _ (Below.refl _ _) rfl
 refine calm_fixA rfl rfl ?_
 apply Exists.intro
 refine ⟨fun a wz hc hk hf K hK=>?_,?_⟩
 ·have h12:=hk 12 (by kernel_rfl)
  have h133:=held_isV hf 0 rfl (by kernel_rfl)
  clear hk hf hc
  go_simp
  exact hK _ _ (Below.refl _ _) rfl
 refine calm_fixA rfl rfl ?_
 apply Exists.intro
 refine ⟨fun a wz hc hk hf K hK=>?_,?_⟩
 ·have hb:Below w16.heap.size w16 wz:=hc rfl
  have h134:=held_isV hf 0 rfl (by kernel_rfl)
  have h133:=held_isV hf 1 rfl (by kernel_rfl)
  clear hk hf hc
  obtain ⟨x0,x1,x2,x3,_⟩:=(HXP16.out.later hb).cells
  go_simp
  exact hK _ _ (Below.refl _ _) rfl
 refine calm_fixA rfl rfl ?_
 apply Exists.intro
 refine ⟨fun a wz hc hk hf K hK=>?_,?_⟩
 ·have h135:=held_isV hf 0 rfl (by kernel_rfl)
  have h133:=held_isV hf 2 rfl (by kernel_rfl)
  clear hk hf hc
  go_simp
  exact hK _ _ (Below.refl _ _) rfl
 refine calm_fixA rfl rfl ?_
 apply Exists.intro
 refine ⟨fun a wz hc hk hf K hK=>?_,?_⟩
 ·have h136:=held_isV hf 0 rfl (by kernel_rfl)
  have h133:=held_isV hf 3 rfl (by kernel_rfl)
  clear hk hf hc
  go_simp
  exact hK _ _ (Below.refl _ _) rfl
 refine calm_fixA rfl rfl ?_
 apply Exists.intro
 refine ⟨fun a wz hc hk hf K hK=>?_,?_⟩
 ·have h133:=held_isV hf 4 rfl (by kernel_rfl)
  have h137:=held_isV hf 0 rfl (by kernel_rfl)
  clear hk hf hc
  go_simp
  exact hK _ _ (Below.refl _ _) rfl
 refine calm_fixA rfl rfl ?_
 apply Exists.intro
 refine ⟨fun a wz hc hk hf K hK=>?_,?_⟩
 ·have h138:=held_isV hf 0 rfl (by kernel_rfl)
  clear hk hf hc
  go_simp
  exact hK _ _ (Below.refl _ _) rfl
 refine calm_fixA rfl rfl ?_
 apply Exists.intro
 refine ⟨fun a wz hc hk hf K hK=>?_,?_⟩
 ·have hb:Below w16.heap.size w16 wz:=hc rfl
  have h1:=hk 1 (by kernel_rfl)
  have h139:=held_isV hf 0 rfl (by kernel_rfl)
  clear hk hf hc
  obtain ⟨x0,x1,x2,x3,_⟩:=(HXO16.out.later hb).cells
  go_simp
  exact hK _ _ (Below.refl _ _) rfl
 refine calm_fixA rfl rfl ?_
 apply Exists.intro
 refine ⟨fun a wz hc hk hf K hK=>?_,?_⟩
 ·have h139:=held_isV hf 1 rfl (by kernel_rfl)
  clear hk hf hc
  go_simp
  exact hK _ _ (Below.refl _ _) rfl
 refine calm_varA (LitP (fun _=>True) none14) rfl rfl LitP.kept (fun a wz hc hk hf K hK=>?_) ?_
 ·have hb:Below w16.heap.size w16 wz:=hc rfl
  have h141:=held_isV hf 0 rfl (by kernel_rfl)
  have h139:=held_isV hf 2 rfl (by kernel_rfl)
  clear hk hf hc
  have hlq:=(lit_times wz 46 [(.slice none 0 0,0)] none14 ⟨⟨SliceOf.nil_ _ _ _ _,rfl⟩,trivial⟩ (by decide)).trueQ
  go_simp
  exact hK _ _ (Below.alloc (.refl _ _) (Nat.le_refl _) _) (fun _=>⟨_,_,rfl,hlq⟩)
 refine calm_fixA rfl rfl ?_
 apply Exists.intro
 refine ⟨fun a wz hc hk hf K hK=>?_,?_⟩
 ·have hb:Below w16.heap.size w16 wz:=hc rfl
  have h140:=held_isV hf 2 rfl (by kernel_rfl)
  obtain ⟨v142,h142,S142⟩:=held_at hf 0 rfl (by kernel_rfl)
  have h139:=held_isV hf 3 rfl (by kernel_rfl)
  clear hk hf hc
  obtain ⟨A142,p142,rfl,s142⟩:=S142 rfl
  have hck:=table_check_calls (t:=tA14) (l:=none14) ⟨_,_,_,rfl,HTO16.out.kept hb⟩ s142.times
  rw [show tA14.cols=cols14 from rfl,none14N] at hck
  go_simp
  refine Calls.mono (hck) ?_
  rintro e w1 ⟨rfl,hq⟩
  exact hK _ _ hq rfl
 refine calm_fixA rfl rfl ?_
 apply Exists.intro
 refine ⟨fun a wz hc hk hf K hK=>?_,?_⟩
 ·have h143:=held_isV hf 0 rfl (by kernel_rfl)
  have h139:=held_isV hf 4 rfl (by kernel_rfl)
  clear hk hf hc
  go_simp
  exact hK _ _ (Below.refl _ _) rfl
 refine calm_fixA rfl rfl ?_
 apply Exists.intro
 refine ⟨fun a wz hc hk hf K hK=>?_,?_⟩
 ·have h139:=held_isV hf 5 rfl (by kernel_rfl)
  have h144:=held_isV hf 0 rfl (by kernel_rfl)
  clear hk hf hc
  go_simp
  exact hK _ _ (Below.refl _ _) rfl
 refine calm_fixA rfl rfl ?_
 apply Exists.intro
 refine ⟨fun a wz hc hk hf K hK=>?_,?_⟩
 ·have h145:=held_isV hf 0 rfl (by kernel_rfl)
  clear hk hf hc
  go_simp
  exact hK _ _ (Below.refl _ _) rfl
 refine calm_fixA rfl rfl ?_
 apply Exists.intro
 refine ⟨fun a wz hc hk hf K hK=>?_,?_⟩
 ·have hb:Below w16.heap.size w16 wz:=hc rfl
  have h1:=hk 1 (by kernel_rfl)
  have h146:=held_isV hf 0 rfl (by kernel_rfl)
  clear hk hf hc
  obtain ⟨x0,x1,x2,x3,_⟩:=(HXO16.out.later hb).cells
  go_simp
  exact hK _ _ (Below.refl _ _) rfl
 refine calm_varA (RowP w16.heap.size [cellInt 1] (2097152)) rfl rfl RowP.kept (fun a wz hc hk hf K hK=>?_) ?_
 ·have hb:Below w16.heap.size w16 wz:=hc rfl
  have h146:=held_isV hf 1 rfl (by kernel_rfl)
  clear hk hf hc
  go_simp
  refine (row14_calls 1 (2097152) (by decide) (by decide) _).mono ?_
  rintro e w1 ⟨A,p,rfl,h1,h2,hq⟩
  exact hK _ _ hq (fun _=>⟨A,p,rfl,h1,h2.mono hb.size⟩)
 refine calm_varA (LitP (fun _=>True) much14) rfl rfl LitP.kept (fun a wz hc hk hf K hK=>?_) ?_
 ·have hb:Below w16.heap.size w16 wz:=hc rfl
  obtain ⟨v148,h148,S148⟩:=held_at hf 0 rfl (by kernel_rfl)
  have h146:=held_isV hf 2 rfl (by kernel_rfl)
  clear hk hf hc
  obtain ⟨A148,p148,rfl,s148,f148⟩:=S148 rfl
  have hlq:=(lit_times wz 46 [(.slice A148 1 p148,2097152)] much14 ⟨⟨s148,rfl⟩,trivial⟩ (by decide)).trueQ
  go_simp
  exact hK _ _ (Below.alloc (.refl _ _) (Nat.le_refl _) _) (fun _=>⟨_,_,rfl,hlq⟩)
 refine calm_fixA rfl rfl ?_
 apply Exists.intro
 refine ⟨fun a wz hc hk hf K hK=>?_,?_⟩
 ·have hb:Below w16.heap.size w16 wz:=hc rfl
  have h147:=held_isV hf 2 rfl (by kernel_rfl)
  obtain ⟨v149,h149,S149⟩:=held_at hf 0 rfl (by kernel_rfl)
  have h146:=held_isV hf 3 rfl (by kernel_rfl)
  clear hk hf hc
  obtain ⟨A149,p149,rfl,s149⟩:=S149 rfl
  have hck:=table_check_calls (t:=tA14) (l:=much14) ⟨_,_,_,rfl,HTO16.out.kept hb⟩ s149.times
  rw [show tA14.cols=cols14 from rfl,much14N] at hck
  go_simp
  refine Calls.mono (hck) ?_
  rintro e w1 ⟨rfl,hq⟩
  exact hK _ _ hq rfl
 refine calm_fixA rfl rfl ?_
 apply Exists.intro
 refine ⟨fun a wz hc hk hf K hK=>?_,?_⟩
 ·have h150:=held_isV hf 0 rfl (by kernel_rfl)
  have h146:=held_isV hf 4 rfl (by kernel_rfl)
  clear hk hf hc
  go_simp
  exact hK _ _ (Below.refl _ _) rfl
 refine calm_fixA rfl rfl ?_
 apply Exists.intro
 refine ⟨fun a wz hc hk hf K hK=>?_,?_⟩
 ·have h146:=held_isV hf 5 rfl (by kernel_rfl)
  have h151:=held_isV hf 0 rfl (by kernel_rfl)
  clear hk hf hc
  go_simp
  exact hK _ _ (Below.refl _ _) rfl
 refine calm_fixA rfl rfl ?_
 apply Exists.intro
 refine ⟨fun a wz hc hk hf K hK=>?_,?_⟩
 ·have h152:=held_isV hf 0 rfl (by kernel_rfl)
  clear hk hf hc
  go_simp
  exact hK _ _ (Below.refl _ _) rfl
 refine calm_nil ?_
 refine ⟨keeps_none,?_⟩
 intro w17 hc
 simp only [lexL,calmEnd]
 rintro _ rfl _ rfl _ rfl _ rfl _ rfl _ rfl _ rfl _ rfl _ rfl _ rfl _ rfl _ rfl _ rfl _ rfl _ rfl _ rfl _ rfl _ rfl _ rfl _ rfl _ rfl _ rfl _ rfl _ rfl _ rfl _ rfl _ rfl _ rfl _ rfl _ rfl _ rfl _ rfl _ rfl _ rfl _ rfl _ rfl _ rfl _ rfl _ rfl _ rfl _ rfl _ rfl _ rfl _ rfl _ rfl _ rfl _ rfl _ rfl _ rfl _ rfl _ rfl _ rfl _ rfl _ rfl _ rfl _ rfl _ rfl _ rfl _ rfl _ rfl _ rfl _ rfl _ rfl v142 S142 _ rfl _ rfl _ rfl _ rfl _ rfl v148 S148 v149 S149 _ rfl _ rfl _ rfl _ rfl
 have hb17:=HB16.out.trans (Below.mono (hc rfl) HB16.out.size)
 clear hc S142 S148 S149
 simp only [Act.put,List.setIfInBounds_toArray,List.set_cons_zero,List.set_cons_succ]
 go_wp2
 go_ret
 exact ⟨rfl,hb17⟩
theorem newT_rows (name:ByteArray)(cols:List (Int×Bool)):(newT name cols).rows=[]:=rfl
theorem newA_ok {name:ByteArray}{cols:List (Int×Bool)}(h:newN name cols=0):newA name cols=newT name cols:=by unfold newA;rw [if_pos h]
theorem newN_cases (name:ByteArray)(cols:List (Int×Bool)):newN name cols=0∨newN name cols=1:=by
 unfold newN
 split
 ·exact .inl rfl
 ·exact .inr rfl
def tT (cols:List (Int×Bool))(T:List Tm):Tbl:=⟨abc14,cols,[],T⟩
theorem newT_tT (cols:List (Int×Bool)):newT abc14 cols=tT cols []:=rfl
theorem box_all {w:World}{v:Value}{l:List Tm}{O:Nat}{w':World}(h:TimesIn w v l)(hb:Below w.heap.size w w')(hO:w.heap.size≤O):TimesQ (RowOff (boxV O)) w' v l:=h.oldQ hb _ fun _ _ hu=>box_below hu hO
end Go.Proofs.YtafmbnafibahkaaGreat
