/- The contract of layer 19's together: both rows as one, in new memory. -/
import Derived.Test.YtaoeikeobfllkaaGZPairAt
import Derived.Test.YtaoeikeobfllkaaGZCalm
import Derived.Test.YtaoeikeobfllkaaGZSieveGrow
import Derived.Test.YtaoeikeobfllkaaGZPairConcat
namespace Go.Proofs.Ytaoeikeobfllkaa
open Go Go.RowKit
def TmEnd (w:World)(row:List ByteArray)(c:Int)(e:Ending)(w':World):Prop:=∃ A p,e=.returned (.agg #[.slice A row.length p,.int .i64 c])∧StrsIn w' (.slice A row.length p) row∧Fresh w.heap.size (.slice A row.length p)∧Below w.heap.size w w'
def TwoR (ra rb:Value):Value→World→Prop:=fun v wx=>∃ g,v=.slice (some ⟨g,0,none⟩) 2 2∧g < wx.heap.size∧wx.cell? ⟨g,0,none⟩=some ra∧wx.cell? ⟨g,1,none⟩=some rb
theorem TwoR.kept {ra rb:Value}:∀ (v:Value)(w w':World),Below w.heap.size w w'→TwoR ra rb v w→TwoR ra rb v w':=fun v w w' hb h=>by
 obtain ⟨g,e,h0,h1,h2⟩:=h
 exact ⟨g,e,Nat.lt_of_lt_of_le h0 hb.size,cell_kept h1 hb,cell_kept h2 hb⟩
set_option maxHeartbeats 4000000 in
set_option maxRecDepth 100000 in
theorem together_calls {w:World}{ra rb:Value}{xs ys:List ByteArray}(m n:Int)(ha:StrsIn w ra xs)(hb':StrsIn w rb ys)(hl:xs.length+ys.length≤1000000)(hm : -9223372036854775808≤m*n)(hm2:m*n≤9223372036854775807) :
  Calls Try.prog 24 #[timesA (ra,m),timesA (rb,n)] w (TmEnd w (xs++ys) (m*n)):=by
 obtain ⟨Aa,ca,rfl,_⟩:=one_at ha
 obtain ⟨Ab,cb,rfl,_⟩:=one_at hb'
 have b1:=Below.alloc (.refl w.heap.size w) (Nat.le_refl _) (.cells #[.slice Aa xs.length ca,.int .i64 m] 29)
 have b2:=Below.alloc (.refl ((w.alloc (.cells #[.slice Aa xs.length ca,.int .i64 m] 29))).heap.size (w.alloc (.cells #[.slice Aa xs.length ca,.int .i64 m] 29))) (Nat.le_refl _) (.cells #[.slice Ab ys.length cb,.int .i64 n] 29)
 have b3:=Below.alloc (.refl (((w.alloc (.cells #[.slice Aa xs.length ca,.int .i64 m] 29)).alloc (.cells #[.slice Ab ys.length cb,.int .i64 n] 29))).heap.size ((w.alloc (.cells #[.slice Aa xs.length ca,.int .i64 m] 29)).alloc (.cells #[.slice Ab ys.length cb,.int .i64 n] 29))) (Nat.le_refl _) (.cells #[.slice none 0 0,.int .i64 0] 29)
 have x0:=cell_kept (cell_kept (box_cell w 29 #[.slice Aa xs.length ca,.int .i64 m] 0 _ rfl) b2) b3
 have x1:=cell_kept (cell_kept (box_cell w 29 #[.slice Aa xs.length ca,.int .i64 m] 1 _ rfl) b2) b3
 have y0:=cell_kept (box_cell (w.alloc (.cells #[.slice Aa xs.length ca,.int .i64 m] 29)) 29 #[.slice Ab ys.length cb,.int .i64 n] 0 _ rfl) b3
 have y1:=cell_kept (box_cell (w.alloc (.cells #[.slice Aa xs.length ca,.int .i64 m] 29)) 29 #[.slice Ab ys.length cb,.int .i64 n] 1 _ rfl) b3
 have hres:Own (((w.alloc (.cells #[.slice Aa xs.length ca,.int .i64 m] 29)).alloc (.cells #[.slice Ab ys.length cb,.int .i64 n] 29)).alloc (.cells #[.slice none 0 0,.int .i64 0] 29)) w.heap.size 2 (.slice (some ⟨w.heap.size+1+1,0,none⟩) 1 1) 1 [.slice none 0 0,.int .i64 0]:=by
  have:=Own.lit (B:=w.heap.size) (size:=2) ((w.alloc (.cells #[.slice Aa xs.length ca,.int .i64 m] 29)).alloc (.cells #[.slice Ab ys.length cb,.int .i64 n] 29)) #[.slice none 0 0,.int .i64 0] 29 1 (by simp;omega) (by unfold maxLen;omega) rfl
  simpa using this
 have hb3:=b1.trans ((b2.trans (b3.mono b2.size)).mono b1.size)
 have hsz:(((w.alloc (.cells #[.slice Aa xs.length ca,.int .i64 m] 29)).alloc (.cells #[.slice Ab ys.length cb,.int .i64 n] 29)).alloc (.cells #[.slice none 0 0,.int .i64 0] 29)).heap.size=w.heap.size+1+1+1:=by simp
 rw [show ((w.alloc (.cells #[.slice Aa xs.length ca,.int .i64 m] 29))).heap.size=w.heap.size+1 by simp] at y0 y1
 obtain ⟨mn,hmn⟩:∃ mn,m*n=mn:=⟨_,rfl⟩
 have q1:IntKind.i64.wrap (m*n)=mn:=by rw [IntWalk.i64_in _ ⟨hm,hm2⟩,hmn]
 have HC:Hid (∀ W g,Below (((w.alloc (.cells #[.slice Aa xs.length ca,.int .i64 m] 29)).alloc (.cells #[.slice Ab ys.length cb,.int .i64 n] 29)).alloc (.cells #[.slice none 0 0,.int .i64 0] 29)).heap.size (((w.alloc (.cells #[.slice Aa xs.length ca,.int .i64 m] 29)).alloc (.cells #[.slice Ab ys.length cb,.int .i64 n] 29)).alloc (.cells #[.slice none 0 0,.int .i64 0] 29)) W→g < W.heap.size→W.cell? ⟨g,0,none⟩=some (.slice Aa xs.length ca)→W.cell? ⟨g,1,none⟩=some (.slice Ab ys.length cb)→GivesOwnRow Try.prog 34 #[.slice (some ⟨g,0,none⟩) 2 2] W (xs++ys)):=fun W g hW hg c0 c1=>concat_strs hg c0 c1 (StrsIn.kept (StrsIn.kept ha hb3) hW) (StrsIn.kept (StrsIn.kept hb' hb3) hW) hl
 generalize xs++ys=xy at *
 rw [hmn]
 clear ha hb' hl b1 b2 b3 hm hm2 hmn
 unfold TmEnd timesA
 go_enter Try.func24,Try.ntmps24
 go_wp2_with fail
 generalize ((w.alloc (.cells #[.slice Aa xs.length ca,.int .i64 m] 29)).alloc (.cells #[.slice Ab ys.length cb,.int .i64 n] 29)).alloc (.cells #[.slice none 0 0,.int .i64 0] 29)=w3 at *
 have HX0:=Lib.hid x0
 have HX1:=Lib.hid x1
 have HY0:=Lib.hid y0
 have HY1:=Lib.hid y1
 have HB3:=Lib.hid hb3
 have HRES:=Lib.hid hres
 have HSZ:=Lib.hid hsz
 clear x0 x1 y0 y1 hb3 hres hsz
 refine wp_region_calm (offC w3) (fun k=>k==12) (fun _=>false) anyE true (by kernel_rfl) (by kernel_rfl) (by kernel_rfl) (by kernel_rfl) (by intro m hm;revert hm;simp;try omega) (offC_stable _) (offC_start _) ?_
 refine calm_fixA rfl rfl ?_
 apply Exists.intro
 refine ⟨fun a wz hc hk hf K hK=>?_,?_⟩
 ·have h2:=hk 2 (by kernel_rfl)
  clear hk hf hc
  go_simp
  exact hK _ _ (Below.refl _ _) rfl
 refine calm_fixA rfl rfl ?_
 apply Exists.intro
 refine ⟨fun a wz hc hk hf K hK=>?_,?_⟩
 ·have hb:Below w3.heap.size w3 wz:=hc rfl
  have h5:=held_isV hf 0 rfl (by kernel_rfl)
  clear hk hf hc
  have x0:=cell_kept HX0.out hb
  have x1:=cell_kept HX1.out hb
  have y0:=cell_kept HY0.out hb
  have y1:=cell_kept HY1.out hb
  go_simp
  exact hK _ _ (Below.refl _ _) rfl
 refine calm_fixA rfl rfl ?_
 apply Exists.intro
 refine ⟨fun a wz hc hk hf K hK=>?_,?_⟩
 ·have h3:=hk 3 (by kernel_rfl)
  clear hk hf hc
  go_simp
  exact hK _ _ (Below.refl _ _) rfl
 refine calm_fixA rfl rfl ?_
 apply Exists.intro
 refine ⟨fun a wz hc hk hf K hK=>?_,?_⟩
 ·have hb:Below w3.heap.size w3 wz:=hc rfl
  have h7:=held_isV hf 0 rfl (by kernel_rfl)
  clear hk hf hc
  have x0:=cell_kept HX0.out hb
  have x1:=cell_kept HX1.out hb
  have y0:=cell_kept HY0.out hb
  have y1:=cell_kept HY1.out hb
  go_simp
  exact hK _ _ (Below.refl _ _) rfl
 refine calm_varA (TwoR (.slice Aa xs.length ca) (.slice Ab ys.length cb)) rfl rfl TwoR.kept (fun a wz hc hk hf K hK=>?_) ?_
 ·have hb:Below w3.heap.size w3 wz:=hc rfl
  have h6:=held_isV hf 2 rfl (by kernel_rfl)
  have h8:=held_isV hf 0 rfl (by kernel_rfl)
  clear hk hf hc
  have x0:=cell_kept HX0.out hb
  have x1:=cell_kept HX1.out hb
  have y0:=cell_kept HY0.out hb
  have y1:=cell_kept HY1.out hb
  go_simp
  exact hK _ _ (Below.alloc (.refl _ _) (Nat.le_refl _) _) (fun _=>⟨wz.heap.size,rfl,by simp,box_cell _ _ _ 0 _ rfl,box_cell _ _ _ 1 _ rfl⟩)
 refine calm_varA (RowR w3.heap.size xy) rfl rfl RowR.kept (fun a wz hc hk hf K hK=>?_) ?_
 ·have hb:Below w3.heap.size w3 wz:=hc rfl
  obtain ⟨v9,h9,S9⟩:=held_at hf 0 rfl (by kernel_rfl)
  clear hk hf hc
  obtain ⟨g9,rfl,g0,c0,c1⟩:=S9 rfl
  go_simp
  refine Calls.mono (HC.out _ _ hb g0 c0 c1) ?_
  rintro e w1 ⟨A,p,rfl,h1,h2,hq⟩
  exact hK _ _ hq (fun _=>⟨A,p,rfl,h1,h2.mono hb.size⟩)
 refine calm_fixA rfl rfl ?_
 apply Exists.intro
 refine ⟨fun a wz hc hk hf K hK=>?_,?_⟩
 ·have h2:=hk 2 (by kernel_rfl)
  clear hk hf hc
  go_simp
  exact hK _ _ (Below.refl _ _) rfl
 refine calm_fixA rfl rfl ?_
 apply Exists.intro
 refine ⟨fun a wz hc hk hf K hK=>?_,?_⟩
 ·have hb:Below w3.heap.size w3 wz:=hc rfl
  have h11:=held_isV hf 0 rfl (by kernel_rfl)
  clear hk hf hc
  have x0:=cell_kept HX0.out hb
  have x1:=cell_kept HX1.out hb
  have y0:=cell_kept HY0.out hb
  have y1:=cell_kept HY1.out hb
  go_simp
  exact hK _ _ (Below.refl _ _) rfl
 refine calm_fixA rfl rfl ?_
 apply Exists.intro
 refine ⟨fun a wz hc hk hf K hK=>?_,?_⟩
 ·have h3:=hk 3 (by kernel_rfl)
  clear hk hf hc
  go_simp
  exact hK _ _ (Below.refl _ _) rfl
 refine calm_fixA rfl rfl ?_
 apply Exists.intro
 refine ⟨fun a wz hc hk hf K hK=>?_,?_⟩
 ·have hb:Below w3.heap.size w3 wz:=hc rfl
  have h13:=held_isV hf 0 rfl (by kernel_rfl)
  clear hk hf hc
  have x0:=cell_kept HX0.out hb
  have x1:=cell_kept HX1.out hb
  have y0:=cell_kept HY0.out hb
  have y1:=cell_kept HY1.out hb
  go_simp
  exact hK _ _ (Below.refl _ _) rfl
 refine calm_fixA rfl rfl ?_
 apply Exists.intro
 refine ⟨fun a wz hc hk hf K hK=>?_,?_⟩
 ·have h12:=held_isV hf 2 rfl (by kernel_rfl)
  have h14:=held_isV hf 0 rfl (by kernel_rfl)
  clear hk hf hc
  go_simp
  exact hK _ _ (Below.refl _ _) rfl
 refine calm_varA (TmR w3.heap.size xy mn) rfl rfl TmR.kept (fun a wz hc hk hf K hK=>?_) ?_
 ·have hb:Below w3.heap.size w3 wz:=hc rfl
  obtain ⟨v10,h10,S10⟩:=held_at hf 5 rfl (by kernel_rfl)
  have h15:=held_isV hf 0 rfl (by kernel_rfl)
  clear hk hf hc
  obtain ⟨A8,p8,rfl,s8,f8⟩:=S10 rfl
  go_simp
  exact hK _ _ (Below.refl _ _) (fun _=>⟨A8,p8,rfl,s8,f8⟩)
 refine calm_storeA (fun w0=>∃ A p,Own w0 w.heap.size 2 (.slice (some ⟨w.heap.size+1+1,0,none⟩) 1 1) 1 [.slice A xy.length p,.int .i64 mn]∧StrsIn w0 (.slice A xy.length p) xy∧Fresh w.heap.size (.slice A xy.length p)∧Below w.heap.size w w0) rfl (fun m h=>by simpa using h) (fun a wz hb hk hf K hK=>?_) ?_
 ·have h4:=hk 4 (by kernel_rfl)
  obtain ⟨v16,h16,S16⟩:=held_at hf 0 rfl (by kernel_rfl)
  clear hk hf
  obtain ⟨A9,p9,rfl,s9,f9⟩:=S16 rfl
  have hO:=HRES.out.later hb
  obtain ⟨_,_,_,r2,r3⟩:=hO.parts
  have e0:=r2 0 _ rfl
  have e1:=r2 1 _ rfl
  have f0:=(r3 0 (by decide)).2
  have f1:=(r3 1 (by decide)).2
  have hO2:=Own.stored (Own.stored hO 0 (by decide) (.slice A9 xy.length p9)) 1 (by decide) (.int .i64 mn)
  have hb4:=((HB3.out.trans (hb.mono HB3.out.size)).setCell (by omega) (p:=⟨w.heap.size+1+1,0+0,none⟩) (.slice A9 xy.length p9)).setCell (by omega) (p:=⟨w.heap.size+1+1,0+1,none⟩) (.int .i64 mn)
  have hs4:=SliceOf.fresh s9 f9 (setCells_grown (w.heap.size+1+1) [.slice A9 xy.length p9,.int .i64 mn] 0 wz) (by rw [HSZ.out];omega)
  simp only [World.setCells,Nat.zero_add] at hO2 hb4 hs4 e0 e1 f0 f1
  have HO2:=Lib.hid hO2
  have HB4:=Lib.hid hb4
  have HS4:=Lib.hid hs4
  clear hO hO2 hb4 hs4 r2 r3 s9
  go_simp
  exact hK undef _ ⟨A9,p9,HO2.out,HS4.out,f9.mono HB3.out.size,HB4.out⟩
 refine calm_nil ?_
 refine ⟨keeps_one (m:=12) (fun k h=>by simpa using h) ⟨.inr (loose_isV _),.inr (loose_isV _),.inr (loose_isV _),.inr (loose_isV _),.inr (loose_ahead _),.inr (loose_ahead _),.inr (loose_isV _),.inr (loose_isV _),.inr (loose_isV _),.inr (loose_isV _),.inr (loose_isV _),.inr (loose_ahead _),.inl rfl,trivial⟩,?_⟩
 intro w4 hc
 simp only [lexL,calmEnd]
 rintro _ rfl _ rfl _ rfl _ rfl v9 S9 v10 S10 _ rfl _ rfl _ rfl _ rfl _ rfl v16 S16 _ hst12
 obtain ⟨wx,⟨A9,p9,hO,hs,hf,hbx⟩,hq⟩:=hst12 rfl
 have hO4:=hO.later hq
 have HS:=Lib.hid (StrsIn.kept hs hq)
 have HB4:=Lib.hid (hbx.trans (hq.mono hbx.size))
 have HF:=Lib.hid hf
 clear hst12 hO hs hbx hq hc S9 S10 S16 hf
 simp only [Act.put,List.setIfInBounds_toArray,List.set_cons_zero,List.set_cons_succ]
 obtain ⟨_,_,_,r2,_⟩:=hO4.parts
 have e0:=r2 0 _ rfl
 have e1:=r2 1 _ rfl
 simp only [Nat.zero_add] at e0 e1
 clear r2
 go_wp2
 refine ⟨rfl,.agg #[.slice A9 xy.length p9,.int .i64 mn],?_,_,_,rfl,HS.out,HF.out,HB4.out⟩
 simp [results,Try.results24,go_sem,e0,e1]
end Go.Proofs.Ytaoeikeobfllkaa
