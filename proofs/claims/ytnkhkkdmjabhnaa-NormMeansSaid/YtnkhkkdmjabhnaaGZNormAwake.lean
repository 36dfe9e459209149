/- Layer 17's laws: the document's examples. -/
import Derived.Test.YtnkhkkdmjabhnaaGZNormSame
namespace Go.Proofs.Ytnkhkkdmjabhnaa
open Go Go.RowKit
def xT17:Trm:=twoT15 60 (colT15 0) (colT15 1)
def yT17:Trm:=twoT15 61 (colT15 2) (colT15 1)
def TrmP (t:Trm)(o c:Int)(b:ByteArray)(n:Nat):Value→World→Prop:=fun v w=>∃ A p,v=.agg #[.int .u8 o,.int .i64 c,.string b,.slice A n p]∧TermIn w v t
theorem TrmP.kept {t:Trm}{o c:Int}{b:ByteArray}{n:Nat}:∀ (v:Value)(w w':World),Below w.heap.size w w'→TrmP t o c b n v w→TrmP t o c b n v w':=fun v w w' hb h=>by
 obtain ⟨A,p,e,ht⟩:=h
 exact ⟨A,p,e,ht.kept hb⟩
theorem okT_of {op c:Int}{b:ByteArray}{ks:List Trm}(h:0≤op∧op≤255∧-9223372036854775808≤c∧c≤9223372036854775807):okT (.mk op c b ks):=h
theorem sm17_col (c:Int)(h1 : -9223372036854775808≤c)(h2:c≤9223372036854775807)(h3:(printL (colT15 c)).length≤1000000000):Sm17 (colT15 c):=.mk (okT_of ⟨by decide,by decide,h1,h2⟩) (by show noC.size≤_;decide) (by show 0≤_;decide) h3 fun k hk=>absurd hk (by simp [colT15,Trm.kids])
theorem sm17_two {op:Int}{a b:Trm}(h1:0≤op)(h2:op≤255)(ha:Sm17 a)(hb:Sm17 b)(h3:(printL a).length+(printL b).length≤900000000):Sm17 (twoT15 op a b):=by
 have hl:(printL (twoT15 op a b)).length≤1000000000:=by
  rw [printL_eq,List.length_append,flat_swap_length]
  have h:=head_le (op:=op) (col:=0) (cell:=noC) (n:=2) (by decide) (by decide) (by decide) (by decide)
  have e:((twoT15 op a b).kids.map printL).flatten.length=(printL a).length+(printL b).length:=by
   show ([printL a,printL b]:List (List UInt8)).flatten.length=_
   simp
  rw [e]
  have h':(headL (twoT15 op a b).op (twoT15 op a b).col (twoT15 op a b).cell (twoT15 op a b).kids.length).length≤121:=h
  omega
 refine .mk (okT_of ⟨h1,h2,by decide,by decide⟩) (by show noC.size≤_;decide) (by show 2≤1000;decide) hl fun k hk=>?_
 have hk':k∈[a,b]:=hk
 simp only [List.mem_cons,List.mem_nil_iff,or_false] at hk'
 rcases hk' with rfl|rfl
 ·exact ha
 ·exact hb
theorem sm17_c:Sm17 (colT15 1):=sm17_col 1 (by decide) (by decide) (by decide +kernel)
theorem sm17_x:Sm17 xT17:=sm17_two (by decide) (by decide) (sm17_col 0 (by decide) (by decide) (by decide +kernel)) sm17_c (by decide +kernel)
theorem sm17_x2:Sm17 (twoT15 60 (colT15 1) (colT15 0)):=sm17_two (by decide) (by decide) sm17_c (sm17_col 0 (by decide) (by decide) (by decide +kernel)) (by decide +kernel)
theorem sm17_y:Sm17 yT17:=sm17_two (by decide) (by decide) (sm17_col 2 (by decide) (by decide) (by decide +kernel)) sm17_c (by decide +kernel)
theorem sm17_y2:Sm17 (twoT15 61 (colT15 1) (colT15 2)):=sm17_two (by decide) (by decide) sm17_c (sm17_col 2 (by decide) (by decide) (by decide +kernel)) (by decide +kernel)
theorem sm17_ex:Sm17 (twoT15 38 (twoT15 38 yT17 xT17) (twoT15 38 xT17 trueT)):=sm17_two (by decide) (by decide) (sm17_two (by decide) (by decide) sm17_y sm17_x (by decide +kernel)) (sm17_two (by decide) (by decide) sm17_x sm17_true (by decide +kernel)) (by decide +kernel)
theorem true17_calls (w:World):Calls Try.prog 18 #[] w (TermEnd w trueT):=(true_calls w).mono fun _ _ ⟨v,he,⟨kv,hv,ho,hk⟩,hb⟩=>⟨v,he,⟨kv,hv,ho,hk.any⟩,hb⟩
def KidP (l:List Trm)(n:Nat)(u:Value)(w:World):Prop:=∃ A p,u=.slice A n p∧KidsIn w (.slice A n p) l
theorem KidP.kept {l:List Trm}{n:Nat}(u:Value)(w w':World)(hb:Below w.heap.size w w')(h:KidP l n u w):KidP l n u w':=by
 obtain ⟨A,p,e,hk⟩:=h
 exact ⟨A,p,e,hk.kept hb⟩
set_option maxHeartbeats 8000000 in
set_option maxRecDepth 100000 in
theorem awake17_calls (w:World):GivesAt Try.prog 9 #[] w (.bool true):=by
 have hb:Below w.heap.size w w:=.refl _ _
 unfold GivesAt
 go_enter Try.func9,Try.ntmps9
 go_wp2_with fail
 refine Calls.mono (col17_calls 0 (by decide) (by decide) w) ?_
 intro e w1 hend
 obtain ⟨Aa,ca,e1,ht,hq⟩:=TermEnd.out hend
 have e2:e=.returned (.agg #[.int .u8 99,.int .i64 0,.string ⟨#[]⟩,.slice Aa 0 ca]):=e1
 subst e2
 have Ha:Hid (TermIn w1 (.agg #[.int .u8 99,.int .i64 0,.string ⟨#[]⟩,.slice Aa 0 ca]) (colT15 0)):=ht
 clear hend e1 ht
 replace hb:=hb.trans (hq.mono hb.size)
 clear hq
 go_wp2_with fail
 refine Calls.mono (col17_calls 1 (by decide) (by decide) w1) ?_
 intro e w2 hend
 obtain ⟨Ab,cb,e1,ht,hq⟩:=TermEnd.out hend
 have e2:e=.returned (.agg #[.int .u8 99,.int .i64 1,.string ⟨#[]⟩,.slice Ab 0 cb]):=e1
 subst e2
 have Hb:Hid (TermIn w2 (.agg #[.int .u8 99,.int .i64 1,.string ⟨#[]⟩,.slice Ab 0 cb]) (colT15 1)):=ht
 clear hend e1 ht
 replace Ha:=Lib.hid (Ha.out.kept hq)
 replace hb:=hb.trans (hq.mono hb.size)
 clear hq
 go_wp2_with fail
 refine Calls.mono (two17_calls 60 (by decide) (by decide) Ha.out Hb.out) ?_
 intro e w3 hend
 obtain ⟨Ax,cx,e1,ht,hq⟩:=TermEnd.out hend
 have e2:e=.returned (.agg #[.int .u8 60,.int .i64 0,.string ⟨#[]⟩,.slice Ax 2 cx]):=e1
 subst e2
 have Hx:Hid (TermIn w3 (.agg #[.int .u8 60,.int .i64 0,.string ⟨#[]⟩,.slice Ax 2 cx]) (twoT15 60 (colT15 0) (colT15 1))):=ht
 clear hend e1 ht
 replace Ha:=Lib.hid (Ha.out.kept hq)
 replace Hb:=Lib.hid (Hb.out.kept hq)
 replace hb:=hb.trans (hq.mono hb.size)
 clear hq
 clear Ha Hb
 go_wp2_with fail
 refine Calls.mono (col17_calls 2 (by decide) (by decide) w3) ?_
 intro e w4 hend
 obtain ⟨Ac,cc,e1,ht,hq⟩:=TermEnd.out hend
 have e2:e=.returned (.agg #[.int .u8 99,.int .i64 2,.string ⟨#[]⟩,.slice Ac 0 cc]):=e1
 subst e2
 have Hc:Hid (TermIn w4 (.agg #[.int .u8 99,.int .i64 2,.string ⟨#[]⟩,.slice Ac 0 cc]) (colT15 2)):=ht
 clear hend e1 ht
 replace Hx:=Lib.hid (Hx.out.kept hq)
 replace hb:=hb.trans (hq.mono hb.size)
 clear hq
 go_wp2_with fail
 refine Calls.mono (col17_calls 1 (by decide) (by decide) w4) ?_
 intro e w5 hend
 obtain ⟨Ad,cd,e1,ht,hq⟩:=TermEnd.out hend
 have e2:e=.returned (.agg #[.int .u8 99,.int .i64 1,.string ⟨#[]⟩,.slice Ad 0 cd]):=e1
 subst e2
 have Hd:Hid (TermIn w5 (.agg #[.int .u8 99,.int .i64 1,.string ⟨#[]⟩,.slice Ad 0 cd]) (colT15 1)):=ht
 clear hend e1 ht
 replace Hx:=Lib.hid (Hx.out.kept hq)
 replace Hc:=Lib.hid (Hc.out.kept hq)
 replace hb:=hb.trans (hq.mono hb.size)
 clear hq
 go_wp2_with fail
 refine Calls.mono (two17_calls 61 (by decide) (by decide) Hc.out Hd.out) ?_
 intro e w6 hend
 obtain ⟨Ay,cy,e1,ht,hq⟩:=TermEnd.out hend
 have e2:e=.returned (.agg #[.int .u8 61,.int .i64 0,.string ⟨#[]⟩,.slice Ay 2 cy]):=e1
 subst e2
 have Hy:Hid (TermIn w6 (.agg #[.int .u8 61,.int .i64 0,.string ⟨#[]⟩,.slice Ay 2 cy]) (twoT15 61 (colT15 2) (colT15 1))):=ht
 clear hend e1 ht
 replace Hx:=Lib.hid (Hx.out.kept hq)
 replace Hc:=Lib.hid (Hc.out.kept hq)
 replace Hd:=Lib.hid (Hd.out.kept hq)
 replace hb:=hb.trans (hq.mono hb.size)
 clear hq
 clear Hc Hd
 have hx:=trmbox_lit w6 24 60 0 ⟨#[]⟩ (.slice Ax 2 cx)
 have ha1:=Below.alloc (.refl w6.heap.size w6) (Nat.le_refl _) (.cells #[.int .u8 60,.int .i64 0,.string ⟨#[]⟩,.slice Ax 2 cx] 24)
 have hy:=trmbox_lit (w6.alloc (.cells #[.int .u8 60,.int .i64 0,.string ⟨#[]⟩,.slice Ax 2 cx] 24)) 24 61 0 ⟨#[]⟩ (.slice Ay 2 cy)
 rw [show (w6.alloc (.cells #[.int .u8 60,.int .i64 0,.string ⟨#[]⟩,.slice Ax 2 cx] 24)).heap.size=w6.heap.size+1 by simp] at hy
 have ha2:=Below.alloc (.refl _ (w6.alloc (.cells #[.int .u8 60,.int .i64 0,.string ⟨#[]⟩,.slice Ax 2 cx] 24))) (Nat.le_refl _) (.cells #[.int .u8 61,.int .i64 0,.string ⟨#[]⟩,.slice Ay 2 cy] 24)
 go_wp2_with fail
 have HX:=Lib.hid (hx.later ha2)
 have HY:=Lib.hid hy
 have hq:=ha1.trans (ha2.mono ha1.size)
 have HB:=Lib.hid (hb.trans (hq.mono hb.size))
 have HTX:=Lib.hid (Hx.out.kept hq)
 have HTY:=Lib.hid (Hy.out.kept hq)
 clear hx hy ha1 ha2 hq hb Hx Hy
 generalize hB1:w6.heap.size=B1 at *
 generalize World.alloc (World.alloc w6 _) _=z0 at *
 clear hB1
 have HNE0:Hid (((mkB (printL xT17)).toList==(mkB (printL (twoT15 60 (colT15 1) (colT15 0)))).toList)=false):=by show _=_;decide +kernel
 have EB0:Hid (mkB (printL (twoT15 61 (colT15 1) (colT15 2)))=mkB (printL yT17)):=by show _=_;decide +kernel
 have EC:Hid (mkB (printL (colT15 1))=⟨#[99,2,0]⟩):=by show _=_;decide +kernel
 obtain ⟨PB,EB⟩:∃ x,Hid (mkB (printL yT17)=x):=⟨_,rfl⟩
 have EB2:Hid (mkB (printL (twoT15 61 (colT15 1) (colT15 2)))=PB):=EB0.out.trans EB.out
 obtain ⟨PA,EA⟩:∃ x,Hid (mkB (printL xT17)=x):=⟨_,rfl⟩
 obtain ⟨PA2,EA2⟩:∃ x,Hid (mkB (printL (twoT15 60 (colT15 1) (colT15 0)))=x):=⟨_,rfl⟩
 have HNE:Hid ((PA.toList==PA2.toList)=false):=by rw [←EA.out,←EA2.out];exact HNE0.out
 clear HNE0 EB0
 refine wp_region_calm (offC z0) (fun _=>false) (fun _=>false) anyE false (by kernel_rfl) (by kernel_rfl) (by kernel_rfl) (by kernel_rfl) (by intro m hm;revert hm;simp;try omega) (offC_stable _) (offC_start _) ?_
 refine calm_fixA rfl rfl ?_
 apply Exists.intro
 refine ⟨fun a wz hc hk hf K hK=>?_,?_⟩
 ·have hb:Below z0.heap.size z0 wz:=hc rfl
  have h2:=hk 2 (by kernel_rfl)
  clear hk hf hc
  obtain ⟨y0,y1,y2,y3,_⟩:=(HX.out.later hb).cells
  obtain ⟨z0,z1,z2,z3,_⟩:=(HY.out.later hb).cells
  go_simp
  exact hK _ _ (Below.refl _ _) rfl
 refine calm_fixA rfl rfl ?_
 apply Exists.intro
 refine ⟨fun a wz hc hk hf K hK=>?_,?_⟩
 ·have hb:Below z0.heap.size z0 wz:=hc rfl
  have h1:=hk 1 (by kernel_rfl)
  clear hk hf hc
  obtain ⟨y0,y1,y2,y3,_⟩:=(HX.out.later hb).cells
  obtain ⟨z0,z1,z2,z3,_⟩:=(HY.out.later hb).cells
  go_simp
  exact hK _ _ (Below.refl _ _) rfl
 refine calm_varA (TrmP (twoT15 38 (yT17) (xT17)) 38 0 ⟨#[]⟩ 2) rfl rfl TrmP.kept (fun a wz hc hk hf K hK=>?_) ?_
 ·have hb:Below z0.heap.size z0 wz:=hc rfl
  have h10:=held_isV hf 1 rfl (by kernel_rfl)
  have h11:=held_isV hf 0 rfl (by kernel_rfl)
  clear hk hf hc
  go_simp
  refine Calls.mono (two17_calls 38 (by decide) (by decide) (HTY.out.kept hb) (HTX.out.kept hb)) ?_
  intro e w1 hend
  obtain ⟨A1,c1,e1,ht,hq⟩:=TermEnd.out hend
  have e2:e=.returned (.agg #[.int .u8 38,.int .i64 0,.string ⟨#[]⟩,.slice A1 2 c1]):=e1
  subst e2
  exact hK _ _ hq (fun _=>⟨A1,c1,rfl,ht⟩)
 refine calm_fixA rfl rfl ?_
 apply Exists.intro
 refine ⟨fun a wz hc hk hf K hK=>?_,?_⟩
 ·have hb:Below z0.heap.size z0 wz:=hc rfl
  have h1:=hk 1 (by kernel_rfl)
  clear hk hf hc
  obtain ⟨y0,y1,y2,y3,_⟩:=(HX.out.later hb).cells
  obtain ⟨z0,z1,z2,z3,_⟩:=(HY.out.later hb).cells
  go_simp
  exact hK _ _ (Below.refl _ _) rfl
 refine calm_varA (TrmP (trueT) 107 0 yesC 0) rfl rfl TrmP.kept (fun a wz hc hk hf K hK=>?_) ?_
 ·have hb:Below z0.heap.size z0 wz:=hc rfl
  clear hk hf hc
  go_simp
  refine Calls.mono (true17_calls wz) ?_
  intro e w1 hend
  obtain ⟨A1,c1,e1,ht,hq⟩:=TermEnd.out hend
  have e2:e=.returned (.agg #[.int .u8 107,.int .i64 0,.string yesC,.slice A1 0 c1]):=e1
  subst e2
  exact hK _ _ hq (fun _=>⟨A1,c1,rfl,ht⟩)
 refine calm_varA (TrmP (twoT15 38 (xT17) (trueT)) 38 0 ⟨#[]⟩ 2) rfl rfl TrmP.kept (fun a wz hc hk hf K hK=>?_) ?_
 ·have hb:Below z0.heap.size z0 wz:=hc rfl
  have h13:=held_isV hf 1 rfl (by kernel_rfl)
  obtain ⟨v14,h14,S14⟩:=held_at hf 0 rfl (by kernel_rfl)
  clear hk hf hc
  obtain ⟨A14,p14,rfl,s14⟩:=S14 rfl
  go_simp
  refine Calls.mono (two17_calls 38 (by decide) (by decide) (HTX.out.kept hb) s14) ?_
  intro e w1 hend
  obtain ⟨A1,c1,e1,ht,hq⟩:=TermEnd.out hend
  have e2:e=.returned (.agg #[.int .u8 38,.int .i64 0,.string ⟨#[]⟩,.slice A1 2 c1]):=e1
  subst e2
  exact hK _ _ hq (fun _=>⟨A1,c1,rfl,ht⟩)
 refine calm_varA (TrmP (twoT15 38 (twoT15 38 yT17 xT17) (twoT15 38 xT17 trueT)) 38 0 ⟨#[]⟩ 2) rfl rfl TrmP.kept (fun a wz hc hk hf K hK=>?_) ?_
 ·have hb:Below z0.heap.size z0 wz:=hc rfl
  obtain ⟨v12,h12,S12⟩:=held_at hf 3 rfl (by kernel_rfl)
  obtain ⟨v15,h15,S15⟩:=held_at hf 0 rfl (by kernel_rfl)
  clear hk hf hc
  obtain ⟨A12,p12,rfl,s12⟩:=S12 rfl
  obtain ⟨A15,p15,rfl,s15⟩:=S15 rfl
  go_simp
  refine Calls.mono (two17_calls 38 (by decide) (by decide) s12 s15) ?_
  intro e w1 hend
  obtain ⟨A1,c1,e1,ht,hq⟩:=TermEnd.out hend
  have e2:e=.returned (.agg #[.int .u8 38,.int .i64 0,.string ⟨#[]⟩,.slice A1 2 c1]):=e1
  subst e2
  exact hK _ _ hq (fun _=>⟨A1,c1,rfl,ht⟩)
 refine calm_varA (KidP [xT17,yT17] 2) rfl rfl KidP.kept (fun a wz hc hk hf K hK=>?_) ?_
 ·have hb:Below z0.heap.size z0 wz:=hc rfl
  obtain ⟨v16,h16,S16⟩:=held_at hf 0 rfl (by kernel_rfl)
  clear hk hf hc
  obtain ⟨A16,p16,rfl,s16⟩:=S16 rfl
  go_simp
  refine Calls.mono (norm_parts_calls (t:=twoT15 38 (twoT15 38 yT17 xT17) (twoT15 38 xT17 trueT)) s16 sm17_ex) ?_
  rintro e w1 ⟨u,rfl,hk,hq⟩
  rw [show partsT (twoT15 38 (twoT15 38 yT17 xT17) (twoT15 38 xT17 trueT))=[xT17,yT17] from by kernel_rfl] at hk
  obtain ⟨A9,p9,rfl,-⟩:=kids_at hk
  exact hK _ _ hq (fun _=>⟨A9,p9,rfl,hk.any⟩)
 refine calm_varA (KidP [xT17,yT17] 2) rfl rfl KidP.kept (fun a wz hc hk hf K hK=>?_) ?_
 ·have hb:Below z0.heap.size z0 wz:=hc rfl
  obtain ⟨v17,h17,S17⟩:=held_at hf 0 rfl (by kernel_rfl)
  clear hk hf hc
  obtain ⟨A9,p9,rfl,s17⟩:=S17 rfl
  go_simp
  exact hK _ _ (Below.refl _ _) fun _=>⟨A9,p9,rfl,s17⟩
 refine calm_nil ?_
 refine ⟨keeps_none,?_⟩
 intro z1 hc
 simp only [lexL,calmEnd]
 rintro _ rfl _ rfl v12 S12 _ rfl v14 S14 v15 S15 v16 S16 v17 S17 v3 S3
 have hq:Below z0.heap.size z0 z1:=hc rfl
 obtain ⟨A3,p3,rfl,hk3⟩:=S3 rfl
 have HX3:=Lib.hid (HX.out.later hq)
 have HY3:=Lib.hid (HY.out.later hq)
 have HTX3:=Lib.hid (HTX.out.kept hq)
 have HTY3:=Lib.hid (HTY.out.kept hq)
 have HB3:=Lib.hid (HB.out.trans (hq.mono HB.out.size))
 have HK3:=Lib.hid hk3
 obtain ⟨b0,o0,A0,p0,ea,hb0,hc0,ht0⟩:=kid_cells hk3 (i:=0) (by decide)
 subst ea
 rw [Nat.zero_mul,Nat.add_zero] at hc0
 have HC0:Hid (Cells4 z1 b0 o0 60 0 ⟨#[]⟩ (.slice A0 2 p0)):=hc0
 have HT0:Hid (TermIn z1 (.agg #[.int .u8 60,.int .i64 0,.string ⟨#[]⟩,.slice A0 2 p0]) xT17):=ht0
 have HL0:=Lib.hid hb0
 clear hc hq HX HY HTX HTY HB hk3 hc0 ht0 hb0 S12 S14 S15 S16 S17 S3
 simp only [Act.put,List.setIfInBounds_toArray,List.set_cons_zero,List.set_cons_succ]
 go_wp2_with fail
 refine wp_region_calm (offC z1) (fun _=>false) (fun _=>false) anyE false (by kernel_rfl) (by kernel_rfl) (by kernel_rfl) (by kernel_rfl) (by intro m hm;revert hm;simp;try omega) (offC_stable _) (offC_start _) ?_
 refine calm_fixA rfl rfl ?_
 apply Exists.intro
 refine ⟨fun a wz hc hk hf K hK=>?_,?_⟩
 ·have h3:=hk 3 (by kernel_rfl)
  clear hk hf hc
  go_simp
  exact hK _ _ (Below.refl _ _) rfl
 refine calm_fixA rfl rfl ?_
 apply Exists.intro
 refine ⟨fun a wz hc hk hf K hK=>?_,?_⟩
 ·have h18:=held_isV hf 0 rfl (by kernel_rfl)
  clear hk hf hc
  go_simp
  exact hK _ _ (Below.refl _ _) rfl
 refine calm_fixA rfl rfl ?_
 apply Exists.intro
 refine ⟨fun a wz hc hk hf K hK=>?_,?_⟩
 ·have h19:=held_isV hf 0 rfl (by kernel_rfl)
  clear hk hf hc
  go_simp
  exact hK _ _ (Below.refl _ _) rfl
 refine calm_fixA rfl rfl ?_
 apply Exists.intro
 refine ⟨fun a wz hc hk hf K hK=>?_,?_⟩
 ·have h20:=held_isV hf 0 rfl (by kernel_rfl)
  clear hk hf hc
  go_simp
  exact hK _ _ (Below.refl _ _) rfl
 refine calm_fixA rfl rfl ?_
 apply Exists.intro
 refine ⟨fun a wz hc hk hf K hK=>?_,?_⟩
 ·have h3:=hk 3 (by kernel_rfl)
  have h21:=held_isV hf 0 rfl (by kernel_rfl)
  clear hk hf hc
  go_simp
  exact hK _ _ (Below.refl _ _) rfl
 refine calm_fixA rfl rfl ?_
 apply Exists.intro
 refine ⟨fun a wz hc hk hf K hK=>?_,?_⟩
 ·have h22:=held_isV hf 0 rfl (by kernel_rfl)
  have h21:=held_isV hf 1 rfl (by kernel_rfl)
  clear hk hf hc
  go_simp
  exact hK _ _ (Below.refl _ _) rfl
 refine calm_fixA rfl rfl ?_
 apply Exists.intro
 refine ⟨fun a wz hc hk hf K hK=>?_,?_⟩
 ·have hb:Below z1.heap.size z1 wz:=hc rfl
  have h23:=held_isV hf 0 rfl (by kernel_rfl)
  have h21:=held_isV hf 2 rfl (by kernel_rfl)
  clear hk hf hc
  obtain ⟨k0,k1,k2,k3⟩:=HC0.out.kept HL0.out hb
  go_simp
  exact hK _ _ (Below.refl _ _) rfl
 refine calm_fixA rfl rfl ?_
 apply Exists.intro
 refine ⟨fun a wz hc hk hf K hK=>?_,?_⟩
 ·have hb:Below z1.heap.size z1 wz:=hc rfl
  have h1:=hk 1 (by kernel_rfl)
  have h21:=held_isV hf 3 rfl (by kernel_rfl)
  clear hk hf hc
  obtain ⟨y0,y1,y2,y3,_⟩:=(HX3.out.later hb).cells
  obtain ⟨z0,z1,z2,z3,_⟩:=(HY3.out.later hb).cells
  go_simp
  exact hK _ _ (Below.refl _ _) rfl
 refine calm_fixA rfl rfl ?_
 apply Exists.intro
 refine ⟨fun a wz hc hk hf K hK=>?_,?_⟩
 ·have hb:Below z1.heap.size z1 wz:=hc rfl
  have h24:=held_isV hf 1 rfl (by kernel_rfl)
  have h25:=held_isV hf 0 rfl (by kernel_rfl)
  have h21:=held_isV hf 4 rfl (by kernel_rfl)
  clear hk hf hc
  go_simp
  refine Calls.mono (ref_same15_calls xT17 wz _ _ (HT0.out.kept hb) (HTX3.out.kept hb)) ?_
  rintro e w1 ⟨rfl,hq⟩
  exact hK _ _ hq rfl
 refine calm_fixA rfl rfl ?_
 apply Exists.intro
 refine ⟨fun a wz hc hk hf K hK=>?_,?_⟩
 ·have h21:=held_isV hf 5 rfl (by kernel_rfl)
  have h26:=held_isV hf 0 rfl (by kernel_rfl)
  clear hk hf hc
  go_simp
  exact hK _ _ (Below.refl _ _) rfl
 refine calm_fixA rfl rfl ?_
 apply Exists.intro
 refine ⟨fun a wz hc hk hf K hK=>?_,?_⟩
 ·have h27:=held_isV hf 0 rfl (by kernel_rfl)
  clear hk hf hc
  go_simp
  exact hK _ _ (Below.refl _ _) rfl
 refine calm_fixA rfl rfl ?_
 apply Exists.intro
 refine ⟨fun a wz hc hk hf K hK=>?_,?_⟩
 ·have h3:=hk 3 (by kernel_rfl)
  have h28:=held_isV hf 0 rfl (by kernel_rfl)
  clear hk hf hc
  go_simp
  exact hK _ _ (Below.refl _ _) rfl
 refine calm_varA (TrmP (andT xT17 yT17) 38 0 ⟨#[]⟩ 2) rfl rfl TrmP.kept (fun a wz hc hk hf K hK=>?_) ?_
 ·have hb:Below z1.heap.size z1 wz:=hc rfl
  have h29:=held_isV hf 0 rfl (by kernel_rfl)
  have h28:=held_isV hf 1 rfl (by kernel_rfl)
  clear hk hf hc
  go_simp
  refine Calls.mono (norm_join_calls (l:=[xT17,yT17]) (HK3.out.kept hb) (by intro x hx;simp only [List.mem_cons,List.mem_nil_iff,or_false] at hx;rcases hx with rfl|rfl;exact sm17_x;exact sm17_y) (by decide)) ?_
  intro e w1 hend
  obtain ⟨A1,c1,e1,ht,hq⟩:=TermEnd.out hend
  have e2:e=.returned (.agg #[.int .u8 38,.int .i64 0,.string ⟨#[]⟩,.slice A1 2 c1]):=e1
  subst e2
  exact hK _ _ hq (fun _=>⟨A1,c1,rfl,ht⟩)
 refine calm_fixA rfl rfl ?_
 apply Exists.intro
 refine ⟨fun a wz hc hk hf K hK=>?_,?_⟩
 ·have hb:Below z1.heap.size z1 wz:=hc rfl
  have h1:=hk 1 (by kernel_rfl)
  have h28:=held_isV hf 2 rfl (by kernel_rfl)
  clear hk hf hc
  obtain ⟨y0,y1,y2,y3,_⟩:=(HX3.out.later hb).cells
  obtain ⟨z0,z1,z2,z3,_⟩:=(HY3.out.later hb).cells
  go_simp
  exact hK _ _ (Below.refl _ _) rfl
 refine calm_fixA rfl rfl ?_
 apply Exists.intro
 refine ⟨fun a wz hc hk hf K hK=>?_,?_⟩
 ·have hb:Below z1.heap.size z1 wz:=hc rfl
  have h2:=hk 2 (by kernel_rfl)
  have h28:=held_isV hf 3 rfl (by kernel_rfl)
  clear hk hf hc
  obtain ⟨y0,y1,y2,y3,_⟩:=(HX3.out.later hb).cells
  obtain ⟨z0,z1,z2,z3,_⟩:=(HY3.out.later hb).cells
  go_simp
  exact hK _ _ (Below.refl _ _) rfl
 refine calm_varA (TrmP (twoT15 38 (xT17) (yT17)) 38 0 ⟨#[]⟩ 2) rfl rfl TrmP.kept (fun a wz hc hk hf K hK=>?_) ?_
 ·have hb:Below z1.heap.size z1 wz:=hc rfl
  have h31:=held_isV hf 1 rfl (by kernel_rfl)
  have h32:=held_isV hf 0 rfl (by kernel_rfl)
  have h28:=held_isV hf 4 rfl (by kernel_rfl)
  clear hk hf hc
  go_simp
  refine Calls.mono (two17_calls 38 (by decide) (by decide) (HTX3.out.kept hb) (HTY3.out.kept hb)) ?_
  intro e w1 hend
  obtain ⟨A1,c1,e1,ht,hq⟩:=TermEnd.out hend
  have e2:e=.returned (.agg #[.int .u8 38,.int .i64 0,.string ⟨#[]⟩,.slice A1 2 c1]):=e1
  subst e2
  exact hK _ _ hq (fun _=>⟨A1,c1,rfl,ht⟩)
 refine calm_fixA rfl rfl ?_
 apply Exists.intro
 refine ⟨fun a wz hc hk hf K hK=>?_,?_⟩
 ·have hb:Below z1.heap.size z1 wz:=hc rfl
  obtain ⟨v30,h30,S30⟩:=held_at hf 3 rfl (by kernel_rfl)
  obtain ⟨v33,h33,S33⟩:=held_at hf 0 rfl (by kernel_rfl)
  have h28:=held_isV hf 5 rfl (by kernel_rfl)
  clear hk hf hc
  obtain ⟨A30,p30,rfl,s30⟩:=S30 rfl
  obtain ⟨A33,p33,rfl,s33⟩:=S33 rfl
  go_simp
  refine Calls.mono (ref_same15_calls (andT xT17 yT17) wz _ _ s30 s33) ?_
  rintro e w1 ⟨rfl,hq⟩
  exact hK _ _ hq rfl
 refine calm_fixA rfl rfl ?_
 apply Exists.intro
 refine ⟨fun a wz hc hk hf K hK=>?_,?_⟩
 ·have h28:=held_isV hf 6 rfl (by kernel_rfl)
  have h34:=held_isV hf 0 rfl (by kernel_rfl)
  clear hk hf hc
  go_simp
  exact hK _ _ (Below.refl _ _) rfl
 refine calm_fixA rfl rfl ?_
 apply Exists.intro
 refine ⟨fun a wz hc hk hf K hK=>?_,?_⟩
 ·have h35:=held_isV hf 0 rfl (by kernel_rfl)
  clear hk hf hc
  go_simp
  exact hK _ _ (Below.refl _ _) rfl
 refine calm_varA (TrmP (trueT) 107 0 yesC 0) rfl rfl TrmP.kept (fun a wz hc hk hf K hK=>?_) ?_
 ·have hb:Below z1.heap.size z1 wz:=hc rfl
  have h36:=held_isV hf 0 rfl (by kernel_rfl)
  clear hk hf hc
  go_simp
  refine Calls.mono (true17_calls wz) ?_
  intro e w1 hend
  obtain ⟨A1,c1,e1,ht,hq⟩:=TermEnd.out hend
  have e2:e=.returned (.agg #[.int .u8 107,.int .i64 0,.string yesC,.slice A1 0 c1]):=e1
  subst e2
  exact hK _ _ hq (fun _=>⟨A1,c1,rfl,ht⟩)
 refine calm_varA (KidP [] 0) rfl rfl KidP.kept (fun a wz hc hk hf K hK=>?_) ?_
 ·have hb:Below z1.heap.size z1 wz:=hc rfl
  obtain ⟨v37,h37,S37⟩:=held_at hf 0 rfl (by kernel_rfl)
  have h36:=held_isV hf 1 rfl (by kernel_rfl)
  clear hk hf hc
  obtain ⟨A37,p37,rfl,s37⟩:=S37 rfl
  go_simp
  refine Calls.mono (norm_parts_calls (t:=trueT) s37 sm17_true) ?_
  rintro e w1 ⟨u,rfl,hk,hq⟩
  rw [show partsT (trueT)=[] from by kernel_rfl] at hk
  obtain ⟨A9,p9,rfl,-⟩:=kids_at hk
  exact hK _ _ hq (fun _=>⟨A9,p9,rfl,hk.any⟩)
 refine calm_fixA rfl rfl ?_
 apply Exists.intro
 refine ⟨fun a wz hc hk hf K hK=>?_,?_⟩
 ·have hb:Below z1.heap.size z1 wz:=hc rfl
  obtain ⟨v38,h38,S38⟩:=held_at hf 0 rfl (by kernel_rfl)
  have h36:=held_isV hf 2 rfl (by kernel_rfl)
  clear hk hf hc
  obtain ⟨A9,p9,rfl,s38⟩:=S38 rfl
  go_simp
  exact hK _ _ (Below.refl _ _) rfl
 refine calm_fixA rfl rfl ?_
 apply Exists.intro
 refine ⟨fun a wz hc hk hf K hK=>?_,?_⟩
 ·have h39:=held_isV hf 0 rfl (by kernel_rfl)
  have h36:=held_isV hf 3 rfl (by kernel_rfl)
  clear hk hf hc
  go_simp
  exact hK _ _ (Below.refl _ _) rfl
 refine calm_fixA rfl rfl ?_
 apply Exists.intro
 refine ⟨fun a wz hc hk hf K hK=>?_,?_⟩
 ·have h36:=held_isV hf 4 rfl (by kernel_rfl)
  have h40:=held_isV hf 0 rfl (by kernel_rfl)
  clear hk hf hc
  go_simp
  exact hK _ _ (Below.refl _ _) rfl
 refine calm_fixA rfl rfl ?_
 apply Exists.intro
 refine ⟨fun a wz hc hk hf K hK=>?_,?_⟩
 ·have h41:=held_isV hf 0 rfl (by kernel_rfl)
  clear hk hf hc
  go_simp
  exact hK _ _ (Below.refl _ _) rfl
 refine calm_varA (TrmP (trueT) 107 0 yesC 0) rfl rfl TrmP.kept (fun a wz hc hk hf K hK=>?_) ?_
 ·have hb:Below z1.heap.size z1 wz:=hc rfl
  have h42:=held_isV hf 0 rfl (by kernel_rfl)
  clear hk hf hc
  go_simp
  refine Calls.mono (norm_join_calls (l:=[]) (KidsIn.nil_ wz none 0) (by simp) (by decide)) ?_
  intro e w1 hend
  obtain ⟨A1,c1,e1,ht,hq⟩:=TermEnd.out hend
  have e2:e=.returned (.agg #[.int .u8 107,.int .i64 0,.string yesC,.slice A1 0 c1]):=e1
  subst e2
  exact hK _ _ hq (fun _=>⟨A1,c1,rfl,ht⟩)
 refine calm_varA (TrmP (trueT) 107 0 yesC 0) rfl rfl TrmP.kept (fun a wz hc hk hf K hK=>?_) ?_
 ·have hb:Below z1.heap.size z1 wz:=hc rfl
  have h42:=held_isV hf 1 rfl (by kernel_rfl)
  clear hk hf hc
  go_simp
  refine Calls.mono (true17_calls wz) ?_
  intro e w1 hend
  obtain ⟨A1,c1,e1,ht,hq⟩:=TermEnd.out hend
  have e2:e=.returned (.agg #[.int .u8 107,.int .i64 0,.string yesC,.slice A1 0 c1]):=e1
  subst e2
  exact hK _ _ hq (fun _=>⟨A1,c1,rfl,ht⟩)
 refine calm_fixA rfl rfl ?_
 apply Exists.intro
 refine ⟨fun a wz hc hk hf K hK=>?_,?_⟩
 ·have hb:Below z1.heap.size z1 wz:=hc rfl
  obtain ⟨v43,h43,S43⟩:=held_at hf 1 rfl (by kernel_rfl)
  obtain ⟨v44,h44,S44⟩:=held_at hf 0 rfl (by kernel_rfl)
  have h42:=held_isV hf 2 rfl (by kernel_rfl)
  clear hk hf hc
  obtain ⟨A43,p43,rfl,s43⟩:=S43 rfl
  obtain ⟨A44,p44,rfl,s44⟩:=S44 rfl
  go_simp
  refine Calls.mono (ref_same15_calls trueT wz _ _ s43 s44) ?_
  rintro e w1 ⟨rfl,hq⟩
  exact hK _ _ hq rfl
 refine calm_fixA rfl rfl ?_
 apply Exists.intro
 refine ⟨fun a wz hc hk hf K hK=>?_,?_⟩
 ·have h42:=held_isV hf 3 rfl (by kernel_rfl)
  have h45:=held_isV hf 0 rfl (by kernel_rfl)
  clear hk hf hc
  go_simp
  exact hK _ _ (Below.refl _ _) rfl
 refine calm_fixA rfl rfl ?_
 apply Exists.intro
 refine ⟨fun a wz hc hk hf K hK=>?_,?_⟩
 ·have h46:=held_isV hf 0 rfl (by kernel_rfl)
  clear hk hf hc
  go_simp
  exact hK _ _ (Below.refl _ _) rfl
 refine calm_fixA rfl rfl ?_
 apply Exists.intro
 refine ⟨fun a wz hc hk hf K hK=>?_,?_⟩
 ·have hb:Below z1.heap.size z1 wz:=hc rfl
  have h2:=hk 2 (by kernel_rfl)
  have h47:=held_isV hf 0 rfl (by kernel_rfl)
  clear hk hf hc
  obtain ⟨y0,y1,y2,y3,_⟩:=(HX3.out.later hb).cells
  obtain ⟨z0,z1,z2,z3,_⟩:=(HY3.out.later hb).cells
  go_simp
  exact hK _ _ (Below.refl _ _) rfl
 refine calm_fixA rfl rfl ?_
 apply Exists.intro
 refine ⟨fun a wz hc hk hf K hK=>?_,?_⟩
 ·have hb:Below z1.heap.size z1 wz:=hc rfl
  have h48:=held_isV hf 0 rfl (by kernel_rfl)
  have h47:=held_isV hf 1 rfl (by kernel_rfl)
  clear hk hf hc
  have hs:=norm_print_calls (t:=yT17) (HTY3.out.kept hb) sm17_y
  rw [EB.out] at hs
  go_simp
  refine Calls.mono (hs) ?_
  rintro e w1 ⟨rfl,hq⟩
  exact hK _ _ hq rfl
 refine calm_varA (TrmP (colT15 1) 99 1 ⟨#[]⟩ 0) rfl rfl TrmP.kept (fun a wz hc hk hf K hK=>?_) ?_
 ·have hb:Below z1.heap.size z1 wz:=hc rfl
  have h47:=held_isV hf 2 rfl (by kernel_rfl)
  clear hk hf hc
  go_simp
  refine Calls.mono (col17_calls 1 (by decide) (by decide) wz) ?_
  intro e w1 hend
  obtain ⟨A1,c1,e1,ht,hq⟩:=TermEnd.out hend
  have e2:e=.returned (.agg #[.int .u8 99,.int .i64 1,.string ⟨#[]⟩,.slice A1 0 c1]):=e1
  subst e2
  exact hK _ _ hq (fun _=>⟨A1,c1,rfl,ht⟩)
 refine calm_varA (TrmP (colT15 2) 99 2 ⟨#[]⟩ 0) rfl rfl TrmP.kept (fun a wz hc hk hf K hK=>?_) ?_
 ·have hb:Below z1.heap.size z1 wz:=hc rfl
  have h47:=held_isV hf 3 rfl (by kernel_rfl)
  clear hk hf hc
  go_simp
  refine Calls.mono (col17_calls 2 (by decide) (by decide) wz) ?_
  intro e w1 hend
  obtain ⟨A1,c1,e1,ht,hq⟩:=TermEnd.out hend
  have e2:e=.returned (.agg #[.int .u8 99,.int .i64 2,.string ⟨#[]⟩,.slice A1 0 c1]):=e1
  subst e2
  exact hK _ _ hq (fun _=>⟨A1,c1,rfl,ht⟩)
 refine calm_varA (TrmP (twoT15 61 (colT15 1) (colT15 2)) 61 0 ⟨#[]⟩ 2) rfl rfl TrmP.kept (fun a wz hc hk hf K hK=>?_) ?_
 ·have hb:Below z1.heap.size z1 wz:=hc rfl
  obtain ⟨v50,h50,S50⟩:=held_at hf 1 rfl (by kernel_rfl)
  obtain ⟨v51,h51,S51⟩:=held_at hf 0 rfl (by kernel_rfl)
  have h47:=held_isV hf 4 rfl (by kernel_rfl)
  clear hk hf hc
  obtain ⟨A50,p50,rfl,s50⟩:=S50 rfl
  obtain ⟨A51,p51,rfl,s51⟩:=S51 rfl
  go_simp
  refine Calls.mono (two17_calls 61 (by decide) (by decide) s50 s51) ?_
  intro e w1 hend
  obtain ⟨A1,c1,e1,ht,hq⟩:=TermEnd.out hend
  have e2:e=.returned (.agg #[.int .u8 61,.int .i64 0,.string ⟨#[]⟩,.slice A1 2 c1]):=e1
  subst e2
  exact hK _ _ hq (fun _=>⟨A1,c1,rfl,ht⟩)
 refine calm_fixA rfl rfl ?_
 apply Exists.intro
 refine ⟨fun a wz hc hk hf K hK=>?_,?_⟩
 ·have hb:Below z1.heap.size z1 wz:=hc rfl
  obtain ⟨v52,h52,S52⟩:=held_at hf 0 rfl (by kernel_rfl)
  have h47:=held_isV hf 5 rfl (by kernel_rfl)
  clear hk hf hc
  obtain ⟨A52,p52,rfl,s52⟩:=S52 rfl
  have hs:=norm_print_calls (t:=twoT15 61 (colT15 1) (colT15 2)) s52 sm17_y2
  rw [EB2.out] at hs
  go_simp
  refine Calls.mono (hs) ?_
  rintro e w1 ⟨rfl,hq⟩
  exact hK _ _ hq rfl
 refine calm_fixA rfl rfl ?_
 apply Exists.intro
 refine ⟨fun a wz hc hk hf K hK=>?_,?_⟩
 ·have h49:=held_isV hf 4 rfl (by kernel_rfl)
  have h53:=held_isV hf 0 rfl (by kernel_rfl)
  have h47:=held_isV hf 6 rfl (by kernel_rfl)
  clear hk hf hc
  go_simp
  exact hK _ _ (Below.refl _ _) rfl
 refine calm_fixA rfl rfl ?_
 apply Exists.intro
 refine ⟨fun a wz hc hk hf K hK=>?_,?_⟩
 ·have h47:=held_isV hf 7 rfl (by kernel_rfl)
  have h54:=held_isV hf 0 rfl (by kernel_rfl)
  clear hk hf hc
  go_simp
  exact hK _ _ (Below.refl _ _) rfl
 refine calm_fixA rfl rfl ?_
 apply Exists.intro
 refine ⟨fun a wz hc hk hf K hK=>?_,?_⟩
 ·have h55:=held_isV hf 0 rfl (by kernel_rfl)
  clear hk hf hc
  go_simp
  exact hK _ _ (Below.refl _ _) rfl
 refine calm_fixA rfl rfl ?_
 apply Exists.intro
 refine ⟨fun a wz hc hk hf K hK=>?_,?_⟩
 ·have hb:Below z1.heap.size z1 wz:=hc rfl
  have h1:=hk 1 (by kernel_rfl)
  have h56:=held_isV hf 0 rfl (by kernel_rfl)
  clear hk hf hc
  obtain ⟨y0,y1,y2,y3,_⟩:=(HX3.out.later hb).cells
  obtain ⟨z0,z1,z2,z3,_⟩:=(HY3.out.later hb).cells
  go_simp
  exact hK _ _ (Below.refl _ _) rfl
 refine calm_fixA rfl rfl ?_
 apply Exists.intro
 refine ⟨fun a wz hc hk hf K hK=>?_,?_⟩
 ·have hb:Below z1.heap.size z1 wz:=hc rfl
  have h57:=held_isV hf 0 rfl (by kernel_rfl)
  have h56:=held_isV hf 1 rfl (by kernel_rfl)
  clear hk hf hc
  have hs:=norm_print_calls (t:=xT17) (HTX3.out.kept hb) sm17_x
  rw [EA.out] at hs
  go_simp
  refine Calls.mono (hs) ?_
  rintro e w1 ⟨rfl,hq⟩
  exact hK _ _ hq rfl
 refine calm_varA (TrmP (colT15 1) 99 1 ⟨#[]⟩ 0) rfl rfl TrmP.kept (fun a wz hc hk hf K hK=>?_) ?_
 ·have hb:Below z1.heap.size z1 wz:=hc rfl
  have h56:=held_isV hf 2 rfl (by kernel_rfl)
  clear hk hf hc
  go_simp
  refine Calls.mono (col17_calls 1 (by decide) (by decide) wz) ?_
  intro e w1 hend
  obtain ⟨A1,c1,e1,ht,hq⟩:=TermEnd.out hend
  have e2:e=.returned (.agg #[.int .u8 99,.int .i64 1,.string ⟨#[]⟩,.slice A1 0 c1]):=e1
  subst e2
  exact hK _ _ hq (fun _=>⟨A1,c1,rfl,ht⟩)
 refine calm_varA (TrmP (colT15 0) 99 0 ⟨#[]⟩ 0) rfl rfl TrmP.kept (fun a wz hc hk hf K hK=>?_) ?_
 ·have hb:Below z1.heap.size z1 wz:=hc rfl
  have h56:=held_isV hf 3 rfl (by kernel_rfl)
  clear hk hf hc
  go_simp
  refine Calls.mono (col17_calls 0 (by decide) (by decide) wz) ?_
  intro e w1 hend
  obtain ⟨A1,c1,e1,ht,hq⟩:=TermEnd.out hend
  have e2:e=.returned (.agg #[.int .u8 99,.int .i64 0,.string ⟨#[]⟩,.slice A1 0 c1]):=e1
  subst e2
  exact hK _ _ hq (fun _=>⟨A1,c1,rfl,ht⟩)
 refine calm_varA (TrmP (twoT15 60 (colT15 1) (colT15 0)) 60 0 ⟨#[]⟩ 2) rfl rfl TrmP.kept (fun a wz hc hk hf K hK=>?_) ?_
 ·have hb:Below z1.heap.size z1 wz:=hc rfl
  obtain ⟨v59,h59,S59⟩:=held_at hf 1 rfl (by kernel_rfl)
  obtain ⟨v60,h60,S60⟩:=held_at hf 0 rfl (by kernel_rfl)
  have h56:=held_isV hf 4 rfl (by kernel_rfl)
  clear hk hf hc
  obtain ⟨A59,p59,rfl,s59⟩:=S59 rfl
  obtain ⟨A60,p60,rfl,s60⟩:=S60 rfl
  go_simp
  refine Calls.mono (two17_calls 60 (by decide) (by decide) s59 s60) ?_
  intro e w1 hend
  obtain ⟨A1,c1,e1,ht,hq⟩:=TermEnd.out hend
  have e2:e=.returned (.agg #[.int .u8 60,.int .i64 0,.string ⟨#[]⟩,.slice A1 2 c1]):=e1
  subst e2
  exact hK _ _ hq (fun _=>⟨A1,c1,rfl,ht⟩)
 refine calm_fixA rfl rfl ?_
 apply Exists.intro
 refine ⟨fun a wz hc hk hf K hK=>?_,?_⟩
 ·have hb:Below z1.heap.size z1 wz:=hc rfl
  obtain ⟨v61,h61,S61⟩:=held_at hf 0 rfl (by kernel_rfl)
  have h56:=held_isV hf 5 rfl (by kernel_rfl)
  clear hk hf hc
  obtain ⟨A61,p61,rfl,s61⟩:=S61 rfl
  have hs:=norm_print_calls (t:=twoT15 60 (colT15 1) (colT15 0)) s61 sm17_x2
  rw [EA2.out] at hs
  go_simp
  refine Calls.mono (hs) ?_
  rintro e w1 ⟨rfl,hq⟩
  exact hK _ _ hq rfl
 refine calm_fixA rfl rfl ?_
 apply Exists.intro
 refine ⟨fun a wz hc hk hf K hK=>?_,?_⟩
 ·have hb:Below z1.heap.size z1 wz:=hc rfl
  have h58:=held_isV hf 4 rfl (by kernel_rfl)
  have h62:=held_isV hf 0 rfl (by kernel_rfl)
  have h56:=held_isV hf 6 rfl (by kernel_rfl)
  clear hk hf hc
  have dn:=HNE.out
  go_simp
  exact hK _ _ (Below.refl _ _) rfl
 refine calm_fixA rfl rfl ?_
 apply Exists.intro
 refine ⟨fun a wz hc hk hf K hK=>?_,?_⟩
 ·have h56:=held_isV hf 7 rfl (by kernel_rfl)
  have h63:=held_isV hf 0 rfl (by kernel_rfl)
  clear hk hf hc
  go_simp
  exact hK _ _ (Below.refl _ _) rfl
 refine calm_fixA rfl rfl ?_
 apply Exists.intro
 refine ⟨fun a wz hc hk hf K hK=>?_,?_⟩
 ·have h64:=held_isV hf 0 rfl (by kernel_rfl)
  clear hk hf hc
  go_simp
  exact hK _ _ (Below.refl _ _) rfl
 refine calm_varA (TrmP (colT15 1) 99 1 ⟨#[]⟩ 0) rfl rfl TrmP.kept (fun a wz hc hk hf K hK=>?_) ?_
 ·have hb:Below z1.heap.size z1 wz:=hc rfl
  have h65:=held_isV hf 0 rfl (by kernel_rfl)
  clear hk hf hc
  go_simp
  refine Calls.mono (col17_calls 1 (by decide) (by decide) wz) ?_
  intro e w1 hend
  obtain ⟨A1,c1,e1,ht,hq⟩:=TermEnd.out hend
  have e2:e=.returned (.agg #[.int .u8 99,.int .i64 1,.string ⟨#[]⟩,.slice A1 0 c1]):=e1
  subst e2
  exact hK _ _ hq (fun _=>⟨A1,c1,rfl,ht⟩)
 refine calm_fixA rfl rfl ?_
 apply Exists.intro
 refine ⟨fun a wz hc hk hf K hK=>?_,?_⟩
 ·have hb:Below z1.heap.size z1 wz:=hc rfl
  obtain ⟨v66,h66,S66⟩:=held_at hf 0 rfl (by kernel_rfl)
  have h65:=held_isV hf 1 rfl (by kernel_rfl)
  clear hk hf hc
  obtain ⟨A66,p66,rfl,s66⟩:=S66 rfl
  have hs:=norm_print_calls (t:=colT15 1) s66 sm17_c
  rw [EC.out] at hs
  go_simp
  refine Calls.mono (hs) ?_
  rintro e w1 ⟨rfl,hq⟩
  exact hK _ _ hq rfl
 refine calm_fixA rfl rfl ?_
 apply Exists.intro
 refine ⟨fun a wz hc hk hf K hK=>?_,?_⟩
 ·have h67:=held_isV hf 0 rfl (by kernel_rfl)
  have h65:=held_isV hf 2 rfl (by kernel_rfl)
  clear hk hf hc
  go_simp
  exact hK _ _ (Below.refl _ _) rfl
 refine calm_fixA rfl rfl ?_
 apply Exists.intro
 refine ⟨fun a wz hc hk hf K hK=>?_,?_⟩
 ·have h65:=held_isV hf 3 rfl (by kernel_rfl)
  have h68:=held_isV hf 0 rfl (by kernel_rfl)
  clear hk hf hc
  go_simp
  exact hK _ _ (Below.refl _ _) rfl
 refine calm_fixA rfl rfl ?_
 apply Exists.intro
 refine ⟨fun a wz hc hk hf K hK=>?_,?_⟩
 ·have h69:=held_isV hf 0 rfl (by kernel_rfl)
  clear hk hf hc
  go_simp
  exact hK _ _ (Below.refl _ _) rfl
 refine calm_nil ?_
 refine ⟨keeps_none,?_⟩
 intro z2 hc
 simp only [lexL,calmEnd]
 rintro _ rfl _ rfl _ rfl _ rfl _ rfl _ rfl _ rfl _ rfl _ rfl _ rfl _ rfl _ rfl v30 S30 _ rfl _ rfl v33 S33 _ rfl _ rfl _ rfl v37 S37 v38 S38 _ rfl _ rfl _ rfl _ rfl v43 S43 v44 S44 _ rfl _ rfl _ rfl _ rfl _ rfl v50 S50 v51 S51 v52 S52 _ rfl _ rfl _ rfl _ rfl _ rfl _ rfl v59 S59 v60 S60 v61 S61 _ rfl _ rfl _ rfl _ rfl v66 S66 _ rfl _ rfl _ rfl _ rfl
 have hq:Below z1.heap.size z1 z2:=hc rfl
 have HB4:=Lib.hid (HB3.out.trans (hq.mono HB3.out.size))
 clear hc hq S30 S33 S37 S38 S43 S44 S50 S51 S52 S59 S60 S61 S66
 simp only [Act.put,List.setIfInBounds_toArray,List.set_cons_zero,List.set_cons_succ]
 go_wp2
 go_ret
 exact ⟨rfl,HB4.out⟩
end Go.Proofs.Ytnkhkkdmjabhnaa
