/- Layer 16's laws: the document's examples. -/
import Derived.Test.YtegpikfgajoopaaGZCalm
import Derived.Test.YtegpikfgajoopaaGZTermsOwn
import Derived.Test.YtegpikfgajoopaaGZKindsLaws
import Derived.Test.YtegpikfgajoopaaGZSliceKit
namespace Go.Proofs.Ytegpikfgajoopaa
open Go Go.RowKit
def leafT16 (op:Int):Trm:=.mk op 0 noC []
theorem leaf_in (w:World)(op:Int)(h1:0≤op)(h2:op≤255):TermIn w (.agg #[.int .u8 op,.int .i64 0,.string ⟨#[]⟩,.slice none 0 0]) (leafT16 op) :=
 ⟨_,rfl,⟨h1,h2,by show (-9223372036854775808:Int)≤0;decide,by show (0:Int)≤9223372036854775807;decide⟩,KidsIn.nil_ _ _ _⟩
def longT:Nat→Trm
 | 0=>colT15 1
 | k+1=>oneT15 33 (longT k)
theorem longT_ok:∀ k,okT (longT k)
 | 0=>⟨by show (0:Int)≤99;decide,by show (99:Int)≤255;decide,by show (-9223372036854775808:Int)≤1;decide,by show (1:Int)≤9223372036854775807;decide⟩
 | _+1=>⟨by show (0:Int)≤33;decide,by show (33:Int)≤255;decide,by show (-9223372036854775808:Int)≤0;decide,by show (0:Int)≤9223372036854775807;decide⟩
def LongAt (w:World)(O:Nat)(k:Nat):Prop:=∃ A cap,TrmBox w O (longT k).op (longT k).col (longT k).cell (.slice A (longT k).kids.length cap)∧KidsQ (RowOff (.slice (some ⟨O,0,none⟩) 1 1)) w (.slice A (longT k).kids.length cap) (longT k).kids
theorem RowOff.nil16 (v:Value)(A:Option Addr)(c:Nat):RowOff v (.slice A 0 c):=fun A' n c' k e h0=>by
 injection e with _ h2
 omega
theorem longT_in {Q:Value→Prop}{w:World}{k:Nat}{A:Option Addr}{cap:Nat}(h:KidsQ Q w (.slice A (longT k).kids.length cap) (longT k).kids):TermQ Q w (.agg #[.int .u8 (longT k).op,.int .i64 (longT k).col,.string (longT k).cell,.slice A (longT k).kids.length cap]) (longT k) :=
 ⟨_,rfl,longT_ok k,h⟩
theorem TermQ.any16 {Q:Value→Prop}{w:World}{v:Value}{t:Trm}(h:TermQ Q w v t):TermIn w v t:=by
 obtain ⟨kv,e,ho,hk⟩:=h
 exact ⟨kv,e,ho,hk.any⟩
theorem TermQ.off16 {Q:Value→Prop}{w w':World}{v u:Value}{t:Trm}(h:TermQ Q w u t)(hq:∀ x,Q x→RowOff v x)(hg:w.grownBy w' v.ownBlock):TermQ Q w' u t:=by
 obtain ⟨kv,e,ho,hk⟩:=h
 exact ⟨kv,e,ho,hk.off hq hg⟩
theorem one_built16 {Q:Value→Prop}{w:World}(T:TypeId)(op:Int)(h1:0≤op)(h2:op≤255){a:Trm}{o c:Int}{b:ByteArray}{kv:Value}(ha:TermQ Q w (.agg #[.int .u8 o,.int .i64 c,.string b,kv]) a)(hQ:Q (.slice (some ⟨w.heap.size,0,none⟩) 1 1)) :
  TermQ Q (w.alloc (.cells #[.int .u8 o,.int .i64 c,.string b,kv] T)) (.agg #[.int .u8 op,.int .i64 0,.string ⟨#[]⟩,.slice (some ⟨w.heap.size,0,none⟩) 1 1]) (oneT15 op a):=by
 obtain ⟨kv',e,ho,hk⟩:=ha
 simp only [trmA,Value.agg.injEq,Array.mk.injEq,List.cons.injEq,Value.int.injEq,Value.string.injEq,true_and,and_true] at e
 obtain ⟨rfl,rfl,rfl,rfl⟩:=e
 refine ⟨_,rfl,⟨h1,h2,by show (-9223372036854775808:Int)≤0;decide,by show (0:Int)≤9223372036854775807;decide⟩,?_⟩
 exact kids_litQ T [(kv,a)] (fun t ht=>by rw [List.mem_singleton.1 ht];exact ⟨ho,hk⟩) (by show 1≤1000;decide) rfl rfl rfl _ rfl hQ
theorem longT_next {w:World}{O:Nat}{k:Nat}{A:Option Addr}{cap:Nat}(h1:TrmBox w O 33 0 ⟨#[]⟩ (.slice A 1 cap))(h2:TermQ (RowOff (.slice (some ⟨O,0,none⟩) 1 1)) w (.agg #[.int .u8 33,.int .i64 0,.string ⟨#[]⟩,.slice A 1 cap]) (oneT15 33 (longT k))):LongAt w O (k+1):=by
 obtain ⟨kv,e,_,hk⟩:=h2
 simp only [trmA,Value.agg.injEq,Array.mk.injEq,List.cons.injEq,and_true] at e
 obtain ⟨_,_,_,rfl⟩:=e
 exact ⟨A,cap,h1,hk⟩
theorem longT_made {w w1:World}(T:TypeId){O k:Nat}{o c:Int}{b:ByteArray}{kv:Value}(hlo:O < w.heap.size)(hsz:w1.heap.size=w.heap.size)(h1:TrmBox w1 O 33 0 ⟨#[]⟩ (.slice (some ⟨w.heap.size,0,none⟩) 1 1))(h2:TermQ (RowOff (.slice (some ⟨O,0,none⟩) 1 1)) w1 (.agg #[.int .u8 o,.int .i64 c,.string b,kv]) (longT k)) :
  LongAt (w1.alloc (.cells #[.int .u8 o,.int .i64 c,.string b,kv] T)) O (k+1):=by
 have h3:=one_built16 T 33 (by decide) (by decide) h2 (RowOff.of_fresh (B:=w1.heap.size) (fun q hq=>by simp only [Value.ownBlock,Option.some.injEq] at hq;omega) fun q hq=>by simp only [Value.ownBlock,Option.some.injEq] at hq;omega)
 rw [hsz] at h3
 exact longT_next (h1.later (Below.alloc (.refl _ _) (Nat.le_refl _) _)) h3
set_option maxHeartbeats 4000000 in
set_option maxRecDepth 100000 in
theorem awake16_calls:Gives Try.prog 8 #[] (.bool true):=by
 intro w
 obtain ⟨hb,hB⟩:=start w
 clear hB
 go_enter Try.func8,Try.ntmps8
 go_wp2_with fail
 have hq:Below w.heap.size w (w.alloc (.cells #[.int .u8 105,.bool false,.int .u8 98,.bool false] 45)):=Below.alloc (.refl _ _) (Nat.le_refl _) _
 have HC:=Lib.hid (lit_cols w 45 [(105,false),(98,false)] (by show 2≤1000;decide))
 dsimp only [colsV,colV,List.flatMap,List.map,List.flatten,List.append,List.length] at HC
 replace hb:=hb.trans (hq.mono hb.size)
 clear hq
 generalize World.alloc w _=w1 at *
 have HBW:=Lib.hid hb
 have HC0:=HC
 clear hb
 have hb:Below w1.heap.size w1 w1:=.refl _ _
 go_wp2_with fail
 refine Calls.mono ((int_calls 3 (by decide) (by decide)) w1) ?_
 rintro e w2 ⟨rfl,hq⟩
 replace HC:=Lib.hid (ColsIn.kept HC.out hq)
 replace hb:=hb.trans (hq.mono hb.size)
 clear hq
 go_wp2_with fail
 have hq:Below w2.heap.size w2 (w2.alloc (.cells #[.int .u8 107,.int .i64 0,.string (cellInt 3),.slice none 0 0] 24)):=Below.alloc (.refl _ _) (Nat.le_refl _) _
 have HBN:=Lib.hid (trmbox_lit w2 24 107 0 (cellInt 3) (.slice none 0 0))
 replace HC:=Lib.hid (ColsIn.kept HC.out hq)
 replace hb:=hb.trans (hq.mono hb.size)
 clear hq
 generalize World.alloc w2 _=w3 at *
 go_wp2_with fail
 have HB:=Lib.hid hb
 clear hb
 refine wp_region_calm (offC w3) (fun _=>false) (fun _=>false) anyE false (by kernel_rfl) (by kernel_rfl) (by kernel_rfl) (by kernel_rfl) (by intro m hm;revert hm;simp;try omega) (offC_stable _) (offC_start _) ?_
 refine calm_varA (TrmP (colT15 0) 99 0 ⟨#[]⟩ 0) rfl rfl TrmP.kept (fun a wz hc hk hf K hK=>?_) ?_
 ·have hb:Below w3.heap.size w3 wz:=hc rfl
  clear hk hf hc
  go_simp
  refine Calls.mono (col16_calls 0 (by decide) (by decide) wz) ?_
  intro e w1 hend
  obtain ⟨A1,c1,e1,ht,hq⟩:=TermEnd.out hend
  have e2:e=.returned (.agg #[.int .u8 99,.int .i64 0,.string ⟨#[]⟩,.slice A1 0 c1]):=e1
  subst e2
  exact hK _ _ hq (fun _=>⟨A1,c1,rfl,ht⟩)
 refine calm_fixA rfl rfl ?_
 apply Exists.intro
 refine ⟨fun a wz hc hk hf K hK=>?_,?_⟩
 ·have hb:Below w3.heap.size w3 wz:=hc rfl
  have h2:=hk 2 (by kernel_rfl)
  clear hk hf hc
  obtain ⟨y0,y1,y2,y3,_⟩:=(HBN.out.later hb).cells
  go_simp
  exact hK _ _ (Below.refl _ _) rfl
 refine calm_varA (TrmP (twoT15 60 (colT15 0) (constT (cellInt 3))) 60 0 ⟨#[]⟩ 2) rfl rfl TrmP.kept (fun a wz hc hk hf K hK=>?_) ?_
 ·have hb:Below w3.heap.size w3 wz:=hc rfl
  obtain ⟨v25,h25,S25⟩:=held_at hf 1 rfl (by kernel_rfl)
  have h26:=held_isV hf 0 rfl (by kernel_rfl)
  clear hk hf hc
  obtain ⟨A25,p25,rfl,s25⟩:=S25 rfl
  go_simp
  refine Calls.mono (two16_calls 60 (by decide) (by decide) s25 (constT_in _ (cellInt 3))) ?_
  intro e w1 hend
  obtain ⟨A1,c1,e1,ht,hq⟩:=TermEnd.out hend
  have e2:e=.returned (.agg #[.int .u8 60,.int .i64 0,.string ⟨#[]⟩,.slice A1 2 c1]):=e1
  subst e2
  exact hK _ _ hq (fun _=>⟨A1,c1,rfl,ht⟩)
 refine calm_fixA rfl rfl ?_
 apply Exists.intro
 refine ⟨fun a wz hc hk hf K hK=>?_,?_⟩
 ·have h1:=hk 1 (by kernel_rfl)
  clear hk hf hc
  go_simp
  exact hK _ _ (Below.refl _ _) rfl
 refine calm_fixA rfl rfl ?_
 apply Exists.intro
 refine ⟨fun a wz hc hk hf K hK=>?_,?_⟩
 ·have hb:Below w3.heap.size w3 wz:=hc rfl
  obtain ⟨v27,h27,S27⟩:=held_at hf 1 rfl (by kernel_rfl)
  have h28:=held_isV hf 0 rfl (by kernel_rfl)
  clear hk hf hc
  obtain ⟨A27,p27,rfl,s27⟩:=S27 rfl
  have hs:=kinds_of_calls (cols:=[(105,false),(98,false)]) (twoT15 60 (colT15 0) (constT (cellInt 3))) (by decide +kernel) s27 (HC.out.kept hb)
  rw [show kindK [(105,false),(98,false)] (twoT15 60 (colT15 0) (constT (cellInt 3)))=(98,0) from by decide +kernel] at hs
  go_simp
  refine Calls.mono (hs) ?_
  rintro e w1 ⟨rfl,hq⟩
  exact hK _ _ hq rfl
 refine calm_fixA rfl rfl ?_
 apply Exists.intro
 refine ⟨fun a wz hc hk hf K hK=>?_,?_⟩
 ·have h29:=held_isV hf 0 rfl (by kernel_rfl)
  clear hk hf hc
  go_simp
  exact hK _ _ (Below.refl _ _) rfl
 refine calm_fixA rfl rfl ?_
 apply Exists.intro
 refine ⟨fun a wz hc hk hf K hK=>?_,?_⟩
 ·have h24:=held_isV hf 0 rfl (by kernel_rfl)
  clear hk hf hc
  go_simp
  exact hK _ _ (Below.refl _ _) rfl
 refine calm_fixA rfl rfl ?_
 apply Exists.intro
 refine ⟨fun a wz hc hk hf K hK=>?_,?_⟩
 ·have h24:=held_isV hf 1 rfl (by kernel_rfl)
  clear hk hf hc
  go_simp
  exact hK _ _ (Below.refl _ _) rfl
 refine calm_fixA rfl rfl ?_
 apply Exists.intro
 refine ⟨fun a wz hc hk hf K hK=>?_,?_⟩
 ·have h30:=held_isV hf 1 rfl (by kernel_rfl)
  clear hk hf hc
  go_simp
  exact hK _ _ (Below.refl _ _) rfl
 refine calm_fixA rfl rfl ?_
 apply Exists.intro
 refine ⟨fun a wz hc hk hf K hK=>?_,?_⟩
 ·have h31:=held_isV hf 1 rfl (by kernel_rfl)
  clear hk hf hc
  go_simp
  exact hK _ _ (Below.refl _ _) rfl
 refine calm_nil ?_
 refine ⟨keeps_none,?_⟩
 intro w4 hc
 simp only [lexL,calmEnd]
 rintro v25 S25 _ rfl v27 S27 _ rfl _ rfl _ rfl _ rfl _ rfl _ rfl _ rfl
 have hq:Below w3.heap.size w3 w4:=hc rfl
 have hb:=HB.out
 clear hc HB S25 S27
 simp only [Act.put,List.setIfInBounds_toArray,List.set_cons_zero,List.set_cons_succ]
 replace HC:=Lib.hid (ColsIn.kept HC.out hq)
 replace HBN:=Lib.hid (HBN.out.later hq)
 replace hb:=hb.trans (hq.mono hb.size)
 clear hq
 go_wp2_with fail
 refine Calls.mono (col16_calls 0 (by decide) (by decide) w4) ?_
 intro e w5 hend
 obtain ⟨Aa,ca,e1,ht,hq⟩:=TermEnd.out hend
 have e2:e=.returned (.agg #[.int .u8 99,.int .i64 0,.string ⟨#[]⟩,.slice Aa 0 ca]):=e1
 subst e2
 have Ha:Hid (TermIn w5 (.agg #[.int .u8 99,.int .i64 0,.string ⟨#[]⟩,.slice Aa 0 ca]) (colT15 0)):=ht
 clear hend e1 ht
 replace HC:=Lib.hid (ColsIn.kept HC.out hq)
 replace HBN:=Lib.hid (HBN.out.later hq)
 replace hb:=hb.trans (hq.mono hb.size)
 clear hq
 go_wp2_with fail
 refine Calls.mono (col16_calls 1 (by decide) (by decide) w5) ?_
 intro e w6 hend
 obtain ⟨Ab,cb,e1,ht,hq⟩:=TermEnd.out hend
 have e2:e=.returned (.agg #[.int .u8 99,.int .i64 1,.string ⟨#[]⟩,.slice Ab 0 cb]):=e1
 subst e2
 have Hb:Hid (TermIn w6 (.agg #[.int .u8 99,.int .i64 1,.string ⟨#[]⟩,.slice Ab 0 cb]) (colT15 1)):=ht
 clear hend e1 ht
 replace HC:=Lib.hid (ColsIn.kept HC.out hq)
 replace HBN:=Lib.hid (HBN.out.later hq)
 replace Ha:=Lib.hid (Ha.out.kept hq)
 replace hb:=hb.trans (hq.mono hb.size)
 clear hq
 go_wp2_with fail
 refine Calls.mono (two16_calls 60 (by decide) (by decide) Ha.out Hb.out) ?_
 intro e w7 hend
 obtain ⟨An,cn,e1,ht,hq⟩:=TermEnd.out hend
 have e2:e=.returned (.agg #[.int .u8 60,.int .i64 0,.string ⟨#[]⟩,.slice An 2 cn]):=e1
 subst e2
 have Hn:Hid (TermIn w7 (.agg #[.int .u8 60,.int .i64 0,.string ⟨#[]⟩,.slice An 2 cn]) (twoT15 60 (colT15 0) (colT15 1))):=ht
 clear hend e1 ht
 replace HC:=Lib.hid (ColsIn.kept HC.out hq)
 replace HBN:=Lib.hid (HBN.out.later hq)
 replace Ha:=Lib.hid (Ha.out.kept hq)
 replace Hb:=Lib.hid (Hb.out.kept hq)
 replace hb:=hb.trans (hq.mono hb.size)
 clear hq
 have hs:=kinds_of_calls (cols:=[(105,false),(98,false)]) (twoT15 60 (colT15 0) (colT15 1)) (by decide +kernel) Hn.out HC.out
 rw [show kindK [(105,false),(98,false)] (twoT15 60 (colT15 0) (colT15 1))=(0,5) from by decide +kernel] at hs
 go_wp2_with fail
 refine Calls.mono (hs) ?_
 rintro e w8 ⟨rfl,hq⟩
 replace HC:=Lib.hid (ColsIn.kept HC.out hq)
 replace HBN:=Lib.hid (HBN.out.later hq)
 replace Ha:=Lib.hid (Ha.out.kept hq)
 replace Hb:=Lib.hid (Hb.out.kept hq)
 replace Hn:=Lib.hid (Hn.out.kept hq)
 replace hb:=hb.trans (hq.mono hb.size)
 clear hq
 clear hs
 clear Ha Hb Hn
 go_wp2_with fail
 refine Calls.mono (col16_calls 2 (by decide) (by decide) w8) ?_
 intro e w9 hend
 obtain ⟨Aa,ca,e1,ht,hq⟩:=TermEnd.out hend
 have e2:e=.returned (.agg #[.int .u8 99,.int .i64 2,.string ⟨#[]⟩,.slice Aa 0 ca]):=e1
 subst e2
 have Ha:Hid (TermIn w9 (.agg #[.int .u8 99,.int .i64 2,.string ⟨#[]⟩,.slice Aa 0 ca]) (colT15 2)):=ht
 clear hend e1 ht
 replace HC:=Lib.hid (ColsIn.kept HC.out hq)
 replace HBN:=Lib.hid (HBN.out.later hq)
 replace hb:=hb.trans (hq.mono hb.size)
 clear hq
 have hs:=kinds_of_calls (cols:=[(105,false),(98,false)]) (colT15 2) (by decide +kernel) Ha.out HC.out
 rw [show kindK [(105,false),(98,false)] (colT15 2)=(0,1) from by decide +kernel] at hs
 go_wp2_with fail
 refine Calls.mono (hs) ?_
 rintro e w10 ⟨rfl,hq⟩
 replace HC:=Lib.hid (ColsIn.kept HC.out hq)
 replace HBN:=Lib.hid (HBN.out.later hq)
 replace Ha:=Lib.hid (Ha.out.kept hq)
 replace hb:=hb.trans (hq.mono hb.size)
 clear hq
 clear hs
 clear Ha
 have hs:=kinds_of_calls (cols:=[(105,false),(98,false)]) (leafT16 107) (by decide +kernel) (leaf_in w10 107 (by decide) (by decide)) HC.out
 rw [show kindK [(105,false),(98,false)] (leafT16 107)=(0,0) from by decide +kernel] at hs
 go_wp2_with fail
 refine Calls.mono (hs) ?_
 rintro e w11 ⟨rfl,hq⟩
 replace HC:=Lib.hid (ColsIn.kept HC.out hq)
 replace HBN:=Lib.hid (HBN.out.later hq)
 replace hb:=hb.trans (hq.mono hb.size)
 clear hq
 clear hs
 obtain ⟨y0,y1,y2,y3,_⟩:=HBN.out.cells
 go_wp2_with fail
 have hq:Below w11.heap.size w11 (w11.alloc (.cells #[.int .u8 107,.int .i64 0,.string (cellInt 3),.slice none 0 0] 24)):=Below.alloc (.refl _ _) (Nat.le_refl _) _
 clear y0 y1 y2 y3
 have HT9:=Lib.hid (one_built 24 33 (by decide) (by decide) (constT_in w11 (cellInt 3)))
 replace HC:=Lib.hid (ColsIn.kept HC.out hq)
 replace HBN:=Lib.hid (HBN.out.later hq)
 replace hb:=hb.trans (hq.mono hb.size)
 clear hq
 generalize World.alloc w11 _=w12 at *
 have hs:=kinds_of_calls (cols:=[(105,false),(98,false)]) (oneT15 33 (constT (cellInt 3))) (by decide +kernel) HT9.out HC.out
 rw [show kindK [(105,false),(98,false)] (oneT15 33 (constT (cellInt 3)))=(0,5) from by decide +kernel] at hs
 go_wp2_with fail
 refine Calls.mono (hs) ?_
 rintro e w13 ⟨rfl,hq⟩
 replace HC:=Lib.hid (ColsIn.kept HC.out hq)
 replace HBN:=Lib.hid (HBN.out.later hq)
 replace hb:=hb.trans (hq.mono hb.size)
 clear hq
 clear hs
 clear HT9 HBN
 have hs:=kinds_of_calls (cols:=[(105,false),(98,false)]) (leafT16 38) (by decide +kernel) (leaf_in w13 38 (by decide) (by decide)) HC.out
 rw [show kindK [(105,false),(98,false)] (leafT16 38)=(0,1) from by decide +kernel] at hs
 go_wp2_with fail
 refine Calls.mono (hs) ?_
 rintro e w14 ⟨rfl,hq⟩
 replace HC:=Lib.hid (ColsIn.kept HC.out hq)
 replace hb:=hb.trans (hq.mono hb.size)
 clear hq
 clear hs
 go_wp2_with fail
 refine Calls.mono (col16_calls 1 (by decide) (by decide) w14) ?_
 intro e w15 hend
 obtain ⟨Az,cz,e1,ht,hq⟩:=TermEnd.out hend
 have e2:e=.returned (.agg #[.int .u8 99,.int .i64 1,.string ⟨#[]⟩,.slice Az 0 cz]):=e1
 subst e2
 have Hz:Hid (TermIn w15 (.agg #[.int .u8 99,.int .i64 1,.string ⟨#[]⟩,.slice Az 0 cz]) (colT15 1)):=ht
 clear hend e1 ht
 replace HC:=Lib.hid (ColsIn.kept HC.out hq)
 replace hb:=hb.trans (hq.mono hb.size)
 clear hq
 go_wp2_with fail
 have hq:Below w15.heap.size w15 (w15.alloc (.cells #[.int .u8 99,.int .i64 1,.string ⟨#[]⟩,.slice Az 0 cz] 24)):=Below.alloc (.refl _ _) (Nat.le_refl _) _
 have HBX:=Lib.hid (trmbox_lit w15 24 99 1 ⟨#[]⟩ (.slice Az 0 cz))
 have hle:w1.heap.size≤w15.heap.size:=hb.size
 replace HC:=Lib.hid (ColsIn.kept HC.out hq)
 replace Hz:=Lib.hid (Hz.out.kept hq)
 replace hb:=hb.trans (hq.mono hb.size)
 clear hq
 generalize World.alloc w15 _=w16 at *
 generalize w15.heap.size=O at *
 have HLE:=Lib.hid hle
 clear hle Hz HC
 have HST:Hid (LongAt w16 O 0):=⟨Az,cz,HBX.out,KidsQ.nil_ _ _ _ _ (RowOff.nil16 _ _ _)⟩
 have HB0:=Lib.hid hb
 clear hb HBX
 go_loopw [16] (fun i wr=>∃ k:Nat,k≤30∧i=.int .i64 k∧Hid (LongAt wr O k)∧Below w1.heap.size w1 wr) (fun i _=>30-(intOf i).toNat)
 case atStart=>exact ⟨0,Nat.zero_le _,rfl,HST,HB0.out⟩
 case round =>
  clear HST HB0
  obtain ⟨k,hk,rfl,HST,hb⟩:=hrel
  by_cases hlt:k < 30
  ·have d1:decide ((k:Int) < 30)=true:=decide_eq_true (by omega)
   obtain ⟨A,cap,hx,hkk⟩:=HST.out
   have HT:=Lib.hid (longT_in hkk)
   have hlo:=hx.cells.2.2.2.2
   have hg:=setCells_grown O [.int .u8 33,.int .i64 0,.string ⟨#[]⟩,.slice (some ⟨wr.heap.size,0,none⟩) 1 1] 0 wr
   simp only [World.setCells,Nat.zero_add,Nat.reduceAdd] at hg
   have hts:=HT.out.off16 (v:=.slice (some ⟨O,0,none⟩) 1 1) (fun u hu=>hu) hg
   have hps:=hx.putAll 33 0 ⟨#[]⟩ (.slice (some ⟨wr.heap.size,0,none⟩) 1 1)
   have hbs:=(((hb.setCell (p:=⟨O,0,none⟩) HLE.out (.int .u8 33)).setCell (p:=⟨O,1,none⟩) HLE.out (.int .i64 0)).setCell (p:=⟨O,2,none⟩) HLE.out (.string ⟨#[]⟩)).setCell (p:=⟨O,3,none⟩) HLE.out (.slice (some ⟨wr.heap.size,0,none⟩) 1 1)
   have hsz:((((wr.setCell ⟨O,0,none⟩ (.int .u8 33)).setCell ⟨O,1,none⟩ (.int .i64 0)).setCell ⟨O,2,none⟩ (.string ⟨#[]⟩)).setCell ⟨O,3,none⟩ (.slice (some ⟨wr.heap.size,0,none⟩) 1 1)).heap.size=wr.heap.size:=by simp
   have HN:=Lib.hid (longT_made 24 hlo hsz hps hts)
   have hbe:=hbs.alloc hbs.size (.cells #[.int .u8 (longT k).op,.int .i64 (longT k).col,.string (longT k).cell,.slice A (longT k).kids.length cap] 24)
   have HBE:=Lib.hid hbe
   obtain ⟨y0,y1,y2,y3,_⟩:=hx.cells
   obtain ⟨f0,f1,f2,f3⟩:=hx.free
   clear hg hts hps hbs hsz hbe hx hkk HT HST hb
   generalize (longT k).kids.length=nk at *
   generalize (longT k).op=ok1 at *
   generalize (longT k).col=ok2 at *
   generalize (longT k).cell=ok3 at *
   go_wp2
   go_roundw
   case rel=>exact ⟨k+1,by omega,by go_num,HN,HBE.out⟩
   case measure=>simp [intOf];omega
  ·obtain rfl:k=30:=by omega
   obtain ⟨A,cap,hx,hkk⟩:=HST.out
   have ht:=longT_in hkk
   have HC:=Lib.hid (HC0.out.kept hb)
   have hs:=kinds_of_calls (cols:=[(105,false),(98,false)]) (longT 30) (by decide +kernel) (ht.any16) HC.out
   rw [show kindK [(105,false),(98,false)] (longT 30)=(0,8) from by decide +kernel] at hs
   have HX:=Lib.hid hx
   clear hx hkk ht HST hlt hk
   generalize (longT 30).kids.length=nk at *
   generalize (longT 30).op=ok1 at *
   generalize (longT 30).col=ok2 at *
   generalize (longT 30).cell=ok3 at *
   have HSX:=Lib.hid hs
   clear hs
   obtain ⟨y0,y1,y2,y3,_⟩:=HX.out.cells
   go_wp2_with fail
   clear y0 y1 y2 y3
   refine Calls.mono (HSX.out) ?_
   rintro e w41 ⟨rfl,hq⟩
   replace HC:=Lib.hid (ColsIn.kept HC.out hq)
   replace hb:=hb.trans (hq.mono hb.size)
   clear hq
   clear HSX HX
   go_wp2_with fail
   refine Calls.mono (col16_calls 1 (by decide) (by decide) w41) ?_
   intro e w42 hend
   obtain ⟨Aa,ca,e1,ht,hq⟩:=TermEnd.out hend
   have e2:e=.returned (.agg #[.int .u8 99,.int .i64 1,.string ⟨#[]⟩,.slice Aa 0 ca]):=e1
   subst e2
   have Ha:Hid (TermIn w42 (.agg #[.int .u8 99,.int .i64 1,.string ⟨#[]⟩,.slice Aa 0 ca]) (colT15 1)):=ht
   clear hend e1 ht
   replace HC:=Lib.hid (ColsIn.kept HC.out hq)
   replace hb:=hb.trans (hq.mono hb.size)
   clear hq
   have hs:=kinds_where_calls (cols:=[(105,false),(98,false)]) (colT15 1) (by decide +kernel) Ha.out HC.out
   rw [show whereK [(105,false),(98,false)] (colT15 1)=0 from by decide +kernel] at hs
   go_wp2_with fail
   refine Calls.mono (hs) ?_
   rintro e w43 ⟨rfl,hq⟩
   replace HC:=Lib.hid (ColsIn.kept HC.out hq)
   replace Ha:=Lib.hid (Ha.out.kept hq)
   replace hb:=hb.trans (hq.mono hb.size)
   clear hq
   clear hs
   clear Ha
   go_wp2_with fail
   refine Calls.mono (col16_calls 0 (by decide) (by decide) w43) ?_
   intro e w44 hend
   obtain ⟨Aa,ca,e1,ht,hq⟩:=TermEnd.out hend
   have e2:e=.returned (.agg #[.int .u8 99,.int .i64 0,.string ⟨#[]⟩,.slice Aa 0 ca]):=e1
   subst e2
   have Ha:Hid (TermIn w44 (.agg #[.int .u8 99,.int .i64 0,.string ⟨#[]⟩,.slice Aa 0 ca]) (colT15 0)):=ht
   clear hend e1 ht
   replace HC:=Lib.hid (ColsIn.kept HC.out hq)
   replace hb:=hb.trans (hq.mono hb.size)
   clear hq
   have hs:=kinds_where_calls (cols:=[(105,false),(98,false)]) (colT15 0) (by decide +kernel) Ha.out HC.out
   rw [show whereK [(105,false),(98,false)] (colT15 0)=5 from by decide +kernel] at hs
   go_wp2_with fail
   refine Calls.mono (hs) ?_
   rintro e w45 ⟨rfl,hq⟩
   replace HC:=Lib.hid (ColsIn.kept HC.out hq)
   replace Ha:=Lib.hid (Ha.out.kept hq)
   replace hb:=hb.trans (hq.mono hb.size)
   clear hq
   clear hs
   clear Ha
   have hs:=kinds_where_calls (cols:=[(105,false),(98,false)]) (leafT16 107) (by decide +kernel) (leaf_in w45 107 (by decide) (by decide)) HC.out
   rw [show whereK [(105,false),(98,false)] (leafT16 107)=0 from by decide +kernel] at hs
   go_wp2_with fail
   refine Calls.mono (hs) ?_
   rintro e w46 ⟨rfl,hq⟩
   replace HC:=Lib.hid (ColsIn.kept HC.out hq)
   replace hb:=hb.trans (hq.mono hb.size)
   clear hq
   clear hs
   go_wp2
   go_ret
   exact ⟨rfl,HBW.out.trans (hb.mono HBW.out.size)⟩
end Go.Proofs.Ytegpikfgajoopaa
