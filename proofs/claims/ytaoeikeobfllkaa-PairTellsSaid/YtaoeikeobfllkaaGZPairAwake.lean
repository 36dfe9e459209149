/- Layer 19's laws: the document's examples. -/
import Derived.Test.YtaoeikeobfllkaaGCell
import Derived.Test.YtaoeikeobfllkaaGWeighSmall
import Derived.Test.YtaoeikeobfllkaaGZPairKit
namespace Go.Proofs.Ytaoeikeobfllkaa
open Go Go.RowKit
def rowsL19:List Tm:=[([cellInt 1,⟨#[116,97]⟩],2),([⟨#[]⟩,⟨#[116,98]⟩],1)]
def rowsM19:List Tm:=[([⟨#[116,97]⟩],3),([⟨#[]⟩],1)]
theorem fine_of {n k c:Nat}{x:List Tm}(h:(decide (x.length≤n)&&decide (wtW x≤k)&&x.all fun t=>decide (t.1.length≤c)&&t.1.all fun e=>decide (e.size≤maxLen))=true):Fine n k c x:=by
 simp only [Bool.and_eq_true,decide_eq_true_eq,List.all_eq_true] at h
 exact ⟨h.1.1,h.1.2,fun t ht=>(h.2 t ht).1,fun t ht e he=>(h.2 t ht).2 e he⟩
theorem fineL19:Fine 2 3 2 rowsL19:=fine_of (by decide +kernel)
theorem fineM19:Fine 2 4 1 rowsM19:=fine_of (by decide +kernel)
theorem joined19:joinS rowsL19 rowsM19 [(1,0)]=[([cellInt 1,⟨#[116,97]⟩,⟨#[116,97]⟩],6)]:=by decide +kernel
set_option maxHeartbeats 8000000 in
set_option maxRecDepth 100000 in
theorem awake19_calls:Gives Try.prog 8 #[] (.bool true):=by
 intro w
 obtain ⟨hb,hB⟩:=start w
 clear hB
 go_enter Try.func8,Try.ntmps8
 go_wp2_with fail
 refine Calls.mono ((int_calls 1 (by decide) (by decide)) w) ?_
 rintro e w1 ⟨rfl,hq⟩
 replace hb:=hb.trans (hq.mono hb.size)
 clear hq
 go_wp2_with fail
 have HZ:Hid (w1.heap.size=w1.heap.size):=Lib.hid rfl
 have hq:Below w1.heap.size w1 (w1.alloc (.cells #[.string (cellInt 1),.string ⟨#[116,97]⟩] 9)):=Below.alloc (.refl _ _) (Nat.le_refl _) _
 have h:=lit_strs w1 9 [(cellInt 1),⟨#[116,97]⟩] (by show 2≤1000;decide)
 rw [HZ.out] at h
 have HR1:Hid (StrsIn (w1.alloc (.cells #[.string (cellInt 1),.string ⟨#[116,97]⟩] 9)) (.slice (some ⟨w1.heap.size,0,none⟩) 2 2) [(cellInt 1),⟨#[116,97]⟩]):=h
 replace HZ:Hid ((w1.alloc (.cells #[.string (cellInt 1),.string ⟨#[116,97]⟩] 9)).heap.size=w1.heap.size+1):=by show _=_;rw [←HZ.out];simp
 clear h
 replace hb:=hb.trans (hq.mono hb.size)
 clear hq
 generalize World.alloc w1 _=w2 at *
 have hq:Below w2.heap.size w2 (w2.alloc (.cells #[.string ⟨#[]⟩,.string ⟨#[116,98]⟩] 9)):=Below.alloc (.refl _ _) (Nat.le_refl _) _
 have h:=lit_strs w2 9 [⟨#[]⟩,⟨#[116,98]⟩] (by show 2≤1000;decide)
 rw [HZ.out] at h
 have HR2:Hid (StrsIn (w2.alloc (.cells #[.string ⟨#[]⟩,.string ⟨#[116,98]⟩] 9)) (.slice (some ⟨w1.heap.size+1,0,none⟩) 2 2) [⟨#[]⟩,⟨#[116,98]⟩]):=h
 replace HZ:Hid ((w2.alloc (.cells #[.string ⟨#[]⟩,.string ⟨#[116,98]⟩] 9)).heap.size=w1.heap.size+1+1):=by show _=_;rw [←HZ.out];simp
 clear h
 replace HR1:=Lib.hid (StrsIn.kept HR1.out hq)
 replace hb:=hb.trans (hq.mono hb.size)
 clear hq
 generalize World.alloc w2 _=w3 at *
 have hq:Below w3.heap.size w3 (w3.alloc (.cells #[.slice (some ⟨w1.heap.size,0,none⟩) 2 2,.int .i64 2,.slice (some ⟨w1.heap.size+1,0,none⟩) 2 2,.int .i64 1] 29)):=Below.alloc (.refl _ _) (Nat.le_refl _) _
 have h:=lit_times w3 29 [((.slice (some ⟨w1.heap.size,0,none⟩) 2 2),2),((.slice (some ⟨w1.heap.size+1,0,none⟩) 2 2),1)] rowsL19 ⟨⟨HR1.out,rfl⟩,⟨HR2.out,rfl⟩,trivial⟩ (by show 2≤1000;decide)
 rw [HZ.out] at h
 have HL:Hid (TimesIn (w3.alloc (.cells #[.slice (some ⟨w1.heap.size,0,none⟩) 2 2,.int .i64 2,.slice (some ⟨w1.heap.size+1,0,none⟩) 2 2,.int .i64 1] 29)) (.slice (some ⟨w1.heap.size+1+1,0,none⟩) 2 2) rowsL19):=h
 replace HZ:Hid ((w3.alloc (.cells #[.slice (some ⟨w1.heap.size,0,none⟩) 2 2,.int .i64 2,.slice (some ⟨w1.heap.size+1,0,none⟩) 2 2,.int .i64 1] 29)).heap.size=w1.heap.size+1+1+1):=by show _=_;rw [←HZ.out];simp
 clear h
 replace HR1:=Lib.hid (StrsIn.kept HR1.out hq)
 replace HR2:=Lib.hid (StrsIn.kept HR2.out hq)
 replace hb:=hb.trans (hq.mono hb.size)
 clear hq
 generalize World.alloc w3 _=w4 at *
 clear HR1 HR2
 have hq:Below w4.heap.size w4 (w4.alloc (.cells #[.string ⟨#[116,97]⟩] 9)):=Below.alloc (.refl _ _) (Nat.le_refl _) _
 have h:=lit_strs w4 9 [⟨#[116,97]⟩] (by show 1≤1000;decide)
 rw [HZ.out] at h
 have HR3:Hid (StrsIn (w4.alloc (.cells #[.string ⟨#[116,97]⟩] 9)) (.slice (some ⟨w1.heap.size+1+1+1,0,none⟩) 1 1) [⟨#[116,97]⟩]):=h
 replace HZ:Hid ((w4.alloc (.cells #[.string ⟨#[116,97]⟩] 9)).heap.size=w1.heap.size+1+1+1+1):=by show _=_;rw [←HZ.out];simp
 clear h
 replace HL:=Lib.hid (HL.out.kept hq)
 replace hb:=hb.trans (hq.mono hb.size)
 clear hq
 generalize World.alloc w4 _=w5 at *
 have hq:Below w5.heap.size w5 (w5.alloc (.cells #[.string ⟨#[]⟩] 9)):=Below.alloc (.refl _ _) (Nat.le_refl _) _
 have h:=lit_strs w5 9 [⟨#[]⟩] (by show 1≤1000;decide)
 rw [HZ.out] at h
 have HR4:Hid (StrsIn (w5.alloc (.cells #[.string ⟨#[]⟩] 9)) (.slice (some ⟨w1.heap.size+1+1+1+1,0,none⟩) 1 1) [⟨#[]⟩]):=h
 replace HZ:Hid ((w5.alloc (.cells #[.string ⟨#[]⟩] 9)).heap.size=w1.heap.size+1+1+1+1+1):=by show _=_;rw [←HZ.out];simp
 clear h
 replace HL:=Lib.hid (HL.out.kept hq)
 replace HR3:=Lib.hid (StrsIn.kept HR3.out hq)
 replace hb:=hb.trans (hq.mono hb.size)
 clear hq
 generalize World.alloc w5 _=w6 at *
 have hq:Below w6.heap.size w6 (w6.alloc (.cells #[.slice (some ⟨w1.heap.size+1+1+1,0,none⟩) 1 1,.int .i64 3,.slice (some ⟨w1.heap.size+1+1+1+1,0,none⟩) 1 1,.int .i64 1] 29)):=Below.alloc (.refl _ _) (Nat.le_refl _) _
 have h:=lit_times w6 29 [((.slice (some ⟨w1.heap.size+1+1+1,0,none⟩) 1 1),3),((.slice (some ⟨w1.heap.size+1+1+1+1,0,none⟩) 1 1),1)] rowsM19 ⟨⟨HR3.out,rfl⟩,⟨HR4.out,rfl⟩,trivial⟩ (by show 2≤1000;decide)
 rw [HZ.out] at h
 have HM:Hid (TimesIn (w6.alloc (.cells #[.slice (some ⟨w1.heap.size+1+1+1,0,none⟩) 1 1,.int .i64 3,.slice (some ⟨w1.heap.size+1+1+1+1,0,none⟩) 1 1,.int .i64 1] 29)) (.slice (some ⟨w1.heap.size+1+1+1+1+1,0,none⟩) 2 2) rowsM19):=h
 replace HZ:Hid ((w6.alloc (.cells #[.slice (some ⟨w1.heap.size+1+1+1,0,none⟩) 1 1,.int .i64 3,.slice (some ⟨w1.heap.size+1+1+1+1,0,none⟩) 1 1,.int .i64 1] 29)).heap.size=w1.heap.size+1+1+1+1+1+1):=by show _=_;rw [←HZ.out];simp
 clear h
 replace HL:=Lib.hid (HL.out.kept hq)
 replace HR3:=Lib.hid (StrsIn.kept HR3.out hq)
 replace HR4:=Lib.hid (StrsIn.kept HR4.out hq)
 replace hb:=hb.trans (hq.mono hb.size)
 clear hq
 generalize World.alloc w6 _=w7 at *
 clear HR3 HR4
 have hq:Below w7.heap.size w7 (w7.alloc (.cells #[.int .i64 1,.int .i64 0] 33)):=Below.alloc (.refl _ _) (Nat.le_refl _) _
 have h:=lit_on w7 33 [(1,0)] (by show 1≤1000;decide)
 rw [HZ.out] at h
 have HO:Hid (OnIn (w7.alloc (.cells #[.int .i64 1,.int .i64 0] 33)) (.slice (some ⟨w1.heap.size+1+1+1+1+1+1,0,none⟩) 1 1) [(1,0)]):=h
 replace HZ:Hid ((w7.alloc (.cells #[.int .i64 1,.int .i64 0] 33)).heap.size=w1.heap.size+1+1+1+1+1+1+1):=by show _=_;rw [←HZ.out];simp
 clear h
 replace HL:=Lib.hid (HL.out.kept hq)
 replace HM:=Lib.hid (HM.out.kept hq)
 replace hb:=hb.trans (hq.mono hb.size)
 clear hq
 generalize World.alloc w7 _=w8 at *
 have hj:=pjoin_calls HL.out HM.out HO.out fineL19 fineM19 (by decide)
 rw [joined19] at hj
 clear HL HM HO HZ
 refine hj.mono ?_
 clear hj
 rintro e w9 ⟨vj,rfl,hT,hq⟩
 replace hb:=hb.trans (hq.mono hb.size)
 clear hq
 obtain ⟨bj,oj,cj,ej⟩:=times_some hT (by decide)
 have ej2:vj=.slice (some ⟨bj,oj,none⟩) 1 cj:=ej
 subst ej2
 clear ej
 obtain ⟨rj,hrj,xj0,xj1⟩:=times_cellAt hT 0 (by decide)
 rw [Nat.zero_mul,Nat.add_zero] at xj0 xj1
 have y1:w9.cell? ⟨bj,oj+1,none⟩=some (.int .i64 6):=xj1
 obtain ⟨Aj,pj,rfl,haj⟩:=one_at hrj
 obtain ⟨bq,oq,rfl,_,hcq⟩:=haj 0 (by decide)
 have y2:w9.cell? ⟨bq,oq+2,none⟩=some (.string ⟨#[116,97]⟩):=by simpa using hcq 2 (by decide)
 have y0:w9.cell? ⟨bj,oj,none⟩=some (.slice (some ⟨bq,oq,none⟩) 3 pj):=xj0
 clear xj0 xj1 haj hcq hrj hT
 go_wp2_with fail
 have HZ:Hid (w9.heap.size=w9.heap.size):=Lib.hid rfl
 clear y0 y1 y2
 have hq:Below w9.heap.size w9 (w9.alloc (.cells #[.string ⟨#[116,97]⟩] 9)):=Below.alloc (.refl _ _) (Nat.le_refl _) _
 have h:=lit_strs w9 9 [⟨#[116,97]⟩] (by show 1≤1000;decide)
 rw [HZ.out] at h
 have HA:Hid (StrsIn (w9.alloc (.cells #[.string ⟨#[116,97]⟩] 9)) (.slice (some ⟨w9.heap.size,0,none⟩) 1 1) [⟨#[116,97]⟩]):=h
 replace HZ:Hid ((w9.alloc (.cells #[.string ⟨#[116,97]⟩] 9)).heap.size=w9.heap.size+1):=by show _=_;rw [←HZ.out];simp
 clear h
 replace hb:=hb.trans (hq.mono hb.size)
 clear hq
 generalize World.alloc w9 _=w10 at *
 have hq:Below w10.heap.size w10 (w10.alloc (.cells #[.string ⟨#[116,97]⟩] 9)):=Below.alloc (.refl _ _) (Nat.le_refl _) _
 have h:=lit_strs w10 9 [⟨#[116,97]⟩] (by show 1≤1000;decide)
 rw [HZ.out] at h
 have HB9:Hid (StrsIn (w10.alloc (.cells #[.string ⟨#[116,97]⟩] 9)) (.slice (some ⟨w9.heap.size+1,0,none⟩) 1 1) [⟨#[116,97]⟩]):=h
 replace HZ:Hid ((w10.alloc (.cells #[.string ⟨#[116,97]⟩] 9)).heap.size=w9.heap.size+1+1):=by show _=_;rw [←HZ.out];simp
 clear h
 replace HA:=Lib.hid (StrsIn.kept HA.out hq)
 replace hb:=hb.trans (hq.mono hb.size)
 clear hq
 generalize World.alloc w10 _=w11 at *
 have hq:Below w11.heap.size w11 (w11.alloc (.cells #[.int .i64 0,.int .i64 0] 33)):=Below.alloc (.refl _ _) (Nat.le_refl _) _
 have h:=lit_on w11 33 [(0,0)] (by show 1≤1000;decide)
 rw [HZ.out] at h
 have HO:Hid (OnIn (w11.alloc (.cells #[.int .i64 0,.int .i64 0] 33)) (.slice (some ⟨w9.heap.size+1+1,0,none⟩) 1 1) [(0,0)]):=h
 replace HZ:Hid ((w11.alloc (.cells #[.int .i64 0,.int .i64 0] 33)).heap.size=w9.heap.size+1+1+1):=by show _=_;rw [←HZ.out];simp
 clear h
 replace HA:=Lib.hid (StrsIn.kept HA.out hq)
 replace HB9:=Lib.hid (StrsIn.kept HB9.out hq)
 replace hb:=hb.trans (hq.mono hb.size)
 clear hq
 generalize World.alloc w11 _=w12 at *
 have hm:=pmeets_calls (w:=w12) (a:=[⟨#[116,97]⟩]) (b:=[⟨#[116,97]⟩]) (on:=[(0,0)]) HA.out HB9.out HO.out
 rw [show meetsB [⟨#[116,97]⟩] [⟨#[116,97]⟩] [(0,0)]=true by decide +kernel] at hm
 clear HA
 clear HB9
 clear HO
 clear HZ
 refine hm.mono ?_
 clear hm
 rintro e w13 ⟨rfl,hq⟩
 replace hb:=hb.trans (hq.mono hb.size)
 clear hq
 go_wp2_with fail
 have HZ:Hid (w13.heap.size=w13.heap.size):=Lib.hid rfl
 skip
 have hq:Below w13.heap.size w13 (w13.alloc (.cells #[.string ⟨#[]⟩] 9)):=Below.alloc (.refl _ _) (Nat.le_refl _) _
 have h:=lit_strs w13 9 [⟨#[]⟩] (by show 1≤1000;decide)
 rw [HZ.out] at h
 have HA:Hid (StrsIn (w13.alloc (.cells #[.string ⟨#[]⟩] 9)) (.slice (some ⟨w13.heap.size,0,none⟩) 1 1) [⟨#[]⟩]):=h
 replace HZ:Hid ((w13.alloc (.cells #[.string ⟨#[]⟩] 9)).heap.size=w13.heap.size+1):=by show _=_;rw [←HZ.out];simp
 clear h
 replace hb:=hb.trans (hq.mono hb.size)
 clear hq
 generalize World.alloc w13 _=w14 at *
 have hq:Below w14.heap.size w14 (w14.alloc (.cells #[.string ⟨#[]⟩] 9)):=Below.alloc (.refl _ _) (Nat.le_refl _) _
 have h:=lit_strs w14 9 [⟨#[]⟩] (by show 1≤1000;decide)
 rw [HZ.out] at h
 have HB9:Hid (StrsIn (w14.alloc (.cells #[.string ⟨#[]⟩] 9)) (.slice (some ⟨w13.heap.size+1,0,none⟩) 1 1) [⟨#[]⟩]):=h
 replace HZ:Hid ((w14.alloc (.cells #[.string ⟨#[]⟩] 9)).heap.size=w13.heap.size+1+1):=by show _=_;rw [←HZ.out];simp
 clear h
 replace HA:=Lib.hid (StrsIn.kept HA.out hq)
 replace hb:=hb.trans (hq.mono hb.size)
 clear hq
 generalize World.alloc w14 _=w15 at *
 have hq:Below w15.heap.size w15 (w15.alloc (.cells #[.int .i64 0,.int .i64 0] 33)):=Below.alloc (.refl _ _) (Nat.le_refl _) _
 have h:=lit_on w15 33 [(0,0)] (by show 1≤1000;decide)
 rw [HZ.out] at h
 have HO:Hid (OnIn (w15.alloc (.cells #[.int .i64 0,.int .i64 0] 33)) (.slice (some ⟨w13.heap.size+1+1,0,none⟩) 1 1) [(0,0)]):=h
 replace HZ:Hid ((w15.alloc (.cells #[.int .i64 0,.int .i64 0] 33)).heap.size=w13.heap.size+1+1+1):=by show _=_;rw [←HZ.out];simp
 clear h
 replace HA:=Lib.hid (StrsIn.kept HA.out hq)
 replace HB9:=Lib.hid (StrsIn.kept HB9.out hq)
 replace hb:=hb.trans (hq.mono hb.size)
 clear hq
 generalize World.alloc w15 _=w16 at *
 have hm:=pmeets_calls (w:=w16) (a:=[⟨#[]⟩]) (b:=[⟨#[]⟩]) (on:=[(0,0)]) HA.out HB9.out HO.out
 rw [show meetsB [⟨#[]⟩] [⟨#[]⟩] [(0,0)]=false by decide +kernel] at hm
 clear HA
 clear HB9
 clear HO
 clear HZ
 refine hm.mono ?_
 clear hm
 rintro e w17 ⟨rfl,hq⟩
 replace hb:=hb.trans (hq.mono hb.size)
 clear hq
 go_wp2_with fail
 have HZ:Hid (w17.heap.size=w17.heap.size):=Lib.hid rfl
 skip
 have hq:Below w17.heap.size w17 (w17.alloc (.cells #[.int .i64 0,.int .i64 0] 33)):=Below.alloc (.refl _ _) (Nat.le_refl _) _
 have h:=lit_on w17 33 [(0,0)] (by show 1≤1000;decide)
 rw [HZ.out] at h
 have HO:Hid (OnIn (w17.alloc (.cells #[.int .i64 0,.int .i64 0] 33)) (.slice (some ⟨w17.heap.size,0,none⟩) 1 1) [(0,0)]):=h
 replace HZ:Hid ((w17.alloc (.cells #[.int .i64 0,.int .i64 0] 33)).heap.size=w17.heap.size+1):=by show _=_;rw [←HZ.out];simp
 clear h
 replace hb:=hb.trans (hq.mono hb.size)
 clear hq
 generalize World.alloc w17 _=w18 at *
 have hm:=pmeets_calls (w:=w18) (a:=[]) (b:=[]) (on:=[(0,0)]) (SliceOf.nil_ w18 1 none 0) (SliceOf.nil_ w18 1 none 0) HO.out
 rw [show meetsB [] [] [(0,0)]=false by decide +kernel] at hm
 clear HO
 clear HZ
 refine hm.mono ?_
 clear hm
 rintro e w19 ⟨rfl,hq⟩
 replace hb:=hb.trans (hq.mono hb.size)
 clear hq
 go_wp2_with fail
 have HZ:Hid (w19.heap.size=w19.heap.size):=Lib.hid rfl
 skip
 have hm:=pmeets_calls (w:=w19) (a:=[]) (b:=[]) (on:=[]) (SliceOf.nil_ w19 1 none 0) (SliceOf.nil_ w19 1 none 0) (OnIn.nil_ w19 none 0)
 rw [show meetsB [] [] []=true by decide +kernel] at hm
 clear HZ
 refine hm.mono ?_
 clear hm
 rintro e w20 ⟨rfl,hq⟩
 replace hb:=hb.trans (hq.mono hb.size)
 clear hq
 go_wp2
 go_ret
 exact ⟨rfl,hb⟩
end Go.Proofs.Ytaoeikeobfllkaa
