/- Layer 18's laws: the document's examples. -/
import Derived.Test.YtcofhnedidllpaaGCell
import Derived.Test.YtcofhnedidllpaaGZSieveProject
import Derived.Test.YtcofhnedidllpaaGZSieveSmall
import Derived.Test.YtcofhnedidllpaaGZTermKit
namespace Go.Proofs.Ytcofhnedidllpaa
open Go Go.RowKit
def rows18:List Tm:=[([cellInt 1,⟨#[116,97]⟩],2),([cellInt 2,⟨#[116,97]⟩],-1)]
def term18:Trm:=twoT15 60 (colT15 0) (constT (cellInt 2))
theorem okT18 {op c:Int}{b:ByteArray}{ks:List Trm}(h1:0≤op)(h2:op≤255)(h3 : -9223372036854775808≤c)(h4:c≤9223372036854775807):okT (.mk op c b ks):=⟨h1,h2,h3,h4⟩
theorem short18:ShortR rows18:=fun t ht=>by
 have:(rows18.all fun t=>decide (t.1.length≤1000000))=true:=by decide +kernel
 exact of_decide_eq_true (List.all_eq_true.1 this t ht)
theorem filt18:filtS term18 rows18=[([cellInt 1,⟨#[116,97]⟩],2)]:=by decide +kernel
theorem proj18a:projS [1] rows18=[([⟨#[116,97]⟩],1)]:=by decide +kernel
theorem proj18b:projS [2] rows18=[]:=by decide +kernel
theorem proj18c:projS [] rows18=[([],1)]:=by decide +kernel
set_option maxHeartbeats 8000000 in
set_option maxRecDepth 100000 in
theorem awake18_calls:Gives Try.prog 10 #[] (.bool true):=by
 intro w
 obtain ⟨hb,hB⟩:=start w
 clear hB
 go_enter Try.func10,Try.ntmps10
 go_wp2_with fail
 refine Calls.mono ((int_calls 1 (by decide) (by decide)) w) ?_
 rintro e w1 ⟨rfl,hq⟩
 replace hb:=hb.trans (hq.mono hb.size)
 clear hq
 go_wp2_with fail
 have hq:Below w1.heap.size w1 (w1.alloc (.cells #[.string (cellInt 1),.string ⟨#[116,97]⟩] 9)):=Below.alloc (.refl _ _) (Nat.le_refl _) _
 have HR1:Hid (StrsIn (w1.alloc (.cells #[.string (cellInt 1),.string ⟨#[116,97]⟩] 9)) (.slice (some ⟨w1.heap.size,0,none⟩) 2 2) [cellInt 1,⟨#[116,97]⟩]):=lit_strs w1 9 [cellInt 1,⟨#[116,97]⟩] (by show 2≤1000;decide)
 replace hb:=hb.trans (hq.mono hb.size)
 clear hq
 generalize World.alloc w1 _=w2 at *
 go_wp2_with fail
 refine Calls.mono ((int_calls 2 (by decide) (by decide)) w2) ?_
 rintro e w3 ⟨rfl,hq⟩
 replace HR1:=Lib.hid (StrsIn.kept HR1.out hq)
 replace hb:=hb.trans (hq.mono hb.size)
 clear hq
 go_wp2_with fail
 have HR2:StrsIn (w3.alloc (.cells #[.string (cellInt 2),.string ⟨#[116,97]⟩] 9)) (.slice (some ⟨w3.heap.size,0,none⟩) 2 2) [cellInt 2,⟨#[116,97]⟩]:=lit_strs w3 9 [cellInt 2,⟨#[116,97]⟩] (by show 2≤1000;decide)
 have q1:=Below.alloc (.refl w3.heap.size w3) (Nat.le_refl _) (.cells #[.string (cellInt 2),.string ⟨#[116,97]⟩] 9)
 have hq:=Below.alloc q1 q1.size (.cells #[.slice (some ⟨w1.heap.size,0,none⟩) 2 2,.int .i64 2,.slice (some ⟨w3.heap.size,0,none⟩) 2 2,.int .i64 (-1)] 40)
 have hl:=lit_times (w3.alloc (.cells #[.string (cellInt 2),.string ⟨#[116,97]⟩] 9)) 40 [(.slice (some ⟨w1.heap.size,0,none⟩) 2 2,2),(.slice (some ⟨w3.heap.size,0,none⟩) 2 2,-1)] rows18 ⟨⟨StrsIn.kept HR1.out q1,rfl⟩,⟨HR2,rfl⟩,trivial⟩ (by show 2≤1000;decide)
 rw [show (w3.alloc (.cells #[.string (cellInt 2),.string ⟨#[116,97]⟩] 9)).heap.size=w3.heap.size+1 by simp] at hl
 have HL:Hid (TimesIn ((w3.alloc (.cells #[.string (cellInt 2),.string ⟨#[116,97]⟩] 9)).alloc (.cells #[.slice (some ⟨w1.heap.size,0,none⟩) 2 2,.int .i64 2,.slice (some ⟨w3.heap.size,0,none⟩) 2 2,.int .i64 (-1)] 40)) (.slice (some ⟨w3.heap.size+1,0,none⟩) 2 2) rows18):=hl
 clear hl q1 HR2
 clear HR1
 replace hb:=hb.trans (hq.mono hb.size)
 clear hq
 generalize World.alloc (World.alloc w3 _) _=w4 at *
 go_wp2_with fail
 refine Calls.mono ((int_calls 2 (by decide) (by decide)) w4) ?_
 rintro e w5 ⟨rfl,hq⟩
 replace HL:=Lib.hid (HL.out.kept hq)
 replace hb:=hb.trans (hq.mono hb.size)
 clear hq
 have q1:=Below.alloc (.refl w5.heap.size w5) (Nat.le_refl _) (.cells #[.int .u8 99,.int .i64 0,.string ⟨#[]⟩,.slice none 0 0,.int .u8 107,.int .i64 0,.string (cellInt 2),.slice none 0 0] 25)
 have hk:KidsIn (w5.alloc (.cells #[.int .u8 99,.int .i64 0,.string ⟨#[]⟩,.slice none 0 0,.int .u8 107,.int .i64 0,.string (cellInt 2),.slice none 0 0] 25)) (.slice (some ⟨w5.heap.size,0,none⟩) 2 2) [colT15 0,constT (cellInt 2)]:=kids_lit 25 [(.slice none 0 0,colT15 0),(.slice none 0 0,constT (cellInt 2))] (fun t ht=>by simp only [List.mem_cons,List.not_mem_nil,or_false] at ht;rcases ht with rfl|rfl;exact ⟨okT18 (by decide) (by decide) (by decide) (by decide),KidsIn.nil_ _ _ _⟩;exact ⟨okT18 (by decide) (by decide) (by decide) (by decide),KidsIn.nil_ _ _ _⟩) (by show 2≤1000;decide) rfl rfl rfl _ rfl
 have hq:=Below.alloc q1 q1.size (.cells #[.int .u8 60,.int .i64 0,.string ⟨#[]⟩,.slice (some ⟨w5.heap.size,0,none⟩) 2 2] 25)
 have HT:Hid (TermIn ((w5.alloc (.cells #[.int .u8 99,.int .i64 0,.string ⟨#[]⟩,.slice none 0 0,.int .u8 107,.int .i64 0,.string (cellInt 2),.slice none 0 0] 25)).alloc (.cells #[.int .u8 60,.int .i64 0,.string ⟨#[]⟩,.slice (some ⟨w5.heap.size,0,none⟩) 2 2] 25)) (.agg #[.int .u8 60,.int .i64 0,.string ⟨#[]⟩,.slice (some ⟨w5.heap.size,0,none⟩) 2 2]) term18):=⟨_,rfl,okT18 (by decide) (by decide) (by decide) (by decide),hk.kept (Below.alloc (.refl _ _) (Nat.le_refl _) _)⟩
 have hcf:=sieve_filter_calls (HL.out.kept hq) HT.out (by decide) short18
 rw [filt18] at hcf
 clear q1 hk HT
 go_wp2_with fail
 refine hcf.mono ?_
 rintro e w6 ⟨v6,rfl,h6,hq6⟩
 replace hq:=hq.trans (hq6.mono hq.size)
 clear hq6 hcf
 replace HL:=Lib.hid (HL.out.kept hq)
 replace hb:=hb.trans (hq.mono hb.size)
 clear hq
 obtain ⟨bf,of,cf,e6⟩:=times_some h6 (by decide)
 have e6b:v6=.slice (some ⟨bf,of,none⟩) 1 cf:=e6
 subst e6b
 clear e6
 have HF:=Lib.hid h6
 clear h6
 have hq1:=Below.alloc (.refl w6.heap.size w6) (Nat.le_refl _) (.cells #[.int .i64 1] 3)
 have hcp:=sieve_project_calls (cols:=[1]) (HL.out.kept hq1) (lit_ones (Value.int .i64) w6 3 [1] (by show 1≤1000;decide)) (by decide) (by decide +kernel) (by decide)
 rw [proj18a] at hcp
 go_wp2_with fail
 refine hcp.mono ?_
 rintro e w7 ⟨v7,rfl,h7,hq7⟩
 have hq:=hq1.trans (hq7.mono hq1.size)
 clear hq1 hq7 hcp
 replace HL:=Lib.hid (HL.out.kept hq)
 replace HF:=Lib.hid (HF.out.kept hq)
 replace hb:=hb.trans (hq.mono hb.size)
 clear hq
 obtain ⟨bp,op,cp,e7⟩:=times_some h7 (by decide)
 have e7b:v7=.slice (some ⟨bp,op,none⟩) 1 cp:=e7
 subst e7b
 clear e7
 have HP:=Lib.hid h7
 clear h7
 obtain ⟨rf,_,xf0,xf1⟩:=times_cellAt HF.out 0 (by decide)
 obtain ⟨rp,hrp,xp0,xp1⟩:=times_cellAt HP.out 0 (by decide)
 rw [Nat.zero_mul,Nat.add_zero] at xf0 xf1 xp0 xp1
 have xp1':w7.cell? ⟨bp,op+1,none⟩=some (.int .i64 1):=xp1
 have xf1':w7.cell? ⟨bf,of+1,none⟩=some (.int .i64 2):=xf1
 obtain ⟨Ap,pp,rfl,hap⟩:=one_at hrp
 obtain ⟨bq,oq,rfl,_,hcq⟩:=hap 0 (by decide)
 have xq:w7.cell? ⟨bq,oq,none⟩=some (.string ⟨#[116,97]⟩):=by simpa using hcq 0 (by decide)
 have xp0':w7.cell? ⟨bp,op,none⟩=some (.slice (some ⟨bq,oq,none⟩) 1 pp):=xp0
 clear xp1 xf1 xp0 xf0 hap hcq hrp HF HP
 have hq1:=Below.alloc (.refl w7.heap.size w7) (Nat.le_refl _) (.cells #[.int .i64 2] 3)
 have hcp:=sieve_project_calls (cols:=[2]) (HL.out.kept hq1) (lit_ones (Value.int .i64) w7 3 [2] (by show 1≤1000;decide)) (by decide) (by decide +kernel) (by decide)
 rw [proj18b] at hcp
 go_wp2_with fail
 refine hcp.mono ?_
 rintro e w8 ⟨v8,rfl,h8,hq8⟩
 have hq:=hq1.trans (hq8.mono hq1.size)
 clear hq1 hq8 hcp xp1' xf1' xp0' xq
 replace HL:=Lib.hid (HL.out.kept hq)
 replace hb:=hb.trans (hq.mono hb.size)
 clear hq
 obtain ⟨A8,c8,e8⟩:=times_slice h8
 have e8b:v8=.slice A8 0 c8:=e8
 subst e8b
 clear e8 h8
 have hcp:=sieve_project_calls (cols:=[]) HL.out (SliceOf.nil_ w8 1 none 0) (by decide) (by decide +kernel) (by decide)
 rw [proj18c] at hcp
 go_wp2_with fail
 refine hcp.mono ?_
 rintro e w9 ⟨v9,rfl,h9,hq⟩
 clear hcp
 replace HL:=Lib.hid (HL.out.kept hq)
 replace hb:=hb.trans (hq.mono hb.size)
 clear hq
 obtain ⟨A9,c9,e9⟩:=times_slice h9
 have e9b:v9=.slice A9 1 c9:=e9
 subst e9b
 clear e9 h9
 go_wp2
 go_ret
 exact ⟨rfl,hb⟩
end Go.Proofs.Ytcofhnedidllpaa
