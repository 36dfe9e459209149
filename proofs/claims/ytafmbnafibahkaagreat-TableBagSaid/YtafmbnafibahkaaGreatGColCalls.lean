/- The contract of layer 8's Print. -/
import Derived.Test.YtafmbnafibahkaaGreatGVary
import Derived.Test.YtafmbnafibahkaaGreatGSteps
import Derived.Test.YtafmbnafibahkaaGreatGGaps
import Derived.Test.YtafmbnafibahkaaGreatGCol
import Derived.Test.YtafmbnafibahkaaGreatGGapsRef
import Derived.Test.YtafmbnafibahkaaGreatGRunsPrint
import Derived.Test.YtafmbnafibahkaaGreatGColKinds
import Derived.Test.YtafmbnafibahkaaGreatGDictPrint
namespace Go.Proofs.YtafmbnafibahkaaGreat
open Go Go.RowKit
set_option maxHeartbeats 1000000 in
theorem as_calls {w:World}{v:Value}{l:List ByteArray}(h:StrsIn w v l)(hlen:l.length≤4096)(hs:∀ c∈l,c.size≤1000000)(way:Nat)(hw:way≤2) :
  GivesAt Tryz.prog 144 #[v,.int .i64 way] w (.tuple #[.string (asB l way),.bool (asOk l way)]):=by
 obtain ⟨hb,hB⟩:=start w
 have HV:=Lib.hid h
 have H0:=Lib.hid (runs_print_calls h (by omega) hs)
 have H1:=Lib.hid (dict_print_calls h hlen hs)
 have H2:=Lib.hid (steps_print_calls h (by omega))
 obtain ⟨A,cap,rfl,_⟩:=one_at h
 clear h hs
 unfold GivesAt
 obtain rfl|rfl|rfl:way=0∨way=1∨way=2:=by omega
 ·go_enter Tryz.func144,Tryz.ntmps144
  go_wp2_with (go_at_call 143;refine H0.out.step (w0:=w) (B:=w.heap.size) hb hB ?_;clear hb hB;intro w' hb hB)
  go_ret2
  exact ⟨rfl,hb⟩
 ·go_enter Tryz.func144,Tryz.ntmps144
  go_wp2_with (go_at_call 166;refine H1.out.step (w0:=w) (B:=w.heap.size) hb hB ?_;clear hb hB;intro w' hb hB)
  go_ret2
  exact ⟨rfl,hb⟩
 ·go_enter Tryz.func144,Tryz.ntmps144
  go_wp2_with (first|(go_at_call 167;refine H2.out.stepB (w0:=w) (B:=w.heap.size) hb hB ?_;clear hb hB;intro w' hb hB hq)|(go_at_call 168;refine (may_calls (StrsIn.kept HV.out hq)).step (w0:=w) (B:=w.heap.size) hb hB ?_;clear hb hB hq;intro w'' hb hB))
  go_ret2
  exact ⟨rfl,hb⟩
set_option maxHeartbeats 1000000 in
theorem best_calls {w:World}{v:Value}{l:List ByteArray}(h:StrsIn w v l)(hlen:l.length≤4096)(hs:∀ c∈l,c.size≤1000000) :
  GivesAt Tryz.prog 114 #[v] w (.tuple #[.int .i64 (bestN l),.string (asB l (bestN l))]):=by
 obtain ⟨hb,hB⟩:=start w
 have HV:=Lib.hid h
 have H0:=Lib.hid (runs_print_calls h (by omega) hs)
 have HA:Hid (∀ (w':World),Below w.heap.size w w'→∀ way:Nat,way≤2→GivesAt Tryz.prog 144 #[v,.int .i64 way] w' (.tuple #[.string (asB l way),.bool (asOk l way)])) :=
  fun w' hq way hw=>as_calls (StrsIn.kept h hq) hlen hs way hw
 obtain ⟨A,cap,rfl,_⟩:=one_at h
 have HS:=Lib.hid (bestP_spec l).1
 clear h hs
 unfold GivesAt
 go_enter Tryz.func114,Tryz.ntmps114
 go_wp2_with (go_at_call 143;refine H0.out.step (w0:=w) (B:=w.heap.size) hb hB ?_;clear hb hB;intro w1 hb hB)
 go_loopw [4,5,6] (fun y s i wr=>∃ (k:Nat) (x:Nat) (t:ByteArray),k≤2∧i=.int .i64 ((k+1:Nat):Int)∧y=.int .i64 x∧s=.string t∧Hid (bestK l k=(x,t))∧x≤k∧Below w.heap.size w wr) (fun _ _ i _=>4-(intOf i).toNat)
 case atStart=>exact ⟨0,0,asB l 0,by omega,rfl,rfl,rfl,rfl,by omega,hb⟩
 case round =>
  clear hb hB
  obtain ⟨k,x,t,hk,rfl,rfl,rfl,HK,hxk,hb⟩:=hrel
  have hB:=hb.size
  by_cases hlt:k < 2
  ·have HC:=Lib.hid (HA.out _ hb (k+1) (by omega))
   have HN:Hid (bestK l (k+1)=turnW l (x,t) (k+1)):=by show _=_;rw [←HK.out];rfl
   generalize hok:asOk l ((k+1:Nat):Int)=ok at *
   generalize hbs:asB l ((k+1:Nat):Int)=bs at *
   have HOK:=Lib.hid hok
   have HBS:=Lib.hid hbs
   clear hok hbs
   by_cases hc:ok=true∧bs.size < t.size
   ·obtain ⟨rfl,hc⟩:=hc
    have HE:Hid (bestK l (k+1)=(k+1,bs)):=by show _=_;rw [HN.out];unfold turnW;rw [HOK.out,HBS.out,if_pos ⟨rfl,hc⟩]
    have d1:decide ((bs.size:Int) < (t.size:Int))=true:=by rw [decide_eq_true_eq];omega
    go_wp2_with (go_at_call 144;refine HC.out.step (w0:=w) (B:=w.heap.size) hb hB ?_;clear hb hB;intro w2 hb hB)
    go_roundw
    case rel=>exact ⟨k+1,k+1,bs,by omega,by go_num,by go_num,rfl,HE.out,by omega,hb⟩
    case measure=>simp [intOf];omega
   ·have HE:Hid (bestK l (k+1)=(x,t)):=by show _=_;rw [HN.out];unfold turnW;rw [HOK.out,HBS.out];exact if_neg hc
    cases ok with
    | true =>
     have hc':¬bs.size < t.size:=fun h=>hc ⟨rfl,h⟩
     have d1:decide ((bs.size:Int) < (t.size:Int))=false:=by rw [decide_eq_false_iff_not];omega
     clear hc
     go_wp2_with (go_at_call 144;refine HC.out.step (w0:=w) (B:=w.heap.size) hb hB ?_;clear hb hB;intro w2 hb hB)
     go_roundw
     case rel=>exact ⟨k+1,x,t,by omega,by go_num,rfl,rfl,HE.out,by omega,hb⟩
     case measure=>simp [intOf];omega
    | false =>
     clear hc
     go_wp2_with (go_at_call 144;refine HC.out.step (w0:=w) (B:=w.heap.size) hb hB ?_;clear hb hB;intro w2 hb hB)
     go_roundw
     case rel=>exact ⟨k+1,x,t,by omega,by go_num,rfl,rfl,HE.out,by omega,hb⟩
     case measure=>simp [intOf];omega
  ·obtain rfl:k=2:=by omega
   go_wp2
   go_ret2
   have e1:bestN l=x:=by unfold bestN;rw [←bestK_2,HK.out]
   have e2:asB l (bestN l)=t:=by rw [←HS.out,←bestK_2,HK.out]
   exact ⟨by rw [e2,e1];rfl,hb⟩
set_option maxHeartbeats 1000000 in
theorem col_print_calls {w:World}{v:Value}{l:List ByteArray}(h:StrsIn w v l)(hlen:l.length≤4096)(hs:∀ c∈l,c.size≤1000000) :
  GivesAt Tryz.prog 85 #[v] w (.string (colB l)):=by
 obtain ⟨hb,hB⟩:=start w
 have H0:=Lib.hid (split_calls h (by omega))
 have hfl:=fullL_length l
 have HSF:Hid (∀ c∈fullL l,c.size≤1000000):=fun c hc=>hs c (fullL_mem hc)
 have hil:=Lib.hid (isL_length l)
 have z1:=gapsT_size (isL l) (by rw [isL_length];omega)
 have z3:=as_size (fullL l) (by omega) HSF.out (bestN (fullL l))
 have hbn:=(bestP_spec (fullL l)).2.2.1
 have z2:(printB (bestN (fullL l))).size≤10:=by rw [print_len];exact vp_len_10 (by omega)
 have HP:=Lib.hid (print_calls (bestN (fullL l)) (by omega))
 have hov1:¬9223372036854775807 < (gapsT (isL l)).size+(printB (bestN (fullL l))).size:=by omega
 have hov2:¬9223372036854775807 < (gapsT (isL l)++printB (bestN (fullL l))).size+(asB (fullL l) (bestN (fullL l))).size:=by rw [ByteArray.size_append];omega
 have HE:Hid (colB l=gapsT (isL l)++printB (bestN (fullL l))++asB (fullL l) (bestN (fullL l))):=rfl
 have q1:IntKind.u64.wrap ((bestN (fullL l):Nat):Int)=((bestN (fullL l):Nat):Int):=wrap_lt _ (by omega)
 obtain ⟨A,cap,rfl,_⟩:=one_at h
 clear h hs z1 z2 z3
 unfold GivesAt
 go_enter Tryz.func85,Tryz.ntmps85
 go_wp2_with fail
 refine H0.out.mono ?_
 rintro e w1 ⟨v1,v2,rfl,h1,h2,hq⟩
 replace hb:=hb.trans (hq.mono hB)
 replace hB:=hb.size
 clear hq
 have H1:=Lib.hid (best_calls h2 (by omega) HSF.out)
 clear HSF h2
 generalize fullL l=fl at *
 generalize bestN fl=n at *
 generalize asB fl n=t at *
 have H2:=Lib.hid h1
 clear h1
 generalize hG:gapsT (isL l)=g at *
 have HG:=Lib.hid hG
 clear hG
 go_wp2_with fail
 refine H1.out.stepB (w0:=w) (B:=w.heap.size) hb hB ?_
 clear hb hB
 intro w2 hb hB hq
 have hs:=gaps_print_calls (BoolsIn.kept H2.out hq) (by rw [hil.out];omega)
 rw [HG.out] at hs
 have H3:=Lib.hid hs
 clear hs hq
 go_wp2_with (first|(go_at_call 115;refine H3.out.step (w0:=w) (B:=w.heap.size) hb hB ?_;clear hb hB;intro w3 hb hB)|(go_at_call 109;refine HP.out.step (w0:=w) (B:=w.heap.size) hb hB ?_;clear hb hB;intro w4 hb hB))
 go_ret
 exact ⟨ret_str HE.out.symm,hb⟩
end Go.Proofs.YtafmbnafibahkaaGreat
