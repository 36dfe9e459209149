/- The contract of layer 8's answer: Kind. -/
import Derived.Test.YtafmbnafibahkaaGreatGVary
import Derived.Test.YtafmbnafibahkaaGreatGVaryRead
import Derived.Test.YtafmbnafibahkaaGreatGGaps
import Derived.Test.YtafmbnafibahkaaGreatGCol
import Derived.Test.YtafmbnafibahkaaGreatGGapsRef
import Derived.Test.YtafmbnafibahkaaGreatGRunsPrint
import Derived.Test.YtafmbnafibahkaaGreatGColKinds
import Derived.Test.YtafmbnafibahkaaGreatGDictRef
import Derived.Test.YtafmbnafibahkaaGreatGDictRead
import Derived.Test.YtafmbnafibahkaaGreatGRunsReads
import Derived.Test.YtafmbnafibahkaaGreatGStepsRef
namespace Go.Proofs.YtafmbnafibahkaaGreat
open Go Go.RowKit
set_option maxHeartbeats 1000000 in
theorem ref_as_calls {w:World}{v:Value}{l:List ByteArray}(h:StrsIn w v l)(hlen:l.length≤4096)(hs:∀ c∈l,c.size≤1000000)(way:Nat)(hw:way≤2) :
  GivesAt Tryz.prog 96 #[v,.int .i64 way] w (.tuple #[.string (asB l way),.bool (asOk l way)]):=by
 obtain ⟨hb,hB⟩:=start w
 have HV:=Lib.hid h
 have H0:=Lib.hid (ref_runs_print_calls h (by omega) hs)
 have H1:=Lib.hid (ref_dict_print_calls h hlen hs)
 have H2:=Lib.hid (ref_steps_print_calls h (by omega))
 obtain ⟨A,cap,rfl,_⟩:=one_at h
 clear h hs
 unfold GivesAt
 obtain rfl|rfl|rfl:way=0∨way=1∨way=2:=by omega
 ·go_enter Tryz.func96,Tryz.ntmps96
  go_wp2_with (go_at_call 125;refine H0.out.step (w0:=w) (B:=w.heap.size) hb hB ?_;clear hb hB;intro w' hb hB)
  go_ret2
  exact ⟨rfl,hb⟩
 ·go_enter Tryz.func96,Tryz.ntmps96
  go_wp2_with (go_at_call 126;refine H1.out.step (w0:=w) (B:=w.heap.size) hb hB ?_;clear hb hB;intro w' hb hB)
  go_ret2
  exact ⟨rfl,hb⟩
 ·go_enter Tryz.func96,Tryz.ntmps96
  go_wp2_with (first|(go_at_call 127;refine H2.out.stepB (w0:=w) (B:=w.heap.size) hb hB ?_;clear hb hB;intro w' hb hB hq)|(go_at_call 128;refine (ref_may_calls (StrsIn.kept HV.out hq)).step (w0:=w) (B:=w.heap.size) hb hB ?_;clear hb hB hq;intro w'' hb hB))
  go_ret2
  exact ⟨rfl,hb⟩
set_option maxHeartbeats 1000000 in
theorem ref_best_calls {w:World}{v:Value}{l:List ByteArray}(h:StrsIn w v l)(hlen:l.length≤4096)(hs:∀ c∈l,c.size≤1000000) :
  GivesAt Tryz.prog 95 #[v] w (.int .i64 (bestN l)):=by
 obtain ⟨hb,hB⟩:=start w
 have HV:=Lib.hid h
 have HA:Hid (∀ (w':World),Below w.heap.size w w'→∀ way:Nat,way≤2→GivesAt Tryz.prog 96 #[v,.int .i64 way] w' (.tuple #[.string (asB l way),.bool (asOk l way)])) :=
  fun w' hq way hw=>ref_as_calls (StrsIn.kept h hq) hlen hs way hw
 have H0:=Lib.hid (HA.out w (Below.refl _ w) 0 (by omega))
 obtain ⟨A,cap,rfl,_⟩:=one_at h
 clear h hs
 unfold GivesAt
 go_enter Tryz.func95,Tryz.ntmps95
 go_wp2_with (go_at_call 96;refine H0.out.step (w0:=w) (B:=w.heap.size) hb hB ?_;clear hb hB;intro w1 hb hB)
 go_loopw [3,4,6] (fun y s i wr=>∃ (k:Nat) (x:Nat) (t:ByteArray),k≤2∧i=.int .i64 ((k+1:Nat):Int)∧y=.int .i64 x∧s=.string t∧Hid (bestK l k=(x,t))∧x≤k∧Below w.heap.size w wr) (fun _ _ i _=>4-(intOf i).toNat)
 case atStart=>exact ⟨0,0,asB l 0,by omega,rfl,rfl,rfl,rfl,by omega,hb⟩
 case round =>
  clear hb hB
  obtain ⟨k,x,t,hk,rfl,rfl,rfl,HK,hxk,hb⟩:=hrel
  have hB:=hb.size
  by_cases hlt:k < 2
  ·have HC:=Lib.hid (HA.out _ hb (k+1) (by omega))
   have HN:Hid (bestK l (k+1)=turnW l (x,t) (k+1)):=by show _=_;rw [←HK.out];rfl
   generalize hok:asOk l ((k+1:Nat):Int)=ok at *
   generalize hbs:asB l ((k+1:Nat):Int)=bs at *
   have HOK:=Lib.hid hok
   have HBS:=Lib.hid hbs
   clear hok hbs
   by_cases hc:ok=true∧bs.size < t.size
   ·obtain ⟨rfl,hc⟩:=hc
    have HE:Hid (bestK l (k+1)=(k+1,bs)):=by show _=_;rw [HN.out];unfold turnW;rw [HOK.out,HBS.out,if_pos ⟨rfl,hc⟩]
    have d1:decide ((bs.size:Int) < (t.size:Int))=true:=by rw [decide_eq_true_eq];omega
    go_wp2_with (go_at_call 96;refine HC.out.step (w0:=w) (B:=w.heap.size) hb hB ?_;clear hb hB;intro w2 hb hB)
    go_roundw
    case rel=>exact ⟨k+1,k+1,bs,by omega,by go_num,by go_num,rfl,HE.out,by omega,hb⟩
    case measure=>simp [intOf];omega
   ·have HE:Hid (bestK l (k+1)=(x,t)):=by show _=_;rw [HN.out];unfold turnW;rw [HOK.out,HBS.out];exact if_neg hc
    cases ok with
    | true =>
     have hc':¬bs.size < t.size:=fun h=>hc ⟨rfl,h⟩
     have d1:decide ((bs.size:Int) < (t.size:Int))=false:=by rw [decide_eq_false_iff_not];omega
     clear hc
     go_wp2_with (go_at_call 96;refine HC.out.step (w0:=w) (B:=w.heap.size) hb hB ?_;clear hb hB;intro w2 hb hB)
     go_roundw
     case rel=>exact ⟨k+1,x,t,by omega,by go_num,rfl,rfl,HE.out,by omega,hb⟩
     case measure=>simp [intOf];omega
    | false =>
     clear hc
     go_wp2_with (go_at_call 96;refine HC.out.step (w0:=w) (B:=w.heap.size) hb hB ?_;clear hb hB;intro w2 hb hB)
     go_roundw
     case rel=>exact ⟨k+1,x,t,by omega,by go_num,rfl,rfl,HE.out,by omega,hb⟩
     case measure=>simp [intOf];omega
  ·obtain rfl:k=2:=by omega
   go_wp2
   go_ret
   have e1:bestN l=x:=by unfold bestN;rw [←bestK_2,HK.out]
   exact ⟨by rw [e1];rfl,hb⟩
set_option maxHeartbeats 1000000 in
theorem ref_col_print_calls {w:World}{v:Value}{l:List ByteArray}(h:StrsIn w v l)(hlen:l.length≤4096)(hs:∀ c∈l,c.size≤1000000) :
  GivesAt Tryz.prog 68 #[v] w (.string (colB l)):=by
 obtain ⟨hb,hB⟩:=start w
 have H0:=Lib.hid (ref_split_calls h (by omega))
 have hfl:=fullL_length l
 have HSF:Hid (∀ c∈fullL l,c.size≤1000000):=fun c hc=>hs c (fullL_mem hc)
 have hil:=Lib.hid (isL_length l)
 have z1:=gapsT_size (isL l) (by rw [isL_length];omega)
 have z3:=as_size (fullL l) (by omega) HSF.out (bestN (fullL l))
 have hbn:=(bestP_spec (fullL l)).2.2.1
 have z2:(printB (bestN (fullL l))).size≤10:=by rw [print_len];exact vp_len_10 (by omega)
 have HP:=Lib.hid (ref_print_calls (bestN (fullL l)) (by omega))
 have hov1:¬9223372036854775807 < (gapsT (isL l)).size+(printB (bestN (fullL l))).size:=by omega
 have hov2:¬9223372036854775807 < (gapsT (isL l)++printB (bestN (fullL l))).size+(asB (fullL l) (bestN (fullL l))).size:=by rw [ByteArray.size_append];omega
 have HE:Hid (colB l=gapsT (isL l)++printB (bestN (fullL l))++asB (fullL l) (bestN (fullL l))):=rfl
 have q1:IntKind.u64.wrap ((bestN (fullL l):Nat):Int)=((bestN (fullL l):Nat):Int):=wrap_lt _ (by omega)
 obtain ⟨A,cap,rfl,_⟩:=one_at h
 clear h hs z1 z2 z3
 unfold GivesAt
 go_enter Tryz.func68,Tryz.ntmps68
 go_wp2_with fail
 refine H0.out.mono ?_
 rintro e w1 ⟨v1,v2,rfl,h1,h2,hq⟩
 replace hb:=hb.trans (hq.mono hB)
 replace hB:=hb.size
 clear hq
 have H1:=Lib.hid (ref_best_calls h2 (by omega) HSF.out)
 have H1b:Hid (∀ w':World,Below w1.heap.size w1 w'→GivesAt Tryz.prog 96 #[v2,.int .i64 (bestN (fullL l))] w' (.tuple #[.string (asB (fullL l) (bestN (fullL l))),.bool (asOk (fullL l) (bestN (fullL l)))])):=fun w' hq=>ref_as_calls (StrsIn.kept h2 hq) (by omega) HSF.out _ hbn
 clear HSF h2
 generalize asOk (fullL l) (bestN (fullL l))=ok at *
 generalize fullL l=fl at *
 generalize bestN fl=n at *
 generalize asB fl n=t at *
 have H2:=Lib.hid h1
 clear h1
 generalize hG:gapsT (isL l)=g at *
 have HG:=Lib.hid hG
 clear hG
 go_wp2_with fail
 refine H1.out.stepB (w0:=w) (B:=w.heap.size) hb hB ?_
 clear hb hB
 intro w2 hb hB hq
 go_wp2_with fail
 refine (H1b.out w2 hq).stepB (w0:=w) (B:=w.heap.size) hb hB ?_
 clear hb hB
 intro w3 hb hB hq3
 have hs:=ref_gaps_print_calls (BoolsIn.kept (BoolsIn.kept H2.out hq) hq3) (by rw [hil.out];omega)
 rw [HG.out] at hs
 have H3:=Lib.hid hs
 clear hs hq hq3
 go_wp2_with (first|(go_at_call 97;refine H3.out.step (w0:=w) (B:=w.heap.size) hb hB ?_;clear hb hB;intro w4 hb hB)|(go_at_call 98;refine HP.out.step (w0:=w) (B:=w.heap.size) hb hB ?_;clear hb hB;intro w5 hb hB))
 go_ret
 exact ⟨ret_str HE.out.symm,hb⟩
theorem ref_col_read_some (b:Nat)(s:ByteArray)(hs:s.size≤1000000){n:Nat}{many:Int}{l:List ByteArray}{r:List UInt8}(h:ByWay s.data.toList n many l r) :
  TakesStrs Tryz.prog 105 123 [.int .u64 n,.int .i64 many] b s l (mkB r):=by
 intro w hT
 show Calls Tryz.prog _ #[.pointer (some ⟨b,0,none⟩),.int .u64 n,.int .i64 many] w _
 rcases h with ⟨rfl,h⟩ | ⟨rfl,h⟩ | ⟨rfl,xs,rfl,h⟩
 ·have HR:=Lib.hid (ref_runs_read_some b s (by omega) h w hT)
  clear h hT hs
  go_enter Tryz.func123,Tryz.ntmps123
  go_wp2_with fail
  refine HR.out.mono ?_
  rintro e w1 ⟨v,rfl,hi,hf,hT,hg⟩
  go_wp2
  go_ret
  exact ⟨v,rfl,hi,hf,hT,hg⟩
 ·have HR:=Lib.hid (ref_dict_read_calls b s many hs w hT)
  have HA:=Lib.hid h
  clear h hT hs
  go_enter Tryz.func123,Tryz.ntmps123
  go_wp2_with fail
  refine HR.out.mono ?_
  rintro e w1 ⟨s0,⟨v,l',r',rfl,h',hi,hf,hT,hg⟩ | ⟨_,_,_,h'⟩⟩
  ·obtain ⟨rfl,rfl⟩:=HA.out.same h'
   clear h'
   go_wp2
   go_ret
   exact ⟨v,rfl,hi,hf,hT,hg⟩
  ·exact absurd ⟨_,_,HA.out⟩ h'
 ·have HR:=Lib.hid (ref_steps_read_calls b s false many w hT)
  have HA:=Lib.hid h
  clear h hT hs
  go_enter Tryz.func123,Tryz.ntmps123
  go_wp2_with fail
  refine HR.out.mono ?_
  rintro e w1 (⟨v,ys,r',rfl,_,h',hi,hf,hT,hg⟩ | ⟨s0,_,_,_,h'⟩)
  ·obtain ⟨rfl,rfl⟩:=HA.out.same h'
   have HI:=Lib.hid hi
   clear h' hi
   go_wp2
   go_ret
   exact ⟨v,rfl,HI.out,hf,hT,hg⟩
  ·exact absurd ⟨_,_,HA.out⟩ (h'.resolve_left (by decide))
theorem col_parts (l:List ByteArray)(hl:l.length≤4096)(hr:∀ c∈l,rightB c=true) :
  ∃ n r1,n≤2∧GapsAt (colB l).data.toList l.length (isL l) (vp n++r1)∧ByWay r1 n (cnt (isL l)) (fullL l) []∧r1.length≤1000000:=by
 have h0:=col_at l hl hr
 have hf:=fullL_length l
 have h2:=asR_size (fullL l) (by omega) (fullL_right hr) (bestN (fullL l))
 refine ⟨bestN (fullL l),(asB (fullL l) (bestN (fullL l))).data.toList,(bestP_spec (fullL l)).2.2.1,⟨h0.1,h0.2.1,by rw [isL_length],?_⟩,?_,by rw [data_size];omega⟩
 ·unfold colB
  rw [data_append,data_append,print_data,List.append_assoc];rfl
 ·rw [cnt_isL]
  exact best_way _ (by omega) (fullL_right hr)
def ParsesAs (w:World)(l:List ByteArray)(e:Ending)(w':World):Prop:=∃ v,e=.returned (.tuple #[v,.bool true])∧StrsIn w' v l∧Fresh w.heap.size v∧Below w.heap.size w w'
set_option maxHeartbeats 4000000 in
set_option maxRecDepth 100000 in
theorem ref_parse_calls (w:World)(l:List ByteArray)(hl:l.length≤4096)(hr:∀ c∈l,rightB c=true) :
  Calls Tryz.prog 90 #[.string (colB l),.int .i64 l.length] w (ParsesAs w l):=by
 obtain ⟨n,r1,hn,hG,hW,hz⟩:=col_parts l hl hr
 have hil:(isL l).length≤4096:=by rw [isL_length];exact hl
 have hcl:=cnt_le (isL l)
 have HG:=Lib.hid hG
 have HN:=Lib.hid (numT_print n (by omega) (mkB r1) 2 (by omega))
 have HW:Hid (ByWay (mkB r1).data.toList n (cnt (isL l)) (fullL l) []):=by show ByWay _ _ _ _ _;rw [mkB_data];exact hW
 have HZ:Hid ((mkB r1).size≤1000000):=by show _≤_;rw [mkB_size];exact hz
 have HJ:Hid (joinOk (isL l) (fullL l)=true∧joinL (isL l) (fullL l)=l):=by
  refine ⟨by unfold joinOk;rw [decide_eq_true (cnt_isL l)],?_⟩
  unfold joinL
  rw [if_pos (cnt_isL l),joinF_back]
 have HP:Hid (∀ (w':World) (v:Value),StrsIn w' v l→GivesAt Tryz.prog 68 #[v] w' (.string (colB l))):=fun w' v h =>
  ref_col_print_calls h hl (fun c hc=>Nat.le_trans (rightB_size (hr c hc)) (by decide))
 have HFL:=Lib.hid (fullL_length l)
 clear hG hW hz hr
 generalize colB l=s at *
 obtain ⟨m,hm⟩:∃ m,(l.length:Int)=m:=⟨_,rfl⟩
 rw [hm] at HG ⊢
 obtain ⟨hb,hB⟩:=start w
 go_enter Tryz.func90,Tryz.ntmps90
 go_wp2_with fail
 refine (ref_gaps_read_calls w.heap.size s false m _ (box_tape w s false _)).mono ?_
 rintro e w1 (⟨vi,is,r,rfl,_,hG,hi,hf,hT,hg⟩ | ⟨s0,_,_,_,hN⟩)
 ·obtain ⟨rfl,rfl⟩:=HG.out.same hG
  have hq:=boxed_below hg
  replace hb:=hb.trans (hq.mono hB)
  replace hB:=hb.size
  have HF:Hid (Fresh (w.heap.size+1) vi):=by show Fresh _ _;have:=hf;simpa using this
  rw [show mkB (vp n++r1)=printB n++mkB r1 from bytes_ext (by rw [data_append,print_data,mkB_data,mkB_data])] at hT
  have HI:=Lib.hid hi
  have HTN:=Lib.hid (ref_tnum_calls w.heap.size (printB n++mkB r1) false 2)
  rw [HN.out] at HTN
  clear hq hg hf hG HG HN hi
  generalize hisl:isL l=is at *
  generalize hfl:fullL l=fl at *
  obtain ⟨A1,c1,rfl,hat⟩:=one_at HI.out
  have HAT:=Lib.hid hat
  have HT:=Lib.hid hT
  have HB:=Lib.hid hb
  have HM:=Lib.hid hm
  clear hat hT hb hB hm
  go_wp2_with fail
  go_loop [8,9] (fun y i=>∃ k q:Nat,k≤is.length∧i=.int .i64 k∧y=.int .i64 q∧q≤1000000∧Hid (cnt (is.take k)=q)) (fun _ i=>is.length-(intOf i).toNat)
  case atStart=>exact ⟨0,0,Nat.zero_le _,rfl,rfl,by omega,rfl⟩
  case round =>
   obtain ⟨k,q,hk,rfl,rfl,hqm,HM2⟩:=hrel
   by_cases hlt:k < is.length
   ·obtain ⟨b,off,rfl,hbl,hc⟩:=HAT.out k hlt
    have hx:=hc k hlt
    have hle:=cnt_le (is.take (k+1))
    rw [List.length_take] at hle
    have HC:=Lib.hid (cnt_take is k hlt)
    have HLE:=Lib.hid hle
    clear hc hle
    generalize is[k]=x at *
    cases x with
    | true =>
     have HN2:Hid (cnt (is.take (k+1))=q+1):=by show _=_;rw [HC.out,HM2.out];rfl
     have hm1:q+1≤1000000:=by have h1:=HN2.out;have h2:=HLE.out;omega
     go_wp2
     go_round
     case rel=>exact ⟨k+1,q+1,by omega,by go_num,by go_num,hm1,HN2⟩
     case measure=>simp [intOf];omega
    | false =>
     have HN2:Hid (cnt (is.take (k+1))=q):=by show _=_;rw [HC.out,HM2.out];rfl
     go_wp2
     go_round
     case rel=>exact ⟨k+1,q,by omega,by go_num,rfl,hqm,HN2⟩
     case measure=>simp [intOf];omega
   ·obtain rfl:k=is.length:=by omega
    have h1:=HM2.out
    rw [List.take_length] at h1
    subst h1
    have hb:=HB.out
    have hB:=hb.size
    go_wp2_with fail
    refine HTN.out.stepG HT.out (grown_refl w1 (some w.heap.size)) ?_
    intro w2 hT2 hg2 _
    go_wp2_with fail
    refine (ref_col_read_some w.heap.size (mkB r1) HZ.out HW.out w2 hT2).mono ?_
    rintro e w3 ⟨v3,rfl,h3,hf3,hT3,hg3⟩
    have hg4:=grown_trans hg2 hg3
    have hi3:=SliceOf.fresh HI.out HF.out hg4 (by omega)
    replace hb:=hb.grown hg4 hB (fun k hk=>by cases hk;exact Nat.le_refl _)
    replace hB:=hb.size
    clear hg2 hg3 hg4 hT2 hf3
    go_wp2_with fail
    refine (ref_join_fresh hi3 h3 (by omega)).mono ?_
    rintro e w4 ⟨v4,rfl,h4,hf4,hq⟩
    have HF4:Hid (Fresh w.heap.size v4):=hf4.mono hB
    clear hf4
    replace hb:=hb.trans (hq.mono hB)
    replace hB:=hb.size
    have hT4:=hT3.kept hq
    rw [HJ.out.1]
    rw [HJ.out.2] at h4
    have HD:=ref_tdone_calls w.heap.size (mkB []) false w4 hT4
    rw [show (mkB []).toList.isEmpty=true by rw [show mkB []=⟨#[]⟩ from rfl,empty_toList];rfl] at HD
    have HD':=Lib.hid HD
    have HP':=Lib.hid (HP.out w4 v4 h4)
    have H4:=Lib.hid h4
    obtain ⟨A4,c4,rfl,_⟩:=one_at h4
    clear hi3 h3 hT3 hT4 hq h4 HD
    go_wp2_with (first|(go_at_call 89;refine HD'.out.mono ?_;rintro e w5 ⟨rfl,rfl⟩)|(go_at_call 68;refine HP'.out.stepB (w0:=w) (B:=w.heap.size) hb hB ?_;clear hb hB;intro w6 hb hB hq6))
    go_ret2
    exact ⟨_,rfl,StrsIn.kept H4.out hq6,HF4.out,hb⟩
 ·exact absurd ⟨_,_,HG.out⟩ (hN.resolve_left (by decide))
set_option maxHeartbeats 2000000 in
theorem ref_kindL_calls {w:World}{v:Value}{l:List ByteArray}(h:StrsIn w v l)(kind:Int)(null:Bool):GivesAt Tryz.prog 91 #[v,.int .u8 kind,.bool null] w (.bool (kindL l kind null)):=by
 have hm:=h.len
 unfold maxLen at hm
 obtain ⟨hb,hB⟩:=start w
 obtain ⟨A,cap,rfl,hat⟩:=one_at h
 have HAT:=Lib.hid hat
 clear h hat
 unfold GivesAt
 go_enter Tryz.func91,Tryz.ntmps91
 go_wp2
 go_loopw [7] (fun i wr=>∃ k:Nat,k≤l.length∧i=.int .i64 k∧Hid (∀ c∈l.take k,fitsB c kind null=true)∧Below w.heap.size w wr) (fun i _=>l.length-(intOf i).toNat)
 case atStart=>exact ⟨0,Nat.zero_le _,rfl,fun c hc=>absurd hc (by simp),hb⟩
 case round =>
  clear hb hB
  obtain ⟨k,hk,rfl,HS,hb⟩:=hrel
  have hB:=hb.size
  by_cases hlt:k < l.length
  ·obtain ⟨b,off,rfl,hbl,hc⟩:=HAT.out k hlt
   have hx:=(hb.cell (p:=⟨b,off+k,none⟩) hbl).trans (hc k hlt)
   have HT:=Lib.hid (take_add l k hlt)
   have HM:=Lib.hid (List.getElem_mem hlt)
   have HBL:=Lib.hid hbl
   have HC:Hid (∀ j (hj:j < l.length),w.cell? ⟨b,off+j,none⟩=some (.string l[j])):=hc
   have HR:=Lib.hid (ref_right_calls l[k])
   have HK:=Lib.hid (ref_kind_calls l[k])
   clear hc hbl
   by_cases he:l[k]=⟨#[]⟩
   ·have h1:l[k].toList.isEmpty=true:=by rw [he,empty_toList];rfl
    have hr:rightB l[k]=true:=by rw [he];exact right_empty
    have HF:Hid (fitsB l[k] kind null=null):=if_pos he
    rw [hr] at HR
    generalize kindI l[k]=kd at *
    clear hr he
    cases null with
    | true =>
     go_wp2_with (first|(go_at_call 66;refine HK.out.step (w0:=w) (B:=w.heap.size) hb hB ?_;clear hb hB;intro w1 hb hB;have hx:=(hb.cell (p:=⟨b,off+k,none⟩) HBL.out).trans (HC.out k hlt))|(go_at_call 65;refine HR.out.step (w0:=w) (B:=w.heap.size) hb hB ?_;clear hb hB;intro w2 hb hB;have hx:=(hb.cell (p:=⟨b,off+k,none⟩) HBL.out).trans (HC.out k hlt)))
     go_roundw
     case rel=>exact ⟨k+1,by omega,by go_num,fun d hd=>by
      rw [HT.out] at hd
      rcases List.mem_append.1 hd with hd|hd
      ·exact HS.out d hd
      ·rw [List.mem_singleton.1 hd];exact HF.out,hb⟩
     case measure=>simp [intOf];omega
    | false =>
     have HD:Hid (kindL l kind false=false):=by
      show _=_
      unfold kindL
      rw [List.all_eq_false]
      exact ⟨_,HM.out,by rw [HF.out];decide⟩
     go_wp2_with (first|(go_at_call 66;refine HK.out.step (w0:=w) (B:=w.heap.size) hb hB ?_;clear hb hB;intro w1 hb hB;have hx:=(hb.cell (p:=⟨b,off+k,none⟩) HBL.out).trans (HC.out k hlt))|(go_at_call 65;refine HR.out.step (w0:=w) (B:=w.heap.size) hb hB ?_;clear hb hB;intro w2 hb hB;have hx:=(hb.cell (p:=⟨b,off+k,none⟩) HBL.out).trans (HC.out k hlt)))
     go_ret
     exact ⟨ret_bool HD.out.symm,hb⟩
   ·have h1:l[k].toList.isEmpty=false:=by
     rw [ByteArray.toList_eq]
     cases hd:l[k].data.toList with
     | nil=>exact absurd (bytes_ext hd) he
     | cons x l=>rfl
    have HF:Hid (fitsB l[k] kind null=(rightB l[k]&&(kindI l[k]==kind))):=if_neg he
    clear he
    generalize kindI l[k]=kd at *
    generalize rightB l[k]=r at *
    cases r with
    | false =>
     have HD:Hid (kindL l kind null=false):=by
      show _=_
      unfold kindL
      rw [List.all_eq_false]
      exact ⟨_,HM.out,by rw [HF.out,Bool.false_and];decide⟩
     go_wp2_with (first|(go_at_call 66;refine HK.out.step (w0:=w) (B:=w.heap.size) hb hB ?_;clear hb hB;intro w1 hb hB;have hx:=(hb.cell (p:=⟨b,off+k,none⟩) HBL.out).trans (HC.out k hlt))|(go_at_call 65;refine HR.out.step (w0:=w) (B:=w.heap.size) hb hB ?_;clear hb hB;intro w2 hb hB;have hx:=(hb.cell (p:=⟨b,off+k,none⟩) HBL.out).trans (HC.out k hlt)))
     go_ret
     exact ⟨ret_bool HD.out.symm,hb⟩
    | true =>
     by_cases hq:kd=kind
     ·subst hq
      rw [Bool.true_and,beq_self_eq_true] at HF
      have g1:(kd != kd)=false:=by simp
      go_wp2_with (first|(go_at_call 66;refine HK.out.step (w0:=w) (B:=w.heap.size) hb hB ?_;clear hb hB;intro w1 hb hB;have hx:=(hb.cell (p:=⟨b,off+k,none⟩) HBL.out).trans (HC.out k hlt))|(go_at_call 65;refine HR.out.step (w0:=w) (B:=w.heap.size) hb hB ?_;clear hb hB;intro w2 hb hB;have hx:=(hb.cell (p:=⟨b,off+k,none⟩) HBL.out).trans (HC.out k hlt)))
      go_roundw
      case rel=>exact ⟨k+1,by omega,by go_num,fun d hd=>by
       rw [HT.out] at hd
       rcases List.mem_append.1 hd with hd|hd
       ·exact HS.out d hd
       ·rw [List.mem_singleton.1 hd];exact HF.out,hb⟩
      case measure=>simp [intOf];omega
     ·have hq2:(kd==kind)=false:=by rw [beq_eq_false_iff_ne];exact hq
      have hq3:(kd != kind)=true:=by rw [bne_iff_ne];exact hq
      rw [Bool.true_and,hq2] at HF
      clear hq hq2
      have HD:Hid (kindL l kind null=false):=by
       show _=_
       unfold kindL
       rw [List.all_eq_false]
       exact ⟨_,HM.out,by rw [HF.out];decide⟩
      go_wp2_with (first|(go_at_call 66;refine HK.out.step (w0:=w) (B:=w.heap.size) hb hB ?_;clear hb hB;intro w1 hb hB;have hx:=(hb.cell (p:=⟨b,off+k,none⟩) HBL.out).trans (HC.out k hlt))|(go_at_call 65;refine HR.out.step (w0:=w) (B:=w.heap.size) hb hB ?_;clear hb hB;intro w2 hb hB;have hx:=(hb.cell (p:=⟨b,off+k,none⟩) HBL.out).trans (HC.out k hlt)))
      go_ret
      exact ⟨ret_bool HD.out.symm,hb⟩
  ·obtain rfl:k=l.length:=by omega
   rw [List.take_length] at HS
   have HD:Hid (kindL l kind null=true):=by show _=_;unfold kindL;rw [List.all_eq_true];exact HS.out
   go_wp2
   go_ret
   exact ⟨ret_bool HD.out.symm,hb⟩
end Go.Proofs.YtafmbnafibahkaaGreat
