/- The contract of the answer's Read of layer 6. -/
import Derived.Test.YtafmbnafibahkaaGreatGSteps
import Derived.Test.YtafmbnafibahkaaGreatGStepsRead
namespace Go.Proofs.YtafmbnafibahkaaGreat
open Go Go.RowKit
theorem wrap_less (x p:Int):wrap64 (IntKind.u64.wrap (IntKind.u64.wrap x-IntKind.u64.wrap p))=wrap64 (x-p):=by
 simp only [IntKind.wrap_u64];unfold wrap64;omega
theorem wrap_more (x p:Int):wrap64 (IntKind.u64.wrap (IntKind.u64.wrap x+IntKind.u64.wrap p))=wrap64 (x+p):=by
 simp only [IntKind.wrap_u64];unfold wrap64;omega
set_option maxHeartbeats 1000000 in
set_option maxRecDepth 100000 in
theorem ref_steps_print_calls {w:World}{v:Value}{l:List ByteArray}(h:StrsIn w v l)(hlen:l.length≤1000000):GivesAt Tryz.prog 127 #[v] w (.string (stepsG l)):=by
 obtain ⟨hb,hB⟩:=start w
 have H1:=Lib.hid (ref_may_calls h)
 obtain ⟨A,cap,rfl,hat⟩:=one_at h
 have HAT:=Lib.hid hat
 clear h hat
 unfold GivesAt
 cases hm:mayL l with
 | false =>
  have HG:=Lib.hid (show stepsG l=⟨#[]⟩ by unfold stepsG;rw [hm];rfl)
  rw [hm] at H1
  clear hm
  go_enter Tryz.func127,Tryz.ntmps127
  go_wp2_with (go_at_call 128;refine H1.out.step (w0:=w) (B:=w.heap.size) hb hB ?_;clear hb hB;intro w' hb hB)
  go_ret
  exact ⟨ret_str HG.out.symm,hb⟩
 | true =>
  have HG:=Lib.hid (show stepsG l=mkB (stepsP (numsL l)) by unfold stepsG;rw [hm];rfl)
  rw [hm] at H1
  have HA:=Lib.hid (mayL_of hm)
  have HL:=Lib.hid (numsL_length l)
  have HGET:=Lib.hid (numsL_get l)
  generalize numsL l=ns at *
  clear hm
  go_enter Tryz.func127,Tryz.ntmps127
  go_wp2_with (go_at_call 128;refine H1.out.step (w0:=w) (B:=w.heap.size) hb hB ?_;clear hb hB;intro w1 hb hB)
  go_loopw [3,4,5] (fun v p i wr=>∃ (k:Nat),k≤l.length∧i=.int .i64 k∧p=.int .i64 (lastI 0 (ns.take k))∧v=.string (mkB (stepsP (ns.take k)))∧Below w.heap.size w wr) (fun _ _ i _=>l.length-(intOf i).toNat)
  case atStart=>exact ⟨0,by omega,rfl,rfl,rfl,hb⟩
  case round =>
   clear hb hB
   obtain ⟨k,hk,rfl,rfl,rfl,hb⟩:=hrel
   have hB:=hb.size
   by_cases hlt:k < l.length
   ·obtain ⟨b,off,rfl,hbl,hc⟩:=HAT.out k hlt
    have hx:=(hb.cell (p:=⟨b,off+k,none⟩) hbl).trans (hc k hlt)
    obtain ⟨hkn,hge⟩:=List.getElem?_eq_some_iff.1 (HGET.out k hlt)
    have hS:=steps_step ns k hkn
    have hsz:=stepsB_size 0 (ns.take k)
    rw [List.length_take] at hsz
    have hszz:(mkB (stepsP (ns.take k))).size≤10000000:=by rw [mkB_size];show (stepsB 0 (ns.take k)).length≤_;omega
    have HN:=Lib.hid (ref_num_yes l[k] (HA.out _ (List.getElem_mem hlt)))
    rw [←hge] at HN
    have p1:=Lib.hid (ref_fold_step (lastI 0 (ns.take k)) ns[k])
    have p2:=Lib.hid (ref_print_calls (stepN (lastI 0 (ns.take k)) ns[k]) (stepN_lt _ _))
    have z2:(printB (stepN (lastI 0 (ns.take k)) ns[k])).size≤10:=by rw [print_len];exact vp_len_10 (stepN_lt _ _)
    have hwl:=wrap_less ns[k] (lastI 0 (ns.take k))
    have HS1:Hid (mkB (stepsP (ns.take k))++printB (stepN (lastI 0 (ns.take k)) ns[k])=mkB (stepsP (ns.take (k+1)))):=by
     show _=_
     rw [hS.1,←mkB_append,mkB_of]
    have HS2:=Lib.hid hS.2
    clear hc hS hsz hge
    generalize ns[k]=x at *
    generalize mkB (stepsP (ns.take k))=L at *
    generalize lastI 0 (ns.take k)=p at *
    generalize stepN p x=q at *
    generalize l[k]=c at *
    have t1:¬9223372036854775807 < L.size+(printB q).size:=by omega
    go_wp2_with (first|(go_at_call 157;refine HN.out.step (w0:=w) (B:=w.heap.size) hb hB ?_;clear hb hB hx;intro w2 hb hB)|(go_at_call 101;refine (p1.out _).mono ?_;rintro e w' ⟨rfl,rfl⟩)|(go_at_call 98;refine p2.out.step (w0:=w) (B:=w.heap.size) hb hB ?_;clear hb hB;intro w4 hb hB))
    go_roundw
    case rel=>exact ⟨k+1,by omega,by go_num,by rw [HS2.out],by rw [HS1.out],hb⟩
    case measure=>simp [intOf];omega
   ·obtain rfl:k=l.length:=by omega
    have hln:=HL.out
    rw [List.take_of_length_le (by omega)]
    clear hln
    go_wp2
    go_ret
    exact ⟨ret_str HG.out.symm,hb⟩
set_option maxHeartbeats 1000000 in
set_option maxRecDepth 100000 in
theorem ref_steps_over (b:Nat)(s:ByteArray)(bad:Bool)(many:Int)(h:many < 0∨4096 < many)(w:World)(hT:TapeIn 105 w b s bad) :
  Calls Tryz.prog 152 #[.pointer (some ⟨b,0,none⟩),.int .i64 many] w (StepsRead 105 w b s bad many):=by
 have hc1:=hT.c1
 have hf1:=hT.f0 1
 have hg:=grown_refl w (some b)
 have HN:=Lib.hid (steps_over (s:=s.data.toList) h)
 have hT1:=hT.set1 true
 have hg1:=grown_set hg 1 (.bool true)
 have k1:=hT1.c1
 by_cases h0:many < 0
 ·have d1:decide (many < 0)=true:=by rw [decide_eq_true_eq];exact h0
  have d2:decide ((0:Int) < many)=false:=by rw [decide_eq_false_iff_not];omega
  clear h hT
  go_enter Tryz.func152,Tryz.ntmps152
  go_wp2
  refine wp_loop_rounds 1 ?_
  rw [rounds_succ]
  go_wp2
  go_ret
  exact .inr ⟨s,rfl,hT1,hg1,.inr HN.out⟩
 ·have d1:decide (many < 0)=false:=by rw [decide_eq_false_iff_not];exact h0
  have d2:decide (4096 < many)=true:=by rw [decide_eq_true_eq];omega
  have d3:decide ((0:Int) < many)=true:=by rw [decide_eq_true_eq];omega
  clear h hT
  go_enter Tryz.func152,Tryz.ntmps152
  go_wp2
  refine wp_loop_rounds 1 ?_
  rw [rounds_succ]
  go_wp2
  go_ret
  exact .inr ⟨s,rfl,hT1,hg1,.inr HN.out⟩
set_option maxHeartbeats 2000000 in
set_option maxRecDepth 100000 in
theorem ref_steps_in (b:Nat)(s:ByteArray)(bad:Bool)(M:Nat)(hM:M≤4096)(w:World)(hT:TapeIn 105 w b s bad) :
  Calls Tryz.prog 152 #[.pointer (some ⟨b,0,none⟩),.int .i64 M] w (StepsRead 105 w b s bad M):=by
 obtain ⟨i0,hi,hz0,hz1,hz2⟩:=info_parts Tryz.infoN9
 have hbw:=hT.lt
 have hg:=grown_refl w (some b)
 have HS:=Lib.hid (SState.first s bad (M:Int))
 go_enter Tryz.func152,Tryz.ntmps152
 go_wp2
 go_loopw [5,6,7] (fun v n i wr=>∃ xs cur bb,Hid (SState s bad M xs cur bb)∧xs.length≤M∧i=.int .i64 xs.length∧n=.int .i64 (lastI 0 xs)∧Own wr w.heap.size 1 v xs.length (xs.map fun n=>Value.string (cellInt n))∧TapeIn 105 wr b cur bb∧w.grownBy wr (some b)) (fun _ _ i _=>M-(intOf i).toNat)
 case atStart=>exact ⟨[],s,bad,HS.out,by simp,rfl,rfl,Own.nil_ _ _ _,hT,hg⟩
 case round =>
  clear hT hg HS
  obtain ⟨xs,cur,bb,HS,hxl,rfl,rfl,hO,hT,hg⟩:=hrel
  have c1:=hT.c1
  by_cases hgo:xs.length < M∧bb=false
  ·obtain ⟨hlt,rfl⟩:=hgo
   have HN:=Lib.hid (HS.out.next (by omega))
   have H1:=Lib.hid (ref_tint_calls b cur false)
   have e1:=wrap_more (lastI 0 xs) (openI (numT cur false maxU).1)
   have e2:wrap64 (lastI 0 xs+openI (numT cur false maxU).1)=nextI xs cur false:=rfl
   rw [e2] at e1
   have hrg:=HN.out.1 (nextI xs cur false) (by simp)
   have H2:=Lib.hid (ref_int_calls (nextI xs cur false) hrg.1 hrg.2)
   obtain ⟨m1,m2,m3⟩:=ints_more xs (nextI xs cur false)
   have HM1:=Lib.hid m1
   have HM2:=Lib.hid m2
   have HM3:=Lib.hid m3
   obtain ⟨A,cap,rfl⟩:=hO.len
   clear m1 m2 m3 hrg HS e2
   generalize nextI xs cur false=x at *
   generalize numT cur false maxU=Y at *
   obtain ⟨y,r1,b1⟩:=Y
   simp only at H1 HN e1
   generalize lastI 0 xs=p at *
   generalize cellInt x=c at *
   generalize hxs:xs.map (fun n=>Value.string (cellInt n))=vs at *
   generalize hkl:xs.length=K at *
   clear hxs hkl
   go_wp2_with (first|(go_at_call 119;refine H1.out.stepG hT hg ?_;clear hT hg c1;intro w3 hT hg hq;replace hO:=own_aside hO hbw hq;clear hq)|(go_at_call 178;refine H2.out.stepB (w0:=w3) (B:=w3.heap.size) (.refl _ _) (Nat.le_refl _) ?_;intro w4 _ _ hq;replace hT:=hT.kept hq;replace hg:=grown_trans hg (grown_below hq _);replace hO:=hO.later hq;clear hq;have hB4:w.heap.size≤w4.heap.size:=hg.size)|(at_builtin;refine wpList_append_Own rfl _ _ 44 rfl 9 i0 (.string ⟨#[]⟩) 1 16 Tryz.underlying44 hi hz0 hz1 hz2 rfl (by decide) _ _ _ rfl (Own.alloc hO _) ⟨w4.heap.size,0,none⟩ 1 1 [_] rfl rfl (one_new _ _ _) (one_str _) ?c1 ?c2 (Nat.le_trans hB4 (by simp)) ?_))
   case c1=>unfold maxLen;omega
   case c2=>omega
   intro v5 w5 hO5 hg5
   have hO1:=Own.alloc hO (.cells #[Value.string c] 9)
   have hT5:=(hT.alloc (.cells #[Value.string c] 9)).appended hO1 hbw hg5
   have hgg:=grown_appended (grown_alloc hg (.cells #[Value.string c] 9)) hO1 hg5
   clear hO hT hg hg5 hO1
   go_wp2
   go_roundw
   case rel=>exact ⟨xs++[x],r1,b1,HN.out,by rw [HM2.out];omega,by rw [HM2.out];go_num,by rw [HM3.out],by rw [HM2.out,HM1.out];exact hO5,hT5,hgg⟩
   case measure=>simp [intOf];omega
  ·have hend:(xs.length=M)∨(xs.length < M∧bb=true):=by
    rcases Nat.lt_or_ge xs.length M with h|h
    ·right;exact ⟨h,by cases bb with
      | true=>rfl
      | false=>exact absurd ⟨h,rfl⟩ hgo⟩
    ·left;omega
   have HOO:=Lib.hid hO
   have HTT:=Lib.hid hT
   have HGG:=Lib.hid hg
   obtain ⟨A,cap,rfl⟩:=hO.len
   clear hgo hO hT hg
   rcases hend with hK | ⟨hK,rfl⟩
   ·have hE:=HS.out.last (by omega) (by omega)
    have d1:decide ((xs.length:Int) < (M:Int))=false:=by rw [decide_eq_false_iff_not];omega
    clear HS
    rcases hE with ⟨rfl,rfl,hS⟩ | ⟨rfl,hN⟩
    ·have HS:=Lib.hid hS
     clear hS
     go_wp2
     go_ret
     exact .inl ⟨_,xs,cur.data.toList,rfl,rfl,HS.out,cells_in HOO.out.slice,fun k hk=>(HOO.out.lt k hk).1,by rw [mkB_of];exact HTT.out,HGG.out⟩
    ·have HN:=Lib.hid hN
     clear hN
     go_wp2
     go_ret
     exact .inr ⟨cur,rfl,HTT.out,HGG.out,HN.out⟩
   ·have d1:decide ((xs.length:Int) < (M:Int))=true:=by rw [decide_eq_true_eq];omega
    have HE:Hid (bad=true∨¬∃ l r,StepsAt s.data.toList M l r):=by
     rcases HS.out.2 with ⟨h,_⟩ | ⟨_,h⟩
     ·exact absurd h (by decide)
     ·exact h
    clear HS
    go_wp2
    go_ret
    exact .inr ⟨cur,rfl,HTT.out,HGG.out,HE.out⟩
theorem ref_steps_read_calls (b:Nat)(s:ByteArray)(bad:Bool)(many:Int)(w:World)(hT:TapeIn 105 w b s bad) :
  Calls Tryz.prog 152 #[.pointer (some ⟨b,0,none⟩),.int .i64 many] w (StepsRead 105 w b s bad many):=by
 by_cases h:many < 0∨4096 < many
 ·exact ref_steps_over b s bad many h w hT
 ·obtain ⟨M,rfl⟩:∃ M:Nat,many=(M:Int):=⟨many.toNat,by omega⟩
  exact ref_steps_in b s bad M (by omega) w hT
end Go.Proofs.YtafmbnafibahkaaGreat
