/- The contracts of layer 6's take and Read. -/
import Derived.Test.YtafmbnafibahkaaGreatGStrs
import Derived.Test.YtafmbnafibahkaaGreatGSteps
namespace Go.Proofs.YtafmbnafibahkaaGreat
open Go Go.RowKit
def SState (s:ByteArray)(bad:Bool)(many:Int)(xs:List Int)(cur:ByteArray)(bb:Bool):Prop :=
 InR xs∧((bb=false∧bad=false∧s.data.toList=stepsP xs++cur.data.toList)∨(bb=true∧(bad=true∨¬∃ l r,StepsAt s.data.toList many l r)))
theorem SState.first (s:ByteArray)(bad:Bool)(many:Int):SState s bad many [] s bad:=by
 refine ⟨fun x hx=>absurd hx (by simp),?_⟩
 cases bad with
 | false=>exact .inl ⟨rfl,rfl,rfl⟩
 | true=>exact .inr ⟨rfl,.inl rfl⟩
def nextI (xs:List Int)(cur:ByteArray)(bb:Bool):Int:=wrap64 (lastI 0 xs+openI (numT cur bb maxU).1)
theorem SState.next {s:ByteArray}{bad:Bool}{many:Int}{xs:List Int}{cur:ByteArray}(h:SState s bad many xs cur false)(hl:(xs.length:Int) < many) :
  SState s bad many (xs++[nextI xs cur false]) (numT cur false maxU).2.1 (numT cur false maxU).2.2:=by
 obtain ⟨hr,h⟩:=h
 have hn:=numT_lt cur false maxU
 refine ⟨?_,?_⟩
 ·intro x hx
  rcases List.mem_append.1 hx with hx|hx
  ·exact hr x hx
  ·rw [List.mem_singleton.1 hx];exact wrap64_range _
 rcases h with ⟨_,hb,e⟩ | ⟨h,_⟩
 ·cases hY:(numT cur false maxU).2.2 with
  | false =>
   refine .inl ⟨rfl,hb,?_⟩
   obtain ⟨_,g⟩:=numT_good hY
   have g':cur.data.toList=vp (numT cur false maxU).1++(numT cur false maxU).2.1.data.toList:=by
    rw [←print_data,←data_append];exact congrArg (fun x=>x.data.toList) g
   rw [e,g']
   unfold stepsP nextI
   rw [stepsB_snoc,step_forth _ _ hn,List.append_assoc]
  | true =>
   refine .inr ⟨rfl,.inr ?_⟩
   rintro ⟨l,r,hS⟩
   obtain ⟨u,rest,hu,eu⟩:=hS.more hr e hl
   have hs:cur=printB u++mkB rest:=bytes_ext (by rw [data_append,print_data,mkB_data,eu])
   rw [hs,numT_print u hu (mkB rest) maxU (by unfold maxU;omega)] at hY
   exact absurd hY (by show ¬false=true;decide)
 ·exact absurd h (by decide)
theorem SState.last {s:ByteArray}{bad:Bool}{many:Int}{xs:List Int}{cur:ByteArray}{bb:Bool}(h:SState s bad many xs cur bb)(hl:(xs.length:Int)=many)(hm:many≤4096) :
  (bb=false∧bad=false∧StepsAt s.data.toList many xs cur.data.toList)∨(bb=true∧(bad=true∨¬∃ l r,StepsAt s.data.toList many l r)) :=
 h.2.imp (fun ⟨h1,h2,h3⟩=>⟨h1,h2,by omega,hm,hl,h.1,h3⟩) id
theorem steps_over {s:List UInt8}{many:Int}(h:many < 0∨4096 < many):¬∃ l r,StepsAt s many l r:=by
 rintro ⟨l,r,h0,h1,_⟩;omega
def StepsEnd (T:TypeId)(w:World)(b:Nat)(s:ByteArray)(bad:Bool)(many:Int)(e:Ending)(w':World):Prop :=
 ∃ v l s' bad',e=.returned v∧StrsIn w' v l∧Fresh w.heap.size v∧TapeIn T w' b s' bad'∧w.grownBy w' (some b)∧l.length≤4096 ∧
  ((bad'=false∧bad=false∧∃ xs,l=xs.map cellInt∧StepsAt s.data.toList many xs s'.data.toList)∨(bad'=true∧(bad=true∨¬∃ l r,StepsAt s.data.toList many l r)))
def StepsRead (T:TypeId)(w:World)(b:Nat)(s:ByteArray)(bad:Bool)(many:Int)(e:Ending)(w':World):Prop :=
 (∃ v xs r,e=.returned v∧bad=false∧StepsAt s.data.toList many xs r∧StrsIn w' v (xs.map cellInt)∧Fresh w.heap.size v∧TapeIn T w' b (mkB r) false∧w.grownBy w' (some b)) ∨
 (∃ s0,e=.returned (.slice none 0 0)∧TapeIn T w' b s0 true∧w.grownBy w' (some b)∧(bad=true∨¬∃ l r,StepsAt s.data.toList many l r))
theorem ints_more (xs:List Int)(x:Int):(xs++[x]).map (fun n=>Value.string (cellInt n))=xs.map (fun n=>Value.string (cellInt n))++[Value.string (cellInt x)]∧(xs++[x]).length=xs.length+1∧lastI 0 (xs++[x])=x :=
 ⟨by rw [List.map_append];rfl,by rw [List.length_append];rfl,lastI_snoc _ _ _⟩
theorem cells_in {w:World}{v:Value}{xs:List Int}(h:SliceOf w 1 v xs.length (xs.map fun n=>Value.string (cellInt n))):StrsIn w v (xs.map cellInt):=by
 unfold StrsIn
 rw [List.length_map,List.map_map]
 exact h
theorem Tryz.infoN9:(Tryz.prog.info? 9).map (fun i=>(i.zero,i.size,i.bytes))=some (some (.string ⟨#[]⟩),1,16):=by kernel_rfl
def lenV:Value→Nat
 | .slice _ n _=>n
 | _=>0
set_option maxHeartbeats 1000000 in
set_option maxRecDepth 100000 in
theorem steps_take_over (b:Nat)(s:ByteArray)(bad:Bool)(many:Int)(h:many < 0∨4096 < many)(w:World)(hT:TapeIn 154 w b s bad) :
  Calls Tryz.prog 199 #[.pointer (some ⟨b,0,none⟩),.int .i64 many] w (StepsEnd 154 w b s bad many):=by
 have hc1:=hT.c1
 have hf1:=hT.f0 1
 have hg:=grown_refl w (some b)
 have HN:=Lib.hid (steps_over (s:=s.data.toList) h)
 by_cases h0:many < 0
 ·have d1:decide (many < 0)=true:=by rw [decide_eq_true_eq];exact h0
  clear h
  go_enter Tryz.func199,Tryz.ntmps199
  go_wp2
  go_ret
  exact ⟨_,[],s,true,rfl,SliceOf.nil_ _ _ _ _,fresh_nil _,hT.set1 true,grown_set hg _ _,by simp,.inr ⟨rfl,.inr HN.out⟩⟩
 ·have d1:decide (many < 0)=false:=by rw [decide_eq_false_iff_not];exact h0
  have d2:decide (4096 < many)=true:=by rw [decide_eq_true_eq];omega
  clear h
  go_enter Tryz.func199,Tryz.ntmps199
  go_wp2
  go_ret
  exact ⟨_,[],s,true,rfl,SliceOf.nil_ _ _ _ _,fresh_nil _,hT.set1 true,grown_set hg _ _,by simp,.inr ⟨rfl,.inr HN.out⟩⟩
set_option maxHeartbeats 2000000 in
set_option maxRecDepth 100000 in
theorem steps_take_in (b:Nat)(s:ByteArray)(bad:Bool)(M:Nat)(hM:M≤4096)(w:World)(hT:TapeIn 154 w b s bad) :
  Calls Tryz.prog 199 #[.pointer (some ⟨b,0,none⟩),.int .i64 M] w (StepsEnd 154 w b s bad M):=by
 obtain ⟨i0,hi,hz0,hz1,hz2⟩:=info_parts Tryz.infoN9
 have hbw:=hT.lt
 have hg:=grown_refl w (some b)
 have HS:=Lib.hid (SState.first s bad (M:Int))
 go_enter Tryz.func199,Tryz.ntmps199
 go_wp2
 go_loopw [5,6] (fun v n wr=>∃ xs cur bb,Hid (SState s bad M xs cur bb)∧xs.length≤M∧n=.int .i64 (lastI 0 xs)∧Own wr w.heap.size 1 v xs.length (xs.map fun n=>Value.string (cellInt n))∧TapeIn 154 wr b cur bb∧w.grownBy wr (some b)) (fun v _ _=>M-lenV v)
 case atStart=>exact ⟨[],s,bad,HS.out,by simp,rfl,Own.nil_ _ _ _,hT,hg⟩
 case round =>
  clear hT hg HS
  obtain ⟨xs,cur,bb,HS,hxl,rfl,hO,hT,hg⟩:=hrel
  have c1:=hT.c1
  by_cases hgo:xs.length < M∧bb=false
  ·obtain ⟨hlt,rfl⟩:=hgo
   have HN:=Lib.hid (HS.out.next (by omega))
   have H1:=Lib.hid (tint_calls b cur false)
   have e1:IntKind.i64.wrap (lastI 0 xs+openI (numT cur false maxU).1)=nextI xs cur false:=by unfold nextI wrap64;rw [IntKind.wrap_i64]
   have hrg:=HN.out.1 (nextI xs cur false) (by simp)
   have H2:=Lib.hid (int_calls (nextI xs cur false) hrg.1 hrg.2)
   obtain ⟨m1,m2,m3⟩:=ints_more xs (nextI xs cur false)
   have HM1:=Lib.hid m1
   have HM2:=Lib.hid m2
   have HM3:=Lib.hid m3
   obtain ⟨A,cap,rfl⟩:=hO.len
   clear m1 m2 m3 hrg HS
   generalize nextI xs cur false=x at *
   generalize numT cur false maxU=Y at *
   obtain ⟨y,r1,b1⟩:=Y
   simp only at H1 HN e1
   generalize lastI 0 xs=p at *
   generalize cellInt x=c at *
   generalize hxs:xs.map (fun n=>Value.string (cellInt n))=vs at *
   generalize hkl:xs.length=K at *
   clear hxs hkl
   go_wp2_with (first|(go_at_call 189;refine H1.out.stepG hT hg ?_;clear hT hg c1;intro w3 hT hg hq;replace hO:=own_aside hO hbw hq;clear hq)|(go_at_call 50;refine H2.out.stepB (w0:=w3) (B:=w3.heap.size) (.refl _ _) (Nat.le_refl _) ?_;intro w4 _ _ hq;replace hT:=hT.kept hq;replace hg:=grown_trans hg (grown_below hq _);replace hO:=hO.later hq;clear hq;have hB4:w.heap.size≤w4.heap.size:=hg.size)|(at_builtin;refine wpList_append_Own rfl _ _ 44 rfl 9 i0 (.string ⟨#[]⟩) 1 16 Tryz.underlying44 hi hz0 hz1 hz2 rfl (by decide) _ _ _ rfl (Own.alloc hO _) ⟨w4.heap.size,0,none⟩ 1 1 [_] rfl rfl (one_new _ _ _) (one_str _) ?c1 ?c2 (Nat.le_trans hB4 (by simp)) ?_))
   case c1=>unfold maxLen;omega
   case c2=>omega
   intro v5 w5 hO5 hg5
   have hO1:=Own.alloc hO (.cells #[Value.string c] 9)
   have hT5:=(hT.alloc (.cells #[Value.string c] 9)).appended hO1 hbw hg5
   have hgg:=grown_appended (grown_alloc hg (.cells #[Value.string c] 9)) hO1 hg5
   have hlen:lenV v5=K+1:=by obtain ⟨_,_,rfl⟩:=hO5.len;rfl
   clear hO hT hg hg5 hO1
   go_wp2
   go_roundw
   case rel=>exact ⟨xs++[x],r1,b1,HN.out,by rw [HM2.out];omega,by rw [HM3.out],by rw [HM2.out,HM1.out];exact hO5,hT5,hgg⟩
   case measure=>rw [hlen];simp [lenV];omega
  ·have hend:(xs.length=M)∨(xs.length < M∧bb=true):=by
    rcases Nat.lt_or_ge xs.length M with h|h
    ·right;exact ⟨h,by cases bb with
      | true=>rfl
      | false=>exact absurd ⟨h,rfl⟩ hgo⟩
    ·left;omega
   have hl4:xs.length≤4096:=by omega
   have HOO:=Lib.hid hO
   obtain ⟨A,cap,rfl⟩:=hO.len
   clear hgo hO
   rcases hend with hK | ⟨hK,rfl⟩
   ·have HE:=Lib.hid (HS.out.last (by omega) (by omega))
    have d1:decide ((xs.length:Int) < (M:Int))=false:=by rw [decide_eq_false_iff_not];omega
    clear HS
    go_wp2
    go_ret
    refine ⟨_,xs.map cellInt,cur,bb,rfl,cells_in HOO.out.slice,fun k hk=>(HOO.out.lt k hk).1,hT,hg,by rw [List.length_map];exact hl4,?_⟩
    exact HE.out.imp (fun ⟨h1,h2,h3⟩=>⟨h1,h2,xs,rfl,h3⟩) id
   ·have d1:decide ((xs.length:Int) < (M:Int))=true:=by rw [decide_eq_true_eq];omega
    have HE:Hid (bad=true∨¬∃ l r,StepsAt s.data.toList M l r):=by
     rcases HS.out.2 with ⟨h,_⟩ | ⟨_,h⟩
     ·exact absurd h (by decide)
     ·exact h
    clear HS
    go_wp2
    go_ret
    exact ⟨_,xs.map cellInt,cur,true,rfl,cells_in HOO.out.slice,fun k hk=>(HOO.out.lt k hk).1,hT,hg,by rw [List.length_map];exact hl4,.inr ⟨rfl,HE.out⟩⟩
theorem steps_take_calls (b:Nat)(s:ByteArray)(bad:Bool)(many:Int)(w:World)(hT:TapeIn 154 w b s bad) :
  Calls Tryz.prog 199 #[.pointer (some ⟨b,0,none⟩),.int .i64 many] w (StepsEnd 154 w b s bad many):=by
 by_cases h:many < 0∨4096 < many
 ·exact steps_take_over b s bad many h w hT
 ·obtain ⟨M,rfl⟩:∃ M:Nat,many=(M:Int):=⟨many.toNat,by omega⟩
  exact steps_take_in b s bad M (by omega) w hT
set_option maxHeartbeats 1000000 in
set_option maxRecDepth 100000 in
theorem steps_read_calls (b:Nat)(s:ByteArray)(bad:Bool)(many:Int)(w:World)(hT:TapeIn 154 w b s bad) :
  Calls Tryz.prog 188 #[.pointer (some ⟨b,0,none⟩),.int .i64 many] w (StepsRead 154 w b s bad many):=by
 have hc0:=hT.c0
 have hc1:=hT.c1
 have hbw:=hT.lt
 have HK:=Lib.hid (fun b' w hT=>steps_take_calls b' s bad many w hT)
 go_enter Tryz.func188,Tryz.ntmps188
 go_wp2_with fail
 refine (HK.out _ _ (box_tape w s bad _)).mono ?_
 rintro e w1 ⟨v,l,r,bad',rfl,hi,hfr,hA,hg,hll,hend⟩
 have hb1:=boxed_below hg
 have hT1:=hT.kept hb1
 have hfr':Fresh (w.heap.size+1) v:=by simpa using hfr
 have hB1:=hb1.size
 have HF:=Lib.hid hfr'
 have HI:=Lib.hid hi
 have HTT:=Lib.hid hT1
 have HBB:=Lib.hid hb1
 have c0:=hT1.c0
 have c1:=hT1.c1
 have a0:=hA.c0
 have a1:=hA.c1
 have f0:=hT1.f0 0
 have f1:=hT1.f0 1
 obtain ⟨A,cap,rfl,_⟩:=one_at hi
 clear hT hc0 hc1 hg hfr hfr' hi
 rcases hend with ⟨rfl,rfl,xs,hlx,hS⟩ | ⟨rfl,hN⟩
 ·have HS:=Lib.hid hS
  have HLX:=Lib.hid hlx
  clear hS hlx
  go_wp2
  go_ret
  have hF2:=Fresh.mono HF.out (show w.heap.size≤w.heap.size+1 by omega)
  refine .inl ⟨_,xs,r.data.toList,rfl,rfl,HS.out,?_,hF2,by rw [mkB_of];exact (HTT.out.set0 _).set1 _,grown_set (grown_set (grown_below HBB.out _) _ _) _ _⟩
  rw [←HLX.out]
  exact SliceOf.fresh HI.out HF.out (grown_set (grown_set (grown_refl w1 (some b)) 0 (.string r)) 1 (.bool false)) (by omega)
 ·have HN:=Lib.hid hN
  clear hN
  go_wp2
  go_ret
  exact .inr ⟨s,rfl,HTT.out.set1 _,grown_set (grown_below HBB.out _) _ _,HN.out⟩
end Go.Proofs.YtafmbnafibahkaaGreat
