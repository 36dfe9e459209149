/- The contract of layer 4's Read. -/
import Derived.Test.YtafmbnafibahkaaGreatGStrs
import Derived.Test.YtafmbnafibahkaaGreatGRuns
import Derived.Test.YtafmbnafibahkaaGreatGRepeat
namespace Go.Proofs.YtafmbnafibahkaaGreat
open Go Go.RowKit
def lenI:Value→Nat
 | .slice _ n _=>n
 | _=>0
theorem last_of (rs:List (ByteArray×Nat)):rs=[]∨∃ x,rs.getLast? = some x∧rs=rs.dropLast++[x]:=by
 cases h:rs.getLast? with
 | none=>left;simpa using h
 | some x=>right;exact ⟨x,rfl,dropLast_last rs x h⟩
theorem spread_last {rs:List (ByteArray×Nat)}{x:ByteArray×Nat}(hg:Good rs)(h:rs=rs.dropLast++[x]):1≤many rs∧((spread rs).map Value.string)[many rs-1]? = some (.string x.1):=by
 have h1:1≤x.2:=hg.one_le x (by rw [h];simp)
 have h2:many rs=many rs.dropLast+x.2:=by rw [h,many_append,many_cons,many_nil];simp
 refine ⟨by omega,?_⟩
 have h3:spread rs=spread rs.dropLast++List.replicate x.2 x.1:=by
  conv=>lhs;rw [h]
  rw [spread_append];simp [spread]
 rw [List.getElem?_map,h3,List.getElem?_append_right (by rw [spread_length];omega),spread_length,List.getElem?_replicate,if_pos (by omega)]
 rfl
theorem spread_more (rs:List (ByteArray×Nat))(c:ByteArray)(n:Nat):(spread (rs++[(c,n)])).map Value.string=(spread rs).map Value.string++List.replicate n (Value.string c)∧many (rs++[(c,n)])=many rs+n:=by
 refine ⟨?_,by rw [many_append,many_cons,many_nil];simp⟩
 rw [spread_append,List.map_append]
 congr 1
 simp [spread]
theorem own_kept {w w':World}{B b size n:Nat}{v:Value}{xs:List Value}(h:Own w B size v n xs)(hb:b < B)(hg:w.grownBy w' (some b)):Own w' B size v n xs :=
 h.other hg fun k hk e=>by have:=(h.lt k hk).1;cases e;omega
def TakeEnd (T:TypeId)(w:World)(b:Nat)(s:ByteArray)(many:Int)(e:Ending)(w':World):Prop :=
 ∃ v l s' bad',e=.returned v∧StrsIn w' v l∧Fresh w.heap.size v∧TapeIn T w' b s' bad'∧w.grownBy w' (some b)∧s'.size≤s.size ∧
  ((bad'=false∧RunsAt s.data.toList many l s'.data.toList)∨(bad'=true∧l=[]∧v=.slice none 0 0∧¬∃ l r,RunsAt s.data.toList many l r))
theorem TakeEnd.no {T:TypeId}{w w':World}{b:Nat}{s s':ByteArray}{many:Int}(hT:TapeIn T w' b s' true)(hg:w.grownBy w' (some b))(hs:s'.size≤s.size)(hn:¬∃ l r,RunsAt s.data.toList many l r) :
  TakeEnd T w b s many (.returned (.slice none 0 0)) w' :=
 ⟨_,[],s',true,rfl,SliceOf.nil_ _ _ _ _,fresh_nil _,hT,hg,hs,.inr ⟨rfl,rfl,rfl,hn⟩⟩
set_option maxHeartbeats 1000000 in
set_option maxRecDepth 100000 in
theorem runs_take_over (b:Nat)(s:ByteArray)(bad:Bool)(many:Int)(h:many < 0∨4096 < many)(w:World)(hT:TapeIn 154 w b s bad) :
  Calls Tryz.prog 197 #[.pointer (some ⟨b,0,none⟩),.int .i64 many] w fun e w'=>e=.returned (.slice none 0 0)∧TapeIn 154 w' b s true∧w.grownBy w' (some b):=by
 have hc1:=hT.c1
 have hf1:=hT.f0 1
 have hg:=grown_refl w (some b)
 by_cases h0:many < 0
 ·have d1:decide (many < 0)=true:=by rw [decide_eq_true_eq];exact h0
  go_enter Tryz.func197,Tryz.ntmps197
  go_wp2
  go_ret
  exact ⟨rfl,hT.set1 true,grown_set hg _ _⟩
 ·have d1:decide (many < 0)=false:=by rw [decide_eq_false_iff_not];exact h0
  have d2:decide (4096 < many)=true:=by rw [decide_eq_true_eq];omega
  go_enter Tryz.func197,Tryz.ntmps197
  go_wp2
  go_ret
  exact ⟨rfl,hT.set1 true,grown_set hg _ _⟩
set_option maxHeartbeats 2000000 in
set_option maxRecDepth 100000 in
theorem runs_take_in (b:Nat)(s:ByteArray)(M:Nat)(hM:M≤4096)(hs:s.size≤9223372036854775807)(w:World)(hT:TapeIn 154 w b s false) :
  Calls Tryz.prog 197 #[.pointer (some ⟨b,0,none⟩),.int .i64 M] w (TakeEnd 154 w b s M):=by
 obtain ⟨s0,hs0,hsz0,hsz1,hsz2⟩:=info_parts Tryz.infoS9
 have hg:=grown_refl w (some b)
 have hbb:=hT.lt
 go_enter Tryz.func197,Tryz.ntmps197
 go_wp2
 go_loopw [5] (fun v wr=>∃ rs cur,Hid (Stage s M rs cur)∧Own wr w.heap.size 1 v (many rs) ((spread rs).map Value.string)∧TapeIn 154 wr b cur false∧w.grownBy wr (some b)) (fun v _=>M-lenI v)
 case atStart=>exact ⟨[],s,Stage.first s M,Own.nil_ _ _ _,hT,hg⟩
 case round =>
  clear hT hg
  obtain ⟨rs,cur,hS,hO,hT,hg⟩:=hrel
  have hbw:b < w.heap.size:=hbb
  have hml:=hS.out.le
  by_cases hlt:many rs < M
  ·have hcs:=hS.out.size
   have HA:=readT_as cur
   have H1:=Lib.hid (readCell_calls b cur false (by omega))
   have hx1:(readT cur false).2.1.size≤cur.size:=by
    unfold readT;split
    ·exact cellT_size _ _
    ·exact Nat.le_refl _
   have hNone:=hS.out.none HA hlt
   have hNext:=hS.out.next HA
   generalize readT cur false=X at *
   obtain ⟨c,r1,b1⟩:=X
   have H2:=Lib.hid (tnum_calls b r1 b1 ((M-many rs:Nat):Int))
   have hx2:=numT_size r1 b1 ((M-many rs:Nat):Int)
   simp only at hNone hNext hx1 H1
   generalize numT r1 b1 ((M-many rs:Nat):Int)=Y at *
   obtain ⟨n,r2,b2⟩:=Y
   simp only at hNone hNext hx2 H2
   have q1:(M:Int)-(many rs:Int)=((M-many rs:Nat):Int):=by omega
   have q2:IntKind.u64.wrap ((M-many rs:Nat):Int)=((M-many rs:Nat):Int):=wrap_lt _ (by omega)
   obtain ⟨A,cap,rfl⟩:=hO.len
   by_cases hn0:n=0
   ·subst hn0
    have HN:=Lib.hid (hNone (.inl rfl))
    clear hNone hNext HA hS
    go_wp2_with (first|(go_at_call 205;refine H1.out.stepG hT hg ?_;clear hT hg;intro w1 hT hg _)|(go_at_call 185;refine H2.out.stepG hT hg ?_;clear hT hg;intro w2 hT hg _;have c1:=hT.c1;have f1:=hT.f0 1))
    go_ret
    exact TakeEnd.no (hT.set1 true) (grown_set hg _ _) (by omega) HN.out
   ·have hn1:((n:Int)==0)=false:=by rw [beq_eq_false_iff_ne];omega
    replace hNext:=hNext hn0
    by_cases hlast:∃ y,rs.getLast? = some y∧y.1=c
    ·have HN:=Lib.hid (hNone (.inr hlast))
     obtain ⟨y,hy,rfl⟩:=hlast
     obtain ⟨hK1,hcv⟩:=spread_last hS.out.good (dropLast_last rs y hy)
     obtain ⟨g,o,cap,hve⟩:=hO.some_ (by omega)
     rw [hve] at hO
     simp only [Value.slice.injEq] at hve
     obtain ⟨rfl,_,rfl⟩:=hve
     have HC:=Lib.hid hcv
     generalize many rs=K at *
     have q3:IntKind.i64.wrap ((K:Int)-1)=(K:Int)-1:=IntWalk.i64_in _ (by omega)
     have q4:(0:Int)≤(K:Int)-1:=by omega
     have q5:((K:Int)-1).toNat=K-1:=by omega
     have q6:(K:Int)-1 < (K:Int):=by omega
     have q7:decide (0 < (K:Int))=true:=by rw [decide_eq_true_eq];omega
     clear hNone hNext HA hS hcv
     go_wp2_with (first|(go_at_call 205;refine H1.out.stepG hT hg ?_;clear hT hg;intro w1 hT hg hq;replace hO:=own_kept hO hbw hq;clear hq)|(go_at_call 185;refine H2.out.stepG hT hg ?_;clear hT hg;intro w2 hT hg hq;replace hO:=own_kept hO hbw hq;clear hq;have c1:=hT.c1;have f1:=hT.f0 1;have hcl:=hO.parts.2.2.2.1 (K-1) _ HC.out))
     go_ret
     exact TakeEnd.no (hT.set1 true) (grown_set hg _ _) (by omega) HN.out
    ·obtain ⟨e1,e2,hnM,hSt⟩:=hNext (fun y hy he=>hlast ⟨y,hy,he⟩)
     subst e1
     subst e2
     have HSt:=Lib.hid hSt
     obtain ⟨m1,m2⟩:=spread_more rs c n
     have HM1:=Lib.hid m1
     have HM2:=Lib.hid m2
     generalize hK:many rs=K at *
     generalize hXS:(spread rs).map Value.string=xs at *
     have hne:K=0∨∃ g o d,0 < K∧A=some ⟨g,o,none⟩∧xs[K-1]? = some (.string d)∧d≠c:=by
      rcases last_of rs with e | ⟨x,hl,e⟩
      ·left;rw [←hK,e];rfl
      ·right
       obtain ⟨hK1,hcv⟩:=spread_last hS.out.good e
       obtain ⟨g,o,cap',hve⟩:=hO.some_ (by omega)
       simp only [Value.slice.injEq] at hve
       exact ⟨g,o,x.1,by omega,hve.1,by rw [←hXS,←hK];exact hcv,fun he=>hlast ⟨x,hl,he⟩⟩
     have hr2s:r2.size≤s.size:=by omega
     clear hNone hNext HA hS hSt hlast m1 m2 hK hXS
     rcases hne with rfl | ⟨g,o,d,h0,rfl,hcv,hd⟩
     case' inr =>
      have HC:=Lib.hid hcv
      obtain ⟨_,g1,g2⟩:=(str_ne_cases c d).resolve_left (fun x=>hd x.1.symm)
      have q3:IntKind.i64.wrap ((K:Int)-1)=(K:Int)-1:=IntWalk.i64_in _ (by omega)
      have q4:(0:Int)≤(K:Int)-1:=by omega
      have q5:((K:Int)-1).toNat=K-1:=by omega
      have q6:(K:Int)-1 < (K:Int):=by omega
      have q7:decide (0 < (K:Int))=true:=by rw [decide_eq_true_eq];omega
      clear hcv hd
      go_wp2_with (first|(go_at_call 205;refine H1.out.stepG hT hg ?_;clear hT hg;intro w1 hT hg hq;replace hO:=own_kept hO hbw hq;clear hq)|(go_at_call 185;refine H2.out.stepG hT hg ?_;clear hT hg;intro w2 hT hg hq;replace hO:=own_kept hO hbw hq;clear hq;have hcl:=hO.parts.2.2.2.1 (K-1) _ HC.out))
      clear hcl
     case' inl =>
      go_wp2_with (first|(go_at_call 205;refine H1.out.stepG hT hg ?_;clear hT hg;intro w1 hT hg hq;replace hO:=own_kept hO hbw hq;clear hq)|(go_at_call 185;refine H2.out.stepG hT hg ?_;clear hT hg;intro w2 hT hg hq;replace hO:=own_kept hO hbw hq;clear hq))
     all_goals
      have hn2:1≤n:=by omega
      have hlit:StrsIn (w2.alloc (.cells #[Value.string c] 9)) (.slice (some ⟨w2.heap.size,0,none⟩) 1 1) [c]:=lit_ones Value.string w2 9 [c] (by simp)
      refine (repeat_calls hlit n hn2 (by omega)).mono ?_
      rintro e w3 ⟨v3,rfl,hi,_,hq⟩
      have hq2:=lit_below hq
      replace hT:=hT.kept hq2
      replace hO:=hO.later hq2
      replace hg:=grown_trans hg (grown_below hq2 (some b))
      have hB3:w.heap.size≤w3.heap.size:=hg.size
      clear hq hq2 hlit
      rcases hi.parts with ⟨hz,_⟩ | ⟨_,b3,o3,cap3,rfl,_,hc3⟩
      ·exact absurd (congrArg List.length hz) (by rw [List.length_replicate,List.length_nil];omega)
      have HC3:Hid (∀ j u,(List.replicate n (Value.string c))[j]? = some u→w3.cell? ((⟨b3,o3,none⟩:Addr).add j)=some u):=by
       intro j u hj
       obtain ⟨hj1,hj2⟩:=List.getElem?_eq_some_iff.1 hj
       rw [List.length_replicate] at hj1
       rw [List.getElem_replicate] at hj2
       have:=hc3 j (by rw [List.length_replicate];exact hj1)
       rw [List.getElem_replicate] at this
       rw [Addr.add_lit,←hj2];exact this
      rw [List.length_replicate]
      clear hi hc3
      go_wp2_with (at_builtin;refine wpList_append_Own rfl _ _ 44 rfl 9 s0 (.string ⟨#[]⟩) 1 16 Tryz.underlying44 hs0 hsz0 hsz1 hsz2 rfl (by decide) _ _ _ rfl hO ⟨b3,o3,none⟩ n cap3 (List.replicate n (Value.string c)) rfl (by rw [List.length_replicate,Nat.mul_one]) HC3.out (one_rep _ _ rfl) ?c1 ?c2 hB3 ?_)
      case c1=>unfold maxLen;omega
      case c2=>omega
      intro v4 w4 hO4 hg4
      have hT4:=hT.appended hO hbw hg4
      have hgg:=grown_appended hg hO hg4
      rw [←HM1.out] at hO4
      replace hO4:Own w4 w.heap.size 1 v4 (many (rs++[(c,n)])) ((spread (rs++[(c,n)])).map Value.string):=by rw [HM2.out];first|exact hO4|(rw [Nat.zero_add];exact hO4)
      obtain ⟨_,_,hv4⟩:=hO4.len
      clear hO hT hg hg4 HC3
      go_wp2
      go_roundw
      case rel=>exact ⟨_,r2,HSt.out,hO4,hT4,hgg⟩
      case measure=>rw [hv4];simp only [lenI];rw [HM2.out];omega
  ·obtain hK:many rs=M:=by omega
   obtain ⟨_,_,hv⟩:=hO.len
   have HL:=Lib.hid (hS.out.last hM hK)
   subst hv
   have hcs:=hS.out.size
   clear hS
   go_wp2
   go_ret
   exact ⟨_,spread rs,cur,false,rfl,by unfold StrsIn;rw [spread_length];exact hO.slice,fun k hk=>(hO.lt k hk).1,hT,hg,hcs,.inl ⟨rfl,HL.out⟩⟩
set_option maxHeartbeats 1000000 in
set_option maxRecDepth 100000 in
theorem runsRead_no (b:Nat)(s:ByteArray)(bad:Bool)(many:Int)
  (hk:∀ b' w,TapeIn 154 w b' s bad→Calls Tryz.prog 197 #[.pointer (some ⟨b',0,none⟩),.int .i64 many] w fun e w'=>∃ s',e=.returned (.slice none 0 0)∧TapeIn 154 w' b' s' true∧w.grownBy w' (some b')) :
  Takes Tryz.prog 154 186 [.int .i64 many] b s bad (.slice none 0 0) s true:=by
 intro w hT
 have hc0:=hT.c0
 have hc1:=hT.c1
 have HK:=Lib.hid hk
 clear hk
 go_enter Tryz.func186,Tryz.ntmps186
 go_wp2_with fail
 refine (HK.out _ _ (box_tape w s bad _)).mono ?_
 rintro e w1 ⟨s',rfl,hA,hg⟩
 have hb1:=boxed_below hg
 have hT1:=hT.kept hb1
 clear hT hc0 hc1 hg
 have c0:=hT1.c0
 have c1:=hT1.c1
 have a0:=hA.c0
 have a1:=hA.c1
 have f0:=hT1.f0 0
 have f1:=hT1.f0 1
 go_wp2
 go_ret
 exact ⟨rfl,hT1.set1 _,grown_set (grown_below hb1 _) _ _⟩
set_option maxHeartbeats 1000000 in
set_option maxRecDepth 100000 in
theorem runsRead_yes (b:Nat)(s:ByteArray)(many:Int)(l:List ByteArray)(r:ByteArray)
  (hk:∀ b' w,TapeIn 154 w b' s false→Calls Tryz.prog 197 #[.pointer (some ⟨b',0,none⟩),.int .i64 many] w fun e w'=>∃ v,e=.returned v∧StrsIn w' v l∧Fresh w.heap.size v∧TapeIn 154 w' b' r false∧w.grownBy w' (some b')) :
  TakesStrs Tryz.prog 154 186 [.int .i64 many] b s l r:=by
 intro w hT
 have hc0:=hT.c0
 have hc1:=hT.c1
 have hbw:=hT.lt
 have HK:=Lib.hid hk
 clear hk
 go_enter Tryz.func186,Tryz.ntmps186
 go_wp2_with fail
 refine (HK.out _ _ (box_tape w s false _)).mono ?_
 rintro e w1 ⟨v,rfl,hi,hf,hA,hg⟩
 have hb1:=boxed_below hg
 have hT1:=hT.kept hb1
 obtain ⟨A,cap,rfl,_⟩:=one_at hi
 clear hT hc0 hc1 hg
 have c0:=hT1.c0
 have c1:=hT1.c1
 have a0:=hA.c0
 have a1:=hA.c1
 have f0:=hT1.f0 0
 have f1:=hT1.f0 1
 have hf':Fresh (w.heap.size+1) (.slice A l.length cap):=by simpa using hf
 clear hf
 go_wp2
 go_ret
 refine ⟨_,rfl,?_,hf'.mono (by omega),(hT1.set0 _).set1 _,grown_set (grown_set (grown_below hb1 _) _ _) _ _⟩
 exact SliceOf.fresh hi hf' (grown_set (grown_set (grown_refl w1 (some b)) 0 (.string r)) 1 (.bool false)) (by omega)
theorem runs_read_some (b:Nat)(s:ByteArray)(hs:s.size≤9223372036854775807){many:Int}{l:List ByteArray}{r:List UInt8}(h:RunsAt s.data.toList many l r) :
  TakesStrs Tryz.prog 154 186 [.int .i64 many] b s l (mkB r):=by
 obtain ⟨M,rfl⟩:∃ M:Nat,many=(M:Int):=⟨many.toNat,by have:=h.1;omega⟩
 refine runsRead_yes b s M l (mkB r) fun b' w hT=>(runs_take_in b' s M (by have:=h.2.1;omega) hs w hT).mono ?_
 rintro e w' ⟨v,l',s',bad',he,hi,hf,hT',hg,_,hend⟩
 rcases hend with ⟨rfl,hR⟩ | ⟨_,_,_,hn⟩
 ·obtain ⟨rfl,rfl⟩:=h.same hR
  rw [mkB_of]
  exact ⟨v,he,hi,hf,hT',hg⟩
 ·exact absurd ⟨l,r,h⟩ hn
theorem runs_read_none (b:Nat)(s:ByteArray)(hs:s.size≤9223372036854775807)(many:Int)(h:¬∃ l r,RunsAt s.data.toList many l r) :
  Takes Tryz.prog 154 186 [.int .i64 many] b s false (.slice none 0 0) s true:=by
 refine runsRead_no b s false many fun b' w hT=>?_
 by_cases hm:many < 0∨4096 < many
 ·exact (runs_take_over b' s false many hm w hT).mono fun _ _ ⟨h1,h2,h3⟩=>⟨s,h1,h2,h3⟩
 ·obtain ⟨M,rfl⟩:∃ M:Nat,many=(M:Int):=⟨many.toNat,by omega⟩
  refine (runs_take_in b' s M (by omega) hs w hT).mono ?_
  rintro e w' ⟨v,l',s',bad',he,hi,hf,hT',hg,_,hend⟩
  rcases hend with ⟨rfl,hR⟩ | ⟨rfl,_,rfl,_⟩
  ·exact absurd ⟨l',_,hR⟩ h
  ·exact ⟨s',he,hT',hg⟩
set_option maxHeartbeats 1000000 in
set_option maxRecDepth 100000 in
theorem runs_take_badtape (b:Nat)(s:ByteArray)(M:Nat)(hM:M≤4096)(hs:s.size≤9223372036854775807)(w:World)(hT:TapeIn 154 w b s true) :
  Calls Tryz.prog 197 #[.pointer (some ⟨b,0,none⟩),.int .i64 M] w fun e w'=>∃ s',e=.returned (.slice none 0 0)∧TapeIn 154 w' b s' true∧w.grownBy w' (some b):=by
 have hg:=grown_refl w (some b)
 by_cases h0:M=0
 ·subst h0
  go_enter Tryz.func197,Tryz.ntmps197
  go_wp2
  go_loopw [5] (fun v wr=>v=.slice none 0 0∧TapeIn 154 wr b s true∧w.grownBy wr (some b)) (fun _ _=>0)
  case atStart=>exact ⟨rfl,hT,hg⟩
  case round =>
   obtain ⟨rfl,hT,hg⟩:=hrel
   go_wp2
   go_ret
   exact ⟨s,rfl,hT,hg⟩
 ·have H1:Hid (Takes Tryz.prog 154 205 [] b s true (.string ⟨#[]⟩) s true):=readCell_calls b s true hs
  have H2:Hid (∀ m:Int,Takes Tryz.prog 154 185 [.int .u64 m] b s true (.int .u64 0) s true):=fun m=>tnum_calls b s true m
  have hM0:(0:Int) < (M:Int):=by omega
  have q2:IntKind.u64.wrap (M:Int)=(M:Int):=wrap_lt _ (by omega)
  go_enter Tryz.func197,Tryz.ntmps197
  go_wp2
  go_loopw [5] (fun v wr=>v=.slice none 0 0∧TapeIn 154 wr b s true∧w.grownBy wr (some b)) (fun _ _=>0)
  case atStart=>exact ⟨rfl,hT,hg⟩
  case round =>
   clear hT hg
   obtain ⟨rfl,hT,hg⟩:=hrel
   go_wp2_with (first|(go_at_call 205;refine H1.out.stepG hT hg ?_;clear hT hg;intro w1 hT hg _)|(go_at_call 185;refine (H2.out _).stepG hT hg ?_;clear hT hg;intro w2 hT hg _;have c1:=hT.c1;have f1:=hT.f0 1))
   go_ret
   exact ⟨s,rfl,hT.set1 true,grown_set hg _ _⟩
theorem runs_read_badtape (b:Nat)(s:ByteArray)(hs:s.size≤9223372036854775807)(many:Int) :
  Takes Tryz.prog 154 186 [.int .i64 many] b s true (.slice none 0 0) s true:=by
 refine runsRead_no b s true many fun b' w hT=>?_
 by_cases hm:many < 0∨4096 < many
 ·exact (runs_take_over b' s true many hm w hT).mono fun _ _ ⟨h1,h2,h3⟩=>⟨s,h1,h2,h3⟩
 ·obtain ⟨M,rfl⟩:∃ M:Nat,many=(M:Int):=⟨many.toNat,by omega⟩
  exact runs_take_badtape b' s M (by omega) hs w hT
end Go.Proofs.YtafmbnafibahkaaGreat
