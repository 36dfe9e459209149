/- The contract of the answer's Join of layer 7. -/
import Derived.Test.YtafmbnafibahkaaGreatGVary
import Derived.Test.YtafmbnafibahkaaGreatGVaryRead
import Derived.Test.YtafmbnafibahkaaGreatGStrs
import Derived.Test.YtafmbnafibahkaaGreatGGaps
import Derived.StillTailTactics
import Derived.Deep.RegionWith
namespace Go.Proofs.YtafmbnafibahkaaGreat
open Go Go.RowKit
def Cut (l:List Bool)(a:List Nat)(n:Nat):Prop:=lensOf l=a++[n]
theorem cut_first:Cut [] [] 0:=rfl
theorem cut_len {l:List Bool}{a:List Nat}{n:Nat}(h:Cut l a n):sumN a+n=l.length∧a.length≤l.length:=by
 unfold Cut at h
 have h1:=sumN_lensOf l
 rw [h,sumN_append] at h1
 simp only [sumN] at h1
 refine ⟨by omega,?_⟩
 obtain ⟨g,_⟩:=lensOf_good l
 rw [h] at g
 obtain ⟨m,tl,e,h2⟩:=g
 have h3:∀ (tl:List Nat),(∀ k∈tl,1≤k)→tl.length≤sumN tl:=by
  intro tl
  induction tl with
  | nil=>intro _;simp
  | cons x tl ih =>
   intro h
   have:=h x List.mem_cons_self
   have:=ih (fun k hk=>h k (List.mem_cons_of_mem _ hk))
   simp only [sumN,List.length_cons];omega
 have h4:=h3 tl h2
 have h5:=congrArg List.length e
 have h6:=congrArg sumN e
 rw [sumN_append] at h6
 simp only [sumN] at h6
 rw [List.length_append] at h5
 simp only [List.length_cons,List.length_nil] at h5
 omega
theorem cut_same {l:List Bool}{a:List Nat}{n:Nat}(h:Cut l a n){k:Nat}{m:List Bool}(hk:k < m.length)(hm:l=m.take k)(hx:m[k]=flip true a.length):Cut (m.take (k+1)) a (n+1):=by
 unfold Cut at h ⊢
 rw [take_add m k hk,←hm,lensOf_snoc,h]
 unfold addGap
 rw [nowOf_flip,if_pos hx,bump_eq]
theorem cut_turn {l:List Bool}{a:List Nat}{n:Nat}(h:Cut l a n){k:Nat}{m:List Bool}(hk:k < m.length)(hm:l=m.take k)(hx:m[k]≠flip true a.length):Cut (m.take (k+1)) (a++[n]) 1:=by
 unfold Cut at h ⊢
 rw [take_add m k hk,←hm,lensOf_snoc,h]
 unfold addGap
 rw [nowOf_flip,if_neg hx]
theorem gapsB_snoc (a:List Nat)(n:Nat):gapsB (a++[n])=gapsB a++(printB n).data.toList:=by
 rw [gapsB_append,print_data];simp [gapsB]
theorem gapsB_size (a:List Nat)(h:∀ n∈a,n < 18446744073709551616):(gapsB a).length≤10*a.length:=by
 induction a with
 | nil=>simp [gapsB]
 | cons x a ih =>
  have h1:=vp_len_10 (h x List.mem_cons_self)
  have h2:=ih (fun k hk=>h k (List.mem_cons_of_mem _ hk))
  rw [gapsB_cons,List.length_append,List.length_cons];omega
theorem cut_end {l:List Bool}{a:List Nat}{n:Nat}(h:Cut l a n):mkB (gapsB a)++printB n=gapsT l:=by
 unfold gapsT gapsP
 unfold Cut at h
 rw [h,gapsB_snoc,←mkB_append,mkB_of]
theorem cut_small {l:List Bool}{a:List Nat}{n:Nat}(h:Cut l a n)(hl:l.length≤1000000):n≤1000000∧(gapsB a).length≤10000000:=by
 obtain ⟨h1,h2⟩:=cut_len h
 refine ⟨by omega,?_⟩
 have:=gapsB_size a (fun k hk=>by have:=sumN_le k hk;omega)
 omega
theorem gapsT_size (l:List Bool)(h:l.length≤1000000):(gapsT l).size≤20000000:=by
 unfold gapsT gapsP
 rw [mkB_size]
 obtain ⟨⟨n,tl,e,h1⟩,_⟩:=lensOf_good l
 have hs:=sumN_lensOf l
 have h2:=gapsB_size (lensOf l) (fun k hk=>by have:=sumN_le k hk;omega)
 have h3:∀ (tl:List Nat),(∀ k∈tl,1≤k)→tl.length≤sumN tl:=by
  intro tl
  induction tl with
  | nil=>intro _;simp
  | cons x tl ih =>
   intro h
   have:=h x List.mem_cons_self
   have:=ih (fun k hk=>h k (List.mem_cons_of_mem _ hk))
   simp only [sumN,List.length_cons];omega
 have h4:=h3 tl h1
 rw [e] at h2 hs ⊢
 simp only [sumN,List.length_cons] at h2 hs
 omega
set_option maxHeartbeats 1000000 in
set_option maxRecDepth 100000 in
theorem ref_gaps_print_calls {w:World}{v:Value}{l:List Bool}(h:BoolsIn w v l)(hlen:l.length≤1000000):GivesAt Tryz.prog 97 #[v] w (.string (gapsT l)):=by
 obtain ⟨hb,hB⟩:=start w
 obtain ⟨A,cap,rfl,hat⟩:=one_at h
 have HAT:=Lib.hid hat
 clear h hat
 unfold GivesAt
 go_enter Tryz.func97,Tryz.ntmps97
 go_wp2
 go_loopw [3,4,5,6] (fun v y n i wr=>∃ (k:Nat) (a:List Nat) (m:Nat),k≤l.length∧i=.int .i64 k∧Hid (Cut (l.take k) a m)∧m≤1000000∧(gapsB a).length≤10000000∧y=.bool (flip true a.length)∧n=.int .u64 m∧v=.string (mkB (gapsB a))∧Below w.heap.size w wr) (fun _ _ _ i _=>l.length-(intOf i).toNat)
 case atStart=>exact ⟨0,[],0,by omega,rfl,cut_first,by omega,by simp [gapsB],rfl,rfl,rfl,hb⟩
 case round =>
  clear hb hB
  obtain ⟨k,a,m,hk,rfl,HC,hm,hga,rfl,rfl,rfl,hb⟩:=hrel
  have hB:=hb.size
  have p1:=Lib.hid (ref_print_calls m (by omega))
  have z1:(printB m).size≤10:=by rw [print_len];exact vp_len_10 (by omega)
  have hLs:(mkB (gapsB a)).size=(gapsB a).length:=mkB_size _
  by_cases hlt:k < l.length
  ·obtain ⟨b,off,rfl,hbl,hc⟩:=HAT.out k hlt
   have hx:=(hb.cell (p:=⟨b,off+k,none⟩) hbl).trans (hc k hlt)
   have HS:=Lib.hid (cut_same HC.out hlt rfl)
   have HT:=Lib.hid (cut_turn HC.out hlt rfl)
   have HG:=Lib.hid (gapsB_snoc a m)
   have HFS:=Lib.hid (show flip true (a++[m]).length = !flip true a.length from by
    rw [List.length_append,List.length_singleton,←flip_succ true a.length];unfold flip;split <;> simp)
   have t1:¬9223372036854775807 < (mkB (gapsB a)).size+(printB m).size:=by omega
   have q1:IntKind.u64.wrap ((m:Int)+1)=((m+1:Nat):Int):=by rw [show (m:Int)+1=((m+1:Nat):Int) by omega];exact wrap_lt _ (by omega)
   clear hc
   generalize l[k]=x at *
   generalize hy:flip true a.length=y at *
   have HY:=Lib.hid hy
   clear hy
   by_cases hxy:x=y
   ·have HC1:=Lib.hid (HS.out hxy)
    have hsm:=cut_small HC1.out (by rw [List.length_take];omega)
    subst hxy
    clear HS HT t1
    cases x
    all_goals
     go_wp2
     go_roundw
     case rel=>exact ⟨k+1,a,m+1,by omega,by go_num,HC1.out,hsm.1,hsm.2,by rw [HY.out],by go_num,rfl,hb⟩
     case measure=>simp [intOf];omega
   ·have HC1:=Lib.hid (HT.out hxy)
    have hsm:=cut_small HC1.out (by rw [List.length_take];omega)
    have HXY:Hid (x = !y):=by show _=_;cases x <;> cases y <;> simp_all
    obtain rfl:=HXY.out
    clear HS HT hxy HXY
    have HM:Hid (mkB (gapsB a)++printB m=mkB (gapsB (a++[m]))):=by
     show _=_
     rw [HG.out,←mkB_append,mkB_of]
    cases y
    all_goals
     go_wp2_with (go_at_call 98;refine p1.out.step (w0:=w) (B:=w.heap.size) hb hB ?_;clear hb hB hx;intro w4 hb hB)
     go_roundw
     case rel=>exact ⟨k+1,a++[m],1,by omega,by go_num,HC1.out,by omega,hsm.2,by rw [HFS.out];rfl,by go_num,by rw [HM.out],hb⟩
     case measure=>simp [intOf];omega
  ·obtain rfl:k=l.length:=by omega
   have HE:=cut_end HC.out
   rw [List.take_length] at HE
   have HEE:=Lib.hid HE
   have t1:¬9223372036854775807 < (mkB (gapsB a)).size+(printB m).size:=by omega
   clear HE
   go_wp2_with (go_at_call 98;refine p1.out.step (w0:=w) (B:=w.heap.size) hb hB ?_;clear hb hB;intro w4 hb hB)
   go_ret
   exact ⟨ret_str HEE.out,hb⟩
set_option maxHeartbeats 1000000 in
set_option maxRecDepth 100000 in
theorem gaps_print_calls {w:World}{v:Value}{l:List Bool}(h:BoolsIn w v l)(hlen:l.length≤1000000):GivesAt Tryz.prog 115 #[v] w (.string (gapsT l)):=by
 obtain ⟨i0,hi,hz0,hz1,hz2⟩:=info_parts Tryz.infoB5
 obtain ⟨hb,hB⟩:=start w
 obtain ⟨A,cap,rfl,hat⟩:=one_at h
 have HAT:=Lib.hid hat
 clear h hat
 unfold GivesAt
 go_enter Tryz.func115,Tryz.ntmps115
 go_wp2
 go_loopw [3,4,5,10] (fun v y n i wr=>∃ (k:Nat) (a:List Nat) (m:Nat),k≤l.length∧i=.int .i64 k∧Hid (Cut (l.take k) a m)∧m≤1000000∧(gapsB a).length≤10000000∧y=.bool (flip true a.length)∧n=.int .u64 m∧RowB wr w.heap.size 5 v (gapsB a)∧Below w.heap.size w wr) (fun _ _ _ i _=>l.length-(intOf i).toNat)
 case atStart=>exact ⟨0,[],0,by omega,rfl,cut_first,by omega,by simp [gapsB],rfl,rfl,World.ownsRow_nil _ _ _ _,hb⟩
 case round =>
  clear hb hB
  obtain ⟨k,a,m,hk,rfl,HC,hm,hga,rfl,rfl,hrow,hb⟩:=hrel
  have hB:=hb.size
  have p1:=Lib.hid (print_calls m (by omega))
  have z1:(printB m).size≤10:=by rw [print_len];exact vp_len_10 (by omega)
  by_cases hlt:k < l.length
  ·obtain ⟨b,off,rfl,hbl,hc⟩:=HAT.out k hlt
   have hx:=(hb.cell (p:=⟨b,off+k,none⟩) hbl).trans (hc k hlt)
   have HS:=Lib.hid (cut_same HC.out hlt rfl)
   have HT:=Lib.hid (cut_turn HC.out hlt rfl)
   have HG:=Lib.hid (gapsB_snoc a m)
   have HFS:=Lib.hid (show flip true (a++[m]).length = !flip true a.length from by
    rw [List.length_append,List.length_singleton,←flip_succ true a.length];unfold flip;split <;> simp)
   have q1:IntKind.u64.wrap ((m:Int)+1)=((m+1:Nat):Int):=by rw [show (m:Int)+1=((m+1:Nat):Int) by omega];exact wrap_lt _ (by omega)
   clear hc
   generalize l[k]=x at *
   generalize hy:flip true a.length=y at *
   have HY:=Lib.hid hy
   clear hy
   by_cases hxy:x=y
   ·have HC1:=Lib.hid (HS.out hxy)
    have hsm:=cut_small HC1.out (by rw [List.length_take];omega)
    have HR:=Lib.hid hrow
    obtain ⟨_,_,rfl⟩:=(hrow.own (by unfold maxLen;omega)).len
    subst hxy
    clear HS HT hrow
    cases x
    all_goals
     go_wp2
     go_roundw
     case rel=>exact ⟨k+1,a,m+1,by omega,by go_num,HC1.out,hsm.1,hsm.2,by rw [HY.out],by go_num,HR.out,hb⟩
     case measure=>simp [intOf];omega
   ·have HC1:=Lib.hid (HT.out hxy)
    have hsm:=cut_small HC1.out (by rw [List.length_take];omega)
    have HXY:Hid (x = !y):=by show _=_;cases x <;> cases y <;> simp_all
    obtain rfl:=HXY.out
    generalize hL:gapsB a=L at *
    clear HS HT hxy HXY hL
    obtain ⟨_,_,rfl⟩:=(hrow.own (by unfold maxLen;omega)).len
    cases y
    all_goals
     go_wp2_with (first|(go_at_call 109;refine p1.out.stepB (w0:=wr) (B:=wr.heap.size) (.refl _ _) (Nat.le_refl _) ?_;intro w4 _ _ hq;replace hrow:=RowB.later hrow hq;replace hb:=hb.trans (hq.mono hB);replace hB:=Nat.le_trans hB hq.size;clear hx hq)|(at_builtin;refine Lib.wpList_append_own_string _ rfl _ _ 97 9 rfl w.heap.size 5 i0 Tryz.underlying97 Tryz.underlying9 hi hz0 hz1 hz2 _ _ _ rfl hrow (printB m) rfl ?c1 ?c2 hB ?_))
     case c1=>unfold maxLen;omega
     case c2=>omega
     intro v5 w5 hrow5 hg5 _
     have hb5:=hb.grown hg5 hB (fun k hk=>(hrow.lt k hk).1)
     have HO:=Lib.hid (RowB.step hrow5 HG.out rfl)
     clear hrow hb hB hg5 hrow5
     go_wp2
     go_roundw
     case rel=>exact ⟨k+1,a++[m],1,by omega,by go_num,HC1.out,by omega,hsm.2,by rw [HFS.out];rfl,by go_num,HO.out,hb5⟩
     case measure=>simp [intOf];omega
  ·obtain rfl:k=l.length:=by omega
   have HE:=cut_end HC.out
   rw [List.take_length] at HE
   have HEE:=Lib.hid HE
   have HO:=Lib.hid (hrow.own (by unfold maxLen;omega))
   generalize hL:gapsB a=L at *
   have hconv:=run_string_own HO.out 97 9 5 Tryz.underlying97 Tryz.underlying5 Tryz.underlying9
   have hconvd:=run_string_own HO.out.drew 97 9 5 Tryz.underlying97 Tryz.underlying5 Tryz.underlying9
   obtain ⟨_,_,rfl⟩:=HO.out.len
   have hov:¬(9223372036854775807 < L.length+(printB m).size):=by omega
   have hov2:¬(9223372036854775807 < (⟨L.toArray⟩:ByteArray).size+(printB m).size):=by have:(⟨L.toArray⟩:ByteArray).size=L.length:=List.size_toArray;omega
   clear HE hrow hL
   go_wp2_with fail
   go_region_with (go_at_call 109;refine p1.out.step (w0:=wr) (B:=wr.heap.size) (Below.drew (.refl _ _)) (Nat.le_refl _) ?_;intro w2 hq2 _;have hc2:=run_string_own (HO.out.later hq2) 97 9 5 Tryz.underlying97 Tryz.underlying5 Tryz.underlying9)
   all_goals
    go_wp2
    go_ret
    exact ⟨ret_str HEE.out,hb.trans (hq2.mono hB)⟩
def boolOne:Value→Nat
 | .bool true=>1
 | _=>0
def GRefIn (T:TypeId)(w:World)(b:Nat)(s:ByteArray)(bad:Bool)(M:Nat)(v y f:Value)(wr:World):Prop :=
 ∃ (K:Nat) (xs:List Value) (cur:ByteArray) (bb yy ff:Bool),K≤M∧Own wr w.heap.size 1 v K xs∧y=.bool yy∧f=.bool ff∧TapeIn T wr b cur bb∧w.grownBy wr (some b) ∧
  Hid ((bb=false∧∃ ls,GState s bad M ls cur false∧K=sumN ls∧xs=(spreadG true ls).map Value.bool∧yy=flip true ls.length∧ff=decide (ls=[]))∨(bb=true∧(bad=true∨¬∃ l r,GapsAt s.data.toList M l r)))
set_option maxHeartbeats 1000000 in
set_option maxRecDepth 100000 in
theorem ref_gaps_over (b:Nat)(s:ByteArray)(bad:Bool)(many:Int)(h:many < 0∨4096 < many)(w:World)(hT:TapeIn 105 w b s bad) :
  Calls Tryz.prog 122 #[.pointer (some ⟨b,0,none⟩),.int .i64 many] w (GapsRead 105 w b s bad many):=by
 have hc1:=hT.c1
 have hf1:=hT.f0 1
 have hg:=grown_refl w (some b)
 have HN:=Lib.hid (gaps_over (s:=s.data.toList) h)
 by_cases h0:many < 0
 ·have d1:decide (many < 0)=true:=by rw [decide_eq_true_eq];exact h0
  clear h
  go_enter Tryz.func122,Tryz.ntmps122
  go_wp2
  go_ret
  exact .inr ⟨s,rfl,hT.set1 true,grown_set hg 1 (.bool true),.inr HN.out⟩
 ·have d1:decide (many < 0)=false:=by rw [decide_eq_false_iff_not];exact h0
  have d2:decide (4096 < many)=true:=by rw [decide_eq_true_eq];omega
  clear h
  go_enter Tryz.func122,Tryz.ntmps122
  go_wp2
  go_ret
  exact .inr ⟨s,rfl,hT.set1 true,grown_set hg 1 (.bool true),.inr HN.out⟩
set_option maxHeartbeats 4000000 in
set_option maxRecDepth 100000 in
theorem ref_gaps_in (b:Nat)(s:ByteArray)(bad:Bool)(M:Nat)(hM:M≤4096)(w:World)(hT:TapeIn 105 w b s bad) :
  Calls Tryz.prog 122 #[.pointer (some ⟨b,0,none⟩),.int .i64 M] w (GapsRead 105 w b s bad M):=by
 obtain ⟨i0,hi,hz0,hz1,hz2⟩:=info_parts Tryz.infoS4
 have hg:=grown_refl w (some b)
 have hbw:=hT.lt
 have HF0:=Lib.hid (GState.first s bad (many:=(M:Int)) (by omega))
 go_enter Tryz.func122,Tryz.ntmps122
 go_wp2
 go_loopw [5,6,7] (fun v y f wr=>GRefIn 105 w b s bad M v y f wr) (fun v _ f wr=>if tapeBad wr b then 0 else M+1-lenB v+boolOne f)
 case atStart =>
  refine ⟨0,[],s,bad,true,true,Nat.zero_le _,Own.nil_ _ _ _,rfl,rfl,hT,hg,?_⟩
  show _∨_
  cases bad with
  | false=>exact .inl ⟨rfl,[],HF0.out,rfl,rfl,rfl,rfl⟩
  | true=>exact .inr ⟨rfl,.inl rfl⟩
 case round =>
  clear hT hg HF0
  obtain ⟨K,xs,cur,bb,yy,ff,hKM,hO,rfl,rfl,hT,hg,HS⟩:=hrel
  have hbad0:=hT.isBad
  obtain ⟨A,cap,rfl⟩:=hO.len
  have c1:=hT.c1
  cases bb with
  | true =>
   have HN:Hid (bad=true∨¬∃ l r,GapsAt s.data.toList M l r):=by
    rcases HS.out with ⟨h,_⟩ | ⟨_,h⟩
    ·exact absurd h (by decide)
    ·exact h
   clear HS
   by_cases hlt:K < M
   ·go_wp2
    go_ret
    exact .inr ⟨cur,rfl,hT,hg,HN.out⟩
   ·cases ff
    all_goals
     go_wp2
     go_ret
     exact .inr ⟨cur,rfl,hT,hg,HN.out⟩
  | false =>
   obtain ⟨ls,hS,hK,hxs,hyy,hff⟩:=(HS.out.resolve_right (fun h=>absurd h.1 (by decide))).2
   clear HS
   by_cases hgo:K < M∨ff=true
   ·have hnx:ls=[]∨(sumN ls:Int) < M:=by
     rcases hgo with h|h
     ·right;omega
     ·left;rw [h] at hff;exact of_decide_eq_true hff.symm
    obtain ⟨n1,n2,n3⟩:=hS.next hnx
    have hD:(M:Int)-(sumN ls:Int)=((M-K:Nat):Int):=by omega
    rw [hD] at n1 n2 n3
    have H1:=Lib.hid (ref_tnum_calls b cur false ((M-K:Nat):Int))
    generalize numT cur false ((M-K:Nat):Int)=Y at *
    obtain ⟨n,r1,b1⟩:=Y
    simp only at n1 n2 n3 H1
    have q0:(M:Int)-(K:Int)=((M-K:Nat):Int):=by omega
    have q2:IntKind.u64.wrap ((M-K:Nat):Int)=((M-K:Nat):Int):=wrap_lt _ (by omega)
    have hl0:ls=[]→K=0:=by rintro rfl;rw [hK];rfl
    by_cases hn0:n=0∧ff=false
    ·obtain ⟨rfl,rfl⟩:=hn0
     have HNE:ls≠[]:=of_decide_eq_false hff.symm
     have HN:=Lib.hid (n2 (.inr ⟨HNE,rfl⟩))
     have hKM2:K < M:=hgo.resolve_right (by decide)
     clear n1 n2 n3 hS hK hxs hyy hff HNE hnx hl0 hgo hD
     go_wp2_with (go_at_call 120;refine H1.out.stepG hT hg ?_;clear hT hg c1;intro w2 hT hg hq;replace hO:=own_aside hO hbw hq;clear hq;have c1:=hT.c1;have f1:=hT.f0 1)
     have HO:=Lib.hid (own_aside hO hbw (grown_set (grown_refl w2 (some b)) 1 (.bool true)))
     have HTS:=hT.set1 true
     have HGS:=grown_set hg 1 (.bool true)
     clear hO hT hg c1 f1
     generalize w2.setCell ⟨b,1,none⟩ (.bool true)=w3 at *
     refine wp_loop_rounds 1 ?_
     rw [rounds_succ]
     go_wp2
     go_roundw
     case rel=>exact ⟨K,xs,r1,true,_,false,hKM,HO.out,rfl,rfl,HTS,HGS,.inr ⟨rfl,HN.out⟩⟩
     case measure=>rw [HTS.isBad,hbad0];simp [lenB];omega
    ·have hln:ls=[]∨n≠0:=by
      cases ff with
      | true=>exact .inl (of_decide_eq_true hff.symm)
      | false=>exact .inr (fun h=>hn0 ⟨h,rfl⟩)
     have HSN:=n3 hln
     have HEND:Hid ((b1=false∧∃ ls,GState s bad M ls r1 false∧K+n=sumN ls∧xs++List.replicate n (Value.bool yy)=(spreadG true ls).map Value.bool∧(!yy)=flip true ls.length∧false=decide (ls=[]))∨(b1=true∧(bad=true∨¬∃ l r,GapsAt s.data.toList M l r))):=by
      show _∨_
      cases b1 with
      | true=>exact .inr ⟨rfl,n2 (.inl rfl)⟩
      | false=>exact .inl ⟨rfl,ls++[n],HSN,by rw [sumN_snoc,hK],by rw [spread_vals,hxs,hyy],by rw [flip_snoc,hyy],by simp⟩
     have hKn:K+n≤M:=by omega
     have hgd:(n=0∧ff=true∧K=0)∨((n:Int)==0)=false:=by
      by_cases h:n=0
      ·have hf:ff=true:=by
        cases ff with
        | true=>rfl
        | false=>exact absurd ⟨h,rfl⟩ hn0
       exact .inl ⟨h,hf,hl0 (of_decide_eq_true (by rw [←hff,hf]))⟩
      ·right;rw [beq_eq_false_iff_ne];omega
     have hms:n=0→ff=true:=fun h=>by
      rcases hgd with ⟨_,h2,_⟩|h2
      ·exact h2
      ·rw [beq_eq_false_iff_ne] at h2;omega
     have HMS:Hid (M+1-(K+n) < M+1-K+boolOne (.bool ff)):=by
      show _ < _
      by_cases h:n=0
      ·rw [hms h];simp only [boolOne];omega
      ·omega
     clear n1 n2 n3 hS hK hxs hyy hff hnx hl0 hD hln HSN hn0 hms
     have hMz:((M:Int)==0)=true∨((M:Int)==0)=false:=by cases ((M:Int)==0) <;> simp
     clear hgo
     have h4:((((n:Int)==0)=true∧ff=true∧¬0 < K∧((M:Int)==0)=true∧¬K < M)∨(((n:Int)==0)=true∧ff=true∧¬0 < K∧((M:Int)==0)=false∧K < M))∨(((n:Int)==0)=false∧K < M):=by
      rcases hgd with ⟨h1,h2,h3⟩|h1
      ·have h1':((n:Int)==0)=true:=by rw [h1];rfl
       rcases hMz with h|h
       ·have h':=beq_iff_eq.1 h
        exact .inl (.inl ⟨h1',h2,by omega,h,by omega⟩)
       ·have h':=beq_eq_false_iff_ne.1 h
        exact .inl (.inr ⟨h1',h2,by omega,h,by omega⟩)
      ·have h':=beq_eq_false_iff_ne.1 h1
       exact .inr ⟨h1,by omega⟩
     clear hgd hMz
     rcases h4 with h4|h4
     ·have HN0:Hid (n=0):=by
       show _=_
       rcases h4 with ⟨h,_⟩ | ⟨h,_⟩
       ·have:=beq_iff_eq.1 h;omega
       ·have:=beq_iff_eq.1 h;omega
      have p0:¬(0:Int) < (n:Int):=by have:=HN0.out;omega
      rcases h4 with ⟨g1,rfl,g4,g2,g3⟩ | ⟨g1,rfl,g4,g2,g3⟩
      all_goals
       go_wp2_with (go_at_call 120;refine H1.out.stepG hT hg ?_;clear hT hg c1;intro w2 hT hg hq;replace hO:=own_aside hO hbw hq;clear hq;have c1:=hT.c1;have f1:=hT.f0 1)
       have HO2:Hid (Own w2 w.heap.size 1 (.slice A K cap) (K+n) (xs++List.replicate n (Value.bool yy))):=by show Own _ _ _ _ _ _;rw [HN0.out];simpa using hO
       clear hO
       refine wp_loop_rounds 1 ?_
       rw [rounds_succ]
       go_wp2
       go_roundw
       case rel=>exact ⟨_,_,r1,b1,!yy,false,hKn,HO2.out,rfl,rfl,hT,hg,HEND.out⟩
       case measure=>rw [hT.isBad,hbad0];have h7:=HMS.out;simp only [boolOne] at h7;cases b1 <;> simp [lenB,boolOne] <;> omega
     ·obtain ⟨g1,g3⟩:=h4
      go_wp2_with (go_at_call 120;refine H1.out.stepG hT hg ?_;clear hT hg c1;intro w2 hT hg hq;replace hO:=own_aside hO hbw hq;clear hq;have c1:=hT.c1;have f1:=hT.f0 1)
      go_loopw [5,8] (fun v m wr=>∃ k:Nat,k≤n∧m=.int .u64 ((n-k:Nat):Int)∧Own wr w.heap.size 1 v (K+k) (xs++List.replicate k (Value.bool yy))∧TapeIn 105 wr b r1 b1∧w.grownBy wr (some b)) (fun _ m _=>(intOf m).toNat)
      case atStart=>exact ⟨0,by omega,rfl,by simpa using hO,hT,hg⟩
      case round =>
       obtain ⟨w9,hw9⟩:∃ w9,w9=w2:=⟨_,rfl⟩
       clear hT hg hO c1 f1
       obtain ⟨k,hk,rfl,hO,hT,hg⟩:=hrel
       have c1:=hT.c1
       obtain ⟨A2,cap2,rfl⟩:=hO.len
       by_cases hkn:k < n
       ·have hB3:w.heap.size≤wr.heap.size:=hg.size
        have p0:(0:Int) < ((n-k:Nat):Int):=by omega
        have p1:IntKind.u64.wrap (((n-k:Nat):Int)-1)=((n-(k+1):Nat):Int):=by rw [show ((n-k:Nat):Int)-1=((n-(k+1):Nat):Int) by omega];exact wrap_lt _ (by omega)
        go_wp2_with (at_builtin;refine wpList_append_Own rfl _ _ 112 rfl 4 i0 (.bool false) 1 1 Tryz.underlying112 hi hz0 hz1 hz2 rfl (by decide) _ _ _ rfl (Own.alloc hO _) ⟨wr.heap.size,0,none⟩ 1 1 [_] rfl rfl (one_new _ _ _) (one_bool _) ?c1 ?c2 (Nat.le_trans hB3 (by simp)) ?_)
        case c1=>unfold maxLen;omega
        case c2=>omega
        intro v4 w4 hO4 hg4
        have hO1:=Own.alloc hO (.cells #[Value.bool yy] 4)
        have hT4:=(hT.alloc (.cells #[Value.bool yy] 4)).appended hO1 hbw hg4
        have hgg:=grown_appended (grown_alloc hg (.cells #[Value.bool yy] 4)) hO1 hg4
        rw [show List.replicate k (Value.bool yy)++[Value.bool yy]=List.replicate (k+1) (Value.bool yy) from List.replicate_succ'.symm] at hO4
        have HO4:=Lib.hid hO4
        clear hO hT hg hg4 hO1 c1 hO4
        go_wp2
        go_roundw
        case rel=>exact ⟨k+1,by omega,by first|rfl|(congr 1),HO4.out,hT4,hgg⟩
        case measure=>simp [intOf];omega
       ·obtain rfl:k=n:=by omega
        have HO2:=Lib.hid hO
        clear hO
        have p0:¬(0:Int) < ((k-k:Nat):Int):=by omega
        go_wp2
        go_roundw
        case rel=>exact ⟨_,_,r1,b1,!yy,false,hKn,HO2.out,rfl,rfl,hT,hg,HEND.out⟩
        case measure=>rw [hT.isBad,hbad0];have h7:=HMS.out;try simp only [boolOne] at h7;cases b1 <;> simp [lenB,boolOne] <;> omega
   ·obtain rfl:K=M:=by
     rcases Nat.lt_or_ge K M with h|h
     ·exact absurd (.inl h) hgo
     ·omega
    have hf2:ff=false:=by cases ff;rfl;exact absurd (.inr rfl) hgo
    subst hf2
    have HNE:ls≠[]:=of_decide_eq_false hff.symm
    have HE:=Lib.hid (hS.last (hS.1.resolve_left HNE) (by omega) (by omega))
    have HB:=Lib.hid (bools_of (hxs▸hO) (by rw [spreadG_length];exact hK))
    have HFR:=Lib.hid (fun k hk=>(hO.lt k hk).1)
    clear hS hK hxs hyy hff HNE hgo hO
    go_wp2
    go_ret
    obtain ⟨_,hb0,hG⟩:=HE.out.resolve_right (fun h=>absurd h.1 (by decide))
    exact .inl ⟨_,spreadG true ls,cur.data.toList,rfl,hb0,hG,HB.out,HFR.out,by rw [mkB_of];exact hT,hg⟩
theorem ref_gaps_read_calls (b:Nat)(s:ByteArray)(bad:Bool)(many:Int)(w:World)(hT:TapeIn 105 w b s bad) :
  Calls Tryz.prog 122 #[.pointer (some ⟨b,0,none⟩),.int .i64 many] w (GapsRead 105 w b s bad many):=by
 by_cases h:many < 0∨4096 < many
 ·exact ref_gaps_over b s bad many h w hT
 ·obtain ⟨M,rfl⟩:∃ M:Nat,many=(M:Int):=⟨many.toNat,by omega⟩
  exact ref_gaps_in b s bad M (by omega) w hT
theorem joinF_take (is:List Bool)(l:List ByteArray)(k:Nat)(_h:k < is.length)(x:ByteArray)(hx:(joinF is l)[k]? = some x):((joinF is l).take (k+1)).map Value.string=((joinF is l).take k).map Value.string++[Value.string x]:=by
 obtain ⟨hk,rfl⟩:=List.getElem?_eq_some_iff.1 hx
 rw [take_add _ k hk,List.map_append];rfl
theorem strs_tail {w:World}{b o n cap:Nat}{l:List ByteArray}(h:StrsIn w (.slice (some ⟨b,o,none⟩) n cap) l)(hn:n=l.length)(h0:0 < n) :
  StrsIn w (.slice (if cap=1 then some ⟨b,o,none⟩ else some ⟨b,o+1,none⟩) (n-1) (cap-1)) (l.drop 1):=by
 subst hn
 obtain ⟨h1,h2,A,c,h3,hr,h4⟩:=h
 simp only [Value.slice.injEq,true_and] at h3
 obtain ⟨rfl,rfl⟩:=h3
 obtain ⟨b',o',e,hb,hc⟩:=h4 h0
 simp only [Option.some.injEq,Addr.mk.injEq,and_true] at e
 obtain ⟨rfl,rfl⟩:=e
 refine ⟨by rw [List.length_map,Nat.mul_one],by rw [List.length_drop];omega,_,cap-1,by rw [List.length_drop],by rw [List.length_drop];omega,fun h5=>?_⟩
 rw [List.length_drop] at h5
 refine ⟨b,o+1,by rw [if_neg (by omega)],hb,fun j u hu=>?_⟩
 rw [List.map_drop,List.getElem?_drop] at hu
 rw [Nat.add_assoc]
 exact hc _ u hu
theorem strs_first {w:World}{v:Value}{l:List ByteArray}{q:Nat}(h:StrsIn w v (l.drop q))(hq:q < l.length) :
  ∃ b o cap,v=.slice (some ⟨b,o,none⟩) (l.length-q) cap∧b < w.heap.size∧w.cell? ⟨b,o,none⟩=some (.string l[q]):=by
 have hd:0 < (l.drop q).length:=by rw [List.length_drop];omega
 rcases StrsIn.parts h with ⟨h0,_⟩ | ⟨_,b,o,cap,hv,hb,hc⟩
 ·rw [h0] at hd;exact absurd hd (by simp)
 ·rw [List.length_drop] at hv
  have h5:=hc 0 hd
  rw [List.getElem_drop] at h5
  exact ⟨b,o,cap,hv,hb,h5⟩
def JoinEndF (w:World)(is:List Bool)(l:List ByteArray)(e:Ending)(w':World):Prop :=
 ∃ v,e=.returned (.tuple #[v,.bool (joinOk is l)])∧StrsIn w' v (joinL is l)∧Fresh w.heap.size v∧Below w.heap.size w w'
theorem joinEF_no {w w':World}{is:List Bool}{l:List ByteArray}(h:cnt is≠l.length)(hb:Below w.heap.size w w'):JoinEndF w is l (.returned (.tuple #[.slice none 0 0,.bool false])) w':=by
 refine ⟨.slice none 0 0,?_,?_,fresh_nil _,hb⟩
 ·have e1:joinOk is l=false:=by unfold joinOk;rw [decide_eq_false h]
  rw [e1]
 ·have e2:joinL is l=[]:=by unfold joinL;rw [if_neg h]
  rw [e2];exact SliceOf.nil_ _ _ _ _
theorem joinEF_yes {w w':World}{is:List Bool}{l:List ByteArray}{v:Value}(h:cnt is=l.length)(hv:StrsIn w' v (joinF is l))(hf:Fresh w.heap.size v)(hb:Below w.heap.size w w'):JoinEndF w is l (.returned (.tuple #[v,.bool true])) w':=by
 have e1:joinOk is l=true:=by unfold joinOk;rw [decide_eq_true h]
 have e2:joinL is l=joinF is l:=by unfold joinL;rw [if_pos h]
 exact ⟨_,by rw [e1],by rw [e2];exact hv,hf,hb⟩
set_option maxHeartbeats 2000000 in
set_option maxRecDepth 100000 in
theorem ref_join_fresh {w:World}{vi v:Value}{is:List Bool}{l:List ByteArray}(hi:BoolsIn w vi is)(h:StrsIn w v l)(hn:is.length≤1000000) :
  Calls Tryz.prog 124 #[vi,v] w (JoinEndF w is l):=by
 obtain ⟨j0,hj,jz0,jz1,jz2⟩:=info_parts Tryz.infoJ9
 obtain ⟨hb,hB⟩:=start w
 obtain ⟨A1,cap1,rfl,hat1⟩:=one_at hi
 have HAT1:=Lib.hid hat1
 have HV:=Lib.hid h
 obtain ⟨A2,cap2,rfl,_⟩:=one_at h
 clear h hi hat1
 go_enter Tryz.func124,Tryz.ntmps124
 go_wp2
 go_loopw [1,6,7] (fun lv x i wr=>∃ k:Nat,k≤is.length∧i=.int .i64 k∧cnt (is.take k)≤l.length∧Hid (StrsIn w lv (l.drop (cnt (is.take k))))∧Own wr w.heap.size 1 x k (((joinF is l).take k).map Value.string)∧Below w.heap.size w wr) (fun _ _ i _=>is.length-(intOf i).toNat)
 case atStart=>exact ⟨0,Nat.zero_le _,rfl,Nat.zero_le _,HV.out,Own.nil_ _ _ _,hb⟩
 case round =>
  clear hb hB HV
  obtain ⟨k,hk,rfl,hu,HL,hO,hb⟩:=hrel
  have hB:=hb.size
  obtain ⟨A3,p3,hv1,_⟩:=one_at HL.out
  rw [List.length_drop] at hv1
  by_cases hlt:k < is.length
  ·obtain ⟨b,off,rfl,hbl,hc⟩:=HAT1.out k hlt
   have hx:=(hb.cell (p:=⟨b,off+k,none⟩) hbl).trans (hc k hlt)
   have HC:=Lib.hid (cnt_take is k hlt)
   have HCL:=Lib.hid (cnt_take_le is (k+1))
   have HGET:=Lib.hid (List.getElem?_eq_getElem hlt)
   have HJN:=Lib.hid (joinF_no is l k)
   have HJY:=Lib.hid (joinF_yes is l k)
   have HJT:=Lib.hid (joinF_take is l k hlt)
   obtain ⟨A9,p9,rfl⟩:=hO.len
   generalize ((joinF is l).take k).map Value.string=xs at *
   clear hc
   generalize is[k]=y at *
   cases y with
   | false =>
    have HC0:=Lib.hid (show cnt (is.take (k+1))=cnt (is.take k) from HC.out)
    have HX:=Lib.hid (HJT.out _ (HJN.out HGET.out))
    generalize hq:cnt (is.take k)=q at *
    subst hv1
    go_wp2_with (at_builtin;refine wpList_append_Own rfl _ _ 44 rfl 9 j0 (.string ⟨#[]⟩) 1 16 Tryz.underlying44 hj jz0 jz1 jz2 rfl (by decide) _ _ _ rfl (Own.alloc hO _) ⟨wr.heap.size,0,none⟩ 1 1 [_] rfl rfl (one_new _ _ _) (one_str _) ?c1 ?c2 (below_alloc hb hB _).2 ?_)
    case c1=>unfold maxLen;omega
    case c2=>omega
    intro v3 w3 hO3 hg3
    have hb3:=(Own.alloc hO (.cells #[Value.string ⟨#[]⟩] 9)).grown (below_alloc hb hB _).1 (below_alloc hb hB _).2 hg3
    have HO3:=Lib.hid hO3
    clear hO hb hB hg3 hx hO3
    go_wp2
    go_roundw
    case rel=>exact ⟨k+1,by omega,by go_num,by rw [HC0.out];omega,by rw [HC0.out];exact HL,by rw [HX.out];exact HO3.out,hb3⟩
    case measure=>simp [intOf];omega
   | true =>
    have HC1:=Lib.hid (show cnt (is.take (k+1))=cnt (is.take k)+1 from HC.out)
    generalize hq:cnt (is.take k)=q at *
    by_cases hql:q < l.length
    ·obtain ⟨b2,o2,c2,rfl,hb2,hc2⟩:=strs_first HL.out hql
     have hx2:wr.cell? ⟨b2,o2,none⟩=some (.string l[q]):=(hb.cell (p:=⟨b2,o2,none⟩) hb2).trans hc2
     have HX:=Lib.hid (HJT.out _ (HJY.out HGET.out l[q] (by rw [List.getElem?_eq_getElem hql])))
     have HT:=Lib.hid (strs_tail HL.out (by rw [List.length_drop]) (by omega))
     rw [List.drop_drop] at HT
     obtain ⟨r,hr⟩:∃ r,l.length-q=r:=⟨_,rfl⟩
     rw [hr] at HT ⊢
     have d1:((r:Int)==0)=false:=by rw [beq_eq_false_iff_ne];omega
     have d2:(r==0)=false:=by rw [beq_eq_false_iff_ne];omega
     have e0:(0:Int) < (r:Int):=by omega
     have e1:(1:Int)≤(r:Int):=by omega
     have e2:0 < r:=by omega
     clear hc2 hv1 HJN HJY hr
     generalize l[q]=c at *
     go_wp2
     have HO1:=Lib.hid (Own.alloc hO (.cells #[Value.string c] 9)).drew
     have HLIT:Hid (SliceOf ((wr.alloc (.cells #[Value.string c] 9)).drew) 1 (.slice (some ⟨wr.heap.size,0,none⟩) 1 1) 1 [Value.string c]):=(lit_ones Value.string wr 9 [c] (by show 1≤1000;decide)).drew
     have HBA:=Lib.hid (below_alloc hb hB (.cells #[Value.string c] 9))
     clear hO hb hB hx
     go_region_law (refine step_append_src rfl (.tmp 14) (.tmp 18) 44 rfl 9 j0 (.string ⟨#[]⟩) 1 16 Tryz.underlying44 hj jz0 jz1 jz2 rfl (by decide) (.slice A9 k p9) k xs ?s1 HO1.out (.slice (some ⟨wr.heap.size,0,none⟩) 1 1) 1 [.string c] ?s2 HLIT.out (one_str _) ?s3 ?s4 ?s5 ?s6;rfl;rfl;(focus (unfold maxLen;omega));omega;exact HBA.out.2;intro v5 w5 hO5 hg5 ha5)
     have hb5:=HO1.out.grown (Below.drew HBA.out.1) HBA.out.2 hg5
     have HO5:=Lib.hid hO5
     clear hO5 hg5 ha5 hx2
     go_wp2
     go_roundw
     case rel=>exact ⟨k+1,by omega,by go_num,by rw [HC1.out];omega,by rw [HC1.out];exact HT,by rw [HX.out];exact HO5.out,hb5⟩
     case measure=>simp [intOf];omega
    ·have d1:(((l.length-q:Nat):Int)==0)=true:=by rw [beq_iff_eq];omega
     have d2:l.length-q=0:=by omega
     have HNE:=Lib.hid (show cnt is≠l.length by have h1:=HC1.out;have h2:=HCL.out;omega)
     subst hv1
     rw [d2]
     clear hO HJN HJY d1 d2
     go_wp2
     go_ret2
     exact joinEF_no HNE.out hb
  ·obtain rfl:k=is.length:=by omega
   have HT:=Lib.hid (show cnt (is.take is.length)=cnt is by rw [List.take_length])
   rw [List.take_length] at hu hv1
   generalize hq:cnt is=q at *
   subst hv1
   by_cases hql:q < l.length
   ·have HNE:=Lib.hid (show cnt is≠l.length by omega)
    have d1:(0:Int) < ((l.length-q:Nat):Int):=by omega
    obtain ⟨_,_,rfl⟩:=hO.len
    clear hq HT hO
    go_wp2
    go_ret2
    exact joinEF_no HNE.out hb
   ·have HE:=Lib.hid (show cnt is=l.length by omega)
    have d2:l.length-q=0:=by omega
    rw [List.take_of_length_le (by rw [joinF_length];omega)] at hO
    have H2:=Lib.hid (strs_of hO (joinF_length is l).symm)
    have HFR:=Lib.hid (show Fresh w.heap.size _ from fun k hk=>(hO.lt k hk).1)
    obtain ⟨_,_,rfl⟩:=hO.len
    rw [d2]
    clear hq HT hO d2
    go_wp2
    go_ret2
    exact joinEF_yes HE.out H2.out HFR.out hb
end Go.Proofs.YtafmbnafibahkaaGreat
