/- The contract of the answer's Print of layer 4. -/
import Derived.Test.YtafmbnafibahkaaGreatGStrs
import Derived.Test.YtafmbnafibahkaaGreatGRuns
namespace Go.Proofs.YtafmbnafibahkaaGreat
open Go Go.RowKit
theorem own_apart {w w':World}{B nc nn:Nat}{c0 c1 nv:Value}{cs ns:List Value}(_hc:Own w B 1 c0 nc cs)(hn:Own w B 1 nv nn ns)(hap:∀ k,c0.ownBlock=some k→nv.ownBlock≠some k)
  (hg:w.grownBy w' c0.ownBlock) (hc':∀ k,c1.ownBlock=some k→c0.ownBlock=some k∨w.heap.size≤k):Own w' B 1 nv nn ns∧∀ k,c1.ownBlock=some k→nv.ownBlock≠some k:=by
 refine ⟨hn.other hg (fun k hk e=>hap k e.symm hk),fun k hk e=>?_⟩
 rcases hc' k hk with h|h
 ·exact hap k h e
 ·have:=(hn.lt k e).2;omega
def NewRun (w:World)(B:Nat)(c n:Value)(rs:List (ByteArray×Nat))(d:ByteArray):Prop :=
 Own w B 1 c (rs.length+1) (cellsV (rs++[(d,1)]))∧Own w B 1 n (rs.length+1) (oftenV rs++[.int .i64 0])∧∀ k,c.ownBlock=some k→n.ownBlock≠some k
theorem NewRun.stored {w:World}{B:Nat}{c:Value}{g off cap:Nat}{rs:List (ByteArray×Nat)}{d:ByteArray}(h:NewRun w B c (.slice (some ⟨g,off,none⟩) (rs.length+1) cap) rs d) :
  OwnRuns (w.setCell ⟨g,off+rs.length,none⟩ (.int .i64 1)) B c (.slice (some ⟨g,off,none⟩) (rs.length+1) cap) (rs++[(d,1)]):=by
 obtain ⟨h1,h2,h3⟩:=h
 have h4:=h2.stored rs.length (by omega) (.int .i64 1)
 have e:(oftenV rs++[Value.int .i64 0]).set rs.length (.int .i64 1)=oftenV (rs++[(d,1)]):=by
  rw [List.set_append_right _ _ (by rw [oftenV_length];exact Nat.le_refl _),oftenV_length,Nat.sub_self,oftenV_append];rfl
 rw [e] at h4
 refine ⟨?_,?_,h3⟩
 ·rw [List.length_append]
  exact h1.other (grown_set (grown_refl w (some g)) _ _) (fun k hk e=>h3 k hk (by rw [e];rfl))
 ·rw [List.length_append];exact h4
theorem OwnRuns.bumped {w:World}{B:Nat}{c:Value}{g off cap:Nat}{rs:List (ByteArray×Nat)}{d:ByteArray}{m:Nat}(h:OwnRuns w B c (.slice (some ⟨g,off,none⟩) (rs.length+1) cap) (rs++[(d,m)])) :
  OwnRuns (w.setCell ⟨g,off+rs.length,none⟩ (.int .i64 ((m:Int)+1))) B c (.slice (some ⟨g,off,none⟩) (rs.length+1) cap) (rs++[(d,m+1)]):=by
 obtain ⟨h1,h2,h3⟩:=h
 rw [List.length_append] at h1 h2
 rw [show (m:Int)+1=((m+1:Nat):Int) by omega]
 have h4:=h2.stored rs.length (by simp) (.int .i64 ((m+1:Nat):Int))
 rw [oftenV_set] at h4
 refine ⟨?_,?_,h3⟩
 ·rw [List.length_append]
  rw [cellsV_append] at h1 ⊢
  exact h1.other (grown_set (grown_refl w (some g)) _ _) (fun k hk e=>h3 k hk (by rw [e];rfl))
 ·rw [List.length_append];exact h4
theorem runs_newAny (l:List ByteArray)(k:Nat)(h:k < l.length)(hn:k=0∨(0 < k∧l[k]≠l[k-1])):runsOf (l.take (k+1))=runsOf (l.take k)++[(l[k],1)]:=by
 rcases hn with rfl | ⟨h0,he⟩
 ·exact runs_first l h
 ·exact runs_new l k h h0 he
set_option maxHeartbeats 2000000 in
theorem runs_calls {w:World}{v:Value}{l:List ByteArray}(h:StrsIn w v l)(hlen:l.length≤1000000):GivesRuns Tryz.prog 164 #[v] w (runsOf l):=by
 obtain ⟨s0,hs,hsz0,hsz1,hsz2⟩:=info_parts Tryz.infoS9
 obtain ⟨i0,hi,hz0,hz1,hz2⟩:=info_parts Tryz.infoI3
 obtain ⟨hb,hB⟩:=start w
 obtain ⟨A,cap,rfl,hat⟩:=one_at h
 have HAT:=Lib.hid hat
 clear h hat
 go_enter Tryz.func164,Tryz.ntmps164
 go_wp2
 go_loopw [4,5,10] (fun c n i wr=>∃ (k:Nat),k≤l.length∧i=.int .i64 k∧OwnRuns wr w.heap.size c n (runsOf (l.take k))∧Below w.heap.size w wr∧w.heap.size≤wr.heap.size) (fun _ _ i _=>l.length-(intOf i).toNat)
 case atStart=>exact ⟨0,by omega,rfl,OwnRuns.nil_ _ _,hb,hB⟩
 case round =>
  clear hb hB
  obtain ⟨k,hk,rfl,hown,hb,hB⟩:=hrel
  by_cases hlt:k < l.length
  ·obtain ⟨b,off,rfl,hbl,hc⟩:=HAT.out k hlt
   have hx:=(hb.cell (p:=⟨b,off+k,none⟩) hbl).trans (hc k hlt)
   have hle:=runs_le (l.take k)
   rw [List.length_take] at hle
   have hle2:(runsOf (l.take k)).length≤1000000:=by omega
   clear hle
   by_cases hnew:k=0∨(0 < k∧l[k]≠l[k-1])
   ·have HN:=Lib.hid (runs_newAny l k hlt hnew)
    generalize runsOf (l.take k)=rs at *
    rcases hnew with h0 | ⟨h0,he⟩
    case' inl =>
     subst h0
     replace hx:wr.cell? ⟨b,off,none⟩=some (.string l[0]):=hx
     replace HN:=HN.out
     clear hc
     generalize l[0]=x at hx HN
     replace HN:=Lib.hid HN
    case' inr =>
     have hx1:=(hb.cell (p:=⟨b,off+(k-1),none⟩) hbl).trans (hc (k-1) (by omega))
     have q1:((k:Int)==0)=false:=by rw [beq_eq_false_iff_ne];omega
     have q2:IntKind.i64.wrap ((k:Int)-1)=(k:Int)-1:=IntWalk.i64_in _ (by omega)
     have q3:(0:Int)≤(k:Int)-1:=by omega
     have q4:((k:Int)-1).toNat=k-1:=by omega
     have q5:(k:Int)-1 < (l.length:Int):=by omega
     obtain ⟨he,g1,g2⟩:=(str_ne_cases l[k] l[k-1]).resolve_left (fun x=>he x.1)
     replace HN:=HN.out
     clear he hc
     generalize l[k-1]=y at hx1 g1 g2
     generalize l[k]=x at hx HN g1 g2
     replace HN:=Lib.hid HN
    all_goals
     go_wp2_with (at_builtin;refine wpList_append_OwnA rfl _ _ 44 rfl 9 s0 (.string ⟨#[]⟩) 1 16 Tryz.underlying44 hs hsz0 hsz1 hsz2 rfl (by decide) _ _ _ rfl (Own.alloc hown.1 _) ⟨wr.heap.size,0,none⟩ 1 1 [_] rfl rfl (one_new _ _ _) (one_str _) ?c1 ?c2 (below_alloc hb hB _).2 ?_)
     case c1=>unfold maxLen;omega
     case c2=>omega
     intro v1 w1 hown1 hg1 hap1
     have hn0:=Own.alloc hown.2.1 (.cells #[Value.string x] 9)
     obtain ⟨hn1,hap2⟩:=own_apart (c1:=v1) (Own.alloc hown.1 (.cells #[Value.string x] 9)) hn0 hown.2.2 hg1 (by simpa using hap1)
     have hb1:=(Own.alloc hown.1 (.cells #[Value.string x] 9)).grown (below_alloc hb hB _).1 (below_alloc hb hB _).2 hg1
     have hB1:w.heap.size≤w1.heap.size:=hb1.size
     clear hn0 hown hg1 hap1 hb hB hx
     go_wp2_with (at_builtin;refine wpList_append_OwnA rfl _ _ 92 rfl 3 i0 (.int .i64 0) 1 8 Tryz.underlying92 hi hz0 hz1 hz2 rfl (by decide) _ _ _ rfl (Own.alloc hn1 _) ⟨w1.heap.size,0,none⟩ 1 1 [_] rfl rfl (one_new _ _ _) (one_int _ _) ?c1 ?c2 (below_alloc hb1 hB1 _).2 ?_)
     case c1=>unfold maxLen;omega
     case c2=>omega
     intro v2 w2 hown2 hg2 hap3
     obtain ⟨hc2,hap4⟩:=own_apart (c1:=v2) (Own.alloc hn1 (.cells #[Value.int .i64 0] 3)) (Own.alloc hown1 (.cells #[Value.int .i64 0] 3)) (fun k h1 h2=>hap2 k h2 h1) hg2 (by simpa using hap3)
     have hb2:=(Own.alloc hn1 (.cells #[Value.int .i64 0] 3)).grown (below_alloc hb1 hB1 _).1 (below_alloc hb1 hB1 _).2 hg2
     have hB2:w.heap.size≤w2.heap.size:=hb2.size
     clear hn1 hown1 hg2 hap2 hap3 hb1 hB1
     obtain ⟨g,o,cp,rfl⟩:=hown2.some_ (by omega)
     have hO:=Lib.hid (NewRun.stored (d:=x) ⟨by rw [cellsV_append];exact hc2,hown2,fun k h1 h2=>hap4 k h2 h1⟩)
     obtain ⟨hBg,_,_,hcv,hcell⟩:=hown2.parts
     have hcl:w2.cell? ⟨g,o+rs.length,none⟩=some (.int .i64 0):=hcv rs.length _ (by rw [List.getElem?_append_right (by rw [oftenV_length];exact Nat.le_refl _),oftenV_length,Nat.sub_self];rfl)
     have hfr:w2.frozen? ⟨g,o+rs.length,none⟩=false:=(hcell rs.length (by omega)).2
     have hb3:=Lib.hid (hb2.grown (grown_set (grown_refl w2 (some g)) (o+rs.length) (.int .i64 1)) hB2 (fun k hk=>by cases hk;exact hBg))
     clear hcv hcell hown2 hc2 hap4 hb2
     go_wp2
     go_roundw
     case rel=>exact ⟨_,Nat.succ_le_of_lt hlt,by go_num,Eq.subst (motive:=fun r=>OwnRuns _ _ _ _ r) HN.out.symm hO.out,hb3.out,hb3.out.size⟩
     case measure=>simp [intOf];omega
   ·have h0:0 < k:=by omega
    obtain ⟨he,g1,g2⟩:=(str_ne_cases l[k] l[k-1]).resolve_right (fun x=>hnew (.inr ⟨h0,x.1⟩))
    obtain ⟨rs,m,e1,e2,hm⟩:=runs_same l k hlt h0 he
    have hx1:=(hb.cell (p:=⟨b,off+(k-1),none⟩) hbl).trans (hc (k-1) (by omega))
    have q1:((k:Int)==0)=false:=by rw [beq_eq_false_iff_ne];omega
    have q2:IntKind.i64.wrap ((k:Int)-1)=(k:Int)-1:=IntWalk.i64_in _ (by omega)
    have q3:(0:Int)≤(k:Int)-1:=by omega
    have q4:((k:Int)-1).toNat=k-1:=by omega
    have q5:(k:Int)-1 < (l.length:Int):=by omega
    rw [e1] at hown hle2
    rw [List.length_append] at hle2
    simp only [List.length_singleton] at hle2
    obtain ⟨hw1,hw2,hw3⟩:=hown
    rw [List.length_append] at hw1 hw2
    simp only [List.length_singleton] at hw1 hw2
    clear hc he hnew e1
    generalize l[k-1]=y at hx1 g1 g2
    generalize l[k]=x at hx g1 g2 hw1 hw2 e2
    have HN:=Lib.hid e2
    clear e2
    obtain ⟨g,o,cp,rfl⟩:=hw2.some_ (by omega)
    obtain ⟨hBg,hgl,_,hcv,hcell⟩:=hw2.parts
    have hcl:wr.cell? ⟨g,o+rs.length,none⟩=some (.int .i64 m):=hcv rs.length _ (oftenV_last rs (x,m))
    have hfr:wr.frozen? ⟨g,o+rs.length,none⟩=false:=(hcell rs.length (by omega)).2
    have hO:=Lib.hid (OwnRuns.bumped (rs:=rs) (d:=x) (m:=m) ⟨by rw [List.length_append];exact hw1,by rw [List.length_append];exact hw2,hw3⟩)
    have hb3:=Lib.hid (hb.grown (grown_set (grown_refl wr (some g)) (o+rs.length) (.int .i64 ((m:Int)+1))) hB (fun k hk=>by cases hk;exact hBg))
    clear hcv hcell hw1 hw2 hw3 hb
    go_wp2
    go_roundw
    case rel=>exact ⟨_,Nat.succ_le_of_lt hlt,by go_num,Eq.subst (motive:=fun r=>OwnRuns _ _ _ _ r) HN.out.symm hO.out,hb3.out,hb3.out.size⟩
    case measure=>simp [intOf];omega
  ·obtain rfl:k=l.length:=by omega
   rw [List.take_length] at hown
   go_wp2
   go_ret2
   exact ⟨_,_,rfl,hown,hb⟩
theorem NewRun.made {w:World}{B:Nat}{c n:Value}{rs:List (ByteArray×Nat)}{d:ByteArray}(h1:Own w B 1 c (rs.length+1) (cellsV rs++[.string d]))(h2:Own w B 1 n (rs.length+1) (oftenV rs++[.int .i64 1]))
  (h3:∀ k,c.ownBlock=some k→n.ownBlock≠some k):OwnRuns w B c n (rs++[(d,1)]):=by
 refine ⟨?_,?_,h3⟩
 ·rw [List.length_append,cellsV_append];exact h1
 ·rw [List.length_append,oftenV_append];exact h2
set_option maxHeartbeats 2000000 in
theorem ref_runs_calls {w:World}{v:Value}{l:List ByteArray}(h:StrsIn w v l)(hlen:l.length≤1000000):GivesRuns Tryz.prog 153 #[v] w (runsOf l):=by
 obtain ⟨s0,hs,hsz0,hsz1,hsz2⟩:=info_parts Tryz.infoS9
 obtain ⟨i0,hi,hz0,hz1,hz2⟩:=info_parts Tryz.infoI3
 obtain ⟨hb,hB⟩:=start w
 obtain ⟨A,cap,rfl,hat⟩:=one_at h
 have HAT:=Lib.hid hat
 clear h hat
 go_enter Tryz.func153,Tryz.ntmps153
 go_wp2
 go_loopw [4,5,6] (fun c n i wr=>∃ (k:Nat),k≤l.length∧i=.int .i64 k∧OwnRuns wr w.heap.size c n (runsOf (l.take k))∧Below w.heap.size w wr∧w.heap.size≤wr.heap.size) (fun _ _ i _=>l.length-(intOf i).toNat)
 case atStart=>exact ⟨0,by omega,rfl,OwnRuns.nil_ _ _,hb,hB⟩
 case round =>
  clear hb hB
  obtain ⟨k,hk,rfl,hown,hb,hB⟩:=hrel
  by_cases hlt:k < l.length
  ·obtain ⟨b,off,rfl,hbl,hc⟩:=HAT.out k hlt
   have hx:=(hb.cell (p:=⟨b,off+k,none⟩) hbl).trans (hc k hlt)
   have hle:=runs_le (l.take k)
   rw [List.length_take] at hle
   have hle2:(runsOf (l.take k)).length≤1000000:=by omega
   clear hle
   by_cases hnew:k=0∨(0 < k∧l[k]≠l[k-1])
   ·have HN:=runs_newAny l k hlt hnew
    rcases hnew with h0 | ⟨h0,he⟩
    case' inl =>
     subst h0
     replace hx:wr.cell? ⟨b,off,none⟩=some (.string l[0]):=hx
     clear hc
     generalize l[0]=x at hx HN
     obtain ⟨rs,hrs⟩:∃ rs,rs=runsOf (l.take 0):=⟨_,rfl⟩
     rw [←hrs] at hown HN hle2
     replace HN:=Lib.hid HN
     obtain rfl:rs=[]:=by rw [hrs];rfl
     obtain ⟨hw1,hw2,hw3⟩:=hown
     obtain ⟨_,cpc,rfl⟩:=hw1.len
     clear hrs
    case' inr =>
     obtain ⟨he,g1,g2⟩:=(str_ne_cases l[k-1] l[k]).resolve_left (fun x=>he x.1.symm)
     obtain ⟨rs0,m,e1⟩:=runs_last l k hlt h0
     clear he hc
     generalize l[k-1]=y at e1 g1 g2
     generalize l[k]=x at hx HN g1 g2
     obtain ⟨hw1,hw2,hw3⟩:=hown
     generalize hrs:runsOf (l.take k)=rs at *
     have hrl:rs.length=rs0.length+1:=by rw [e1];simp
     obtain ⟨gc,oc,cpc,rfl⟩:=hw1.some_ (by omega)
     obtain ⟨_,_,_,hcv,_⟩:=hw1.parts
     have hcc:wr.cell? ⟨gc,oc+rs0.length,none⟩=some (.string y):=hcv rs0.length _ (by rw [e1];exact cellsV_last rs0 (y,m))
     have d1:decide (0≤(rs.length:Int)-1)=true:=by rw [decide_eq_true_eq];omega
     have q2:IntKind.i64.wrap ((rs.length:Int)-1)=(rs.length:Int)-1:=IntWalk.i64_in _ (by omega)
     have q3:(0:Int)≤(rs.length:Int)-1:=by omega
     have q4:((rs.length:Int)-1).toNat=rs0.length:=by omega
     have q5:(rs.length:Int)-1 < (rs.length:Int):=by omega
     replace HN:=Lib.hid HN
     have d2:decide (1≤(rs.length:Int))=true:=by rw [decide_eq_true_eq];omega
     have q6:rs0.length < rs.length:=by omega
     clear hcv e1 hrs hrl
    all_goals
     go_wp2
     go_quiet (fail)
     have hw1q:=Own.drewN hw1 nq
     have hw2q:=Own.drewN hw2 nq
     have hbq:=below_drewN hb nq
     have hBq:w.heap.size≤(wr.drewN nq).heap.size:=hB
     clear hw1 hw2 hb hB
     go_wp2_with (at_builtin;refine wpList_append_OwnA rfl _ _ 44 rfl 9 s0 (.string ⟨#[]⟩) 1 16 Tryz.underlying44 hs hsz0 hsz1 hsz2 rfl (by decide) _ _ _ rfl (Own.alloc hw1q _) ⟨wr.heap.size,0,none⟩ 1 1 [_] rfl rfl (one_new (wr.drewN nq) _ _) (one_str _) ?c1 ?c2 (below_alloc hbq hBq _).2 ?_)
     case c1=>unfold maxLen;omega
     case c2=>omega
     intro v1 w1 hown1 hg1 hap1
     have hn0:=Own.alloc hw2q (.cells #[Value.string x] 9)
     obtain ⟨hn1,hap2⟩:=own_apart (c1:=v1) (Own.alloc hw1q (.cells #[Value.string x] 9)) hn0 hw3 hg1 (by simpa using hap1)
     have hb1:=(Own.alloc hw1q (.cells #[Value.string x] 9)).grown (below_alloc hbq hBq _).1 (below_alloc hbq hBq _).2 hg1
     have hB1:w.heap.size≤w1.heap.size:=hb1.size
     clear hn0 hw1q hw2q hw3 hg1 hap1 hbq hBq hx
     go_wp2_with (at_builtin;refine wpList_append_OwnA rfl _ _ 92 rfl 3 i0 (.int .i64 0) 1 8 Tryz.underlying92 hi hz0 hz1 hz2 rfl (by decide) _ _ _ rfl (Own.alloc hn1 _) ⟨w1.heap.size,0,none⟩ 1 1 [_] rfl rfl (one_new _ _ _) (one_int _ _) ?c1 ?c2 (below_alloc hb1 hB1 _).2 ?_)
     case c1=>unfold maxLen;omega
     case c2=>omega
     intro v2 w2 hown2 hg2 hap3
     obtain ⟨hc2,hap4⟩:=own_apart (c1:=v2) (Own.alloc hn1 (.cells #[Value.int .i64 1] 3)) (Own.alloc hown1 (.cells #[Value.int .i64 1] 3)) (fun k h1 h2=>hap2 k h2 h1) hg2 (by simpa using hap3)
     have hb2:=(Own.alloc hn1 (.cells #[Value.int .i64 1] 3)).grown (below_alloc hb1 hB1 _).1 (below_alloc hb1 hB1 _).2 hg2
     have hO:=Lib.hid (NewRun.made hc2 hown2 (fun k h1 h2=>hap4 k h2 h1))
     clear hn1 hown1 hg2 hap2 hap3 hap4 hb1 hB1 hown2 hc2
     go_wp2
     go_roundw
     case rel=>exact ⟨_,Nat.succ_le_of_lt hlt,by go_num,Eq.subst (motive:=fun r=>OwnRuns _ _ _ _ r) HN.out.symm hO.out,hb2,hb2.size⟩
     case measure=>simp [intOf];omega
   ·have h0:0 < k:=by omega
    obtain ⟨he,g1,g2⟩:=(str_ne_cases l[k] l[k-1]).resolve_right (fun x=>hnew (.inr ⟨h0,x.1⟩))
    obtain ⟨rs,m,e1,e2,hm⟩:=runs_same l k hlt h0 he
    rw [e1] at hown hle2
    rw [List.length_append] at hle2
    simp only [List.length_singleton] at hle2
    obtain ⟨hw1,hw2,hw3⟩:=hown
    rw [List.length_append] at hw1 hw2
    simp only [List.length_singleton] at hw1 hw2
    clear hc he hnew e1 g1 g2
    generalize l[k-1]=y at *
    generalize l[k]=x at hx hw1 hw2 e2
    have HN:=Lib.hid e2
    clear e2
    obtain ⟨gc,oc,cpc,rfl⟩:=hw1.some_ (by omega)
    obtain ⟨_,_,_,hcc,_⟩:=hw1.parts
    have hcc:=hcc rs.length _ (cellsV_last rs (x,m))
    obtain ⟨g,o,cp,rfl⟩:=hw2.some_ (by omega)
    obtain ⟨hBg,hgl,_,hcv,hcell⟩:=hw2.parts
    have hcl:wr.cell? ⟨g,o+rs.length,none⟩=some (.int .i64 m):=hcv rs.length _ (oftenV_last rs (x,m))
    have hfr:wr.frozen? ⟨g,o+rs.length,none⟩=false:=(hcell rs.length (by omega)).2
    have hO:=fun nq=>OwnRuns.bumped (w:=wr.drewN nq) (rs:=rs) (d:=x) (m:=m) ⟨by rw [List.length_append];exact hw1,by rw [List.length_append];exact hw2,hw3⟩
    have hb3:=fun nq=>(below_drewN hb nq).grown (grown_set (grown_refl (wr.drewN nq) (some g)) (o+rs.length) (.int .i64 ((m:Int)+1))) hB (fun k hk=>by cases hk;exact hBg)
    clear hcv hcell hw1 hw2 hw3 hb
    go_wp2
    go_quiet (fail)
    replace hO:=Lib.hid (hO nq)
    replace hb3:=Lib.hid (hb3 nq)
    go_wp2
    go_roundw
    case rel=>exact ⟨_,Nat.succ_le_of_lt hlt,by go_num,Eq.subst (motive:=fun r=>OwnRuns _ _ _ _ r) HN.out.symm hO.out,hb3.out,hb3.out.size⟩
    case measure=>simp [intOf];omega
  ·obtain rfl:k=l.length:=by omega
   rw [List.take_length] at hown
   go_wp2
   go_ret2
   exact ⟨_,_,rfl,hown,hb⟩
theorem runB_size (rs:List (ByteArray×Nat))(h:∀ x∈rs,x.1.size≤1000000∧x.2≤1000000):(runB rs).length≤1000020*rs.length:=by
 induction rs with
 | nil=>simp [runB]
 | cons x rs ih =>
  have h1:=h x List.mem_cons_self
  have ih:=ih (fun y hy=>h y (List.mem_cons_of_mem _ hy))
  rw [runB_cons,List.length_append,List.length_append,List.length_cons]
  have h2:=(cellP_length x.1).resolve_right (by omega)
  have h3:(vp x.2).length≤10:=vp_len_10 (by omega)
  omega
theorem runB_take (rs:List (ByteArray×Nat))(k:Nat)(h:k < rs.length):runB (rs.take (k+1))=runB (rs.take k)++(mkB (cellP rs[k].1)).data.toList++(printB rs[k].2).data.toList:=by
 rw [List.take_add_one,List.getElem?_eq_getElem h,runB_append,List.append_assoc]
 congr 1
 rw [mkB_data,print_data]
 simp [runB]
theorem runsOf_mem (l:List ByteArray)(x:ByteArray×Nat)(h:x∈runsOf l):x.1∈l∧x.2≤l.length:=by
 obtain ⟨g,e⟩:=runsOf_good l
 refine ⟨?_,?_⟩
 ·have:=mem_spread g x h;rwa [e] at this
 ·have:=many_le x h;rwa [many_runsOf] at this
set_option maxHeartbeats 1000000 in
theorem runs_print_calls {w:World}{v:Value}{l:List ByteArray}(h:StrsIn w v l)(hlen:l.length≤1000000)(hs:∀ c∈l,c.size≤1000000):GivesAt Tryz.prog 143 #[v] w (.string (mkB (runsP l))):=by
 obtain ⟨i0,hi,hz0,hz1,hz2⟩:=info_parts Tryz.infoB5
 have H1:=Lib.hid (runs_calls h hlen)
 have hm:=runsOf_mem l
 have hrl:=runs_le l
 obtain ⟨A,cap,rfl,_⟩:=one_at h
 unfold runsP
 clear h
 generalize hrs:runsOf l=rs at *
 have HR:∀ x∈rs,x.1.size≤1000000∧x.2≤1000000:=fun x hx=>⟨hs _ (hm x hx).1,Nat.le_trans (hm x hx).2 hlen⟩
 have hrl2:rs.length≤1000000:=by omega
 clear hm hrl hs hlen hrs
 unfold GivesAt
 go_enter Tryz.func143,Tryz.ntmps143
 go_wp2_with fail
 refine H1.out.mono ?_
 rintro e w1 ⟨c,n,rfl,⟨hc,hn,_⟩,hb⟩
 have hc:=hc.slice
 have hn:=hn.slice
 obtain ⟨A1,cap1,rfl,hat1⟩:=one_at (f:=fun x:ByteArray×Nat=>Value.string x.1) (l:=rs) hc
 obtain ⟨A2,cap2,rfl,hat2⟩:=one_at (f:=fun x:ByteArray×Nat=>Value.int .i64 x.2) (l:=rs) hn
 clear hc hn
 go_wp2
 go_loopw [3,15] (fun v i wr=>∃ (k:Nat),k≤rs.length∧i=.int .i64 k∧RowB wr w1.heap.size 5 v (runB (rs.take k))∧Below w1.heap.size w1 wr) (fun _ i _=>rs.length-(intOf i).toNat)
 case atStart=>exact ⟨0,by omega,rfl,World.ownsRow_nil _ _ _ _,.refl _ _⟩
 case round =>
  obtain ⟨k,hk,rfl,hrow,hb1⟩:=hrel
  by_cases hlt:k < rs.length
  ·obtain ⟨b,off,rfl,hbl,hcc⟩:=hat1 k hlt
   obtain ⟨b2,off2,rfl,hbl2,hcn⟩:=hat2 k hlt
   have hx1:=(hb1.cell (p:=⟨b,off+k,none⟩) hbl).trans (hcc k hlt)
   have hsz:=runB_size (rs.take k) (fun x hx=>HR x (List.mem_of_mem_take hx))
   rw [List.length_take] at hsz
   have hsz2:(runB (rs.take k)).length≤1000020000000:=by omega
   have HT:=Lib.hid (runB_take rs k hlt)
   obtain ⟨hr1,hr2⟩:=HR _ (List.getElem_mem hlt)
   have hw2:IntKind.u64.wrap (rs[k].2:Int)=(rs[k].2:Int):=wrap_lt _ (by omega)
   have p1:=Lib.hid (runs_cell_calls rs[k].1 (by omega))
   have p2:=Lib.hid (print_calls rs[k].2 (by omega))
   have z1:(mkB (cellP rs[k].1)).size≤1000010:=by rw [mkB_size];have:=(cellP_length rs[k].1).resolve_right (by omega);omega
   have z2:(printB rs[k].2).size≤10:=by rw [print_len];exact vp_len_10 (by omega)
   generalize hW:runB (rs.take k)=L at *
   have hB1:=hb1.size
   clear hsz hcc hW
   obtain ⟨_,_,rfl⟩:=(hrow.own (by unfold maxLen;omega)).len
   go_wp2_with (first|(go_at_call 165;refine p1.out.stepB (w0:=wr) (B:=wr.heap.size) (.refl _ _) (Nat.le_refl _) ?_;intro w2 _ _ hq;replace hrow:=RowB.later hrow hq;replace hb1:=hb1.trans (hq.mono hB1);replace hB1:=Nat.le_trans hB1 hq.size;clear hx1 hq)|(at_builtin;refine Lib.wpList_append_own_string _ rfl _ _ 97 9 rfl w1.heap.size 5 i0 Tryz.underlying97 Tryz.underlying9 hi hz0 hz1 hz2 _ _ _ rfl hrow (mkB (cellP rs[k].1)) rfl ?c1 ?c2 hB1 ?_))
   case c1=>unfold maxLen;omega
   case c2=>omega
   intro v3 w3 hrow3 hg3 _
   have hb3:=hb1.grown hg3 hB1 (fun k hk=>(hrow.lt k hk).1)
   have hB3:=hb3.size
   replace hrow3:=RowB.step hrow3 rfl rfl
   have hx2:=(hb3.cell (p:=⟨b2,off2+k,none⟩) hbl2).trans (hcn k hlt)
   have hl3:(L++(mkB (cellP rs[k].1)).data.toList).length≤1000021000010:=by rw [List.length_append,data_size];omega
   clear hrow hb1 hB1 hg3 hcn
   generalize hW:L++(mkB (cellP rs[k].1)).data.toList=L2 at *
   obtain ⟨_,_,rfl⟩:=(hrow3.own (by unfold maxLen;omega)).len
   go_wp2_with (first|(go_at_call 109;refine p2.out.stepB (w0:=w3) (B:=w3.heap.size) (.refl _ _) (Nat.le_refl _) ?_;intro w4 _ _ hq;replace hrow3:=RowB.later hrow3 hq;replace hb3:=hb3.trans (hq.mono hB3);replace hB3:=Nat.le_trans hB3 hq.size;clear hx2 hq)|(at_builtin;refine Lib.wpList_append_own_string _ rfl _ _ 97 9 rfl w1.heap.size 5 i0 Tryz.underlying97 Tryz.underlying9 hi hz0 hz1 hz2 _ _ _ rfl hrow3 (printB rs[k].2) rfl ?c1 ?c2 hB3 ?_))
   case c1=>unfold maxLen;omega
   case c2=>omega
   intro v5 w5 hrow5 hg5 _
   have hb5:=hb3.grown hg5 hB3 (fun k hk=>(hrow3.lt k hk).1)
   have HO:=Lib.hid (RowB.step hrow5 HT.out rfl)
   clear hrow3 hb3 hB3 hg5 hrow5
   go_wp2
   go_roundw
   case rel=>exact ⟨k+1,by omega,by go_num,HO.out,hb5⟩
   case measure=>simp [intOf];omega
  ·obtain rfl:k=rs.length:=by omega
   rw [List.take_length] at hrow
   have hsz:=runB_size rs HR
   have hconv:=run_string_own (hrow.own (by unfold maxLen;omega)) 97 9 5 Tryz.underlying97 Tryz.underlying5 Tryz.underlying9
   obtain ⟨_,_,rfl⟩:=(hrow.own (by unfold maxLen;omega)).len
   clear hrow
   go_wp2
   go_ret
   exact ⟨ret_str rfl,hb.trans (hb1.mono hb.size)⟩
theorem runB_takeB (rs:List (ByteArray×Nat))(k:Nat)(h:k < rs.length):mkB (runB (rs.take k))++mkB (cellP rs[k].1)++printB rs[k].2=mkB (runB (rs.take (k+1))):=by
 apply bytes_ext
 rw [data_append,data_append,mkB_data,mkB_data,runB_take rs k h];rfl
set_option maxHeartbeats 1000000 in
theorem ref_runs_print_calls {w:World}{v:Value}{l:List ByteArray}(h:StrsIn w v l)(hlen:l.length≤1000000)(hs:∀ c∈l,c.size≤1000000):GivesAt Tryz.prog 125 #[v] w (.string (mkB (runsP l))):=by
 have H1:=Lib.hid (ref_runs_calls h hlen)
 have hm:=runsOf_mem l
 have hrl:=runs_le l
 obtain ⟨A,cap,rfl,_⟩:=one_at h
 unfold runsP
 clear h
 generalize hrs:runsOf l=rs at *
 have HR:∀ x∈rs,x.1.size≤1000000∧x.2≤1000000:=fun x hx=>⟨hs _ (hm x hx).1,Nat.le_trans (hm x hx).2 hlen⟩
 have hrl2:rs.length≤1000000:=by omega
 clear hm hrl hs hlen hrs
 unfold GivesAt
 go_enter Tryz.func125,Tryz.ntmps125
 go_wp2_with fail
 refine H1.out.mono ?_
 rintro e w1 ⟨c,n,rfl,⟨hc,hn,_⟩,hb⟩
 have hc:=hc.slice
 have hn:=hn.slice
 obtain ⟨A1,cap1,rfl,hat1⟩:=one_at (f:=fun x:ByteArray×Nat=>Value.string x.1) (l:=rs) hc
 obtain ⟨A2,cap2,rfl,hat2⟩:=one_at (f:=fun x:ByteArray×Nat=>Value.int .i64 x.2) (l:=rs) hn
 clear hc hn
 go_wp2
 go_loopw [5,6] (fun v i wr=>∃ (k:Nat),k≤rs.length∧i=.int .i64 k∧v=.string (mkB (runB (rs.take k)))∧Below w1.heap.size w1 wr) (fun _ i _=>rs.length-(intOf i).toNat)
 case atStart=>exact ⟨0,by omega,rfl,rfl,.refl _ _⟩
 case round =>
  obtain ⟨k,hk,rfl,rfl,hb1⟩:=hrel
  by_cases hlt:k < rs.length
  ·obtain ⟨b,off,rfl,hbl,hcc⟩:=hat1 k hlt
   obtain ⟨b2,off2,rfl,hbl2,hcn⟩:=hat2 k hlt
   have hx1:=(hb1.cell (p:=⟨b,off+k,none⟩) hbl).trans (hcc k hlt)
   have hx2:=(hb1.cell (p:=⟨b2,off2+k,none⟩) hbl2).trans (hcn k hlt)
   have k1:=fun d os=>cell_regrown hx1 d os
   have k2:=fun d os=>cell_regrown hx2 d os
   have hsz:=runB_size (rs.take k) (fun x hx=>HR x (List.mem_of_mem_take hx))
   rw [List.length_take] at hsz
   have hsz2:(mkB (runB (rs.take k))).size≤1000020000000:=by rw [mkB_size];omega
   have HT:=Lib.hid (runB_takeB rs k hlt)
   obtain ⟨hr1,hr2⟩:=HR _ (List.getElem_mem hlt)
   have hw2:IntKind.u64.wrap (rs[k].2:Int)=(rs[k].2:Int):=wrap_lt _ (by omega)
   have p1:=Lib.hid (ref_runs_cell_calls rs[k].1 (by omega))
   have p2:=Lib.hid (ref_print_calls rs[k].2 (by omega))
   have z1:(mkB (cellP rs[k].1)).size≤1000010:=by rw [mkB_size];have:=(cellP_length rs[k].1).resolve_right (by omega);omega
   have z2:(printB rs[k].2).size≤10:=by rw [print_len];exact vp_len_10 (by omega)
   generalize mkB (cellP rs[k].1)=X at *
   generalize printB rs[k].2=Y at *
   generalize mkB (runB (rs.take k))=L at *
   generalize rs[k].1=c at *
   generalize rs[k].2=m at *
   have hB1:=hb1.size
   have t1:¬9223372036854775807 < L.size+X.size:=by omega
   have t2:¬9223372036854775807 < L.size+X.size+Y.size:=by omega
   have t3:¬9223372036854775807 < L.size+(X.size+Y.size):=by omega
   clear hsz hcc hcn hx1 hx2 hr1 hr2 hsz2 z1 z2
   go_wp2_with fail
   refine wp_region_quiet_below (by kernel_rfl) (by kernel_rfl) ?_
   repeat (first|go_big_quiet_skip|(go_big_quiet_want;go_big_quiet_op;first|go_big_quiet_on|(apply Exists.intro;refine ⟨fun _=>?_,?_⟩;(first|(go_at_call 154;exact Calls.regrown_of (p1.out _))|(go_at_call 98;exact Calls.regrown_of (p2.out _)));go_big_quiet_on)))
   refine wpQuiet_nil ?_
   rintro w3 ⟨p,hw3⟩
   have hb:Below wr.heap.size wr w3:=hw3▸below_regrown wr p.d p.os
   clear hw3 k1 k2
   go_wp2
   go_roundw
   case rel=>exact ⟨k+1,by omega,by go_num,by rw [HT.out],hb1.trans (hb.mono hB1)⟩
   case measure=>simp [intOf];omega
  ·obtain rfl:k=rs.length:=by omega
   rw [List.take_length]
   go_wp2
   go_ret
   exact ⟨rfl,hb.trans (hb1.mono hb.size)⟩
end Go.Proofs.YtafmbnafibahkaaGreat
