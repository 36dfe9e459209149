/- The contracts of the answer's Same and Whole of layer 10. -/
import Derived.Test.YtjbpbfhgjldliaaGreatGStrs
import Derived.Test.YtjbpbfhgjldliaaGreatGTimes
import Derived.Lib.QuietBelow
import Derived.Deep.RegionLaw
import Derived.StillTailTactics
import Derived.Deep.RegionWith
namespace Go.Proofs.YtjbpbfhgjldliaaGreat
open Go Go.RowKit
theorem Tryz.infoM49:(Tryz.prog.info? 49).map (fun i=>(i.zero,i.size,i.bytes))=some (some (.agg #[.slice none 0 0,.int .i64 0]),2,32):=by kernel_rfl
theorem lit_tm (w:World)(T:TypeId)(rv:Value)(n:Int):SliceOf (w.alloc (.cells #[rv,.int .i64 n] T)) 2 (.slice (some ⟨w.heap.size,0,none⟩) 1 1) 1 [rv,.int .i64 n] :=
 (Own.lit (B:=0) (size:=2) w #[rv,.int .i64 n] T 1 (Nat.zero_le _) (by unfold maxLen;omega) rfl).slice
theorem one_tm {w:World}{rv:Value}{row:List ByteArray}(h:StrsIn w rv row)(n:Int):∀ u∈[rv,.int .i64 n],u.oneCell'=true:=by
 intro u hu
 simp only [List.mem_cons,List.not_mem_nil,or_false] at hu
 rcases hu with rfl|rfl
 ·obtain ⟨A,c,e,_⟩:=h.at_
  rw [e];rfl
 ·rfl
def Ahead (l:List Tm)(row:List ByteArray)(k:Nat):Prop:=∀ (j:Nat)(h:j < l.length),j < k→cmpL l[j].1 row = -1
theorem Ahead.next {l:List Tm}{row:List ByteArray}{k:Nat}(h:Ahead l row k)(hk:k < l.length)(hc:cmpL l[k].1 row = -1):Ahead l row (k+1):=by
 intro j hj hjk
 by_cases e:j=k
 ·subst e;exact hc
 ·exact h j hj (by omega)
theorem put_end:∀ (l:List Tm)(x:Tm),Ahead l x.1 l.length→putW l x=l++(if x.2=0 then [] else [x])
 | [],x,_=>by unfold putW;split <;> rfl
 | t::l,x,h=>by
  have h0:=h 0 (by simp) (by simp)
  have ih:=put_end l x (fun j hj hk=>by have:=h (j+1) (by simpa using hj) (by simpa using hj);simpa using this)
  unfold putW
  rw [if_pos (by simpa using h0),ih];rfl
theorem put_same:∀ (l:List Tm)(x:Tm)(k:Nat)(hk:k < l.length),Ahead l x.1 k→l[k].1=x.1→putW l x=l.take k++(if x.2+l[k].2=0 then [] else [(x.1,x.2+l[k].2)])++l.drop (k+1)
 | [],_,k,hk,_,_=>absurd hk (by simp)
 | t::l,x,0,_,_,e=>by
  have e':t.1=x.1:=e
  unfold putW
  rw [if_neg (by rw [e',cmpL_self];decide),if_pos e']
  show (if x.2+t.2=0 then l else (x.1,x.2+t.2)::l)=[]++(if x.2+t.2=0 then [] else [(x.1,x.2+t.2)])++l
  split <;> rfl
 | t::l,x,k+1,hk,h,e=>by
  have h0:=h 0 (by simp) (by omega)
  have ih:=put_same l x k (by simpa using hk) (fun j hj hk=>by have:=h (j+1) (by simpa using hj) (by omega);simpa using this) (by simpa using e)
  unfold putW
  rw [if_pos (by simpa using h0),ih];rfl
theorem put_here:∀ (l:List Tm)(x:Tm)(k:Nat)(hk:k < l.length),Ahead l x.1 k→¬cmpL l[k].1 x.1 = -1→l[k].1≠x.1→putW l x=l.take k++(if x.2=0 then [] else [x])++l.drop k
 | [],_,k,hk,_,_,_=>absurd hk (by simp)
 | t::l,x,0,_,_,hc,e=>by
  have e':¬t.1=x.1:=e
  have hc':¬cmpL t.1 x.1 = -1:=hc
  unfold putW
  rw [if_neg hc',if_neg e']
  show (if x.2=0 then t::l else x::t::l)=[]++(if x.2=0 then [] else [x])++(t::l)
  split <;> rfl
 | t::l,x,k+1,hk,h,hc,e=>by
  have h0:=h 0 (by simp) (by omega)
  have ih:=put_here l x k (by simpa using hk) (fun j hj hk=>by have:=h (j+1) (by simpa using hj) (by omega);simpa using this) (by simpa using hc) (by simpa using e)
  unfold putW
  rw [if_pos (by simpa using h0),ih];rfl
def GivesTimesN (Q:Value→Prop)(P:Program)(f:FuncId)(args:Array Value)(w:World)(l:List Tm):Prop:=Calls P f args w fun e w'=>∃ v,e=.returned v∧TimesQ Q w' v l∧Below w.heap.size w w'∧Fresh w.heap.size v
theorem GivesTimesN.q {Q:Value→Prop}{P:Program}{f:FuncId}{args:Array Value}{w:World}{l:List Tm}(h:GivesTimesN Q P f args w l):GivesTimesQ Q P f args w l:=Calls.mono h fun _ _ ⟨v,he,ht,hb,_⟩=>⟨v,he,ht,hb⟩
theorem own_new {w:World}{B O size n:Nat}{v:Value}{xs:List Value}(h:Own w B size v n xs)(hB:O≤B):Fresh O v:=fun k hk=>Nat.le_trans hB (h.lt k hk).1
def BoxOf (w:World)(B:Nat)(rv:Value)(n:Int):Prop:=Own w B 2 (.slice (some ⟨B,0,none⟩) 1 1) 1 [rv,.int .i64 n]
theorem BoxOf.cells {w:World}{B:Nat}{rv:Value}{n:Int}(h:BoxOf w B rv n):w.cell? ⟨B,0,none⟩=some rv∧w.cell? ⟨B,1,none⟩=some (.int .i64 n)∧w.frozen? ⟨B,1,none⟩=false∧B < w.heap.size:=by
 obtain ⟨_,h2,_,hc,hr⟩:=Own.parts h
 have e0:=hc 0 _ rfl
 have e1:=hc 1 _ rfl
 have e2:=(hr 1 (by decide)).2
 rw [Nat.zero_add] at e1 e2
 exact ⟨e0,e1,e2,h2⟩
theorem BoxOf.later {w w':World}{B:Nat}{rv:Value}{n:Int}(h:BoxOf w B rv n)(hb:Below w.heap.size w w'):BoxOf w' B rv n:=Own.later h hb
theorem BoxOf.stored {w:World}{B:Nat}{rv:Value}{n:Int}(h:BoxOf w B rv n)(m:Int):BoxOf (w.setCell ⟨B,1,none⟩ (.int .i64 m)) B rv m:=by
 have:=Own.stored h 1 (by decide) (.int .i64 m)
 rwa [Nat.zero_add] at this
theorem box_tm (w:World)(T:TypeId)(rv:Value)(n:Int):BoxOf (w.alloc (.cells #[rv,.int .i64 n] T)) w.heap.size rv n :=
 Own.lit (size:=2) w #[rv,.int .i64 n] T 1 (Nat.le_refl _) (by unfold maxLen;omega) rfl
theorem times_cells {w:World}{A:Option Addr}{cap:Nat}{tv:List (Value×Int)}{l:List Tm}(h1:SliceOf w 2 (.slice A l.length cap) l.length (timesV tv))(h2:RowsOf w tv l)(k:Nat)(hk:k < l.length) :
  ∃ b off,A=some ⟨b,off,none⟩∧b < w.heap.size∧∃ rv,StrsIn w rv l[k].1∧tv[k]? = some (rv,l[k].2)∧w.cell? ⟨b,off+k*2,none⟩=some rv∧w.cell? ⟨b,off+k*2+1,none⟩=some (.int .i64 l[k].2):=by
 obtain ⟨A',c',e,h4⟩:=h1.at_
 cases e
 obtain ⟨b,off,ea,hb,hc⟩:=h4 (by omega)
 have hl:=h2.length
 have hg:=h2.get k (by omega) hk
 have hv:=timesV_get tv k (by omega)
 refine ⟨b,off,ea,hb,tv[k].1,hg.1,?_,hc _ _ hv.1,?_⟩
 ·rw [List.getElem?_eq_getElem (by omega),←hg.2]
 ·rw [←hg.2];exact hc _ _ hv.2
set_option maxHeartbeats 8000000 in
set_option maxRecDepth 100000 in
theorem ref_put_some (Q:Value→Prop){w:World}{b off cap:Nat}{tv:List (Value×Int)}{l:List Tm}{Ar:Option Addr}{pr:Nat}{row:List ByteArray}{n:Int}(hsl:SliceOf w 2 (.slice (some ⟨b,off,none⟩) l.length cap) l.length (timesV tv))(hrows:RowsOf w tv l)(hQ:∀ t∈tv,Q t.1)(hQx:Q (.slice Ar row.length pr))(h0:0 < l.length)
  (hx:StrsIn w (.slice Ar row.length pr) row) (hl:l.length≤1000000) (hw:wtW l+n.natAbs≤4611686018427387904) :
  GivesTimesN Q Tryz.prog 19 #[.slice (some ⟨b,off,none⟩) l.length cap,timesA (.slice Ar row.length pr,n)] w (putW l (row,n)):=by
 obtain ⟨i0,hi,hz0,hz1,hz2⟩:=info_parts Tryz.infoM49
 obtain ⟨hb,hB⟩:=start w
 have hroom:l.length≤cap:=by
  obtain ⟨_,_,A',c',e,hr,_⟩:=hsl
  cases e;exact hr
 have hbl:b < w.heap.size:=by
  obtain ⟨_,_,e,h4⟩:=hsl.at_
  cases e
  obtain ⟨_,_,e1,hb1,_⟩:=h4 h0
  cases e1;exact hb1
 have HSL:=Lib.hid hsl
 have HAT:=Lib.hid (times_cells hsl hrows)
 have HROWS:=Lib.hid hrows
 have HQQ:=Lib.hid hQ
 have HQX:=Lib.hid hQx
 have HWT:=Lib.hid (fun t (ht:t∈l)=>wt_mem ht)
 have HX:=Lib.hid hx
 have H1:=Lib.hid (one_tm hx)
 have HLEN:=Lib.hid hrows.length
 have hbox:=box_tm w 49 (.slice Ar row.length pr) n
 have hb1:=(below_alloc hb hB (.cells #[.slice Ar row.length pr,Value.int .i64 n] 49)).1
 clear hsl hrows hx hb hB hQ hQx
 unfold GivesTimesN timesA
 go_enter Tryz.func19,Tryz.ntmps19
 go_wp2
 generalize w.alloc (.cells #[.slice Ar row.length pr,.int .i64 n] 49)=w1 at *
 go_loopw [5] (fun i wr=>∃ k:Nat,k≤l.length∧i=.int .i64 k∧Hid (Ahead l row k)∧BoxOf wr w.heap.size (.slice Ar row.length pr) n∧Below w.heap.size w wr) (fun i _=>l.length-(intOf i).toNat)
 case atStart=>exact ⟨0,Nat.zero_le _,rfl,fun j _ hj=>absurd hj (by omega),hbox,hb1⟩
 case round =>
  clear hb1 hbox
  obtain ⟨k,hk,rfl,HS,hbox,hb⟩:=hrel
  obtain ⟨y0,y1,_,_⟩:=BoxOf.cells hbox
  have b0:=fun d os=>cell_regrown y0 d os
  have b1:=fun d os=>cell_regrown y1 d os
  by_cases hlt:k < l.length
  ·obtain ⟨b',off',e,_,rk,hs,htv,c1,c2⟩:=HAT.out k hlt
   cases e
   have x1:=(hb.cell (p:=⟨b,off+k*2,none⟩) hbl).trans c1
   have x2:=(hb.cell (p:=⟨b,off+k*2+1,none⟩) hbl).trans c2
   have a1:=fun d os=>cell_regrown x1 d os
   have a2:=fun d os=>cell_regrown x2 d os
   have HQ:=Lib.hid (fun w' (hw:Below w.heap.size w w')=>ref_compare_calls (StrsIn.kept hs hw) (StrsIn.kept HX.out hw))
   have HC1:=Lib.hid (fun w' (hq:Below w.heap.size w w')=>(hq.cell (p:=⟨b,off+k*2,none⟩) hbl).trans c1)
   have HC2:=Lib.hid (fun w' (hq:Below w.heap.size w w')=>(hq.cell (p:=⟨b,off+k*2+1,none⟩) hbl).trans c2)
   have HNX:=Lib.hid (HS.out.next hlt)
   have hrg:=cmpL_range l[k].1 row
   clear c1 c2 hs x1 x2 y0 y1
   by_cases hcm:cmpL l[k].1 row = -1
   ·have HI:=Lib.hid (HNX.out hcm)
    have d2:decide (cmpL l[k].1 row < 0)=true:=by rw [decide_eq_true_eq];omega
    generalize cmpL l[k].1 row=z at *
    have HQB:=Lib.hid hb
    clear HNX
    go_wp2
    refine wp_region_quiet_below (by kernel_rfl) (by kernel_rfl) ?_
    repeat (first|go_big_quiet_skip|(go_big_quiet_want;go_big_quiet_op;first|go_big_quiet_on|(apply Exists.intro;refine ⟨fun _=>?_,?_⟩;(first|(go_at_call 14;exact Calls.regrown_of (HQ.out _ (HQB.out.trans ((below_regrown wr _ _).mono HQB.out.size)))));go_big_quiet_on)))
    refine wpQuiet_nil ?_
    rintro w3 ⟨p,hw3⟩
    have hb2:Below wr.heap.size wr w3:=hw3▸below_regrown wr p.d p.os
    clear hw3
    clear a1 a2 b0 b1 HQ
    replace hbox:=hbox.later hb2
    replace hb:=hb.trans (hb2.mono hb.size)
    clear hb2 HQB
    go_wp2
    go_roundw
    case rel=>exact ⟨k+1,by omega,by go_num,HI.out,hbox,hb⟩
    case measure=>simp [intOf];omega
   ·by_cases he:l[k].1=row
    ·have HP:=Lib.hid (put_same l (row,n) k hlt HS.out he)
     have d3:(cmpL l[k].1 row==0)=true:=by rw [beq_iff_eq,he,cmpL_self]
     have hm:=HWT.out _ (List.getElem_mem hlt)
     have HREST:Hid (∀ (A:Option Addr) (c:Nat),l.length-(k+1)≤c→(k+1 < l.length→A=some ⟨b,off+(k+1)*2,none⟩)→SliceOf w 2 (.slice A (l.length-(k+1)) c) (l.length-(k+1)) (timesV (tv.drop (k+1)))):=by
      intro A c hc hA
      have:=SliceOf.backN HSL.out (show k+1≤l.length by omega) hA
      rw [drop_timesV] at this
      obtain ⟨q1,q2,A',c',e,q3,q4⟩:=this
      cases e
      exact ⟨q1,q2,A,c,rfl,hc,q4⟩
     clear he HNX
     have d2:decide (cmpL l[k].1 row < 0)=false:=by rw [decide_eq_false_iff_not];omega
     clear hcm
     have d9:decide ((k:Int) < (l.length:Int))=true:=by rw [decide_eq_true_eq];omega
     generalize cmpL l[k].1 row=z at *
     have HQB:=Lib.hid hb
     go_wp2
     refine wp_region_quiet_below (by kernel_rfl) (by kernel_rfl) ?_
     repeat (first|go_big_quiet_skip|(go_big_quiet_want;go_big_quiet_op;first|go_big_quiet_on|(apply Exists.intro;refine ⟨fun _=>?_,?_⟩;(first|(go_at_call 14;exact Calls.regrown_of (HQ.out _ (HQB.out.trans ((below_regrown wr _ _).mono HQB.out.size)))));go_big_quiet_on)))
     refine wpQuiet_nil ?_
     rintro w3 ⟨p,hw3⟩
     have hb2:Below wr.heap.size wr w3:=hw3▸below_regrown wr p.d p.os
     clear hw3
     clear a1 a2 b0 b1
     replace hbox:=hbox.later hb2
     replace hb:=hb.trans (hb2.mono hb.size)
     clear hb2 HQB
     generalize l[k].2=m0 at *
     obtain ⟨M,hM⟩:∃ M,n+m0=M:=⟨_,rfl⟩
     have q2:IntKind.i64.wrap (n+m0)=M:=by rw [←hM];exact IntWalk.i64_in _ (by omega)
     have HP2:Hid (putW l (row,n)=l.take k++(if M=0 then [] else [(row,M)])++l.drop (k+1)):=by
      have h:=HP.out
      rw [hM] at h;exact h
     clear HP hM
     have hB:=hb.size
     have HF:=Lib.hid (SliceOf.frontN HSL.out (show k≤l.length by omega))
     go_wp2_with (at_builtin;refine wpList_append_src rfl (.tmp 24) (.tmp 27) 30 rfl 49 i0 (.agg #[.slice none 0 0,.int .i64 0]) 2 32 Tryz.underlying30 hi hz0 hz1 hz2 rfl (by decide) (B:=w3.heap.size) _ 0 [] rfl (own_empty 2 (Nat.le_refl _) (by simp)) _ k ((timesV tv).take (k*2)) rfl ((SliceOf.later HF.out hb).alloc _) (fun u hu=>HROWS.out.one_cell u (List.mem_of_mem_take hu)) (by unfold maxLen;omega) (by omega) (by simp) ?_)
     intro v6 w6 hO6 hg6 _
     have hb6:=boxed_below hg6
     rw [take_timesV] at hO6
     have hbx:w.heap.size < w3.heap.size:=(BoxOf.cells hbox).2.2.2
     replace hbox:=hbox.later hb6
     replace hb:=hb.trans (hb6.mono hb.size)
     have HLE:=Lib.hid hB
     have hB6:w3.heap.size≤w6.heap.size:=hb6.size
     generalize w3.heap.size=B6 at *
     have hO:=hO6
     clear hO6 hg6 hb6 HF
     obtain ⟨y0,y1,yf,_⟩:=BoxOf.cells hbox
     have b0:=fun d os=>cell_regrown y0 d os
     have b1:=fun d os=>cell_regrown y1 d os
     have x1:=HC1.out _ hb
     have x2:=HC2.out _ hb
     have a1:=fun d os=>cell_regrown x1 d os
     have a2:=fun d os=>cell_regrown x2 d os
     have HQB:=Lib.hid hb
     go_wp2
     refine wp_region_quiet_below (by kernel_rfl) (by kernel_rfl) ?_
     repeat (first|go_big_quiet_skip|(go_big_quiet_want;go_big_quiet_op;first|go_big_quiet_on|(apply Exists.intro;refine ⟨fun _=>?_,?_⟩;(first|(go_at_call 14;exact Calls.regrown_of (HQ.out _ (HQB.out.trans ((below_regrown w6 _ _).mono HQB.out.size)))));go_big_quiet_on)))
     refine wpQuiet_nil ?_
     rintro w7 ⟨p,hw3⟩
     have hb2:Below w6.heap.size w6 w7:=hw3▸below_regrown w6 p.d p.os
     clear hw3
     clear a1 a2 x1 x2
     clear b0 b1
     replace hbox:=hbox.later hb2
     replace hO:=hO.later hb2
     replace hb:=hb.trans (hb2.mono hb.size)
     replace hB6:=Nat.le_trans hB6 hb2.size
     clear hb2 y0 y1 yf HQB HQ
     obtain ⟨y0,y1,yf,yl⟩:=BoxOf.cells hbox
     have x2:=HC2.out _ hb
     go_wp2
     go_region
     have hbox8:BoxOf (w7.setCell ⟨w.heap.size,1,none⟩ (.int .i64 M)).drew w.heap.size (.slice Ar row.length pr) M:=Own.drew (hbox.stored M)
     have hO8:=Own.drew (own_aside hO hbx (grown_set (grown_refl w7 (some w.heap.size)) 1 (.int .i64 M)))
     have hb8:=(hb.setCell (Nat.le_refl w.heap.size) (p:=⟨w.heap.size,1,none⟩) (.int .i64 M)).drew
     have hB8:B6≤(w7.setCell ⟨w.heap.size,1,none⟩ (.int .i64 M)).drew.heap.size:=Nat.le_trans hB6 (by simp)
     clear hbox hO hb hB6 y0 y1 yf yl x2
     generalize (w7.setCell ⟨w.heap.size,1,none⟩ (.int .i64 M)).drew=w8 at *
     have hbox:=hbox8
     have hO:=hO8
     have hb:=hb8
     have hB6:=hB8
     clear hbox8 hO8 hb8 hB8
     have HP:=HP2
     clear HP2
     obtain ⟨y0,y1,_,_⟩:=BoxOf.cells hbox
     by_cases hz:M=0
     ·have d5:(M==0)=true:=by rw [beq_iff_eq];exact hz
      have d6:(M != 0)=false:=by rw [bne,d5];rfl
      rw [if_pos hz] at HP
      clear hz
      go_wp2_with (at_builtin;refine wpList_append_src rfl (.tmp 67) (.tmp 68) 30 rfl 49 i0 (.agg #[.slice none 0 0,.int .i64 0]) 2 32 Tryz.underlying30 hi hz0 hz1 hz2 rfl (by decide) (B:=B6) v6 k _ rfl hO _ (l.length-(k+1)) (timesV (tv.drop (k+1))) rfl (SliceOf.later (HREST.out _ _ (by omega) (fun h=>by first|rfl|rw [if_neg (by omega)]|(simp only [Option.some.injEq,Addr.mk.injEq,and_true,true_and];omega)|omega)) hb) (HROWS.out.drop (k+1)).one_cell (by unfold maxLen;omega) (by omega) hB6 ?_)
      all_goals
       intro v9 w9 hO9 hg9 _
       have hb9:=(hO.mono HLE.out).grown hb hb.size hg9
       have H9:=Lib.hid hO9.slice
       have HFR:=Lib.hid (own_new hO9 HLE.out)
       obtain ⟨_,_,rfl⟩:=hO9.len
       clear hO hO9 hg9 y0 y1 hbox
       go_wp2
       go_ret
       refine ⟨_,rfl,?_,hb9,HFR.out⟩
       rw [HP.out]
       refine TimesQ.of (tv:=tv.take (k)++[]++tv.drop (k+1)) (by rw [timesV_append,timesV_append];have:=H9.out;simpa [timesV_nil] using this) ((((HROWS.out.take (k)).append (l:=l.take (k)) (m:=[]) (b:=[]) trivial).append (HROWS.out.drop (k+1))).kept hb9) (by simp only [List.length_append,List.length_take,List.length_drop,List.length_nil];omega) (q_mid HQQ.out q_none _ _)
     ·have d5:(M==0)=false:=by rw [beq_eq_false_iff_ne];exact hz
      have d6:(M != 0)=true:=by rw [bne,d5];rfl
      rw [if_neg hz] at HP
      clear hz
      go_wp2_with (at_builtin;refine wpList_append_src rfl (.tmp 63) (.tmp 65) 30 rfl 49 i0 (.agg #[.slice none 0 0,.int .i64 0]) 2 32 Tryz.underlying30 hi hz0 hz1 hz2 rfl (by decide) (B:=B6) v6 k _ rfl (Own.alloc hO _) _ 1 [.slice Ar row.length pr,.int .i64 M] rfl (lit_tm w8 49 (.slice Ar row.length pr) M) (H1.out _) (by unfold maxLen;omega) (by omega) (Nat.le_trans hB6 (by simp)) ?_)
      all_goals
       intro v8 w8 hO8 hg8 _
       have hb8:=((Own.alloc hO (.cells #[.slice Ar row.length pr,Value.int .i64 M] 49)).mono HLE.out).grown (below_alloc hb hb.size _).1 (below_alloc hb hb.size _).2 hg8
       have hB8:B6≤w8.heap.size:=Nat.le_trans (Nat.le_trans hB6 (by simp)) hg8.size
       clear hO hg8 hb y0 y1 hbox
       go_wp2_with (at_builtin;refine wpList_append_src rfl (.tmp 67) (.tmp 68) 30 rfl 49 i0 (.agg #[.slice none 0 0,.int .i64 0]) 2 32 Tryz.underlying30 hi hz0 hz1 hz2 rfl (by decide) (B:=B6) v8 _ _ rfl hO8 _ (l.length-(k+1)) (timesV (tv.drop (k+1))) rfl (SliceOf.later (HREST.out _ _ (by omega) (fun h=>by first|rfl|rw [if_neg (by omega)]|(simp only [Option.some.injEq,Addr.mk.injEq,and_true,true_and];omega)|omega)) hb8) (HROWS.out.drop (k+1)).one_cell (by unfold maxLen;omega) (by omega) hB8 ?_)
       intro v9 w9 hO9 hg9 _
       have hb9:=(hO8.mono HLE.out).grown hb8 hb8.size hg9
       have H9:=Lib.hid hO9.slice
       have HFR:=Lib.hid (own_new hO9 HLE.out)
       obtain ⟨_,_,rfl⟩:=hO9.len
       clear hO8 hO9 hg9 hb8
       go_wp2
       go_ret
       refine ⟨_,rfl,?_,hb9,HFR.out⟩
       rw [HP.out]
       refine TimesQ.of (tv:=tv.take (k)++[(.slice Ar row.length pr,M)]++tv.drop (k+1)) (by rw [timesV_append,timesV_append];have:=H9.out;simpa [timesV_cons,timesV_nil] using this) ((((HROWS.out.take (k)).append (RowsOf.one (n:=M) HX.out)).append (HROWS.out.drop (k+1))).kept hb9) (by simp only [List.length_append,List.length_take,List.length_drop,List.length_cons,List.length_nil];omega) (q_mid HQQ.out (q_one HQX.out) _ _)
    ·have HP:=Lib.hid (put_here l (row,n) k hlt HS.out hcm he)
     have hz0':¬cmpL l[k].1 row=0:=fun e=>he ((cmpL_zero _ _).1 e)
     have d3:(cmpL l[k].1 row==0)=false:=by rw [beq_eq_false_iff_ne];exact hz0'
     have HREST:Hid (∀ (A:Option Addr) (c:Nat),l.length-(k)≤c→(k < l.length→A=some ⟨b,off+(k)*2,none⟩)→SliceOf w 2 (.slice A (l.length-(k)) c) (l.length-(k)) (timesV (tv.drop (k)))):=by
      intro A c hc hA
      have:=SliceOf.backN HSL.out (show k≤l.length by omega) hA
      rw [drop_timesV] at this
      obtain ⟨q1,q2,A',c',e,q3,q4⟩:=this
      cases e
      exact ⟨q1,q2,A,c,rfl,hc,q4⟩
     clear hz0' he HNX
     have d2:decide (cmpL l[k].1 row < 0)=false:=by rw [decide_eq_false_iff_not];omega
     clear hcm
     have d9:decide ((k:Int) < (l.length:Int))=true:=by rw [decide_eq_true_eq];omega
     generalize cmpL l[k].1 row=z at *
     have HQB:=Lib.hid hb
     go_wp2
     refine wp_region_quiet_below (by kernel_rfl) (by kernel_rfl) ?_
     repeat (first|go_big_quiet_skip|(go_big_quiet_want;go_big_quiet_op;first|go_big_quiet_on|(apply Exists.intro;refine ⟨fun _=>?_,?_⟩;(first|(go_at_call 14;exact Calls.regrown_of (HQ.out _ (HQB.out.trans ((below_regrown wr _ _).mono HQB.out.size)))));go_big_quiet_on)))
     refine wpQuiet_nil ?_
     rintro w3 ⟨p,hw3⟩
     have hb2:Below wr.heap.size wr w3:=hw3▸below_regrown wr p.d p.os
     clear hw3
     clear a1 a2 b0 b1
     replace hbox:=hbox.later hb2
     replace hb:=hb.trans (hb2.mono hb.size)
     clear hb2 HQB
     have hB:=hb.size
     have HF:=Lib.hid (SliceOf.frontN HSL.out (show k≤l.length by omega))
     go_wp2_with (at_builtin;refine wpList_append_src rfl (.tmp 24) (.tmp 27) 30 rfl 49 i0 (.agg #[.slice none 0 0,.int .i64 0]) 2 32 Tryz.underlying30 hi hz0 hz1 hz2 rfl (by decide) (B:=w3.heap.size) _ 0 [] rfl (own_empty 2 (Nat.le_refl _) (by simp)) _ k ((timesV tv).take (k*2)) rfl ((SliceOf.later HF.out hb).alloc _) (fun u hu=>HROWS.out.one_cell u (List.mem_of_mem_take hu)) (by unfold maxLen;omega) (by omega) (by simp) ?_)
     intro v6 w6 hO6 hg6 _
     have hb6:=boxed_below hg6
     rw [take_timesV] at hO6
     have hbx:w.heap.size < w3.heap.size:=(BoxOf.cells hbox).2.2.2
     replace hbox:=hbox.later hb6
     replace hb:=hb.trans (hb6.mono hb.size)
     have HLE:=Lib.hid hB
     have hB6:w3.heap.size≤w6.heap.size:=hb6.size
     generalize w3.heap.size=B6 at *
     have hO:=hO6
     clear hO6 hg6 hb6 HF
     obtain ⟨y0,y1,yf,_⟩:=BoxOf.cells hbox
     have b0:=fun d os=>cell_regrown y0 d os
     have b1:=fun d os=>cell_regrown y1 d os
     have x1:=HC1.out _ hb
     have x2:=HC2.out _ hb
     have a1:=fun d os=>cell_regrown x1 d os
     have a2:=fun d os=>cell_regrown x2 d os
     have HQB:=Lib.hid hb
     go_wp2
     refine wp_region_quiet_below (by kernel_rfl) (by kernel_rfl) ?_
     repeat (first|go_big_quiet_skip|(go_big_quiet_want;go_big_quiet_op;first|go_big_quiet_on|(apply Exists.intro;refine ⟨fun _=>?_,?_⟩;(first|(go_at_call 14;exact Calls.regrown_of (HQ.out _ (HQB.out.trans ((below_regrown w6 _ _).mono HQB.out.size)))));go_big_quiet_on)))
     refine wpQuiet_nil ?_
     rintro w7 ⟨p,hw3⟩
     have hb2:Below w6.heap.size w6 w7:=hw3▸below_regrown w6 p.d p.os
     clear hw3
     clear a1 a2 x1 x2
     clear b0 b1
     replace hbox:=hbox.later hb2
     replace hO:=hO.later hb2
     replace hb:=hb.trans (hb2.mono hb.size)
     replace hB6:=Nat.le_trans hB6 hb2.size
     clear hb2 y0 y1 yf HQB HQ
     obtain ⟨y0,y1,yf,yl⟩:=BoxOf.cells hbox
     by_cases hz:n=0
     ·have d5:(n==0)=true:=by rw [beq_iff_eq];exact hz
      have d6:(n != 0)=false:=by rw [bne,d5];rfl
      rw [if_pos hz] at HP
      clear hz
      go_wp2_with (at_builtin;refine wpList_append_src rfl (.tmp 67) (.tmp 68) 30 rfl 49 i0 (.agg #[.slice none 0 0,.int .i64 0]) 2 32 Tryz.underlying30 hi hz0 hz1 hz2 rfl (by decide) (B:=B6) v6 k _ rfl hO _ (l.length-(k)) (timesV (tv.drop (k))) rfl (SliceOf.later (HREST.out _ _ (by omega) (fun h=>by first|rfl|rw [if_neg (by omega)]|(simp only [Option.some.injEq,Addr.mk.injEq,and_true,true_and];omega)|omega)) hb) (HROWS.out.drop (k)).one_cell (by unfold maxLen;omega) (by omega) hB6 ?_)
      all_goals
       intro v9 w9 hO9 hg9 _
       have hb9:=(hO.mono HLE.out).grown hb hb.size hg9
       have H9:=Lib.hid hO9.slice
       have HFR:=Lib.hid (own_new hO9 HLE.out)
       obtain ⟨_,_,rfl⟩:=hO9.len
       clear hO hO9 hg9 y0 y1 hbox
       go_wp2
       go_ret
       refine ⟨_,rfl,?_,hb9,HFR.out⟩
       rw [HP.out]
       refine TimesQ.of (tv:=tv.take (k)++[]++tv.drop (k)) (by rw [timesV_append,timesV_append];have:=H9.out;simpa [timesV_nil] using this) ((((HROWS.out.take (k)).append (l:=l.take (k)) (m:=[]) (b:=[]) trivial).append (HROWS.out.drop (k))).kept hb9) (by simp only [List.length_append,List.length_take,List.length_drop,List.length_nil];omega) (q_mid HQQ.out q_none _ _)
     ·have d5:(n==0)=false:=by rw [beq_eq_false_iff_ne];exact hz
      have d6:(n != 0)=true:=by rw [bne,d5];rfl
      rw [if_neg hz] at HP
      clear hz
      go_wp2_with (at_builtin;refine wpList_append_src rfl (.tmp 63) (.tmp 65) 30 rfl 49 i0 (.agg #[.slice none 0 0,.int .i64 0]) 2 32 Tryz.underlying30 hi hz0 hz1 hz2 rfl (by decide) (B:=B6) v6 k _ rfl (Own.alloc hO _) _ 1 [.slice Ar row.length pr,.int .i64 n] rfl (lit_tm w7 49 (.slice Ar row.length pr) n) (H1.out _) (by unfold maxLen;omega) (by omega) (Nat.le_trans hB6 (by simp)) ?_)
      all_goals
       intro v8 w8 hO8 hg8 _
       have hb8:=((Own.alloc hO (.cells #[.slice Ar row.length pr,Value.int .i64 n] 49)).mono HLE.out).grown (below_alloc hb hb.size _).1 (below_alloc hb hb.size _).2 hg8
       have hB8:B6≤w8.heap.size:=Nat.le_trans (Nat.le_trans hB6 (by simp)) hg8.size
       clear hO hg8 hb y0 y1 hbox
       go_wp2_with (at_builtin;refine wpList_append_src rfl (.tmp 67) (.tmp 68) 30 rfl 49 i0 (.agg #[.slice none 0 0,.int .i64 0]) 2 32 Tryz.underlying30 hi hz0 hz1 hz2 rfl (by decide) (B:=B6) v8 _ _ rfl hO8 _ (l.length-(k)) (timesV (tv.drop (k))) rfl (SliceOf.later (HREST.out _ _ (by omega) (fun h=>by first|rfl|rw [if_neg (by omega)]|(simp only [Option.some.injEq,Addr.mk.injEq,and_true,true_and];omega)|omega)) hb8) (HROWS.out.drop (k)).one_cell (by unfold maxLen;omega) (by omega) hB8 ?_)
       intro v9 w9 hO9 hg9 _
       have hb9:=(hO8.mono HLE.out).grown hb8 hb8.size hg9
       have H9:=Lib.hid hO9.slice
       have HFR:=Lib.hid (own_new hO9 HLE.out)
       obtain ⟨_,_,rfl⟩:=hO9.len
       clear hO8 hO9 hg9 hb8
       go_wp2
       go_ret
       refine ⟨_,rfl,?_,hb9,HFR.out⟩
       rw [HP.out]
       refine TimesQ.of (tv:=tv.take (k)++[(.slice Ar row.length pr,n)]++tv.drop (k)) (by rw [timesV_append,timesV_append];have:=H9.out;simpa [timesV_cons,timesV_nil] using this) ((((HROWS.out.take (k)).append (RowsOf.one (n:=n) HX.out)).append (HROWS.out.drop (k))).kept hb9) (by simp only [List.length_append,List.length_take,List.length_drop,List.length_cons,List.length_nil];omega) (q_mid HQQ.out (q_one HQX.out) _ _)
  ·obtain rfl:k=l.length:=by omega
   have HP:=Lib.hid (put_end l (row,n) HS.out)
   clear y0 y1
   go_wp2
   refine wp_region_quiet_below (by kernel_rfl) (by kernel_rfl) ?_
   repeat (first|go_big_quiet_skip|(go_big_quiet_want;go_big_quiet_op;first|go_big_quiet_on))
   refine wpQuiet_nil ?_
   rintro w3 ⟨p,hw3⟩
   have hb2:Below wr.heap.size wr w3:=hw3▸below_regrown wr p.d p.os
   clear hw3
   clear b0 b1
   replace hbox:=hbox.later hb2
   replace hb:=hb.trans (hb2.mono hb.size)
   clear hb2
   have hB:=hb.size
   have HF:=Lib.hid (SliceOf.frontN HSL.out (show l.length≤l.length by omega))
   go_wp2_with (at_builtin;refine wpList_append_src rfl (.tmp 24) (.tmp 27) 30 rfl 49 i0 (.agg #[.slice none 0 0,.int .i64 0]) 2 32 Tryz.underlying30 hi hz0 hz1 hz2 rfl (by decide) (B:=w3.heap.size) _ 0 [] rfl (own_empty 2 (Nat.le_refl _) (by simp)) _ l.length ((timesV tv).take (l.length*2)) rfl ((SliceOf.later HF.out hb).alloc _) (fun u hu=>HROWS.out.one_cell u (List.mem_of_mem_take hu)) (by unfold maxLen;omega) (by omega) (by simp) ?_)
   intro v6 w6 hO6 hg6 _
   have hb6:=boxed_below hg6
   rw [take_timesV] at hO6
   have hbx:w.heap.size < w3.heap.size:=(BoxOf.cells hbox).2.2.2
   replace hbox:=hbox.later hb6
   replace hb:=hb.trans (hb6.mono hb.size)
   have HLE:=Lib.hid hB
   have hB6:w3.heap.size≤w6.heap.size:=hb6.size
   generalize w3.heap.size=B6 at *
   have hO:=hO6
   clear hO6 hg6 hb6 HF
   obtain ⟨y0,y1,yf,_⟩:=BoxOf.cells hbox
   have b0:=fun d os=>cell_regrown y0 d os
   have b1:=fun d os=>cell_regrown y1 d os
   go_wp2
   refine wp_region_quiet_below (by kernel_rfl) (by kernel_rfl) ?_
   repeat (first|go_big_quiet_skip|(go_big_quiet_want;go_big_quiet_op;first|go_big_quiet_on))
   refine wpQuiet_nil ?_
   rintro w7 ⟨p,hw3⟩
   have hb2:Below w6.heap.size w6 w7:=hw3▸below_regrown w6 p.d p.os
   clear hw3
   clear b0 b1
   replace hbox:=hbox.later hb2
   replace hO:=hO.later hb2
   replace hb:=hb.trans (hb2.mono hb.size)
   replace hB6:=Nat.le_trans hB6 hb2.size
   clear hb2 y0 y1 yf
   obtain ⟨y0,y1,yf,_⟩:=BoxOf.cells hbox
   by_cases hz:n=0
   ·have d5:(n==0)=true:=by rw [beq_iff_eq];exact hz
    have d6:(n != 0)=false:=by rw [bne,d5];rfl
    rw [if_pos hz] at HP
    clear hz
    go_wp2_with (at_builtin;refine wpList_append_src rfl (.tmp 67) (.tmp 68) 30 rfl 49 i0 (.agg #[.slice none 0 0,.int .i64 0]) 2 32 Tryz.underlying30 hi hz0 hz1 hz2 rfl (by decide) (B:=B6) v6 l.length _ rfl hO _ 0 [] rfl (SliceOf.nil_ _ 2 _ _) (fun u hu=>absurd hu (by simp)) (by unfold maxLen;omega) (by omega) hB6 ?_)
    all_goals
     intro v9 w9 hO9 hg9 _
     have hb9:=(hO.mono HLE.out).grown hb hb.size hg9
     have H9:=Lib.hid hO9.slice
     have HFR:=Lib.hid (own_new hO9 HLE.out)
     obtain ⟨_,_,rfl⟩:=hO9.len
     clear hO hO9 hg9 y0 y1 hbox
     go_wp2
     go_ret
     refine ⟨_,rfl,?_,hb9,HFR.out⟩
     rw [HP.out]
     refine TimesQ.of (tv:=tv.take (l.length)) (by have:=H9.out;simpa using this) ?_ (by simp) (fun t ht=>HQQ.out t (List.mem_of_mem_take ht))
     have:=(HROWS.out.take (l.length)).kept hb9
     simpa using this
   ·have d5:(n==0)=false:=by rw [beq_eq_false_iff_ne];exact hz
    have d6:(n != 0)=true:=by rw [bne,d5];rfl
    rw [if_neg hz] at HP
    clear hz
    go_wp2_with (at_builtin;refine wpList_append_src rfl (.tmp 63) (.tmp 65) 30 rfl 49 i0 (.agg #[.slice none 0 0,.int .i64 0]) 2 32 Tryz.underlying30 hi hz0 hz1 hz2 rfl (by decide) (B:=B6) v6 l.length _ rfl (Own.alloc hO _) _ 1 [.slice Ar row.length pr,.int .i64 n] rfl (lit_tm w7 49 (.slice Ar row.length pr) n) (H1.out _) (by unfold maxLen;omega) (by omega) (Nat.le_trans hB6 (by simp)) ?_)
    all_goals
     intro v8 w8 hO8 hg8 _
     have hb8:=((Own.alloc hO (.cells #[.slice Ar row.length pr,Value.int .i64 n] 49)).mono HLE.out).grown (below_alloc hb hb.size _).1 (below_alloc hb hb.size _).2 hg8
     have hB8:B6≤w8.heap.size:=Nat.le_trans (Nat.le_trans hB6 (by simp)) hg8.size
     clear hO hg8 hb y0 y1 hbox
     go_wp2_with (at_builtin;refine wpList_append_src rfl (.tmp 67) (.tmp 68) 30 rfl 49 i0 (.agg #[.slice none 0 0,.int .i64 0]) 2 32 Tryz.underlying30 hi hz0 hz1 hz2 rfl (by decide) (B:=B6) v8 _ _ rfl hO8 _ 0 [] rfl (SliceOf.nil_ _ 2 _ _) (fun u hu=>absurd hu (by simp)) (by unfold maxLen;omega) (by omega) hB8 ?_)
     intro v9 w9 hO9 hg9 _
     have hb9:=(hO8.mono HLE.out).grown hb8 hb8.size hg9
     have H9:=Lib.hid hO9.slice
     have HFR:=Lib.hid (own_new hO9 HLE.out)
     obtain ⟨_,_,rfl⟩:=hO9.len
     clear hO8 hO9 hg9 hb8
     go_wp2
     go_ret
     refine ⟨_,rfl,?_,hb9,HFR.out⟩
     rw [HP.out]
     refine TimesQ.of (tv:=tv.take (l.length)++[(.slice Ar row.length pr,n)]) (by rw [timesV_append];have:=H9.out;simpa [timesV_cons,timesV_nil] using this) (RowsOf.kept hb9 ?_) (by simp) (q_end HQQ.out (q_one HQX.out) _)
     have:=(HROWS.out.take (l.length)).append (RowsOf.one (n:=n) HX.out)
     simpa using this
set_option maxHeartbeats 8000000 in
set_option maxRecDepth 100000 in
theorem ref_put_none (Q:Value→Prop){w:World}{A:Option Addr}{cap:Nat}{Ar:Option Addr}{pr:Nat}{row:List ByteArray}{n:Int}(hx:StrsIn w (.slice Ar row.length pr) row)(hQx:Q (.slice Ar row.length pr)) :
  GivesTimesN Q Tryz.prog 19 #[.slice A 0 cap,timesA (.slice Ar row.length pr,n)] w (putW [] (row,n)):=by
 obtain ⟨i0,hi,hz0,hz1,hz2⟩:=info_parts Tryz.infoM49
 obtain ⟨hb,hB⟩:=start w
 have HX:=Lib.hid hx
 have HQX:=Lib.hid hQx
 have H1:=Lib.hid (one_tm hx)
 have HP:=Lib.hid (put_end [] (row,n) (fun j hj=>absurd hj (by simp)))
 have hbox:=box_tm w 49 (.slice Ar row.length pr) n
 have hb1:=(below_alloc hb hB (.cells #[.slice Ar row.length pr,Value.int .i64 n] 49)).1
 clear hx hQx hb hB
 unfold GivesTimesN timesA
 cases A
 all_goals
  go_enter Tryz.func19,Tryz.ntmps19
  go_wp2
  generalize w.alloc (.cells #[.slice Ar row.length pr,.int .i64 n] 49)=w1 at *
  go_loopw [5] (fun i wr=>i=.int .i64 0∧BoxOf wr w.heap.size (.slice Ar row.length pr) n∧Below w.heap.size w wr) (fun _ _=>0)
  case atStart=>exact ⟨rfl,hbox,hb1⟩
  case round =>
   clear hb1 hbox
   obtain ⟨rfl,hbox,hb⟩:=hrel
   obtain ⟨y0,y1,_,_⟩:=BoxOf.cells hbox
   have b0:=fun d os=>cell_regrown y0 d os
   have b1:=fun d os=>cell_regrown y1 d os
   clear y0 y1
   go_wp2
   refine wp_region_quiet_below (by kernel_rfl) (by kernel_rfl) ?_
   repeat (first|go_big_quiet_skip|(go_big_quiet_want;go_big_quiet_op;first|go_big_quiet_on))
   refine wpQuiet_nil ?_
   rintro w3 ⟨p,hw3⟩
   have hb2:Below wr.heap.size wr w3:=hw3▸below_regrown wr p.d p.os
   clear hw3
   clear b0 b1
   replace hbox:=hbox.later hb2
   replace hb:=hb.trans (hb2.mono hb.size)
   clear hb2
   have hB:=hb.size
   go_wp2_with (at_builtin;refine wpList_append_src rfl (.tmp 24) (.tmp 27) 30 rfl 49 i0 (.agg #[.slice none 0 0,.int .i64 0]) 2 32 Tryz.underlying30 hi hz0 hz1 hz2 rfl (by decide) (B:=w3.heap.size) _ 0 [] rfl (own_empty 2 (Nat.le_refl _) (by simp)) _ 0 [] rfl (SliceOf.nil_ _ 2 _ _) (fun u hu=>absurd hu (by simp)) (by unfold maxLen;omega) (by omega) (by simp) ?_)
   intro v6 w6 hO6 hg6 _
   have hb6:=boxed_below hg6
   have hbx:w.heap.size < w3.heap.size:=(BoxOf.cells hbox).2.2.2
   replace hbox:=hbox.later hb6
   replace hb:=hb.trans (hb6.mono hb.size)
   have HLE:=Lib.hid hB
   have hB6:w3.heap.size≤w6.heap.size:=hb6.size
   generalize w3.heap.size=B6 at *
   have hO:Own w6 B6 2 v6 0 []:=hO6
   clear hO6 hg6 hb6 hbx
   obtain ⟨y0,y1,yf,_⟩:=BoxOf.cells hbox
   have b0:=fun d os=>cell_regrown y0 d os
   have b1:=fun d os=>cell_regrown y1 d os
   go_wp2
   refine wp_region_quiet_below (by kernel_rfl) (by kernel_rfl) ?_
   repeat (first|go_big_quiet_skip|(go_big_quiet_want;go_big_quiet_op;first|go_big_quiet_on))
   refine wpQuiet_nil ?_
   rintro w7 ⟨p,hw3⟩
   have hb2:Below w6.heap.size w6 w7:=hw3▸below_regrown w6 p.d p.os
   clear hw3
   clear b0 b1
   replace hbox:=hbox.later hb2
   replace hO:=hO.later hb2
   replace hb:=hb.trans (hb2.mono hb.size)
   replace hB6:=Nat.le_trans hB6 hb2.size
   clear hb2 y0 y1 yf
   obtain ⟨y0,y1,yf,_⟩:=BoxOf.cells hbox
   by_cases hz:n=0
   ·have d5:(n==0)=true:=by rw [beq_iff_eq];exact hz
    have d6:(n != 0)=false:=by rw [bne,d5];rfl
    rw [if_pos hz] at HP
    clear hz
    go_wp2_with (at_builtin;refine wpList_append_src rfl (.tmp 67) (.tmp 68) 30 rfl 49 i0 (.agg #[.slice none 0 0,.int .i64 0]) 2 32 Tryz.underlying30 hi hz0 hz1 hz2 rfl (by decide) (B:=B6) v6 0 [] rfl hO _ 0 [] rfl (SliceOf.nil_ _ 2 _ _) (fun u hu=>absurd hu (by simp)) (by unfold maxLen;omega) (by omega) hB6 ?_)
    all_goals
     intro v9 w9 hO9 hg9 _
     have hb9:=(hO.mono HLE.out).grown hb hb.size hg9
     have H9:=Lib.hid hO9.slice
     have HFR:=Lib.hid (own_new hO9 HLE.out)
     obtain ⟨_,_,rfl⟩:=hO9.len
     clear hO hO9 hg9 y0 y1 hbox
     go_wp2
     go_ret
     refine ⟨_,rfl,?_,hb9,HFR.out⟩
     rw [HP.out]
     exact TimesQ.of (tv:=[]) H9.out trivial rfl q_none
   ·have d5:(n==0)=false:=by rw [beq_eq_false_iff_ne];exact hz
    have d6:(n != 0)=true:=by rw [bne,d5];rfl
    rw [if_neg hz] at HP
    clear hz
    go_wp2_with (at_builtin;refine wpList_append_src rfl (.tmp 63) (.tmp 65) 30 rfl 49 i0 (.agg #[.slice none 0 0,.int .i64 0]) 2 32 Tryz.underlying30 hi hz0 hz1 hz2 rfl (by decide) (B:=B6) v6 0 [] rfl (Own.alloc hO _) _ 1 [.slice Ar row.length pr,.int .i64 n] rfl (lit_tm w7 49 (.slice Ar row.length pr) n) (H1.out _) (by unfold maxLen;omega) (by omega) (Nat.le_trans hB6 (by simp)) ?_)
    all_goals
     intro v8 w8 hO8 hg8 _
     have hb8:=((Own.alloc hO (.cells #[.slice Ar row.length pr,Value.int .i64 n] 49)).mono HLE.out).grown (below_alloc hb hb.size _).1 (below_alloc hb hb.size _).2 hg8
     have hB8:B6≤w8.heap.size:=Nat.le_trans (Nat.le_trans hB6 (by simp)) hg8.size
     clear hO hg8 hb y0 y1 hbox
     go_wp2_with (at_builtin;refine wpList_append_src rfl (.tmp 67) (.tmp 68) 30 rfl 49 i0 (.agg #[.slice none 0 0,.int .i64 0]) 2 32 Tryz.underlying30 hi hz0 hz1 hz2 rfl (by decide) (B:=B6) v8 _ _ rfl hO8 _ 0 [] rfl (SliceOf.nil_ _ 2 _ _) (fun u hu=>absurd hu (by simp)) (by unfold maxLen;omega) (by omega) hB8 ?_)
     intro v9 w9 hO9 hg9 _
     have hb9:=(hO8.mono HLE.out).grown hb8 hb8.size hg9
     have H9:=Lib.hid hO9.slice
     have HFR:=Lib.hid (own_new hO9 HLE.out)
     obtain ⟨_,_,rfl⟩:=hO9.len
     clear hO8 hO9 hg9 hb8
     go_wp2
     go_ret
     refine ⟨_,rfl,?_,hb9,HFR.out⟩
     rw [HP.out]
     exact TimesQ.of (tv:=[(.slice Ar row.length pr,n)]) (by have:=H9.out;simpa [timesV_cons,timesV_nil] using this) ((RowsOf.one HX.out).kept hb9) rfl (q_one HQX.out)
theorem ref_weigh_put_n (Q:Value→Prop){w:World}{v rv:Value}{l:List Tm}{row:List ByteArray}{n:Int}(h:TimesQ Q w v l)(hx:StrsIn w rv row)(hQx:Q rv)(hl:l.length≤1000000)(hw:wtW l+n.natAbs≤4611686018427387904) :
  GivesTimesN Q Tryz.prog 19 #[v,timesA (rv,n)] w (putW l (row,n)):=by
 obtain ⟨Ar,pr,rfl,_⟩:=one_at hx
 obtain ⟨tv,hsl,hrows,hQ⟩:=h
 obtain ⟨A,cap,rfl,h4⟩:=hsl.at_
 cases l with
 | nil=>exact ref_put_none Q hx hQx
 | cons t l =>
  obtain ⟨b,off,rfl,_⟩:=h4 (by simp)
  exact ref_put_some Q hsl hrows hQ hQx (by simp) hx hl hw
theorem ref_weigh_put_q (Q:Value→Prop){w:World}{v rv:Value}{l:List Tm}{row:List ByteArray}{n:Int}(h:TimesQ Q w v l)(hx:StrsIn w rv row)(hQx:Q rv)(hl:l.length≤1000000)(hw:wtW l+n.natAbs≤4611686018427387904) :
  GivesTimesQ Q Tryz.prog 19 #[v,timesA (rv,n)] w (putW l (row,n)):=(ref_weigh_put_n Q h hx hQx hl hw).q
theorem ref_weigh_put_calls {w:World}{v rv:Value}{l:List Tm}{row:List ByteArray}{n:Int}(h:TimesIn w v l)(hx:StrsIn w rv row)(hl:l.length≤1000000)(hw:wtW l+n.natAbs≤4611686018427387904) :
  GivesTimes Tryz.prog 19 #[v,timesA (rv,n)] w (putW l (row,n)):=(ref_weigh_put_q (fun _=>True) h.trueQ hx trivial hl hw).gives
theorem wt_take (l:List Tm)(k:Nat)(h:k < l.length):wtW (l.take k)+l[k].2.natAbs≤wtW l:=by
 have h1:=wtW_append (l.take (k+1)) (l.drop (k+1))
 rw [List.take_append_drop,take_add l k h,wtW_append] at h1
 simp only [wtW] at h1
 omega
theorem timesq_at {Q:Value→Prop}{w:World}{v:Value}{l:List Tm}(h:TimesQ Q w v l):∃ A cap,v=.slice A l.length cap ∧
  (∀ k,k < l.length→∃ b off,A=some ⟨b,off,none⟩∧b < w.heap.size∧∀ j (hj:j < l.length),∃ rv,StrsIn w rv l[j].1∧Q rv∧w.cell? ⟨b,off+j*2,none⟩=some rv∧w.cell? ⟨b,off+j*2+1,none⟩=some (.int .i64 l[j].2)):=by
 obtain ⟨tv,h1,h2,h3⟩:=h
 obtain ⟨_,_,A,cap,e,_,h4⟩:=h1
 have hl:=h2.length
 refine ⟨A,cap,e,fun k hk=>?_⟩
 obtain ⟨b,off,ea,hb,hc⟩:=h4 (by omega)
 refine ⟨b,off,ea,hb,fun j hj=>?_⟩
 have hg:=h2.get j (by omega) hj
 have hv:=timesV_get tv j (by omega)
 refine ⟨(tv[j]'(by omega)).1,hg.1,h3 _ (List.getElem_mem _),hc _ _ hv.1,?_⟩
 rw [←hg.2,Nat.add_assoc];exact hc _ _ hv.2
set_option maxHeartbeats 2000000 in
theorem ref_weigh_of_q (Q:Value→Prop){w:World}{v:Value}{l:List Tm}(h:TimesQ Q w v l)(hl:l.length≤1000000)(hw:wtW l≤4611686018427387904):GivesTimesQ Q Tryz.prog 18 #[v] w (ofW l):=by
 obtain ⟨hb,hB⟩:=start w
 obtain ⟨A,cap,rfl,hat⟩:=timesq_at h
 have HAT:=Lib.hid hat
 clear h hat
 unfold GivesTimesQ
 go_enter Tryz.func18,Tryz.ntmps18
 go_wp2
 go_loopw [3,4] (fun x i wr=>∃ k:Nat,k≤l.length∧i=.int .i64 k∧TimesQ Q wr x (ofW (l.take k))∧Below w.heap.size w wr) (fun _ i _=>l.length-(intOf i).toNat)
 case atStart=>exact ⟨0,Nat.zero_le _,rfl,TimesQ.nil_ _ _ _ _,hb⟩
 case round =>
  clear hb hB
  obtain ⟨k,hk,rfl,hO,hb⟩:=hrel
  have hB:=hb.size
  by_cases hlt:k < l.length
  ·obtain ⟨b,off,rfl,hbl,hc⟩:=HAT.out k hlt
   obtain ⟨rv,hs,hqv,c1,c2⟩:=hc k hlt
   have x1:=(hb.cell (p:=⟨b,off+k*2,none⟩) hbl).trans c1
   have x2:=(hb.cell (p:=⟨b,off+k*2+1,none⟩) hbl).trans c2
   have HT:=Lib.hid (of_take l k hlt)
   have h1:=wt_take l k hlt
   have h2:=wt_of (l.take k)
   have h3:=of_length (l.take k)
   rw [List.length_take] at h3
   have hp:=ref_weigh_put_q Q hO (n:=l[k].2) (StrsIn.kept hs hb) hqv (by omega) (by omega)
   clear hc c1 c2 hs hqv h1 h2 h3
   generalize l[k]=t at *
   obtain ⟨row,n⟩:=t
   dsimp only at *
   obtain ⟨A9,p9,rfl⟩:∃ A9 p9,u3=.slice A9 (ofW (l.take k)).length p9:=by
    obtain ⟨tv9,hs9,_,_⟩:=hO
    obtain ⟨A9,p9,e,_⟩:=hs9.at_
    exact ⟨A9,p9,e⟩
   clear hO
   generalize ofW (l.take k)=o at *
   go_wp2_with fail
   refine hp.stepB (w0:=w) (B:=w.heap.size) hb hB ?_
   clear hb hB hp x1 x2
   intro v' w' hO hb hB _
   go_wp2
   go_roundw
   case rel=>exact ⟨k+1,by omega,by go_num,by rw [HT.out];exact hO,hb⟩
   case measure=>simp [intOf];omega
  ·obtain rfl:k=l.length:=by omega
   rw [List.take_length] at hO
   have H9:=Lib.hid hO
   obtain ⟨A9,p9,rfl⟩:∃ A9 p9,u3=.slice A9 (ofW l).length p9:=by
    obtain ⟨tv9,hs9,_,_⟩:=hO
    obtain ⟨A9,p9,e,_⟩:=hs9.at_
    exact ⟨A9,p9,e⟩
   clear hO
   go_wp2
   go_ret
   exact ⟨_,rfl,H9.out,hb⟩
set_option maxHeartbeats 2000000 in
theorem ref_weigh_sum_q (Q:Value→Prop){w:World}{v u:Value}{a l:List Tm}(ha:TimesQ Q w v a)(h:TimesQ Q w u l)(hl:a.length+l.length≤1000000)(hw:wtW a+wtW l≤4611686018427387904):GivesTimesQ Q Tryz.prog 7 #[v,u] w (sumW a l):=by
 obtain ⟨hb,hB⟩:=start w
 have hof:=ref_weigh_of_q Q ha (by omega) (by omega)
 have HLA:=Lib.hid (fun k=>sum_length a (l.take k))
 have HWA:=Lib.hid (fun k=>wt_sum a (l.take k))
 obtain ⟨Aa,capa,rfl,_⟩:=timesq_at ha
 obtain ⟨A,cap,rfl,hat⟩:=timesq_at h
 have HAT:=Lib.hid hat
 clear h hat ha
 unfold GivesTimesQ
 go_enter Tryz.func7,Tryz.ntmps7
 go_wp2_with fail
 refine hof.stepB (w0:=w) (B:=w.heap.size) hb hB ?_
 clear hb hB hof
 intro v0 w0 hO0 hb0 hB0 _
 go_wp2
 go_loopw [5,6] (fun x i wr=>∃ k:Nat,k≤l.length∧i=.int .i64 k∧TimesQ Q wr x (sumW a (l.take k))∧Below w.heap.size w wr) (fun _ i _=>l.length-(intOf i).toNat)
 case atStart=>exact ⟨0,Nat.zero_le _,rfl,hO0,hb0⟩
 case round =>
  clear hb0 hB0 hO0
  obtain ⟨k,hk,rfl,hO,hb⟩:=hrel
  have hB:=hb.size
  by_cases hlt:k < l.length
  ·obtain ⟨b,off,rfl,hbl,hc⟩:=HAT.out k hlt
   obtain ⟨rv,hs,hqv,c1,c2⟩:=hc k hlt
   have x1:=(hb.cell (p:=⟨b,off+k*2,none⟩) hbl).trans c1
   have x2:=(hb.cell (p:=⟨b,off+k*2+1,none⟩) hbl).trans c2
   have HT:=Lib.hid (sum_take a l k hlt)
   have h1:=wt_take l k hlt
   have h2:=HWA.out k
   have h3:=HLA.out k
   rw [List.length_take] at h3
   have hp:=ref_weigh_put_q Q hO (n:=l[k].2) (StrsIn.kept hs hb) hqv (by omega) (by omega)
   clear hc c1 c2 hs hqv h1 h2 h3
   generalize l[k]=t at *
   obtain ⟨row,n⟩:=t
   dsimp only at *
   obtain ⟨A9,p9,rfl⟩:∃ A9 p9,u5=.slice A9 (sumW a (l.take k)).length p9:=by
    obtain ⟨tv9,hs9,_,_⟩:=hO
    obtain ⟨A9,p9,e,_⟩:=hs9.at_
    exact ⟨A9,p9,e⟩
   clear hO
   generalize sumW a (l.take k)=o at *
   go_wp2_with fail
   refine hp.stepB (w0:=w) (B:=w.heap.size) hb hB ?_
   clear hb hB hp x1 x2
   intro v' w' hO hb hB _
   go_wp2
   go_roundw
   case rel=>exact ⟨k+1,by omega,by go_num,by rw [HT.out];exact hO,hb⟩
   case measure=>simp [intOf];omega
  ·obtain rfl:k=l.length:=by omega
   rw [List.take_length] at hO
   have H9:=Lib.hid hO
   obtain ⟨A9,p9,rfl⟩:∃ A9 p9,u5=.slice A9 (sumW a l).length p9:=by
    obtain ⟨tv9,hs9,_,_⟩:=hO
    obtain ⟨A9,p9,e,_⟩:=hs9.at_
    exact ⟨A9,p9,e⟩
   clear hO
   go_wp2
   go_ret
   exact ⟨_,rfl,H9.out,hb⟩
theorem ref_weigh_sum_calls {w:World}{v u:Value}{a l:List Tm}(ha:TimesIn w v a)(h:TimesIn w u l)(hl:a.length+l.length≤1000000)(hw:wtW a+wtW l≤4611686018427387904):GivesTimes Tryz.prog 7 #[v,u] w (sumW a l):=(ref_weigh_sum_q _ ha.trueQ h.trueQ hl hw).gives
def wholeW (l:List Tm):Bool:=l.all fun t=>decide (0≤t.2)
instance (l:List Tm):Decidable (RightP l):=by unfold RightP;infer_instance
theorem wholeW_no {l:List Tm}{t:Tm}(ht:t∈l)(h:t.2 < 0):wholeW l=false:=by
 cases hw:wholeW l with
 | false=>rfl
 | true =>
  unfold wholeW at hw
  rw [List.all_eq_true] at hw
  have:=hw t ht
  rw [decide_eq_true_eq] at this;omega
theorem wholeW_yes {l:List Tm}(h:∀ t∈l,0≤t.2):wholeW l=true:=by
 unfold wholeW
 rw [List.all_eq_true]
 intro t ht
 rw [decide_eq_true_eq];exact h t ht
set_option maxHeartbeats 1000000 in
theorem ref_weigh_whole_calls {w:World}{v:Value}{l:List Tm}(h:TimesIn w v l):GivesAt Tryz.prog 8 #[v] w (.bool (wholeW l)):=by
 have hm:=h.len
 unfold maxLen at hm
 obtain ⟨hb,hB⟩:=start w
 obtain ⟨tv,A,cap,rfl,_,hat⟩:=times_at h
 have HAT:=Lib.hid hat
 clear h hat
 unfold GivesAt
 go_enter Tryz.func8,Tryz.ntmps8
 go_wp2
 go_loopw [3] (fun i wr=>∃ k:Nat,k≤l.length∧i=.int .i64 k∧Hid (∀ c∈l.take k,0≤c.2)∧Below w.heap.size w wr) (fun i _=>l.length-(intOf i).toNat)
 case atStart=>exact ⟨0,Nat.zero_le _,rfl,fun c hc=>absurd hc (by simp),hb⟩
 case round =>
  clear hb hB
  obtain ⟨k,hk,rfl,HS,hb⟩:=hrel
  by_cases hlt:k < l.length
  ·obtain ⟨b,off,rfl,hbl,hc⟩:=HAT.out k hlt
   obtain ⟨rv,_,_,c1,c2⟩:=hc k hlt
   have x2:=(hb.cell (p:=⟨b,off+k*2+1,none⟩) hbl).trans c2
   have HT:=Lib.hid (take_add l k hlt)
   have HM:=Lib.hid (List.getElem_mem hlt)
   clear hc c1 c2
   generalize l[k]=t at *
   obtain ⟨row,n⟩:=t
   dsimp only at *
   by_cases hn:n < 0
   ·have d1:decide (n < 0)=true:=decide_eq_true hn
    have HD:=Lib.hid (wholeW_no HM.out hn)
    go_wp2
    go_ret
    exact ⟨ret_bool HD.out.symm,hb⟩
   ·have d1:decide (n < 0)=false:=decide_eq_false hn
    go_wp2
    go_roundw
    case rel=>exact ⟨k+1,by omega,by go_num,fun d hd=>by
     rw [HT.out] at hd
     rcases List.mem_append.1 hd with hd|hd
     ·exact HS.out d hd
     ·rw [List.mem_singleton.1 hd];show 0≤n;omega,hb⟩
    case measure=>simp [intOf];omega
  ·obtain rfl:k=l.length:=by omega
   rw [List.take_length] at HS
   have HD:=Lib.hid (wholeW_yes HS.out)
   go_wp2
   go_ret
   exact ⟨ret_bool HD.out.symm,hb⟩
set_option maxHeartbeats 1000000 in
theorem ref_weigh_find_calls {w:World}{v u:Value}{l:List Tm}{row:List ByteArray}(h:TimesIn w v l)(hu:StrsIn w u row)(hw:wtW l≤4611686018427387904):GivesAt Tryz.prog 21 #[v,u] w (.int .i64 (cntW l row)):=by
 have hm:=h.len
 unfold maxLen at hm
 obtain ⟨hb,hB⟩:=start w
 obtain ⟨tv,A,cap,rfl,_,hat⟩:=times_at h
 have HAT:=Lib.hid hat
 have HU:=Lib.hid hu
 have HW:=Lib.hid (fun k=>cntW_le (l.take k) row)
 have HWT:Hid (∀ k,wtW (l.take k)≤wtW l):=by
  intro k
  have:=wtW_append (l.take k) (l.drop k)
  rw [List.take_append_drop] at this;omega
 clear h hat hu
 unfold GivesAt
 go_enter Tryz.func21,Tryz.ntmps21
 go_wp2
 go_loopw [5,6] (fun n i wr=>∃ k:Nat,k≤l.length∧i=.int .i64 k∧n=.int .i64 (cntW (l.take k) row)∧Below w.heap.size w wr) (fun _ i _=>l.length-(intOf i).toNat)
 case atStart=>exact ⟨0,Nat.zero_le _,rfl,rfl,hb⟩
 case round =>
  clear hb hB
  obtain ⟨k,hk,rfl,rfl,hb⟩:=hrel
  have hB:=hb.size
  by_cases hlt:k < l.length
  ·obtain ⟨b,off,rfl,hbl,hc⟩:=HAT.out k hlt
   obtain ⟨rv,hs,_,c1,c2⟩:=hc k hlt
   have x1:=(hb.cell (p:=⟨b,off+k*2,none⟩) hbl).trans c1
   have HX2:=Lib.hid (fun w' (hq:Below w.heap.size w w')=>(hq.cell (p:=⟨b,off+k*2+1,none⟩) hbl).trans c2)
   have HT:=Lib.hid (cntW_take l row k hlt)
   have h1:=HW.out k
   have h2:=HWT.out k
   have h3:=HW.out (k+1)
   have h4:=HWT.out (k+1)
   have hz:=cmpL_zero l[k].1 row
   have hcmp:=ref_compare_calls (StrsIn.kept hs hb) (StrsIn.kept HU.out hb)
   rw [HT.out] at h3
   clear hc c1 c2 hs
   generalize l[k]=t at *
   obtain ⟨r,n⟩:=t
   dsimp only at *
   generalize cntW (l.take k) row=c at *
   by_cases he:r=row
   ·have d1:(cmpL r row==0)=true:=by rw [beq_iff_eq];exact hz.2 he
    rw [if_pos he] at h3
    have HT1:Hid (cntW (l.take (k+1)) row=c+n):=by show _=_;rw [HT.out,if_pos he]
    have q2:IntKind.i64.wrap (c+n)=c+n:=IntWalk.i64_in _ (by omega)
    clear HT he hz
    generalize cmpL r row=z at *
    go_wp2_with fail
    refine hcmp.step (w0:=w) (B:=w.heap.size) hb hB ?_
    clear hb hB hcmp x1
    intro w2 hb hB
    have x2:=HX2.out w2 hb
    go_wp2
    go_roundw
    case rel=>exact ⟨k+1,by omega,by go_num,by rw [HT1.out],hb⟩
    case measure=>simp [intOf];omega
   ·have d1:(cmpL r row==0)=false:=by rw [beq_eq_false_iff_ne];exact fun e=>he (hz.1 e)
    have HT1:Hid (cntW (l.take (k+1)) row=c):=by show _=_;rw [HT.out,if_neg he];omega
    clear HT he hz h3
    generalize cmpL r row=z at *
    go_wp2_with fail
    refine hcmp.step (w0:=w) (B:=w.heap.size) hb hB ?_
    clear hb hB hcmp x1
    intro w2 hb hB
    go_wp2
    go_roundw
    case rel=>exact ⟨k+1,by omega,by go_num,by rw [HT1.out],hb⟩
    case measure=>simp [intOf];omega
  ·obtain rfl:k=l.length:=by omega
   have HD:=Lib.hid (show cntW (l.take l.length) row=cntW l row by rw [List.take_length])
   go_wp2
   go_ret
   exact ⟨ret_int HD.out,hb⟩
theorem take_eq_step {α:Type}{a b:List α}{k:Nat}(h1:k < a.length)(h2:k < b.length)(h:a.take k=b.take k)(e:a[k]=b[k]):a.take (k+1)=b.take (k+1):=by
 rw [take_add a k h1,take_add b k h2,h,e]
set_option maxHeartbeats 2000000 in
theorem same_times {w:World}{va vb:Value}{a b:List Tm}(ha:TimesIn w va a)(hb:TimesIn w vb b)(hla:a.length≤1000000)(ra:∀ t∈a,t.1.length≤1000000)(rb:∀ t∈b,t.1.length≤1000000) :
  GivesAt Tryz.prog 12 #[va,vb] w (.bool (decide (a=b))):=by
 have hg:=(start w).1
 obtain ⟨tva,A,ca,rfl,_,hata⟩:=times_at ha
 obtain ⟨tvb,B,cb,rfl,_,hatb⟩:=times_at hb
 have HA:=Lib.hid hata
 have HB:=Lib.hid hatb
 have HRA:=Lib.hid ra
 have HRB:=Lib.hid rb
 clear ha hb hata hatb ra rb
 unfold GivesAt
 by_cases hl:a.length=b.length
 ·have d1:((a.length:Int)==(b.length:Int))=true:=by rw [beq_iff_eq];omega
  have hle:b.length=a.length:=hl.symm
  have HL:=Lib.hid hl
  clear hl
  go_enter Tryz.func12,Tryz.ntmps12
  rw [hle] at d1 ⊢
  clear hle
  go_wp2
  go_loopw [5] (fun i wr=>∃ k:Nat,k≤a.length∧i=.int .i64 k∧Hid (a.take k=b.take k)∧Below w.heap.size w wr) (fun i _=>a.length-(intOf i).toNat)
  case atStart=>exact ⟨0,by omega,rfl,show a.take 0=b.take 0 from rfl,hg⟩
  case round =>
   clear hg
   obtain ⟨k,hk,rfl,HE,hg⟩:=hrel
   by_cases hlt:k < a.length
   ·have hlt2:k < b.length:=by have:=HL.out;omega
    obtain ⟨b1,o1,rfl,hl1,hc1⟩:=HA.out k hlt
    obtain ⟨b2,o2,rfl,hl2,hc2⟩:=HB.out k hlt2
    obtain ⟨r1,s1,_,c11,c12⟩:=hc1 k hlt
    obtain ⟨r2,s2,_,c21,c22⟩:=hc2 k hlt2
    have x11:=(hg.cell (p:=⟨b1,o1+k*2,none⟩) hl1).trans c11
    have x12:=(hg.cell (p:=⟨b1,o1+k*2+1,none⟩) hl1).trans c12
    have x21:=(hg.cell (p:=⟨b2,o2+k*2,none⟩) hl2).trans c21
    have x22:=(hg.cell (p:=⟨b2,o2+k*2+1,none⟩) hl2).trans c22
    have hs:∀ w',Below wr.heap.size wr w'→GivesAt _ _ #[r1,r2] w' _:=fun w' hw=>same_strs (StrsIn.kept (StrsIn.kept s1 hg) hw) (StrsIn.kept (StrsIn.kept s2 hg) hw) (HRA.out _ (List.getElem_mem hlt)) (HRB.out _ (List.getElem_mem hlt2))
    have HST:=Lib.hid (take_eq_step hlt hlt2 HE.out)
    have hne:a[k]≠b[k]→¬a=b:=by intro h e;subst e;exact h rfl
    have a11:=fun d os=>cell_regrown x11 d os
    have a12:=fun d os=>cell_regrown x12 d os
    have a21:=fun d os=>cell_regrown x21 d os
    have a22:=fun d os=>cell_regrown x22 d os
    clear hc1 hc2 c11 c12 c21 c22 s1 s2 x11 x12 x21 x22
    generalize a[k]=x at *
    generalize b[k]=y at *
    obtain ⟨xr,xn⟩:=x
    obtain ⟨yr,yn⟩:=y
    dsimp only at *
    by_cases hn:xn=yn
    ·subst hn
     have d2:(xn==xn)=true:=by simp
     have d3:(xn != xn)=false:=by simp
     by_cases hr:xr=yr
     ·have HQ:Hid (∀ w',Below wr.heap.size wr w'→GivesAt Tryz.prog 27 #[r1,r2] w' (.bool true)):=by
       intro w' hw;have:=hs w' hw;rwa [decide_eq_true hr] at this
      have HI:=Lib.hid (HST.out (by rw [hr]))
      clear hs hr hne HST
      go_wp2
      refine wp_region_quiet_below (by kernel_rfl) (by kernel_rfl) ?_
      repeat (first|go_big_quiet_skip|(go_big_quiet_want;go_big_quiet_op;first|go_big_quiet_on|(apply Exists.intro;refine ⟨fun _=>?_,?_⟩;(first|(go_at_call 27;exact Calls.regrown_of (HQ.out _ (below_regrown wr _ _))));go_big_quiet_on)))
      refine wpQuiet_nil ?_
      rintro w3 ⟨p,hw3⟩
      have hb2:Below wr.heap.size wr w3:=hw3▸below_regrown wr p.d p.os
      clear hw3 a11 a12 a21 a22 HQ
      replace hg:=hg.trans (hb2.mono hg.size)
      clear hb2
      go_wp2
      go_roundw
      case rel=>exact ⟨k+1,by omega,by go_num,HI,hg⟩
      case measure=>simp [intOf];omega
     ·have HQ:Hid (∀ w',Below wr.heap.size wr w'→GivesAt Tryz.prog 27 #[r1,r2] w' (.bool false)):=by
       intro w' hw;have:=hs w' hw;rwa [decide_eq_false hr] at this
      have HD:=Lib.hid (show decide (a=b)=false by rw [decide_eq_false_iff_not];exact hne (fun e=>hr (congrArg Prod.fst e)))
      clear hs hr hne HST
      go_wp2
      refine wp_region_quiet_below (by kernel_rfl) (by kernel_rfl) ?_
      repeat (first|go_big_quiet_skip|(go_big_quiet_want;go_big_quiet_op;first|go_big_quiet_on|(apply Exists.intro;refine ⟨fun _=>?_,?_⟩;(first|(go_at_call 27;exact Calls.regrown_of (HQ.out _ (below_regrown wr _ _))));go_big_quiet_on)))
      refine wpQuiet_nil ?_
      rintro w3 ⟨p,hw3⟩
      have hb2:Below wr.heap.size wr w3:=hw3▸below_regrown wr p.d p.os
      clear hw3 a11 a12 a21 a22 HQ
      replace hg:=hg.trans (hb2.mono hg.size)
      clear hb2
      go_wp2
      go_ret
      exact ⟨ret_bool HD.out.symm,hg⟩
    ·have d2:(xn==yn)=false:=by rw [beq_eq_false_iff_ne];exact hn
     have d3:(xn != yn)=true:=by rw [bne_iff_ne];exact hn
     have HD:=Lib.hid (show decide (a=b)=false by rw [decide_eq_false_iff_not];exact hne (fun e=>hn (congrArg Prod.snd e)))
     have HQ:=Lib.hid hs
     clear hs hne HST hn
     go_wp2
     refine wp_region_quiet_below (by kernel_rfl) (by kernel_rfl) ?_
     repeat (first|go_big_quiet_skip|(go_big_quiet_want;go_big_quiet_op;first|go_big_quiet_on|(apply Exists.intro;refine ⟨fun _=>?_,?_⟩;(first|(go_at_call 27;exact Calls.regrown_of (HQ.out _ (below_regrown wr _ _))));go_big_quiet_on)))
     refine wpQuiet_nil ?_
     rintro w3 ⟨p,hw3⟩
     have hb2:Below wr.heap.size wr w3:=hw3▸below_regrown wr p.d p.os
     clear hw3 a11 a12 a21 a22 HQ
     replace hg:=hg.trans (hb2.mono hg.size)
     clear hb2
     go_wp2
     go_ret
     exact ⟨ret_bool HD.out.symm,hg⟩
   ·obtain rfl:k=a.length:=by omega
    have HD:Hid (decide (a=b)=true):=by
     show _=_
     rw [decide_eq_true_eq]
     have:=HE.out
     rwa [List.take_length,List.take_of_length_le (by have:=HL.out;omega)] at this
    go_wp2
    go_ret
    exact ⟨ret_bool HD.out.symm,hg⟩
 ·have d1:((a.length:Int)==(b.length:Int))=false:=by rw [beq_eq_false_iff_ne];omega
  have HD:=Lib.hid (show decide (a=b)=false by rw [decide_eq_false_iff_not];intro e;exact hl (by rw [e]))
  go_enter Tryz.func12,Tryz.ntmps12
  go_wp2
  go_ret
  exact ⟨ret_bool HD.out.symm,hg⟩
end Go.Proofs.YtjbpbfhgjldliaaGreat
