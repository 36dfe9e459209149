/- The contracts of the answer's Filter and Project of layer 18. -/
import Derived.Test.YtcofhnedidllpaaGWeighRef
import Derived.Test.YtcofhnedidllpaaGWeighSmall
import Derived.Test.YtcofhnedidllpaaGZShapePickRef
import Derived.Test.YtcofhnedidllpaaGZCalm
import Derived.Test.YtcofhnedidllpaaGZSieveGrow
import Derived.Test.YtcofhnedidllpaaGZSievePure
import Derived.Test.YtcofhnedidllpaaGZTermRef
namespace Go.Proofs.Ytcofhnedidllpaa
open Go Go.RowKit
def GrowQ (Q:Value→Prop)(w:World)(L:List Tm)(v:Value)(wx:World):Prop:=∃ tv,TimesOwn wx w.heap.size v tv L∧(∀ u∈tv,Q u.1)∧Below w.heap.size w wx
section
variable {Q:Value→Prop}{w wx wy:World}{L:List Tm}{v:Value}
theorem GrowQ.kept (h:GrowQ Q w L v wx)(hb:Below wx.heap.size wx wy):GrowQ Q w L v wy:=by
 obtain ⟨tv,h1,h2,h3⟩:=h
 exact ⟨tv,h1.later hb,h2,h3.trans (hb.mono h3.size)⟩
theorem GrowQ.nil_ (Q:Value→Prop)(w:World):GrowQ Q w [] (.slice none 0 0) w:=⟨[],TimesOwn.nil_ _ _,fun _ h=>absurd h (by simp),.refl _ _⟩
theorem GrowQ.below (h:GrowQ Q w L v wx):Below w.heap.size w wx:=by
 obtain ⟨_,_,_,h3⟩:=h
 exact h3
theorem GrowQ.slice (h:GrowQ Q w L v wx):∃ A p,v=.slice A L.length p:=by
 obtain ⟨_,h1,_,_⟩:=h
 exact h1.slice
theorem GrowQ.times (h:GrowQ Q w L v wx):TimesQ Q wx v L:=by
 obtain ⟨tv,h1,h2,_⟩:=h
 exact h1.timesQ h2
theorem GrowQ.add {v' rv:Value}{row:List ByteArray}{c:Int}{n:Nat}{tv:List (Value×Int)}(h1:TimesOwn wx w.heap.size v tv L)(h2:∀ u∈tv,Q u.1)(h3:Below w.heap.size w wx)(hs:StrsIn wx rv row)(hq:Q rv)(ho:RowOff v rv)
  (hg:wx.grownBy wy v.ownBlock) (hv:∀ k,v'.ownBlock=some k→v.ownBlock=some k∨wx.heap.size≤k) (hO:Own wy w.heap.size 2 v' n (timesV tv++[rv,.int .i64 c])) (hn:n=L.length+1):GrowQ Q w (L++[(row,c)]) v' wy:=by
 refine ⟨tv++[(rv,c)],h1.add hs ho hg hv hO hn,fun u hu=>?_,h3.grown hg h3.size fun k hk=>(h1.own.lt k hk).1⟩
 rcases List.mem_append.1 hu with hu|hu
 ·exact h2 u hu
 ·rw [List.mem_singleton.1 hu];exact hq
end
theorem ref_cell_yes_calls (s:ByteArray):Gives Try.prog 29 #[.string s] (.bool (decide (s=yesC))):=by
 intro w
 have h:=ref_yes_calls s w
 rw [yes_at] at h
 exact h
set_option maxHeartbeats 4000000 in
set_option maxRecDepth 100000 in
theorem ref_filter_q (Q:Value→Prop){w:World}{v vt:Value}{l:List Tm}{t:Trm}(h:TimesQ Q w v l)(ht:TermIn w vt t)(hl:l.length≤1000000):GivesTimesQ Q Try.prog 13 #[v,vt] w (filtS t l):=by
 obtain ⟨i0,hi,hz0,hz1,hz2⟩:=info_parts Try.infoM40
 obtain ⟨A,cap,rfl,hat⟩:=timesq_at h
 have HAT:=Lib.hid hat
 have HT:=Lib.hid ht
 obtain ⟨At,ct,rfl⟩:=ht.parts15
 have HB1:=Lib.hid (Below.alloc (.refl w.heap.size w) (Nat.le_refl _) (.cells #[.int .u8 t.op,.int .i64 t.col,.string t.cell,.slice At t.kids.length ct] 25))
 have HX:=Lib.hid (trmbox_lit w 25 t.op t.col t.cell (.slice At t.kids.length ct))
 have HLL:=Lib.hid hl
 clear h hat ht
 unfold GivesTimesQ
 go_enter Try.func13,Try.ntmps13
 go_wp2
 generalize w.alloc _=w1 at *
 go_loopw [5,6] (fun x i wr=>∃ k:Nat,k≤l.length∧i=.int .i64 k∧Hid (GrowQ Q w1 (filtS t (l.take k)) x wr)) (fun _ i _=>l.length-(intOf i).toNat)
 case atStart=>exact ⟨0,Nat.zero_le _,rfl,Lib.hid (GrowQ.nil_ Q w1)⟩
 case round =>
  obtain ⟨k,hk,rfl,HG⟩:=hrel
  have HBR:=Lib.hid HG.out.below
  obtain ⟨A9,p9,e9⟩:=HG.out.slice
  by_cases hlt:k < l.length
  ·have hbw:=HB1.out.trans (HBR.out.mono HB1.out.size)
   obtain ⟨b,off,rfl,hbl,hc⟩:=HAT.out k hlt
   obtain ⟨rv,hs,hqv,c1,c2⟩:=hc k hlt
   have HX1:=Lib.hid ((hbw.cell (p:=⟨b,off+k*2,none⟩) hbl).trans c1)
   have HX2:=Lib.hid ((hbw.cell (p:=⟨b,off+k*2+1,none⟩) hbl).trans c2)
   have HTK:=Lib.hid (filt_take t l k hlt)
   have HQV:=Lib.hid hqv
   have HS0:=Lib.hid hs
   have HS:=Lib.hid (StrsIn.kept hs hbw)
   obtain ⟨Ar,pr,rfl⟩:∃ Ar pr,rv=.slice Ar l[k].1.length pr:=by obtain ⟨Ar,pr,e,_⟩:=one_at hs;exact ⟨Ar,pr,e⟩
   have hfl:=filt_length t (l.take k)
   rw [List.length_take] at hfl
   have hll:=HLL.out
   obtain ⟨F,hF⟩:∃ F,filtS t (l.take k)=F:=⟨_,rfl⟩
   rw [hF] at HG HTK e9 hfl
   obtain ⟨m9,hm⟩:∃ m,F.length=m:=⟨_,rfl⟩
   have HM:Hid (F.length=m9):=hm
   rw [hm] at e9 hfl
   have HML:Hid (m9≤1000000):=by show _≤_;omega
   subst e9
   clear hc c1 c2 hs hqv hfl hF hm hll
   generalize l[k]=x at *
   obtain ⟨row,c⟩:=x
   dsimp only at *
   have HE:Hid (∀ W,Below wr.heap.size wr W→GivesAt Try.prog 18 #[.agg #[.int .u8 t.op,.int .i64 t.col,.string t.cell,.slice At t.kids.length ct],.slice Ar row.length pr] W (.string (evalT row t))):=fun W hW=>ref_eval_calls (row:=row) t W _ _ (HT.out.kept (hbw.trans (hW.mono hbw.size))) (StrsIn.kept HS.out hW)
   have i1:(k:Int) < (l.length:Int):=by omega
   have HLK:Hid (k < l.length):=hlt
   obtain ⟨ev,hev⟩:∃ ev,evalT row t=ev:=⟨_,rfl⟩
   rw [hev] at HE HTK
   obtain ⟨y,hy⟩:∃ y,decide (ev=yesC)=y:=⟨_,rfl⟩
   have HYY:=Lib.hid (ref_cell_yes_calls ev)
   rw [hy] at HYY
   clear hlt hk hev hbw
   cases y with
   | true =>
    have HTN:=Lib.hid (HTK.out.trans (by rw [if_pos (of_decide_eq_true hy)]))
    clear hy HTK
    go_wp2_with fail
    refine wp_region_calm (offC wr) (fun _=>false) (fun _=>false) anyE false (by kernel_rfl) (by kernel_rfl) (by kernel_rfl) (by kernel_rfl) (by intro m hm;revert hm;simp;try omega) (offC_stable _) (offC_start _) ?_
    refine calm_fixA rfl rfl ?_
    apply Exists.intro
    refine ⟨fun a wz hc hk hf K hK=>?_,?_⟩
    ·have hb:Below wr.heap.size wr wz:=hc rfl
     have h3:=hk 3 (by kernel_rfl)
     clear hk hf hc
     obtain ⟨y0,y1,y2,y3,_⟩:=(HX.out.later (HBR.out.trans (hb.mono HBR.out.size))).cells
     go_simp
     exact hK _ _ (Below.refl _ _) rfl
    refine calm_fixA rfl rfl ?_
    apply Exists.intro
    refine ⟨fun a wz hc hk hf K hK=>?_,?_⟩
    ·have h0:=hk 0 (by kernel_rfl)
     clear hk hf hc
     go_simp
     exact hK _ _ (Below.refl _ _) rfl
    refine calm_fixA rfl rfl ?_
    apply Exists.intro
    refine ⟨fun a wz hc hk hf K hK=>?_,?_⟩
    ·have h6:=hk 6 (by kernel_rfl)
     clear hk hf hc
     go_simp
     exact hK _ _ (Below.refl _ _) rfl
    refine calm_fixA rfl rfl ?_
    apply Exists.intro
    refine ⟨fun a wz hc hk hf K hK=>?_,?_⟩
    ·have h14:=held_isV hf 1 rfl (by kernel_rfl)
     have h15:=held_isV hf 0 rfl (by kernel_rfl)
     clear hk hf hc
     go_simp
     exact hK _ _ (Below.refl _ _) rfl
    refine calm_fixA rfl rfl ?_
    apply Exists.intro
    refine ⟨fun a wz hc hk hf K hK=>?_,?_⟩
    ·have h16:=held_isV hf 0 rfl (by kernel_rfl)
     clear hk hf hc
     go_simp
     exact hK _ _ (Below.refl _ _) rfl
    refine calm_fixA rfl rfl ?_
    apply Exists.intro
    refine ⟨fun a wz hc hk hf K hK=>?_,?_⟩
    ·have hb:Below wr.heap.size wr wz:=hc rfl
     have h17:=held_isV hf 0 rfl (by kernel_rfl)
     clear hk hf hc
     have x1:=cell_kept HX1.out hb
     have x2:=cell_kept HX2.out hb
     go_simp
     exact hK _ _ (Below.refl _ _) rfl
    refine calm_fixA rfl rfl ?_
    apply Exists.intro
    refine ⟨fun a wz hc hk hf K hK=>?_,?_⟩
    ·have hb:Below wr.heap.size wr wz:=hc rfl
     have h13:=held_isV hf 5 rfl (by kernel_rfl)
     have h18:=held_isV hf 0 rfl (by kernel_rfl)
     clear hk hf hc
     go_simp
     refine Calls.mono (HE.out wz hb) ?_
     rintro e w1 ⟨rfl,hq⟩
     exact hK _ _ hq rfl
    refine calm_fixA rfl rfl ?_
    apply Exists.intro
    refine ⟨fun a wz hc hk hf K hK=>?_,?_⟩
    ·have hb:Below wr.heap.size wr wz:=hc rfl
     have h19:=held_isV hf 0 rfl (by kernel_rfl)
     clear hk hf hc
     go_simp
     refine Calls.mono (HYY.out wz) ?_
     rintro e w1 ⟨rfl,hq⟩
     exact hK _ _ hq rfl
    refine calm_nil ?_
    refine ⟨keeps_none,?_⟩
    intro w3 hc
    simp only [lexL,calmEnd]
    rintro _ rfl _ rfl _ rfl _ rfl _ rfl _ rfl _ rfl _ rfl
    have hq:Below wr.heap.size wr w3:=hc rfl
    clear hc
    simp only [Act.put,List.setIfInBounds_toArray,List.set_cons_zero,List.set_cons_succ]
    replace HG:=Lib.hid (HG.out.kept hq)
    have hg1:=HG.out
    obtain ⟨tv8,hT8,hF8,hB8⟩:=hg1
    have x1:=cell_kept HX1.out hq
    have x2:=cell_kept HX2.out hq
    have hq4:=Below.alloc (.refl w3.heap.size w3) (Nat.le_refl _) (.cells #[.slice Ar row.length pr,.int .i64 c] 40)
    have hT9:=hT8.later hq4
    have HT9:=Lib.hid hT9
    have hO9:=hT9.own
    rw [HM.out] at hO9
    have HO9:=Lib.hid hO9
    have HB9:=Lib.hid (hB8.trans (hq4.mono hB8.size))
    have hs3:=StrsIn.kept HS.out hq
    have hs9:StrsIn (w3.alloc (.cells #[.slice Ar row.length pr,.int .i64 c] 40)) (.slice Ar row.length pr) row:=SliceOf.alloc hs3 _
    have HS9:=Lib.hid hs9
    have HLIT:=Lib.hid (lit_tm w3 40 (.slice Ar row.length pr) c)
    have H1:=Lib.hid (one_tm hs3 c)
    have HOFF:=Lib.hid (RowOff.below HS0.out HB1.out.size hT8.lt)
    have HF9:=Lib.hid hF8
    have hml:=HML.out
    clear hT8 hT9 hO9 hs3 hs9 hq hq4 hF8 hB8 HG HE HYY HX1 HX2
    go_wp2_with (at_builtin;refine wpList_append_src rfl (.tmp 21) (.tmp 26) 22 rfl 40 i0 (.agg #[.slice none 0 0,.int .i64 0]) 2 32 Try.underlying22 hi hz0 hz1 hz2 rfl (by decide) (B:=w1.heap.size) (.slice A9 m9 p9) m9 (timesV tv8) rfl HO9.out (.slice (some ⟨w3.heap.size,0,none⟩) 1 1) 1 [.slice Ar row.length pr,.int .i64 c] rfl HLIT.out H1.out (by unfold maxLen;omega) (by omega) HB9.out.size ?_)
    intro v7 w7 hO7 hg7 ha7
    have HG7:=Lib.hid (GrowQ.add HT9.out HF9.out HB9.out HS9.out HQV.out HOFF.out hg7 (by simpa using ha7) hO7 (by rw [HM.out]))
    rw [←HTN.out] at HG7
    clear hO7 hg7 ha7 hml x1 x2
    go_wp2
    go_roundw
    case rel=>exact ⟨k+1,HLK.out,by go_num,HG7⟩
    case measure=>have:=HLK.out;simp [intOf];omega
   | false =>
    have HTN:=Lib.hid (HTK.out.trans (by rw [if_neg (of_decide_eq_false hy),List.append_nil]))
    clear hy HTK
    go_wp2_with fail
    refine wp_region_calm (offC wr) (fun _=>false) (fun _=>false) anyE false (by kernel_rfl) (by kernel_rfl) (by kernel_rfl) (by kernel_rfl) (by intro m hm;revert hm;simp;try omega) (offC_stable _) (offC_start _) ?_
    refine calm_fixA rfl rfl ?_
    apply Exists.intro
    refine ⟨fun a wz hc hk hf K hK=>?_,?_⟩
    ·have hb:Below wr.heap.size wr wz:=hc rfl
     have h3:=hk 3 (by kernel_rfl)
     clear hk hf hc
     obtain ⟨y0,y1,y2,y3,_⟩:=(HX.out.later (HBR.out.trans (hb.mono HBR.out.size))).cells
     go_simp
     exact hK _ _ (Below.refl _ _) rfl
    refine calm_fixA rfl rfl ?_
    apply Exists.intro
    refine ⟨fun a wz hc hk hf K hK=>?_,?_⟩
    ·have h0:=hk 0 (by kernel_rfl)
     clear hk hf hc
     go_simp
     exact hK _ _ (Below.refl _ _) rfl
    refine calm_fixA rfl rfl ?_
    apply Exists.intro
    refine ⟨fun a wz hc hk hf K hK=>?_,?_⟩
    ·have h6:=hk 6 (by kernel_rfl)
     clear hk hf hc
     go_simp
     exact hK _ _ (Below.refl _ _) rfl
    refine calm_fixA rfl rfl ?_
    apply Exists.intro
    refine ⟨fun a wz hc hk hf K hK=>?_,?_⟩
    ·have h14:=held_isV hf 1 rfl (by kernel_rfl)
     have h15:=held_isV hf 0 rfl (by kernel_rfl)
     clear hk hf hc
     go_simp
     exact hK _ _ (Below.refl _ _) rfl
    refine calm_fixA rfl rfl ?_
    apply Exists.intro
    refine ⟨fun a wz hc hk hf K hK=>?_,?_⟩
    ·have h16:=held_isV hf 0 rfl (by kernel_rfl)
     clear hk hf hc
     go_simp
     exact hK _ _ (Below.refl _ _) rfl
    refine calm_fixA rfl rfl ?_
    apply Exists.intro
    refine ⟨fun a wz hc hk hf K hK=>?_,?_⟩
    ·have hb:Below wr.heap.size wr wz:=hc rfl
     have h17:=held_isV hf 0 rfl (by kernel_rfl)
     clear hk hf hc
     have x1:=cell_kept HX1.out hb
     have x2:=cell_kept HX2.out hb
     go_simp
     exact hK _ _ (Below.refl _ _) rfl
    refine calm_fixA rfl rfl ?_
    apply Exists.intro
    refine ⟨fun a wz hc hk hf K hK=>?_,?_⟩
    ·have hb:Below wr.heap.size wr wz:=hc rfl
     have h13:=held_isV hf 5 rfl (by kernel_rfl)
     have h18:=held_isV hf 0 rfl (by kernel_rfl)
     clear hk hf hc
     go_simp
     refine Calls.mono (HE.out wz hb) ?_
     rintro e w1 ⟨rfl,hq⟩
     exact hK _ _ hq rfl
    refine calm_fixA rfl rfl ?_
    apply Exists.intro
    refine ⟨fun a wz hc hk hf K hK=>?_,?_⟩
    ·have hb:Below wr.heap.size wr wz:=hc rfl
     have h19:=held_isV hf 0 rfl (by kernel_rfl)
     clear hk hf hc
     go_simp
     refine Calls.mono (HYY.out wz) ?_
     rintro e w1 ⟨rfl,hq⟩
     exact hK _ _ hq rfl
    refine calm_nil ?_
    refine ⟨keeps_none,?_⟩
    intro w3 hc
    simp only [lexL,calmEnd]
    rintro _ rfl _ rfl _ rfl _ rfl _ rfl _ rfl _ rfl _ rfl
    have hq:Below wr.heap.size wr w3:=hc rfl
    clear hc
    simp only [Act.put,List.setIfInBounds_toArray,List.set_cons_zero,List.set_cons_succ]
    replace HG:=Lib.hid (HG.out.kept hq)
    rw [←HTN.out] at HG
    clear hq HE HYY HX1 HX2 HM
    go_wp2
    go_roundw
    case rel=>exact ⟨k+1,HLK.out,by go_num,HG⟩
    case measure=>have:=HLK.out;simp [intOf];omega
  ·obtain rfl:k=l.length:=by omega
   rw [List.take_length] at HG e9
   have HB:=Lib.hid (HB1.out.trans (HBR.out.mono HB1.out.size))
   have HQ:=Lib.hid HG.out.times
   clear hlt hk HG HBR
   generalize (filtS t l).length=m9 at *
   subst e9
   go_wp2
   go_ret
   exact ⟨_,rfl,HQ.out,HB.out⟩
theorem ref_filter_calls {w:World}{v vt:Value}{l:List Tm}{t:Trm}(h:TimesIn w v l)(ht:TermIn w vt t)(hl:l.length≤1000000):GivesTimes Try.prog 13 #[v,vt] w (filtS t l):=(ref_filter_q _ h.trueQ ht hl).gives
theorem PickNew.yes1 {w w':World}{row:List ByteArray}{cols:List Int}{e:Ending}(h:PickNew w row cols e w')(hy:pickOk row cols=true):∃ A p,e=.returned (.tuple #[.slice A (pickF row cols).length p,.bool true])∧StrsIn w' (.slice A (pickF row cols).length p) (pickF row cols)∧Fresh w.heap.size (.slice A (pickF row cols).length p)∧Below w.heap.size w w':=by
 obtain ⟨v,rfl,hs,hf,hb⟩:=h
 rw [hy]
 rw [pickL_yes hy] at hs
 obtain ⟨A,p,rfl,_⟩:=one_at hs
 exact ⟨A,p,rfl,hs,hf,hb⟩
theorem PickNew.no1 {w w':World}{row:List ByteArray}{cols:List Int}{e:Ending}(h:PickNew w row cols e w')(hy:pickOk row cols=false):∃ A p,e=.returned (.tuple #[.slice A 0 p,.bool false])∧Below w.heap.size w w':=by
 obtain ⟨v,rfl,hs,hf,hb⟩:=h
 rw [hy]
 rw [pickL_no hy] at hs
 obtain ⟨A,p,rfl,_⟩:=one_at hs
 exact ⟨A,p,rfl,hb⟩
set_option maxHeartbeats 4000000 in
set_option maxRecDepth 100000 in
theorem ref_project_q (Q:Value→Prop){w:World}{v vc:Value}{l:List Tm}{cols:List Int}(hQ:∀ u,Fresh w.heap.size u→Q u)(h:TimesIn w v l)(hc:IntsIn w vc cols)(hl:l.length≤1000000)(hw:wtW l≤4611686018427387904)(hcl:cols.length≤1000000):GivesTimesQ Q Try.prog 15 #[v,vc] w (projS cols l):=by
 obtain ⟨hb,hB⟩:=start w
 obtain ⟨tv,A,cap,rfl,_,hat⟩:=times_at h
 have HAT:=Lib.hid hat
 have HC:=Lib.hid hc
 obtain ⟨Ac,pc,rfl,_⟩:=one_at hc
 have HCL:=Lib.hid hcl
 have HQQ:=Lib.hid hQ
 clear h hat hc hQ hcl
 unfold GivesTimesQ
 go_enter Try.func15,Try.ntmps15
 go_wp2
 go_loopw [5,6] (fun x i wr=>∃ k:Nat,k≤l.length∧i=.int .i64 k∧Hid (TimesQ Q wr x (projS cols (l.take k)))∧Hid (Below w.heap.size w wr)) (fun _ i _=>l.length-(intOf i).toNat)
 case atStart=>exact ⟨0,Nat.zero_le _,rfl,Lib.hid (TimesQ.nil_ _ _ _ _),Lib.hid hb⟩
 case round =>
  clear hb hB
  obtain ⟨k,hk,rfl,HO,HB⟩:=hrel
  by_cases hlt:k < l.length
  ·obtain ⟨b,off,rfl,hbl,hc⟩:=HAT.out k hlt
   obtain ⟨rv,hs,_,c1,c2⟩:=hc k hlt
   have x1:=(HB.out.cell (p:=⟨b,off+k*2,none⟩) hbl).trans c1
   have x2:=(HB.out.cell (p:=⟨b,off+k*2+1,none⟩) hbl).trans c2
   have HX2:=Lib.hid x2
   have HTK:=Lib.hid (proj_take cols l k hlt)
   have h1:=wt_take l k hlt
   have h2:=wt_proj cols (l.take k)
   have h3:=proj_length cols (l.take k)
   rw [List.length_take] at h3
   have HNN:Hid ((projS cols (l.take k)).length≤1000000∧wtW (projS cols (l.take k))+l[k].2.natAbs≤4611686018427387904):=by show _∧_;omega
   have hcp:=ref_shape_pick_new (StrsIn.kept hs HB.out) (IntsIn.kept HC.out HB.out) HCL.out
   obtain ⟨Ar,pr,rfl⟩:∃ Ar pr,rv=.slice Ar l[k].1.length pr:=by obtain ⟨Ar,pr,e,_⟩:=one_at hs;exact ⟨Ar,pr,e⟩
   have i1:(k:Int) < (l.length:Int):=by omega
   have HLK:Hid (k < l.length):=hlt
   clear hc c1 c2 hs h1 h2 h3
   generalize l[k]=x at *
   obtain ⟨row0,c⟩:=x
   dsimp only at *
   obtain ⟨A9,p9,e9⟩:=times_slice HO.out.times
   generalize projS cols (l.take k)=o at *
   generalize o.length=m9 at e9
   subst e9
   clear hk hlt
   cases hy:pickOk row0 cols with
   | true =>
    have HTN:=Lib.hid (HTK.out.trans (by rw [if_pos hy]))
    have hcq:=hcp.mono fun _ _ he=>he.yes1 hy
    clear hy HTK hcp
    generalize pickF row0 cols=row at *
    go_wp2_with fail
    refine hcq.mono ?_
    rintro e w3 ⟨A8,p8,rfl,hs3,hf3,hq⟩
    have hp:=ref_weigh_put_q Q (HO.out.kept hq) (n:=c) hs3 (HQQ.out _ (hf3.mono HB.out.size)) HNN.out.1 HNN.out.2
    have x2:=cell_kept HX2.out hq
    have HB3:=Lib.hid (HB.out.trans (hq.mono HB.out.size))
    clear hcq x1 hs3 hf3 hq HX2
    unfold timesA at hp
    go_wp2_with fail
    refine hp.mono ?_
    rintro e w4 ⟨v4,rfl,hT4,hb4⟩
    rw [←HTN.out] at hT4
    have HT4:=Lib.hid hT4
    have HB4:=Lib.hid (HB3.out.trans (hb4.mono HB3.out.size))
    clear hp x2 hT4 hb4
    go_wp2
    go_roundw
    case rel=>exact ⟨k+1,HLK.out,by go_num,HT4,HB4⟩
    case measure=>have:=HLK.out;simp [intOf];omega
   | false =>
    have HTN:=Lib.hid (HTK.out.trans (by rw [if_neg (by rw [hy];decide)]))
    have hcq:=hcp.mono fun _ _ he=>he.no1 hy
    clear hy HTK hcp
    go_wp2_with fail
    refine hcq.mono ?_
    rintro e w3 ⟨A8,p8,rfl,hq⟩
    replace HO:=Lib.hid (HO.out.kept hq)
    rw [←HTN.out] at HO
    have HB3:=Lib.hid (HB.out.trans (hq.mono HB.out.size))
    clear hq hcq x1 x2 HX2
    go_wp2
    go_roundw
    case rel=>exact ⟨k+1,HLK.out,by go_num,HO,HB3⟩
    case measure=>have:=HLK.out;simp [intOf];omega
  ·obtain rfl:k=l.length:=by omega
   rw [List.take_length] at HO
   obtain ⟨A9,p9,e9⟩:=times_slice HO.out.times
   generalize (projS cols l).length=m9 at e9
   subst e9
   go_wp2
   go_ret
   exact ⟨_,rfl,HO.out,HB.out⟩
theorem ref_project_calls {w:World}{v vc:Value}{l:List Tm}{cols:List Int}(h:TimesIn w v l)(hc:IntsIn w vc cols)(hl:l.length≤1000000)(hw:wtW l≤4611686018427387904)(hcl:cols.length≤1000000):GivesTimes Try.prog 15 #[v,vc] w (projS cols l):=(ref_project_q (fun _=>True) (fun _ _=>trivial) h hc hl hw hcl).gives
end Go.Proofs.Ytcofhnedidllpaa
