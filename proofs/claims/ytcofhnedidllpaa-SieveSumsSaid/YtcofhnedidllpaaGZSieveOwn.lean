/- The contracts of layer 18's own passes and Filter. -/
import Derived.Test.YtcofhnedidllpaaGWeighRef
import Derived.Test.YtcofhnedidllpaaGWeighFns
import Derived.Test.YtcofhnedidllpaaGWeighSmall
import Derived.Test.YtcofhnedidllpaaGZSieveGrow
import Derived.Test.YtcofhnedidllpaaGZSievePure
import Derived.Test.YtcofhnedidllpaaGZTermOwnA
namespace Go.Proofs.Ytcofhnedidllpaa
open Go Go.RowKit
theorem cell_yes_calls (s:ByteArray):Gives Try.prog 37 #[.string s] (.bool (decide (s=yesC))):=by
 intro w
 have h:=yes_calls s w
 rw [yes_at] at h
 exact h
set_option maxHeartbeats 1000000 in
theorem passes_calls {row:List ByteArray}(n:Int)(t:Trm){w:World}{v rv:Value}(ht:TermIn w v t)(hr:StrsIn w rv row):GivesAt Try.prog 27 #[timesA (rv,n),v] w (.bool (decide (evalT row t=yesC))):=by
 obtain ⟨Ar,pr,rfl,_⟩:=one_at hr
 obtain ⟨A,cap,rfl⟩:=ht.parts15
 have q1:=Below.alloc (.refl w.heap.size w) (Nat.le_refl _) (.cells #[.slice Ar row.length pr,.int .i64 n] 40)
 have hb:=Below.alloc q1 q1.size (.cells #[.int .u8 t.op,.int .i64 t.col,.string t.cell,.slice A t.kids.length cap] 25)
 have hB:=hb.size
 have HE:=own_eval_calls (row:=row) t _ _ _ (ht.kept hb) (StrsIn.kept hr hb)
 clear ht hr q1
 generalize evalT row t=ev at *
 have HY:=cell_yes_calls ev
 generalize decide (ev=yesC)=y at *
 unfold GivesAt timesA
 go_enter Try.func27,Try.ntmps27
 go_wp2_with (first|(go_at_call 38;refine HE.step (w0:=w) (B:=w.heap.size) hb hB ?_;clear hb hB HE;intro w1 hb hB)|(go_at_call 37;refine HY.step (w0:=w) (B:=w.heap.size) hb hB ?_;clear hb hB;intro w2 hb hB))
 go_ret
 exact ⟨rfl,hb⟩
set_option maxHeartbeats 4000000 in
set_option maxRecDepth 100000 in
theorem sieve_filter_new {w:World}{v vt:Value}{l:List Tm}{t:Trm}(h:TimesIn w v l)(ht:TermIn w vt t)(hl:l.length≤1000000)(hS:ShortR l):Calls Try.prog 12 #[v,vt] w (NewEnd w (filtS t l)):=by
 obtain ⟨i0,hi,hz0,hz1,hz2⟩:=info_parts Try.infoM40
 obtain ⟨tv,A,cap,rfl,_,hat⟩:=times_at h
 have HAT:=Lib.hid hat
 have HSH:=Lib.hid hS
 have HT:=Lib.hid ht
 obtain ⟨At,ct,rfl⟩:=ht.parts15
 have HB1:=Lib.hid (Below.alloc (.refl w.heap.size w) (Nat.le_refl _) (.cells #[.int .u8 t.op,.int .i64 t.col,.string t.cell,.slice At t.kids.length ct] 25))
 have HX:=Lib.hid (trmbox_lit w 25 t.op t.col t.cell (.slice At t.kids.length ct))
 have HLL:=Lib.hid hl
 clear h hat hS ht
 go_enter Try.func12,Try.ntmps12
 go_wp2
 generalize w.alloc _=w1 at *
 go_loopw [5,7,10] (fun x _ i wr=>∃ k:Nat,k≤l.length∧i=.int .i64 k∧Hid (GrowN w1 (filtS t (l.take k)) x wr)) (fun _ _ i _=>l.length-(intOf i).toNat)
 case atStart=>exact ⟨0,Nat.zero_le _,rfl,Lib.hid (GrowN.nil_ w1)⟩
 case round =>
  obtain ⟨k,hk,rfl,HG⟩:=hrel
  have HBR:=Lib.hid HG.out.below
  obtain ⟨A9,p9,e9⟩:=HG.out.slice
  by_cases hlt:k < l.length
  ·have hbw:=HB1.out.trans (HBR.out.mono HB1.out.size)
   obtain ⟨b,off,rfl,hbl,hc⟩:=HAT.out k hlt
   obtain ⟨rv,hs,_,c1,c2⟩:=hc k hlt
   have x1:=(hbw.cell (p:=⟨b,off+k*2,none⟩) hbl).trans c1
   have x2:=(hbw.cell (p:=⟨b,off+k*2+1,none⟩) hbl).trans c2
   have HTK:=Lib.hid (filt_take t l k hlt)
   have HRL:=Lib.hid (HSH.out l[k] (List.getElem_mem hlt))
   have HS0:=Lib.hid (StrsIn.kept hs hbw)
   obtain ⟨Ar,pr,rfl⟩:∃ Ar pr,rv=.slice Ar l[k].1.length pr:=by obtain ⟨Ar,pr,e,_⟩:=one_at hs;exact ⟨Ar,pr,e⟩
   have hfl:=filt_length t (l.take k)
   rw [List.length_take] at hfl
   have hll:=HLL.out
   obtain ⟨F,hF⟩:∃ F,filtS t (l.take k)=F:=⟨_,rfl⟩
   rw [hF] at HG HTK e9 hfl
   obtain ⟨m9,hm⟩:∃ m,F.length=m:=⟨_,rfl⟩
   have HM:Hid (F.length=m9):=hm
   rw [hm] at e9 hfl
   have HML:Hid (m9≤1000000):=by show _≤_;omega
   subst e9
   clear hc c1 c2 hs hbw hfl hF hm hll
   generalize l[k]=x at *
   obtain ⟨row,c⟩:=x
   dsimp only at *
   obtain ⟨y0,y1,y2,y3,_⟩:=(HX.out.later HBR.out).cells
   have hq0:=Below.alloc (.refl wr.heap.size wr) (Nat.le_refl _) (.cells #[.slice Ar row.length pr,.int .i64 c] 40)
   obtain ⟨z0,z1,z2,z3,_⟩:=(HX.out.later (HBR.out.trans (hq0.mono HBR.out.size))).cells
   have hcp:=passes_calls c t (HT.out.kept ((HB1.out.trans (HBR.out.mono HB1.out.size)).trans (hq0.mono (HB1.out.trans (HBR.out.mono HB1.out.size)).size))) (StrsIn.kept HS0.out hq0)
   unfold timesA at hcp
   have HBX0:=Lib.hid (box_tm wr 40 (.slice Ar row.length pr) c)
   have HQ0:=Lib.hid hq0
   have i1:(k:Int) < (l.length:Int):=by omega
   have HLK:Hid (k < l.length):=hlt
   clear hq0 hlt hk
   obtain ⟨y,hy⟩:∃ y,decide (evalT row t=yesC)=y:=⟨_,rfl⟩
   have HY:Hid (decide (evalT row t=yesC)=y):=hy
   rw [hy] at hcp
   clear hy
   go_wp2_with fail
   refine hcp.mono ?_
   rintro e w3 ⟨rfl,hq⟩
   have HBX:=Lib.hid (HBX0.out.later hq)
   have HQ3:=Lib.hid (HQ0.out.trans (hq.mono HQ0.out.size))
   have HS:=Lib.hid (StrsIn.kept HS0.out HQ3.out)
   replace HG:=Lib.hid (GrowN.kept _ _ _ HQ3.out HG.out)
   have HB3:=Lib.hid HG.out.below
   have HLT:=Lib.hid HG.out.lt
   clear hq hcp y0 y1 y2 y3 z0 z1 z2 z3 x1 x2 HBX0 HQ0 HS0 HQ3
   generalize wr.heap.size=g7 at *
   cases y with
   | true =>
    have HTK2:=HTK.out
    rw [if_pos (of_decide_eq_true HY.out)] at HTK2
    have HTN:=Lib.hid HTK2
    clear HTK2 HTK HY
    go_wp2_with fail
    refine wp_region_m (offM 8 w3) (fun k=>k==8) (fun k m=>(m==8&&[0,1,2,3,4,5,6,7].contains k)) (fun k m=>(m==8&&[9].contains k)) (fun _ _ _ _=>True) (by kernel_rfl) (by kernel_rfl) (by kernel_rfl) (by kernel_rfl) (by intro m hm;revert hm;simp;try omega) (offM_stable _ _) (offM_start _ _) ?_
    refine m_fix rfl ?_
    apply Exists.intro
    refine ⟨fun ph a wz hp hc hk hf K hK=>?_,?_⟩
    ·have h5:=hk 5 (by kernel_rfl)
     clear hk hf hc
     go_simp
     exact hK _ _ (Below.refl _ _) rfl
    refine m_fix rfl ?_
    apply Exists.intro
    refine ⟨fun ph a wz hp hc hk hf K hK=>?_,?_⟩
    ·have h7:=hk 7 (by kernel_rfl)
     clear hk hf hc
     go_simp
     exact hK _ _ (Below.refl _ _) rfl
    refine m_fix rfl ?_
    apply Exists.intro
    refine ⟨fun ph a wz hp hc hk hf K hK=>?_,?_⟩
    ·have hb:Below w3.heap.size w3 wz:=hc (hp.1 8 rfl rfl)
     have h18:=mheld_isV hf 0 rfl (by kernel_rfl)
     clear hk hf hc
     obtain ⟨z0,z1,_,_⟩:=(HBX.out.later hb).cells
     go_simp
     exact hK _ _ (Below.refl _ _) rfl
    refine m_var (tillM 8 (RowR w3.heap.size row)) rfl (stable_tillM RowR.kept) (fun ph a wz hp hc hk hf K hK=>?_) ?_
    ·have hb:Below w3.heap.size w3 wz:=hc (hp.1 8 rfl rfl)
     have h19:=mheld_isV hf 0 rfl (by kernel_rfl)
     clear hk hf
     go_simp
     refine Calls.mono (clone_row_calls (StrsIn.kept HS.out hb) HRL.out) ?_
     rintro e w9 ⟨A9,p9,rfl,hs9,hf9,hq⟩
     exact hK _ _ hq (fun _=>⟨A9,p9,rfl,hs9,hf9.mono hb.size⟩)
    refine m_fix rfl ?_
    apply Exists.intro
    refine ⟨fun ph a wz hp hc hk hf K hK=>?_,?_⟩
    ·have h7:=hk 7 (by kernel_rfl)
     clear hk hf hc
     go_simp
     exact hK _ _ (Below.refl _ _) rfl
    refine m_fix rfl ?_
    apply Exists.intro
    refine ⟨fun ph a wz hp hc hk hf K hK=>?_,?_⟩
    ·have hb:Below w3.heap.size w3 wz:=hc (hp.1 8 rfl rfl)
     have h21:=mheld_isV hf 0 rfl (by kernel_rfl)
     clear hk hf hc
     obtain ⟨z0,z1,_,_⟩:=(HBX.out.later hb).cells
     go_simp
     exact hK _ _ (Below.refl _ _) rfl
    refine m_var (tillM 8 (TmR w3.heap.size row c)) rfl (stable_tillM TmR.kept) (fun ph a wz hp hc hk hf K hK=>?_) ?_
    ·have hb:Below w3.heap.size w3 wz:=hc (hp.1 8 rfl rfl)
     obtain ⟨v20,h20,S20⟩:=mheld_at hf 2 rfl (by kernel_rfl)
     replace S20:=S20 (hp.1 8 rfl rfl)
     have h22:=mheld_isV hf 0 rfl (by kernel_rfl)
     clear hk hf
     obtain ⟨A8,p8,rfl,s8,f8⟩:=S20
     go_simp
     exact hK _ _ (Below.refl _ _) (fun _=>⟨A8,p8,rfl,s8,f8⟩)
    refine m_var (tillM 8 (OneR w3.heap.size row c)) rfl (stable_tillM OneR.kept) (fun ph a wz hp hc hk hf K hK=>?_) ?_
    ·have hb:Below w3.heap.size w3 wz:=hc (hp.1 8 rfl rfl)
     obtain ⟨v23,h23,S23⟩:=mheld_at hf 0 rfl (by kernel_rfl)
     replace S23:=S23 (hp.1 8 rfl rfl)
     clear hk hf
     obtain ⟨A8,p8,rfl,s8,f8⟩:=S23
     go_simp
     exact hK _ _ (Below.alloc (.refl _ _) (Nat.le_refl _) _) (fun _=>⟨A8,p8,lit_tm _ _ _ _,SliceOf.alloc s8 _,f8⟩)
    refine m_store (growM w1 (F++[(row,c)])) rfl stable_growM (fun ph a wz hp hph hc hk hf K hK=>?_) ?_
    ·have hb:Below w3.heap.size w3 wz:=hc hph
     have h17:=mheld_isV hf 7 rfl (by kernel_rfl)
     obtain ⟨v24,h24,S24⟩:=mheld_at hf 0 rfl (by kernel_rfl)
     replace S24:=S24 hph
     clear hk hf
     obtain ⟨A8,p8,s8,t8,f8⟩:=S24
     obtain ⟨tv8,hT8,hF8,hB8⟩:=GrowN.kept _ _ _ hb HG.out
     have hO8:=hT8.own
     rw [HM.out] at hO8
     have hoff:=RowOff.of_fresh f8 HLT.out
     have hlen:=HML.out
     refine step_append_srcS rfl (.tmp 17) (.tmp 24) 22 rfl 40 i0 (.agg #[.slice none 0 0,.int .i64 0]) 2 32 Try.underlying22 hi hz0 hz1 hz2 rfl (by decide) (B:=w1.heap.size) (.slice A9 m9 p9) m9 (timesV tv8) ?_ hO8 _ 1 [.slice A8 row.length p8,.int .i64 c] ?_ s8 (one_tm t8 c) ?_ ?_ ?_ fun v' w' r1 r2 r3 r4=>?_
     ·simp [Act.eval,h17]
     ·simp [Act.eval,h24]
     ·unfold maxLen;omega
     ·omega
     ·exact hB8.size
     exact hK _ _ trivial (fun h=>by rw [setP_self] at h;cases h) (GrowN.add hT8 hF8 hB8 t8 (f8.mono HB3.out.size) hoff r2 r3 r1 (by rw [HM.out]))
    refine m_var (growM w1 (F++[(row,c)])) rfl stable_growM (fun ph a wz hp hc hk hf K hK=>?_) ?_
    ·obtain ⟨v25,h25,S25⟩:=mheld_at hf 0 rfl (by kernel_rfl)
     clear hk hf
     go_simp
     exact hK _ _ (Below.refl _ _) S25
    refine m_nil ?_
    refine ⟨keeps_m (fun m hm=>?_),?_⟩
    ·have hm2:m=8:=by simpa [or_assoc] using hm
     rcases hm2 with rfl
     ·exact ⟨.inr (.inr (keep_isV _)),.inr (.inr (keep_isV _)),.inr (.inr (keep_isV _)),.inr (.inr keep_till_self),.inr (.inr (keep_isV _)),.inr (.inr (keep_isV _)),.inr (.inr keep_till_self),.inr (.inr keep_till_self),.inl rfl,.inr (.inl rfl),trivial⟩
    intro ph w4 hps hc
    simp only [mlexL,mEnd]
    rintro _ rfl _ rfl _ rfl v20 S20 _ rfl _ rfl v23 S23 v24 S24 v25 S25 v5 S5
    have HG4:=Lib.hid (show GrowN w1 (F++[(row,c)]) v5 w4 from S5)
    clear hc hps S20 S23 S24 S25 S5
    simp only [Act.put,List.setIfInBounds_toArray,List.set_cons_zero,List.set_cons_succ]
    rw [←HTN.out] at HG4
    obtain ⟨A5,p5,e5⟩:=HG4.out.slice
    clear HG HLT HM HML HBX HS
    go_wp2
    go_roundw
    case rel=>exact ⟨k+1,HLK.out,by go_num,HG4⟩
    case measure=>have:=HLK.out;simp [intOf];omega
   | false =>
    have HTK2:=HTK.out
    rw [if_neg (of_decide_eq_false HY.out),List.append_nil] at HTK2
    rw [←HTK2] at HG
    clear HTK HTK2 HY HBX HS HLT HM
    go_wp2
    go_roundw
    case rel=>exact ⟨k+1,HLK.out,by go_num,HG⟩
    case measure=>have:=HLK.out;simp [intOf];omega
  ·obtain rfl:k=l.length:=by omega
   rw [List.take_length] at HG e9
   generalize (filtS t l).length=m9 at *
   subst e9
   go_wp2
   go_ret
   exact HG.out.ends1 HB1.out
theorem sieve_filter_calls {w:World}{v vt:Value}{l:List Tm}{t:Trm}(h:TimesIn w v l)(ht:TermIn w vt t)(hl:l.length≤1000000)(hS:ShortR l):GivesTimes Try.prog 12 #[v,vt] w (filtS t l):=NewEnd.gives (sieve_filter_new h ht hl hS)
end Go.Proofs.Ytcofhnedidllpaa
