/- The law TablePacks of layer 14. -/
import Derived.Test.YtafmbnafibahkaaGreatGWeighRef
import Derived.Test.YtafmbnafibahkaaGreatGOpen
import Derived.Test.YtafmbnafibahkaaGreatGTableAwake
import Derived.Test.YtafmbnafibahkaaGreatGTableSame
namespace Go.Proofs.YtafmbnafibahkaaGreat
open Go Go.RowKit
set_option maxHeartbeats 16000000 in
set_option maxRecDepth 100000 in
theorem tableFits_calls {w:World}{vc vl:Value}{cols:List (Int×Bool)}{l:List Tm}(hc:ColsIn w vc cols)(hl:TimesIn w vl l):GivesAt Tryz.prog 6 #[vc,vl] w (.bool true):=by
 have hm:=hl.len
 unfold maxLen at hm
 have hmc:=hc.len
 unfold maxLen at hmc
 obtain ⟨hb,hB⟩:=start w
 have HC:=Lib.hid hc
 have HLL:=Lib.hid hl
 have HAW:=Lib.hid awake_calls
 obtain ⟨Ac,pc,rfl,_⟩:=cols_at hc
 obtain ⟨tv,Al,pl,rfl,_,hat⟩:=times_at hl
 have HAT:=Lib.hid hat
 clear hc hl hat
 unfold GivesAt
 by_cases h6:cols.length≤6
 ·have d6:decide ((6:Int) < (cols.length:Int))=false:=decide_eq_false (by omega)
  have HSM:=Lib.hid (small14_calls 30 HLL.out)
  cases hs:smallL14 l 30 with
  | false =>
   rw [hs] at HSM
   clear hs
   go_enter Tryz.func6,Tryz.ntmps6
   go_wp2_with (first|(go_at_call 12;refine HSM.out.step ?_)|(go_at_call 8;refine HAW.out.step (w0:=w) (B:=w.heap.size) hb hB ?_;clear hb hB;intro wa hb hB))
   go_ret
   exact ⟨rfl,hb⟩
  | true =>
   rw [hs] at HSM
   have h30:=(small14_yes hs).2
   clear hs
   have HN:=Lib.hid (table_new_calls (w:=w) (name:=abc14) HC.out (by omega) (by decide))
   unfold TNewEnd at HN
   go_enter Tryz.func6,Tryz.ntmps6
   go_wp2_with (go_at_call 12;refine HSM.out.step ?_)
   refine HN.out.mono ?_
   rintro e w1 ⟨v1,rfl,h1,hq1⟩
   obtain ⟨B1,q1,B2,q2,B3,q3,rfl,hT1⟩:=h1.trueQ.parts
   clear hb hB h1
   rcases newN_cases abc14 cols with hn|hn
   ·rw [newA_ok hn] at hT1 ⊢
    have HAT1:=Lib.hid (TblAt.new 28 hT1)
    have HB2:=Lib.hid (hq1.trans ((Below.alloc (.refl w1.heap.size w1) (Nat.le_refl _) (.cells #[.string (newT abc14 cols).name,.slice B1 (newT abc14 cols).cols.length q1,.slice B2 (cutL (newT abc14 cols).R).length q2,.slice B3 (newT abc14 cols).T.length q3] 28)).mono hq1.size))
    have d1:(newN abc14 cols != 0)=false:=by simp [hn]
    clear hn hT1 hq1
    generalize newN abc14 cols=nn at *
    go_wp2
    generalize w1.alloc _=w2 at *
    have HLL2:=Lib.hid (HLL.out.kept HB2.out)
    have HC2:=Lib.hid (HC.out.kept HB2.out)
    have HOO:=Lib.hid HAT1.out.lt
    generalize w1.heap.size=O at *
    go_loopw [7,8] (fun z i wr=>∃ k:Nat,k≤l.length∧i=.int .i64 k∧z=.int .i64 (rowsN cols (l.take k))∧Below w2.heap.size w2 wr) (fun _ i _=>l.length-(intOf i).toNat)
    case atStart=>exact ⟨0,Nat.zero_le _,rfl,rfl,.refl _ _⟩
    case round =>
     obtain ⟨k,hk,rfl,rfl,hb⟩:=hrel
     have hB:=hb.size
     by_cases hgo:k < l.length∧rowsN cols (l.take k)=0
     ·obtain ⟨hlt,hz⟩:=hgo
      obtain ⟨b,off,rfl,hbl,hcc⟩:=HAT.out k hlt
      obtain ⟨rv,hrs,_,c1,_⟩:=hcc k hlt
      have hbw:=HB2.out.trans (hb.mono HB2.out.size)
      have x1:=(hbw.cell (p:=⟨b,off+k*2,none⟩) hbl).trans c1
      have HROW:=Lib.hid (ref_row_calls (HC2.out.kept hb) (StrsIn.kept hrs hbw))
      have HST:=Lib.hid (rowsN_step hlt hz)
      obtain ⟨Ar,pr,er,-⟩:=one_at hrs
      subst er
      have i0:(0:Int)≤(k:Int):=by omega
      have i1:(k:Int) < (l.length:Int):=by omega
      have dz:(rowsN cols (l.take k)==0)=true:=by simp [hz]
      clear hcc c1 hrs hz hbw
      generalize l[k].1.length=rl at *
      generalize hzz:rowsN cols (l.take k)=zz at *
      clear hzz
      go_wp2_with (go_at_call 23;refine HROW.out.step (w0:=w2) (B:=w2.heap.size) hb hB ?_;clear hb hB x1;intro w3 hb hB)
      go_roundw
      case rel=>exact ⟨k+1,by omega,by go_num,by rw [HST.out],hb⟩
      case measure=>simp [intOf];omega
     ·have HZE:Hid (rowsN cols (l.take k)=rowsN cols l):=by
       by_cases hlt:k < l.length
       ·exact (rowsN_prefix k (fun h=>hgo ⟨hlt,h⟩)).symm
       ·show _=_
        rw [List.take_of_length_le (by omega)]
      have hdd:(decide (k < l.length)=false∧decide ((k:Int) < (l.length:Int))=false∧True)∨(decide (k < l.length)=true∧decide ((k:Int) < (l.length:Int))=true∧(rowsN cols (l.take k)==0)=false):=by
       by_cases hlt:k < l.length
       ·exact .inr ⟨decide_eq_true hlt,decide_eq_true (by omega),by rw [beq_eq_false_iff_ne];exact fun h=>hgo ⟨hlt,h⟩⟩
       ·exact .inl ⟨decide_eq_false hlt,decide_eq_false (by omega),trivial⟩
      clear hgo
      rw [HZE.out] at hdd ⊢
      clear HZE
      have HBR:=Lib.hid hb
      obtain ⟨w3,hw3⟩:∃ w3,w3=wr:=⟨_,rfl⟩
      subst hw3
      clear hb hB
      have HBW:=Lib.hid (HB2.out.trans (HBR.out.mono HB2.out.size))
      generalize hW:rowsN cols l=W0 at *
      have HW0:=Lib.hid hW
      clear hW
      rcases hdd with ⟨e1,e2,e3⟩ | ⟨e1,e2,e3⟩
      case' inl=>go_wp2
      case' inr=>go_wp2
      all_goals
       clear e1 e2 e3
       go_loop [9,10] (fun o i=>∃ k:Nat,k≤l.length∧i=.int .i64 k∧o=.bool (oftenB (l.take k))) (fun _ i=>l.length-(intOf i).toNat)
       case atStart=>exact ⟨0,Nat.zero_le _,rfl,rfl⟩
       case round =>
        obtain ⟨k,hk,rfl,rfl⟩:=hrel
        by_cases hlt:k < l.length
        ·obtain ⟨b,off,rfl,hbl,hcc⟩:=HAT.out k hlt
         obtain ⟨rv,_,_,_,c2⟩:=hcc k hlt
         have x2:=(HBW.out.cell (p:=⟨b,off+k*2+1,none⟩) hbl).trans c2
         have HST:=Lib.hid (often_step hlt)
         have i0:(0:Int)≤(k:Int):=by omega
         have i1:(k:Int) < (l.length:Int):=by omega
         clear hcc c2
         generalize l[k].2=n at *
         cases ho:oftenB (l.take k) with
         | true =>
          rw [ho,Bool.true_or] at HST
          clear ho
          go_wp2
          go_round
          case rel=>exact ⟨k+1,by omega,by go_num,by rw [HST.out]⟩
          case measure=>simp [intOf];omega
         | false =>
          rw [ho,Bool.false_or] at HST
          clear ho
          by_cases g1:1048576 < n
          ·have d2:decide (1048576 < n)=true:=decide_eq_true g1
           rw [d2,Bool.true_or] at HST
           clear g1
           go_wp2
           go_round
           case rel=>exact ⟨k+1,by omega,by go_num,by rw [HST.out]⟩
           case measure=>simp [intOf];omega
          ·have d2:decide (1048576 < n)=false:=decide_eq_false g1
           rw [d2,Bool.false_or] at HST
           by_cases g2:n < -1048576
           ·have d3:decide (n < -1048576)=true:=decide_eq_true g2
            rw [d3] at HST
            clear g1 g2
            go_wp2
            go_round
            case rel=>exact ⟨k+1,by omega,by go_num,by rw [HST.out]⟩
            case measure=>simp [intOf];omega
           ·have d3:decide (n < -1048576)=false:=decide_eq_false g2
            rw [d3] at HST
            clear g1 g2
            go_wp2
            go_round
            case rel=>exact ⟨k+1,by omega,by go_num,by rw [HST.out]⟩
            case measure=>simp [intOf];omega
        ·obtain rfl:k=l.length:=by omega
         rw [List.take_length]
         have hA3:=HAT1.out.kept HBR.out
         obtain ⟨A1,p1,A2,p2,A3,p3,hx,hT,-⟩:=hA3
         have HX:=Lib.hid hx
         have HT:=Lib.hid hT.of
         have HLL3:=Lib.hid (HLL2.out.kept HBR.out)
         have HCHK:=Lib.hid (table_check_calls (t:=newT abc14 cols) ⟨_,_,_,rfl,HT.out⟩ HLL3.out)
         rw [show (newT abc14 cols).cols=cols from rfl] at HCHK
         have HAP:Hid (∀ W,Below w3.heap.size w3 W→Calls Tryz.prog 15 #[.agg #[.string (newT abc14 cols).name,.slice A1 (newT abc14 cols).cols.length p1,.slice A2 (cutL (newT abc14 cols).R).length p2,.slice A3 (newT abc14 cols).T.length p3],.slice Al l.length pl] W (TApplyEnd W (newT abc14 cols) l)):=fun W hW=>table_apply_calls (t:=newT abc14 cols) ⟨_,_,_,rfl,HT.out.kept hW⟩ (newT_good h6) (HLL3.out.kept hW) (by omega)
         unfold TApplyEnd at HAP
         clear hx hT
         by_cases hz:W0=0
         ·subst hz
          cases ho:oftenB l with
          | true =>
           have hck:checkN cols l=8:=by rw [checkN_cases _ _ HW0.out,if_pos ho]
           rw [hck] at HCHK
           rw [applyN_check (t:=newT abc14 cols) (l:=l) (by show checkN cols l≠0;rw [hck];decide),show checkN (newT abc14 cols).cols l=8 from hck,applyT_no (t:=newT abc14 cols) (l:=l) (by rw [applyN_check (t:=newT abc14 cols) (l:=l) (by show checkN cols l≠0;rw [hck];decide)];show checkN cols l≠0;rw [hck];decide)] at HAP
           clear ho hck
           obtain ⟨x0,x1,x2,x3,_⟩:=HX.out.cells
           go_wp2_with fail
           refine HCHK.out.stepB (w0:=w3) (B:=w3.heap.size) (.refl _ _) (Nat.le_refl _) ?_
           clear x0 x1 x2 x3
           intro w4 hb4 hB4 _
           obtain ⟨x0,x1,x2,x3,_⟩:=(HX.out.later hb4).cells
           go_wp2_with fail
           refine (HAP.out w4 hb4).mono ?_
           rintro e w5 ⟨v5,rfl,h5,hq5⟩
           obtain ⟨C1,c1,C2,c2,C3,c3,rfl,hT5⟩:=h5.trueQ.parts
           have hb5:=hb4.trans (hq5.mono hB4)
           clear x0 x1 x2 x3 hb4 hB4 hq5 h5
           have hx6:=tbox_lit w5 28 (newT abc14 cols).name (.slice C1 (newT abc14 cols).cols.length c1) (.slice C2 (cutL (newT abc14 cols).R).length c2) (.slice C3 (newT abc14 cols).T.length c3)
           have hq6:=Below.alloc (.refl w5.heap.size w5) (Nat.le_refl _) (.cells #[.string (newT abc14 cols).name,.slice C1 (newT abc14 cols).cols.length c1,.slice C2 (cutL (newT abc14 cols).R).length c2,.slice C3 (newT abc14 cols).T.length c3] 28)
           have hT6:=hT5.of.kept hq6
           have hb6:=hb5.trans (hq6.mono hb5.size)
           clear hT5 hb5 hq6
           go_wp2_with fail
           generalize w5.alloc _=w6 at *
           refine HAW.out.stepB (w0:=w3) (B:=w3.heap.size) hb6 hb6.size ?_
           intro w7 hb7 hB7 hq7
           have hx7:=hx6.later hq7
           have hT7:=hT6.kept hq7
           obtain ⟨x0,x1,x2,x3,_⟩:=(HX.out.later hb7).cells
           obtain ⟨y0,y1,y2,y3,_⟩:=hx7.cells
           have HSA:=Lib.hid (same14_calls (t:=newT abc14 cols) ⟨_,_,_,rfl,hT7⟩ ⟨_,_,_,rfl,HT.out.kept hb7⟩ (newT_good h6))
           clear hx6 hT6 hb6 hx7 hT7 hq7
           go_wp2_with fail
           refine HSA.out.stepB (w0:=w3) (B:=w3.heap.size) hb7 hB7 ?_
           clear x0 x1 x2 x3 y0 y1 y2 y3 hb7 hB7
           intro w8 hb8 _ _
           go_wp2
           go_ret
           exact ⟨rfl,HBW.out.trans (hb8.mono HBW.out.size)⟩
          | false =>
           have hck:checkN cols l=0:=by rw [checkN_cases _ _ HW0.out,if_neg (by rw [ho];decide)]
           rw [hck] at HCHK
           have HFIT:=Lib.hid (check_zero hck).1
           have HWT:=Lib.hid (check_wt hck (by omega))
           clear ho
           rcases apply_newT (name:=abc14) hck with ⟨hw,hf⟩ | ⟨hw,hf|hf⟩
           ·have HWH:=Lib.hid hw
            rw [hf,applyT_no (t:=newT abc14 cols) (l:=l) (by rw [hf];decide)] at HAP
            clear hw hf hck
            obtain ⟨x0,x1,x2,x3,_⟩:=HX.out.cells
            go_wp2_with fail
            refine HCHK.out.stepB (w0:=w3) (B:=w3.heap.size) (.refl _ _) (Nat.le_refl _) ?_
            clear x0 x1 x2 x3
            intro w4 hb4 hB4 _
            obtain ⟨x0,x1,x2,x3,_⟩:=(HX.out.later hb4).cells
            go_wp2_with fail
            refine (HAP.out w4 hb4).mono ?_
            rintro e w5 ⟨v5,rfl,h5,hq5⟩
            obtain ⟨C1,c1,C2,c2,C3,c3,rfl,hT5⟩:=h5.trueQ.parts
            have hb5:=hb4.trans (hq5.mono hB4)
            clear x0 x1 x2 x3 hb4 hB4 hq5 h5
            have hx6:=tbox_lit w5 28 ((newT abc14 cols).name) (.slice C1 (newT abc14 cols).cols.length c1) (.slice C2 (cutL (newT abc14 cols).R).length c2) (.slice C3 (newT abc14 cols).T.length c3)
            have hq6:=Below.alloc (.refl w5.heap.size w5) (Nat.le_refl _) (.cells #[.string (newT abc14 cols).name,.slice C1 (newT abc14 cols).cols.length c1,.slice C2 (cutL (newT abc14 cols).R).length c2,.slice C3 (newT abc14 cols).T.length c3] 28)
            have HB63:=Lib.hid (hb5.trans (hq6.mono hb5.size))
            have HX6:=Lib.hid hx6
            clear hT5 hb5 hq6 hx6
            go_wp2_with fail
            generalize w5.alloc _=w6 at *
            refine wp_region_calm (offC w6) (fun _=>false) (fun _=>false) anyE false (by kernel_rfl) (by kernel_rfl) (by kernel_rfl) (by kernel_rfl) (by intro m hm;revert hm;simp;try omega) (offC_stable _) (offC_start _) ?_
            refine calm_fixA rfl rfl ?_
            apply Exists.intro
            refine ⟨fun a wz hc hk hf K hK=>?_,?_⟩
            ·have hb:Below w6.heap.size w6 wz:=hc rfl
             clear hk hf hc
             go_simp
             refine Calls.mono (HAW.out wz) ?_
             rintro e w1 ⟨rfl,hq⟩
             exact hK _ _ hq rfl
            refine calm_fixA rfl rfl ?_
            apply Exists.intro
            refine ⟨fun a wz hc hk hf K hK=>?_,?_⟩
            ·have h103:=held_isV hf 0 rfl (by kernel_rfl)
             clear hk hf hc
             go_simp
             exact hK _ _ (Below.refl _ _) rfl
            refine calm_fixA rfl rfl ?_
            apply Exists.intro
            refine ⟨fun a wz hc hk hf K hK=>?_,?_⟩
            ·have h12:=hk 12 (by kernel_rfl)
             have h104:=held_isV hf 0 rfl (by kernel_rfl)
             clear hk hf hc
             go_simp
             exact hK _ _ (Below.refl _ _) rfl
            refine calm_fixA rfl rfl ?_
            apply Exists.intro
            refine ⟨fun a wz hc hk hf K hK=>?_,?_⟩
            ·have h105:=held_isV hf 0 rfl (by kernel_rfl)
             have h104:=held_isV hf 1 rfl (by kernel_rfl)
             clear hk hf hc
             go_simp
             exact hK _ _ (Below.refl _ _) rfl
            refine calm_fixA rfl rfl ?_
            apply Exists.intro
            refine ⟨fun a wz hc hk hf K hK=>?_,?_⟩
            ·have h1:=hk 1 (by kernel_rfl)
             have h104:=held_isV hf 2 rfl (by kernel_rfl)
             clear hk hf hc
             go_simp
             exact hK _ _ (Below.refl _ _) rfl
            refine calm_varA (TimesP (ofW l)) rfl rfl TimesP.kept (fun a wz hc hk hf K hK=>?_) ?_
            ·have hb:Below w6.heap.size w6 wz:=hc rfl
             have h107:=held_isV hf 0 rfl (by kernel_rfl)
             have h104:=held_isV hf 3 rfl (by kernel_rfl)
             clear hk hf hc
             go_simp
             refine Calls.mono (ref_weigh_of_calls ((HLL3.out.kept HB63.out).kept hb) (by omega) (by have:=HWT.out;omega)) ?_
             rintro e w1 ⟨v1,rfl,h1,hq⟩
             exact hK _ _ hq (fun _=>h1)
            refine calm_fixA rfl rfl ?_
            apply Exists.intro
            refine ⟨fun a wz hc hk hf K hK=>?_,?_⟩
            ·have hb:Below w6.heap.size w6 wz:=hc rfl
             obtain ⟨v108,h108,S108⟩:=held_at hf 0 rfl (by kernel_rfl)
             have h104:=held_isV hf 4 rfl (by kernel_rfl)
             clear hk hf hc
             have hwh:=ref_weigh_whole_calls (show TimesIn wz v108 (ofW l) from S108 rfl)
             rw [HWH.out] at hwh
             go_simp
             refine Calls.mono (hwh) ?_
             rintro e w1 ⟨rfl,hq⟩
             exact hK _ _ hq rfl
            refine calm_fixA rfl rfl ?_
            apply Exists.intro
            refine ⟨fun a wz hc hk hf K hK=>?_,?_⟩
            ·have h109:=held_isV hf 0 rfl (by kernel_rfl)
             have h104:=held_isV hf 5 rfl (by kernel_rfl)
             clear hk hf hc
             go_simp
             exact hK _ _ (Below.refl _ _) rfl
            refine calm_fixA rfl rfl ?_
            apply Exists.intro
            refine ⟨fun a wz hc hk hf K hK=>?_,?_⟩
            ·have h106:=held_isV hf 4 rfl (by kernel_rfl)
             have h110:=held_isV hf 0 rfl (by kernel_rfl)
             have h104:=held_isV hf 6 rfl (by kernel_rfl)
             clear hk hf hc
             go_simp
             exact hK _ _ (Below.refl _ _) rfl
            refine calm_fixA rfl rfl ?_
            apply Exists.intro
            refine ⟨fun a wz hc hk hf K hK=>?_,?_⟩
            ·have h104:=held_isV hf 7 rfl (by kernel_rfl)
             have h111:=held_isV hf 0 rfl (by kernel_rfl)
             clear hk hf hc
             go_simp
             exact hK _ _ (Below.refl _ _) rfl
            refine calm_fixA rfl rfl ?_
            apply Exists.intro
            refine ⟨fun a wz hc hk hf K hK=>?_,?_⟩
            ·have h112:=held_isV hf 0 rfl (by kernel_rfl)
             clear hk hf hc
             go_simp
             exact hK _ _ (Below.refl _ _) rfl
            refine calm_fixA rfl rfl ?_
            apply Exists.intro
            refine ⟨fun a wz hc hk hf K hK=>?_,?_⟩
            ·have h12:=hk 12 (by kernel_rfl)
             have h113:=held_isV hf 0 rfl (by kernel_rfl)
             clear hk hf hc
             go_simp
             exact hK _ _ (Below.refl _ _) rfl
            refine calm_fixA rfl rfl ?_
            apply Exists.intro
            refine ⟨fun a wz hc hk hf K hK=>?_,?_⟩
            ·have h114:=held_isV hf 0 rfl (by kernel_rfl)
             have h113:=held_isV hf 1 rfl (by kernel_rfl)
             clear hk hf hc
             go_simp
             exact hK _ _ (Below.refl _ _) rfl
            refine calm_fixA rfl rfl ?_
            apply Exists.intro
            refine ⟨fun a wz hc hk hf K hK=>?_,?_⟩
            ·have h115:=held_isV hf 0 rfl (by kernel_rfl)
             have h113:=held_isV hf 2 rfl (by kernel_rfl)
             clear hk hf hc
             go_simp
             exact hK _ _ (Below.refl _ _) rfl
            refine calm_fixA rfl rfl ?_
            apply Exists.intro
            refine ⟨fun a wz hc hk hf K hK=>?_,?_⟩
            ·have h11:=hk 11 (by kernel_rfl)
             have h116:=held_isV hf 0 rfl (by kernel_rfl)
             clear hk hf hc
             go_simp
             exact hK _ _ (Below.refl _ _) rfl
            refine calm_fixA rfl rfl ?_
            apply Exists.intro
            refine ⟨fun a wz hc hk hf K hK=>?_,?_⟩
            ·have hb:Below w6.heap.size w6 wz:=hc rfl
             have h117:=held_isV hf 0 rfl (by kernel_rfl)
             have h116:=held_isV hf 1 rfl (by kernel_rfl)
             clear hk hf hc
             go_simp
             exact hK _ _ (Below.refl _ _) rfl
            refine calm_fixA rfl rfl ?_
            apply Exists.intro
            refine ⟨fun a wz hc hk hf K hK=>?_,?_⟩
            ·have h1:=hk 1 (by kernel_rfl)
             have h116:=held_isV hf 2 rfl (by kernel_rfl)
             clear hk hf hc
             go_simp
             exact hK _ _ (Below.refl _ _) rfl
            refine calm_fixA rfl rfl ?_
            apply Exists.intro
            refine ⟨fun a wz hc hk hf K hK=>?_,?_⟩
            ·have h119:=held_isV hf 0 rfl (by kernel_rfl)
             have h116:=held_isV hf 3 rfl (by kernel_rfl)
             clear hk hf hc
             go_simp
             exact hK _ _ (Below.refl _ _) rfl
            refine calm_fixA rfl rfl ?_
            apply Exists.intro
            refine ⟨fun a wz hc hk hf K hK=>?_,?_⟩
            ·have h118:=held_isV hf 2 rfl (by kernel_rfl)
             have h120:=held_isV hf 0 rfl (by kernel_rfl)
             have h116:=held_isV hf 4 rfl (by kernel_rfl)
             clear hk hf hc
             go_simp
             exact hK _ _ (Below.refl _ _) rfl
            refine calm_fixA rfl rfl ?_
            apply Exists.intro
            refine ⟨fun a wz hc hk hf K hK=>?_,?_⟩
            ·have h121:=held_isV hf 0 rfl (by kernel_rfl)
             have h116:=held_isV hf 5 rfl (by kernel_rfl)
             clear hk hf hc
             go_simp
             exact hK _ _ (Below.refl _ _) rfl
            refine calm_fixA rfl rfl ?_
            apply Exists.intro
            refine ⟨fun a wz hc hk hf K hK=>?_,?_⟩
            ·have h11:=hk 11 (by kernel_rfl)
             have h122:=held_isV hf 0 rfl (by kernel_rfl)
             clear hk hf hc
             go_simp
             exact hK _ _ (Below.refl _ _) rfl
            refine calm_fixA rfl rfl ?_
            apply Exists.intro
            refine ⟨fun a wz hc hk hf K hK=>?_,?_⟩
            ·have hb:Below w6.heap.size w6 wz:=hc rfl
             have h123:=held_isV hf 0 rfl (by kernel_rfl)
             have h122:=held_isV hf 1 rfl (by kernel_rfl)
             clear hk hf hc
             go_simp
             exact hK _ _ (Below.refl _ _) rfl
            refine calm_fixA rfl rfl ?_
            apply Exists.intro
            refine ⟨fun a wz hc hk hf K hK=>?_,?_⟩
            ·have h124:=held_isV hf 0 rfl (by kernel_rfl)
             have h122:=held_isV hf 2 rfl (by kernel_rfl)
             clear hk hf hc
             go_simp
             exact hK _ _ (Below.refl _ _) rfl
            refine calm_fixA rfl rfl ?_
            apply Exists.intro
            refine ⟨fun a wz hc hk hf K hK=>?_,?_⟩
            ·have h125:=held_isV hf 0 rfl (by kernel_rfl)
             have h122:=held_isV hf 3 rfl (by kernel_rfl)
             clear hk hf hc
             go_simp
             exact hK _ _ (Below.refl _ _) rfl
            refine calm_fixA rfl rfl ?_
            apply Exists.intro
            refine ⟨fun a wz hc hk hf K hK=>?_,?_⟩
            ·have h122:=held_isV hf 4 rfl (by kernel_rfl)
             have h126:=held_isV hf 0 rfl (by kernel_rfl)
             have h116:=held_isV hf 10 rfl (by kernel_rfl)
             clear hk hf hc
             go_simp
             exact hK _ _ (Below.refl _ _) rfl
            refine calm_fixA rfl rfl ?_
            apply Exists.intro
            refine ⟨fun a wz hc hk hf K hK=>?_,?_⟩
            ·have h116:=held_isV hf 11 rfl (by kernel_rfl)
             have h127:=held_isV hf 0 rfl (by kernel_rfl)
             have h113:=held_isV hf 14 rfl (by kernel_rfl)
             clear hk hf hc
             go_simp
             exact hK _ _ (Below.refl _ _) rfl
            refine calm_fixA rfl rfl ?_
            apply Exists.intro
            refine ⟨fun a wz hc hk hf K hK=>?_,?_⟩
            ·have h113:=held_isV hf 15 rfl (by kernel_rfl)
             have h128:=held_isV hf 0 rfl (by kernel_rfl)
             clear hk hf hc
             go_simp
             exact hK _ _ (Below.refl _ _) rfl
            refine calm_fixA rfl rfl ?_
            apply Exists.intro
            refine ⟨fun a wz hc hk hf K hK=>?_,?_⟩
            ·have h129:=held_isV hf 0 rfl (by kernel_rfl)
             clear hk hf hc
             go_simp
             exact hK _ _ (Below.refl _ _) rfl
            refine calm_nil ?_
            refine ⟨keeps_none,?_⟩
            intro w7 hc
            simp only [lexL,calmEnd]
            rintro _ rfl _ rfl _ rfl _ rfl _ rfl v108 S108 _ rfl _ rfl _ rfl _ rfl _ rfl _ rfl _ rfl _ rfl _ rfl _ rfl _ rfl _ rfl _ rfl _ rfl _ rfl _ rfl _ rfl _ rfl _ rfl _ rfl _ rfl _ rfl
            have hb7:=HB63.out.trans (Below.mono (hc rfl) HB63.out.size)
            clear hc S108
            simp only [Act.put,List.setIfInBounds_toArray,List.set_cons_zero,List.set_cons_succ]
            go_wp2
            go_ret
            exact ⟨rfl,HBW.out.trans (hb7.mono HBW.out.size)⟩
           ·have HWH:=Lib.hid hw
            have HAT0:Hid (applyT (newT abc14 cols) l=⟨abc14,cols,[],ofW l⟩):=by
             show _=_
             unfold applyT
             rw [if_pos hf,←nil_sum];rfl
            rw [hf,HAT0.out] at HAP
            clear hw hf hck
            obtain ⟨x0,x1,x2,x3,_⟩:=HX.out.cells
            go_wp2_with fail
            refine HCHK.out.stepB (w0:=w3) (B:=w3.heap.size) (.refl _ _) (Nat.le_refl _) ?_
            clear x0 x1 x2 x3
            intro w4 hb4 hB4 _
            obtain ⟨x0,x1,x2,x3,_⟩:=(HX.out.later hb4).cells
            go_wp2_with fail
            refine (HAP.out w4 hb4).mono ?_
            rintro e w5 ⟨v5,rfl,h5,hq5⟩
            obtain ⟨C1,c1,C2,c2,C3,c3,rfl,hT5⟩:=h5.trueQ.parts
            have hb5:=hb4.trans (hq5.mono hB4)
            clear x0 x1 x2 x3 hb4 hB4 hq5 h5
            have hx6:=tbox_lit w5 28 (abc14) (.slice C1 cols.length c1) (.slice C2 (cutL []).length c2) (.slice C3 (ofW l).length c3)
            have hq6:=Below.alloc (.refl w5.heap.size w5) (Nat.le_refl _) (.cells #[.string abc14,.slice C1 cols.length c1,.slice C2 (cutL []).length c2,.slice C3 (ofW l).length c3] 28)
            have HB63:=Lib.hid (hb5.trans (hq6.mono hb5.size))
            have HTLX:=Lib.hid (hT5.tail.times.kept hq6)
            have HX6:=Lib.hid hx6
            clear hT5 hb5 hq6 hx6
            go_wp2_with fail
            generalize w5.alloc _=w6 at *
            refine wp_region_calm (offC w6) (fun _=>false) (fun _=>false) anyE false (by kernel_rfl) (by kernel_rfl) (by kernel_rfl) (by kernel_rfl) (by intro m hm;revert hm;simp;try omega) (offC_stable _) (offC_start _) ?_
            refine calm_fixA rfl rfl ?_
            apply Exists.intro
            refine ⟨fun a wz hc hk hf K hK=>?_,?_⟩
            ·have hb:Below w6.heap.size w6 wz:=hc rfl
             clear hk hf hc
             go_simp
             refine Calls.mono (HAW.out wz) ?_
             rintro e w1 ⟨rfl,hq⟩
             exact hK _ _ hq rfl
            refine calm_fixA rfl rfl ?_
            apply Exists.intro
            refine ⟨fun a wz hc hk hf K hK=>?_,?_⟩
            ·have h103:=held_isV hf 0 rfl (by kernel_rfl)
             clear hk hf hc
             go_simp
             exact hK _ _ (Below.refl _ _) rfl
            refine calm_fixA rfl rfl ?_
            apply Exists.intro
            refine ⟨fun a wz hc hk hf K hK=>?_,?_⟩
            ·have h12:=hk 12 (by kernel_rfl)
             have h104:=held_isV hf 0 rfl (by kernel_rfl)
             clear hk hf hc
             go_simp
             exact hK _ _ (Below.refl _ _) rfl
            refine calm_fixA rfl rfl ?_
            apply Exists.intro
            refine ⟨fun a wz hc hk hf K hK=>?_,?_⟩
            ·have h105:=held_isV hf 0 rfl (by kernel_rfl)
             have h104:=held_isV hf 1 rfl (by kernel_rfl)
             clear hk hf hc
             go_simp
             exact hK _ _ (Below.refl _ _) rfl
            refine calm_fixA rfl rfl ?_
            apply Exists.intro
            refine ⟨fun a wz hc hk hf K hK=>?_,?_⟩
            ·have h1:=hk 1 (by kernel_rfl)
             have h104:=held_isV hf 2 rfl (by kernel_rfl)
             clear hk hf hc
             go_simp
             exact hK _ _ (Below.refl _ _) rfl
            refine calm_varA (TimesP (ofW l)) rfl rfl TimesP.kept (fun a wz hc hk hf K hK=>?_) ?_
            ·have hb:Below w6.heap.size w6 wz:=hc rfl
             have h107:=held_isV hf 0 rfl (by kernel_rfl)
             have h104:=held_isV hf 3 rfl (by kernel_rfl)
             clear hk hf hc
             go_simp
             refine Calls.mono (ref_weigh_of_calls ((HLL3.out.kept HB63.out).kept hb) (by omega) (by have:=HWT.out;omega)) ?_
             rintro e w1 ⟨v1,rfl,h1,hq⟩
             exact hK _ _ hq (fun _=>h1)
            refine calm_fixA rfl rfl ?_
            apply Exists.intro
            refine ⟨fun a wz hc hk hf K hK=>?_,?_⟩
            ·have hb:Below w6.heap.size w6 wz:=hc rfl
             obtain ⟨v108,h108,S108⟩:=held_at hf 0 rfl (by kernel_rfl)
             have h104:=held_isV hf 4 rfl (by kernel_rfl)
             clear hk hf hc
             have hwh:=ref_weigh_whole_calls (show TimesIn wz v108 (ofW l) from S108 rfl)
             rw [HWH.out] at hwh
             go_simp
             refine Calls.mono (hwh) ?_
             rintro e w1 ⟨rfl,hq⟩
             exact hK _ _ hq rfl
            refine calm_fixA rfl rfl ?_
            apply Exists.intro
            refine ⟨fun a wz hc hk hf K hK=>?_,?_⟩
            ·have h109:=held_isV hf 0 rfl (by kernel_rfl)
             have h104:=held_isV hf 5 rfl (by kernel_rfl)
             clear hk hf hc
             go_simp
             exact hK _ _ (Below.refl _ _) rfl
            refine calm_fixA rfl rfl ?_
            apply Exists.intro
            refine ⟨fun a wz hc hk hf K hK=>?_,?_⟩
            ·have h106:=held_isV hf 4 rfl (by kernel_rfl)
             have h110:=held_isV hf 0 rfl (by kernel_rfl)
             have h104:=held_isV hf 6 rfl (by kernel_rfl)
             clear hk hf hc
             go_simp
             exact hK _ _ (Below.refl _ _) rfl
            refine calm_fixA rfl rfl ?_
            apply Exists.intro
            refine ⟨fun a wz hc hk hf K hK=>?_,?_⟩
            ·have h104:=held_isV hf 7 rfl (by kernel_rfl)
             have h111:=held_isV hf 0 rfl (by kernel_rfl)
             clear hk hf hc
             go_simp
             exact hK _ _ (Below.refl _ _) rfl
            refine calm_fixA rfl rfl ?_
            apply Exists.intro
            refine ⟨fun a wz hc hk hf K hK=>?_,?_⟩
            ·have h112:=held_isV hf 0 rfl (by kernel_rfl)
             clear hk hf hc
             go_simp
             exact hK _ _ (Below.refl _ _) rfl
            refine calm_fixA rfl rfl ?_
            apply Exists.intro
            refine ⟨fun a wz hc hk hf K hK=>?_,?_⟩
            ·have h12:=hk 12 (by kernel_rfl)
             have h113:=held_isV hf 0 rfl (by kernel_rfl)
             clear hk hf hc
             go_simp
             exact hK _ _ (Below.refl _ _) rfl
            refine calm_fixA rfl rfl ?_
            apply Exists.intro
            refine ⟨fun a wz hc hk hf K hK=>?_,?_⟩
            ·have h114:=held_isV hf 0 rfl (by kernel_rfl)
             have h113:=held_isV hf 1 rfl (by kernel_rfl)
             clear hk hf hc
             go_simp
             exact hK _ _ (Below.refl _ _) rfl
            refine calm_fixA rfl rfl ?_
            apply Exists.intro
            refine ⟨fun a wz hc hk hf K hK=>?_,?_⟩
            ·have h115:=held_isV hf 0 rfl (by kernel_rfl)
             have h113:=held_isV hf 2 rfl (by kernel_rfl)
             clear hk hf hc
             go_simp
             exact hK _ _ (Below.refl _ _) rfl
            refine calm_fixA rfl rfl ?_
            apply Exists.intro
            refine ⟨fun a wz hc hk hf K hK=>?_,?_⟩
            ·have h11:=hk 11 (by kernel_rfl)
             have h116:=held_isV hf 0 rfl (by kernel_rfl)
             clear hk hf hc
             go_simp
             exact hK _ _ (Below.refl _ _) rfl
            refine calm_fixA rfl rfl ?_
            apply Exists.intro
            refine ⟨fun a wz hc hk hf K hK=>?_,?_⟩
            ·have hb:Below w6.heap.size w6 wz:=hc rfl
             have h117:=held_isV hf 0 rfl (by kernel_rfl)
             have h116:=held_isV hf 1 rfl (by kernel_rfl)
             clear hk hf hc
             obtain ⟨y0,y1,y2,y3,_⟩:=(HX6.out.later hb).cells
             go_simp
             exact hK _ _ (Below.refl _ _) rfl
            refine calm_fixA rfl rfl ?_
            apply Exists.intro
            refine ⟨fun a wz hc hk hf K hK=>?_,?_⟩
            ·have h1:=hk 1 (by kernel_rfl)
             have h116:=held_isV hf 2 rfl (by kernel_rfl)
             clear hk hf hc
             go_simp
             exact hK _ _ (Below.refl _ _) rfl
            refine calm_varA (TimesP (ofW l)) rfl rfl TimesP.kept (fun a wz hc hk hf K hK=>?_) ?_
            ·have hb:Below w6.heap.size w6 wz:=hc rfl
             have h119:=held_isV hf 0 rfl (by kernel_rfl)
             have h116:=held_isV hf 3 rfl (by kernel_rfl)
             clear hk hf hc
             go_simp
             refine Calls.mono (ref_weigh_of_calls ((HLL3.out.kept HB63.out).kept hb) (by omega) (by have:=HWT.out;omega)) ?_
             rintro e w1 ⟨v1,rfl,h1,hq⟩
             exact hK _ _ hq (fun _=>h1)
            refine calm_fixA rfl rfl ?_
            apply Exists.intro
            refine ⟨fun a wz hc hk hf K hK=>?_,?_⟩
            ·have hb:Below w6.heap.size w6 wz:=hc rfl
             have h118:=held_isV hf 2 rfl (by kernel_rfl)
             obtain ⟨v120,h120,S120⟩:=held_at hf 0 rfl (by kernel_rfl)
             have h116:=held_isV hf 4 rfl (by kernel_rfl)
             clear hk hf hc
             have hsm:=same_times (HTLX.out.kept hb) (show TimesIn wz v120 (ofW l) from S120 rfl) (by have:=of_len l;omega) (of_short HFIT.out h6) (of_short HFIT.out h6)
             rw [decide_eq_true rfl] at hsm
             go_simp
             refine Calls.mono (hsm) ?_
             rintro e w1 ⟨rfl,hq⟩
             exact hK _ _ hq rfl
            refine calm_fixA rfl rfl ?_
            apply Exists.intro
            refine ⟨fun a wz hc hk hf K hK=>?_,?_⟩
            ·have h121:=held_isV hf 0 rfl (by kernel_rfl)
             have h116:=held_isV hf 5 rfl (by kernel_rfl)
             clear hk hf hc
             go_simp
             exact hK _ _ (Below.refl _ _) rfl
            refine calm_fixA rfl rfl ?_
            apply Exists.intro
            refine ⟨fun a wz hc hk hf K hK=>?_,?_⟩
            ·have h11:=hk 11 (by kernel_rfl)
             have h122:=held_isV hf 0 rfl (by kernel_rfl)
             clear hk hf hc
             go_simp
             exact hK _ _ (Below.refl _ _) rfl
            refine calm_fixA rfl rfl ?_
            apply Exists.intro
            refine ⟨fun a wz hc hk hf K hK=>?_,?_⟩
            ·have hb:Below w6.heap.size w6 wz:=hc rfl
             have h123:=held_isV hf 0 rfl (by kernel_rfl)
             have h122:=held_isV hf 1 rfl (by kernel_rfl)
             clear hk hf hc
             obtain ⟨y0,y1,y2,y3,_⟩:=(HX6.out.later hb).cells
             go_simp
             exact hK _ _ (Below.refl _ _) rfl
            refine calm_fixA rfl rfl ?_
            apply Exists.intro
            refine ⟨fun a wz hc hk hf K hK=>?_,?_⟩
            ·have h124:=held_isV hf 0 rfl (by kernel_rfl)
             have h122:=held_isV hf 2 rfl (by kernel_rfl)
             clear hk hf hc
             go_simp
             exact hK _ _ (Below.refl _ _) rfl
            refine calm_fixA rfl rfl ?_
            apply Exists.intro
            refine ⟨fun a wz hc hk hf K hK=>?_,?_⟩
            ·have hb:Below w6.heap.size w6 wz:=hc rfl
             have h125:=held_isV hf 0 rfl (by kernel_rfl)
             have h122:=held_isV hf 3 rfl (by kernel_rfl)
             clear hk hf hc
             have hcl:(cutL ([]:List Tm)).length=0:=rfl
             go_simp
             exact hK _ _ (Below.refl _ _) rfl
            refine calm_fixA rfl rfl ?_
            apply Exists.intro
            refine ⟨fun a wz hc hk hf K hK=>?_,?_⟩
            ·have h122:=held_isV hf 4 rfl (by kernel_rfl)
             have h126:=held_isV hf 0 rfl (by kernel_rfl)
             have h116:=held_isV hf 10 rfl (by kernel_rfl)
             clear hk hf hc
             go_simp
             exact hK _ _ (Below.refl _ _) rfl
            refine calm_fixA rfl rfl ?_
            apply Exists.intro
            refine ⟨fun a wz hc hk hf K hK=>?_,?_⟩
            ·have h116:=held_isV hf 11 rfl (by kernel_rfl)
             have h127:=held_isV hf 0 rfl (by kernel_rfl)
             have h113:=held_isV hf 14 rfl (by kernel_rfl)
             clear hk hf hc
             go_simp
             exact hK _ _ (Below.refl _ _) rfl
            refine calm_fixA rfl rfl ?_
            apply Exists.intro
            refine ⟨fun a wz hc hk hf K hK=>?_,?_⟩
            ·have h113:=held_isV hf 15 rfl (by kernel_rfl)
             have h128:=held_isV hf 0 rfl (by kernel_rfl)
             clear hk hf hc
             go_simp
             exact hK _ _ (Below.refl _ _) rfl
            refine calm_fixA rfl rfl ?_
            apply Exists.intro
            refine ⟨fun a wz hc hk hf K hK=>?_,?_⟩
            ·have h129:=held_isV hf 0 rfl (by kernel_rfl)
             clear hk hf hc
             go_simp
             exact hK _ _ (Below.refl _ _) rfl
            refine calm_nil ?_
            refine ⟨keeps_none,?_⟩
            intro w7 hc
            simp only [lexL,calmEnd]
            rintro _ rfl _ rfl _ rfl _ rfl _ rfl v108 S108 _ rfl _ rfl _ rfl _ rfl _ rfl _ rfl _ rfl _ rfl _ rfl _ rfl _ rfl v120 S120 _ rfl _ rfl _ rfl _ rfl _ rfl _ rfl _ rfl _ rfl _ rfl _ rfl
            have hb7:=HB63.out.trans (Below.mono (hc rfl) HB63.out.size)
            clear hc S108 S120
            simp only [Act.put,List.setIfInBounds_toArray,List.set_cons_zero,List.set_cons_succ]
            go_wp2
            go_ret
            exact ⟨rfl,HBW.out.trans (hb7.mono HBW.out.size)⟩
           ·have HWH:=Lib.hid hw
            rw [hf,applyT_no (t:=newT abc14 cols) (l:=l) (by rw [hf];decide)] at HAP
            clear hw hf hck
            obtain ⟨x0,x1,x2,x3,_⟩:=HX.out.cells
            go_wp2_with fail
            refine HCHK.out.stepB (w0:=w3) (B:=w3.heap.size) (.refl _ _) (Nat.le_refl _) ?_
            clear x0 x1 x2 x3
            intro w4 hb4 hB4 _
            obtain ⟨x0,x1,x2,x3,_⟩:=(HX.out.later hb4).cells
            go_wp2_with fail
            refine (HAP.out w4 hb4).mono ?_
            rintro e w5 ⟨v5,rfl,h5,hq5⟩
            obtain ⟨C1,c1,C2,c2,C3,c3,rfl,hT5⟩:=h5.trueQ.parts
            have hb5:=hb4.trans (hq5.mono hB4)
            clear x0 x1 x2 x3 hb4 hB4 hq5 h5
            have hx6:=tbox_lit w5 28 ((newT abc14 cols).name) (.slice C1 (newT abc14 cols).cols.length c1) (.slice C2 (cutL (newT abc14 cols).R).length c2) (.slice C3 (newT abc14 cols).T.length c3)
            have hq6:=Below.alloc (.refl w5.heap.size w5) (Nat.le_refl _) (.cells #[.string (newT abc14 cols).name,.slice C1 (newT abc14 cols).cols.length c1,.slice C2 (cutL (newT abc14 cols).R).length c2,.slice C3 (newT abc14 cols).T.length c3] 28)
            have HB63:=Lib.hid (hb5.trans (hq6.mono hb5.size))
            have HX6:=Lib.hid hx6
            clear hT5 hb5 hq6 hx6
            go_wp2_with fail
            generalize w5.alloc _=w6 at *
            refine wp_region_calm (offC w6) (fun _=>false) (fun _=>false) anyE false (by kernel_rfl) (by kernel_rfl) (by kernel_rfl) (by kernel_rfl) (by intro m hm;revert hm;simp;try omega) (offC_stable _) (offC_start _) ?_
            refine calm_fixA rfl rfl ?_
            apply Exists.intro
            refine ⟨fun a wz hc hk hf K hK=>?_,?_⟩
            ·have hb:Below w6.heap.size w6 wz:=hc rfl
             clear hk hf hc
             go_simp
             refine Calls.mono (HAW.out wz) ?_
             rintro e w1 ⟨rfl,hq⟩
             exact hK _ _ hq rfl
            refine calm_fixA rfl rfl ?_
            apply Exists.intro
            refine ⟨fun a wz hc hk hf K hK=>?_,?_⟩
            ·have h103:=held_isV hf 0 rfl (by kernel_rfl)
             clear hk hf hc
             go_simp
             exact hK _ _ (Below.refl _ _) rfl
            refine calm_fixA rfl rfl ?_
            apply Exists.intro
            refine ⟨fun a wz hc hk hf K hK=>?_,?_⟩
            ·have h12:=hk 12 (by kernel_rfl)
             have h104:=held_isV hf 0 rfl (by kernel_rfl)
             clear hk hf hc
             go_simp
             exact hK _ _ (Below.refl _ _) rfl
            refine calm_fixA rfl rfl ?_
            apply Exists.intro
            refine ⟨fun a wz hc hk hf K hK=>?_,?_⟩
            ·have h105:=held_isV hf 0 rfl (by kernel_rfl)
             have h104:=held_isV hf 1 rfl (by kernel_rfl)
             clear hk hf hc
             go_simp
             exact hK _ _ (Below.refl _ _) rfl
            refine calm_fixA rfl rfl ?_
            apply Exists.intro
            refine ⟨fun a wz hc hk hf K hK=>?_,?_⟩
            ·have h1:=hk 1 (by kernel_rfl)
             have h104:=held_isV hf 2 rfl (by kernel_rfl)
             clear hk hf hc
             go_simp
             exact hK _ _ (Below.refl _ _) rfl
            refine calm_varA (TimesP (ofW l)) rfl rfl TimesP.kept (fun a wz hc hk hf K hK=>?_) ?_
            ·have hb:Below w6.heap.size w6 wz:=hc rfl
             have h107:=held_isV hf 0 rfl (by kernel_rfl)
             have h104:=held_isV hf 3 rfl (by kernel_rfl)
             clear hk hf hc
             go_simp
             refine Calls.mono (ref_weigh_of_calls ((HLL3.out.kept HB63.out).kept hb) (by omega) (by have:=HWT.out;omega)) ?_
             rintro e w1 ⟨v1,rfl,h1,hq⟩
             exact hK _ _ hq (fun _=>h1)
            refine calm_fixA rfl rfl ?_
            apply Exists.intro
            refine ⟨fun a wz hc hk hf K hK=>?_,?_⟩
            ·have hb:Below w6.heap.size w6 wz:=hc rfl
             obtain ⟨v108,h108,S108⟩:=held_at hf 0 rfl (by kernel_rfl)
             have h104:=held_isV hf 4 rfl (by kernel_rfl)
             clear hk hf hc
             have hwh:=ref_weigh_whole_calls (show TimesIn wz v108 (ofW l) from S108 rfl)
             rw [HWH.out] at hwh
             go_simp
             refine Calls.mono (hwh) ?_
             rintro e w1 ⟨rfl,hq⟩
             exact hK _ _ hq rfl
            refine calm_fixA rfl rfl ?_
            apply Exists.intro
            refine ⟨fun a wz hc hk hf K hK=>?_,?_⟩
            ·have h109:=held_isV hf 0 rfl (by kernel_rfl)
             have h104:=held_isV hf 5 rfl (by kernel_rfl)
             clear hk hf hc
             go_simp
             exact hK _ _ (Below.refl _ _) rfl
            refine calm_fixA rfl rfl ?_
            apply Exists.intro
            refine ⟨fun a wz hc hk hf K hK=>?_,?_⟩
            ·have h106:=held_isV hf 4 rfl (by kernel_rfl)
             have h110:=held_isV hf 0 rfl (by kernel_rfl)
             have h104:=held_isV hf 6 rfl (by kernel_rfl)
             clear hk hf hc
             go_simp
             exact hK _ _ (Below.refl _ _) rfl
            refine calm_fixA rfl rfl ?_
            apply Exists.intro
            refine ⟨fun a wz hc hk hf K hK=>?_,?_⟩
            ·have h104:=held_isV hf 7 rfl (by kernel_rfl)
             have h111:=held_isV hf 0 rfl (by kernel_rfl)
             clear hk hf hc
             go_simp
             exact hK _ _ (Below.refl _ _) rfl
            refine calm_fixA rfl rfl ?_
            apply Exists.intro
            refine ⟨fun a wz hc hk hf K hK=>?_,?_⟩
            ·have h112:=held_isV hf 0 rfl (by kernel_rfl)
             clear hk hf hc
             go_simp
             exact hK _ _ (Below.refl _ _) rfl
            refine calm_fixA rfl rfl ?_
            apply Exists.intro
            refine ⟨fun a wz hc hk hf K hK=>?_,?_⟩
            ·have h12:=hk 12 (by kernel_rfl)
             have h113:=held_isV hf 0 rfl (by kernel_rfl)
             clear hk hf hc
             go_simp
             exact hK _ _ (Below.refl _ _) rfl
            refine calm_fixA rfl rfl ?_
            apply Exists.intro
            refine ⟨fun a wz hc hk hf K hK=>?_,?_⟩
            ·have h114:=held_isV hf 0 rfl (by kernel_rfl)
             have h113:=held_isV hf 1 rfl (by kernel_rfl)
             clear hk hf hc
             go_simp
             exact hK _ _ (Below.refl _ _) rfl
            refine calm_fixA rfl rfl ?_
            apply Exists.intro
            refine ⟨fun a wz hc hk hf K hK=>?_,?_⟩
            ·have h115:=held_isV hf 0 rfl (by kernel_rfl)
             have h113:=held_isV hf 2 rfl (by kernel_rfl)
             clear hk hf hc
             go_simp
             exact hK _ _ (Below.refl _ _) rfl
            refine calm_fixA rfl rfl ?_
            apply Exists.intro
            refine ⟨fun a wz hc hk hf K hK=>?_,?_⟩
            ·have h11:=hk 11 (by kernel_rfl)
             have h116:=held_isV hf 0 rfl (by kernel_rfl)
             clear hk hf hc
             go_simp
             exact hK _ _ (Below.refl _ _) rfl
            refine calm_fixA rfl rfl ?_
            apply Exists.intro
            refine ⟨fun a wz hc hk hf K hK=>?_,?_⟩
            ·have hb:Below w6.heap.size w6 wz:=hc rfl
             have h117:=held_isV hf 0 rfl (by kernel_rfl)
             have h116:=held_isV hf 1 rfl (by kernel_rfl)
             clear hk hf hc
             go_simp
             exact hK _ _ (Below.refl _ _) rfl
            refine calm_fixA rfl rfl ?_
            apply Exists.intro
            refine ⟨fun a wz hc hk hf K hK=>?_,?_⟩
            ·have h1:=hk 1 (by kernel_rfl)
             have h116:=held_isV hf 2 rfl (by kernel_rfl)
             clear hk hf hc
             go_simp
             exact hK _ _ (Below.refl _ _) rfl
            refine calm_fixA rfl rfl ?_
            apply Exists.intro
            refine ⟨fun a wz hc hk hf K hK=>?_,?_⟩
            ·have h119:=held_isV hf 0 rfl (by kernel_rfl)
             have h116:=held_isV hf 3 rfl (by kernel_rfl)
             clear hk hf hc
             go_simp
             exact hK _ _ (Below.refl _ _) rfl
            refine calm_fixA rfl rfl ?_
            apply Exists.intro
            refine ⟨fun a wz hc hk hf K hK=>?_,?_⟩
            ·have h118:=held_isV hf 2 rfl (by kernel_rfl)
             have h120:=held_isV hf 0 rfl (by kernel_rfl)
             have h116:=held_isV hf 4 rfl (by kernel_rfl)
             clear hk hf hc
             go_simp
             exact hK _ _ (Below.refl _ _) rfl
            refine calm_fixA rfl rfl ?_
            apply Exists.intro
            refine ⟨fun a wz hc hk hf K hK=>?_,?_⟩
            ·have h121:=held_isV hf 0 rfl (by kernel_rfl)
             have h116:=held_isV hf 5 rfl (by kernel_rfl)
             clear hk hf hc
             go_simp
             exact hK _ _ (Below.refl _ _) rfl
            refine calm_fixA rfl rfl ?_
            apply Exists.intro
            refine ⟨fun a wz hc hk hf K hK=>?_,?_⟩
            ·have h11:=hk 11 (by kernel_rfl)
             have h122:=held_isV hf 0 rfl (by kernel_rfl)
             clear hk hf hc
             go_simp
             exact hK _ _ (Below.refl _ _) rfl
            refine calm_fixA rfl rfl ?_
            apply Exists.intro
            refine ⟨fun a wz hc hk hf K hK=>?_,?_⟩
            ·have hb:Below w6.heap.size w6 wz:=hc rfl
             have h123:=held_isV hf 0 rfl (by kernel_rfl)
             have h122:=held_isV hf 1 rfl (by kernel_rfl)
             clear hk hf hc
             go_simp
             exact hK _ _ (Below.refl _ _) rfl
            refine calm_fixA rfl rfl ?_
            apply Exists.intro
            refine ⟨fun a wz hc hk hf K hK=>?_,?_⟩
            ·have h124:=held_isV hf 0 rfl (by kernel_rfl)
             have h122:=held_isV hf 2 rfl (by kernel_rfl)
             clear hk hf hc
             go_simp
             exact hK _ _ (Below.refl _ _) rfl
            refine calm_fixA rfl rfl ?_
            apply Exists.intro
            refine ⟨fun a wz hc hk hf K hK=>?_,?_⟩
            ·have h125:=held_isV hf 0 rfl (by kernel_rfl)
             have h122:=held_isV hf 3 rfl (by kernel_rfl)
             clear hk hf hc
             go_simp
             exact hK _ _ (Below.refl _ _) rfl
            refine calm_fixA rfl rfl ?_
            apply Exists.intro
            refine ⟨fun a wz hc hk hf K hK=>?_,?_⟩
            ·have h122:=held_isV hf 4 rfl (by kernel_rfl)
             have h126:=held_isV hf 0 rfl (by kernel_rfl)
             have h116:=held_isV hf 10 rfl (by kernel_rfl)
             clear hk hf hc
             go_simp
             exact hK _ _ (Below.refl _ _) rfl
            refine calm_fixA rfl rfl ?_
            apply Exists.intro
            refine ⟨fun a wz hc hk hf K hK=>?_,?_⟩
            ·have h116:=held_isV hf 11 rfl (by kernel_rfl)
             have h127:=held_isV hf 0 rfl (by kernel_rfl)
             have h113:=held_isV hf 14 rfl (by kernel_rfl)
             clear hk hf hc
             go_simp
             exact hK _ _ (Below.refl _ _) rfl
            refine calm_fixA rfl rfl ?_
            apply Exists.intro
            refine ⟨fun a wz hc hk hf K hK=>?_,?_⟩
            ·have h113:=held_isV hf 15 rfl (by kernel_rfl)
             have h128:=held_isV hf 0 rfl (by kernel_rfl)
             clear hk hf hc
             go_simp
             exact hK _ _ (Below.refl _ _) rfl
            refine calm_fixA rfl rfl ?_
            apply Exists.intro
            refine ⟨fun a wz hc hk hf K hK=>?_,?_⟩
            ·have h129:=held_isV hf 0 rfl (by kernel_rfl)
             clear hk hf hc
             go_simp
             exact hK _ _ (Below.refl _ _) rfl
            refine calm_nil ?_
            refine ⟨keeps_none,?_⟩
            intro w7 hc
            simp only [lexL,calmEnd]
            rintro _ rfl _ rfl _ rfl _ rfl _ rfl v108 S108 _ rfl _ rfl _ rfl _ rfl _ rfl _ rfl _ rfl _ rfl _ rfl _ rfl _ rfl _ rfl _ rfl _ rfl _ rfl _ rfl _ rfl _ rfl _ rfl _ rfl _ rfl _ rfl
            have hb7:=HB63.out.trans (Below.mono (hc rfl) HB63.out.size)
            clear hc S108
            simp only [Act.put,List.setIfInBounds_toArray,List.set_cons_zero,List.set_cons_succ]
            go_wp2
            go_ret
            exact ⟨rfl,HBW.out.trans (hb7.mono HBW.out.size)⟩
         ·have hck:checkN cols l=W0:=by rw [checkN_rows (by rw [HW0.out];exact hz),HW0.out]
          rw [hck] at HCHK
          rw [applyN_check (t:=newT abc14 cols) (l:=l) (by show checkN cols l≠0;rw [hck];exact hz),show checkN (newT abc14 cols).cols l=W0 from hck,applyT_no (t:=newT abc14 cols) (l:=l) (by rw [applyN_check (t:=newT abc14 cols) (l:=l) (by show checkN cols l≠0;rw [hck];exact hz)];show checkN cols l≠0;rw [hck];exact hz)] at HAP
          have dz:(W0==0)=false:=by rw [beq_eq_false_iff_ne];exact hz
          have dz2:(W0 != 0)=true:=by simp [hz]
          clear hz hck
          obtain ⟨x0,x1,x2,x3,_⟩:=HX.out.cells
          go_wp2_with fail
          refine HCHK.out.stepB (w0:=w3) (B:=w3.heap.size) (.refl _ _) (Nat.le_refl _) ?_
          clear x0 x1 x2 x3
          intro w4 hb4 hB4 _
          obtain ⟨x0,x1,x2,x3,_⟩:=(HX.out.later hb4).cells
          go_wp2_with fail
          refine (HAP.out w4 hb4).mono ?_
          rintro e w5 ⟨v5,rfl,h5,hq5⟩
          obtain ⟨C1,c1,C2,c2,C3,c3,rfl,hT5⟩:=h5.trueQ.parts
          have hb5:=hb4.trans (hq5.mono hB4)
          clear x0 x1 x2 x3 hb4 hB4 hq5 h5
          have hx6:=tbox_lit w5 28 (newT abc14 cols).name (.slice C1 (newT abc14 cols).cols.length c1) (.slice C2 (cutL (newT abc14 cols).R).length c2) (.slice C3 (newT abc14 cols).T.length c3)
          have hq6:=Below.alloc (.refl w5.heap.size w5) (Nat.le_refl _) (.cells #[.string (newT abc14 cols).name,.slice C1 (newT abc14 cols).cols.length c1,.slice C2 (cutL (newT abc14 cols).R).length c2,.slice C3 (newT abc14 cols).T.length c3] 28)
          have hT6:=hT5.of.kept hq6
          have hb6:=hb5.trans (hq6.mono hb5.size)
          clear hT5 hb5 hq6
          go_wp2_with fail
          generalize w5.alloc _=w6 at *
          refine HAW.out.stepB (w0:=w3) (B:=w3.heap.size) hb6 hb6.size ?_
          intro w7 hb7 hB7 hq7
          have hx7:=hx6.later hq7
          have hT7:=hT6.kept hq7
          obtain ⟨x0,x1,x2,x3,_⟩:=(HX.out.later hb7).cells
          obtain ⟨y0,y1,y2,y3,_⟩:=hx7.cells
          have HSA:=Lib.hid (same14_calls (t:=newT abc14 cols) ⟨_,_,_,rfl,hT7⟩ ⟨_,_,_,rfl,HT.out.kept hb7⟩ (newT_good h6))
          clear hx6 hT6 hb6 hx7 hT7 hq7
          go_wp2_with fail
          refine HSA.out.stepB (w0:=w3) (B:=w3.heap.size) hb7 hB7 ?_
          clear x0 x1 x2 x3 y0 y1 y2 y3 hb7 hB7
          intro w8 hb8 _ _
          go_wp2
          go_ret
          exact ⟨rfl,HBW.out.trans (hb8.mono HBW.out.size)⟩
   ·have d1:(newN abc14 cols != 0)=true:=by simp [hn]
    have d2:(newN abc14 cols==1)=true:=by simp [hn]
    have hb:=hq1.alloc hq1.size (.cells #[.string (newA abc14 cols).name,.slice B1 (newA abc14 cols).cols.length q1,.slice B2 (cutL (newA abc14 cols).R).length q2,.slice B3 (newA abc14 cols).T.length q3] 28)
    have hB:=hb.size
    clear hn hT1 hq1
    generalize newN abc14 cols=nn at *
    go_wp2_with (go_at_call 8;refine HAW.out.step (w0:=w) (B:=w.heap.size) hb hB ?_;clear hb hB;intro wa hb hB)
    go_ret
    exact ⟨rfl,hb⟩
 ·have d6:decide ((6:Int) < (cols.length:Int))=true:=decide_eq_true (by omega)
  go_enter Tryz.func6,Tryz.ntmps6
  go_wp2_with (go_at_call 8;refine HAW.out.step (w0:=w) (B:=w.heap.size) hb hB ?_;clear hb hB;intro wa hb hB)
  go_ret
  exact ⟨rfl,hb⟩
set_option maxHeartbeats 16000000 in
set_option maxRecDepth 100000 in
theorem tablePacks_calls {w:World}{vc vl:Value}{cols:List (Int×Bool)}{l:List (Int×List Tm)}(hc:ColsIn w vc cols)(hl:ActsIn w vl l):GivesAt Tryz.prog 7 #[vc,vl] w (.bool true):=by
 have hm:=hl.1
 unfold maxLen at hm
 have hmc:=hc.len
 unfold maxLen at hmc
 obtain ⟨hb,hB⟩:=start w
 have HC:=Lib.hid hc
 have HAW:=Lib.hid awake_calls
 obtain ⟨Ac,pc,rfl,_⟩:=cols_at hc
 obtain ⟨_,Al,pl,rfl,hat⟩:=hl
 have HAT:=Lib.hid hat
 clear hc hat
 unfold GivesAt
 by_cases h6:cols.length≤6
 ·have d6:decide ((6:Int) < (cols.length:Int))=false:=decide_eq_false (by omega)
  by_cases h10:l.length≤10
  ·have d10:decide ((10:Int) < (l.length:Int))=false:=decide_eq_false (by omega)
   have HN:=Lib.hid (table_new_calls (w:=w) (name:=abc14) HC.out (by omega) (by decide))
   unfold TNewEnd at HN
   go_enter Tryz.func7,Tryz.ntmps7
   go_wp2_with fail
   refine HN.out.mono ?_
   rintro e w1 ⟨v1,rfl,h1,hq1⟩
   obtain ⟨B1,q1,B2,q2,B3,q3,rfl,hT1⟩:=h1.trueQ.parts
   clear hb hB h1 HN
   rcases newN_cases abc14 cols with hn|hn
   ·rw [newA_ok hn,newT_tT] at hT1 ⊢
    have HAT1:=Lib.hid ((TblAt.new 28 hT1).mono (Q':=RowOff (boxV w1.heap.size)) fun u hu=>hu.2)
    have HB2:=Lib.hid (hq1.trans ((Below.alloc (.refl w1.heap.size w1) (Nat.le_refl _) (.cells #[.string (tT cols []).name,.slice B1 (tT cols []).cols.length q1,.slice B2 (cutL (tT cols []).R).length q2,.slice B3 (tT cols []).T.length q3] 28)).mono hq1.size))
    have HO:=Lib.hid hq1.size
    have d1:(newN abc14 cols != 0)=false:=by simp [hn]
    have d2:(newN abc14 cols==0)=true:=by simp [hn]
    have HG0:=Lib.hid (newT_tT cols▸newT_good (name:=abc14) h6)
    clear hn hT1 hq1
    generalize newN abc14 cols=nn at *
    go_wp2
    generalize w1.alloc _=w2 at *
    generalize w1.heap.size=O at *
    go_loopw [7] (fun i wr=>∃ k T,k≤l.length∧i=.int .i64 (k:Nat)∧Hid (GoodT (tT cols T))∧Hid (TblAt (RowOff (boxV O)) wr O (tT cols T))∧Below w.heap.size w wr) (fun i _=>l.length-(intOf i).toNat)
    case atStart=>exact ⟨0,[],Nat.zero_le _,rfl,HG0.out,HAT1.out,HB2.out⟩
    case round =>
     obtain ⟨k,T,hk,rfl,HG,HA,hb⟩:=hrel
     have hB:=hb.size
     by_cases hlt:k < l.length
     ·obtain ⟨b,off,rv,rfl,hbl,hti,c1,c2⟩:=HAT.out k hlt
      have x1:=(hb.cell (p:=⟨b,off+k*2,none⟩) hbl).trans c1
      have x2:=(hb.cell (p:=⟨b,off+k*2+1,none⟩) hbl).trans c2
      have HTI:=Lib.hid hti
      have HBL:=Lib.hid (Nat.lt_of_lt_of_le hbl hb.size)
      have HX2:=Lib.hid x2
      have HSM:=Lib.hid (small14_calls 12 (hti.kept hb))
      have i0:(0:Int)≤(k:Int):=by omega
      have i1:(k:Int) < (l.length:Int):=by omega
      obtain ⟨tvr,Ar,pr,er,-⟩:=times_at hti
      subst er
      clear c1 c2 hti
      generalize l[k].2=rows at *
      generalize l[k].1=kind at *
      cases hs:smallL14 rows 12 with
      | false =>
       rw [hs] at HSM
       clear hs
       go_wp2_with (first|(go_at_call 12;refine HSM.out.step ?_)|(go_at_call 8;refine HAW.out.step (w0:=w) (B:=w.heap.size) hb hB ?_;clear hb hB;intro wa hb hB))
       go_ret
       exact ⟨rfl,hb⟩
      | true =>
       rw [hs] at HSM
       have h12:=(small14_yes hs).2
       clear hs
       by_cases hkd:kind=0
       ·have dk:(kind==0)=true:=by simp [hkd]
        obtain ⟨T',hT'⟩:=apply_tT cols T rows
        have HT':=Lib.hid hT'
        have HG':Hid (GoodT (tT cols T')):=hT'▸HG.out.apply rows
        obtain ⟨A1,p1,A2,p2,A3,p3,hx,hT,hn⟩:=HA.out
        have HX:=Lib.hid hx
        have HT:=Lib.hid hT
        have HNI:=Lib.hid hn
        have HL:=Lib.hid hx.cells.2.2.2.2
        have HRQ:Hid (TimesQ (RowOff (boxV O)) wr (.slice Ar rows.length pr) rows):=box_all HTI.out hb HO.out
        have HB:=Lib.hid hb
        clear hkd hT' hx hT hn hb hB
        obtain ⟨an,han⟩:∃ an,applyN (tT cols T) rows=an:=⟨_,rfl⟩
        have HAN:=Lib.hid han
        clear han
        generalize hrl:rows.length=rl at *
        have HRL:=Lib.hid hrl
        clear hrl
        go_wp2_with (go_at_call 12;refine HSM.out.step ?_)
        clear x1 x2
        refine wp_region_calm (offC wr) (fun k=>k==10) (fun k=>k==9) anyE true (by kernel_rfl) (by kernel_rfl) (by kernel_rfl) (by kernel_rfl) (by intro m hm;revert hm;simp;try omega) (offC_stable _) (offC_start _) ?_
        refine calm_fixA rfl rfl ?_
        apply Exists.intro
        refine ⟨fun a wz hc hk hf K hK=>?_,?_⟩
        ·have hb:Below wr.heap.size wr wz:=hc rfl
         have h5:=hk 5 (by kernel_rfl)
         clear hk hf hc
         obtain ⟨y0,y1,y2,y3,_⟩:=(HX.out.later hb).cells
         go_simp
         exact hK _ _ (Below.refl _ _) rfl
        refine calm_fixA rfl rfl ?_
        apply Exists.intro
        refine ⟨fun a wz hc hk hf K hK=>?_,?_⟩
        ·have h1:=hk 1 (by kernel_rfl)
         clear hk hf hc
         go_simp
         exact hK _ _ (Below.refl _ _) rfl
        refine calm_fixA rfl rfl ?_
        apply Exists.intro
        refine ⟨fun a wz hc hk hf K hK=>?_,?_⟩
        ·have h7:=hk 7 (by kernel_rfl)
         clear hk hf hc
         go_simp
         exact hK _ _ (Below.refl _ _) rfl
        refine calm_fixA rfl rfl ?_
        apply Exists.intro
        refine ⟨fun a wz hc hk hf K hK=>?_,?_⟩
        ·have h53:=held_isV hf 1 rfl (by kernel_rfl)
         have h54:=held_isV hf 0 rfl (by kernel_rfl)
         clear hk hf hc
         go_simp
         exact hK _ _ (Below.refl _ _) rfl
        refine calm_fixA rfl rfl ?_
        apply Exists.intro
        refine ⟨fun a wz hc hk hf K hK=>?_,?_⟩
        ·have h55:=held_isV hf 0 rfl (by kernel_rfl)
         clear hk hf hc
         go_simp
         exact hK _ _ (Below.refl _ _) rfl
        refine calm_fixA rfl rfl ?_
        apply Exists.intro
        refine ⟨fun a wz hc hk hf K hK=>?_,?_⟩
        ·have hb:Below wr.heap.size wr wz:=hc rfl
         have h56:=held_isV hf 0 rfl (by kernel_rfl)
         clear hk hf hc
         have x2:=(hb.cell (p:=⟨b,off+k*2+1,none⟩) HBL.out).trans HX2.out
         go_simp
         exact hK _ _ (Below.refl _ _) rfl
        refine calm_varB (TupS an) (AppR (RowOff (boxV O)) (tT cols T') an) rfl rfl AppR.kept (fun a wz hc hk hf K hK=>?_) ?_
        ·have hb:Below wr.heap.size wr wz:=hc rfl
         have h52:=held_isV hf 5 rfl (by kernel_rfl)
         have h57:=held_isV hf 0 rfl (by kernel_rfl)
         clear hk hf hc
         go_simp
         have hap:=table_apply_q (RowOff (boxV O)) (w:=wz) (t:=tT cols T) (l:=rows) ⟨_,_,_,rfl,HT.out.kept hb⟩ HG.out (fun u hu=>box_fresh hu (Nat.lt_of_lt_of_le HL.out hb.size)) (HRQ.out.kept hb) (by have:=HRL.out;omega)
         unfold TApplyQ at hap
         rw [HT'.out,HAN.out] at hap
         refine Calls.mono hap ?_
         rintro e w1 ⟨v1,rfl,h1,hq⟩
         exact hK _ _ hq ⟨⟨v1,rfl⟩,fun _=>⟨v1,rfl,h1⟩⟩
        refine calm_varB (TupS an) (AppR (RowOff (boxV O)) (tT cols T') an) rfl rfl AppR.kept (fun a wz hc hk hf K hK=>?_) ?_
        ·have hb:Below wr.heap.size wr wz:=hc rfl
         obtain ⟨v58,h58,S58⟩:=held_at hf 0 rfl (by kernel_rfl)
         clear hk hf hc
         go_simp
         exact hK _ _ (Below.refl _ _) S58
        refine calm_varA (fun v wx=>TblInQ (RowOff (boxV O)) wx v (tT cols T')) rfl rfl TblInQ.keptF (fun a wz hc hk hf K hK=>?_) ?_
        ·have hb:Below wr.heap.size wr wz:=hc rfl
         obtain ⟨v51,h51,S51⟩:=held_at hf 0 rfl (by kernel_rfl)
         clear hk hf hc
         obtain ⟨-,hr⟩:=S51
         obtain ⟨v1,rfl,h1⟩:=hr rfl
         go_simp
         exact hK _ _ (Below.refl _ _) (fun _=>h1)
        refine calm_fix rfl ?_
        apply Exists.intro
        refine ⟨fun ph a wz hl hc hk hf K hK=>?_,?_⟩
        ·obtain ⟨v51,h51,S51⟩:=held_at hf 1 rfl (by kernel_rfl)
         clear hk hf hc hl
         obtain ⟨⟨v1,rfl⟩,-⟩:=S51
         go_simp
         exact hK _ _ (Below.refl _ _) rfl
        refine calm_storeA (fun w0=>TblAt (RowOff (boxV O)) w0 O (tT cols T')∧Below w.heap.size w w0) rfl (fun m h=>by simpa using h) (fun a wz hb hk hf K hK=>?_) ?_
        ·have h5:=hk 5 (by kernel_rfl)
         obtain ⟨v59,h59,S59⟩:=held_at hf 1 rfl (by kernel_rfl)
         clear hk hf
         obtain ⟨A4,p4,A5,p5,A6,p6,rfl,hT⟩:=(S59 rfl).parts
         have hat0:TblAt (RowOff (boxV O)) wr O (tT cols T):=⟨_,_,_,_,_,_,HX.out,HT.out,HNI.out⟩
         have hst:=(hat0.kept hb).store (fun u hu=>hu) hT
         have hbe:=below_four (HB.out.trans (hb.mono HB.out.size)) HO.out (.string (tT cols T').name) (.slice A4 (tT cols T').cols.length p4) (.slice A5 (cutL (tT cols T').R).length p5) (.slice A6 (tT cols T').T.length p6)
         obtain ⟨y0,y1,y2,y3,_⟩:=(HX.out.later hb).cells
         obtain ⟨f0,f1,f2,f3⟩:=(HX.out.later hb).free
         have HST:=Lib.hid hst
         have HBE:=Lib.hid hbe
         clear hst hbe hat0 hT
         go_simp
         exact hK undef _ ⟨HST.out,HBE.out⟩
        refine calm_nil ?_
        refine ⟨keeps_one (m:=10) (fun k h=>by simpa using h) ⟨.inr (loose_isV _),.inr (loose_isV _),.inr (loose_isV _),.inr (loose_isV _),.inr (loose_isV _),.inr (loose_isV _),.inr (loose_both _ _),.inr (loose_both _ _),.inr (loose_ahead _),.inr (loose_isV _),.inl rfl,trivial⟩,?_⟩
        intro w3 hc
        simp only [lexL,calmEnd]
        rintro _ rfl _ rfl _ rfl _ rfl _ rfl _ rfl v58 S58 v51 S51 v59 S59 _ rfl _ hst10
        obtain ⟨wx,⟨hA,hb⟩,hq⟩:=hst10 rfl
        have HA2:=Lib.hid (hA.kept hq)
        have hb2:=hb.trans (hq.mono hb.size)
        clear hst10 hA hb hq hc S58 S51 S59
        simp only [Act.put,List.setIfInBounds_toArray,List.set_cons_zero,List.set_cons_succ]
        go_wp2
        go_roundw
        case rel=>exact ⟨k+1,T',by omega,by go_num,HG'.out,HA2.out,hb2⟩
        case measure=>simp [intOf];omega
       ·have dk:(kind==0)=false:=by simp [hkd]
        go_wp2_with (go_at_call 12;refine HSM.out.step ?_)
        go_roundw
        case rel=>exact ⟨k+1,T,by omega,by go_num,HG.out,HA.out,hb⟩
        case measure=>simp [intOf];omega
     ·obtain rfl:k=l.length:=by omega
      obtain ⟨A1,p1,A2,p2,A3,p3,hx,hT,-⟩:=HA.out
      have hTo:=hT.of
      have HX:=Lib.hid hx
      have HT:=Lib.hid hTo
      have HG2:=Lib.hid HG.out.pack
      have HPK:=Lib.hid (table_pack_calls (t:=tT cols T) ⟨_,_,_,rfl,hTo⟩ HG.out)
      unfold TPackEnd at HPK
      have HB:=Lib.hid hb
      obtain ⟨x0,x1,x2,x3,_⟩:=hx.cells
      clear hx hT hTo hb hB
      go_wp2_with fail
      refine HPK.out.mono ?_
      clear x0 x1 x2 x3
      rintro e w4 ⟨v4,rfl,h4,hq4⟩
      obtain ⟨C1,c1,C2,c2,C3,c3,rfl,hT4⟩:=h4.trueQ.parts
      have hx5:=tbox_lit w4 28 (packT (tT cols T)).name (.slice C1 (packT (tT cols T)).cols.length c1) (.slice C2 (cutL (packT (tT cols T)).R).length c2) (.slice C3 (packT (tT cols T)).T.length c3)
      have hq5:=Below.alloc (.refl w4.heap.size w4) (Nat.le_refl _) (.cells #[.string (packT (tT cols T)).name,.slice C1 (packT (tT cols T)).cols.length c1,.slice C2 (cutL (packT (tT cols T)).R).length c2,.slice C3 (packT (tT cols T)).T.length c3] 28)
      have hT5:=hT4.of.kept hq5
      have hq45:=hq4.trans (hq5.mono hq4.size)
      have HRW1:=Lib.hid (table_rows_calls (w:=w4.alloc (.cells #[.string (packT (tT cols T)).name,.slice C1 (packT (tT cols T)).cols.length c1,.slice C2 (cutL (packT (tT cols T)).R).length c2,.slice C3 (packT (tT cols T)).T.length c3] 28)) (t:=tT cols T) ⟨_,_,_,rfl,HT.out.kept hq45⟩ HG.out)
      unfold TRowsEnd at HRW1
      obtain ⟨x0,x1,x2,x3,_⟩:=(HX.out.later hq45).cells
      have HB5:=Lib.hid (HB.out.trans (hq45.mono HB.out.size))
      clear h4 hT4 hq4 hq5 hq45 HPK
      go_wp2_with fail
      generalize w4.alloc _=w5 at *
      generalize w4.heap.size=O2 at *
      refine HRW1.out.mono ?_
      clear x0 x1 x2 x3
      rintro e w6 ⟨v6,rfl,h6,hq6⟩
      have hx6:=hx5.later hq6
      have hT6:=hT5.kept hq6
      have HB6:=Lib.hid (HB5.out.trans (hq6.mono HB5.out.size))
      have HRW2:=Lib.hid (table_rows_calls (w:=w6) (t:=packT (tT cols T)) ⟨_,_,_,rfl,hT6⟩ HG2.out)
      unfold TRowsEnd at HRW2
      obtain ⟨x0,x1,x2,x3,_⟩:=hx6.cells
      clear hx5 hT5 hq6 HRW1
      go_wp2_with fail
      refine HRW2.out.mono ?_
      clear x0 x1 x2 x3
      rintro e w7 ⟨v7,rfl,h7,hq7⟩
      rw [pack_rows] at h7
      have HX7:=Lib.hid (hx6.later hq7)
      have HT7:=Lib.hid (hT6.kept hq7)
      have HR6:=Lib.hid (TimesIn.kept h6 hq7)
      have HR7:=Lib.hid h7
      have HB7:=Lib.hid (HB6.out.trans (hq7.mono HB6.out.size))
      have HC7:=Lib.hid (HC.out.kept HB7.out)
      obtain ⟨_,A6,p6,e6,-⟩:=times_at h6
      obtain ⟨_,A7,p7,e7,-⟩:=times_at h7
      subst e6 e7
      clear hx6 hT6 h6 h7 hq7 HRW2
      have HSR:=Lib.hid (short_fits HG.out.rfits HG.out.cols)
      go_wp2_with fail
      refine wp_region_calm (offC w7) (fun _=>false) (fun _=>false) anyE false (by kernel_rfl) (by kernel_rfl) (by kernel_rfl) (by kernel_rfl) (by intro m hm;revert hm;simp;try omega) (offC_stable _) (offC_start _) ?_
      refine calm_fixA rfl rfl ?_
      apply Exists.intro
      refine ⟨fun a wz hc hk hf K hK=>?_,?_⟩
      ·have hb:Below w7.heap.size w7 wz:=hc rfl
       clear hk hf hc
       go_simp
       refine Calls.mono (HAW.out wz) ?_
       rintro e w1 ⟨rfl,hq⟩
       exact hK _ _ hq rfl
      refine calm_fixA rfl rfl ?_
      apply Exists.intro
      refine ⟨fun a wz hc hk hf K hK=>?_,?_⟩
      ·have h76:=held_isV hf 0 rfl (by kernel_rfl)
       clear hk hf hc
       go_simp
       exact hK _ _ (Below.refl _ _) rfl
      refine calm_fixA rfl rfl ?_
      apply Exists.intro
      refine ⟨fun a wz hc hk hf K hK=>?_,?_⟩
      ·have h10:=hk 10 (by kernel_rfl)
       have h77:=held_isV hf 0 rfl (by kernel_rfl)
       clear hk hf hc
       go_simp
       exact hK _ _ (Below.refl _ _) rfl
      refine calm_fixA rfl rfl ?_
      apply Exists.intro
      refine ⟨fun a wz hc hk hf K hK=>?_,?_⟩
      ·have hb:Below w7.heap.size w7 wz:=hc rfl
       have h78:=held_isV hf 0 rfl (by kernel_rfl)
       have h77:=held_isV hf 1 rfl (by kernel_rfl)
       clear hk hf hc
       have hn0:(cutL (tT cols T).R).length=0:=rfl
       go_simp
       exact hK _ _ (Below.refl _ _) rfl
      refine calm_fixA rfl rfl ?_
      apply Exists.intro
      refine ⟨fun a wz hc hk hf K hK=>?_,?_⟩
      ·have h77:=held_isV hf 2 rfl (by kernel_rfl)
       have h79:=held_isV hf 0 rfl (by kernel_rfl)
       clear hk hf hc
       go_simp
       exact hK _ _ (Below.refl _ _) rfl
      refine calm_fixA rfl rfl ?_
      apply Exists.intro
      refine ⟨fun a wz hc hk hf K hK=>?_,?_⟩
      ·have h80:=held_isV hf 0 rfl (by kernel_rfl)
       clear hk hf hc
       go_simp
       exact hK _ _ (Below.refl _ _) rfl
      refine calm_fixA rfl rfl ?_
      apply Exists.intro
      refine ⟨fun a wz hc hk hf K hK=>?_,?_⟩
      ·have h12:=hk 12 (by kernel_rfl)
       have h81:=held_isV hf 0 rfl (by kernel_rfl)
       clear hk hf hc
       go_simp
       exact hK _ _ (Below.refl _ _) rfl
      refine calm_fixA rfl rfl ?_
      apply Exists.intro
      refine ⟨fun a wz hc hk hf K hK=>?_,?_⟩
      ·have h8:=hk 8 (by kernel_rfl)
       have h81:=held_isV hf 1 rfl (by kernel_rfl)
       clear hk hf hc
       go_simp
       exact hK _ _ (Below.refl _ _) rfl
      refine calm_fixA rfl rfl ?_
      apply Exists.intro
      refine ⟨fun a wz hc hk hf K hK=>?_,?_⟩
      ·have hb:Below w7.heap.size w7 wz:=hc rfl
       have h83:=held_isV hf 0 rfl (by kernel_rfl)
       have h81:=held_isV hf 2 rfl (by kernel_rfl)
       clear hk hf hc
       obtain ⟨y0,y1,y2,y3,_⟩:=(HX7.out.later hb).cells
       go_simp
       exact hK _ _ (Below.refl _ _) rfl
      refine calm_fixA rfl rfl ?_
      apply Exists.intro
      refine ⟨fun a wz hc hk hf K hK=>?_,?_⟩
      ·have h84:=held_isV hf 0 rfl (by kernel_rfl)
       have h81:=held_isV hf 3 rfl (by kernel_rfl)
       clear hk hf hc
       go_simp
       exact hK _ _ (Below.refl _ _) rfl
      refine calm_fixA rfl rfl ?_
      apply Exists.intro
      refine ⟨fun a wz hc hk hf K hK=>?_,?_⟩
      ·have h82:=held_isV hf 3 rfl (by kernel_rfl)
       have h85:=held_isV hf 0 rfl (by kernel_rfl)
       have h81:=held_isV hf 4 rfl (by kernel_rfl)
       clear hk hf hc
       go_simp
       exact hK _ _ (Below.refl _ _) rfl
      refine calm_fixA rfl rfl ?_
      apply Exists.intro
      refine ⟨fun a wz hc hk hf K hK=>?_,?_⟩
      ·have h81:=held_isV hf 5 rfl (by kernel_rfl)
       have h86:=held_isV hf 0 rfl (by kernel_rfl)
       clear hk hf hc
       go_simp
       exact hK _ _ (Below.refl _ _) rfl
      refine calm_fixA rfl rfl ?_
      apply Exists.intro
      refine ⟨fun a wz hc hk hf K hK=>?_,?_⟩
      ·have h87:=held_isV hf 0 rfl (by kernel_rfl)
       clear hk hf hc
       go_simp
       exact hK _ _ (Below.refl _ _) rfl
      refine calm_fixA rfl rfl ?_
      apply Exists.intro
      refine ⟨fun a wz hc hk hf K hK=>?_,?_⟩
      ·have h8:=hk 8 (by kernel_rfl)
       have h88:=held_isV hf 0 rfl (by kernel_rfl)
       clear hk hf hc
       go_simp
       exact hK _ _ (Below.refl _ _) rfl
      refine calm_fixA rfl rfl ?_
      apply Exists.intro
      refine ⟨fun a wz hc hk hf K hK=>?_,?_⟩
      ·have hb:Below w7.heap.size w7 wz:=hc rfl
       have h89:=held_isV hf 0 rfl (by kernel_rfl)
       have h88:=held_isV hf 1 rfl (by kernel_rfl)
       clear hk hf hc
       obtain ⟨y0,y1,y2,y3,_⟩:=(HX7.out.later hb).cells
       go_simp
       exact hK _ _ (Below.refl _ _) rfl
      refine calm_fixA rfl rfl ?_
      apply Exists.intro
      refine ⟨fun a wz hc hk hf K hK=>?_,?_⟩
      ·have h90:=held_isV hf 0 rfl (by kernel_rfl)
       have h88:=held_isV hf 2 rfl (by kernel_rfl)
       clear hk hf hc
       go_simp
       exact hK _ _ (Below.refl _ _) rfl
      refine calm_fixA rfl rfl ?_
      apply Exists.intro
      refine ⟨fun a wz hc hk hf K hK=>?_,?_⟩
      ·have hb:Below w7.heap.size w7 wz:=hc rfl
       have h91:=held_isV hf 0 rfl (by kernel_rfl)
       have h88:=held_isV hf 3 rfl (by kernel_rfl)
       clear hk hf hc
       have hn0:(packT (tT cols T)).T.length=0:=rfl
       go_simp
       exact hK _ _ (Below.refl _ _) rfl
      refine calm_fixA rfl rfl ?_
      apply Exists.intro
      refine ⟨fun a wz hc hk hf K hK=>?_,?_⟩
      ·have h88:=held_isV hf 4 rfl (by kernel_rfl)
       have h92:=held_isV hf 0 rfl (by kernel_rfl)
       clear hk hf hc
       go_simp
       exact hK _ _ (Below.refl _ _) rfl
      refine calm_fixA rfl rfl ?_
      apply Exists.intro
      refine ⟨fun a wz hc hk hf K hK=>?_,?_⟩
      ·have h93:=held_isV hf 0 rfl (by kernel_rfl)
       clear hk hf hc
       go_simp
       exact hK _ _ (Below.refl _ _) rfl
      refine calm_fixA rfl rfl ?_
      apply Exists.intro
      refine ⟨fun a wz hc hk hf K hK=>?_,?_⟩
      ·have h9:=hk 9 (by kernel_rfl)
       have h94:=held_isV hf 0 rfl (by kernel_rfl)
       clear hk hf hc
       go_simp
       exact hK _ _ (Below.refl _ _) rfl
      refine calm_fixA rfl rfl ?_
      apply Exists.intro
      refine ⟨fun a wz hc hk hf K hK=>?_,?_⟩
      ·have h11:=hk 11 (by kernel_rfl)
       have h94:=held_isV hf 1 rfl (by kernel_rfl)
       clear hk hf hc
       go_simp
       exact hK _ _ (Below.refl _ _) rfl
      refine calm_fixA rfl rfl ?_
      apply Exists.intro
      refine ⟨fun a wz hc hk hf K hK=>?_,?_⟩
      ·have hb:Below w7.heap.size w7 wz:=hc rfl
       have h95:=held_isV hf 1 rfl (by kernel_rfl)
       have h96:=held_isV hf 0 rfl (by kernel_rfl)
       have h94:=held_isV hf 2 rfl (by kernel_rfl)
       clear hk hf hc
       have hsm:=same_times (HR6.out.kept hb) (HR7.out.kept hb) (by have:=HG.out.rfew;omega) HSR.out HSR.out
       rw [decide_eq_true rfl] at hsm
       go_simp
       refine Calls.mono (hsm) ?_
       rintro e w1 ⟨rfl,hq⟩
       exact hK _ _ hq rfl
      refine calm_fixA rfl rfl ?_
      apply Exists.intro
      refine ⟨fun a wz hc hk hf K hK=>?_,?_⟩
      ·have h94:=held_isV hf 3 rfl (by kernel_rfl)
       have h97:=held_isV hf 0 rfl (by kernel_rfl)
       clear hk hf hc
       go_simp
       exact hK _ _ (Below.refl _ _) rfl
      refine calm_fixA rfl rfl ?_
      apply Exists.intro
      refine ⟨fun a wz hc hk hf K hK=>?_,?_⟩
      ·have h98:=held_isV hf 0 rfl (by kernel_rfl)
       clear hk hf hc
       go_simp
       exact hK _ _ (Below.refl _ _) rfl
      refine calm_fixA rfl rfl ?_
      apply Exists.intro
      refine ⟨fun a wz hc hk hf K hK=>?_,?_⟩
      ·have hb:Below w7.heap.size w7 wz:=hc rfl
       have h8:=hk 8 (by kernel_rfl)
       have h99:=held_isV hf 0 rfl (by kernel_rfl)
       clear hk hf hc
       obtain ⟨y0,y1,y2,y3,_⟩:=(HX7.out.later hb).cells
       go_simp
       exact hK _ _ (Below.refl _ _) rfl
      refine calm_varA (TblP (packT (packT (tT cols T)))) rfl rfl TblP.kept (fun a wz hc hk hf K hK=>?_) ?_
      ·have hb:Below w7.heap.size w7 wz:=hc rfl
       have h100:=held_isV hf 0 rfl (by kernel_rfl)
       have h99:=held_isV hf 1 rfl (by kernel_rfl)
       clear hk hf hc
       go_simp
       refine Calls.mono (table_pack_calls (t:=packT (tT cols T)) ⟨_,_,_,rfl,HT7.out.kept hb⟩ HG2.out) ?_
       rintro e w1 ⟨v1,rfl,h1,hq⟩
       exact hK _ _ hq (fun _=>h1)
      refine calm_fixA rfl rfl ?_
      apply Exists.intro
      refine ⟨fun a wz hc hk hf K hK=>?_,?_⟩
      ·have hb:Below w7.heap.size w7 wz:=hc rfl
       have h8:=hk 8 (by kernel_rfl)
       have h99:=held_isV hf 2 rfl (by kernel_rfl)
       clear hk hf hc
       obtain ⟨y0,y1,y2,y3,_⟩:=(HX7.out.later hb).cells
       go_simp
       exact hK _ _ (Below.refl _ _) rfl
      refine calm_fixA rfl rfl ?_
      apply Exists.intro
      refine ⟨fun a wz hc hk hf K hK=>?_,?_⟩
      ·have hb:Below w7.heap.size w7 wz:=hc rfl
       obtain ⟨v101,h101,S101⟩:=held_at hf 1 rfl (by kernel_rfl)
       have h102:=held_isV hf 0 rfl (by kernel_rfl)
       have h99:=held_isV hf 3 rfl (by kernel_rfl)
       clear hk hf hc
       have hp:=S101 rfl
       rw [pack_pack] at hp
       have hsm:=same14_calls (t:=packT (tT cols T)) hp ⟨_,_,_,rfl,HT7.out.kept hb⟩ HG2.out
       go_simp
       refine Calls.mono (hsm) ?_
       rintro e w1 ⟨rfl,hq⟩
       exact hK _ _ hq rfl
      refine calm_fixA rfl rfl ?_
      apply Exists.intro
      refine ⟨fun a wz hc hk hf K hK=>?_,?_⟩
      ·have h99:=held_isV hf 4 rfl (by kernel_rfl)
       have h103:=held_isV hf 0 rfl (by kernel_rfl)
       clear hk hf hc
       go_simp
       exact hK _ _ (Below.refl _ _) rfl
      refine calm_fixA rfl rfl ?_
      apply Exists.intro
      refine ⟨fun a wz hc hk hf K hK=>?_,?_⟩
      ·have h104:=held_isV hf 0 rfl (by kernel_rfl)
       clear hk hf hc
       go_simp
       exact hK _ _ (Below.refl _ _) rfl
      refine calm_fixA rfl rfl ?_
      apply Exists.intro
      refine ⟨fun a wz hc hk hf K hK=>?_,?_⟩
      ·have h8:=hk 8 (by kernel_rfl)
       have h105:=held_isV hf 0 rfl (by kernel_rfl)
       clear hk hf hc
       go_simp
       exact hK _ _ (Below.refl _ _) rfl
      refine calm_fixA rfl rfl ?_
      apply Exists.intro
      refine ⟨fun a wz hc hk hf K hK=>?_,?_⟩
      ·have hb:Below w7.heap.size w7 wz:=hc rfl
       have h106:=held_isV hf 0 rfl (by kernel_rfl)
       have h105:=held_isV hf 1 rfl (by kernel_rfl)
       clear hk hf hc
       obtain ⟨y0,y1,y2,y3,_⟩:=(HX7.out.later hb).cells
       go_simp
       exact hK _ _ (Below.refl _ _) rfl
      refine calm_fixA rfl rfl ?_
      apply Exists.intro
      refine ⟨fun a wz hc hk hf K hK=>?_,?_⟩
      ·have h9:=hk 9 (by kernel_rfl)
       have h105:=held_isV hf 2 rfl (by kernel_rfl)
       clear hk hf hc
       go_simp
       exact hK _ _ (Below.refl _ _) rfl
      refine calm_fixA rfl rfl ?_
      apply Exists.intro
      refine ⟨fun a wz hc hk hf K hK=>?_,?_⟩
      ·have h0:=hk 0 (by kernel_rfl)
       have h105:=held_isV hf 3 rfl (by kernel_rfl)
       clear hk hf hc
       go_simp
       exact hK _ _ (Below.refl _ _) rfl
      refine calm_fixA rfl rfl ?_
      apply Exists.intro
      refine ⟨fun a wz hc hk hf K hK=>?_,?_⟩
      ·have h109:=held_isV hf 0 rfl (by kernel_rfl)
       have h105:=held_isV hf 4 rfl (by kernel_rfl)
       clear hk hf hc
       go_simp
       exact hK _ _ (Below.refl _ _) rfl
      refine calm_varA (BlksP (blksL (cutL (tT cols T).rows) cols.length)) rfl rfl BlksP.kept (fun a wz hc hk hf K hK=>?_) ?_
      ·have hb:Below w7.heap.size w7 wz:=hc rfl
       have h108:=held_isV hf 2 rfl (by kernel_rfl)
       have h110:=held_isV hf 0 rfl (by kernel_rfl)
       have h105:=held_isV hf 5 rfl (by kernel_rfl)
       clear hk hf hc
       go_simp
       refine Calls.mono (ref_blocks_calls (HR6.out.kept hb) cols.length (sizes_fits (cols:=cols) HG.out.rfits) (by omega) (by have:=HG.out.rfew;omega) (wt_range (by have:=there_wt HG.out.rthere HG.out.rfew;omega))) ?_
       rintro e w1 ⟨v1,rfl,h1,hq⟩
       exact hK _ _ hq (fun _=>h1)
      refine calm_fixA rfl rfl ?_
      apply Exists.intro
      refine ⟨fun a wz hc hk hf K hK=>?_,?_⟩
      ·have hb:Below w7.heap.size w7 wz:=hc rfl
       have h107:=held_isV hf 4 rfl (by kernel_rfl)
       obtain ⟨v111,h111,S111⟩:=held_at hf 0 rfl (by kernel_rfl)
       have h105:=held_isV hf 6 rfl (by kernel_rfl)
       clear hk hf hc
       have hsm:=same_blks (HT7.out.blks.kept hb) (show BlksIn wz v111 (blksL (cutL (packT (tT cols T)).R) (packT (tT cols T)).cols.length) from S111 rfl) (by rw [blksL_length];have:=HG2.out.few_cut;omega) (blksL_few (by have:=HG2.out.cols;omega)) (blksL_few (by have:=HG2.out.cols;omega))
       rw [decide_eq_true rfl] at hsm
       go_simp
       refine Calls.mono (hsm) ?_
       rintro e w1 ⟨rfl,hq⟩
       exact hK _ _ hq rfl
      refine calm_fixA rfl rfl ?_
      apply Exists.intro
      refine ⟨fun a wz hc hk hf K hK=>?_,?_⟩
      ·have h105:=held_isV hf 7 rfl (by kernel_rfl)
       have h112:=held_isV hf 0 rfl (by kernel_rfl)
       clear hk hf hc
       go_simp
       exact hK _ _ (Below.refl _ _) rfl
      refine calm_fixA rfl rfl ?_
      apply Exists.intro
      refine ⟨fun a wz hc hk hf K hK=>?_,?_⟩
      ·have h113:=held_isV hf 0 rfl (by kernel_rfl)
       clear hk hf hc
       go_simp
       exact hK _ _ (Below.refl _ _) rfl
      refine calm_fixA rfl rfl ?_
      apply Exists.intro
      refine ⟨fun a wz hc hk hf K hK=>?_,?_⟩
      ·have h8:=hk 8 (by kernel_rfl)
       have h114:=held_isV hf 0 rfl (by kernel_rfl)
       clear hk hf hc
       go_simp
       exact hK _ _ (Below.refl _ _) rfl
      refine calm_fixA rfl rfl ?_
      apply Exists.intro
      refine ⟨fun a wz hc hk hf K hK=>?_,?_⟩
      ·have hb:Below w7.heap.size w7 wz:=hc rfl
       have h115:=held_isV hf 0 rfl (by kernel_rfl)
       have h114:=held_isV hf 1 rfl (by kernel_rfl)
       clear hk hf hc
       obtain ⟨y0,y1,y2,y3,_⟩:=(HX7.out.later hb).cells
       go_simp
       exact hK _ _ (Below.refl _ _) rfl
      refine calm_fixA rfl rfl ?_
      apply Exists.intro
      refine ⟨fun a wz hc hk hf K hK=>?_,?_⟩
      ·have hb:Below w7.heap.size w7 wz:=hc rfl
       have h116:=held_isV hf 0 rfl (by kernel_rfl)
       have h114:=held_isV hf 2 rfl (by kernel_rfl)
       clear hk hf hc
       have hnm:(packT (tT cols T)).name.toList=[97,98,99]:=abc14_list
       go_simp
       exact hK _ _ (Below.refl _ _) rfl
      refine calm_fixA rfl rfl ?_
      apply Exists.intro
      refine ⟨fun a wz hc hk hf K hK=>?_,?_⟩
      ·have h114:=held_isV hf 3 rfl (by kernel_rfl)
       have h117:=held_isV hf 0 rfl (by kernel_rfl)
       clear hk hf hc
       go_simp
       exact hK _ _ (Below.refl _ _) rfl
      refine calm_fixA rfl rfl ?_
      apply Exists.intro
      refine ⟨fun a wz hc hk hf K hK=>?_,?_⟩
      ·have h118:=held_isV hf 0 rfl (by kernel_rfl)
       clear hk hf hc
       go_simp
       exact hK _ _ (Below.refl _ _) rfl
      refine calm_fixA rfl rfl ?_
      apply Exists.intro
      refine ⟨fun a wz hc hk hf K hK=>?_,?_⟩
      ·have h8:=hk 8 (by kernel_rfl)
       have h119:=held_isV hf 0 rfl (by kernel_rfl)
       clear hk hf hc
       go_simp
       exact hK _ _ (Below.refl _ _) rfl
      refine calm_fixA rfl rfl ?_
      apply Exists.intro
      refine ⟨fun a wz hc hk hf K hK=>?_,?_⟩
      ·have hb:Below w7.heap.size w7 wz:=hc rfl
       have h120:=held_isV hf 0 rfl (by kernel_rfl)
       have h119:=held_isV hf 1 rfl (by kernel_rfl)
       clear hk hf hc
       obtain ⟨y0,y1,y2,y3,_⟩:=(HX7.out.later hb).cells
       go_simp
       exact hK _ _ (Below.refl _ _) rfl
      refine calm_fixA rfl rfl ?_
      apply Exists.intro
      refine ⟨fun a wz hc hk hf K hK=>?_,?_⟩
      ·have h0:=hk 0 (by kernel_rfl)
       have h119:=held_isV hf 2 rfl (by kernel_rfl)
       clear hk hf hc
       go_simp
       exact hK _ _ (Below.refl _ _) rfl
      refine calm_fixA rfl rfl ?_
      apply Exists.intro
      refine ⟨fun a wz hc hk hf K hK=>?_,?_⟩
      ·have hb:Below w7.heap.size w7 wz:=hc rfl
       have h121:=held_isV hf 1 rfl (by kernel_rfl)
       have h122:=held_isV hf 0 rfl (by kernel_rfl)
       have h119:=held_isV hf 3 rfl (by kernel_rfl)
       clear hk hf hc
       have hsm:=same_cols (show ColsIn wz (.slice C1 (packT (tT cols T)).cols.length c1) cols from HT7.out.cols.kept hb) (HC7.out.kept hb) (by omega) (by omega)
       rw [decide_eq_true rfl] at hsm
       go_simp
       refine Calls.mono (hsm) ?_
       rintro e w1 ⟨rfl,hq⟩
       exact hK _ _ hq rfl
      refine calm_fixA rfl rfl ?_
      apply Exists.intro
      refine ⟨fun a wz hc hk hf K hK=>?_,?_⟩
      ·have h119:=held_isV hf 4 rfl (by kernel_rfl)
       have h123:=held_isV hf 0 rfl (by kernel_rfl)
       clear hk hf hc
       go_simp
       exact hK _ _ (Below.refl _ _) rfl
      refine calm_fixA rfl rfl ?_
      apply Exists.intro
      refine ⟨fun a wz hc hk hf K hK=>?_,?_⟩
      ·have h124:=held_isV hf 0 rfl (by kernel_rfl)
       clear hk hf hc
       go_simp
       exact hK _ _ (Below.refl _ _) rfl
      refine calm_nil ?_
      refine ⟨keeps_none,?_⟩
      intro w8 hc
      simp only [lexL,calmEnd]
      rintro _ rfl _ rfl _ rfl _ rfl _ rfl _ rfl _ rfl _ rfl _ rfl _ rfl _ rfl _ rfl _ rfl _ rfl _ rfl _ rfl _ rfl _ rfl _ rfl _ rfl _ rfl _ rfl _ rfl _ rfl _ rfl v101 S101 _ rfl _ rfl _ rfl _ rfl _ rfl _ rfl _ rfl _ rfl _ rfl v111 S111 _ rfl _ rfl _ rfl _ rfl _ rfl _ rfl _ rfl _ rfl _ rfl _ rfl _ rfl _ rfl _ rfl _ rfl
      have hb8:=HB7.out.trans (Below.mono (hc rfl) HB7.out.size)
      clear hc S101 S111
      simp only [Act.put,List.setIfInBounds_toArray,List.set_cons_zero,List.set_cons_succ]
      go_wp2
      go_ret
      exact ⟨rfl,hb8⟩
   ·have d1:(newN abc14 cols != 0)=true:=by simp [hn]
    have d2:(newN abc14 cols==0)=false:=by simp [hn]
    have hb0:=hq1.alloc hq1.size (.cells #[.string (newA abc14 cols).name,.slice B1 (newA abc14 cols).cols.length q1,.slice B2 (cutL (newA abc14 cols).R).length q2,.slice B3 (newA abc14 cols).T.length q3] 28)
    have HB0:=Lib.hid hb0
    clear hn hT1 hq1 hb0
    generalize newN abc14 cols=nn at *
    go_wp2
    generalize w1.alloc _=w2 at *
    go_loop [7] (fun i=>i=.int .i64 (0:Nat)) (fun i=>0)
    case atStart=>rfl
    case round =>
     subst hrel
     have hb:=HB0.out
     have hB:=hb.size
     by_cases h0:0 < l.length
     ·have e1:decide ((0:Int) < (l.length:Int))=true:=decide_eq_true (by omega)
      have e2:decide (0 < l.length)=true:=decide_eq_true h0
      go_wp2_with (go_at_call 8;refine HAW.out.step (w0:=w) (B:=w.heap.size) hb hB ?_;clear hb hB;intro wa hb hB)
      go_ret
      exact ⟨rfl,hb⟩
     ·have e1:decide ((0:Int) < (l.length:Int))=false:=decide_eq_false (by omega)
      have e2:decide (0 < l.length)=false:=decide_eq_false h0
      go_wp2_with (go_at_call 8;refine HAW.out.step (w0:=w) (B:=w.heap.size) hb hB ?_;clear hb hB;intro wa hb hB)
      go_ret
      exact ⟨rfl,hb⟩
  ·have d10:decide ((10:Int) < (l.length:Int))=true:=decide_eq_true (by omega)
   go_enter Tryz.func7,Tryz.ntmps7
   go_wp2_with (go_at_call 8;refine HAW.out.step (w0:=w) (B:=w.heap.size) hb hB ?_;clear hb hB;intro wa hb hB)
   go_ret
   exact ⟨rfl,hb⟩
 ·have d6:decide ((6:Int) < (cols.length:Int))=true:=decide_eq_true (by omega)
  go_enter Tryz.func7,Tryz.ntmps7
  go_wp2_with (go_at_call 8;refine HAW.out.step (w0:=w) (B:=w.heap.size) hb hB ?_;clear hb hB;intro wa hb hB)
  go_ret
  exact ⟨rfl,hb⟩
end Go.Proofs.YtafmbnafibahkaaGreat
