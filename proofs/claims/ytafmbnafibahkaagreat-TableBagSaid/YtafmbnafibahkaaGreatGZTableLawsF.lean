/- The law TableBag of layer 14. -/
import Derived.Test.YtafmbnafibahkaaGreatGWeighRef
import Derived.Test.YtafmbnafibahkaaGreatGOpen
import Derived.Test.YtafmbnafibahkaaGreatGTableAwake
import Derived.Test.YtafmbnafibahkaaGreatGTableSame
import Derived.Test.YtafmbnafibahkaaGreatGZTableBagPure
namespace Go.Proofs.YtafmbnafibahkaaGreat
open Go Go.RowKit
set_option maxHeartbeats 16000000 in
set_option maxRecDepth 100000 in
theorem tableBag_calls {w:World}{vc vl:Value}{cols:List (Int×Bool)}{l:List (Int×List Tm)}(hc:ColsIn w vc cols)(hl:ActsIn w vl l):GivesAt Tryz.prog 4 #[vc,vl] w (.bool true):=by
 have hm:=hl.1
 unfold maxLen at hm
 have hmc:=hc.len
 unfold maxLen at hmc
 obtain ⟨hb,hB⟩:=start w
 have HC:=Lib.hid hc
 have HAW:=Lib.hid awake_calls
 obtain ⟨Ac,pc,rfl,_⟩:=cols_at hc
 obtain ⟨_,Al,pl,rfl,hat⟩:=hl
 have HAT:=Lib.hid hat
 clear hc hat
 unfold GivesAt
 by_cases h6:cols.length≤6
 ·have d6:decide ((6:Int) < (cols.length:Int))=false:=decide_eq_false (by omega)
  by_cases h12:l.length≤12
  ·have d12:decide ((12:Int) < (l.length:Int))=false:=decide_eq_false (by omega)
   have HN:=Lib.hid (table_new_calls (w:=w) (name:=abc14) HC.out (by omega) (by decide))
   unfold TNewEnd at HN
   go_enter Tryz.func4,Tryz.ntmps4
   go_wp2_with fail
   refine HN.out.mono ?_
   rintro e w1 ⟨v1,rfl,h1,hq1⟩
   obtain ⟨B1,q1,B2,q2,B3,q3,rfl,hT1⟩:=h1.trueQ.parts
   clear hb hB h1 HN
   rcases newN_cases abc14 cols with hn|hn
   ·rw [newA_ok hn,newT_tT] at hT1 ⊢
    have HAT1:=Lib.hid ((TblAt.new 28 hT1).mono (Q':=RowOff (boxV w1.heap.size)) fun u hu=>hu.2)
    have HB2:=Lib.hid (hq1.trans ((Below.alloc (.refl w1.heap.size w1) (Nat.le_refl _) (.cells #[.string (tT cols []).name,.slice B1 (tT cols []).cols.length q1,.slice B2 (cutL (tT cols []).R).length q2,.slice B3 (tT cols []).T.length q3] 28)).mono hq1.size))
    have HO:=Lib.hid hq1.size
    have d1:(newN abc14 cols != 0)=false:=by simp [hn]
    have HG0:=Lib.hid (newT_tT cols▸newT_good (name:=abc14) h6)
    clear hn hT1 hq1
    generalize newN abc14 cols=nn at *
    go_wp2
    generalize w1.alloc _=w2 at *
    generalize w1.heap.size=O at *
    go_loopw [6,7,8] (fun ev rv i wr=>∃ (k:Nat) (t:Tbl) (A:Option Addr) (p:Nat) (n:Int),k≤l.length∧i=.int .i64 k∧ev=.int .i64 n∧rv=.slice A t.rows.length p∧Hid (GoodT t)∧Hid (t.name=abc14)∧Hid (t.cols=cols)∧t.rows.length≤12*k∧Hid (TblAt (RowOff (boxV O)) wr O t)∧Hid (TimesQ (RowOff (boxV O)) wr (.slice A t.rows.length p) t.rows)∧Below w.heap.size w wr) (fun _ _ i _=>l.length-(intOf i).toNat)
    case atStart =>
     have hr0:(tT cols []).rows=[]:=rfl
     exact ⟨0,tT cols [],none,0,nn,Nat.zero_le _,rfl,rfl,by rw [hr0];rfl,HG0.out,Lib.hid rfl,Lib.hid rfl,by rw [hr0];exact Nat.zero_le _,HAT1.out,by rw [hr0];exact TimesQ.nil_ _ _ _ _,HB2.out⟩
    case round =>
     obtain ⟨k,t,A7,p7,en,hk,rfl,rfl,rfl,HG,HNM,HCL,hrl7,HA,HR7,hb⟩:=hrel
     have hB:=hb.size
     by_cases hlt:k < l.length
     ·obtain ⟨b,off,rv,rfl,hbl,hti,c1,c2⟩:=HAT.out k hlt
      have x1:=(hb.cell (p:=⟨b,off+k*2,none⟩) hbl).trans c1
      have x2:=(hb.cell (p:=⟨b,off+k*2+1,none⟩) hbl).trans c2
      have HBL:=Lib.hid (Nat.lt_of_lt_of_le hbl hb.size)
      have HX2:=Lib.hid x2
      have HX1:=Lib.hid x1
      have HTW:=Lib.hid hti
      have HCW:=Lib.hid c2
      have HBW:=Lib.hid hbl
      have HTI:=Lib.hid (hti.kept hb)
      have HRQ:Hid (TimesQ (RowOff (boxV O)) wr rv l[k].2):=box_all hti hb HO.out
      have HSM:=Lib.hid (small14_calls 12 (hti.kept hb))
      have i0:(0:Int)≤(k:Int):=by omega
      have i1:(k:Int) < (l.length:Int):=by omega
      obtain ⟨tvr,Ar,pr,er,-,hath⟩:=times_at (hti.kept hb)
      subst er
      have HATR:=Lib.hid hath
      clear c1 c2 hti hath
      generalize l[k].2=rows at *
      generalize l[k].1=kind at *
      cases hs:smallL14 rows 12 with
      | false =>
       rw [hs] at HSM
       clear hs
       go_wp2_with (first|(go_at_call 12;refine HSM.out.step ?_)|(go_at_call 8;refine HAW.out.step (w0:=w) (B:=w.heap.size) hb hB ?_;clear hb hB;intro wa hb hB))
       go_ret
       exact ⟨rfl,hb⟩
      | true =>
       rw [hs] at HSM
       have hr12:=(small14_yes hs).2
       clear hs
       have HB:=Lib.hid hb
       have HR12:=Lib.hid hr12
       have hmr:rows.length≤9223372036854775807:=by omega
       clear hb hB
       go_wp2_with (go_at_call 12;refine HSM.out.step ?_)
       clear x1 HSM
       obtain ⟨wq,hwq⟩:∃ wq,wq=wr:=⟨_,rfl⟩
       subst hwq
       go_loopw [9,10] (fun f i wx=>∃ j:Nat,j≤rows.length∧i=.int .i64 j∧f=.bool (fitsAll cols (rows.take j))∧Below wq.heap.size wq wx) (fun _ i _=>rows.length-(intOf i).toNat)
       case atStart=>exact ⟨0,Nat.zero_le _,rfl,rfl,.refl _ _⟩
       case round =>
        obtain ⟨j,hj,rfl,rfl,hbx⟩:=hrel
        have hBx:=hbx.size
        have x2:=(hbx.cell (p:=⟨b,off+k*2+1,none⟩) HBL.out).trans HX2.out
        by_cases hjt:j < rows.length
        ·obtain ⟨b2,off2,ea,hbl2,hcc⟩:=HATR.out j hjt
         subst ea
         obtain ⟨rv2,hrs,_,c1,c2⟩:=hcc j hjt
         have y1:=(hbx.cell (p:=⟨b2,off2+j*2,none⟩) hbl2).trans c1
         have y2:=(hbx.cell (p:=⟨b2,off2+j*2+1,none⟩) hbl2).trans c2
         have HROW:Hid (∀ W,Below wq.heap.size wq W→GivesAt Tryz.prog 23 #[.slice Ac cols.length pc,rv2] W (.int .i64 (rowN cols rows[j].1))):=fun W hW=>ref_row_calls (HC.out.kept (HB.out.trans (hW.mono HB.out.size))) (StrsIn.kept hrs hW)
         have HST:=Lib.hid (fitsAll_step (cols:=cols) hjt)
         have j0:(0:Int)≤(j:Int):=by omega
         have j1:(j:Int) < (rows.length:Int):=by omega
         obtain ⟨Ar2,pr2,er2,-⟩:=one_at hrs
         subst er2
         clear hcc c1 c2 hrs
         unfold fitB at HST
         generalize rows[j].1.length=rl2 at *
         generalize rows[j].2=n2 at *
         generalize rowN cols rows[j].1=rn at *
         cases hfa:fitsAll cols (rows.take j) with
         | false =>
          rw [hfa,Bool.false_and] at HST
          clear hfa
          go_wp2
          go_roundw
          case rel=>exact ⟨j+1,by omega,by go_num,by rw [HST.out],hbx.alloc hbx.size _⟩
          case measure=>simp [intOf];omega
         | true =>
          rw [hfa,Bool.true_and] at HST
          clear hfa
          have hB0:=hBx
          by_cases g0:rn=0
          ·have d0:(rn==0)=true:=by simp [g0]
           rw [d0,Bool.true_and] at HST
           by_cases g1:n2≤1048576
           ·have d2:decide (n2≤1048576)=true:=decide_eq_true g1
            rw [d2,Bool.true_and] at HST
            by_cases g2 : -1048576≤n2
            ·have d3:decide (-1048576≤n2)=true:=decide_eq_true g2
             rw [d3] at HST
             clear g0 g1 g2
             go_wp2_with (go_at_call 23;refine Calls.mono (HROW.out _ (hbx.alloc hbx.size _)) ?_;rintro e wy ⟨rfl,hqy⟩;have z2:wy.cell? ⟨wr.heap.size,1,none⟩=some (.int .i64 n2):=(hqy.cell (p:=⟨wr.heap.size,1,none⟩) (by simp)).trans (by rw [World.cell?_alloc_new];rfl);have hby:=(hbx.alloc hbx.size _).trans (hqy.mono (Nat.le_trans hbx.size (by simp)));clear hqy y1 y2 x2)
             go_roundw
             case rel=>exact ⟨j+1,by omega,by go_num,by rw [HST.out],hby⟩
             case measure=>simp [intOf];omega
            ·have d3:decide (-1048576≤n2)=false:=decide_eq_false g2
             rw [d3] at HST
             clear g0 g1 g2
             go_wp2_with (go_at_call 23;refine Calls.mono (HROW.out _ (hbx.alloc hbx.size _)) ?_;rintro e wy ⟨rfl,hqy⟩;have z2:wy.cell? ⟨wr.heap.size,1,none⟩=some (.int .i64 n2):=(hqy.cell (p:=⟨wr.heap.size,1,none⟩) (by simp)).trans (by rw [World.cell?_alloc_new];rfl);have hby:=(hbx.alloc hbx.size _).trans (hqy.mono (Nat.le_trans hbx.size (by simp)));clear hqy y1 y2 x2)
             go_roundw
             case rel=>exact ⟨j+1,by omega,by go_num,by rw [HST.out],hby⟩
             case measure=>simp [intOf];omega
           ·have d2:decide (n2≤1048576)=false:=decide_eq_false g1
            rw [d2,Bool.false_and] at HST
            clear g0 g1
            go_wp2_with (go_at_call 23;refine Calls.mono (HROW.out _ (hbx.alloc hbx.size _)) ?_;rintro e wy ⟨rfl,hqy⟩;have z2:wy.cell? ⟨wr.heap.size,1,none⟩=some (.int .i64 n2):=(hqy.cell (p:=⟨wr.heap.size,1,none⟩) (by simp)).trans (by rw [World.cell?_alloc_new];rfl);have hby:=(hbx.alloc hbx.size _).trans (hqy.mono (Nat.le_trans hbx.size (by simp)));clear hqy y1 y2 x2)
            go_roundw
            case rel=>exact ⟨j+1,by omega,by go_num,by rw [HST.out],hby⟩
            case measure=>simp [intOf];omega
          ·have d0:(rn==0)=false:=by simp [g0]
           rw [d0,Bool.false_and] at HST
           clear g0
           go_wp2_with (go_at_call 23;refine Calls.mono (HROW.out _ (hbx.alloc hbx.size _)) ?_;rintro e wy ⟨rfl,hqy⟩;have z2:wy.cell? ⟨wr.heap.size,1,none⟩=some (.int .i64 n2):=(hqy.cell (p:=⟨wr.heap.size,1,none⟩) (by simp)).trans (by rw [World.cell?_alloc_new];rfl);have hby:=(hbx.alloc hbx.size _).trans (hqy.mono (Nat.le_trans hbx.size (by simp)));clear hqy y1 y2 x2)
           go_roundw
           case rel=>exact ⟨j+1,by omega,by go_num,by rw [HST.out],hby⟩
           case measure=>simp [intOf];omega
        ·obtain rfl:j=rows.length:=by omega
         rw [List.take_length]
         have HBX:=Lib.hid hbx
         clear hbx hBx hj
         have HTI:=Lib.hid (HTI.out.kept HBX.out)
         have HRQ:=Lib.hid (HRQ.out.kept HBX.out)
         have HX1:=Lib.hid ((HBX.out.cell (p:=⟨b,off+k*2,none⟩) HBL.out).trans HX1.out)
         have HX2:=Lib.hid ((HBX.out.cell (p:=⟨b,off+k*2+1,none⟩) HBL.out).trans HX2.out)
         have HA:=Lib.hid (HA.out.kept HBX.out)
         have HR7:=Lib.hid (HR7.out.kept HBX.out)
         have HB:=Lib.hid (HB.out.trans (HBX.out.mono HB.out.size))
         have HBL:=Lib.hid (Nat.lt_of_lt_of_le HBL.out HBX.out.size)
         have HLO:=Lib.hid HA.out.lt
         clear HBX
         obtain ⟨A1,p1,A2,p2,A3,p3,hx,hT,hn⟩:=HA.out.parts
         have hal:=Below.alloc (.refl wr.heap.size wr) (Nat.le_refl _) (.cells #[.string (t).name,.slice A1 (t).cols.length p1,.slice A2 (cutL (t).R).length p2,.slice A3 (t).T.length p3] 28)
         have hlt2:wr.heap.size < (wr.alloc (.cells #[.string (t).name,.slice A1 (t).cols.length p1,.slice A2 (cutL (t).R).length p2,.slice A3 (t).T.length p3] 28)).heap.size:=by simp
         have HWA:Hid (TblAt (RowOff (boxV O)) (wr.alloc (.cells #[.string (t).name,.slice A1 (t).cols.length p1,.slice A2 (cutL (t).R).length p2,.slice A3 (t).T.length p3] 28)) wr.heap.size t):=⟨_,_,_,_,_,_,tbox_lit _ _ _ _ _ _,hT.kept hal,NoInt.box _ _ _ _ _ _ _ _ _ _ _ _⟩
         have HX:=Lib.hid (hx.later hal)
         have HT:=Lib.hid (hT.kept hal)
         have HNI:=Lib.hid (hn.later HLO.out hal)
         have HTI':=Lib.hid (HTI.out.kept hal)
         have HRQ':=Lib.hid (HRQ.out.kept hal)
         have HR7':=Lib.hid (HR7.out.kept hal)
         have HB':=Lib.hid (HB.out.trans (hal.mono HB.out.size))
         have z1:=(hal.cell (p:=⟨b,off+k*2,none⟩) HBL.out).trans HX1.out
         have HX2':=Lib.hid ((hal.cell (p:=⟨b,off+k*2+1,none⟩) HBL.out).trans HX2.out)
         have HBL':=Lib.hid (Nat.lt_of_lt_of_le HBL.out hal.size)
         have HNE:Hid (wr.heap.size≠O):=fun e=>by have:=HLO.out;omega
         have HLO':=Lib.hid (Nat.lt_of_lt_of_le HLO.out hal.size)
         have x1:=HX1.out
         obtain ⟨y0,y1,y2,y3,_⟩:=hx.cells
         clear hT hn hal HTI HRQ HA HR7 HB HX2 HBL HLO HX1 hx hlt2
         by_cases hkd:kind=0
         ·have dk:(kind==0)=true:=by simp [hkd]
          clear hkd
          go_wp2_with fail
          clear x1 x2 z1 y0 y1 y2 y3
          generalize wr.alloc _=wy at *
          generalize wr.heap.size=O2 at *
          have HTI:=HTI'
          have HRQ:=HRQ'
          have HR7:=HR7'
          have HB:=HB'
          have HX2:=HX2'
          have HBL:=HBL'
          have HLO:=HLO'
          clear HTI' HRQ' HR7' HB' HX2' HBL' HLO'
          obtain ⟨an,han⟩:∃ an,applyN t rows=an:=⟨_,rfl⟩
          have HAN:=Lib.hid han
          have HG':=Lib.hid (HG.out.apply rows)
          obtain ⟨t',ht'⟩:∃ t',applyT t rows=t':=⟨_,rfl⟩
          have HT':=Lib.hid ht'
          rw [ht'] at HG'
          clear han ht'
          refine wp_region_calm (offC wy) (fun k=>k==10) (fun k=>k==9||k==11) anyE true (by kernel_rfl) (by kernel_rfl) (by kernel_rfl) (by kernel_rfl) (by intro m hm;revert hm;simp;try omega) (offC_stable _) (offC_start _) ?_
          refine calm_fixA rfl rfl ?_
          apply Exists.intro
          refine ⟨fun a wz hc hk hf K hK=>?_,?_⟩
          ·have hb:Below wy.heap.size wy wz:=hc rfl
           have h5:=hk 5 (by kernel_rfl)
           clear hk hf hc
           obtain ⟨y0,y1,y2,y3,_⟩:=(HX.out.later hb).cells
           go_simp
           exact hK _ _ (Below.refl _ _) rfl
          refine calm_fixA rfl rfl ?_
          apply Exists.intro
          refine ⟨fun a wz hc hk hf K hK=>?_,?_⟩
          ·have h1:=hk 1 (by kernel_rfl)
           clear hk hf hc
           go_simp
           exact hK _ _ (Below.refl _ _) rfl
          refine calm_fixA rfl rfl ?_
          apply Exists.intro
          refine ⟨fun a wz hc hk hf K hK=>?_,?_⟩
          ·have h8:=hk 8 (by kernel_rfl)
           clear hk hf hc
           go_simp
           exact hK _ _ (Below.refl _ _) rfl
          refine calm_fixA rfl rfl ?_
          apply Exists.intro
          refine ⟨fun a wz hc hk hf K hK=>?_,?_⟩
          ·have h99:=held_isV hf 1 rfl (by kernel_rfl)
           have h100:=held_isV hf 0 rfl (by kernel_rfl)
           clear hk hf hc
           go_simp
           exact hK _ _ (Below.refl _ _) rfl
          refine calm_fixA rfl rfl ?_
          apply Exists.intro
          refine ⟨fun a wz hc hk hf K hK=>?_,?_⟩
          ·have h101:=held_isV hf 0 rfl (by kernel_rfl)
           clear hk hf hc
           go_simp
           exact hK _ _ (Below.refl _ _) rfl
          refine calm_fixA rfl rfl ?_
          apply Exists.intro
          refine ⟨fun a wz hc hk hf K hK=>?_,?_⟩
          ·have hb:Below wy.heap.size wy wz:=hc rfl
           have h102:=held_isV hf 0 rfl (by kernel_rfl)
           clear hk hf hc
           have x2:=(hb.cell (p:=⟨b,off+k*2+1,none⟩) HBL.out).trans HX2.out
           go_simp
           exact hK _ _ (Below.refl _ _) rfl
          refine calm_varB (TupS an) (AppR (RowOff (boxV O)) t' an) rfl rfl AppR.kept (fun a wz hc hk hf K hK=>?_) ?_
          ·have hb:Below wy.heap.size wy wz:=hc rfl
           have h98:=held_isV hf 5 rfl (by kernel_rfl)
           have h103:=held_isV hf 0 rfl (by kernel_rfl)
           clear hk hf hc
           go_simp
           have hap:=table_apply_q (RowOff (boxV O)) (w:=wz) (t:=t) (l:=rows) ⟨_,_,_,rfl,HT.out.kept hb⟩ HG.out (fun u hu=>box_fresh hu (Nat.lt_of_lt_of_le HLO.out hb.size)) (HRQ.out.kept hb) (by have:=HR12.out;omega)
           unfold TApplyQ at hap
           rw [HT'.out,HAN.out] at hap
           refine Calls.mono hap ?_
           rintro e w1 ⟨v1,rfl,h1,hq⟩
           exact hK _ _ hq ⟨⟨v1,rfl⟩,fun _=>⟨v1,rfl,h1⟩⟩
          refine calm_varB (TupS an) (AppR (RowOff (boxV O)) t' an) rfl rfl AppR.kept (fun a wz hc hk hf K hK=>?_) ?_
          ·have hb:Below wy.heap.size wy wz:=hc rfl
           obtain ⟨v104,h104,S104⟩:=held_at hf 0 rfl (by kernel_rfl)
           clear hk hf hc
           go_simp
           exact hK _ _ (Below.refl _ _) S104
          refine calm_varA (fun v wx=>TblInQ (RowOff (boxV O)) wx v t') rfl rfl TblInQ.keptF (fun a wz hc hk hf K hK=>?_) ?_
          ·have hb:Below wy.heap.size wy wz:=hc rfl
           obtain ⟨v97,h97,S97⟩:=held_at hf 0 rfl (by kernel_rfl)
           clear hk hf hc
           obtain ⟨-,hr⟩:=S97
           obtain ⟨v1,rfl,h1⟩:=hr rfl
           go_simp
           exact hK _ _ (Below.refl _ _) (fun _=>h1)
          refine calm_fix rfl ?_
          apply Exists.intro
          refine ⟨fun ph a wz hl hc hk hf K hK=>?_,?_⟩
          ·obtain ⟨v97,h97,S97⟩:=held_at hf 1 rfl (by kernel_rfl)
           clear hk hf hc hl
           obtain ⟨⟨v1,rfl⟩,-⟩:=S97
           go_simp
           exact hK _ _ (Below.refl _ _) rfl
          refine calm_storeA (fun w0=>TblAt (RowOff (boxV O)) w0 O t'∧TblAt (RowOff (boxV O)) w0 O2 t∧TimesQ (RowOff (boxV O)) w0 (.slice A7 t.rows.length p7) t.rows∧Below w.heap.size w w0) rfl (fun m h=>by simpa using h) (fun a wz hb hk hf K hK=>?_) ?_
          ·have h5:=hk 5 (by kernel_rfl)
           obtain ⟨v105,h105,S105⟩:=held_at hf 1 rfl (by kernel_rfl)
           clear hk hf
           obtain ⟨A4,p4,A5,p5,A6,p6,rfl,hT⟩:=(S105 rfl).parts
           have hat0:TblAt (RowOff (boxV O)) wy O t:=⟨_,_,_,_,_,_,HX.out,HT.out,HNI.out⟩
           have hst:=(hat0.kept hb).store (fun u hu=>hu) hT
           have hot:=(HWA.out.kept hb).other (a:=.string t'.name) (b:=.slice A4 t'.cols.length p4) (c:=.slice A5 (cutL t'.R).length p5) (d:=.slice A6 t'.T.length p6) (hat0.kept hb).noInt (fun u hu=>hu) HNE.out
           have hrr:=(HR7.out.kept hb).boxed (O:=O) (fun u hu=>hu) (hat0.kept hb).noInt (putT_grown wz O (.string t'.name) (.slice A4 t'.cols.length p4) (.slice A5 (cutL t'.R).length p5) (.slice A6 t'.T.length p6))
           have hbe:=below_four (HB.out.trans (hb.mono HB.out.size)) HO.out (.string t'.name) (.slice A4 t'.cols.length p4) (.slice A5 (cutL t'.R).length p5) (.slice A6 t'.T.length p6)
           obtain ⟨y0,y1,y2,y3,_⟩:=(HX.out.later hb).cells
           obtain ⟨f0,f1,f2,f3⟩:=(HX.out.later hb).free
           have HST:=Lib.hid hst
           have HOT:=Lib.hid hot
           have HRR:=Lib.hid hrr
           have HBE:=Lib.hid hbe
           clear hst hot hrr hbe hat0 hT
           go_simp
           exact hK undef _ ⟨HST.out,HOT.out,HRR.out,HBE.out⟩
          refine calm_fix rfl ?_
          apply Exists.intro
          refine ⟨fun ph a wz hl hc hk hf K hK=>?_,?_⟩
          ·have h106:=held_isV hf 1 rfl (by kernel_rfl)
           clear hk hf hc hl
           go_simp
           exact hK _ _ (Below.refl _ _) rfl
          refine calm_nil ?_
          refine ⟨keeps_one (m:=10) (fun k h=>by simpa using h) ⟨.inr (loose_isV _),.inr (loose_isV _),.inr (loose_isV _),.inr (loose_isV _),.inr (loose_isV _),.inr (loose_isV _),.inr (loose_both _ _),.inr (loose_both _ _),.inr (loose_ahead _),.inr (loose_isV _),.inl rfl,.inr (loose_isV _),trivial⟩,?_⟩
          intro w3 hc
          simp only [lexL,calmEnd]
          rintro _ rfl _ rfl _ rfl _ rfl _ rfl _ rfl v104 S104 v97 S97 v105 S105 _ rfl _ hst10 _ rfl
          obtain ⟨wx,⟨hA,hW,hR,hb⟩,hq⟩:=hst10 rfl
          have HA3:=Lib.hid (hA.kept hq)
          have HW3:=Lib.hid (hW.kept hq)
          have HR3:=Lib.hid (hR.kept hq)
          have HB3:=Lib.hid (hb.trans (hq.mono hb.size))
          clear hst10 hA hW hR hb hq hc S104 S97 S105
          simp only [Act.put,List.setIfInBounds_toArray,List.set_cons_zero,List.set_cons_succ]
          obtain ⟨fv,hfv⟩:∃ fv,fitsAll cols rows=fv:=⟨_,rfl⟩
          rw [hfv]
          have HFV:=Lib.hid hfv
          clear hfv HX HT HNI HWA HTI HRQ HR7 HB HX2 HBL HLO
          cases fv with
          | false =>
           have hne:an≠0:=by
            have:=apply_refused (t:=t) (l:=rows) (by rw [HCL.out];exact HFV.out)
            rwa [HAN.out] at this
           have e0:(an==0)=false:=by simp [hne]
           have e1:(an != 0)=true:=by simp [hne]
           have htt:t'=t:=HT'.out.symm.trans (applyT_no_ (by rw [HAN.out];exact hne))
           rw [htt] at HA3 HG'
           clear hne htt
           obtain ⟨A1,p1,A2,p2,A3,p3,hx,hT,-⟩:=HA3.out.parts
           obtain ⟨D1,g1,D2,g2,D3,g3,hy,hU,-⟩:=HW3.out.parts
           have HSA:=Lib.hid (same14_calls (w:=w3) (t:=t) ⟨_,_,_,rfl,hT.of⟩ ⟨_,_,_,rfl,hU.of⟩ HG.out)
           obtain ⟨x0,x1,x2,x3,_⟩:=hx.cells
           obtain ⟨y0,y1,y2,y3,_⟩:=hy.cells
           clear hx hT hy hU
           go_wp2_with fail
           refine HSA.out.stepB (w0:=w3) (B:=w3.heap.size) (.refl _ _) (Nat.le_refl _) ?_
           clear x0 x1 x2 x3 y0 y1 y2 y3
           intro wu hb5 _ _
           have HAt:=Lib.hid (HA3.out.kept hb5)
           have HRt:=Lib.hid (HR3.out.kept hb5)
           have HBt:=Lib.hid (HB3.out.trans (hb5.mono HB3.out.size))
           clear hb5
           have HGt:=HG
           have HNt:=HNM
           have HCt:=HCL
           obtain ⟨A1,p1,A2,p2,A3,p3,hx,hT,-⟩:=HAt.out.parts
           have HRW:=Lib.hid (table_rows_calls (t:=t) ⟨_,_,_,rfl,hT.of⟩ HGt.out)
           unfold TRowsEnd at HRW
           obtain ⟨x0,x1,x2,x3,_⟩:=hx.cells
           clear hx hT
           go_wp2_with fail
           refine HRW.out.mono ?_
           clear x0 x1 x2 x3
           rintro e w8 ⟨v8,rfl,h8,hq8⟩
           obtain ⟨_,A8,p8,ev8,-⟩:=times_at h8
           subst ev8
           have HSR:=Lib.hid (short_fits HGt.out.rfits HGt.out.cols)
           have HSS:=Lib.hid (same_times h8 (HRt.out.times.kept hq8) (by have:=HGt.out.rfew;omega) HSR.out HSR.out)
           rw [decide_eq_true rfl] at HSS
           have HA8:=Lib.hid (HAt.out.kept hq8)
           have HR8:=Lib.hid (HRt.out.kept hq8)
           have HB8:=Lib.hid (HBt.out.trans (hq8.mono HBt.out.size))
           clear h8 hq8
           go_wp2_with fail
           refine HSS.out.stepB (w0:=w8) (B:=w8.heap.size) (.refl _ _) (Nat.le_refl _) ?_
           intro w9 hb9 _ _
           have HA9:=Lib.hid (HA8.out.kept hb9)
           have HR9:=Lib.hid (HR8.out.kept hb9)
           have hb10:=HB8.out.trans (hb9.mono HB8.out.size)
           clear hb9
           go_wp2
           go_roundw
           case rel=>exact ⟨k+1,t,A7,p7,_,by omega,by go_num,rfl,rfl,HGt.out,HNt.out,HCt.out,by omega,HA9.out,HR9.out,hb10⟩
           case measure=>simp [intOf];omega
          | true =>
           have hc0:checkN t.cols rows=0:=by rw [HCL.out];exact fitsAll_yes HFV.out
           have HTI3:=box_all HTW.out HB3.out HO.out
           have x2:=(HB3.out.cell (p:=⟨b,off+k*2+1,none⟩) HBW.out).trans HCW.out
           have hsl:=sum_length t.rows rows
           have HSU:=Lib.hid (ref_weigh_sum_q (RowOff (boxV O)) HR3.out HTI3 (by have:=HR12.out;omega) (apply_wt HG.out hc0 (by have:=HR12.out;omega)).1)
           have HWT:=Lib.hid (apply_wanted hc0 (by have:=HR12.out;omega))
           obtain ⟨S,hS⟩:∃ S,sumW t.rows rows=S:=⟨_,rfl⟩
           have HS:=Lib.hid hS
           rw [hS] at HSU HWT hsl
           have HSL:Hid (S.length≤12*(k+1)):=Lib.hid (by have:=HR12.out;omega)
           have hsm:S.length≤200:=by have:=HR12.out;omega
           clear hS hsl hc0 HTI3
           go_wp2_with fail
           refine HSU.out.stepB (w0:=w3) (B:=w3.heap.size) (.refl _ _) (Nat.le_refl _) ?_
           clear x2
           intro v4 w4 hv4 hb4 _ _
           have HWH:=Lib.hid (ref_weigh_whole_calls hv4.times)
           have HV4:=Lib.hid hv4
           have HA3:=Lib.hid (HA3.out.kept hb4)
           have HW3:=Lib.hid (HW3.out.kept hb4)
           have HB3:=Lib.hid (HB3.out.trans (hb4.mono HB3.out.size))
           have HR3:=Lib.hid (HR3.out.kept hb4)
           clear hv4 hb4 HSU
           go_wp2_with fail
           refine HWH.out.stepB (w0:=w4) (B:=w4.heap.size) (.refl _ _) (Nat.le_refl _) ?_
           intro w5 hb5 _ _
           have HV5:=Lib.hid (HV4.out.kept hb5)
           have HA3:=Lib.hid (HA3.out.kept hb5)
           have HW3:=Lib.hid (HW3.out.kept hb5)
           have HB3:=Lib.hid (HB3.out.trans (hb5.mono HB3.out.size))
           have HR3:=Lib.hid (HR3.out.kept hb5)
           obtain ⟨A4,p4,ev4,hat4⟩:=timesq_at HV5.out
           subst ev4
           have HAT5:=Lib.hid hat4
           clear hat4 hb5 HWH HV4
           rw [←wantB_zero S]
           go_wp2
           go_loop [13,15] (fun wt i=>∃ j:Nat,j≤S.length∧i=.int .i64 j∧wt=.bool (wantB S j)) (fun _ i=>S.length-(intOf i).toNat)
           case atStart=>exact ⟨0,Nat.zero_le _,rfl,rfl⟩
           case round =>
            obtain ⟨j,hj,rfl,rfl⟩:=hrel
            by_cases hjt:j < S.length
            ·obtain ⟨b4,off4,ea,hbl4,hcc⟩:=HAT5.out j hjt
             subst ea
             obtain ⟨rv4,_,_,_,c4⟩:=hcc j hjt
             have HST:=Lib.hid (wantB_step hjt)
             have j0:(0:Int)≤(j:Int):=by omega
             have j1:(j:Int) < (S.length:Int):=by omega
             clear hcc hbl4
             generalize S[j].2=n4 at *
             cases hwb:wantB S j with
             | false =>
              rw [hwb,Bool.false_and] at HST
              clear hwb
              go_wp2
              go_round
              case rel=>exact ⟨j+1,by omega,by go_num,by rw [HST.out]⟩
              case measure=>simp [intOf];omega
             | true =>
              rw [hwb,Bool.true_and] at HST
              clear hwb
              by_cases g:n4≤1048576
              ·have d2:decide (n4≤1048576)=true:=decide_eq_true g
               rw [d2] at HST
               clear g
               go_wp2
               go_round
               case rel=>exact ⟨j+1,by omega,by go_num,by rw [HST.out]⟩
               case measure=>simp [intOf];omega
              ·have d2:decide (n4≤1048576)=false:=decide_eq_false g
               rw [d2] at HST
               clear g
               go_wp2
               go_round
               case rel=>exact ⟨j+1,by omega,by go_num,by rw [HST.out]⟩
               case measure=>simp [intOf];omega
            ·obtain rfl:j=S.length:=by omega
             have hw:wantB S S.length=(an==0):=by rw [←HWT.out,HAN.out]
             rw [hw]
             clear hw hj hjt
             by_cases hz:an=0
             ·have e0:(an==0)=true:=by simp [hz]
              have e1:(an != 0)=false:=by simp [hz]
              have hrows:t'.rows=S:=by rw [←HT'.out,applyT_rows (by rw [HAN.out];exact hz),HS.out]
              have HNt:Hid (t'.name=abc14):=Lib.hid (by rw [←HT'.out];unfold applyT;split <;> exact HNM.out)
              have HCt:Hid (t'.cols=cols):=Lib.hid (by rw [←HT'.out];unfold applyT;split <;> exact HCL.out)
              rw [e0]
              clear hz HS HWT HAT5
              subst hrows
              have HAt:=HA3
              have HRt:=HV5
              have HBt:=HB3
              have HGt:=HG'
              obtain ⟨A1,p1,A2,p2,A3,p3,hx,hT,-⟩:=HAt.out.parts
              have HRW:=Lib.hid (table_rows_calls (t:=t') ⟨_,_,_,rfl,hT.of⟩ HGt.out)
              unfold TRowsEnd at HRW
              obtain ⟨x0,x1,x2,x3,_⟩:=hx.cells
              clear hx hT
              go_wp2_with fail
              refine HRW.out.mono ?_
              clear x0 x1 x2 x3
              rintro e w8 ⟨v8,rfl,h8,hq8⟩
              obtain ⟨_,A8,p8,ev8,-⟩:=times_at h8
              subst ev8
              have HSR:=Lib.hid (short_fits HGt.out.rfits HGt.out.cols)
              have HSS:=Lib.hid (same_times h8 (HRt.out.times.kept hq8) (by have:=HGt.out.rfew;omega) HSR.out HSR.out)
              rw [decide_eq_true rfl] at HSS
              have HA8:=Lib.hid (HAt.out.kept hq8)
              have HR8:=Lib.hid (HRt.out.kept hq8)
              have HB8:=Lib.hid (HBt.out.trans (hq8.mono HBt.out.size))
              clear h8 hq8
              go_wp2_with fail
              refine HSS.out.stepB (w0:=w8) (B:=w8.heap.size) (.refl _ _) (Nat.le_refl _) ?_
              intro w9 hb9 _ _
              have HA9:=Lib.hid (HA8.out.kept hb9)
              have HR9:=Lib.hid (HR8.out.kept hb9)
              have hb10:=HB8.out.trans (hb9.mono HB8.out.size)
              clear hb9
              go_wp2
              go_roundw
              case rel=>exact ⟨k+1,t',A4,p4,_,by omega,by go_num,rfl,rfl,HGt.out,HNt.out,HCt.out,HSL.out,HA9.out,HR9.out,hb10⟩
              case measure=>simp [intOf];omega
             ·have e0:(an==0)=false:=by simp [hz]
              have e1:(an != 0)=true:=by simp [hz]
              have htt:t'=t:=HT'.out.symm.trans (applyT_no_ (by rw [HAN.out];exact hz))
              rw [htt] at HA3 HG'
              rw [e0]
              clear hz htt HS HWT HAT5
              obtain ⟨A1,p1,A2,p2,A3,p3,hx,hT,-⟩:=HA3.out.parts
              obtain ⟨D1,g1,D2,g2,D3,g3,hy,hU,-⟩:=HW3.out.parts
              have HSA:=Lib.hid (same14_calls (w:=w5) (t:=t) ⟨_,_,_,rfl,hT.of⟩ ⟨_,_,_,rfl,hU.of⟩ HG.out)
              obtain ⟨x0,x1,x2,x3,_⟩:=hx.cells
              obtain ⟨y0,y1,y2,y3,_⟩:=hy.cells
              clear hx hT hy hU
              go_wp2_with fail
              refine HSA.out.stepB (w0:=w5) (B:=w5.heap.size) (.refl _ _) (Nat.le_refl _) ?_
              clear x0 x1 x2 x3 y0 y1 y2 y3
              intro wu hb5 _ _
              have HAt:=Lib.hid (HA3.out.kept hb5)
              have HRt:=Lib.hid (HR3.out.kept hb5)
              have HBt:=Lib.hid (HB3.out.trans (hb5.mono HB3.out.size))
              clear hb5
              have HGt:=HG
              have HNt:=HNM
              have HCt:=HCL
              obtain ⟨A1,p1,A2,p2,A3,p3,hx,hT,-⟩:=HAt.out.parts
              have HRW:=Lib.hid (table_rows_calls (t:=t) ⟨_,_,_,rfl,hT.of⟩ HGt.out)
              unfold TRowsEnd at HRW
              obtain ⟨x0,x1,x2,x3,_⟩:=hx.cells
              clear hx hT
              go_wp2_with fail
              refine HRW.out.mono ?_
              clear x0 x1 x2 x3
              rintro e w8 ⟨v8,rfl,h8,hq8⟩
              obtain ⟨_,A8,p8,ev8,-⟩:=times_at h8
              subst ev8
              have HSR:=Lib.hid (short_fits HGt.out.rfits HGt.out.cols)
              have HSS:=Lib.hid (same_times h8 (HRt.out.times.kept hq8) (by have:=HGt.out.rfew;omega) HSR.out HSR.out)
              rw [decide_eq_true rfl] at HSS
              have HA8:=Lib.hid (HAt.out.kept hq8)
              have HR8:=Lib.hid (HRt.out.kept hq8)
              have HB8:=Lib.hid (HBt.out.trans (hq8.mono HBt.out.size))
              clear h8 hq8
              go_wp2_with fail
              refine HSS.out.stepB (w0:=w8) (B:=w8.heap.size) (.refl _ _) (Nat.le_refl _) ?_
              intro w9 hb9 _ _
              have HA9:=Lib.hid (HA8.out.kept hb9)
              have HR9:=Lib.hid (HR8.out.kept hb9)
              have hb10:=HB8.out.trans (hb9.mono HB8.out.size)
              clear hb9
              go_wp2
              go_roundw
              case rel=>exact ⟨k+1,t,A7,p7,_,by omega,by go_num,rfl,rfl,HGt.out,HNt.out,HCt.out,by omega,HA9.out,HR9.out,hb10⟩
              case measure=>simp [intOf];omega
         ·have dk:(kind==0)=false:=by simp [hkd]
          clear hkd
          obtain ⟨u0,u1,u2,u3,_⟩:=HX.out.cells
          have HPK:=Lib.hid (table_pack_q (RowOff (boxV O)) (w:=wr.alloc (.cells #[.string (t).name,.slice A1 (t).cols.length p1,.slice A2 (cutL (t).R).length p2,.slice A3 (t).T.length p3] 28)) (t:=t) ⟨_,_,_,rfl,HT.out.of⟩ HG.out (fun u hu=>box_fresh hu HLO'.out))
          unfold TPackQ at HPK
          go_wp2_with fail
          clear x1 x2 z1 y0 y1 y2 y3 u0 u1 u2 u3
          generalize wr.alloc _=wy at *
          generalize wr.heap.size=O2 at *
          refine HPK.out.mono ?_
          rintro e w4 ⟨v4,rfl,h4,hq4⟩
          obtain ⟨C1,c1,C2,c2,C3,c3,rfl,hT4⟩:=h4.parts
          have hat0:TblAt (RowOff (boxV O)) wy O t:=⟨_,_,_,_,_,_,HX.out,HT.out,HNI.out⟩
          have HST:=Lib.hid ((hat0.kept hq4).store (fun u hu=>hu) hT4)
          have HRt:=Lib.hid ((HR7'.out.kept hq4).boxed (O:=O) (fun u hu=>hu) (hat0.kept hq4).noInt (putT_grown w4 O (.string (packT t).name) (.slice C1 (packT t).cols.length c1) (.slice C2 (cutL (packT t).R).length c2) (.slice C3 (packT t).T.length c3)))
          have HBE:=Lib.hid (below_four (HB'.out.trans (hq4.mono HB'.out.size)) HO.out (.string (packT t).name) (.slice C1 (packT t).cols.length c1) (.slice C2 (cutL (packT t).R).length c2) (.slice C3 (packT t).T.length c3))
          obtain ⟨y0,y1,y2,y3,_⟩:=(HX.out.later hq4).cells
          obtain ⟨f0,f1,f2,f3⟩:=(HX.out.later hq4).free
          have HNt:Hid ((packT t).name=abc14):=HNM
          have HCt:Hid ((packT t).cols=cols):=HCL
          have HGt:=Lib.hid HG.out.pack
          unfold putT at HST HRt
          clear hat0 hT4 h4 hq4 HPK HX HT HNI HWA HTI' HRQ' HR7' HB' HX2' HBL' HLO' HNE
          go_wp2
          clear y0 y1 y2 y3 f0 f1 f2 f3
          generalize World.setCell (World.setCell (World.setCell (World.setCell w4 _ _) _ _) _ _) _ _=w5 at *
          obtain ⟨D1,d1',D2,d2',D3,d3',hx5,hT5,-⟩:=HST.out.parts
          have HX5:=Lib.hid hx5
          have HT5:=Lib.hid hT5
          clear hx5 hT5
          refine wp_region_calm (offC w5) (fun _=>false) (fun _=>false) anyE false (by kernel_rfl) (by kernel_rfl) (by kernel_rfl) (by kernel_rfl) (by intro m hm;revert hm;simp;try omega) (offC_stable _) (offC_start _) ?_
          refine calm_fixA rfl rfl ?_
          apply Exists.intro
          refine ⟨fun a wz hc hk hf K hK=>?_,?_⟩
          ·have h5:=hk 5 (by kernel_rfl)
           clear hk hf hc
           go_simp
           exact hK _ _ (Below.refl _ _) rfl
          refine calm_fixA rfl rfl ?_
          apply Exists.intro
          refine ⟨fun a wz hc hk hf K hK=>?_,?_⟩
          ·have hb:Below w5.heap.size w5 wz:=hc rfl
           have h151:=held_isV hf 0 rfl (by kernel_rfl)
           clear hk hf hc
           obtain ⟨y0,y1,y2,y3,_⟩:=(HX5.out.later hb).cells
           go_simp
           exact hK _ _ (Below.refl _ _) rfl
          refine calm_fixA rfl rfl ?_
          apply Exists.intro
          refine ⟨fun a wz hc hk hf K hK=>?_,?_⟩
          ·have hb:Below w5.heap.size w5 wz:=hc rfl
           have h152:=held_isV hf 0 rfl (by kernel_rfl)
           clear hk hf hc
           have hn0:(packT t).T.length=0:=rfl
           go_simp
           exact hK _ _ (Below.refl _ _) rfl
          refine calm_fixA rfl rfl ?_
          apply Exists.intro
          refine ⟨fun a wz hc hk hf K hK=>?_,?_⟩
          ·have h153:=held_isV hf 0 rfl (by kernel_rfl)
           clear hk hf hc
           go_simp
           exact hK _ _ (Below.refl _ _) rfl
          refine calm_fixA rfl rfl ?_
          apply Exists.intro
          refine ⟨fun a wz hc hk hf K hK=>?_,?_⟩
          ·have h154:=held_isV hf 0 rfl (by kernel_rfl)
           clear hk hf hc
           go_simp
           exact hK _ _ (Below.refl _ _) rfl
          refine calm_fixA rfl rfl ?_
          apply Exists.intro
          refine ⟨fun a wz hc hk hf K hK=>?_,?_⟩
          ·have h5:=hk 5 (by kernel_rfl)
           have h155:=held_isV hf 0 rfl (by kernel_rfl)
           clear hk hf hc
           go_simp
           exact hK _ _ (Below.refl _ _) rfl
          refine calm_fixA rfl rfl ?_
          apply Exists.intro
          refine ⟨fun a wz hc hk hf K hK=>?_,?_⟩
          ·have hb:Below w5.heap.size w5 wz:=hc rfl
           have h156:=held_isV hf 0 rfl (by kernel_rfl)
           have h155:=held_isV hf 1 rfl (by kernel_rfl)
           clear hk hf hc
           obtain ⟨y0,y1,y2,y3,_⟩:=(HX5.out.later hb).cells
           go_simp
           exact hK _ _ (Below.refl _ _) rfl
          refine calm_fixA rfl rfl ?_
          apply Exists.intro
          refine ⟨fun a wz hc hk hf K hK=>?_,?_⟩
          ·have h7:=hk 7 (by kernel_rfl)
           have h155:=held_isV hf 2 rfl (by kernel_rfl)
           clear hk hf hc
           go_simp
           exact hK _ _ (Below.refl _ _) rfl
          refine calm_fixA rfl rfl ?_
          apply Exists.intro
          refine ⟨fun a wz hc hk hf K hK=>?_,?_⟩
          ·have h0:=hk 0 (by kernel_rfl)
           have h155:=held_isV hf 3 rfl (by kernel_rfl)
           clear hk hf hc
           go_simp
           exact hK _ _ (Below.refl _ _) rfl
          refine calm_fixA rfl rfl ?_
          apply Exists.intro
          refine ⟨fun a wz hc hk hf K hK=>?_,?_⟩
          ·have h159:=held_isV hf 0 rfl (by kernel_rfl)
           have h155:=held_isV hf 4 rfl (by kernel_rfl)
           clear hk hf hc
           go_simp
           exact hK _ _ (Below.refl _ _) rfl
          refine calm_varA (BlksP (blksL (cutL (packT t).R) (packT t).cols.length)) rfl rfl BlksP.kept (fun a wz hc hk hf K hK=>?_) ?_
          ·have hb:Below w5.heap.size w5 wz:=hc rfl
           have h158:=held_isV hf 2 rfl (by kernel_rfl)
           have h160:=held_isV hf 0 rfl (by kernel_rfl)
           have h155:=held_isV hf 5 rfl (by kernel_rfl)
           clear hk hf hc
           go_simp
           have hbk:=ref_blocks_calls (HRt.out.times.kept hb) cols.length (sizes_fits (cols:=cols) (by have:=HG.out.rfits;rw [HCL.out] at this;exact this)) (by omega) (by have:=HG.out.rfew;omega) (wt_range (by have:=there_wt HG.out.rthere HG.out.rfew;omega))
           rw [show blksL (cutL t.rows) cols.length=blksL (cutL (packT t).R) (packT t).cols.length from by rw [←HCL.out];rfl] at hbk
           refine Calls.mono hbk ?_
           rintro e w1 ⟨v1,rfl,h1,hq⟩
           exact hK _ _ hq (fun _=>h1)
          refine calm_fixA rfl rfl ?_
          apply Exists.intro
          refine ⟨fun a wz hc hk hf K hK=>?_,?_⟩
          ·have hb:Below w5.heap.size w5 wz:=hc rfl
           have h157:=held_isV hf 4 rfl (by kernel_rfl)
           obtain ⟨v161,h161,S161⟩:=held_at hf 0 rfl (by kernel_rfl)
           have h155:=held_isV hf 6 rfl (by kernel_rfl)
           clear hk hf hc
           have hsm:=same_blks (HT5.out.of.blks.kept hb) (show BlksIn wz v161 (blksL (cutL (packT t).R) (packT t).cols.length) from S161 rfl) (by rw [blksL_length];have:=HG.out.pack.few_cut;omega) (blksL_few (by have:=HG.out.pack.cols;omega)) (blksL_few (by have:=HG.out.pack.cols;omega))
           rw [decide_eq_true rfl] at hsm
           go_simp
           refine Calls.mono (hsm) ?_
           rintro e w1 ⟨rfl,hq⟩
           exact hK _ _ hq rfl
          refine calm_fixA rfl rfl ?_
          apply Exists.intro
          refine ⟨fun a wz hc hk hf K hK=>?_,?_⟩
          ·have h162:=held_isV hf 0 rfl (by kernel_rfl)
           have h155:=held_isV hf 7 rfl (by kernel_rfl)
           clear hk hf hc
           go_simp
           exact hK _ _ (Below.refl _ _) rfl
          refine calm_fixA rfl rfl ?_
          apply Exists.intro
          refine ⟨fun a wz hc hk hf K hK=>?_,?_⟩
          ·have h155:=held_isV hf 8 rfl (by kernel_rfl)
           have h163:=held_isV hf 0 rfl (by kernel_rfl)
           clear hk hf hc
           go_simp
           exact hK _ _ (Below.refl _ _) rfl
          refine calm_nil ?_
          refine ⟨keeps_none,?_⟩
          intro w6 hc
          simp only [lexL,calmEnd]
          rintro _ rfl _ rfl _ rfl _ rfl _ rfl _ rfl _ rfl _ rfl _ rfl _ rfl v161 S161 _ rfl _ rfl _ rfl
          have hb56:Below w5.heap.size w5 w6:=hc rfl
          have HAt:=Lib.hid (HST.out.kept hb56)
          have HRt:=Lib.hid (HRt.out.kept hb56)
          have HBt:=Lib.hid (HBE.out.trans (hb56.mono HBE.out.size))
          clear hc S161 hb56 HX5 HT5
          simp only [Act.put,List.setIfInBounds_toArray,List.set_cons_zero,List.set_cons_succ]
          obtain ⟨A1,p1,A2,p2,A3,p3,hx,hT,-⟩:=HAt.out.parts
          have HRW:=Lib.hid (table_rows_calls (t:=(packT t)) ⟨_,_,_,rfl,hT.of⟩ HGt.out)
          unfold TRowsEnd at HRW
          obtain ⟨x0,x1,x2,x3,_⟩:=hx.cells
          clear hx hT
          go_wp2_with fail
          refine HRW.out.mono ?_
          clear x0 x1 x2 x3
          rintro e w8 ⟨v8,rfl,h8,hq8⟩
          rw [pack_rows] at h8
          obtain ⟨_,A8,p8,ev8,-⟩:=times_at h8
          subst ev8
          have HSR:=Lib.hid (short_fits HG.out.rfits HG.out.cols)
          have HSS:=Lib.hid (same_times h8 (HRt.out.times.kept hq8) (by have:=HG.out.rfew;omega) HSR.out HSR.out)
          rw [decide_eq_true rfl] at HSS
          have HA8:=Lib.hid (HAt.out.kept hq8)
          have HR8:=Lib.hid (HRt.out.kept hq8)
          have HB8:=Lib.hid (HBt.out.trans (hq8.mono HBt.out.size))
          clear h8 hq8
          go_wp2_with fail
          refine HSS.out.stepB (w0:=w8) (B:=w8.heap.size) (.refl _ _) (Nat.le_refl _) ?_
          intro w9 hb9 _ _
          have HA9:=Lib.hid (HA8.out.kept hb9)
          have HR9:=Lib.hid (HR8.out.kept hb9)
          have hb10:=HB8.out.trans (hb9.mono HB8.out.size)
          clear hb9
          go_wp2
          go_roundw
          case rel=>exact ⟨k+1,(packT t),A7,p7,_,by omega,by go_num,rfl,by rw [pack_rows],HGt.out,HNt.out,HCt.out,by rw [pack_rows];omega,HA9.out,by rw [pack_rows];exact HR9.out,hb10⟩
          case measure=>simp [intOf];omega
     ·obtain rfl:k=l.length:=by omega
      go_wp2_with (go_at_call 8;refine HAW.out.step (w0:=w) (B:=w.heap.size) hb hB ?_;clear hb hB;intro wa hb hB)
      go_ret
      exact ⟨rfl,hb⟩
   ·have d1:(newN abc14 cols != 0)=true:=by simp [hn]
    have hb:=hq1.alloc hq1.size (.cells #[.string (newA abc14 cols).name,.slice B1 (newA abc14 cols).cols.length q1,.slice B2 (cutL (newA abc14 cols).R).length q2,.slice B3 (newA abc14 cols).T.length q3] 28)
    have hB:=hb.size
    have HRT:Hid (∀ W,Below w.heap.size w W→GivesAt Tryz.prog 22 #[.slice Ac cols.length pc] W (.bool (rightC cols))):=fun W hW=>ref_shape_right_calls (HC.out.kept hW)
    have hrt:=right_none hn
    rw [hrt] at HRT
    clear hn hT1 hq1 hrt
    generalize newN abc14 cols=nn at *
    go_wp2_with (first|(go_at_call 8;refine HAW.out.step (w0:=w) (B:=w.heap.size) hb hB ?_;clear hb hB;intro wa hb hB)|(go_at_call 22;refine (HRT.out _ hb).stepB (w0:=w) (B:=w.heap.size) hb hB ?_;clear hb hB;intro wz hb hB _))
    go_ret
    exact ⟨rfl,hb⟩
  ·have d12:decide ((12:Int) < (l.length:Int))=true:=decide_eq_true (by omega)
   go_enter Tryz.func4,Tryz.ntmps4
   go_wp2_with (go_at_call 8;refine HAW.out.step (w0:=w) (B:=w.heap.size) hb hB ?_;clear hb hB;intro wa hb hB)
   go_ret
   exact ⟨rfl,hb⟩
 ·have d6:decide ((6:Int) < (cols.length:Int))=true:=decide_eq_true (by omega)
  go_enter Tryz.func4,Tryz.ntmps4
  go_wp2_with (go_at_call 8;refine HAW.out.step (w0:=w) (B:=w.heap.size) hb hB ?_;clear hb hB;intro wa hb hB)
  go_ret
  exact ⟨rfl,hb⟩
end Go.Proofs.YtafmbnafibahkaaGreat
