/- The law TablePlays of layer 14. -/
import Derived.Test.YtafmbnafibahkaaGreatGWeighRef
import Derived.Test.YtafmbnafibahkaaGreatGOpen
import Derived.Test.YtafmbnafibahkaaGreatGCalmM
import Derived.Test.YtafmbnafibahkaaGreatGTableAwake
import Derived.Test.YtafmbnafibahkaaGreatGTableSame
namespace Go.Proofs.YtafmbnafibahkaaGreat
open Go Go.RowKit
set_option maxHeartbeats 16000000 in
set_option maxRecDepth 100000 in
theorem tablePlays_calls {w:World}{vc vl:Value}{name:ByteArray}{cols:List (Int×Bool)}{l:List (Int×List Tm)}(hc:ColsIn w vc cols)(hl:ActsIn w vl l):GivesAt Tryz.prog 3 #[.string name,vc,vl] w (.bool true):=by
 have hm:=hl.1
 unfold maxLen at hm
 have hmc:=hc.len
 unfold maxLen at hmc
 obtain ⟨hb,hB⟩:=start w
 have HC:=Lib.hid hc
 have HAW:=Lib.hid awake_calls
 obtain ⟨Ac,pc,rfl,_⟩:=cols_at hc
 obtain ⟨_,Al,pl,rfl,hat⟩:=hl
 have HAT:=Lib.hid hat
 clear hc hat
 unfold GivesAt
 by_cases h1:name.size≤100
 ·have d1:decide ((100:Int) < (name.size:Int))=false:=decide_eq_false (by omega)
  by_cases h6:cols.length≤10
  ·have d6:decide ((10:Int) < (cols.length:Int))=false:=decide_eq_false (by omega)
   by_cases h10:l.length≤12
   ·have d10:decide ((12:Int) < (l.length:Int))=false:=decide_eq_false (by omega)
    have HN:=Lib.hid (table_new_calls (w:=w) (name:=name) HC.out (by omega) (by omega))
    unfold TNewEnd at HN
    have HG0:=Lib.hid (newA_good name cols)
    have HNO:=Lib.hid (newA_none name cols)
    have HNC:=Lib.hid (newN_cases name cols)
    go_enter Tryz.func3,Tryz.ntmps3
    go_wp2_with fail
    refine HN.out.mono ?_
    rintro e w1 ⟨v1,rfl,h1,hq1⟩
    have HN2:Hid (∀ W,Below w.heap.size w W→Calls Tryz.prog 10 #[.string name,.slice Ac cols.length pc] W (TNewEnd W name cols)):=fun W hW=>ref_table_new_calls (HC.out.kept hW) (by omega) (by omega)
    unfold TNewEnd at HN2
    generalize newN name cols=nn at *
    generalize newA name cols=t0 at *
    obtain ⟨B1,q1,B2,q2,B3,q3,rfl,hT1⟩:=h1.trueQ.parts
    have hx1:=tbox_lit w1 28 t0.name (.slice B1 t0.cols.length q1) (.slice B2 (cutL t0.R).length q2) (.slice B3 t0.T.length q3)
    have hn1:=NoInt.box w1 28 t0.name B1 B2 B3 t0.cols.length (cutL t0.R).length t0.T.length q1 q2 q3
    have hq2:=Below.alloc (.refl w1.heap.size w1) (Nat.le_refl _) (.cells #[.string (t0).name,.slice B1 (t0).cols.length q1,.slice B2 (cutL (t0).R).length q2,.slice B3 (t0).T.length q3] 28)
    have hT2:=hT1.of.kept hq2
    have hb2:=hq1.trans (hq2.mono hq1.size)
    have hlt1:w1.heap.size < (w1.alloc (.cells #[.string (t0).name,.slice B1 (t0).cols.length q1,.slice B2 (cutL (t0).R).length q2,.slice B3 (t0).T.length q3] 28)).heap.size:=by simp
    have HO1:=Lib.hid hq1.size
    clear h1 hq1 hq2 hT1 hb hB HN
    go_wp2_with fail
    generalize w1.alloc _=w2 at *
    generalize w1.heap.size=O1 at *
    refine (HN2.out w2 hb2).mono ?_
    rintro e w3 ⟨v3,rfl,h3,hq3⟩
    obtain ⟨C1,c1,C2,c2,C3,c3,rfl,hT3⟩:=h3.trueQ.parts
    have hx3:=tbox_lit w3 28 t0.name (.slice C1 t0.cols.length c1) (.slice C2 (cutL t0.R).length c2) (.slice C3 t0.T.length c3)
    have hn3:=NoInt.box w3 28 t0.name C1 C2 C3 t0.cols.length (cutL t0.R).length t0.T.length c1 c2 c3
    have hq4:=Below.alloc (.refl w3.heap.size w3) (Nat.le_refl _) (.cells #[.string (t0).name,.slice C1 (t0).cols.length c1,.slice C2 (cutL (t0).R).length c2,.slice C3 (t0).T.length c3] 28)
    have hT4:=hT3.of.kept hq4
    have hq24:=hq3.trans (hq4.mono hq3.size)
    have hb4:=hb2.trans (hq24.mono hb2.size)
    have hx2:=hx1.later hq24
    have hn2:=hn1.later hlt1 hq24
    have hT24:=hT2.kept hq24
    have HNE:Hid (O1≠w3.heap.size):=fun e=>by have:=hq3.size;omega
    have HO2:Hid (w.heap.size≤w3.heap.size):=Nat.le_trans hb2.size hq3.size
    have HA1:Hid (TblAt (twoQ O1 w3.heap.size) (w3.alloc (.cells #[.string (t0).name,.slice C1 (t0).cols.length c1,.slice C2 (cutL (t0).R).length c2,.slice C3 (t0).T.length c3] 28)) O1 t0):=⟨_,_,_,_,_,_,hx2,hT24.noneQ _ HNO.out.1 HNO.out.2,hn2⟩
    have HA2:Hid (TblAt (twoQ O1 w3.heap.size) (w3.alloc (.cells #[.string (t0).name,.slice C1 (t0).cols.length c1,.slice C2 (cutL (t0).R).length c2,.slice C3 (t0).T.length c3] 28)) w3.heap.size t0):=⟨_,_,_,_,_,_,hx3,hT4.noneQ _ HNO.out.1 HNO.out.2,hn3⟩
    have HB4:=Lib.hid hb4
    have HSA:=Lib.hid (same14_calls (t:=t0) ⟨_,_,_,rfl,hT24⟩ ⟨_,_,_,rfl,hT4⟩ HG0.out)
    obtain ⟨x0,x1,x2,x3,_⟩:=hx2.cells
    obtain ⟨y0,y1,y2,y3,_⟩:=hx3.cells
    clear hx1 hn1 hT2 hb2 hlt1 hx3 hn3 hq3 hq4 hT3 hT4 hq24 hb4 hx2 hn2 hT24 h3 HN2 HNO
    go_wp2_with fail
    generalize w3.alloc _=w4 at *
    generalize w3.heap.size=O2 at *
    refine HSA.out.stepB (w0:=w) (B:=w.heap.size) HB4.out HB4.out.size ?_
    clear x0 x1 x2 x3 y0 y1 y2 y3
    intro w5 hb5 _ hq5
    have HA1s:=Lib.hid (HA1.out.kept hq5)
    have HA2s:=Lib.hid (HA2.out.kept hq5)
    have HB5:=Lib.hid hb5
    clear hb5 hq5 HA1 HA2 HB4 HSA
    rcases HNC.out with hn|hn
    ·have d2:(nn==0)=true:=by simp [hn]
     clear hn HNC
     go_wp2
     go_loopw [11] (fun i wr=>∃ (k:Nat) (t:Tbl),k≤l.length∧i=.int .i64 k∧Hid (GoodT t)∧Hid (TblAt (twoQ O1 O2) wr O1 t)∧Hid (TblAt (twoQ O1 O2) wr O2 t)∧Below w.heap.size w wr) (fun i _=>l.length-(intOf i).toNat)
     case atStart=>exact ⟨0,t0,Nat.zero_le _,rfl,HG0.out,HA1s.out,HA2s.out,HB5.out⟩
     case round =>
      obtain ⟨k,t,hk,rfl,HG,HA1,HA2,hb⟩:=hrel
      have hB:=hb.size
      by_cases hlt:k < l.length
      ·obtain ⟨b,off,rv,rfl,hbl,hti,c1,c2⟩:=HAT.out k hlt
       have x1:=(hb.cell (p:=⟨b,off+k*2,none⟩) hbl).trans c1
       have x2:=(hb.cell (p:=⟨b,off+k*2+1,none⟩) hbl).trans c2
       have HTI:=Lib.hid (hti.kept hb)
       have HBL:=Lib.hid (Nat.lt_of_lt_of_le hbl hb.size)
       have HX2:=Lib.hid x2
       have HSM:=Lib.hid (small14_calls 20 (hti.kept hb))
       have HTW:Hid (∀ W,Below w.heap.size w W→TimesIn W rv l[k].2):=fun W hW=>hti.kept hW
       have HRW:Hid (∀ W,Below w.heap.size w W→TimesQ (twoQ O1 O2) W rv l[k].2):=fun W hW=>box_two hti hW HO1.out HO2.out
       have HCW:Hid (∀ W,Below w.heap.size w W→W.cell? ⟨b,off+k*2+1,none⟩=some rv):=fun W hW=>(hW.cell (p:=⟨b,off+k*2+1,none⟩) hbl).trans c2
       have HBW:=Lib.hid hbl
       have HRQ:=Lib.hid (box_two hti hb HO1.out HO2.out)
       have i0:(0:Int)≤(k:Int):=by omega
       have i1:(k:Int) < (l.length:Int):=by omega
       obtain ⟨tvr,Ar,pr,er,-⟩:=times_at hti
       subst er
       clear c1 c2 hti
       generalize l[k].2=rows at *
       generalize l[k].1=kind at *
       cases hs:smallL14 rows 20 with
       | false =>
        rw [hs] at HSM
        clear hs
        go_wp2_with (first|(go_at_call 12;refine HSM.out.step ?_)|(go_at_call 8;refine HAW.out.step (w0:=w) (B:=w.heap.size) hb hB ?_;clear hb hB;intro wa hb hB))
        go_ret
        exact ⟨rfl,hb⟩
       | true =>
        rw [hs] at HSM
        have h12:=(small14_yes hs).2
        clear hs
        have HB:=Lib.hid hb
        obtain ⟨A1,p1,A2,p2,A3,p3,hx,hT,hn⟩:=HA1.out.parts
        obtain ⟨D1,e1,D2,e2,D3,e3,hy,hU,hny⟩:=HA2.out.parts
        have HX:=Lib.hid hx
        have HT:=Lib.hid hT
        have HNI:=Lib.hid hn
        have HY:=Lib.hid hy
        have HU:=Lib.hid hU
        have HNY:=Lib.hid hny
        have HL1:=Lib.hid HA1.out.lt
        have HL2:=Lib.hid HA2.out.lt
        clear hx hT hn hy hU hny hb hB
        obtain ⟨rl,hrl⟩:∃ rl,rows.length=rl:=⟨_,rfl⟩
        have HRL:=Lib.hid hrl
        rw [hrl] at x2 HX2 HTI HRQ HSM HTW HRW HCW
        clear hrl
        by_cases hkd:kind=0
        ·have dk:(kind==0)=true:=by simp [hkd]
         clear hkd
         go_wp2_with (go_at_call 12;refine HSM.out.step ?_)
         clear x1 x2
         refine wp_region_calm (offC wr) (fun _=>false) (fun _=>false) anyE false (by kernel_rfl) (by kernel_rfl) (by kernel_rfl) (by kernel_rfl) (by intro m hm;revert hm;simp;try omega) (offC_stable _) (offC_start _) ?_
         refine calm_fixA rfl rfl ?_
         apply Exists.intro
         refine ⟨fun a wz hc hk hf K hK=>?_,?_⟩
         ·have hb:Below wr.heap.size wr wz:=hc rfl
          have h7:=hk 7 (by kernel_rfl)
          clear hk hf hc
          obtain ⟨y0,y1,y2,y3,_⟩:=(HX.out.later hb).cells
          go_simp
          exact hK _ _ (Below.refl _ _) rfl
         refine calm_fixA rfl rfl ?_
         apply Exists.intro
         refine ⟨fun a wz hc hk hf K hK=>?_,?_⟩
         ·have h2:=hk 2 (by kernel_rfl)
          clear hk hf hc
          go_simp
          exact hK _ _ (Below.refl _ _) rfl
         refine calm_fixA rfl rfl ?_
         apply Exists.intro
         refine ⟨fun a wz hc hk hf K hK=>?_,?_⟩
         ·have h11:=hk 11 (by kernel_rfl)
          clear hk hf hc
          go_simp
          exact hK _ _ (Below.refl _ _) rfl
         refine calm_fixA rfl rfl ?_
         apply Exists.intro
         refine ⟨fun a wz hc hk hf K hK=>?_,?_⟩
         ·have h78:=held_isV hf 1 rfl (by kernel_rfl)
          have h79:=held_isV hf 0 rfl (by kernel_rfl)
          clear hk hf hc
          go_simp
          exact hK _ _ (Below.refl _ _) rfl
         refine calm_fixA rfl rfl ?_
         apply Exists.intro
         refine ⟨fun a wz hc hk hf K hK=>?_,?_⟩
         ·have h80:=held_isV hf 0 rfl (by kernel_rfl)
          clear hk hf hc
          go_simp
          exact hK _ _ (Below.refl _ _) rfl
         refine calm_fixA rfl rfl ?_
         apply Exists.intro
         refine ⟨fun a wz hc hk hf K hK=>?_,?_⟩
         ·have hb:Below wr.heap.size wr wz:=hc rfl
          have h81:=held_isV hf 0 rfl (by kernel_rfl)
          clear hk hf hc
          have x2:=(hb.cell (p:=⟨b,off+k*2+1,none⟩) HBL.out).trans HX2.out
          go_simp
          exact hK _ _ (Below.refl _ _) rfl
         refine calm_fixA rfl rfl ?_
         apply Exists.intro
         refine ⟨fun a wz hc hk hf K hK=>?_,?_⟩
         ·have hb:Below wr.heap.size wr wz:=hc rfl
          have h77:=held_isV hf 5 rfl (by kernel_rfl)
          have h82:=held_isV hf 0 rfl (by kernel_rfl)
          clear hk hf hc
          have hck:=table_check_calls (t:=t) ⟨_,_,_,rfl,HT.out.of.kept hb⟩ (HTI.out.kept hb)
          go_simp
          refine Calls.mono (hck) ?_
          rintro e w1 ⟨rfl,hq⟩
          exact hK _ _ hq rfl
         refine calm_fixA rfl rfl ?_
         apply Exists.intro
         refine ⟨fun a wz hc hk hf K hK=>?_,?_⟩
         ·have hb:Below wr.heap.size wr wz:=hc rfl
          have h9:=hk 9 (by kernel_rfl)
          clear hk hf hc
          obtain ⟨y0,y1,y2,y3,_⟩:=(HY.out.later hb).cells
          go_simp
          exact hK _ _ (Below.refl _ _) rfl
         refine calm_fixA rfl rfl ?_
         apply Exists.intro
         refine ⟨fun a wz hc hk hf K hK=>?_,?_⟩
         ·have h2:=hk 2 (by kernel_rfl)
          clear hk hf hc
          go_simp
          exact hK _ _ (Below.refl _ _) rfl
         refine calm_fixA rfl rfl ?_
         apply Exists.intro
         refine ⟨fun a wz hc hk hf K hK=>?_,?_⟩
         ·have h11:=hk 11 (by kernel_rfl)
          clear hk hf hc
          go_simp
          exact hK _ _ (Below.refl _ _) rfl
         refine calm_fixA rfl rfl ?_
         apply Exists.intro
         refine ⟨fun a wz hc hk hf K hK=>?_,?_⟩
         ·have h85:=held_isV hf 1 rfl (by kernel_rfl)
          have h86:=held_isV hf 0 rfl (by kernel_rfl)
          clear hk hf hc
          go_simp
          exact hK _ _ (Below.refl _ _) rfl
         refine calm_fixA rfl rfl ?_
         apply Exists.intro
         refine ⟨fun a wz hc hk hf K hK=>?_,?_⟩
         ·have h87:=held_isV hf 0 rfl (by kernel_rfl)
          clear hk hf hc
          go_simp
          exact hK _ _ (Below.refl _ _) rfl
         refine calm_fixA rfl rfl ?_
         apply Exists.intro
         refine ⟨fun a wz hc hk hf K hK=>?_,?_⟩
         ·have hb:Below wr.heap.size wr wz:=hc rfl
          have h88:=held_isV hf 0 rfl (by kernel_rfl)
          clear hk hf hc
          have x2:=(hb.cell (p:=⟨b,off+k*2+1,none⟩) HBL.out).trans HX2.out
          go_simp
          exact hK _ _ (Below.refl _ _) rfl
         refine calm_fixA rfl rfl ?_
         apply Exists.intro
         refine ⟨fun a wz hc hk hf K hK=>?_,?_⟩
         ·have hb:Below wr.heap.size wr wz:=hc rfl
          have h84:=held_isV hf 5 rfl (by kernel_rfl)
          have h89:=held_isV hf 0 rfl (by kernel_rfl)
          clear hk hf hc
          have hck:=ref_table_check_calls (t:=t) ⟨_,_,_,rfl,HU.out.of.kept hb⟩ (HTI.out.kept hb)
          go_simp
          refine Calls.mono (hck) ?_
          rintro e w1 ⟨rfl,hq⟩
          exact hK _ _ hq rfl
         refine calm_fixA rfl rfl ?_
         apply Exists.intro
         refine ⟨fun a wz hc hk hf K hK=>?_,?_⟩
         ·have h83:=held_isV hf 7 rfl (by kernel_rfl)
          have h90:=held_isV hf 0 rfl (by kernel_rfl)
          clear hk hf hc
          go_simp
          exact hK _ _ (Below.refl _ _) rfl
         refine calm_nil ?_
         refine ⟨keeps_none,?_⟩
         intro wc hc
         simp only [lexL,calmEnd]
         rintro _ rfl _ rfl _ rfl _ rfl _ rfl _ rfl _ rfl _ rfl _ rfl _ rfl _ rfl _ rfl _ rfl _ rfl _ rfl
         have hq:Below wr.heap.size wr wc:=hc rfl
         have HTI:=Lib.hid (HTI.out.kept hq)
         have HRQ:=Lib.hid (HRQ.out.kept hq)
         have HX2:=Lib.hid ((hq.cell (p:=⟨b,off+k*2+1,none⟩) HBL.out).trans HX2.out)
         have HBL:=Lib.hid (Nat.lt_of_lt_of_le HBL.out hq.size)
         have HB:=Lib.hid (HB.out.trans (hq.mono HB.out.size))
         have HX:=Lib.hid (HX.out.later hq)
         have HT:=Lib.hid (HT.out.kept hq)
         have HNI:=Lib.hid (HNI.out.later HL1.out hq)
         have HY:=Lib.hid (HY.out.later hq)
         have HU:=Lib.hid (HU.out.kept hq)
         have HNY:=Lib.hid (HNY.out.later HL2.out hq)
         have HL1:=Lib.hid (Nat.lt_of_lt_of_le HL1.out hq.size)
         have HL2:=Lib.hid (Nat.lt_of_lt_of_le HL2.out hq.size)
         obtain ⟨an,han⟩:∃ an,applyN t rows=an:=⟨_,rfl⟩
         have HAN:=Lib.hid han
         have HG':=Lib.hid (HG.out.apply rows)
         obtain ⟨t',ht'⟩:∃ t',applyT t rows=t':=⟨_,rfl⟩
         have HT':=Lib.hid ht'
         rw [ht'] at HG'
         clear hq hc han ht'
         simp only [Act.put,List.setIfInBounds_toArray,List.set_cons_zero,List.set_cons_succ]
         go_wp2_with fail
         refine wp_region_calm (offC wc) (fun k=>k==10) (fun k=>k==9||k==11) anyE true (by kernel_rfl) (by kernel_rfl) (by kernel_rfl) (by kernel_rfl) (by intro m hm;revert hm;simp;try omega) (offC_stable _) (offC_start _) ?_
         refine calm_fixA rfl rfl ?_
         apply Exists.intro
         refine ⟨fun a wz hc hk hf K hK=>?_,?_⟩
         ·have hb:Below wc.heap.size wc wz:=hc rfl
          have h7:=hk 7 (by kernel_rfl)
          clear hk hf hc
          obtain ⟨y0,y1,y2,y3,_⟩:=(HX.out.later hb).cells
          go_simp
          exact hK _ _ (Below.refl _ _) rfl
         refine calm_fixA rfl rfl ?_
         apply Exists.intro
         refine ⟨fun a wz hc hk hf K hK=>?_,?_⟩
         ·have h2:=hk 2 (by kernel_rfl)
          clear hk hf hc
          go_simp
          exact hK _ _ (Below.refl _ _) rfl
         refine calm_fixA rfl rfl ?_
         apply Exists.intro
         refine ⟨fun a wz hc hk hf K hK=>?_,?_⟩
         ·have h11:=hk 11 (by kernel_rfl)
          clear hk hf hc
          go_simp
          exact hK _ _ (Below.refl _ _) rfl
         refine calm_fixA rfl rfl ?_
         apply Exists.intro
         refine ⟨fun a wz hc hk hf K hK=>?_,?_⟩
         ·have h94:=held_isV hf 1 rfl (by kernel_rfl)
          have h95:=held_isV hf 0 rfl (by kernel_rfl)
          clear hk hf hc
          go_simp
          exact hK _ _ (Below.refl _ _) rfl
         refine calm_fixA rfl rfl ?_
         apply Exists.intro
         refine ⟨fun a wz hc hk hf K hK=>?_,?_⟩
         ·have h96:=held_isV hf 0 rfl (by kernel_rfl)
          clear hk hf hc
          go_simp
          exact hK _ _ (Below.refl _ _) rfl
         refine calm_fixA rfl rfl ?_
         apply Exists.intro
         refine ⟨fun a wz hc hk hf K hK=>?_,?_⟩
         ·have hb:Below wc.heap.size wc wz:=hc rfl
          have h97:=held_isV hf 0 rfl (by kernel_rfl)
          clear hk hf hc
          have x2:=(hb.cell (p:=⟨b,off+k*2+1,none⟩) HBL.out).trans HX2.out
          go_simp
          exact hK _ _ (Below.refl _ _) rfl
         refine calm_varB (TupS an) (AppR (twoQ O1 O2) t' an) rfl rfl AppR.kept (fun a wz hc hk hf K hK=>?_) ?_
         ·have hb:Below wc.heap.size wc wz:=hc rfl
          have h93:=held_isV hf 5 rfl (by kernel_rfl)
          have h98:=held_isV hf 0 rfl (by kernel_rfl)
          clear hk hf hc
          go_simp
          have hap:=table_apply_q (twoQ O1 O2) (w:=wz) (t:=t) (l:=rows) ⟨_,_,_,rfl,HT.out.kept hb⟩ HG.out (fun u hu=>twoQ_fresh hu (Nat.lt_of_lt_of_le HL1.out hb.size) (Nat.lt_of_lt_of_le HL2.out hb.size)) (HRQ.out.kept hb) (by have:=HRL.out;omega)
          unfold TApplyQ at hap
          rw [HT'.out,HAN.out] at hap
          refine Calls.mono hap ?_
          rintro e w1 ⟨v1,rfl,h1,hq⟩
          exact hK _ _ hq ⟨⟨v1,rfl⟩,fun _=>⟨v1,rfl,h1⟩⟩
         refine calm_varB (TupS an) (AppR (twoQ O1 O2) t' an) rfl rfl AppR.kept (fun a wz hc hk hf K hK=>?_) ?_
         ·have hb:Below wc.heap.size wc wz:=hc rfl
          obtain ⟨v99,h99,S99⟩:=held_at hf 0 rfl (by kernel_rfl)
          clear hk hf hc
          go_simp
          exact hK _ _ (Below.refl _ _) S99
         refine calm_varA (fun v wx=>TblInQ (twoQ O1 O2) wx v t') rfl rfl TblInQ.keptF (fun a wz hc hk hf K hK=>?_) ?_
         ·have hb:Below wc.heap.size wc wz:=hc rfl
          obtain ⟨v92,h92,S92⟩:=held_at hf 0 rfl (by kernel_rfl)
          clear hk hf hc
          obtain ⟨-,hr⟩:=S92
          obtain ⟨v1,rfl,h1⟩:=hr rfl
          go_simp
          exact hK _ _ (Below.refl _ _) (fun _=>h1)
         refine calm_fix rfl ?_
         apply Exists.intro
         refine ⟨fun ph a wz hl hc hk hf K hK=>?_,?_⟩
         ·obtain ⟨v92,h92,S92⟩:=held_at hf 1 rfl (by kernel_rfl)
          clear hk hf hc hl
          obtain ⟨⟨v1,rfl⟩,-⟩:=S92
          go_simp
          exact hK _ _ (Below.refl _ _) rfl
         refine calm_storeA (fun w0=>TblAt (twoQ O1 O2) w0 O1 t'∧TblAt (twoQ O1 O2) w0 O2 t∧Below w.heap.size w w0) rfl (fun m h=>by simpa using h) (fun a wz hb hk hf K hK=>?_) ?_
         ·have h7:=hk 7 (by kernel_rfl)
          obtain ⟨v100,h100,S100⟩:=held_at hf 1 rfl (by kernel_rfl)
          clear hk hf
          obtain ⟨A4,p4,A5,p5,A6,p6,rfl,hT⟩:=(S100 rfl).parts
          have hat1:TblAt (twoQ O1 O2) wc O1 t:=⟨_,_,_,_,_,_,HX.out,HT.out,HNI.out⟩
          have hat2:TblAt (twoQ O1 O2) wc O2 t:=⟨_,_,_,_,_,_,HY.out,HU.out,HNY.out⟩
          have hst:=(hat1.kept hb).store (fun u hu=>hu.1) hT
          have hot:=(hat2.kept hb).other (a:=.string t'.name) (b:=.slice A4 t'.cols.length p4) (c:=.slice A5 (cutL t'.R).length p5) (d:=.slice A6 t'.T.length p6) (hat1.kept hb).noInt (fun u hu=>hu.1) HNE.out.symm
          have hbe:=below_four (HB.out.trans (hb.mono HB.out.size)) HO1.out (.string t'.name) (.slice A4 t'.cols.length p4) (.slice A5 (cutL t'.R).length p5) (.slice A6 t'.T.length p6)
          obtain ⟨y0,y1,y2,y3,_⟩:=(HX.out.later hb).cells
          obtain ⟨f0,f1,f2,f3⟩:=(HX.out.later hb).free
          have HST:=Lib.hid hst
          have HOT:=Lib.hid hot
          have HBE:=Lib.hid hbe
          clear hst hot hbe hat1 hat2 hT
          go_simp
          exact hK undef _ ⟨HST.out,HOT.out,HBE.out⟩
         refine calm_fix rfl ?_
         apply Exists.intro
         refine ⟨fun ph a wz hl hc hk hf K hK=>?_,?_⟩
         ·have h101:=held_isV hf 1 rfl (by kernel_rfl)
          clear hk hf hc hl
          go_simp
          exact hK _ _ (Below.refl _ _) rfl
         refine calm_nil ?_
         refine ⟨keeps_one (m:=10) (fun k h=>by simpa using h) ⟨.inr (loose_isV _),.inr (loose_isV _),.inr (loose_isV _),.inr (loose_isV _),.inr (loose_isV _),.inr (loose_isV _),.inr (loose_both _ _),.inr (loose_both _ _),.inr (loose_ahead _),.inr (loose_isV _),.inl rfl,.inr (loose_isV _),trivial⟩,?_⟩
         intro wy hc
         simp only [lexL,calmEnd]
         rintro _ rfl _ rfl _ rfl _ rfl _ rfl _ rfl v99 S99 v92 S92 v100 S100 _ rfl _ hst10 _ rfl
         obtain ⟨wx,⟨hA,hA',hb⟩,hq⟩:=hst10 rfl
         replace hA:=hA.kept hq
         replace hA':=hA'.kept hq
         replace hb:=hb.trans (hq.mono hb.size)
         clear hst10 hq hc S99 S92 S100
         have HB2:=Lib.hid hb
         have HTI2:Hid (TimesIn wy (.slice Ar rl pr) rows):=HTW.out wy hb
         have HRQ2:Hid (TimesQ (twoQ O1 O2) wy (.slice Ar rl pr) rows):=HRW.out wy hb
         have HX22:Hid (wy.cell? ⟨b,off+k*2+1,none⟩=some (.slice Ar rl pr)):=HCW.out wy hb
         have HBL2:Hid (b < wy.heap.size):=Nat.lt_of_lt_of_le HBW.out hb.size
         clear HB HTI HRQ HX2 HBL HX HT HNI HY HU HNY HL1 HL2
         have HB:=HB2
         have HTI:=HTI2
         have HRQ:=HRQ2
         have HX2:=HX22
         have HBL:=HBL2
         clear HB2 HTI2 HRQ2 HX22 HBL2 hb
         have HL1:=Lib.hid hA.lt
         have HL2:=Lib.hid hA'.lt
         obtain ⟨A1,p1,A2,p2,A3,p3,hx,hT,hn⟩:=hA.parts
         obtain ⟨D1,e1,D2,e2,D3,e3,hy,hU,hny⟩:=hA'.parts
         have HX:=Lib.hid hx
         have HT:=Lib.hid hT
         have HNI:=Lib.hid hn
         have HY:=Lib.hid hy
         have HU:=Lib.hid hU
         have HNY:=Lib.hid hny
         clear hA hA' hx hT hn hy hU hny
         simp only [Act.put,List.setIfInBounds_toArray,List.set_cons_zero,List.set_cons_succ]
         go_wp2_with fail
         refine wp_region_calm (offC wy) (fun k=>k==10) (fun k=>k==9||k==11) anyE true (by kernel_rfl) (by kernel_rfl) (by kernel_rfl) (by kernel_rfl) (by intro m hm;revert hm;simp;try omega) (offC_stable _) (offC_start _) ?_
         refine calm_fixA rfl rfl ?_
         apply Exists.intro
         refine ⟨fun a wz hc hk hf K hK=>?_,?_⟩
         ·have hb:Below wy.heap.size wy wz:=hc rfl
          have h9:=hk 9 (by kernel_rfl)
          clear hk hf hc
          obtain ⟨y0,y1,y2,y3,_⟩:=(HY.out.later hb).cells
          go_simp
          exact hK _ _ (Below.refl _ _) rfl
         refine calm_fixA rfl rfl ?_
         apply Exists.intro
         refine ⟨fun a wz hc hk hf K hK=>?_,?_⟩
         ·have h2:=hk 2 (by kernel_rfl)
          clear hk hf hc
          go_simp
          exact hK _ _ (Below.refl _ _) rfl
         refine calm_fixA rfl rfl ?_
         apply Exists.intro
         refine ⟨fun a wz hc hk hf K hK=>?_,?_⟩
         ·have h11:=hk 11 (by kernel_rfl)
          clear hk hf hc
          go_simp
          exact hK _ _ (Below.refl _ _) rfl
         refine calm_fixA rfl rfl ?_
         apply Exists.intro
         refine ⟨fun a wz hc hk hf K hK=>?_,?_⟩
         ·have h104:=held_isV hf 1 rfl (by kernel_rfl)
          have h105:=held_isV hf 0 rfl (by kernel_rfl)
          clear hk hf hc
          go_simp
          exact hK _ _ (Below.refl _ _) rfl
         refine calm_fixA rfl rfl ?_
         apply Exists.intro
         refine ⟨fun a wz hc hk hf K hK=>?_,?_⟩
         ·have h106:=held_isV hf 0 rfl (by kernel_rfl)
          clear hk hf hc
          go_simp
          exact hK _ _ (Below.refl _ _) rfl
         refine calm_fixA rfl rfl ?_
         apply Exists.intro
         refine ⟨fun a wz hc hk hf K hK=>?_,?_⟩
         ·have hb:Below wy.heap.size wy wz:=hc rfl
          have h107:=held_isV hf 0 rfl (by kernel_rfl)
          clear hk hf hc
          have x2:=(hb.cell (p:=⟨b,off+k*2+1,none⟩) HBL.out).trans HX2.out
          go_simp
          exact hK _ _ (Below.refl _ _) rfl
         refine calm_varB (TupS an) (AppR (twoQ O1 O2) t' an) rfl rfl AppR.kept (fun a wz hc hk hf K hK=>?_) ?_
         ·have hb:Below wy.heap.size wy wz:=hc rfl
          have h103:=held_isV hf 5 rfl (by kernel_rfl)
          have h108:=held_isV hf 0 rfl (by kernel_rfl)
          clear hk hf hc
          go_simp
          have hap:=ref_table_apply_q (twoQ O1 O2) (w:=wz) (t:=t) (l:=rows) ⟨_,_,_,rfl,HU.out.kept hb⟩ HG.out (HRQ.out.kept hb) (by have:=HRL.out;omega)
          unfold TApplyQ at hap
          rw [HT'.out,HAN.out] at hap
          refine Calls.mono hap ?_
          rintro e w1 ⟨v1,rfl,h1,hq⟩
          exact hK _ _ hq ⟨⟨v1,rfl⟩,fun _=>⟨v1,rfl,h1⟩⟩
         refine calm_varB (TupS an) (AppR (twoQ O1 O2) t' an) rfl rfl AppR.kept (fun a wz hc hk hf K hK=>?_) ?_
         ·have hb:Below wy.heap.size wy wz:=hc rfl
          obtain ⟨v109,h109,S109⟩:=held_at hf 0 rfl (by kernel_rfl)
          clear hk hf hc
          go_simp
          exact hK _ _ (Below.refl _ _) S109
         refine calm_varA (fun v wx=>TblInQ (twoQ O1 O2) wx v t') rfl rfl TblInQ.keptF (fun a wz hc hk hf K hK=>?_) ?_
         ·have hb:Below wy.heap.size wy wz:=hc rfl
          obtain ⟨v102,h102,S102⟩:=held_at hf 0 rfl (by kernel_rfl)
          clear hk hf hc
          obtain ⟨-,hr⟩:=S102
          obtain ⟨v1,rfl,h1⟩:=hr rfl
          go_simp
          exact hK _ _ (Below.refl _ _) (fun _=>h1)
         refine calm_fix rfl ?_
         apply Exists.intro
         refine ⟨fun ph a wz hl hc hk hf K hK=>?_,?_⟩
         ·obtain ⟨v102,h102,S102⟩:=held_at hf 1 rfl (by kernel_rfl)
          clear hk hf hc hl
          obtain ⟨⟨v1,rfl⟩,-⟩:=S102
          go_simp
          exact hK _ _ (Below.refl _ _) rfl
         refine calm_storeA (fun w0=>TblAt (twoQ O1 O2) w0 O2 t'∧TblAt (twoQ O1 O2) w0 O1 t'∧Below w.heap.size w w0) rfl (fun m h=>by simpa using h) (fun a wz hb hk hf K hK=>?_) ?_
         ·have h9:=hk 9 (by kernel_rfl)
          obtain ⟨v110,h110,S110⟩:=held_at hf 1 rfl (by kernel_rfl)
          clear hk hf
          obtain ⟨A4,p4,A5,p5,A6,p6,rfl,hT⟩:=(S110 rfl).parts
          have hat1:TblAt (twoQ O1 O2) wy O2 t:=⟨_,_,_,_,_,_,HY.out,HU.out,HNY.out⟩
          have hat2:TblAt (twoQ O1 O2) wy O1 t':=⟨_,_,_,_,_,_,HX.out,HT.out,HNI.out⟩
          have hst:=(hat1.kept hb).store (fun u hu=>hu.2) hT
          have hot:=(hat2.kept hb).other (a:=.string t'.name) (b:=.slice A4 t'.cols.length p4) (c:=.slice A5 (cutL t'.R).length p5) (d:=.slice A6 t'.T.length p6) (hat1.kept hb).noInt (fun u hu=>hu.2) HNE.out
          have hbe:=below_four (HB.out.trans (hb.mono HB.out.size)) HO2.out (.string t'.name) (.slice A4 t'.cols.length p4) (.slice A5 (cutL t'.R).length p5) (.slice A6 t'.T.length p6)
          obtain ⟨y0,y1,y2,y3,_⟩:=(HY.out.later hb).cells
          obtain ⟨f0,f1,f2,f3⟩:=(HY.out.later hb).free
          have HST:=Lib.hid hst
          have HOT:=Lib.hid hot
          have HBE:=Lib.hid hbe
          clear hst hot hbe hat1 hat2 hT
          go_simp
          exact hK undef _ ⟨HST.out,HOT.out,HBE.out⟩
         refine calm_fix rfl ?_
         apply Exists.intro
         refine ⟨fun ph a wz hl hc hk hf K hK=>?_,?_⟩
         ·have h111:=held_isV hf 1 rfl (by kernel_rfl)
          clear hk hf hc hl
          go_simp
          exact hK _ _ (Below.refl _ _) rfl
         refine calm_nil ?_
         refine ⟨keeps_one (m:=10) (fun k h=>by simpa using h) ⟨.inr (loose_isV _),.inr (loose_isV _),.inr (loose_isV _),.inr (loose_isV _),.inr (loose_isV _),.inr (loose_isV _),.inr (loose_both _ _),.inr (loose_both _ _),.inr (loose_ahead _),.inr (loose_isV _),.inl rfl,.inr (loose_isV _),trivial⟩,?_⟩
         intro wv hc
         simp only [lexL,calmEnd]
         rintro _ rfl _ rfl _ rfl _ rfl _ rfl _ rfl v109 S109 v102 S102 v110 S110 _ rfl _ hst10 _ rfl
         obtain ⟨wx,⟨hA,hA',hb⟩,hq⟩:=hst10 rfl
         replace hA:=hA.kept hq
         replace hA':=hA'.kept hq
         replace hb:=hb.trans (hq.mono hb.size)
         clear hst10 hq hc S109 S102 S110
         have hA1:=hA'
         have hA2:=hA
         clear hA hA' HX HT HNI HY HU HNY
         obtain ⟨A1,p1,A2,p2,A3,p3,hx,hT,hn⟩:=hA1.parts
         obtain ⟨D1,e1,D2,e2,D3,e3,hy,hU,hny⟩:=hA2.parts
         have HX:=Lib.hid hx
         have HT:=Lib.hid hT
         have HY:=Lib.hid hy
         have HU:=Lib.hid hU
         have HA1:=Lib.hid hA1
         have HA2:=Lib.hid hA2
         have HBT:=Lib.hid hb
         have HR1:=Lib.hid (table_rows_calls (t:=t') ⟨_,_,_,rfl,hT.of⟩ HG'.out)
         unfold TRowsEnd at HR1
         obtain ⟨x0,x1,x2,x3,_⟩:=hx.cells
         clear hx hT hn hy hU hny hA1 hA2 hb
         simp only [Act.put,List.setIfInBounds_toArray,List.set_cons_zero,List.set_cons_succ]
         go_wp2_with fail
         refine HR1.out.mono ?_
         clear x0 x1 x2 x3
         rintro e w6 ⟨v6,rfl,h6,hq6⟩
         have HR2:=Lib.hid (ref_table_rows_calls (w:=w6) (t:=t') ⟨_,_,_,rfl,HU.out.of.kept hq6⟩ HG'.out)
         unfold TRowsEnd at HR2
         obtain ⟨x0,x1,x2,x3,_⟩:=(HY.out.later hq6).cells
         go_wp2_with fail
         refine HR2.out.mono ?_
         clear x0 x1 x2 x3
         rintro e w7 ⟨v7,rfl,h7,hq7⟩
         have hq67:=hq6.trans (hq7.mono hq6.size)
         have HSR:=Lib.hid (short_fits HG'.out.rfits HG'.out.cols)
         have HR6:=Lib.hid (TimesIn.kept h6 hq7)
         have HR7:=Lib.hid h7
         obtain ⟨_,A6,p6,ev6,-⟩:=times_at h6
         obtain ⟨_,A7,p7,ev7,-⟩:=times_at h7
         subst ev6 ev7
         have HSA:=Lib.hid (same14_calls (w:=w7) (t:=t') ⟨_,_,_,rfl,HT.out.of.kept hq67⟩ ⟨_,_,_,rfl,HU.out.of.kept hq67⟩ HG'.out)
         obtain ⟨x0,x1,x2,x3,_⟩:=(HX.out.later hq67).cells
         obtain ⟨y0,y1,y2,y3,_⟩:=(HY.out.later hq67).cells
         have HQ67:=Lib.hid hq67
         clear h6 h7 hq6 hq7 hq67 HR1 HR2
         go_wp2_with fail
         refine HSA.out.stepB (w0:=wv) (B:=wv.heap.size) HQ67.out HQ67.out.size ?_
         clear x0 x1 x2 x3 y0 y1 y2 y3
         intro w8 hb8 hB8 hq8
         have HSS:=Lib.hid (same_times (HR6.out.kept hq8) (HR7.out.kept hq8) (by have:=HG'.out.rfew;omega) HSR.out HSR.out)
         rw [decide_eq_true rfl] at HSS
         clear hq8
         go_wp2_with fail
         refine HSS.out.stepB (w0:=wv) (B:=wv.heap.size) hb8 hB8 ?_
         clear hb8 hB8
         intro w9 hb9 _ _
         have HA19:=Lib.hid (HA1.out.kept hb9)
         have HA29:=Lib.hid (HA2.out.kept hb9)
         have hbw:=HBT.out.trans (hb9.mono HBT.out.size)
         clear hb9
         go_wp2
         go_roundw
         case rel=>exact ⟨k+1,t',by omega,by go_num,HG'.out,HA19.out,HA29.out,hbw⟩
         case measure=>simp [intOf];omega
        ·have dk:(kind==0)=false:=by simp [hkd]
         clear hkd
         go_wp2_with (go_at_call 12;refine HSM.out.step ?_)
         clear x1 x2
         refine wp_region_m (offM 4 wr) (fun k=>k==4||k==5) (fun k m=>(m==4&&[0,1,2,3].contains k)||(m==5&&[0,1,2,3,4].contains k)) (fun k m=>(m==4&&[5].contains k)||(m==5&&[].contains k)) (fun m _ w w1=>match m with|4=>NoInt w O1∧w.grownBy w1 (some O1)|_=>True) (by kernel_rfl) (by kernel_rfl) (by kernel_rfl) (by kernel_rfl) (by intro m hm;revert hm;simp;try omega) (offM_stable _ _) (offM_start _ _) ?_
         refine m_fix rfl ?_
         apply Exists.intro
         refine ⟨fun ph a wz hp hc hk hf K hK=>?_,?_⟩
         ·have hb:Below wr.heap.size wr wz:=hc (hp.1 4 rfl rfl)
          have h7:=hk 7 (by kernel_rfl)
          clear hk hf hc
          obtain ⟨y0,y1,y2,y3,_⟩:=(HX.out.later hb).cells
          go_simp
          exact hK _ _ (Below.refl _ _) rfl
         refine m_var (tillM 4 (fun v wx=>TblInQ (twoQ O1 O2) wx v (packT t))) rfl (stable_tillM TblInQ.keptF) (fun ph a wz hp hc hk hf K hK=>?_) ?_
         ·have hb:Below wr.heap.size wr wz:=hc (hp.1 4 rfl rfl)
          have h112:=mheld_isV hf 0 rfl (by kernel_rfl)
          clear hk hf
          go_simp
          refine Calls.mono (table_pack_q (twoQ O1 O2) (w:=wz) (t:=t) ⟨_,_,_,rfl,HT.out.of.kept hb⟩ HG.out (fun u hu=>twoQ_fresh hu (Nat.lt_of_lt_of_le HL1.out hb.size) (Nat.lt_of_lt_of_le HL2.out hb.size))) ?_
          rintro e w1 ⟨v1,rfl,h1,hq⟩
          exact hK _ _ hq (fun _=>h1)
         refine m_fix rfl ?_
         apply Exists.intro
         refine ⟨fun ph a wz hp hc hk hf K hK=>?_,?_⟩
         ·have hb:Below wr.heap.size wr wz:=hc (hp.1 4 rfl rfl)
          have h9:=hk 9 (by kernel_rfl)
          clear hk hf hc
          obtain ⟨y0,y1,y2,y3,_⟩:=(HY.out.later hb).cells
          go_simp
          exact hK _ _ (Below.refl _ _) rfl
         refine m_var (tillM 5 (fun v wx=>TblInQ (twoQ O1 O2) wx v (packT t))) rfl (stable_tillM TblInQ.keptF) (fun ph a wz hp hc hk hf K hK=>?_) ?_
         ·have hb:Below wr.heap.size wr wz:=hc (hp.1 4 rfl rfl)
          have h114:=mheld_isV hf 0 rfl (by kernel_rfl)
          clear hk hf
          go_simp
          refine Calls.mono (ref_table_pack_q (twoQ O1 O2) (w:=wz) (t:=t) ⟨_,_,_,rfl,HU.out.of.kept hb⟩ HG.out (fun u hu=>twoQ_fresh hu (Nat.lt_of_lt_of_le HL1.out hb.size) (Nat.lt_of_lt_of_le HL2.out hb.size))) ?_
          rintro e w1 ⟨v1,rfl,h1,hq⟩
          exact hK _ _ hq (fun _=>h1)
         refine m_store (fromM 4 5 (fun _ w0=>TblAt (twoQ O1 O2) w0 O1 (packT t)∧TblAt (twoQ O1 O2) w0 O2 t∧Below w.heap.size w w0)) rfl (stable_fromM _ _ _) (fun ph a wz hp hph hc hk hf K hK=>?_) ?_
         ·have hb:Below wr.heap.size wr wz:=hc hph
          have h7:=hk 7 (by kernel_rfl)
          obtain ⟨v113,h113,S113⟩:=mheld_at hf 2 rfl (by kernel_rfl)
          replace S113:=S113 hph
          clear hk hf
          obtain ⟨A4,p4,A5,p5,A6,p6,rfl,hT⟩:=S113.parts
          have hat1:TblAt (twoQ O1 O2) wr O1 t:=⟨_,_,_,_,_,_,HX.out,HT.out,HNI.out⟩
          have hat2:TblAt (twoQ O1 O2) wr O2 t:=⟨_,_,_,_,_,_,HY.out,HU.out,HNY.out⟩
          have hst:=(hat1.kept hb).store (fun u hu=>hu.1) hT
          have hot:=(hat2.kept hb).other (a:=.string (packT t).name) (b:=.slice A4 (packT t).cols.length p4) (c:=.slice A5 (cutL (packT t).R).length p5) (d:=.slice A6 (packT t).T.length p6) (hat1.kept hb).noInt (fun u hu=>hu.1) HNE.out.symm
          have hbe:=below_four (HB.out.trans (hb.mono HB.out.size)) HO1.out (.string (packT t).name) (.slice A4 (packT t).cols.length p4) (.slice A5 (cutL (packT t).R).length p5) (.slice A6 (packT t).T.length p6)
          have hgr:=putT_grown wz O1 (.string (packT t).name) (.slice A4 (packT t).cols.length p4) (.slice A5 (cutL (packT t).R).length p5) (.slice A6 (packT t).T.length p6)
          obtain ⟨y0,y1,y2,y3,_⟩:=(HX.out.later hb).cells
          obtain ⟨f0,f1,f2,f3⟩:=(HX.out.later hb).free
          have HST:=Lib.hid hst
          have HOT:=Lib.hid hot
          have HBE:=Lib.hid hbe
          have HGR:=Lib.hid hgr
          have HNZ:=Lib.hid (hat1.kept hb).noInt
          clear hst hot hbe hat1 hat2 hT hgr
          go_simp
          exact hK undef _ ⟨HNZ.out,HGR.out⟩ (fun h=>by rw [setP_self] at h;cases h) (fun _=>⟨_,⟨HST.out,HOT.out,HBE.out⟩,.refl _ _⟩)
         refine m_store (fromM 5 5 (fun _ w0=>TblAt (twoQ O1 O2) w0 O1 (packT t)∧TblAt (twoQ O1 O2) w0 O2 (packT t)∧Below w.heap.size w w0)) rfl (stable_fromM _ _ _) (fun ph a wz hp hph hc hk hf K hK=>?_) ?_
         ·have h9:=hk 9 (by kernel_rfl)
          obtain ⟨v115,h115,S115⟩:=mheld_at hf 1 rfl (by kernel_rfl)
          replace S115:=S115 hph
          obtain ⟨_,W4⟩:=mheld_w hf 0 rfl (by kernel_rfl)
          clear hk hf
          obtain ⟨w0,⟨ha1,ha2,hb0⟩,hq0⟩:=W4 (fun _=>hph)
          obtain ⟨A4,p4,A5,p5,A6,p6,rfl,hT⟩:=S115.parts
          have hst:=(ha2.kept hq0).store (fun u hu=>hu.2) hT
          have hot:=(ha1.kept hq0).other (a:=.string (packT t).name) (b:=.slice A4 (packT t).cols.length p4) (c:=.slice A5 (cutL (packT t).R).length p5) (d:=.slice A6 (packT t).T.length p6) (ha2.kept hq0).noInt (fun u hu=>hu.2) HNE.out
          have hbe:=below_four (hb0.trans (hq0.mono hb0.size)) HO2.out (.string (packT t).name) (.slice A4 (packT t).cols.length p4) (.slice A5 (cutL (packT t).R).length p5) (.slice A6 (packT t).T.length p6)
          have hgr:=putT_grown wz O2 (.string (packT t).name) (.slice A4 (packT t).cols.length p4) (.slice A5 (cutL (packT t).R).length p5) (.slice A6 (packT t).T.length p6)
          obtain ⟨_,_,_,_,_,_,hy,-,-⟩:=(ha2.kept hq0).parts
          obtain ⟨y0,y1,y2,y3,_⟩:=hy.cells
          obtain ⟨f0,f1,f2,f3⟩:=hy.free
          have HST:=Lib.hid hst
          have HOT:=Lib.hid hot
          have HBE:=Lib.hid hbe
          clear hst hot hbe ha1 ha2 hb0 hq0 hT hgr hy W4
          go_simp
          exact hK undef _ trivial (fun h=>by rw [setP_ne _ (by decide)] at h;have:=hp.2 4 rfl rfl;rw [h] at this;cases this) (fun _=>⟨_,⟨HOT.out,HST.out,HBE.out⟩,.refl _ _⟩)
         refine m_nil ?_
         refine ⟨keeps_m (fun m hm=>?_),?_⟩
         ·have hm2:m=4∨m=5:=by simpa [or_assoc] using hm
          rcases hm2 with rfl|rfl
          ·exact ⟨.inr (.inr (keep_isV _)),.inr (.inr keep_till_self),.inr (.inr (keep_isV _)),.inr (.inr (keep_till (by decide) fun _ _ _ _ _ _ _ h he=>TblInQ.boxed h (fun u hu=>hu.1) he.1 he.2)),.inl rfl,.inr (.inl rfl),trivial⟩
          ·exact ⟨.inr (.inr (keep_isV _)),.inr (.inr (keep_till_past rfl rfl (by decide))),.inr (.inr (keep_isV _)),.inr (.inr keep_till_self),.inr (.inr (keep_from_past rfl (by decide))),.inl rfl,trivial⟩
         intro ph wv hps hc
         simp only [mlexL,mEnd]
         rintro _ rfl v113 S113 _ rfl v115 S115 _ hst4 _ hst5
         obtain ⟨wx,⟨hA1,hA2,hb⟩,hq⟩:=hst5 (fun h=>absurd rfl h)
         replace hA1:=hA1.kept hq
         replace hA2:=hA2.kept hq
         replace hb:=hb.trans (hq.mono hb.size)
         have HG':=Lib.hid HG.out.pack
         clear hst5 hst4 hq hc hps S113 S115 HX HT HNI HY HU HNY HA1 HA2
         obtain ⟨A1,p1,A2,p2,A3,p3,hx,hT,hn⟩:=hA1.parts
         obtain ⟨D1,e1,D2,e2,D3,e3,hy,hU,hny⟩:=hA2.parts
         have HX:=Lib.hid hx
         have HT:=Lib.hid hT
         have HY:=Lib.hid hy
         have HU:=Lib.hid hU
         have HA1:=Lib.hid hA1
         have HA2:=Lib.hid hA2
         have HBT:=Lib.hid hb
         have HR1:=Lib.hid (table_rows_calls (t:=packT t) ⟨_,_,_,rfl,hT.of⟩ HG'.out)
         unfold TRowsEnd at HR1
         obtain ⟨x0,x1,x2,x3,_⟩:=hx.cells
         clear hx hT hn hy hU hny hA1 hA2 hb
         simp only [Act.put,List.setIfInBounds_toArray,List.set_cons_zero,List.set_cons_succ]
         go_wp2_with fail
         refine HR1.out.mono ?_
         clear x0 x1 x2 x3
         rintro e w6 ⟨v6,rfl,h6,hq6⟩
         have HR2:=Lib.hid (ref_table_rows_calls (w:=w6) (t:=packT t) ⟨_,_,_,rfl,HU.out.of.kept hq6⟩ HG'.out)
         unfold TRowsEnd at HR2
         obtain ⟨x0,x1,x2,x3,_⟩:=(HY.out.later hq6).cells
         go_wp2_with fail
         refine HR2.out.mono ?_
         clear x0 x1 x2 x3
         rintro e w7 ⟨v7,rfl,h7,hq7⟩
         have hq67:=hq6.trans (hq7.mono hq6.size)
         have HSR:=Lib.hid (short_fits HG'.out.rfits HG'.out.cols)
         have HR6:=Lib.hid (TimesIn.kept h6 hq7)
         have HR7:=Lib.hid h7
         obtain ⟨_,A6,p6,ev6,-⟩:=times_at h6
         obtain ⟨_,A7,p7,ev7,-⟩:=times_at h7
         subst ev6 ev7
         have HSA:=Lib.hid (same14_calls (w:=w7) (t:=packT t) ⟨_,_,_,rfl,HT.out.of.kept hq67⟩ ⟨_,_,_,rfl,HU.out.of.kept hq67⟩ HG'.out)
         obtain ⟨x0,x1,x2,x3,_⟩:=(HX.out.later hq67).cells
         obtain ⟨y0,y1,y2,y3,_⟩:=(HY.out.later hq67).cells
         have HQ67:=Lib.hid hq67
         clear h6 h7 hq6 hq7 hq67 HR1 HR2
         go_wp2_with fail
         refine HSA.out.stepB (w0:=wv) (B:=wv.heap.size) HQ67.out HQ67.out.size ?_
         clear x0 x1 x2 x3 y0 y1 y2 y3
         intro w8 hb8 hB8 hq8
         have HSS:=Lib.hid (same_times (HR6.out.kept hq8) (HR7.out.kept hq8) (by have:=HG'.out.rfew;omega) HSR.out HSR.out)
         rw [decide_eq_true rfl] at HSS
         clear hq8
         go_wp2_with fail
         refine HSS.out.stepB (w0:=wv) (B:=wv.heap.size) hb8 hB8 ?_
         clear hb8 hB8
         intro w9 hb9 _ _
         have HA19:=Lib.hid (HA1.out.kept hb9)
         have HA29:=Lib.hid (HA2.out.kept hb9)
         have hbw:=HBT.out.trans (hb9.mono HBT.out.size)
         clear hb9
         go_wp2
         go_roundw
         case rel=>exact ⟨k+1,packT t,by omega,by go_num,HG'.out,HA19.out,HA29.out,hbw⟩
         case measure=>simp [intOf];omega
      ·obtain rfl:k=l.length:=by omega
       go_wp2_with (go_at_call 8;refine HAW.out.step (w0:=w) (B:=w.heap.size) hb hB ?_;clear hb hB;intro wa hb hB)
       go_ret
       exact ⟨rfl,hb⟩
    ·have d2:(nn==0)=false:=by simp [hn]
     clear hn HNC
     go_wp2
     go_loop [11] (fun i=>i=.int .i64 (0:Nat)) (fun i=>0)
     case atStart=>rfl
     case round =>
      subst hrel
      have hb:=HB5.out
      have hB:=hb.size
      by_cases h0:0 < l.length
      ·have e1:decide ((0:Int) < (l.length:Int))=true:=decide_eq_true (by omega)
       have e2:decide (0 < l.length)=true:=decide_eq_true h0
       go_wp2_with (go_at_call 8;refine HAW.out.step (w0:=w) (B:=w.heap.size) hb hB ?_;clear hb hB;intro wa hb hB)
       go_ret
       exact ⟨rfl,hb⟩
      ·have e1:decide ((0:Int) < (l.length:Int))=false:=decide_eq_false (by omega)
       have e2:decide (0 < l.length)=false:=decide_eq_false h0
       go_wp2_with (go_at_call 8;refine HAW.out.step (w0:=w) (B:=w.heap.size) hb hB ?_;clear hb hB;intro wa hb hB)
       go_ret
       exact ⟨rfl,hb⟩
   ·have d10:decide ((12:Int) < (l.length:Int))=true:=decide_eq_true (by omega)
    go_enter Tryz.func3,Tryz.ntmps3
    go_wp2_with (go_at_call 8;refine HAW.out.step (w0:=w) (B:=w.heap.size) hb hB ?_;clear hb hB;intro wa hb hB)
    go_ret
    exact ⟨rfl,hb⟩
  ·have d6:decide ((10:Int) < (cols.length:Int))=true:=decide_eq_true (by omega)
   go_enter Tryz.func3,Tryz.ntmps3
   go_wp2_with (go_at_call 8;refine HAW.out.step (w0:=w) (B:=w.heap.size) hb hB ?_;clear hb hB;intro wa hb hB)
   go_ret
   exact ⟨rfl,hb⟩
 ·have d1:decide ((100:Int) < (name.size:Int))=true:=decide_eq_true (by omega)
  go_enter Tryz.func3,Tryz.ntmps3
  go_wp2_with (go_at_call 8;refine HAW.out.step (w0:=w) (B:=w.heap.size) hb hB ?_;clear hb hB;intro wa hb hB)
  go_ret
  exact ⟨rfl,hb⟩
end Go.Proofs.YtafmbnafibahkaaGreat
