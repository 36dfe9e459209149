/- The law PairTells of layer 19. -/
import Derived.Test.YtaoeikeobfllkaaGZPairAwake
namespace Go.Proofs.Ytaoeikeobfllkaa
open Go Go.RowKit
set_option maxHeartbeats 16000000 in
set_option maxRecDepth 100000 in
theorem pairTells_calls {w:World}{vl vm vn:Value}{ll:List Tm}{lm:List Tm}{nn:List Cl}(hl:TimesIn w vl ll)(hm:TimesIn w vm lm)(hn:OnIn w vn nn):GivesAt Try.prog 3 #[vl,vm,vn] w (.bool true):=by
 have HAW:=Lib.hid awake19_calls
 have HSL:Hid (∀ W,Below w.heap.size w W→GivesAt Try.prog 7 #[vl,.int .i64 25] W (.bool (small19 ll 25))):=fun W hW=>(small19_calls 25 (hl.kept hW)).gives
 have HNL:=Lib.hid fun (h:small19 ll 25=true)=>fine19 h
 have HLL:=Lib.hid hl
 obtain ⟨Al,cl,rfl⟩:=times_slice hl
 have HSM:Hid (∀ W,Below w.heap.size w W→GivesAt Try.prog 7 #[vm,.int .i64 25] W (.bool (small19 lm 25))):=fun W hW=>(small19_calls 25 (hm.kept hW)).gives
 have HNM:=Lib.hid fun (h:small19 lm 25=true)=>fine19 h
 have HLM:=Lib.hid hm
 obtain ⟨Am,cm,rfl⟩:=times_slice hm
 have HON:=Lib.hid hn
 obtain ⟨An,cn,rfl⟩:=hn.slice
 have HB:Hid (Below w.heap.size w w):=Lib.hid (.refl _ _)
 clear hl hm hn
 unfold GivesAt
 go_enter Try.func3,Try.ntmps3
 cases hsl:small19 ll 25 with
 | false =>
  rw [hsl] at HSL
  clear hsl
  go_wp2_with fail
  refine Calls.mono (HSL.out w HB.out) ?_
  rintro e wn1 ⟨rfl,hq⟩
  replace HB:=Lib.hid (HB.out.trans (hq.mono HB.out.size))
  clear hq
  go_wp2_with fail
  refine Calls.mono (HAW.out wn1) ?_
  rintro e wn2 ⟨rfl,hq⟩
  replace HB:=Lib.hid (HB.out.trans (hq.mono HB.out.size))
  clear hq
  go_wp2
  go_ret
  exact ⟨rfl,HB.out⟩
 | true =>
  rw [hsl] at HSL
  replace HNL:=Lib.hid (HNL.out hsl)
  clear hsl
  go_wp2_with fail
  refine Calls.mono (HSL.out w HB.out) ?_
  rintro e wn1 ⟨rfl,hq⟩
  replace HB:=Lib.hid (HB.out.trans (hq.mono HB.out.size))
  clear hq
  cases hsm:small19 lm 25 with
  | false =>
   rw [hsm] at HSM
   clear hsm
   go_wp2_with fail
   refine Calls.mono (HSM.out wn1 HB.out) ?_
   rintro e wn2 ⟨rfl,hq⟩
   replace HB:=Lib.hid (HB.out.trans (hq.mono HB.out.size))
   clear hq
   go_wp2_with fail
   refine Calls.mono (HAW.out wn2) ?_
   rintro e wn3 ⟨rfl,hq⟩
   replace HB:=Lib.hid (HB.out.trans (hq.mono HB.out.size))
   clear hq
   go_wp2
   go_ret
   exact ⟨rfl,HB.out⟩
  | true =>
   rw [hsm] at HSM
   replace HNM:=Lib.hid (HNM.out hsm)
   clear hsm
   go_wp2_with fail
   refine Calls.mono (HSM.out wn1 HB.out) ?_
   rintro e wn2 ⟨rfl,hq⟩
   replace HB:=Lib.hid (HB.out.trans (hq.mono HB.out.size))
   clear hq
   by_cases hcn:nn.length≤12
   ·have dcn:decide ((12:Int) < (nn.length:Int))=false:=decide_eq_false (by omega)
    have HKN:Hid (nn.length≤12):=hcn
    clear hcn
    have HFL:Hid (Fine 25 838860800 10 ll):=HNL.out
    have HFM:Hid (Fine 25 838860800 10 lm):=HNM.out
    clear HNL HNM HSL HSM HKN
    go_wp2
    go_loopw [7] (fun i wr=>∃ k:Nat,k≤ll.length∧k≤lm.length∧i=.int .i64 k∧Hid (Below wn2.heap.size wn2 wr)) (fun i _=>ll.length-(intOf i).toNat)
    case atStart=>exact ⟨0,Nat.zero_le _,Nat.zero_le _,rfl,Lib.hid (.refl _ _)⟩
    case round =>
     obtain ⟨k,hk,hk2,rfl,HBR⟩:=hrel
     have hq:=HBR.out
     replace HB:=Lib.hid (HB.out.trans (hq.mono HB.out.size))
     clear hq
     by_cases hl1:k < ll.length
     ·by_cases hl2:k < lm.length
      ·obtain ⟨b1,o1,cap',e0⟩:=times_some HLL.out (by omega)
       obtain ⟨rfl,rfl⟩:Al=some ⟨b1,o1,none⟩∧cl=cap':=by injection e0 with e1 _ e2;exact ⟨e1,e2⟩
       clear e0
       obtain ⟨b2,o2,cap',e0⟩:=times_some HLM.out (by omega)
       obtain ⟨rfl,rfl⟩:Am=some ⟨b2,o2,none⟩∧cm=cap':=by injection e0 with e1 _ e2;exact ⟨e1,e2⟩
       clear e0
       obtain ⟨r1,hs1,c1,_⟩:=times_cellAt HLL.out k hl1
       obtain ⟨r2,hs2,c2,_⟩:=times_cellAt HLM.out k hl2
       obtain ⟨A1,p1,rfl⟩:∃ A p,r1=.slice A ll[k].1.length p:=by obtain ⟨A,p,e,_⟩:=one_at hs1;exact ⟨A,p,e⟩
       obtain ⟨A2,p2,rfl⟩:∃ A p,r2=.slice A lm[k].1.length p:=by obtain ⟨A,p,e,_⟩:=one_at hs2;exact ⟨A,p,e⟩
       have HX1:=Lib.hid (cell_kept c1 HB.out)
       have HX2:=Lib.hid (cell_kept c2 HB.out)
       have HS1:=Lib.hid (StrsIn.kept hs1 HB.out)
       have HS2:=Lib.hid (StrsIn.kept hs2 HB.out)
       have HLK:Hid (k < ll.length):=hl1
       have HLK2:Hid (k < lm.length):=hl2
       have i1:(k:Int) < (ll.length:Int):=by omega
       have i2:(k:Int) < (lm.length:Int):=by omega
       have q1:IntKind.i64.wrap ((k:Int)+1)=(k:Int)+1:=by have:=HFL.out.1;rw [IntKind.wrap_i64];omega
       clear c1 c2 hs1 hs2
       generalize ll[k]=x at *
       generalize lm[k]=y at *
       obtain ⟨row1,c1⟩:=x
       obtain ⟨row2,c2⟩:=y
       dsimp only at *
       clear hl1 hl2
       have HM1:Hid (∀ W,Below wr.heap.size wr W→GivesAt Try.prog 9 #[.slice A1 row1.length p1,.slice A2 row2.length p2,.slice An nn.length cn] W (.bool (meetsB row1 row2 nn))):=fun W hW=>pmeets_calls (StrsIn.kept HS1.out hW) (StrsIn.kept HS2.out hW) (HON.out.kept (HB.out.trans (hW.mono HB.out.size)))
       have HM2:Hid (∀ W,Below wr.heap.size wr W→GivesAt Try.prog 10 #[.slice A1 row1.length p1,.slice A2 row2.length p2,.slice An nn.length cn] W (.bool (meetsB row1 row2 nn))):=fun W hW=>ref_meets_calls (StrsIn.kept HS1.out hW) (StrsIn.kept HS2.out hW) (HON.out.kept (HB.out.trans (hW.mono HB.out.size)))
       generalize meetsB row1 row2 nn=mt at *
       have dm:(mt != mt)=false:=by simp
       clear hk hk2
       go_wp2_with fail
       refine wp_region_calm (offC wr) (fun _=>false) (fun _=>false) anyE false (by kernel_rfl) (by kernel_rfl) (by kernel_rfl) (by kernel_rfl) (by intro m hm;revert hm;simp;try omega) (offC_stable _) (offC_start _) ?_
       refine calm_fixA rfl rfl ?_
       apply Exists.intro
       refine ⟨fun a wz hc hk hf K hK=>?_,?_⟩
       ·have h0:=hk 0 (by kernel_rfl)
        clear hk hf hc
        go_simp
        exact hK _ _ (Below.refl _ _) rfl
       refine calm_fixA rfl rfl ?_
       apply Exists.intro
       refine ⟨fun a wz hc hk hf K hK=>?_,?_⟩
       ·have h7:=hk 7 (by kernel_rfl)
        clear hk hf hc
        go_simp
        exact hK _ _ (Below.refl _ _) rfl
       refine calm_fixA rfl rfl ?_
       apply Exists.intro
       refine ⟨fun a wz hc hk hf K hK=>?_,?_⟩
       ·have h34:=held_isV hf 1 rfl (by kernel_rfl)
        have h35:=held_isV hf 0 rfl (by kernel_rfl)
        clear hk hf hc
        go_simp
        exact hK _ _ (Below.refl _ _) rfl
       refine calm_fixA rfl rfl ?_
       apply Exists.intro
       refine ⟨fun a wz hc hk hf K hK=>?_,?_⟩
       ·have h36:=held_isV hf 0 rfl (by kernel_rfl)
        clear hk hf hc
        go_simp
        exact hK _ _ (Below.refl _ _) rfl
       refine calm_fixA rfl rfl ?_
       apply Exists.intro
       refine ⟨fun a wz hc hk hf K hK=>?_,?_⟩
       ·have hb:Below wr.heap.size wr wz:=hc rfl
        have h37:=held_isV hf 0 rfl (by kernel_rfl)
        clear hk hf hc
        have x1:=cell_kept HX1.out hb
        have x2:=cell_kept HX2.out hb
        go_simp
        exact hK _ _ (Below.refl _ _) rfl
       refine calm_fixA rfl rfl ?_
       apply Exists.intro
       refine ⟨fun a wz hc hk hf K hK=>?_,?_⟩
       ·have h1:=hk 1 (by kernel_rfl)
        clear hk hf hc
        go_simp
        exact hK _ _ (Below.refl _ _) rfl
       refine calm_fixA rfl rfl ?_
       apply Exists.intro
       refine ⟨fun a wz hc hk hf K hK=>?_,?_⟩
       ·have h7:=hk 7 (by kernel_rfl)
        clear hk hf hc
        go_simp
        exact hK _ _ (Below.refl _ _) rfl
       refine calm_fixA rfl rfl ?_
       apply Exists.intro
       refine ⟨fun a wz hc hk hf K hK=>?_,?_⟩
       ·have h39:=held_isV hf 1 rfl (by kernel_rfl)
        have h40:=held_isV hf 0 rfl (by kernel_rfl)
        clear hk hf hc
        go_simp
        exact hK _ _ (Below.refl _ _) rfl
       refine calm_fixA rfl rfl ?_
       apply Exists.intro
       refine ⟨fun a wz hc hk hf K hK=>?_,?_⟩
       ·have h41:=held_isV hf 0 rfl (by kernel_rfl)
        clear hk hf hc
        go_simp
        exact hK _ _ (Below.refl _ _) rfl
       refine calm_fixA rfl rfl ?_
       apply Exists.intro
       refine ⟨fun a wz hc hk hf K hK=>?_,?_⟩
       ·have hb:Below wr.heap.size wr wz:=hc rfl
        have h42:=held_isV hf 0 rfl (by kernel_rfl)
        clear hk hf hc
        have x1:=cell_kept HX1.out hb
        have x2:=cell_kept HX2.out hb
        go_simp
        exact hK _ _ (Below.refl _ _) rfl
       refine calm_fixA rfl rfl ?_
       apply Exists.intro
       refine ⟨fun a wz hc hk hf K hK=>?_,?_⟩
       ·have h2:=hk 2 (by kernel_rfl)
        clear hk hf hc
        go_simp
        exact hK _ _ (Below.refl _ _) rfl
       refine calm_fixA rfl rfl ?_
       apply Exists.intro
       refine ⟨fun a wz hc hk hf K hK=>?_,?_⟩
       ·have hb:Below wr.heap.size wr wz:=hc rfl
        have h38:=held_isV hf 6 rfl (by kernel_rfl)
        have h43:=held_isV hf 1 rfl (by kernel_rfl)
        have h44:=held_isV hf 0 rfl (by kernel_rfl)
        clear hk hf hc
        have x1:=cell_kept HX1.out hb
        have x2:=cell_kept HX2.out hb
        go_simp
        refine Calls.mono (HM1.out wz hb) ?_
        rintro e w1 ⟨rfl,hq⟩
        exact hK _ _ hq rfl
       refine calm_fixA rfl rfl ?_
       apply Exists.intro
       refine ⟨fun a wz hc hk hf K hK=>?_,?_⟩
       ·have h0:=hk 0 (by kernel_rfl)
        clear hk hf hc
        go_simp
        exact hK _ _ (Below.refl _ _) rfl
       refine calm_fixA rfl rfl ?_
       apply Exists.intro
       refine ⟨fun a wz hc hk hf K hK=>?_,?_⟩
       ·have h7:=hk 7 (by kernel_rfl)
        clear hk hf hc
        go_simp
        exact hK _ _ (Below.refl _ _) rfl
       refine calm_fixA rfl rfl ?_
       apply Exists.intro
       refine ⟨fun a wz hc hk hf K hK=>?_,?_⟩
       ·have h46:=held_isV hf 1 rfl (by kernel_rfl)
        have h47:=held_isV hf 0 rfl (by kernel_rfl)
        clear hk hf hc
        go_simp
        exact hK _ _ (Below.refl _ _) rfl
       refine calm_fixA rfl rfl ?_
       apply Exists.intro
       refine ⟨fun a wz hc hk hf K hK=>?_,?_⟩
       ·have h48:=held_isV hf 0 rfl (by kernel_rfl)
        clear hk hf hc
        go_simp
        exact hK _ _ (Below.refl _ _) rfl
       refine calm_fixA rfl rfl ?_
       apply Exists.intro
       refine ⟨fun a wz hc hk hf K hK=>?_,?_⟩
       ·have hb:Below wr.heap.size wr wz:=hc rfl
        have h49:=held_isV hf 0 rfl (by kernel_rfl)
        clear hk hf hc
        have x1:=cell_kept HX1.out hb
        have x2:=cell_kept HX2.out hb
        go_simp
        exact hK _ _ (Below.refl _ _) rfl
       refine calm_fixA rfl rfl ?_
       apply Exists.intro
       refine ⟨fun a wz hc hk hf K hK=>?_,?_⟩
       ·have h1:=hk 1 (by kernel_rfl)
        clear hk hf hc
        go_simp
        exact hK _ _ (Below.refl _ _) rfl
       refine calm_fixA rfl rfl ?_
       apply Exists.intro
       refine ⟨fun a wz hc hk hf K hK=>?_,?_⟩
       ·have h7:=hk 7 (by kernel_rfl)
        clear hk hf hc
        go_simp
        exact hK _ _ (Below.refl _ _) rfl
       refine calm_fixA rfl rfl ?_
       apply Exists.intro
       refine ⟨fun a wz hc hk hf K hK=>?_,?_⟩
       ·have h51:=held_isV hf 1 rfl (by kernel_rfl)
        have h52:=held_isV hf 0 rfl (by kernel_rfl)
        clear hk hf hc
        go_simp
        exact hK _ _ (Below.refl _ _) rfl
       refine calm_fixA rfl rfl ?_
       apply Exists.intro
       refine ⟨fun a wz hc hk hf K hK=>?_,?_⟩
       ·have h53:=held_isV hf 0 rfl (by kernel_rfl)
        clear hk hf hc
        go_simp
        exact hK _ _ (Below.refl _ _) rfl
       refine calm_fixA rfl rfl ?_
       apply Exists.intro
       refine ⟨fun a wz hc hk hf K hK=>?_,?_⟩
       ·have hb:Below wr.heap.size wr wz:=hc rfl
        have h54:=held_isV hf 0 rfl (by kernel_rfl)
        clear hk hf hc
        have x1:=cell_kept HX1.out hb
        have x2:=cell_kept HX2.out hb
        go_simp
        exact hK _ _ (Below.refl _ _) rfl
       refine calm_fixA rfl rfl ?_
       apply Exists.intro
       refine ⟨fun a wz hc hk hf K hK=>?_,?_⟩
       ·have h2:=hk 2 (by kernel_rfl)
        clear hk hf hc
        go_simp
        exact hK _ _ (Below.refl _ _) rfl
       refine calm_fixA rfl rfl ?_
       apply Exists.intro
       refine ⟨fun a wz hc hk hf K hK=>?_,?_⟩
       ·have hb:Below wr.heap.size wr wz:=hc rfl
        have h50:=held_isV hf 6 rfl (by kernel_rfl)
        have h55:=held_isV hf 1 rfl (by kernel_rfl)
        have h56:=held_isV hf 0 rfl (by kernel_rfl)
        clear hk hf hc
        have x1:=cell_kept HX1.out hb
        have x2:=cell_kept HX2.out hb
        go_simp
        refine Calls.mono (HM2.out wz hb) ?_
        rintro e w1 ⟨rfl,hq⟩
        exact hK _ _ hq rfl
       refine calm_fixA rfl rfl ?_
       apply Exists.intro
       refine ⟨fun a wz hc hk hf K hK=>?_,?_⟩
       ·have h45:=held_isV hf 12 rfl (by kernel_rfl)
        have h57:=held_isV hf 0 rfl (by kernel_rfl)
        clear hk hf hc
        go_simp
        exact hK _ _ (Below.refl _ _) rfl
       refine calm_nil ?_
       refine ⟨keeps_none,?_⟩
       intro wn101 hc
       simp only [lexL,calmEnd]
       rintro _ rfl _ rfl _ rfl _ rfl _ rfl _ rfl _ rfl _ rfl _ rfl _ rfl _ rfl _ rfl _ rfl _ rfl _ rfl _ rfl _ rfl _ rfl _ rfl _ rfl _ rfl _ rfl _ rfl _ rfl _ rfl
       have hq:Below wr.heap.size wr wn101:=hc rfl
       have HBN:=Lib.hid (HBR.out.trans (hq.mono HBR.out.size))
       clear hc
       simp only [Act.put,List.setIfInBounds_toArray,List.set_cons_zero,List.set_cons_succ]
       clear hq HX1 HX2 HS1 HS2 HM1 HM2 HB
       go_wp2
       go_roundw
       case rel=>exact ⟨k+1,HLK.out,HLK2.out,by go_num,HBN⟩
       case measure=>have:=HLK.out;simp [intOf];omega
      ·obtain rfl:k=lm.length:=by omega
       have i1:(lm.length:Int) < (ll.length:Int):=by omega
       clear hl1 hl2 hk hk2
       clear HBR
       go_wp2_with fail
       refine Calls.mono (HAW.out wr) ?_
       rintro e wn301 ⟨rfl,hq⟩
       replace HB:=Lib.hid (HB.out.trans (hq.mono HB.out.size))
       clear hq
       go_wp2_with fail
       refine Calls.mono (pjoin_calls (HLL.out.kept HB.out) (HLM.out.kept HB.out) (HON.out.kept HB.out) HFL.out HFM.out (by decide)) ?_
       rintro e wn302 ⟨va,rfl,hk,hq⟩
       have Ha:Hid (TimesIn wn302 va (joinS ll lm nn)):=hk
       clear hk
       replace HB:=Lib.hid (HB.out.trans (hq.mono HB.out.size))
       clear hq
       go_wp2_with fail
       refine Calls.mono (ref_join19_calls (HLL.out.kept HB.out) (HLM.out.kept HB.out) (HON.out.kept HB.out) HFL.out HFM.out (by decide)) ?_
       rintro e wn303 ⟨vb,rfl,hk,hq⟩
       have Hb:Hid (TimesIn wn303 vb (joinS ll lm nn)):=hk
       clear hk
       replace HB:=Lib.hid (HB.out.trans (hq.mono HB.out.size))
       replace Ha:=Lib.hid (Ha.out.kept hq)
       clear hq
       go_wp2_with fail
       refine Calls.mono (same19F Ha.out Hb.out (HFL.out.join HFM.out _) (by decide)) ?_
       rintro e wn304 ⟨rfl,hq⟩
       replace HB:=Lib.hid (HB.out.trans (hq.mono HB.out.size))
       replace Ha:=Lib.hid (Ha.out.kept hq)
       replace Hb:=Lib.hid (Hb.out.kept hq)
       clear hq
       go_wp2
       go_ret
       exact ⟨rfl,HB.out⟩
     ·obtain rfl:k=ll.length:=by omega
      clear hl1 hk hk2
      clear HBR
      go_wp2_with fail
      refine Calls.mono (HAW.out wr) ?_
      rintro e wn401 ⟨rfl,hq⟩
      replace HB:=Lib.hid (HB.out.trans (hq.mono HB.out.size))
      clear hq
      go_wp2_with fail
      refine Calls.mono (pjoin_calls (HLL.out.kept HB.out) (HLM.out.kept HB.out) (HON.out.kept HB.out) HFL.out HFM.out (by decide)) ?_
      rintro e wn402 ⟨va,rfl,hk,hq⟩
      have Ha:Hid (TimesIn wn402 va (joinS ll lm nn)):=hk
      clear hk
      replace HB:=Lib.hid (HB.out.trans (hq.mono HB.out.size))
      clear hq
      go_wp2_with fail
      refine Calls.mono (ref_join19_calls (HLL.out.kept HB.out) (HLM.out.kept HB.out) (HON.out.kept HB.out) HFL.out HFM.out (by decide)) ?_
      rintro e wn403 ⟨vb,rfl,hk,hq⟩
      have Hb:Hid (TimesIn wn403 vb (joinS ll lm nn)):=hk
      clear hk
      replace HB:=Lib.hid (HB.out.trans (hq.mono HB.out.size))
      replace Ha:=Lib.hid (Ha.out.kept hq)
      clear hq
      go_wp2_with fail
      refine Calls.mono (same19F Ha.out Hb.out (HFL.out.join HFM.out _) (by decide)) ?_
      rintro e wn404 ⟨rfl,hq⟩
      replace HB:=Lib.hid (HB.out.trans (hq.mono HB.out.size))
      replace Ha:=Lib.hid (Ha.out.kept hq)
      replace Hb:=Lib.hid (Hb.out.kept hq)
      clear hq
      go_wp2
      go_ret
      exact ⟨rfl,HB.out⟩
   ·have dcn:decide ((12:Int) < (nn.length:Int))=true:=decide_eq_true (by omega)
    clear hcn
    go_wp2_with fail
    refine Calls.mono (HAW.out wn2) ?_
    rintro e wn3 ⟨rfl,hq⟩
    replace HB:=Lib.hid (HB.out.trans (hq.mono HB.out.size))
    clear hq
    go_wp2
    go_ret
    exact ⟨rfl,HB.out⟩
end Go.Proofs.Ytaoeikeobfllkaa
