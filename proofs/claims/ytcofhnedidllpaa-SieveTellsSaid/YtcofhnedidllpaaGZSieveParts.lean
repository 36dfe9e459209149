/- The law SieveParts of layer 18. -/
import Derived.Test.YtcofhnedidllpaaGZTermKit
import Derived.Test.YtcofhnedidllpaaGZSieveFine
namespace Go.Proofs.Ytcofhnedidllpaa
open Go Go.RowKit
theorem not_parts18 {e:ByteArray}(h:e=noC∨e=yesC∨e=nayC):(e=yesC∧notC e≠yesC∧boolCell e.toList.isEmpty≠yesC)∨(e≠yesC∧notC e=yesC∧boolCell e.toList.isEmpty≠yesC)∨(e≠yesC∧notC e≠yesC∧boolCell e.toList.isEmpty=yesC):=by
 rcases h with rfl|rfl|rfl
 ·right;right;decide +kernel
 ·left;decide +kernel
 ·right;left;decide +kernel
theorem parts18 {t:Trm}{l:List Tm}(h:∀ x∈l,evalT x.1 t=noC∨evalT x.1 t=yesC∨evalT x.1 t=nayC):sumW (sumW (filtS t l) (filtS (oneT15 33 t) l)) (filtS (oneT15 63 t) l)=ofW l :=
 parts_sum fun x hx=>by
  rw [eval_not,eval_is]
  exact not_parts18 (h x hx)
set_option maxHeartbeats 16000000 in
set_option maxRecDepth 100000 in
theorem sieveParts_calls {w:World}{vl vt:Value}{ll:List Tm}{tt:Trm}(hl:TimesIn w vl ll)(ht:TermIn w vt tt):GivesAt Try.prog 5 #[vl,vt] w (.bool true):=by
 have HAW:=Lib.hid awake18_calls
 have HSL:Hid (∀ W,Below w.heap.size w W→GivesAt Try.prog 8 #[vl] W (.bool (smallV ll))):=fun W hW=>(small18_calls (hl.kept hW)).gives
 have HNL:=Lib.hid fun (h:smallV ll=true)=>facts18 h
 have HLL:=Lib.hid hl
 obtain ⟨Al,cl,rfl⟩:=times_slice hl
 have HGT:Hid (∀ W,Below w.heap.size w W→GivesAt Try.prog 9 #[vt,.int .i64 1] W (.bool (greatV 1 tt))):=fun W hW=>great18_calls tt W vt 1 (by decide) (ht.kept hW)
 have HTT:=Lib.hid ht
 obtain ⟨Pt,pt,rfl⟩:=ht.parts15
 have alt:=Below.alloc (.refl w.heap.size w) (Nat.le_refl _) (.cells #[.int .u8 tt.op,.int .i64 tt.col,.string tt.cell,.slice Pt tt.kids.length pt] 25)
 have bxt:=trmbox_lit w 25 tt.op tt.col tt.cell (.slice Pt tt.kids.length pt)
 have HXT:=Lib.hid bxt
 have HB:=Lib.hid alt
 clear alt bxt
 clear hl ht
 unfold GivesAt
 go_enter Try.func5,Try.ntmps5
 cases hsl:smallV ll with
 | false =>
  rw [hsl] at HSL
  clear hsl
  go_wp2_with fail
  generalize World.alloc w _=w0 at *
  go_wp2_with fail
  refine Calls.mono (HSL.out w0 HB.out) ?_
  rintro e wn1 ⟨rfl,hq⟩
  replace HXT:=Lib.hid (HXT.out.later hq)
  replace HB:=Lib.hid (HB.out.trans (hq.mono HB.out.size))
  clear hq
  go_wp2_with fail
  refine Calls.mono (HAW.out wn1) ?_
  rintro e wn2 ⟨rfl,hq⟩
  replace HXT:=Lib.hid (HXT.out.later hq)
  replace HB:=Lib.hid (HB.out.trans (hq.mono HB.out.size))
  clear hq
  go_wp2
  go_ret
  exact ⟨rfl,HB.out⟩
 | true =>
  rw [hsl] at HSL
  replace HNL:=Lib.hid (HNL.out hsl)
  clear hsl
  go_wp2_with fail
  generalize World.alloc w _=w0 at *
  go_wp2_with fail
  refine Calls.mono (HSL.out w0 HB.out) ?_
  rintro e wn1 ⟨rfl,hq⟩
  replace HXT:=Lib.hid (HXT.out.later hq)
  replace HB:=Lib.hid (HB.out.trans (hq.mono HB.out.size))
  clear hq
  cases hgt:greatV 1 tt with
  | true =>
   rw [hgt] at HGT
   clear hgt
   obtain ⟨t0,t1,t2,t3,_⟩:=HXT.out.cells
   go_wp2_with fail
   clear t0 t1 t2 t3
   refine Calls.mono (HGT.out wn1 HB.out) ?_
   rintro e wn2 ⟨rfl,hq⟩
   replace HXT:=Lib.hid (HXT.out.later hq)
   replace HB:=Lib.hid (HB.out.trans (hq.mono HB.out.size))
   clear hq
   go_wp2_with fail
   refine Calls.mono (HAW.out wn2) ?_
   rintro e wn3 ⟨rfl,hq⟩
   replace HXT:=Lib.hid (HXT.out.later hq)
   replace HB:=Lib.hid (HB.out.trans (hq.mono HB.out.size))
   clear hq
   go_wp2
   go_ret
   exact ⟨rfl,HB.out⟩
  | false =>
   rw [hgt] at HGT
   clear hgt
   obtain ⟨t0,t1,t2,t3,_⟩:=HXT.out.cells
   go_wp2_with fail
   clear t0 t1 t2 t3
   refine Calls.mono (HGT.out wn1 HB.out) ?_
   rintro e wn2 ⟨rfl,hq⟩
   replace HXT:=Lib.hid (HXT.out.later hq)
   replace HB:=Lib.hid (HB.out.trans (hq.mono HB.out.size))
   clear hq
   have HFL:Hid (Fine 60 109951162777600 ll):=HNL.out
   clear HNL HSL HGT
   obtain ⟨t0,t1,t2,t3,_⟩:=HXT.out.cells
   go_upto_region 4 with fail
   clear t0 t1 t2 t3
   have q1:=Below.alloc (.refl wn2.heap.size wn2) (Nat.le_refl _) (.cells #[.int .u8 tt.op,.int .i64 tt.col,.string tt.cell,.slice Pt tt.kids.length pt] 25)
   have hq:=Below.alloc q1 q1.size (.cells #[.int .u8 33,.int .i64 0,.string ⟨#[]⟩,.slice (some ⟨wn2.heap.size,0,none⟩) 1 1] 25)
   have hbt:=one_built 25 33 (by decide) (by decide) (HTT.out.kept HB.out)
   have HTN:=Lib.hid (hbt.kept (Below.alloc (.refl _ _) (Nat.le_refl _) (.cells #[.int .u8 33,.int .i64 0,.string ⟨#[]⟩,.slice (some ⟨wn2.heap.size,0,none⟩) 1 1] 25)))
   have hbx:=trmbox_lit (wn2.alloc (.cells #[.int .u8 tt.op,.int .i64 tt.col,.string tt.cell,.slice Pt tt.kids.length pt] 25)) 25 33 0 ⟨#[]⟩ (.slice (some ⟨wn2.heap.size,0,none⟩) 1 1)
   rw [show (wn2.alloc (.cells #[.int .u8 tt.op,.int .i64 tt.col,.string tt.cell,.slice Pt tt.kids.length pt] 25)).heap.size=wn2.heap.size+1 by simp] at hbx
   have HXN:=Lib.hid hbx
   clear hbt hbx q1
   replace HXT:=Lib.hid (HXT.out.later hq)
   replace HB:=Lib.hid (HB.out.trans (hq.mono HB.out.size))
   clear hq
   generalize World.alloc (World.alloc wn2 _) _=wn3 at *
   obtain ⟨t0,t1,t2,t3,_⟩:=HXT.out.cells
   go_upto_region 5 with fail
   clear t0 t1 t2 t3
   have q1:=Below.alloc (.refl wn3.heap.size wn3) (Nat.le_refl _) (.cells #[.int .u8 tt.op,.int .i64 tt.col,.string tt.cell,.slice Pt tt.kids.length pt] 25)
   have hq:=Below.alloc q1 q1.size (.cells #[.int .u8 63,.int .i64 0,.string ⟨#[]⟩,.slice (some ⟨wn3.heap.size,0,none⟩) 1 1] 25)
   have hbt:=one_built 25 63 (by decide) (by decide) (HTT.out.kept HB.out)
   have HTO:=Lib.hid (hbt.kept (Below.alloc (.refl _ _) (Nat.le_refl _) (.cells #[.int .u8 63,.int .i64 0,.string ⟨#[]⟩,.slice (some ⟨wn3.heap.size,0,none⟩) 1 1] 25)))
   have hbx:=trmbox_lit (wn3.alloc (.cells #[.int .u8 tt.op,.int .i64 tt.col,.string tt.cell,.slice Pt tt.kids.length pt] 25)) 25 63 0 ⟨#[]⟩ (.slice (some ⟨wn3.heap.size,0,none⟩) 1 1)
   rw [show (wn3.alloc (.cells #[.int .u8 tt.op,.int .i64 tt.col,.string tt.cell,.slice Pt tt.kids.length pt] 25)).heap.size=wn3.heap.size+1 by simp] at hbx
   have HXO:=Lib.hid hbx
   clear hbt hbx q1
   replace HXT:=Lib.hid (HXT.out.later hq)
   replace HB:=Lib.hid (HB.out.trans (hq.mono HB.out.size))
   replace HXN:=Lib.hid (HXN.out.later hq)
   replace HTN:=Lib.hid (HTN.out.kept hq)
   clear hq
   generalize World.alloc (World.alloc wn3 _) _=wn4 at *
   obtain ⟨t0,t1,t2,t3,_⟩:=HXT.out.cells
   go_wp2_with fail
   clear t0 t1 t2 t3
   refine Calls.mono (filter18 (HLL.out.kept HB.out) (HTT.out.kept HB.out) HFL.out (by decide)) ?_
   rintro e wn5 ⟨vy,rfl,hk,hq⟩
   have Hy:Hid (TimesIn wn5 vy (filtS tt ll)):=hk
   clear hk
   replace HXT:=Lib.hid (HXT.out.later hq)
   replace HB:=Lib.hid (HB.out.trans (hq.mono HB.out.size))
   replace HXN:=Lib.hid (HXN.out.later hq)
   replace HTN:=Lib.hid (HTN.out.kept hq)
   replace HXO:=Lib.hid (HXO.out.later hq)
   replace HTO:=Lib.hid (HTO.out.kept hq)
   clear hq
   go_wp2
   go_loopw [8] (fun i wr=>∃ k:Nat,k≤ll.length∧i=.int .i64 k∧Hid (∀ x∈ll.take k,evalT x.1 tt=noC∨evalT x.1 tt=yesC∨evalT x.1 tt=nayC)∧Hid (Below wn5.heap.size wn5 wr)) (fun i _=>ll.length-(intOf i).toNat)
   case atStart=>exact ⟨0,Nat.zero_le _,rfl,(Lib.hid fun x hx=>absurd hx (by simp)),Lib.hid (.refl _ _)⟩
   case round =>
    obtain ⟨k,hk,rfl,HK,HBR⟩:=hrel
    have hq:=HBR.out
    replace HXT:=Lib.hid (HXT.out.later hq)
    replace HB:=Lib.hid (HB.out.trans (hq.mono HB.out.size))
    replace HXN:=Lib.hid (HXN.out.later hq)
    replace HTN:=Lib.hid (HTN.out.kept hq)
    replace HXO:=Lib.hid (HXO.out.later hq)
    replace HTO:=Lib.hid (HTO.out.kept hq)
    replace Hy:=Lib.hid (Hy.out.kept hq)
    clear hq
    by_cases hlt:k < ll.length
    ·obtain ⟨b,off,cap',e0⟩:=times_some HLL.out (by omega)
     obtain ⟨rfl,rfl⟩:Al=some ⟨b,off,none⟩∧cl=cap':=by injection e0 with e1 _ e2;exact ⟨e1,e2⟩
     clear e0
     obtain ⟨rv,hs,c1,_⟩:=times_cellAt HLL.out k hlt
     have HX1:=Lib.hid ((HB.out.cell (p:=⟨b,off+k*2,none⟩) (spot_of_cell c1).2).trans c1)
     have HTK:=Lib.hid (take_add ll k hlt)
     have HS:=Lib.hid (StrsIn.kept hs HB.out)
     obtain ⟨Ar,pr,rfl⟩:∃ Ar pr,rv=.slice Ar ll[k].1.length pr:=by obtain ⟨Ar,pr,e,_⟩:=one_at hs;exact ⟨Ar,pr,e⟩
     have i1:(k:Int) < (ll.length:Int):=by omega
     have q1:IntKind.i64.wrap ((k:Int)+1)=(k:Int)+1:=by have:=HFL.out.1;rw [IntKind.wrap_i64];omega
     have HLK:Hid (k < ll.length):=hlt
     clear c1 hs
     generalize ll[k]=x at *
     obtain ⟨row,c⟩:=x
     dsimp only at *
     have HE:Hid (∀ W,Below wr.heap.size wr W→GivesAt Try.prog 18 #[.agg #[.int .u8 tt.op,.int .i64 tt.col,.string tt.cell,.slice Pt tt.kids.length pt],.slice Ar row.length pr] W (.string (evalT row tt))):=fun W hW=>ref_eval_calls (row:=row) tt W _ _ (HTT.out.kept (HB.out.trans (hW.mono HB.out.size))) (StrsIn.kept HS.out hW)
     have HKN:Hid ((evalT row tt=noC∨evalT row tt=yesC∨evalT row tt=nayC)→∀ x∈ll.take (k+1),evalT x.1 tt=noC∨evalT x.1 tt=yesC∨evalT x.1 tt=nayC):=fun h x hx=>by
      rw [HTK.out] at hx
      rcases List.mem_append.1 hx with hx|hx
      ·exact HK.out x hx
      ·rw [List.mem_singleton.1 hx];exact h
     obtain ⟨ev,hev⟩:∃ ev,evalT row tt=ev:=⟨_,rfl⟩
     rw [hev] at HE HKN
     clear hev hlt hk HTK HK HS
     go_wp2_with fail
     refine wp_region_calm (offC wr) (fun _=>false) (fun _=>false) anyE false (by kernel_rfl) (by kernel_rfl) (by kernel_rfl) (by kernel_rfl) (by intro m hm;revert hm;simp;try omega) (offC_stable _) (offC_start _) ?_
     refine calm_fixA rfl rfl ?_
     apply Exists.intro
     refine ⟨fun a wz hc hk hf K hK=>?_,?_⟩
     ·have hb:Below wr.heap.size wr wz:=hc rfl
      have h3:=hk 3 (by kernel_rfl)
      clear hk hf hc
      obtain ⟨t0,t1,t2,t3,_⟩:=(HXT.out.later hb).cells
      go_simp
      exact hK _ _ (Below.refl _ _) rfl
     refine calm_fixA rfl rfl ?_
     apply Exists.intro
     refine ⟨fun a wz hc hk hf K hK=>?_,?_⟩
     ·have h0:=hk 0 (by kernel_rfl)
      clear hk hf hc
      go_simp
      exact hK _ _ (Below.refl _ _) rfl
     refine calm_fixA rfl rfl ?_
     apply Exists.intro
     refine ⟨fun a wz hc hk hf K hK=>?_,?_⟩
     ·have h8:=hk 8 (by kernel_rfl)
      clear hk hf hc
      go_simp
      exact hK _ _ (Below.refl _ _) rfl
     refine calm_fixA rfl rfl ?_
     apply Exists.intro
     refine ⟨fun a wz hc hk hf K hK=>?_,?_⟩
     ·have h35:=held_isV hf 1 rfl (by kernel_rfl)
      have h36:=held_isV hf 0 rfl (by kernel_rfl)
      clear hk hf hc
      go_simp
      exact hK _ _ (Below.refl _ _) rfl
     refine calm_fixA rfl rfl ?_
     apply Exists.intro
     refine ⟨fun a wz hc hk hf K hK=>?_,?_⟩
     ·have h37:=held_isV hf 0 rfl (by kernel_rfl)
      clear hk hf hc
      go_simp
      exact hK _ _ (Below.refl _ _) rfl
     refine calm_fixA rfl rfl ?_
     apply Exists.intro
     refine ⟨fun a wz hc hk hf K hK=>?_,?_⟩
     ·have hb:Below wr.heap.size wr wz:=hc rfl
      have h38:=held_isV hf 0 rfl (by kernel_rfl)
      clear hk hf hc
      have x1:=cell_kept HX1.out hb
      go_simp
      exact hK _ _ (Below.refl _ _) rfl
     refine calm_fixA rfl rfl ?_
     apply Exists.intro
     refine ⟨fun a wz hc hk hf K hK=>?_,?_⟩
     ·have hb:Below wr.heap.size wr wz:=hc rfl
      have h34:=held_isV hf 5 rfl (by kernel_rfl)
      have h39:=held_isV hf 0 rfl (by kernel_rfl)
      clear hk hf hc
      go_simp
      refine Calls.mono (HE.out wz hb) ?_
      rintro e w1 ⟨rfl,hq⟩
      exact hK _ _ hq rfl
     refine calm_fixA rfl rfl ?_
     apply Exists.intro
     refine ⟨fun a wz hc hk hf K hK=>?_,?_⟩
     ·have h40:=held_isV hf 0 rfl (by kernel_rfl)
      clear hk hf hc
      go_simp
      exact hK _ _ (Below.refl _ _) rfl
     refine calm_nil ?_
     refine ⟨keeps_none,?_⟩
     intro wn101 hc
     simp only [lexL,calmEnd]
     rintro _ rfl _ rfl _ rfl _ rfl _ rfl _ rfl _ rfl _ rfl
     have hq:Below wr.heap.size wr wn101:=hc rfl
     clear hc 
     simp only [Act.put,List.setIfInBounds_toArray,List.set_cons_zero,List.set_cons_succ]
     replace HXT:=Lib.hid (HXT.out.later hq)
     replace HB:=Lib.hid (HB.out.trans (hq.mono HB.out.size))
     replace HXN:=Lib.hid (HXN.out.later hq)
     replace HTN:=Lib.hid (HTN.out.kept hq)
     replace HXO:=Lib.hid (HXO.out.later hq)
     replace HTO:=Lib.hid (HTO.out.kept hq)
     replace Hy:=Lib.hid (Hy.out.kept hq)
     replace HBR:=Lib.hid (HBR.out.trans (hq.mono HBR.out.size))
     clear hq
     clear HE HX1
     rcases no_cases ev with ⟨h0,e0,e1⟩ | ⟨h0,e0,e1⟩
     ·have HKM:=Lib.hid (HKN.out (.inl h0))
      clear HKN h0
      go_wp2
      go_roundw
      case rel=>exact ⟨k+1,HLK.out,by go_num,HKM,HBR⟩
      case measure=>have:=HLK.out;simp [intOf];omega
     ·go_wp2_with fail
      refine Calls.mono (bool_calls true wn101) ?_
      rintro e wn102 ⟨rfl,hq⟩
      replace HXT:=Lib.hid (HXT.out.later hq)
      replace HB:=Lib.hid (HB.out.trans (hq.mono HB.out.size))
      replace HXN:=Lib.hid (HXN.out.later hq)
      replace HTN:=Lib.hid (HTN.out.kept hq)
      replace HXO:=Lib.hid (HXO.out.later hq)
      replace HTO:=Lib.hid (HTO.out.kept hq)
      replace Hy:=Lib.hid (Hy.out.kept hq)
      replace HBR:=Lib.hid (HBR.out.trans (hq.mono HBR.out.size))
      clear hq
      rcases str_ne_cases ev (boolCell true) with ⟨h1,e2,e3⟩ | ⟨h1,e2,e3⟩
      ·have HKM:=Lib.hid (HKN.out (.inr (.inl h1)))
       clear HKN h1 h0
       go_wp2
       go_roundw
       case rel=>exact ⟨k+1,HLK.out,by go_num,HKM,HBR⟩
       case measure=>have:=HLK.out;simp [intOf];omega
      ·go_wp2_with fail
       refine Calls.mono (bool_calls false wn102) ?_
       rintro e wn103 ⟨rfl,hq⟩
       replace HXT:=Lib.hid (HXT.out.later hq)
       replace HB:=Lib.hid (HB.out.trans (hq.mono HB.out.size))
       replace HXN:=Lib.hid (HXN.out.later hq)
       replace HTN:=Lib.hid (HTN.out.kept hq)
       replace HXO:=Lib.hid (HXO.out.later hq)
       replace HTO:=Lib.hid (HTO.out.kept hq)
       replace Hy:=Lib.hid (Hy.out.kept hq)
       replace HBR:=Lib.hid (HBR.out.trans (hq.mono HBR.out.size))
       clear hq
       rcases str_ne_cases ev (boolCell false) with ⟨h2,e4,e5⟩ | ⟨h2,e4,e5⟩
       ·have HKM:=Lib.hid (HKN.out (.inr (.inr h2)))
        clear HKN h2 h1 h0
        go_wp2
        go_roundw
        case rel=>exact ⟨k+1,HLK.out,by go_num,HKM,HBR⟩
        case measure=>have:=HLK.out;simp [intOf];omega
       ·go_wp2_with fail
        refine Calls.mono (HAW.out wn103) ?_
        rintro e wn104 ⟨rfl,hq⟩
        replace HXT:=Lib.hid (HXT.out.later hq)
        replace HB:=Lib.hid (HB.out.trans (hq.mono HB.out.size))
        replace HXN:=Lib.hid (HXN.out.later hq)
        replace HTN:=Lib.hid (HTN.out.kept hq)
        replace HXO:=Lib.hid (HXO.out.later hq)
        replace HTO:=Lib.hid (HTO.out.kept hq)
        replace Hy:=Lib.hid (Hy.out.kept hq)
        replace HBR:=Lib.hid (HBR.out.trans (hq.mono HBR.out.size))
        clear hq
        go_wp2
        go_ret
        exact ⟨rfl,HB.out⟩
    ·obtain rfl:k=ll.length:=by omega
     have HKE:=HK.out
     rw [List.take_length] at HKE
     have HPA:=Lib.hid (parts18 HKE)
     clear HKE HK HBR hlt hk
     go_wp2_with fail
     refine wp_region_calm (offC wr) (fun _=>false) (fun _=>false) anyE false (by kernel_rfl) (by kernel_rfl) (by kernel_rfl) (by kernel_rfl) (by intro m hm;revert hm;simp;try omega) (offC_stable _) (offC_start _) ?_
     refine calm_fixA rfl rfl ?_
     apply Exists.intro
     refine ⟨fun a wz hc hk hf K hK=>?_,?_⟩
     ·have h7:=hk 7 (by kernel_rfl)
      clear hk hf hc
      go_simp
      exact hK _ _ (Below.refl _ _) rfl
     refine calm_fixA rfl rfl ?_
     apply Exists.intro
     refine ⟨fun a wz hc hk hf K hK=>?_,?_⟩
     ·have h0:=hk 0 (by kernel_rfl)
      clear hk hf hc
      go_simp
      exact hK _ _ (Below.refl _ _) rfl
     refine calm_fixA rfl rfl ?_
     apply Exists.intro
     refine ⟨fun a wz hc hk hf K hK=>?_,?_⟩
     ·have hb:Below wr.heap.size wr wz:=hc rfl
      have h5:=hk 5 (by kernel_rfl)
      clear hk hf hc
      obtain ⟨n0,n1,n2,n3,_⟩:=(HXN.out.later hb).cells
      go_simp
      exact hK _ _ (Below.refl _ _) rfl
     refine calm_varA (fun u wx=>TimesIn wx u (filtS (oneT15 33 tt) ll)) rfl rfl (fun u w w' hb h=>TimesIn.kept h hb) (fun a wz hc hk hf K hK=>?_) ?_
     ·have hb:Below wr.heap.size wr wz:=hc rfl
      have h55:=held_isV hf 1 rfl (by kernel_rfl)
      have h56:=held_isV hf 0 rfl (by kernel_rfl)
      clear hk hf hc
      go_simp
      refine Calls.mono (filter18 (HLL.out.kept (HB.out.trans (hb.mono HB.out.size))) (HTN.out.kept hb) HFL.out (by decide)) ?_
      rintro e w1 ⟨u,rfl,hk,hq⟩
      exact hK _ _ hq (fun _=>hk)
     refine calm_varA (fun u wx=>TimesIn wx u (sumW (filtS tt ll) (filtS (oneT15 33 tt) ll))) rfl rfl (fun u w w' hb h=>TimesIn.kept h hb) (fun a wz hc hk hf K hK=>?_) ?_
     ·have hb:Below wr.heap.size wr wz:=hc rfl
      have h54:=held_isV hf 3 rfl (by kernel_rfl)
      obtain ⟨v57,h57,S57⟩:=held_at hf 0 rfl (by kernel_rfl)
      clear hk hf hc
      go_simp
      refine Calls.mono (sum18 (Hy.out.kept hb) (S57 rfl) (HFL.out.filt _) (HFL.out.filt _) (by decide)) ?_
      rintro e w1 ⟨u,rfl,hk,hq⟩
      exact hK _ _ hq (fun _=>hk)
     refine calm_fixA rfl rfl ?_
     apply Exists.intro
     refine ⟨fun a wz hc hk hf K hK=>?_,?_⟩
     ·have h0:=hk 0 (by kernel_rfl)
      clear hk hf hc
      go_simp
      exact hK _ _ (Below.refl _ _) rfl
     refine calm_fixA rfl rfl ?_
     apply Exists.intro
     refine ⟨fun a wz hc hk hf K hK=>?_,?_⟩
     ·have hb:Below wr.heap.size wr wz:=hc rfl
      have h6:=hk 6 (by kernel_rfl)
      clear hk hf hc
      obtain ⟨o0,o1,o2,o3,_⟩:=(HXO.out.later hb).cells
      go_simp
      exact hK _ _ (Below.refl _ _) rfl
     refine calm_varA (fun u wx=>TimesIn wx u (filtS (oneT15 63 tt) ll)) rfl rfl (fun u w w' hb h=>TimesIn.kept h hb) (fun a wz hc hk hf K hK=>?_) ?_
     ·have hb:Below wr.heap.size wr wz:=hc rfl
      have h59:=held_isV hf 1 rfl (by kernel_rfl)
      have h60:=held_isV hf 0 rfl (by kernel_rfl)
      clear hk hf hc
      go_simp
      refine Calls.mono (filter18 (HLL.out.kept (HB.out.trans (hb.mono HB.out.size))) (HTO.out.kept hb) HFL.out (by decide)) ?_
      rintro e w1 ⟨u,rfl,hk,hq⟩
      exact hK _ _ hq (fun _=>hk)
     refine calm_varA (fun u wx=>TimesIn wx u (sumW (sumW (filtS tt ll) (filtS (oneT15 33 tt) ll)) (filtS (oneT15 63 tt) ll))) rfl rfl (fun u w w' hb h=>TimesIn.kept h hb) (fun a wz hc hk hf K hK=>?_) ?_
     ·have hb:Below wr.heap.size wr wz:=hc rfl
      obtain ⟨v58,h58,S58⟩:=held_at hf 3 rfl (by kernel_rfl)
      obtain ⟨v61,h61,S61⟩:=held_at hf 0 rfl (by kernel_rfl)
      clear hk hf hc
      go_simp
      refine Calls.mono (sum18 (S58 rfl) (S61 rfl) ((HFL.out.filt _).sum (HFL.out.filt _)) (HFL.out.filt _) (by decide)) ?_
      rintro e w1 ⟨u,rfl,hk,hq⟩
      exact hK _ _ hq (fun _=>hk)
     refine calm_varA (fun u wx=>TimesIn wx u (sumW (sumW (filtS tt ll) (filtS (oneT15 33 tt) ll)) (filtS (oneT15 63 tt) ll))) rfl rfl (fun u w w' hb h=>TimesIn.kept h hb) (fun a wz hc hk hf K hK=>?_) ?_
     ·have hb:Below wr.heap.size wr wz:=hc rfl
      obtain ⟨v62,h62,S62⟩:=held_at hf 0 rfl (by kernel_rfl)
      clear hk hf hc
      go_simp
      exact hK _ _ (Below.refl _ _) fun _=>S62 rfl
     refine calm_nil ?_
     refine ⟨keeps_none,?_⟩
     intro wn6 hc
     simp only [lexL,calmEnd]
     rintro _ rfl _ rfl _ rfl v57 S57 v58 S58 _ rfl _ rfl v61 S61 v62 S62 v10 S10
     have hq:Below wr.heap.size wr wn6:=hc rfl
     have Ha_:Hid (TimesIn wn6 v10 (sumW (sumW (filtS tt ll) (filtS (oneT15 33 tt) ll)) (filtS (oneT15 63 tt) ll))):=S10 rfl
     clear hc S57 S58 S61 S62 S10
     simp only [Act.put,List.setIfInBounds_toArray,List.set_cons_zero,List.set_cons_succ]
     replace HXT:=Lib.hid (HXT.out.later hq)
     replace HB:=Lib.hid (HB.out.trans (hq.mono HB.out.size))
     replace HXN:=Lib.hid (HXN.out.later hq)
     replace HTN:=Lib.hid (HTN.out.kept hq)
     replace HXO:=Lib.hid (HXO.out.later hq)
     replace HTO:=Lib.hid (HTO.out.kept hq)
     replace Hy:=Lib.hid (Hy.out.kept hq)
     clear hq
     have Ha:=Ha_
     clear Ha_
     rw [HPA.out] at Ha
     clear HPA
     clear HTN HTO HXN HXO
     go_wp2_with fail
     refine Calls.mono (HAW.out wn6) ?_
     rintro e wn7 ⟨rfl,hq⟩
     replace HXT:=Lib.hid (HXT.out.later hq)
     replace HB:=Lib.hid (HB.out.trans (hq.mono HB.out.size))
     replace Hy:=Lib.hid (Hy.out.kept hq)
     replace Ha:=Lib.hid (Ha.out.kept hq)
     clear hq
     go_wp2_with fail
     refine Calls.mono (of18 (HLL.out.kept HB.out) HFL.out (by decide)) ?_
     rintro e wn8 ⟨vo,rfl,hk,hq⟩
     have Ho:Hid (TimesIn wn8 vo (ofW ll)):=hk
     clear hk
     replace HXT:=Lib.hid (HXT.out.later hq)
     replace HB:=Lib.hid (HB.out.trans (hq.mono HB.out.size))
     replace Hy:=Lib.hid (Hy.out.kept hq)
     replace Ha:=Lib.hid (Ha.out.kept hq)
     clear hq
     go_wp2_with fail
     refine Calls.mono (same18F Ha.out Ho.out HFL.out.of (by decide)) ?_
     rintro e wn9 ⟨rfl,hq⟩
     replace HXT:=Lib.hid (HXT.out.later hq)
     replace HB:=Lib.hid (HB.out.trans (hq.mono HB.out.size))
     replace Hy:=Lib.hid (Hy.out.kept hq)
     replace Ha:=Lib.hid (Ha.out.kept hq)
     replace Ho:=Lib.hid (Ho.out.kept hq)
     clear hq
     clear Ha Ho
     obtain ⟨t0,t1,t2,t3,_⟩:=HXT.out.cells
     go_wp2_with fail
     clear t0 t1 t2 t3
     refine Calls.mono (filter18 Hy.out (HTT.out.kept HB.out) (HFL.out.filt _) (by decide)) ?_
     rintro e wn10 ⟨vf,rfl,hk,hq⟩
     have Hf:Hid (TimesIn wn10 vf (filtS tt (filtS tt ll))):=hk
     clear hk
     replace HXT:=Lib.hid (HXT.out.later hq)
     replace HB:=Lib.hid (HB.out.trans (hq.mono HB.out.size))
     replace Hy:=Lib.hid (Hy.out.kept hq)
     clear hq
     rw [filt_twice] at Hf
     go_wp2_with fail
     refine Calls.mono (same18F Hf.out Hy.out (HFL.out.filt _) (by decide)) ?_
     rintro e wn11 ⟨rfl,hq⟩
     replace HXT:=Lib.hid (HXT.out.later hq)
     replace HB:=Lib.hid (HB.out.trans (hq.mono HB.out.size))
     replace Hy:=Lib.hid (Hy.out.kept hq)
     replace Hf:=Lib.hid (Hf.out.kept hq)
     clear hq
     go_wp2
     go_ret
     exact ⟨rfl,HB.out⟩
end Go.Proofs.Ytcofhnedidllpaa
