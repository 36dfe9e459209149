/- The law NormTells of layer 17. -/
import Derived.Test.YtnkhkkdmjabhnaaGZNormAwake
namespace Go.Proofs.Ytnkhkkdmjabhnaa
open Go Go.RowKit
theorem TermQ.kept17 {w w':World}{v:Value}{t:Trm}(hb:Below w.heap.size w w')(h:TermIn w v t):TermIn w' v t:=h.kept hb
theorem reftrue17_calls (w:World):Calls Try.prog 19 #[] w (TermEnd w trueT):=(ref_true_calls w).mono fun _ _ ⟨v,he,⟨kv,hv,ho,hk⟩,hb⟩=>⟨v,he,⟨kv,hv,ho,hk.any⟩,hb⟩
theorem parts17_calls {w:World}{v:Value}{t:Trm}(ht:TermIn w v t)(hs:Sm17 t):Calls Try.prog 13 #[v] w (PutEnd w (partsT t)):=(norm_parts_calls ht hs).mono fun _ _ ⟨u,he,hk,hb⟩=>⟨u,he,hk.any,hb⟩
set_option maxHeartbeats 8000000 in
set_option maxRecDepth 100000 in
theorem normTells_calls {w:World}{vt vl:Value}{t:Trm}{l:List Trm}(ht:TermIn w vt t)(hl:KidsIn w vl l):GivesAt Try.prog 3 #[vt,vl] w (.bool true):=by
 have hml:=hl.len
 unfold maxLen at hml
 have HAW:=Lib.hid awake17_calls
 have HT:=Lib.hid ht
 have HL:=Lib.hid hl
 have HG:Hid (∀ W,Below w.heap.size w W→GivesAt Try.prog 8 #[vt,.int .i64 0] W (.bool (greatN 0 t))):=fun W hW=>great17_calls t W vt 0 (by decide) (ht.kept hW)
 have HSM:=Lib.hid fun (h:greatN 0 t=false)=>greatN_sm ht (by decide) h
 obtain ⟨A,cap,rfl⟩:=ht.parts15
 obtain ⟨Al,pl,rfl,-⟩:=kids_at hl
 have hb:Below w.heap.size w (w.alloc (.cells #[.int .u8 t.op,.int .i64 t.col,.string t.cell,.slice A t.kids.length cap] 24)):=Below.alloc (.refl w.heap.size w) (Nat.le_refl _) _
 have hB:=hb.size
 have HX:=Lib.hid (trmbox_lit w 24 t.op t.col t.cell (.slice A t.kids.length cap))
 obtain ⟨n,hn⟩:∃ n,l.length=n:=⟨_,rfl⟩
 have HN:Hid (l.length=n):=hn
 rw [hn] at HL hml ⊢
 clear ht hl hn
 unfold GivesAt
 cases hg:greatN 0 t with
 | true =>
  rw [hg] at HG
  clear hg HSM
  go_enter Try.func3,Try.ntmps3
  go_wp2_with (first|(go_at_call 8;refine (HG.out _ hb).step (w0:=w) (B:=w.heap.size) hb hB ?_;clear hb hB;intro wg hb hB)|(go_at_call 9;refine (HAW.out _).step (w0:=w) (B:=w.heap.size) hb hB ?_;clear hb hB;intro wa hb hB))
  go_ret
  exact ⟨rfl,hb⟩
 | false =>
  replace HSM:=Lib.hid (HSM.out hg)
  rw [hg] at HG
  clear hg
  by_cases h8:n≤8
  ·have d8:decide ((8:Int) < (n:Int))=false:=decide_eq_false (by omega)
   have H8:Hid (n≤8):=h8
   clear h8
   go_enter Try.func3,Try.ntmps3
   go_wp2_with fail
   refine (HG.out _ hb).stepB (w0:=w) (B:=w.heap.size) hb hB ?_
   clear hb hB
   intro w1 hb hB hq
   have HX1:=Lib.hid (HX.out.later hq)
   have HB1:=Lib.hid hb
   clear hq hb hB HX HG
   go_wp2
   go_loopw [5] (fun ix wr=>∃ i:Nat,i≤n∧ix=.int .i64 i∧Hid (∀ j (h:j < l.length),j < i→greatN 2 l[j]=false)∧Hid (Below w1.heap.size w1 wr)) (fun ix _=>n-(intOf ix).toNat)
   case atStart=>exact ⟨0,Nat.zero_le _,rfl,(show Hid _ from fun j _ h=>absurd h (by omega)),Lib.hid (.refl _ _)⟩
   case round =>
    obtain ⟨i,hi,rfl,HGR,HBR⟩:=hrel
    have HB:=Lib.hid (HB1.out.trans (HBR.out.mono HB1.out.size))
    by_cases hlt:i < n
    ·have hil:i < l.length:=by rw [HN.out];exact hlt
     obtain ⟨b,off,A1,p1,ea,hb0,hc,htk⟩:=kid_cells HL.out hil
     subst ea
     have HGK:=Lib.hid (great17_calls l[i] wr _ 2 (by decide) (htk.kept HB.out))
     obtain ⟨k0,k1,k2,k3⟩:=hc.kept hb0 HB.out
     have HNX:=Lib.hid fun (h:greatN 2 l[i]=false) j (hj:j < l.length) (hji:j < i+1)=>(show greatN 2 l[j]=false by
      by_cases e:j=i
      ·subst e;exact h
      ·exact HGR.out j hj (by omega))
     have i1:(i:Int) < (n:Int):=by omega
     have HLT:Hid (i < n):=hlt
     have e2:((2:Nat):Int)=2:=rfl
     rw [e2] at HGK
     clear hc htk hlt hi e2
     generalize l[i].kids.length=nk at *
     generalize l[i].op=ok1 at *
     generalize l[i].col=ok2 at *
     generalize l[i].cell=ok3 at *
     have hb:Below w.heap.size w wr:=HB.out
     have hB:=hb.size
     cases hg:greatN 2 l[i] with
     | true =>
      rw [hg] at HGK
      clear hg HNX hil
      go_wp2_with (first|(go_at_call 8;refine HGK.out.step (w0:=w) (B:=w.heap.size) hb hB ?_;clear hb hB k0 k1 k2 k3;intro wg hb hB)|(go_at_call 9;refine (HAW.out _).step (w0:=w) (B:=w.heap.size) hb hB ?_;clear hb hB;intro wa hb hB))
      go_ret
      exact ⟨rfl,hb⟩
     | false =>
      rw [hg] at HGK
      replace HNX:=Lib.hid (HNX.out hg)
      clear hg hb hB hil
      go_wp2_with fail
      refine HGK.out.stepB (w0:=wr) (B:=wr.heap.size) (.refl _ _) (Nat.le_refl _) ?_
      clear k0 k1 k2 k3
      intro w3 _ _ hq
      have HBN:=Lib.hid (HBR.out.trans (hq.mono HBR.out.size))
      clear hq
      go_wp2
      go_roundw
      case rel=>exact ⟨i+1,HLT.out,by go_num,HNX,HBN⟩
      case measure=>have:=HLT.out;simp [intOf];omega
    ·obtain rfl:i=n:=by omega
     have HXR:=Lib.hid (HX1.out.later HBR.out)
     have HTR:=Lib.hid (HT.out.kept HB.out)
     have HLR:=Lib.hid (HL.out.kept HB.out)
     have HSL:Hid (∀ x∈l,Sm17 x):=by
      intro x hx
      obtain ⟨j,hj,rfl⟩:=List.getElem_of_mem hx
      obtain ⟨_,_,_,_,_,_,_,htk⟩:=kid_cells HL.out hj
      exact (greatN_sm htk (by decide) (HGR.out j hj (by rw [←HN.out];exact hj))).2.2
     have HLN:Hid (l.length≤1000000):=by
      have:=H8.out
      have:=HN.out
      show _≤_
      omega
     have hST:=HSM.out.2.2
     have HST:=Lib.hid hST
     clear hST HSM HGR HBR HX1 HT HL hlt hi
     go_wp2_with fail
     refine wp_region_calm (offC wr) (fun _=>false) (fun _=>false) anyE false (by kernel_rfl) (by kernel_rfl) (by kernel_rfl) (by kernel_rfl) (by intro m hm;revert hm;simp;try omega) (offC_stable _) (offC_start _) ?_
     refine calm_fixA rfl rfl ?_
     apply Exists.intro
     refine ⟨fun a wz hc hk hf K hK=>?_,?_⟩
     ·have hb:Below wr.heap.size wr wz:=hc rfl
      clear hk hf hc
      go_simp
      refine Calls.mono (HAW.out wz) ?_
      rintro e w1 ⟨rfl,hq⟩
      exact hK _ _ hq rfl
     refine calm_fixA rfl rfl ?_
     apply Exists.intro
     refine ⟨fun a wz hc hk hf K hK=>?_,?_⟩
     ·have h26:=held_isV hf 0 rfl (by kernel_rfl)
      clear hk hf hc
      go_simp
      exact hK _ _ (Below.refl _ _) rfl
     refine calm_fixA rfl rfl ?_
     apply Exists.intro
     refine ⟨fun a wz hc hk hf K hK=>?_,?_⟩
     ·have hb:Below wr.heap.size wr wz:=hc rfl
      have h2:=hk 2 (by kernel_rfl)
      have h27:=held_isV hf 0 rfl (by kernel_rfl)
      clear hk hf hc
      obtain ⟨y0,y1,y2,y3,_⟩:=(HXR.out.later hb).cells
      go_simp
      exact hK _ _ (Below.refl _ _) rfl
     refine calm_fixA rfl rfl ?_
     apply Exists.intro
     refine ⟨fun a wz hc hk hf K hK=>?_,?_⟩
     ·have hb:Below wr.heap.size wr wz:=hc rfl
      have h28:=held_isV hf 0 rfl (by kernel_rfl)
      have h27:=held_isV hf 1 rfl (by kernel_rfl)
      clear hk hf hc
      go_simp
      refine Calls.mono (norm_print_calls (HTR.out.kept hb) HST.out) ?_
      rintro e w1 ⟨rfl,hq⟩
      exact hK _ _ hq rfl
     refine calm_fixA rfl rfl ?_
     apply Exists.intro
     refine ⟨fun a wz hc hk hf K hK=>?_,?_⟩
     ·have hb:Below wr.heap.size wr wz:=hc rfl
      have h2:=hk 2 (by kernel_rfl)
      have h27:=held_isV hf 2 rfl (by kernel_rfl)
      clear hk hf hc
      obtain ⟨y0,y1,y2,y3,_⟩:=(HXR.out.later hb).cells
      go_simp
      exact hK _ _ (Below.refl _ _) rfl
     refine calm_fixA rfl rfl ?_
     apply Exists.intro
     refine ⟨fun a wz hc hk hf K hK=>?_,?_⟩
     ·have hb:Below wr.heap.size wr wz:=hc rfl
      have h30:=held_isV hf 0 rfl (by kernel_rfl)
      have h27:=held_isV hf 3 rfl (by kernel_rfl)
      clear hk hf hc
      go_simp
      refine Calls.mono (ref_nprint_calls (HTR.out.kept hb) HST.out) ?_
      rintro e w1 ⟨rfl,hq⟩
      exact hK _ _ hq rfl
     refine calm_fixA rfl rfl ?_
     apply Exists.intro
     refine ⟨fun a wz hc hk hf K hK=>?_,?_⟩
     ·have h29:=held_isV hf 2 rfl (by kernel_rfl)
      have h31:=held_isV hf 0 rfl (by kernel_rfl)
      have h27:=held_isV hf 4 rfl (by kernel_rfl)
      clear hk hf hc
      go_simp
      exact hK _ _ (Below.refl _ _) rfl
     refine calm_fixA rfl rfl ?_
     apply Exists.intro
     refine ⟨fun a wz hc hk hf K hK=>?_,?_⟩
     ·have h27:=held_isV hf 5 rfl (by kernel_rfl)
      have h32:=held_isV hf 0 rfl (by kernel_rfl)
      clear hk hf hc
      go_simp
      exact hK _ _ (Below.refl _ _) rfl
     refine calm_fixA rfl rfl ?_
     apply Exists.intro
     refine ⟨fun a wz hc hk hf K hK=>?_,?_⟩
     ·have h33:=held_isV hf 0 rfl (by kernel_rfl)
      clear hk hf hc
      go_simp
      exact hK _ _ (Below.refl _ _) rfl
     refine calm_fixA rfl rfl ?_
     apply Exists.intro
     refine ⟨fun a wz hc hk hf K hK=>?_,?_⟩
     ·have hb:Below wr.heap.size wr wz:=hc rfl
      have h2:=hk 2 (by kernel_rfl)
      have h34:=held_isV hf 0 rfl (by kernel_rfl)
      clear hk hf hc
      obtain ⟨y0,y1,y2,y3,_⟩:=(HXR.out.later hb).cells
      go_simp
      exact hK _ _ (Below.refl _ _) rfl
     refine calm_varA (fun u wx=>KidsIn wx u (partsT t)) rfl rfl (fun u w w' hb h=>KidsQ.kept h hb) (fun a wz hc hk hf K hK=>?_) ?_
     ·have hb:Below wr.heap.size wr wz:=hc rfl
      have h35:=held_isV hf 0 rfl (by kernel_rfl)
      have h34:=held_isV hf 1 rfl (by kernel_rfl)
      clear hk hf hc
      go_simp
      refine Calls.mono (parts17_calls (HTR.out.kept hb) HST.out) ?_
      rintro e w1 ⟨u,rfl,hk,hq⟩
      exact hK _ _ hq (fun _=>hk)
     refine calm_fixA rfl rfl ?_
     apply Exists.intro
     refine ⟨fun a wz hc hk hf K hK=>?_,?_⟩
     ·have hb:Below wr.heap.size wr wz:=hc rfl
      have h2:=hk 2 (by kernel_rfl)
      have h34:=held_isV hf 2 rfl (by kernel_rfl)
      clear hk hf hc
      obtain ⟨y0,y1,y2,y3,_⟩:=(HXR.out.later hb).cells
      go_simp
      exact hK _ _ (Below.refl _ _) rfl
     refine calm_varA (fun u wx=>KidsIn wx u (partsT t)) rfl rfl (fun u w w' hb h=>KidsQ.kept h hb) (fun a wz hc hk hf K hK=>?_) ?_
     ·have hb:Below wr.heap.size wr wz:=hc rfl
      have h37:=held_isV hf 0 rfl (by kernel_rfl)
      have h34:=held_isV hf 3 rfl (by kernel_rfl)
      clear hk hf hc
      go_simp
      refine Calls.mono (ref_parts_calls (HTR.out.kept hb) HST.out) ?_
      rintro e w1 ⟨u,rfl,hk,hq⟩
      exact hK _ _ hq (fun _=>hk)
     refine calm_fixA rfl rfl ?_
     apply Exists.intro
     refine ⟨fun a wz hc hk hf K hK=>?_,?_⟩
     ·have hb:Below wr.heap.size wr wz:=hc rfl
      obtain ⟨v36,h36,S36⟩:=held_at hf 2 rfl (by kernel_rfl)
      obtain ⟨v38,h38,S38⟩:=held_at hf 0 rfl (by kernel_rfl)
      have h34:=held_isV hf 4 rfl (by kernel_rfl)
      clear hk hf hc
      go_simp
      refine Calls.mono (same17_calls (S36 rfl) (S38 rfl)) ?_
      rintro e w1 ⟨rfl,hq⟩
      exact hK _ _ hq rfl
     refine calm_fixA rfl rfl ?_
     apply Exists.intro
     refine ⟨fun a wz hc hk hf K hK=>?_,?_⟩
     ·have h34:=held_isV hf 5 rfl (by kernel_rfl)
      have h39:=held_isV hf 0 rfl (by kernel_rfl)
      clear hk hf hc
      go_simp
      exact hK _ _ (Below.refl _ _) rfl
     refine calm_fixA rfl rfl ?_
     apply Exists.intro
     refine ⟨fun a wz hc hk hf K hK=>?_,?_⟩
     ·have h40:=held_isV hf 0 rfl (by kernel_rfl)
      clear hk hf hc
      go_simp
      exact hK _ _ (Below.refl _ _) rfl
     refine calm_fixA rfl rfl ?_
     apply Exists.intro
     refine ⟨fun a wz hc hk hf K hK=>?_,?_⟩
     ·have h1:=hk 1 (by kernel_rfl)
      have h41:=held_isV hf 0 rfl (by kernel_rfl)
      clear hk hf hc
      go_simp
      exact hK _ _ (Below.refl _ _) rfl
     refine calm_varA (fun u wx=>TermIn wx u (joinT l)) rfl rfl (fun u w w' hb h=>TermQ.kept17 hb h) (fun a wz hc hk hf K hK=>?_) ?_
     ·have hb:Below wr.heap.size wr wz:=hc rfl
      have h42:=held_isV hf 0 rfl (by kernel_rfl)
      have h41:=held_isV hf 1 rfl (by kernel_rfl)
      clear hk hf hc
      go_simp
      refine Calls.mono (norm_join_calls (HLR.out.kept hb) HSL.out HLN.out) ?_
      rintro e w1 ⟨v,rfl,ht,hq⟩
      exact hK _ _ hq (fun _=>ht)
     refine calm_fixA rfl rfl ?_
     apply Exists.intro
     refine ⟨fun a wz hc hk hf K hK=>?_,?_⟩
     ·have h1:=hk 1 (by kernel_rfl)
      have h41:=held_isV hf 2 rfl (by kernel_rfl)
      clear hk hf hc
      go_simp
      exact hK _ _ (Below.refl _ _) rfl
     refine calm_varA (fun u wx=>TermIn wx u (joinT l)) rfl rfl (fun u w w' hb h=>TermQ.kept17 hb h) (fun a wz hc hk hf K hK=>?_) ?_
     ·have hb:Below wr.heap.size wr wz:=hc rfl
      have h44:=held_isV hf 0 rfl (by kernel_rfl)
      have h41:=held_isV hf 3 rfl (by kernel_rfl)
      clear hk hf hc
      go_simp
      refine Calls.mono (ref_join_calls (HLR.out.kept hb) HLN.out) ?_
      rintro e w1 ⟨v,rfl,ht,hq⟩
      exact hK _ _ hq (fun _=>ht)
     refine calm_fixA rfl rfl ?_
     apply Exists.intro
     refine ⟨fun a wz hc hk hf K hK=>?_,?_⟩
     ·have hb:Below wr.heap.size wr wz:=hc rfl
      obtain ⟨v43,h43,S43⟩:=held_at hf 2 rfl (by kernel_rfl)
      obtain ⟨v45,h45,S45⟩:=held_at hf 0 rfl (by kernel_rfl)
      have h41:=held_isV hf 4 rfl (by kernel_rfl)
      clear hk hf hc
      go_simp
      refine Calls.mono (ref_same15_calls (joinT l) wz _ _ (S43 rfl) (S45 rfl)) ?_
      rintro e w1 ⟨rfl,hq⟩
      exact hK _ _ hq rfl
     refine calm_fixA rfl rfl ?_
     apply Exists.intro
     refine ⟨fun a wz hc hk hf K hK=>?_,?_⟩
     ·have h41:=held_isV hf 5 rfl (by kernel_rfl)
      have h46:=held_isV hf 0 rfl (by kernel_rfl)
      clear hk hf hc
      go_simp
      exact hK _ _ (Below.refl _ _) rfl
     refine calm_fixA rfl rfl ?_
     apply Exists.intro
     refine ⟨fun a wz hc hk hf K hK=>?_,?_⟩
     ·have h47:=held_isV hf 0 rfl (by kernel_rfl)
      clear hk hf hc
      go_simp
      exact hK _ _ (Below.refl _ _) rfl
     refine calm_varA (fun u wx=>TermIn wx u (trueT)) rfl rfl (fun u w w' hb h=>TermQ.kept17 hb h) (fun a wz hc hk hf K hK=>?_) ?_
     ·have hb:Below wr.heap.size wr wz:=hc rfl
      have h48:=held_isV hf 0 rfl (by kernel_rfl)
      clear hk hf hc
      go_simp
      refine Calls.mono (true17_calls wz) ?_
      rintro e w1 ⟨v,rfl,ht,hq⟩
      exact hK _ _ hq (fun _=>ht)
     refine calm_varA (fun u wx=>TermIn wx u (trueT)) rfl rfl (fun u w w' hb h=>TermQ.kept17 hb h) (fun a wz hc hk hf K hK=>?_) ?_
     ·have hb:Below wr.heap.size wr wz:=hc rfl
      have h48:=held_isV hf 1 rfl (by kernel_rfl)
      clear hk hf hc
      go_simp
      refine Calls.mono (reftrue17_calls wz) ?_
      rintro e w1 ⟨v,rfl,ht,hq⟩
      exact hK _ _ hq (fun _=>ht)
     refine calm_fixA rfl rfl ?_
     apply Exists.intro
     refine ⟨fun a wz hc hk hf K hK=>?_,?_⟩
     ·have hb:Below wr.heap.size wr wz:=hc rfl
      obtain ⟨v49,h49,S49⟩:=held_at hf 1 rfl (by kernel_rfl)
      obtain ⟨v50,h50,S50⟩:=held_at hf 0 rfl (by kernel_rfl)
      have h48:=held_isV hf 2 rfl (by kernel_rfl)
      clear hk hf hc
      go_simp
      refine Calls.mono (ref_same15_calls trueT wz _ _ (S49 rfl) (S50 rfl)) ?_
      rintro e w1 ⟨rfl,hq⟩
      exact hK _ _ hq rfl
     refine calm_fixA rfl rfl ?_
     apply Exists.intro
     refine ⟨fun a wz hc hk hf K hK=>?_,?_⟩
     ·have h48:=held_isV hf 3 rfl (by kernel_rfl)
      have h51:=held_isV hf 0 rfl (by kernel_rfl)
      clear hk hf hc
      go_simp
      exact hK _ _ (Below.refl _ _) rfl
     refine calm_fixA rfl rfl ?_
     apply Exists.intro
     refine ⟨fun a wz hc hk hf K hK=>?_,?_⟩
     ·have h52:=held_isV hf 0 rfl (by kernel_rfl)
      clear hk hf hc
      go_simp
      exact hK _ _ (Below.refl _ _) rfl
     refine calm_nil ?_
     refine ⟨keeps_none,?_⟩
     intro w9 hc
     simp only [lexL,calmEnd]
     rintro _ rfl _ rfl _ rfl _ rfl _ rfl _ rfl _ rfl _ rfl _ rfl _ rfl v36 S36 _ rfl v38 S38 _ rfl _ rfl _ rfl _ rfl v43 S43 _ rfl v45 S45 _ rfl _ rfl _ rfl v49 S49 v50 S50 _ rfl _ rfl _ rfl
     have hq:Below wr.heap.size wr w9:=hc rfl
     have HBE:=Lib.hid (HB.out.trans (hq.mono HB.out.size))
     clear hc hq S36 S38 S43 S45 S49 S50
     simp only [Act.put,List.setIfInBounds_toArray,List.set_cons_zero,List.set_cons_succ]
     go_wp2
     go_ret
     exact ⟨rfl,HBE.out⟩
  ·have d8:decide ((8:Int) < (n:Int))=true:=decide_eq_true (by omega)
   clear h8
   go_enter Try.func3,Try.ntmps3
   go_wp2_with (first|(go_at_call 8;refine (HG.out _ hb).step (w0:=w) (B:=w.heap.size) hb hB ?_;clear hb hB;intro wg hb hB)|(go_at_call 9;refine (HAW.out _).step (w0:=w) (B:=w.heap.size) hb hB ?_;clear hb hB;intro wa hb hB))
   go_ret
   exact ⟨rfl,hb⟩
end Go.Proofs.Ytnkhkkdmjabhnaa
