/- Layer 17's own Parts. -/
import Derived.Test.YtnkhkkdmjabhnaaGZNormSortOwn
namespace Go.Proofs.Ytnkhkkdmjabhnaa
open Go Go.RowKit
theorem sm17_true:Sm17 trueT:=.mk true_ok.ok (by decide) (by decide) (by decide +kernel) fun k hk=>absurd hk (by simp [trueT,Trm.kids])
theorem true_gives (w:World):GivesAt Try.prog 18 #[] w (.agg #[.int .u8 107,.int .i64 0,.string yesC,.slice none 0 0]):=(true_calls w).mono fun _ _ ⟨v,he,⟨kv,hv,_,hk⟩,hb⟩=>by
 obtain ⟨_,_,hq,_⟩:=hk.parts
 subst hq
 exact ⟨by rw [he,hv];rfl,hb⟩
theorem true_in (w:World):TermIn w (.agg #[.int .u8 107,.int .i64 0,.string yesC,.slice none 0 0]) trueT:=⟨.slice none 0 0,rfl,true_ok.ok,KidsIn.nil_ _ _ _⟩
def PsEnd (w1:World)(t:Trm)(u:Value)(wx:World):Prop:=∃ ps,Own wx w1.heap.size 5 u ps.length (partsV ps)∧ps.map PartV.t=leavesT t∧PsOk w1 ps∧Tagged ps
theorem PsEnd.kept {w1:World}{t:Trm}(u:Value)(a b:World)(hb:Below a.heap.size a b)(h:PsEnd w1 t u a):PsEnd w1 t u b:=by
 obtain ⟨ps,h1,h2⟩:=h
 exact ⟨ps,h1.later hb,h2⟩
theorem parts_slice_at {w:World}{u:Value}{n:Nat}{d:List PartV}(h:SliceOf w 5 u n (partsV d))(hd:d.length=n):∃ A cap,u=.slice A n cap∧∀ i,(hi:i < n)→∃ g off,A=some ⟨g,off,none⟩∧g < w.heap.size∧At5 w g (off+i*5) (d[i]'(by omega)):=by
 obtain ⟨A,cap,e,hat⟩:=h.at_
 refine ⟨A,cap,e,fun i hi=>?_⟩
 obtain ⟨g,off,ea,hg,hc⟩:=hat (by omega)
 have hv:=fun c (hc5:c < 5)=>partsV_get d i c (by omega) hc5
 refine ⟨g,off,ea,hg,hc _ _ (hv 0 (by omega)),?_,?_,?_,?_⟩
 ·rw [Nat.add_assoc];exact hc _ _ (hv 1 (by omega))
 ·rw [Nat.add_assoc];exact hc _ _ (hv 2 (by omega))
 ·rw [Nat.add_assoc];exact hc _ _ (hv 3 (by omega))
 ·rw [Nat.add_assoc];exact hc _ _ (hv 4 (by omega))
theorem At5.kept {w w':World}{b o:Nat}{x:PartV}(h:At5 w b o x)(hlt:b < w.heap.size)(hb:Below w.heap.size w w'):At5 w' b o x :=
 ⟨(hb.cell (p:=⟨b,o,none⟩) hlt).trans h.1,(hb.cell (p:=⟨b,o+1,none⟩) hlt).trans h.2.1,(hb.cell (p:=⟨b,o+2,none⟩) hlt).trans h.2.2.1,(hb.cell (p:=⟨b,o+3,none⟩) hlt).trans h.2.2.2.1,(hb.cell (p:=⟨b,o+4,none⟩) hlt).trans h.2.2.2.2⟩
def PartsEnd (w:World)(t:Trm)(e:Ending)(w':World):Prop:=∃ u,e=.returned u∧KidsQ (Fresh w.heap.size) w' u (partsT t)∧Below w.heap.size w w'
set_option maxHeartbeats 8000000 in
set_option maxRecDepth 100000 in
theorem norm_parts_calls {w:World}{v:Value}{t:Trm}(ht:TermIn w v t)(hs:Sm17 t):Calls Try.prog 13 #[v] w (PartsEnd w t):=by
 obtain ⟨i0,hi,hz0,hz1,hz2⟩:=info_parts Try.infoCe24
 have HT:=Lib.hid ht
 have HSM:=Lib.hid hs
 obtain ⟨kv,rfl,ho,hk⟩:=ht
 obtain ⟨op,col,cell,ks⟩:=t
 obtain ⟨A,cap,rfl,-⟩:=kids_at hk
 dsimp only [trmA,Trm.op,Trm.col,Trm.cell,Trm.kids] at *
 obtain ⟨t,he⟩:∃ t,Trm.mk op col cell ks=t:=⟨_,rfl⟩
 rw [he] at HT HSM ⊢
 clear he ho hk hs
 generalize ks.length=n at *
 have ha1:=Below.alloc (.refl w.heap.size w) (Nat.le_refl _) (.cells #[.int .u8 op,.int .i64 col,.string cell,.slice A n cap] 24)
 have hx:=trmbox_lit w 24 op col cell (.slice A n cap)
 have HX:=Lib.hid hx
 have HB:=Lib.hid ha1
 have HT1:=Lib.hid (HT.out.kept ha1)
 have HLE:Hid ((leavesT t).length≤1000000000):=Nat.le_trans (leaves_le t) HSM.out.parts.2.2.2.1
 clear ha1 hx HT
 unfold PartsEnd
 go_enter Try.func13,Try.ntmps13
 go_wp2_with fail
 generalize World.alloc w _=w1 at *
 refine wp_region_calm (offC w1) (fun _=>false) (fun _=>false) anyE false (by kernel_rfl) (by kernel_rfl) (by kernel_rfl) (by kernel_rfl) (by intro m hm;revert hm;simp;try omega) (offC_stable _) (offC_start _) ?_
 refine calm_fixA rfl rfl ?_
 apply Exists.intro
 refine ⟨fun a wz hc hk hf K hK=>?_,?_⟩
 ·have hb:Below w1.heap.size w1 wz:=hc rfl
  have h1:=hk 1 (by kernel_rfl)
  clear hk hf hc
  obtain ⟨x0,x1,x2,x3,-⟩:=(HX.out.later hb).cells
  go_simp
  exact hK _ _ (Below.refl _ _) rfl
 refine calm_fixA rfl rfl ?_
 apply Exists.intro
 refine ⟨fun a wz hc hk hf K hK=>?_,?_⟩
 ·have hb:Below w1.heap.size w1 wz:=hc rfl
  clear hk hf hc
  go_simp
  refine Calls.mono (true_gives wz) ?_
  rintro e w1 ⟨rfl,hq⟩
  exact hK _ _ hq rfl
 refine calm_fixA rfl rfl ?_
 apply Exists.intro
 refine ⟨fun a wz hc hk hf K hK=>?_,?_⟩
 ·have hb:Below w1.heap.size w1 wz:=hc rfl
  have h8:=held_isV hf 0 rfl (by kernel_rfl)
  clear hk hf hc
  go_simp
  refine Calls.mono (norm_print_calls (true_in wz) sm17_true) ?_
  rintro e w1 ⟨rfl,hq⟩
  exact hK _ _ hq rfl
 refine calm_varA (fun u wx=>PsEnd w1 t u wx) rfl rfl PsEnd.kept (fun a wz hc hk hf K hK=>?_) ?_
 ·have hb:Below w1.heap.size w1 wz:=hc rfl
  have h7:=held_isV hf 2 rfl (by kernel_rfl)
  have h9:=held_isV hf 0 rfl (by kernel_rfl)
  clear hk hf hc
  go_simp
  refine Calls.mono (own_gather_calls t HSM.out w1 _ HT1.out wz (.slice none 0 0) [] hb (Own.nil_ _ _ _) (fun p hp=>absurd hp (by simp)) (fun i hi=>absurd hi (by simp)) (by have:=HLE.out;simp;omega)) ?_
  rintro e w9 ⟨u,rfl,qs,h1,h2,h3,h4,h5,h6⟩
  exact hK _ _ ⟨h5.os,h5.tape,h5.output,h5.size,fun k hk=>h5.block k hk (by simp [Value.ownBlock])⟩ (fun _=>⟨qs,h1,by simpa using h2,h3,h4⟩)
 refine calm_varA (fun u wx=>PsEnd w1 t u wx) rfl rfl PsEnd.kept (fun a wz hc hk hf K hK=>?_) ?_
 ·have hb:Below w1.heap.size w1 wz:=hc rfl
  obtain ⟨v10,h10,S10⟩:=held_at hf 0 rfl (by kernel_rfl)
  clear hk hf hc
  go_simp
  exact hK _ _ (Below.refl _ _) S10
 refine calm_nil ?_
 refine ⟨keeps_none,?_⟩
 intro w2 hc
 simp only [lexL,calmEnd]
 rintro _ rfl _ rfl _ rfl v10 S10 v3 S3
 obtain ⟨ps,hO,hm,hP,hT⟩:=S3 rfl
 have hpl:ps.length≤1000000000:=by
  have h:=HLE.out
  rw [←hm,List.length_map] at h
  exact h
 have hq1:Below w1.heap.size w1 w2:=hc rfl
 have HSO:=Lib.hid (sort_parts_calls hO hT hpl)
 have HP:=Lib.hid hP
 have HM:=Lib.hid hm
 have HTG:=Lib.hid hT
 have HPL:=Lib.hid hpl
 have HB2:=Lib.hid hq1
 have HVB:Hid (∀ k,v3.ownBlock=some k→w1.heap.size≤k):=fun k hk=>(hO.lt k hk).1
 obtain ⟨uA,uc,eu⟩:=hO.len
 clear S3 S10 hc hq1 hP hT hm hpl hO
 subst eu
 unfold SortEnd17 at HSO
 generalize ps.length=pn at HSO HVB ⊢
 simp only [Act.put,List.setIfInBounds_toArray,List.set_cons_zero,List.set_cons_succ]
 go_wp2_with fail
 refine HSO.out.mono ?_
 rintro e w3 ⟨rfl,S,hp,hpw,hO3,hg3⟩
 have HB3:=Lib.hid (HB2.out.grown hg3 HB2.out.size HVB.out)
 have hSl:S.length≤1000000000:=by rw [hp.length_eq];exact HPL.out
 have HCO:=Lib.hid (compact_calls hO3 hSl)
 have HD:=Lib.hid (dd_parts hp (fun p hp=>by rw [(HP.out p hp).2.2.1];rfl) HTG.out hpw HM.out)
 have HDP:Hid (PsOk w1 (ddI S S.length)):=fun p hp2=>by
  obtain ⟨q,hq,e⟩:=ddI_mem S S.length (Nat.le_refl _) p hp2
  refine HP.out p (hp.mem_iff.1 ?_)
  rw [←e,getElem!_pos S q hq]
  exact List.getElem_mem hq
 have HDL:Hid ((ddI S S.length).length≤1000000000):=Nat.le_trans (dd_le S S.length) hSl
 clear hp hpw hO3 hg3 hSl HSO
 unfold CompEnd at HCO
 generalize ddI S S.length=D at *
 go_wp2_with fail
 refine HCO.out.mono ?_
 rintro e w4 ⟨u2,rfl,hsl,hg4⟩
 have HB4:=Lib.hid (HB3.out.grown hg4 HB3.out.size HVB.out)
 obtain ⟨A2,c2,rfl,hat⟩:=parts_slice_at hsl rfl
 have HAT:=Lib.hid hat
 have HBW:=Lib.hid (HB.out.trans (HB4.out.mono HB.out.size))
 obtain ⟨m,hm⟩:∃ m,D.length=m:=⟨_,rfl⟩
 have HDM:Hid (D.length=m):=hm
 have HML:Hid (m≤1000000000):=by rw [←hm];exact HDL.out
 clear hsl hg4 hat HCO
 rw [hm] at ⊢
 clear hm
 go_wp2
 go_loopw [4,17] (fun xx ix wr=>∃ (i:Nat) (x:Value) (tv:List (Value×Trm)),ix=.int .i64 i∧xx=x∧i≤m∧Hid (tv.map Prod.snd=(partsT t).take i)∧Hid (TrmsOwn (Fresh w.heap.size) wr w4.heap.size x tv)∧Hid (Below w4.heap.size w4 wr)) (fun _ ix _=>m-(intOf ix).toNat)
 case atStart=>exact ⟨0,_,[],rfl,rfl,Nat.zero_le _,Lib.hid (by simp),Lib.hid (TrmsOwn.nil_ _ _ _),Lib.hid (.refl _ _)⟩
 case round =>
  obtain ⟨i,x,tv,rfl,ex,him,HTV,HTO,HBR⟩:=hrel
  rw [ex]
  clear ex
  have hml:=HML.out
  by_cases hlt:i < m
  ·have hid:i < D.length:=by rw [HDM.out];exact hlt
   obtain ⟨g,off,ea,hgl,h5⟩:=HAT.out i hid
   subst ea
   have h5r:=h5.kept hgl HBR.out
   obtain ⟨x0,x1,x2,x3,x4⟩:=h5r
   obtain ⟨pok,pk,ppr,psm,pn2⟩:=HDP.out D[i] (List.getElem_mem hid)
   have hti:(partsT t).take (i+1)=(partsT t).take i++[D[i].t]:=by
    rw [←HD.out,List.take_add_one,List.getElem?_eq_getElem (by rw [List.length_map];exact hid),List.getElem_map]
    rfl
   have HTI:=Lib.hid hti
   have hin:TermIn w1 (.agg #[.int .u8 D[i].t.op,.int .i64 D[i].t.col,.string D[i].t.cell,.slice D[i].A D[i].n D[i].p]) D[i].t:=⟨_,rfl,pok,pk⟩
   have HCP:=Lib.hid fun W (hW:Below w1.heap.size w1 W)=>own_copied_calls D[i].t psm W _ (hin.kept hW)
   have i1:(i:Int) < (m:Int):=by omega
   have q1:IntKind.i64.wrap ((i:Int)+1)=(i:Int)+1:=by rw [IntKind.wrap_i64];omega
   have HLT:Hid (i < m):=hlt
   have HTL:Hid (tv.length≤1000000000):=by
    have h:=congrArg List.length HTV.out
    rw [List.length_map,List.length_take] at h
    show _≤_
    omega
   clear hti hin pok pk ppr psm pn2 h5 hgl hml
   generalize D[i]=y at *
   clear hid
   obtain ⟨yt,⟨yo,yc,yb,yk⟩,yA,yn,yp,ypr⟩:=y
   dsimp only [Trm.op,Trm.col,Trm.cell,Trm.kids] at *
   have ha6:=Below.alloc (.refl wr.heap.size wr) (Nat.le_refl _) (.cells #[.int .u8 yo,.int .i64 yc,.string yb,.slice yA yn yp,.string ypr] 52)
   have HB6:=Lib.hid (HBR.out.trans (ha6.mono HBR.out.size))
   have HTO6:=Lib.hid (HTO.out.later ha6)
   obtain ⟨xA,xc,ex⟩:=HTO.out.own.len
   have HC6:=Lib.hid (HCP.out _ (HB4.out.trans (HB6.out.mono HB4.out.size)))
   clear ha6 HCP HTO HBR hlt
   subst ex
   go_wp2_with fail
   generalize World.alloc wr _=w6 at *
   clear x0 x1 x2 x3 x4
   refine HC6.out.mono ?_
   rintro e w7 h7
   obtain ⟨A7,c7,rfl,ht7,hq7⟩:=TermEndQ.out h7
   obtain ⟨kv7,e7,hok7,hk7⟩:=ht7
   have ekv:kv7=.slice A7 yk.length c7:=by
    unfold trmA at e7
    simp only [Value.agg.injEq,Array.mk.injEq,List.cons.injEq,and_true,true_and] at e7
    exact e7.symm
   subst ekv
   have hlit:=lit_trm w7 24 (.slice A7 yk.length c7,.mk yo yc yb yk)
   have ha8:=Below.alloc (.refl w7.heap.size w7) (Nat.le_refl _) (.cells #[.int .u8 yo,.int .i64 yc,.string yb,.slice A7 yk.length c7] 24)
   have HTO8:=Lib.hid ((HTO6.out.later hq7).later ha8)
   have HB8:=Lib.hid ((HB6.out.trans (hq7.mono HB6.out.size)).trans (ha8.mono (HB6.out.trans (hq7.mono HB6.out.size)).size))
   have HK8:=Lib.hid ((KidsQ.mono (Q':=fun u=>Fresh w.heap.size u∧RowOff (.slice xA tv.length xc) u) hk7 fun u hu=>⟨hu.mono (Nat.le_trans HBW.out.size HB6.out.size),RowOff.of_fresh hu fun k hk=>(HTO6.out.own.lt k hk).2⟩).kept ha8)
   have HOK:Hid (okT (.mk yo yc yb yk)):=hok7
   have h1c:∀ u∈trmC (.slice A7 yk.length c7,.mk yo yc yb yk),u.oneCell'=true:=one_trm hk7
   dsimp only [trmC,Trm.op,Trm.col,Trm.cell,Trm.kids] at hlit h1c ⊢
   clear h7 e7 hok7 hk7 hq7 HC6 HTO6
   generalize hkn:yk.length=nk at *
   clear hkn
   go_wp2_with (at_builtin;refine wpList_append_src rfl (.tmp 21) (.tmp 25) 22 rfl 24 i0 (.agg #[.int .u8 0,.int .i64 0,.string ⟨#[]⟩,.slice none 0 0]) 4 56 Try.underlying22 hi hz0 hz1 hz2 rfl (by decide) (B:=w4.heap.size) _ tv.length (trmsV tv) rfl HTO8.out.own _ 1 _ rfl hlit h1c (by have:=HTL.out;unfold maxLen;omega) (by have:=HTL.out;omega) (by exact HB8.out.size) ?_)
   intro v9 w9 hO9 hg9 hn9
   have HTO9:=Lib.hid (HTO8.out.add (t:=(.slice A7 nk c7,.mk yo yc yb yk)) HOK.out HK8.out hg9 (by simpa using hn9) hO9)
   have HB9:=Lib.hid (HB8.out.grown hg9 HB8.out.size fun k hk=>(HTO8.out.own.lt k hk).1)
   have HTV9:Hid ((tv++[((.slice A7 nk c7:Value),Trm.mk yo yc yb yk)]).map Prod.snd=(partsT t).take (i+1)):=by
    show _=_
    rw [List.map_append,HTV.out,HTI.out]
    rfl
   obtain ⟨nA,nc,e9⟩:=hO9.len
   subst e9
   clear hO9 hg9 hn9 hlit h1c ha8
   go_wp2
   go_roundw
   case rel=>exact ⟨i+1,_,_,by go_num,rfl,HLT.out,HTV9,HTO9,HB9⟩
   case measure=>have:=HLT.out;simp [intOf];omega
  ·obtain rfl:i=m:=by omega
   have htv:=HTV.out
   have hpl:(partsT t).length=i:=by rw [←HD.out,List.length_map,HDM.out]
   rw [List.take_of_length_le (by omega)] at htv
   have hfx:Fresh w.heap.size x:=fun k hk=>Nat.le_trans HBW.out.size (HTO.out.own.lt k hk).1
   have HRES:Hid (KidsQ (Fresh w.heap.size) wr x (partsT t)):=by
    rw [←htv]
    exact HTO.out.trms hfx
   have HBE:=Lib.hid (HBW.out.trans (HBR.out.mono HBW.out.size))
   clear htv hpl hfx
   go_wp2
   go_ret
   exact ⟨_,rfl,HRES.out,HBE.out⟩
end Go.Proofs.Ytnkhkkdmjabhnaa
