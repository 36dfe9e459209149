/- Layer 17's own copied: a term in memory of the call's own. -/
import Derived.Test.YtnkhkkdmjabhnaaGZNormSort2
namespace Go.Proofs.Ytnkhkkdmjabhnaa
open Go Go.RowKit
def copiedAt (t:Trm):Prop:=Sm17 t→∀ (w:World)(v:Value),TermIn w v t→Calls Try.prog 34 #[v] w (TermEndQ (Fresh w.heap.size) w (t))
set_option maxHeartbeats 8000000 in
set_option maxRecDepth 100000 in
theorem own_copied_calls (t:Trm):copiedAt t:=by
 refine Trm.ind (P:=copiedAt) (fun t ih=>?_) t
 intro hs w v ht
 obtain ⟨op,col,cell,ks⟩:=t
 have hm:ks.length≤1000:=hs.parts.2.2.1
 have HIH:Hid (∀ k (hk:k∈ks),∀ (W:World) (u:Value),TermIn W u k→Calls Try.prog 34 #[u] W (TermEndQ (Fresh W.heap.size) W (k))):=fun k hk W u hu=>ih k hk (hs.kid hk) W u hu
 have HSM:Hid (∀ k∈ks,Sm17 k):=fun k hk=>hs.kid hk
 obtain ⟨kv,rfl,ho,hk⟩:=ht
 replace hk:KidsIn w kv ks:=hk
 obtain ⟨tv0,hks,-,hsl,htv⟩:=hk.parts
 have hlen:ks.length=tv0.length:=by rw [←hks,List.length_map]
 rw [hlen] at hsl hm
 obtain ⟨A,cap,rfl,-⟩:=clone_cells4 hsl
 have HSL:=Lib.hid hsl
 have HTV0:=Lib.hid htv
 have HKS:=Lib.hid hks
 have HOK:Hid (okT (.mk op col cell ks)):=ho
 have HLEN:=Lib.hid hlen
 dsimp only [trmA,Trm.op,Trm.col,Trm.cell,Trm.kids]
 clear ho hk ih hs hks hsl htv hlen
 unfold TermEndQ
 have ha1:=Below.alloc (.refl w.heap.size w) (Nat.le_refl _) (.cells #[.int .u8 op,.int .i64 col,.string cell,.slice A tv0.length cap] 24)
 have ha2:=ha1.alloc ha1.size (.cells #[.int .u8 0,.int .i64 0,.string ⟨#[]⟩,.slice none 0 0] 24)
 have HB3:=Lib.hid ha2
 have hs1:(w.alloc (.cells #[.int .u8 op,.int .i64 col,.string cell,.slice A tv0.length cap] 24)).heap.size=w.heap.size+1:=by simp
 have hx:=trmbox_lit w 24 op col cell (.slice A tv0.length cap)
 have hr:=trmbox_lit (w.alloc (.cells #[.int .u8 op,.int .i64 col,.string cell,.slice A tv0.length cap] 24)) 24 0 0 ⟨#[]⟩ (.slice none 0 0)
 rw [hs1] at hr
 have HX:=Lib.hid (hx.later (Below.alloc (.refl _ _) (Nat.le_refl _) (.cells #[.int .u8 0,.int .i64 0,.string ⟨#[]⟩,.slice none 0 0] 24)))
 have HR:=Lib.hid hr
 have HS3:Hid (((w.alloc (.cells #[.int .u8 op,.int .i64 col,.string cell,.slice A tv0.length cap] 24)).alloc (.cells #[.int .u8 0,.int .i64 0,.string ⟨#[]⟩,.slice none 0 0] 24)).heap.size=w.heap.size+2):=Lib.hid (by simp)
 clear ha1 ha2 hs1 hx hr
 go_enter Try.func34,Try.ntmps34
 go_wp2_with fail
 generalize World.alloc (World.alloc w _) _=w4 at *
 refine (clone_terms_calls (SliceOf.later HSL.out HB3.out) (one_trms HTV0.out) (by omega)).mono ?_
 rintro e w5 ⟨A5,p5,rfl,hO,hq⟩
 rw [HS3.out] at hO
 have hx5:=HX.out.later hq
 obtain ⟨y0,y1,y2,y3,_⟩:=hx5.cells
 obtain ⟨f0,f1,f2,f3⟩:=hx5.free
 have hg5:=setCells_grown w.heap.size [.slice A5 tv0.length p5] 3 w5
 simp only [World.setCells] at hg5
 have HX6:=Lib.hid (hx5.put3 (.slice A5 tv0.length p5))
 have HR6:=Lib.hid ((HR.out.later hq).other hg5 (by simp only [ne_eq,Option.some.injEq];omega))
 have HSS:Hid (ShiftS (w.heap.size+2) (w5.setCell ⟨w.heap.size,3,none⟩ (.slice A5 tv0.length p5)) (.slice A5 tv0.length p5) tv0 [] 0):=Lib.hid ((ShiftS.begin hO).beside (by omega) hg5)
 have HB6:=Lib.hid ((HB3.out.trans (hq.mono HB3.out.size)).setCell (p:=⟨w.heap.size,3,none⟩) (by show w.heap.size≤w.heap.size;omega) (.slice A5 tv0.length p5))
 have HSZ6:Hid (w.heap.size+2≤(w5.setCell ⟨w.heap.size,3,none⟩ (.slice A5 tv0.length p5)).heap.size):=Lib.hid (Nat.le_trans (Nat.le_trans (Nat.le_of_eq HS3.out.symm) hq.size) hg5.size)
 clear hx5 hg5 hO hq HX HR HB3 HS3 y0 y1 y2 f1 f2 f0
 go_wp2
 clear y3 f3
 generalize World.setCell w5 _ _=w6 at *
 go_loopw [12] (fun i wr=>∃ (j:Nat),j≤tv0.length∧i=.int .i64 j∧Hid (ShiftS (w.heap.size+2) wr (.slice A5 tv0.length p5) tv0 ((ks.take j)) j)∧Hid (TrmBox wr (w.heap.size+1) 0 0 ⟨#[]⟩ (.slice none 0 0))∧Hid (TrmBox wr w.heap.size op col cell (.slice A5 tv0.length p5))∧Hid (Below w.heap.size w wr)∧Hid (w.heap.size+2≤wr.heap.size)) (fun i _=>tv0.length-(intOf i).toNat)
 case atStart=>exact ⟨0,Nat.zero_le _,rfl,HSS.out,HR6.out,HX6.out,HB6.out,HSZ6.out⟩
 case round =>
  clear HSS HR6 HX6 HB6 HSZ6
  obtain ⟨j,hj,rfl,HSS,HR,HX,HB,HSZ⟩:=hrel
  by_cases hlt:j < tv0.length
  ·obtain ⟨g,off,ea,hg1,hg2,⟨x0,x1,x2,x3⟩,-⟩:=HSS.out.at_ hlt
   subst ea
   have hjk:j < ks.length:=by have:=HLEN.out;omega
   have HKJ:Hid (tv0[j].2=ks[j]):=by
    have:=HKS.out
    subst this
    exact Lib.hid (by rw [List.getElem_map])
   have HLST:Hid ((ks.take j)++[ks[j]]=(ks.take (j+1))):=by
    show _=_
    rw [List.take_add_one,List.getElem?_eq_getElem hjk]
    rfl
   have hkk:=(HTV0.out tv0[j] (List.getElem_mem hlt)).2
   have hok:=(HTV0.out tv0[j] (List.getElem_mem hlt)).1
   obtain ⟨Ak,pk,ek,-⟩:=kids_at hkk
   rw [ek] at x3 hkk
   have HC:Hid (∀ W,Below w.heap.size w W→Calls Try.prog 34 #[trmA (.slice Ak tv0[j].2.kids.length pk,tv0[j].2)] W (TermEndQ (Fresh W.heap.size) W (ks[j]))):=fun W hW=>HIH.out ks[j] (List.getElem_mem hjk) W _ ⟨_,by rw [HKJ.out],HKJ.out▸hok,HKJ.out▸hkk.kept hW⟩
   have i0:(0:Int)≤(j:Int):=by omega
   have i1:(j:Int) < (tv0.length:Int):=by omega
   have q1:IntKind.i64.wrap ((j:Int)+1)=(j:Int)+1:=by rw [IntKind.wrap_i64];omega
   dsimp only [trmA] at HC
   unfold TermEndQ at HC
   clear hkk hok ek HKJ
   generalize ks[j]=gk at *
   clear hjk
   have hq1:=Below.alloc (.refl wr.heap.size wr) (Nat.le_refl _) (.cells #[.int .u8 tv0[j].2.op,.int .i64 tv0[j].2.col,.string tv0[j].2.cell,.slice Ak tv0[j].2.kids.length pk] 24)
   have hbk:=trmbox_lit wr 24 tv0[j].2.op tv0[j].2.col tv0[j].2.cell (.slice Ak tv0[j].2.kids.length pk)
   have HBK:=Lib.hid hbk
   have HX7:=Lib.hid (HX.out.later hq1)
   have HR7:=Lib.hid (HR.out.later hq1)
   have HS7:=Lib.hid (HSS.out.later hq1)
   have HB7:=Lib.hid (HB.out.trans (hq1.mono HB.out.size))
   have HZ7:Hid (w.heap.size+2≤(wr.alloc (.cells #[.int .u8 tv0[j].2.op,.int .i64 tv0[j].2.col,.string tv0[j].2.cell,.slice Ak tv0[j].2.kids.length pk] 24)).heap.size):=Nat.le_trans HSZ.out hq1.size
   have HGL:Hid (g < (wr.alloc (.cells #[.int .u8 tv0[j].2.op,.int .i64 tv0[j].2.col,.string tv0[j].2.cell,.slice Ak tv0[j].2.kids.length pk] 24)).heap.size∧w.heap.size+2≤g):=⟨Nat.lt_of_lt_of_le hg2 hq1.size,hg1⟩
   clear hq1 hbk HX HR HSS HB HSZ hg1 hg2
   generalize tv0[j].2.kids.length=nk at *
   generalize tv0[j].2.op=ok1 at *
   generalize tv0[j].2.col=ok2 at *
   generalize tv0[j].2.cell=ok3 at *
   go_wp2_with fail
   clear x0 x1 x2 x3
   generalize World.alloc wr _=w7 at *
   generalize wr.heap.size=bk at HBK ⊢
   refine wp_region_calm (offC w7) (fun k=>k==6) (fun _=>false) anyE true (by kernel_rfl) (by kernel_rfl) (by kernel_rfl) (by kernel_rfl) (by intro m hm;revert hm;simp;try omega) (offC_stable _) (offC_start _) ?_
   refine calm_fixA rfl rfl ?_
   apply Exists.intro
   refine ⟨fun a wz hc hk hf K hK=>?_,?_⟩
   ·have h1:=hk 1 (by kernel_rfl)
    clear hk hf hc
    go_simp
    exact hK _ _ (Below.refl _ _) rfl
   refine calm_fixA rfl rfl ?_
   apply Exists.intro
   refine ⟨fun a wz hc hk hf K hK=>?_,?_⟩
   ·have hb:Below w7.heap.size w7 wz:=hc rfl
    have h17:=held_isV hf 0 rfl (by kernel_rfl)
    clear hk hf hc
    obtain ⟨y0,y1,y2,y3,-⟩:=(HX7.out.later hb).cells
    go_simp
    exact hK _ _ (Below.refl _ _) rfl
   refine calm_fixA rfl rfl ?_
   apply Exists.intro
   refine ⟨fun a wz hc hk hf K hK=>?_,?_⟩
   ·have h3:=hk 3 (by kernel_rfl)
    clear hk hf hc
    go_simp
    exact hK _ _ (Below.refl _ _) rfl
   refine calm_fixA rfl rfl ?_
   apply Exists.intro
   refine ⟨fun a wz hc hk hf K hK=>?_,?_⟩
   ·have hb:Below w7.heap.size w7 wz:=hc rfl
    have h4:=hk 4 (by kernel_rfl)
    clear hk hf hc
    obtain ⟨z0,z1,z2,z3,-⟩:=(HBK.out.later hb).cells
    go_simp
    exact hK _ _ (Below.refl _ _) rfl
   refine calm_varA (fun v wx=>TermQ (Fresh w7.heap.size) wx v gk) rfl rfl (fun _ _ _ h k=>TermQ.kept k h) (fun a wz hc hk hf K hK=>?_) ?_
   ·have hb:Below w7.heap.size w7 wz:=hc rfl
    have h20:=held_isV hf 0 rfl (by kernel_rfl)
    clear hk hf hc
    go_simp
    refine Calls.mono (HC.out wz (HB7.out.trans (hb.mono HB7.out.size))) ?_
    rintro e w1 ⟨v1,rfl,h1,hq⟩
    exact hK _ _ hq (fun _=>h1.mono fun u hu=>hu.mono hb.size)
   refine calm_fixA rfl rfl ?_
   apply Exists.intro
   refine ⟨fun a wz hc hk hf K hK=>?_,?_⟩
   ·have h18:=held_isV hf 3 rfl (by kernel_rfl)
    have h19:=held_isV hf 2 rfl (by kernel_rfl)
    clear hk hf hc
    go_simp
    exact hK _ _ (Below.refl _ _) rfl
   refine calm_storeA (fun w0=>ShiftS (w.heap.size+2) w0 (.slice (some ⟨g,off,none⟩) tv0.length p5) tv0 ((ks.take j)++[gk]) (j+1)∧TrmBox w0 (w.heap.size+1) 0 0 ⟨#[]⟩ (.slice none 0 0)∧TrmBox w0 w.heap.size op col cell (.slice (some ⟨g,off,none⟩) tv0.length p5)∧Below w.heap.size w w0∧w.heap.size+2≤w0.heap.size) rfl (fun m h=>by simpa using h) (fun a wz hb hk hf K hK=>?_) ?_
   ·have h22:=held_isV hf 0 rfl (by kernel_rfl)
    obtain ⟨v21,h21,S21⟩:=held_at hf 1 rfl (by kernel_rfl)
    clear hk hf
    obtain ⟨kx,rfl,okx,hkx⟩:=S21 rfl
    obtain ⟨xo,xc,xb,xk⟩:=gk
    replace hkx:KidsQ (Fresh w7.heap.size) wz kx xk:=hkx
    obtain ⟨Ax,px,rfl,-⟩:=kids_at hkx
    have hS9:=HS7.out.later hb
    have hx9:=HX7.out.later hb
    have hk9:=hkx.mono (Q':=fun u=>Fresh (w.heap.size+2) u∧RowOff (.slice (some ⟨g,off,none⟩) tv0.length p5) u) fun u hu=>⟨hu.mono HZ7.out,RowOff.of_fresh hu fun k hk=>by simp only [Value.ownBlock,Option.some.injEq] at hk;have:=HGL.out.1;omega⟩
    have hN:=Lib.hid (hS9.next (t:=(.slice Ax xk.length px,.mk xo xc xb xk)) hlt rfl okx hk9)
    have hg9:=set4_grown wz g (off+j*4) (.int .u8 xo) (.int .i64 xc) (.string xb) (.slice Ax xk.length px)
    have HR9:=Lib.hid ((HR7.out.later hb).other hg9 (by have:=HGL.out.2;simp only [ne_eq,Option.some.injEq];omega))
    have HX9:=Lib.hid (hx9.other hg9 (by have:=HGL.out.2;simp only [ne_eq,Option.some.injEq];omega))
    have hb9:=HB7.out.trans (hb.mono HB7.out.size)
    have HB9:=Lib.hid (hb9.grown hg9 hb9.size fun q hq=>by have:=HGL.out.2;simp only [Option.some.injEq] at hq;omega)
    have HSZ9:=Lib.hid (Nat.le_trans (Nat.le_trans HZ7.out hb.size) hg9.size)
    obtain ⟨_,_,ea,_,_,⟨z0,z1,z2,z3⟩,⟨f0,f1,f2,f3⟩⟩:=hS9.at_ hlt
    simp only [Option.some.injEq,Addr.mk.injEq,and_true] at ea
    obtain ⟨rfl,rfl⟩:=ea
    obtain ⟨Az,pz,ez,-⟩:=kids_at (HTV0.out tv0[j] (List.getElem_mem hlt)).2
    rw [ez] at z3
    dsimp only [trmA,Trm.op,Trm.col,Trm.cell,Trm.kids] at hN HR9 HX9 HB9 HSZ9 ⊢
    dsimp only [trmA,Trm.op,Trm.col,Trm.cell,Trm.kids] at h21
    clear hkx hk9 hS9 hx9 hg9 hb9 okx ez S21
    go_simp
    exact hK undef _ ⟨hN.out,HR9.out,HX9.out,HB9.out,HSZ9.out⟩
   refine calm_nil ?_
   refine ⟨keeps_one (m:=6) (fun k h=>by simpa using h) ⟨.inr (loose_isV _),.inr (loose_isV _),.inr (loose_isV _),.inr (loose_isV _),.inr (loose_ahead _),.inr (loose_isV _),.inl rfl,trivial⟩,?_⟩
   intro w8 hc
   simp only [lexL,calmEnd]
   rintro _ rfl _ rfl _ rfl _ rfl v21 S21 _ rfl _ hst6
   obtain ⟨wx,⟨h1,h2,h3,h4,h5⟩,hq⟩:=hst6 rfl
   rw [HLST.out] at h1
   have HSN:=Lib.hid (h1.later hq)
   have HRN:=Lib.hid (h2.later hq)
   have HXN:=Lib.hid (h3.later hq)
   have HBN:=Lib.hid (h4.trans (hq.mono h4.size))
   have HZN:Hid (w.heap.size+2≤w8.heap.size):=Nat.le_trans h5 hq.size
   clear hst6 h1 h2 h3 h4 h5 hq hc S21 HS7 HR7 HX7 HB7 HZ7 HBK HC HLST
   simp only [Act.put,List.setIfInBounds_toArray,List.set_cons_zero,List.set_cons_succ]
   go_wp2
   go_roundw
   case rel=>exact ⟨j+1,hlt,by go_num,HSN,HRN,HXN,HBN,HZN⟩
   case measure=>simp [intOf];omega
  ·obtain rfl:j=tv0.length:=by omega
   rw [List.take_of_length_le (by have:=HLEN.out;omega)] at HSS
   have HSK:=Lib.hid HSS.out.done
   clear HSS
   obtain ⟨z0,z1,z2,z3,_⟩:=HX.out.cells
   obtain ⟨r0,r1,r2,r3,_⟩:=HR.out.cells
   obtain ⟨f0,f1,f2,f3⟩:=HR.out.free
   have HP:=Lib.hid (HR.out.putAll op col cell (.slice A5 tv0.length p5))
   have hg:=setCells_grown (w.heap.size+1) [.int .u8 op,.int .i64 col,.string cell,.slice A5 tv0.length p5] 0 wr
   simp only [World.setCells,Nat.zero_add,Nat.reduceAdd] at hg
   have HK:=Lib.hid ((HSK.out.off (v:=.slice (some ⟨w.heap.size+1,0,none⟩) 1 1) (fun u hu=>RowOff.of_fresh hu fun k hk=>by simp only [Value.ownBlock,Option.some.injEq] at hk;omega) hg).mono (Q':=Fresh w.heap.size) fun u hu=>hu.mono (by omega))
   have HBE:=Lib.hid ((((HB.out.setCell (p:=⟨w.heap.size+1,0,none⟩) (by show w.heap.size≤w.heap.size+1;omega) (.int .u8 op)).setCell (p:=⟨w.heap.size+1,1,none⟩) (by show w.heap.size≤w.heap.size+1;omega) (.int .i64 col)).setCell (p:=⟨w.heap.size+1,2,none⟩) (by show w.heap.size≤w.heap.size+1;omega) (.string cell)).setCell (p:=⟨w.heap.size+1,3,none⟩) (by show w.heap.size≤w.heap.size+1;omega) (.slice A5 tv0.length p5))
   clear hg HR HX HSK
   go_wp2
   clear z0 z1 z2 z3 r0 r1 r2 r3 f0 f1 f2 f3
   obtain ⟨g0,g1,g2,g3,_⟩:=HP.out.cells
   refine ⟨rfl,trmA (.slice A5 tv0.length p5,.mk op col cell (ks)),?_,_,rfl,?_,HBE.out⟩
   ·simp [results,Try.results34,go_sem,trmA,Trm.op,Trm.col,Trm.cell,g0,g1,g2,g3]
   ·exact ⟨_,rfl,HOK.out,HK.out⟩
end Go.Proofs.Ytnkhkkdmjabhnaa
