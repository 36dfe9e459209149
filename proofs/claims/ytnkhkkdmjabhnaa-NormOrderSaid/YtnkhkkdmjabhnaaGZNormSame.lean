/- Layer 17's laws: same, prints. -/
import Derived.Test.YtnkhkkdmjabhnaaGZTermRefB
import Derived.Test.YtnkhkkdmjabhnaaGZNormGreat
namespace Go.Proofs.Ytnkhkkdmjabhnaa
open Go Go.RowKit
set_option maxHeartbeats 4000000 in
theorem same17_calls {w:World}{va vb:Value}{l:List Trm}(ha:KidsIn w va l)(hb:KidsIn w vb l):GivesAt Try.prog 12 #[va,vb] w (.bool true):=by
 have hm:=ha.len
 unfold maxLen at hm
 have HA:=Lib.hid ha
 have HB:=Lib.hid hb
 obtain ⟨A,cap,rfl,-⟩:=kids_at ha
 obtain ⟨D,dap,rfl,-⟩:=kids_at hb
 obtain ⟨n,hn⟩:∃ n,l.length=n:=⟨_,rfl⟩
 have HN:Hid (l.length=n):=hn
 rw [hn] at hm HA HB ⊢
 clear ha hb hn
 unfold GivesAt
 go_enter Try.func12,Try.ntmps12
 go_wp2
 go_loopw [5] (fun ix wr=>∃ i:Nat,i≤n∧ix=.int .i64 i∧Below w.heap.size w wr) (fun ix _=>n-(intOf ix).toNat)
 case atStart=>exact ⟨0,Nat.zero_le _,rfl,.refl _ _⟩
 case round =>
  obtain ⟨i,hi,rfl,hb⟩:=hrel
  by_cases hlt:i < n
  ·have hil:i < l.length:=by rw [HN.out];exact hlt
   obtain ⟨b,off,A1,p1,ea,hb0,hc,ht⟩:=kid_cells HA.out hil
   subst ea
   obtain ⟨b',off',A2,p2,ea,hb0',hc',ht'⟩:=kid_cells HB.out hil
   subst ea
   have HC:=Lib.hid hc
   have HC':=Lib.hid hc'
   have HS:=Lib.hid fun W (hW:Below w.heap.size w W)=>ref_same15_calls l[i] W _ _ (ht.kept hW) (ht'.kept hW)
   have i0:(0:Int)≤(i:Int):=by omega
   have i1:(i:Int) < (n:Int):=by omega
   have HLT:Hid (i < n):=hlt
   have HBW:=Lib.hid hb
   clear hc hc' ht ht' hlt hi
   generalize l[i].kids.length=nk at *
   generalize l[i].op=ok1 at *
   generalize l[i].col=ok2 at *
   generalize l[i].cell=ok3 at *
   clear hil
   go_wp2_with fail
   clear hb
   refine wp_region_calm (offC wr) (fun _=>false) (fun _=>false) anyE false (by kernel_rfl) (by kernel_rfl) (by kernel_rfl) (by kernel_rfl) (by intro m hm;revert hm;simp;try omega) (offC_stable _) (offC_start _) ?_
   refine calm_fixA rfl rfl ?_
   apply Exists.intro
   refine ⟨fun a wz hc hk hf K hK=>?_,?_⟩
   ·have h0:=hk 0 (by kernel_rfl)
    clear hk hf hc
    go_simp
    exact hK _ _ (Below.refl _ _) rfl
   refine calm_fixA rfl rfl ?_
   apply Exists.intro
   refine ⟨fun a wz hc hk hf K hK=>?_,?_⟩
   ·have h5:=hk 5 (by kernel_rfl)
    clear hk hf hc
    go_simp
    exact hK _ _ (Below.refl _ _) rfl
   refine calm_fixA rfl rfl ?_
   apply Exists.intro
   refine ⟨fun a wz hc hk hf K hK=>?_,?_⟩
   ·have h17:=held_isV hf 1 rfl (by kernel_rfl)
    have h18:=held_isV hf 0 rfl (by kernel_rfl)
    clear hk hf hc
    go_simp
    exact hK _ _ (Below.refl _ _) rfl
   refine calm_fixA rfl rfl ?_
   apply Exists.intro
   refine ⟨fun a wz hc hk hf K hK=>?_,?_⟩
   ·have hb:Below wr.heap.size wr wz:=hc rfl
    have h19:=held_isV hf 0 rfl (by kernel_rfl)
    clear hk hf hc
    obtain ⟨k0,k1,k2,k3⟩:=HC.out.kept hb0 (HBW.out.trans (hb.mono HBW.out.size))
    go_simp
    exact hK _ _ (Below.refl _ _) rfl
   refine calm_fixA rfl rfl ?_
   apply Exists.intro
   refine ⟨fun a wz hc hk hf K hK=>?_,?_⟩
   ·have h1:=hk 1 (by kernel_rfl)
    clear hk hf hc
    go_simp
    exact hK _ _ (Below.refl _ _) rfl
   refine calm_fixA rfl rfl ?_
   apply Exists.intro
   refine ⟨fun a wz hc hk hf K hK=>?_,?_⟩
   ·have h5:=hk 5 (by kernel_rfl)
    clear hk hf hc
    go_simp
    exact hK _ _ (Below.refl _ _) rfl
   refine calm_fixA rfl rfl ?_
   apply Exists.intro
   refine ⟨fun a wz hc hk hf K hK=>?_,?_⟩
   ·have h21:=held_isV hf 1 rfl (by kernel_rfl)
    have h22:=held_isV hf 0 rfl (by kernel_rfl)
    clear hk hf hc
    go_simp
    exact hK _ _ (Below.refl _ _) rfl
   refine calm_fixA rfl rfl ?_
   apply Exists.intro
   refine ⟨fun a wz hc hk hf K hK=>?_,?_⟩
   ·have hb:Below wr.heap.size wr wz:=hc rfl
    have h23:=held_isV hf 0 rfl (by kernel_rfl)
    clear hk hf hc
    obtain ⟨k0,k1,k2,k3⟩:=HC'.out.kept hb0' (HBW.out.trans (hb.mono HBW.out.size))
    go_simp
    exact hK _ _ (Below.refl _ _) rfl
   refine calm_fixA rfl rfl ?_
   apply Exists.intro
   refine ⟨fun a wz hc hk hf K hK=>?_,?_⟩
   ·have hb:Below wr.heap.size wr wz:=hc rfl
    have h20:=held_isV hf 4 rfl (by kernel_rfl)
    have h24:=held_isV hf 0 rfl (by kernel_rfl)
    clear hk hf hc
    go_simp
    refine Calls.mono (HS.out wz (HBW.out.trans (hb.mono HBW.out.size))) ?_
    rintro e w1 ⟨rfl,hq⟩
    exact hK _ _ hq rfl
   refine calm_fixA rfl rfl ?_
   apply Exists.intro
   refine ⟨fun a wz hc hk hf K hK=>?_,?_⟩
   ·have h25:=held_isV hf 0 rfl (by kernel_rfl)
    clear hk hf hc
    go_simp
    exact hK _ _ (Below.refl _ _) rfl
   refine calm_nil ?_
   refine ⟨keeps_none,?_⟩
   intro w9 hc
   simp only [lexL,calmEnd]
   rintro _ rfl _ rfl _ rfl _ rfl _ rfl _ rfl _ rfl _ rfl _ rfl _ rfl
   have hq:Below wr.heap.size wr w9:=hc rfl
   have HBN:=Lib.hid (HBW.out.trans (hq.mono HBW.out.size))
   clear hc hq HBW
   simp only [Act.put,List.setIfInBounds_toArray,List.set_cons_zero,List.set_cons_succ]
   go_wp2
   go_roundw
   case rel=>exact ⟨i+1,HLT.out,by go_num,HBN.out⟩
   case measure=>have:=HLT.out;simp [intOf];omega
  ·obtain rfl:i=n:=by omega
   go_wp2
   go_ret
   exact ⟨rfl,hb⟩
def cstT (b:ByteArray):Trm:=.mk 107 0 b []
def printsT (l:List Trm):List Trm:=l.map fun t=>cstT (mkB (printL t))
theorem printsT_length (l:List Trm):(printsT l).length=l.length:=List.length_map ..
set_option maxHeartbeats 8000000 in
set_option maxRecDepth 100000 in
theorem prints17_calls {w:World}{v:Value}{l:List Trm}(h:KidsIn w v l)(hs:∀ x∈l,Sm17 x)(hl:l.length≤1000000000):Calls Try.prog 23 #[v] w (PutEnd w (printsT l)):=by
 obtain ⟨i0,hi0,iz0,iz1,iz2⟩:=info_parts Try.infoCe24
 have HK:=Lib.hid h
 have HS:=Lib.hid hs
 obtain ⟨A,cap,rfl,-⟩:=kids_at h
 obtain ⟨n,hn⟩:∃ n,l.length=n:=⟨_,rfl⟩
 have HN:Hid (l.length=n):=hn
 rw [hn] at hl HK ⊢
 clear h hn hs
 have HL:Hid (n≤1000000000):=hl
 unfold PutEnd
 go_enter Try.func23,Try.ntmps23
 go_wp2
 go_loopw [3,4] (fun kx ix wr=>∃ (i:Nat) (kl:Value),ix=.int .i64 i∧kx=kl∧i≤n∧Hid (Own wr w.heap.size 4 kl i (trmsV ((printsT (l.take i)).map fun t=>((.slice none 0 0:Value),t))))∧Hid (Below w.heap.size w wr)) (fun _ ix _=>n-(intOf ix).toNat)
 case atStart=>exact ⟨0,_,rfl,rfl,Nat.zero_le _,Lib.hid (Own.nil_ _ _ _),Lib.hid (.refl _ _)⟩
 case round =>
  obtain ⟨i,kl,rfl,ek,hin,HO,HB⟩:=hrel
  rw [ek]
  clear ek
  have hnn:n≤1000000000:=HL.out
  by_cases hlt:i < n
  ·have hil:i < l.length:=by rw [HN.out];exact hlt
   obtain ⟨b,off,A1,p1,ea,hb0,hc,ht⟩:=kid_cells HK.out hil
   subst ea
   have HP:=Lib.hid (norm_print_calls (ht.kept HB.out) (HS.out _ (List.getElem_mem hil)))
   obtain ⟨k0,kk1,k2,k3⟩:=hc.kept hb0 HB.out
   have HTK:Hid (trmsV ((printsT (l.take (i+1))).map fun t=>((.slice none 0 0:Value),t))=trmsV ((printsT (l.take i)).map fun t=>((.slice none 0 0:Value),t))++[.int .u8 107,.int .i64 0,.string (mkB (printL l[i])),.slice none 0 0]):=by
    show _=_
    unfold printsT
    rw [List.take_add_one,List.getElem?_eq_getElem hil,List.map_append,List.map_append,trmsV_append]
    simp [trmsV,trmC,cstT,Trm.op,Trm.col,Trm.cell]
   have i1:(i:Int) < (n:Int):=by omega
   have q1:IntKind.i64.wrap ((i:Int)+1)=(i:Int)+1:=by rw [IntKind.wrap_i64];omega
   have HLT:Hid (i < n):=hlt
   clear hc ht hlt hin
   generalize printL l[i]=pk at *
   generalize l[i].kids.length=n3 at *
   generalize l[i].op=o9 at *
   generalize l[i].col=cc3 at *
   generalize l[i].cell=b3 at *
   clear hil
   obtain ⟨kA,kp,ekl⟩:=HO.out.len
   subst ekl
   obtain ⟨XS,hXS⟩:∃ x,Hid (x=trmsV ((printsT (l.take i)).map fun t=>((.slice none 0 0:Value),t))):=⟨_,rfl⟩
   rw [←hXS.out] at HO HTK
   obtain ⟨pb,hpb⟩:∃ x,Hid (x=mkB pk):=⟨_,rfl⟩
   rw [←hpb.out] at HP HTK
   go_wp2_with fail
   clear k0 kk1 k2 k3
   refine HP.out.stepB (w0:=wr) (B:=wr.heap.size) (.refl _ _) (Nat.le_refl _) ?_
   intro w5 _ _ hq
   have HO5:=Lib.hid (HO.out.later hq)
   have HB5:=Lib.hid (HB.out.trans (hq.mono HB.out.size))
   have hlit:SliceOf (w5.alloc (.cells #[.int .u8 107,.int .i64 0,.string pb,.slice none 0 0] 24)) 4 (.slice (some ⟨w5.heap.size,0,none⟩) 1 1) 1 [.int .u8 107,.int .i64 0,.string pb,.slice none 0 0]:=(Own.lit (B:=0) (size:=4) w5 #[.int .u8 107,.int .i64 0,.string pb,.slice none 0 0] 24 1 (Nat.zero_le _) (by unfold maxLen;omega) rfl).slice
   have ha6:=Below.alloc (.refl w5.heap.size w5) (Nat.le_refl _) (.cells #[.int .u8 107,.int .i64 0,.string pb,.slice none 0 0] 24)
   clear HO HB HP hq
   go_wp2_with (at_builtin;go_loud (refine wpList_append_src rfl (.tmp 11) (.tmp 18) 22 rfl 24 i0 (.agg #[.int .u8 0,.int .i64 0,.string ⟨#[]⟩,.slice none 0 0]) 4 56 Try.underlying22 hi0 iz0 iz1 iz2 rfl (by decide) (B:=w.heap.size) _ i XS rfl (HO5.out.later ha6) _ 1 _ rfl hlit ?_ (by unfold maxLen;omega) (by omega) (by have:=HB5.out.size;have:=ha6.size;omega) ?_))
   ·intro u hu
    simp only [List.mem_cons,List.mem_nil_iff,or_false] at hu
    rcases hu with rfl|rfl|rfl|rfl <;> rfl
   intro v9 w9 hO9 hg9 hn9
   have HO9:Hid (Own w9 w.heap.size 4 v9 (i+1) (trmsV ((printsT (l.take (i+1))).map fun t=>((.slice none 0 0:Value),t)))):=by
    show Own _ _ _ _ _ _
    rw [HTK.out];exact hO9
   have HB9:=Lib.hid ((HB5.out.trans (ha6.mono HB5.out.size)).grown hg9 (HB5.out.trans (ha6.mono HB5.out.size)).size (fun k hk=>(HO5.out.lt k hk).1))
   obtain ⟨vA,vp9,e9⟩:=hO9.len
   subst e9
   clear hO9 hg9 hn9 hlit ha6 HO5 HB5
   go_wp2
   go_roundw
   case rel=>exact ⟨i+1,_,by go_num,rfl,HLT.out,HO9,HB9⟩
   case measure=>have:=HLT.out;simp [intOf];omega
  ·obtain rfl:i=n:=by omega
   have HR:Hid (KidsIn wr kl (printsT l)):=by
    have h:=HO.out
    rw [List.take_of_length_le (by rw [HN.out];exact Nat.le_refl _)] at h
    refine KidsQ.of ((printsT l).map fun t=>((.slice none 0 0:Value),t)) (by rw [List.map_map];exact List.map_id _) trivial (by rw [printsT_length,HN.out];exact h.slice) fun u hu=>?_
    obtain ⟨x,hx,rfl⟩:=List.mem_map.1 hu
    obtain ⟨y,-,rfl⟩:=List.mem_map.1 hx
    exact ⟨⟨by show (0:Int)≤107;decide,by show (107:Int)≤255;decide,by show (-9223372036854775808:Int)≤0;decide,by show (0:Int)≤9223372036854775807;decide⟩,KidsIn.nil_ _ _ _⟩
   obtain ⟨kA,kp,ekl⟩:=HO.out.len
   subst ekl
   have i1:¬(i:Int) < (i:Int):=by omega
   clear HO hlt hin
   go_wp2
   go_ret
   exact ⟨_,rfl,HR.out,HB.out⟩
end Go.Proofs.Ytnkhkkdmjabhnaa
