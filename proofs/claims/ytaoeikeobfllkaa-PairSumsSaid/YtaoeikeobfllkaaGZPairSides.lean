/- The law PairSides of layer 19. -/
import Derived.Test.YtaoeikeobfllkaaGCalmM
import Derived.Test.YtaoeikeobfllkaaGZPairAwake
namespace Go.Proofs.Ytaoeikeobfllkaa
open Go Go.RowKit
theorem Try.infoS33:(Try.prog.info? 33).map (fun i=>(i.zero,i.size,i.bytes))=some (some (.agg #[.int .i64 0,.int .i64 0]),2,16):=by kernel_rfl
def GrowC (w:World)(L:List Cl)(v:Value)(wx:World):Prop:=Own wx w.heap.size 2 v L.length (onV L)∧Below w.heap.size w wx
theorem GrowC.kept {w:World}{L:List Cl}:∀ (v:Value)(wx wy:World),Below wx.heap.size wx wy→GrowC w L v wx→GrowC w L v wy:=fun _ _ _ hb h=>⟨h.1.later hb,h.2.trans (hb.mono h.2.size)⟩
theorem GrowC.slice {w wx:World}{L:List Cl}{v:Value}(h:GrowC w L v wx):∃ A p,v=.slice A L.length p:=h.1.len
theorem back_take (on:List Cl)(k:Nat)(h:k < on.length):backC (on.take (k+1))=backC (on.take k)++[(on[k].2,on[k].1)]:=by
 unfold backC
 rw [List.take_add_one,List.getElem?_eq_getElem h,Option.toList_some,List.map_append]
 rfl
theorem back_len (on:List Cl):(backC on).length=on.length:=List.length_map _
def LitC (c:Cl):Value→World→Prop:=fun v wx=>SliceOf wx 2 v 1 [.int .i64 c.1,.int .i64 c.2]
theorem LitC.kept {c:Cl}:∀ (v:Value)(w w':World),Below w.heap.size w w'→LitC c v w→LitC c v w':=fun _ _ _ hb h=>SliceOf.later h hb
theorem two_of {l:List Tm}(h:∀ t∈l.take l.length,t.1.length=2):Two l:=by rwa [List.take_length] at h
theorem four {α:Type}:∀ {l:List α},l.length=4→∃ a b c d,l=[a,b,c,d]
 | [a,b,c,d],_=>⟨a,b,c,d,rfl⟩
def Row4 (r:List ByteArray):Value→World→Prop:=fun v wx=>∃ b p,v=.slice (some ⟨b,0,none⟩) 4 p∧StrsIn wx (.slice (some ⟨b,0,none⟩) 4 p) r
theorem Row4.kept {r:List ByteArray}:∀ (v:Value)(w w':World),Below w.heap.size w w'→Row4 r v w→Row4 r v w':=fun _ _ _ hb h=>by
 obtain ⟨b,p,e,h1⟩:=h
 exact ⟨b,p,e,StrsIn.kept h1 hb⟩
set_option maxHeartbeats 16000000 in
set_option maxRecDepth 100000 in
theorem pairSides_calls {w:World}{vl vm vn:Value}{ll:List Tm}{lm:List Tm}{nn:List Cl}(hl:TimesIn w vl ll)(hm:TimesIn w vm lm)(hn:OnIn w vn nn):GivesAt Try.prog 5 #[vl,vm,vn] w (.bool true):=by
 have HAW:=Lib.hid awake19_calls
 have HSL:Hid (∀ W,Below w.heap.size w W→GivesAt Try.prog 7 #[vl,.int .i64 15] W (.bool (small19 ll 15))):=fun W hW=>(small19_calls 15 (hl.kept hW)).gives
 have HNL:=Lib.hid fun (h:small19 ll 15=true)=>fine19 h
 have HLL:=Lib.hid hl
 obtain ⟨Al,cl,rfl⟩:=times_slice hl
 have HSM:Hid (∀ W,Below w.heap.size w W→GivesAt Try.prog 7 #[vm,.int .i64 15] W (.bool (small19 lm 15))):=fun W hW=>(small19_calls 15 (hm.kept hW)).gives
 have HNM:=Lib.hid fun (h:small19 lm 15=true)=>fine19 h
 have HLM:=Lib.hid hm
 obtain ⟨Am,cm,rfl⟩:=times_slice hm
 have HON:=Lib.hid hn
 obtain ⟨An,cn,rfl⟩:=hn.slice
 have HB:Hid (Below w.heap.size w w):=Lib.hid (.refl _ _)
 clear hl hm hn
 unfold GivesAt
 go_enter Try.func5,Try.ntmps5
 cases hsl:small19 ll 15 with
 | false =>
  rw [hsl] at HSL
  clear hsl
  go_wp2_with fail
  refine Calls.mono (HSL.out w HB.out) ?_
  rintro e wn1 ⟨rfl,hq⟩
  replace HB:=Lib.hid (HB.out.trans (hq.mono HB.out.size))
  clear hq
  go_wp2_with fail
  refine Calls.mono (HAW.out wn1) ?_
  rintro e wn2 ⟨rfl,hq⟩
  replace HB:=Lib.hid (HB.out.trans (hq.mono HB.out.size))
  clear hq
  go_wp2
  go_ret
  exact ⟨rfl,HB.out⟩
 | true =>
  rw [hsl] at HSL
  replace HNL:=Lib.hid (HNL.out hsl)
  clear hsl
  go_wp2_with fail
  refine Calls.mono (HSL.out w HB.out) ?_
  rintro e wn1 ⟨rfl,hq⟩
  replace HB:=Lib.hid (HB.out.trans (hq.mono HB.out.size))
  clear hq
  cases hsm:small19 lm 15 with
  | false =>
   rw [hsm] at HSM
   clear hsm
   go_wp2_with fail
   refine Calls.mono (HSM.out wn1 HB.out) ?_
   rintro e wn2 ⟨rfl,hq⟩
   replace HB:=Lib.hid (HB.out.trans (hq.mono HB.out.size))
   clear hq
   go_wp2_with fail
   refine Calls.mono (HAW.out wn2) ?_
   rintro e wn3 ⟨rfl,hq⟩
   replace HB:=Lib.hid (HB.out.trans (hq.mono HB.out.size))
   clear hq
   go_wp2
   go_ret
   exact ⟨rfl,HB.out⟩
  | true =>
   rw [hsm] at HSM
   replace HNM:=Lib.hid (HNM.out hsm)
   clear hsm
   go_wp2_with fail
   refine Calls.mono (HSM.out wn1 HB.out) ?_
   rintro e wn2 ⟨rfl,hq⟩
   replace HB:=Lib.hid (HB.out.trans (hq.mono HB.out.size))
   clear hq
   by_cases hcn:nn.length≤6
   ·have dcn:decide ((6:Int) < (nn.length:Int))=false:=decide_eq_false (by omega)
    have HKN:Hid (nn.length≤6):=hcn
    clear hcn
    have HFL:Hid (Fine 15 503316480 10 ll):=HNL.out
    have HFM:Hid (Fine 15 503316480 10 lm):=HNM.out
    have HKC:Hid (nn.length≤6):=HKN.out
    clear HNL HNM HSL HSM HKN
    obtain ⟨i0,hi,hz0,hz1,hz2⟩:=info_parts Try.infoS33
    obtain ⟨An',cn',en,_,hatn⟩:=on_at HON.out
    cases en
    have HATN:=Lib.hid hatn
    clear hatn
    go_wp2
    go_loopw [7,8] (fun x i wr=>∃ k:Nat,k≤nn.length∧i=.int .i64 k∧Hid (GrowC wn2 (backC (nn.take k)) x wr)) (fun _ i _=>nn.length-(intOf i).toNat)
    case atStart=>exact ⟨0,Nat.zero_le _,rfl,Lib.hid ⟨Own.nil_ _ _ _,.refl _ _⟩⟩
    case round =>
     obtain ⟨k,hk,rfl,HG⟩:=hrel
     obtain ⟨A7,p7,e7⟩:=HG.out.slice
     rw [back_len,List.length_take,Nat.min_eq_left hk] at e7
     subst e7
     have hq:=HG.out.2
     replace HB:=Lib.hid (HB.out.trans (hq.mono HB.out.size))
     clear hq
     by_cases hlt:k < nn.length
     ·obtain ⟨bo,off,rfl,hbl,hc⟩:=HATN.out k hlt
      obtain ⟨c1,c2⟩:=hc k hlt
      have HX1:=Lib.hid ((HB.out.cell (p:=⟨bo,off+k*2,none⟩) hbl).trans c1)
      have HX2:=Lib.hid ((HB.out.cell (p:=⟨bo,off+k*2+1,none⟩) hbl).trans c2)
      have HTK:=Lib.hid (back_take nn k hlt)
      have HLK:Hid (k < nn.length):=hlt
      have HBK:Hid ((backC (nn.take k)).length=k):=by show _=_;rw [back_len,List.length_take,Nat.min_eq_left hk]
      have i1:(k:Int) < (nn.length:Int):=by omega
      have q1:IntKind.i64.wrap ((k:Int)+1)=(k:Int)+1:=by have:=HKC.out;rw [IntKind.wrap_i64];omega
      clear hc c1 c2
      generalize nn[k]=cc at *
      obtain ⟨c0,c1⟩:=cc
      dsimp only at *
      clear hlt hk
      generalize backC (nn.take k)=L at *
      go_wp2_with fail
      refine wp_region_m (offM 13 wr) (fun k=>k==13) (fun k m=>(m==13&&[0,1,2,3,4,5,6,7,8,9,10,11,12].contains k)) (fun k m=>(m==13&&[14].contains k)) (fun _ _ _ _=>True) (by kernel_rfl) (by kernel_rfl) (by kernel_rfl) (by kernel_rfl) (by intro m hm;revert hm;simp;try omega) (offM_stable _ _) (offM_start _ _) ?_
      refine m_fix rfl ?_
      apply Exists.intro
      refine ⟨fun ph a wz hp hc hk hf K hK=>?_,?_⟩
      ·have h7:=hk 7 (by kernel_rfl)
       clear hk hf hc
       go_simp
       exact hK _ _ (Below.refl _ _) rfl
      refine m_fix rfl ?_
      apply Exists.intro
      refine ⟨fun ph a wz hp hc hk hf K hK=>?_,?_⟩
      ·have h2:=hk 2 (by kernel_rfl)
       clear hk hf hc
       go_simp
       exact hK _ _ (Below.refl _ _) rfl
      refine m_fix rfl ?_
      apply Exists.intro
      refine ⟨fun ph a wz hp hc hk hf K hK=>?_,?_⟩
      ·have h8:=hk 8 (by kernel_rfl)
       clear hk hf hc
       go_simp
       exact hK _ _ (Below.refl _ _) rfl
      refine m_fix rfl ?_
      apply Exists.intro
      refine ⟨fun ph a wz hp hc hk hf K hK=>?_,?_⟩
      ·have h36:=mheld_isV hf 1 rfl (by kernel_rfl)
       have h37:=mheld_isV hf 0 rfl (by kernel_rfl)
       clear hk hf hc
       go_simp
       exact hK _ _ (Below.refl _ _) rfl
      refine m_fix rfl ?_
      apply Exists.intro
      refine ⟨fun ph a wz hp hc hk hf K hK=>?_,?_⟩
      ·have h38:=mheld_isV hf 0 rfl (by kernel_rfl)
       clear hk hf hc
       go_simp
       exact hK _ _ (Below.refl _ _) rfl
      refine m_fix rfl ?_
      apply Exists.intro
      refine ⟨fun ph a wz hp hc hk hf K hK=>?_,?_⟩
      ·have hb:Below wr.heap.size wr wz:=hc (hp.1 13 rfl rfl)
       have h39:=mheld_isV hf 0 rfl (by kernel_rfl)
       clear hk hf hc
       have x1:=cell_kept HX1.out hb
       have x2:=cell_kept HX2.out hb
       go_simp
       exact hK _ _ (Below.refl _ _) rfl
      refine m_fix rfl ?_
      apply Exists.intro
      refine ⟨fun ph a wz hp hc hk hf K hK=>?_,?_⟩
      ·have h2:=hk 2 (by kernel_rfl)
       clear hk hf hc
       go_simp
       exact hK _ _ (Below.refl _ _) rfl
      refine m_fix rfl ?_
      apply Exists.intro
      refine ⟨fun ph a wz hp hc hk hf K hK=>?_,?_⟩
      ·have h8:=hk 8 (by kernel_rfl)
       clear hk hf hc
       go_simp
       exact hK _ _ (Below.refl _ _) rfl
      refine m_fix rfl ?_
      apply Exists.intro
      refine ⟨fun ph a wz hp hc hk hf K hK=>?_,?_⟩
      ·have h41:=mheld_isV hf 1 rfl (by kernel_rfl)
       have h42:=mheld_isV hf 0 rfl (by kernel_rfl)
       clear hk hf hc
       go_simp
       exact hK _ _ (Below.refl _ _) rfl
      refine m_fix rfl ?_
      apply Exists.intro
      refine ⟨fun ph a wz hp hc hk hf K hK=>?_,?_⟩
      ·have h43:=mheld_isV hf 0 rfl (by kernel_rfl)
       clear hk hf hc
       go_simp
       exact hK _ _ (Below.refl _ _) rfl
      refine m_fix rfl ?_
      apply Exists.intro
      refine ⟨fun ph a wz hp hc hk hf K hK=>?_,?_⟩
      ·have hb:Below wr.heap.size wr wz:=hc (hp.1 13 rfl rfl)
       have h44:=mheld_isV hf 0 rfl (by kernel_rfl)
       clear hk hf hc
       have x1:=cell_kept HX1.out hb
       have x2:=cell_kept HX2.out hb
       go_simp
       exact hK _ _ (Below.refl _ _) rfl
      refine m_fix rfl ?_
      apply Exists.intro
      refine ⟨fun ph a wz hp hc hk hf K hK=>?_,?_⟩
      ·have h40:=mheld_isV hf 5 rfl (by kernel_rfl)
       have h45:=mheld_isV hf 0 rfl (by kernel_rfl)
       clear hk hf hc
       go_simp
       exact hK _ _ (Below.refl _ _) rfl
      refine m_var (tillM 13 (LitC (c1,c0))) rfl (stable_tillM LitC.kept) (fun ph a wz hp hc hk hf K hK=>?_) ?_
      ·have hb:Below wr.heap.size wr wz:=hc (hp.1 13 rfl rfl)
       have h46:=mheld_isV hf 0 rfl (by kernel_rfl)
       clear hk hf
       have x1:=cell_kept HX1.out hb
       have x2:=cell_kept HX2.out hb
       go_simp
       exact hK _ _ (Below.alloc (.refl _ _) (Nat.le_refl _) _) (fun _=>lit_on wz 33 [(c1,c0)] (by show 1≤1000;decide))
      refine m_store (fun _ v wx=>GrowC wn2 (L++[(c1,c0)]) v wx) rfl (fun _ v w w' hb h=>GrowC.kept v w w' hb h) (fun ph a wz hp hph hc hk hf K hK=>?_) ?_
      ·have hb:Below wr.heap.size wr wz:=hc hph
       have h35:=mheld_isV hf 12 rfl (by kernel_rfl)
       obtain ⟨v47,h47,S47⟩:=mheld_at hf 0 rfl (by kernel_rfl)
       replace S47:=S47 hph
       clear hk hf
       have hg8:=GrowC.kept _ _ _ hb HG.out
       have hO8:=hg8.1
       rw [HBK.out] at hO8
       have hlk:=HKC.out
       have hlk2:=HLK.out
       refine step_append_srcS rfl (.tmp 35) (.tmp 47) 23 rfl 33 i0 (.agg #[.int .i64 0,.int .i64 0]) 2 16 Try.underlying23 hi hz0 hz1 hz2 rfl (by decide) (B:=wn2.heap.size) (.slice A7 k p7) k (onV L) ?_ hO8 _ 1 [.int .i64 c1,.int .i64 c0] ?_ S47 (onV_one [(c1,c0)]) ?_ ?_ ?_ fun v' w' r1 r2 r3 r4=>?_
       ·simp [Act.eval,h35]
       ·simp [Act.eval,h47]
       ·unfold maxLen;omega
       ·omega
       ·exact hg8.2.size
       refine hK _ _ trivial (fun h=>by rw [setP_self] at h;cases h) ⟨?_,hg8.2.grown r2 hg8.2.size (fun j hj=>(hO8.lt j hj).1)⟩
       rw [onV_append,List.length_append,HBK.out]
       exact r1
      refine m_var (fun _ v wx=>GrowC wn2 (L++[(c1,c0)]) v wx) rfl (fun _ v w w' hb h=>GrowC.kept v w w' hb h) (fun ph a wz hp hc hk hf K hK=>?_) ?_
      ·obtain ⟨v48,h48,S48⟩:=mheld_at hf 0 rfl (by kernel_rfl)
       clear hk hf
       go_simp
       exact hK _ _ (Below.refl _ _) S48
      refine m_nil ?_
      refine ⟨keeps_m (fun m hm=>?_),?_⟩
      ·have hm2:m=13:=by simpa [or_assoc] using hm
       rcases hm2 with rfl
       ·exact ⟨.inr (.inr (keep_isV _)),.inr (.inr (keep_isV _)),.inr (.inr (keep_isV _)),.inr (.inr (keep_isV _)),.inr (.inr (keep_isV _)),.inr (.inr (keep_isV _)),.inr (.inr (keep_isV _)),.inr (.inr (keep_isV _)),.inr (.inr (keep_isV _)),.inr (.inr (keep_isV _)),.inr (.inr (keep_isV _)),.inr (.inr (keep_isV _)),.inr (.inr keep_till_self),.inl rfl,.inr (.inl rfl),trivial⟩
      intro ph w100 hps hc
      simp only [mlexL,mEnd]
      rintro _ rfl _ rfl _ rfl _ rfl _ rfl _ rfl _ rfl _ rfl _ rfl _ rfl _ rfl _ rfl v47 S47 v48 S48 v7 S7
      have HG4:=Lib.hid (show GrowC wn2 (L++[(c1,c0)]) v7 w100 from S7)
      clear hc hps S47 S48 S7
      simp only [Act.put,List.setIfInBounds_toArray,List.set_cons_zero,List.set_cons_succ]
      rw [←HTK.out] at HG4
      clear HX1 HX2 HG HB
      go_wp2
      go_roundw
      case rel=>exact ⟨k+1,HLK.out,by go_num,HG4⟩
      case measure=>have:=HLK.out;simp [intOf];omega
     ·obtain rfl:k=nn.length:=by omega
      rw [List.take_length] at HG
      have HBN:Hid (OnIn wr (.slice A7 (backC nn).length p7) (backC nn)):=by have h:=HG.out.1.slice;rw [back_len] at h ⊢;show SliceOf _ _ _ _ _;rw [back_len];exact h
      rw [back_len] at HBN
      clear HG hlt hk HATN hi hz0 hz1 hz2
      go_wp2
      go_loop [9] (fun i=>∃ k:Nat,k≤ll.length∧i=.int .i64 k∧Hid (∀ t∈ll.take k,t.1.length=2)) (fun i=>ll.length-(intOf i).toNat)
      case atStart=>exact ⟨0,Nat.zero_le _,rfl,Lib.hid fun c hc=>absurd hc (by simp)⟩
      case round =>
       obtain ⟨k,hk,rfl,HS⟩:=hrel
       by_cases hlt:k < ll.length
       ·have hat:=HLL.out.kept HB.out
        obtain ⟨b,off,cap',e0⟩:=times_some hat (by omega)
        obtain ⟨rfl,rfl⟩:Al=some ⟨b,off,none⟩∧cl=cap':=by injection e0 with e1 _ e2;exact ⟨e1,e2⟩
        clear e0
        obtain ⟨rv,hs,x1,_⟩:=times_cellAt hat k hlt
        obtain ⟨Ar,pr,rfl⟩:∃ A p,rv=.slice A ll[k].1.length p:=by obtain ⟨A,p,e,_⟩:=one_at hs;exact ⟨A,p,e⟩
        have HT:=Lib.hid (take_add ll k hlt)
        have i1:(k:Int) < (ll.length:Int):=by omega
        have q1:IntKind.i64.wrap ((k:Int)+1)=(k:Int)+1:=by have:=HFL.out.1;rw [IntKind.wrap_i64];omega
        have HLK:Hid (k < ll.length):=hlt
        clear hat hs
        generalize ll[k]=y at *
        obtain ⟨row1,d⟩:=y
        dsimp only at *
        clear hlt hk
        by_cases h2:row1.length=2
        ·have d2:((row1.length:Int) != 2)=false:=by rw [h2];rfl
         have HI:Hid (∀ t∈ll.take (k+1),t.1.length=2):=fun t ht=>by
          rw [HT.out] at ht
          rcases List.mem_append.1 ht with ht|ht
          ·exact HS.out t ht
          ·rw [List.mem_singleton.1 ht];exact h2
         clear h2
         go_wp2
         go_round
         case rel=>exact ⟨k+1,HLK.out,by go_num,HI⟩
         case measure=>have:=HLK.out;simp [intOf];omega
        ·have d2:((row1.length:Int) != 2)=true:=by rw [bne_iff_ne];omega
         clear h2
         go_wp2_with fail
         refine Calls.mono (HAW.out wr) ?_
         rintro e wn501 ⟨rfl,hq⟩
         replace HB:=Lib.hid (HB.out.trans (hq.mono HB.out.size))
         clear hq
         go_wp2
         go_ret
         exact ⟨rfl,HB.out⟩
       ·obtain rfl:k=ll.length:=by omega
        have HTL:=Lib.hid (two_of HS.out)
        clear hlt hk HS
        go_wp2
        go_loop [10] (fun i=>∃ k:Nat,k≤lm.length∧i=.int .i64 k∧Hid (∀ t∈lm.take k,t.1.length=2)) (fun i=>lm.length-(intOf i).toNat)
        case atStart=>exact ⟨0,Nat.zero_le _,rfl,Lib.hid fun c hc=>absurd hc (by simp)⟩
        case round =>
         obtain ⟨k,hk,rfl,HS⟩:=hrel
         by_cases hlt:k < lm.length
         ·have hat:=HLM.out.kept HB.out
          obtain ⟨b,off,cap',e0⟩:=times_some hat (by omega)
          obtain ⟨rfl,rfl⟩:Am=some ⟨b,off,none⟩∧cm=cap':=by injection e0 with e1 _ e2;exact ⟨e1,e2⟩
          clear e0
          obtain ⟨rv,hs,x1,_⟩:=times_cellAt hat k hlt
          obtain ⟨Ar,pr,rfl⟩:∃ A p,rv=.slice A lm[k].1.length p:=by obtain ⟨A,p,e,_⟩:=one_at hs;exact ⟨A,p,e⟩
          have HT:=Lib.hid (take_add lm k hlt)
          have i1:(k:Int) < (lm.length:Int):=by omega
          have q1:IntKind.i64.wrap ((k:Int)+1)=(k:Int)+1:=by have:=HFM.out.1;rw [IntKind.wrap_i64];omega
          have HLK:Hid (k < lm.length):=hlt
          clear hat hs
          generalize lm[k]=y at *
          obtain ⟨row1,d⟩:=y
          dsimp only at *
          clear hlt hk
          by_cases h2:row1.length=2
          ·have d2:((row1.length:Int) != 2)=false:=by rw [h2];rfl
           have HI:Hid (∀ t∈lm.take (k+1),t.1.length=2):=fun t ht=>by
            rw [HT.out] at ht
            rcases List.mem_append.1 ht with ht|ht
            ·exact HS.out t ht
            ·rw [List.mem_singleton.1 ht];exact h2
           clear h2
           go_wp2
           go_round
           case rel=>exact ⟨k+1,HLK.out,by go_num,HI⟩
           case measure=>have:=HLK.out;simp [intOf];omega
          ·have d2:((row1.length:Int) != 2)=true:=by rw [bne_iff_ne];omega
           clear h2
           go_wp2_with fail
           refine Calls.mono (HAW.out wr) ?_
           rintro e wn501 ⟨rfl,hq⟩
           replace HB:=Lib.hid (HB.out.trans (hq.mono HB.out.size))
           clear hq
           go_wp2
           go_ret
           exact ⟨rfl,HB.out⟩
         ·obtain rfl:k=lm.length:=by omega
          have HTM:=Lib.hid (two_of HS.out)
          clear hlt hk HS
          go_wp2_with fail
          refine Calls.mono (pjoin_calls (HLL.out.kept HB.out) (HLM.out.kept HB.out) (HON.out.kept HB.out) HFL.out HFM.out (by decide)) ?_
          rintro e wn601 ⟨vp,rfl,hk,hq⟩
          have Hp:Hid (TimesIn wn601 vp (joinS ll lm nn)):=hk
          clear hk
          replace HB:=Lib.hid (HB.out.trans (hq.mono HB.out.size))
          replace HBN:=Lib.hid (HBN.out.kept hq)
          clear hq
          go_wp2_with fail
          refine Calls.mono (pjoin_calls (HLM.out.kept HB.out) (HLL.out.kept HB.out) HBN.out HFM.out HFL.out (by decide)) ?_
          rintro e wn602 ⟨vo,rfl,hk,hq⟩
          have Ho:Hid (TimesIn wn602 vo (joinS lm ll (backC nn))):=hk
          clear hk
          replace HB:=Lib.hid (HB.out.trans (hq.mono HB.out.size))
          replace HBN:=Lib.hid (HBN.out.kept hq)
          replace Hp:=Lib.hid (Hp.out.kept hq)
          clear hq
          clear HBN
          have HFP:Hid (Fine 225 253327479039590400 20 (joinS ll lm nn)):=(HFL.out.join HFM.out nn).mono (by decide) (by decide) (by decide)
          have HFO:Hid (Fine 225 253327479039590400 20 (joinS lm ll (backC nn))):=(HFM.out.join HFL.out (backC nn)).mono (by decide) (by decide) (by decide)
          have HLQ:=Lib.hid (back_length (on:=nn) HTL.out HTM.out)
          have HF4:=Lib.hid (join_four (on:=nn) HTL.out HTM.out)
          have HCQ:Hid (∀ t∈joinS ll lm nn,cntW (joinS lm ll (backC nn)) (swap4 t.1)=t.2):=fun t ht=>by
           rw [cnt_back HTL.out HTM.out (join_four HTL.out HTM.out t ht)]
           exact cnt_mem (join_right ..) ht
          obtain ⟨Snp,cnp,enp⟩:=times_slice Hp.out
          obtain ⟨np,hnnp⟩:∃ n,(joinS ll lm nn).length=n:=⟨_,rfl⟩
          have HLnp:Hid ((joinS ll lm nn).length=np):=hnnp
          rw [hnnp] at enp
          subst enp
          clear hnnp
          obtain ⟨Sno,cno,eno⟩:=times_slice Ho.out
          obtain ⟨no,hnno⟩:∃ n,(joinS lm ll (backC nn)).length=n:=⟨_,rfl⟩
          have HLno:Hid ((joinS lm ll (backC nn)).length=no):=hnno
          rw [hnno] at eno
          subst eno
          clear hnno
          generalize joinS ll lm nn=P at *
          generalize joinS lm ll (backC nn)=Q at *
          obtain rfl:np=no:=by have h1:=HLnp.out;have h2:=HLno.out;have h3:=HLQ.out;omega
          have dl:((np:Int) != (np:Int))=false:=by simp
          clear HLQ HLno HTL HTM
          go_wp2
          clear dl
          go_loopw [13] (fun i wr=>∃ j:Nat,j≤np∧i=.int .i64 j∧Hid (Below wn602.heap.size wn602 wr)) (fun i _=>np-(intOf i).toNat)
          case atStart=>exact ⟨0,Nat.zero_le _,rfl,Lib.hid (.refl _ _)⟩
          case round =>
           obtain ⟨j,hj,rfl,HBR⟩:=hrel
           have hq:=HBR.out
           replace HB:=Lib.hid (HB.out.trans (hq.mono HB.out.size))
           replace Hp:=Lib.hid (Hp.out.kept hq)
           replace Ho:=Lib.hid (Ho.out.kept hq)
           clear hq
           by_cases hlt:j < np
           ·have hjp:j < P.length:=by rw [HLnp.out];exact hlt
            obtain ⟨b,off,cap',e0⟩:=times_some Hp.out (by omega)
            obtain ⟨rfl,rfl⟩:Snp=some ⟨b,off,none⟩∧cnp=cap':=by injection e0 with e1 _ e2;exact ⟨e1,e2⟩
            clear e0
            obtain ⟨rv,hs,c1,c2⟩:=times_cellAt Hp.out j hjp
            have h4:=HF4.out _ (List.getElem_mem hjp)
            have HCJ:=Lib.hid (HCQ.out _ (List.getElem_mem hjp))
            have HLJ:Hid (j < np):=hlt
            have i1:(j:Int) < (np:Int):=by omega
            have q1:IntKind.i64.wrap ((j:Int)+1)=(j:Int)+1:=by have h1:=HFP.out.1;have h2:=HLnp.out;rw [IntKind.wrap_i64];omega
            have HC1:=Lib.hid c1
            have HC2:=Lib.hid c2
            generalize P[j]=y at *
            obtain ⟨row1,d⟩:=y
            dsimp only at *
            obtain ⟨t0,t1,t2,t3,rfl⟩:=four h4
            obtain ⟨Ar,pr,rfl,hat⟩:=one_at hs
            obtain ⟨br,fr,rfl,_,hc⟩:=hat 0 (by simp)
            have HT0:Hid (wr.cell? ⟨br,fr,none⟩=some (.string t0)):=hc 0 (by simp)
            have HT1:Hid (wr.cell? ⟨br,fr+1,none⟩=some (.string t1)):=hc 1 (by simp)
            have HT2:Hid (wr.cell? ⟨br,fr+2,none⟩=some (.string t2)):=hc 2 (by simp)
            have HT3:Hid (wr.cell? ⟨br,fr+3,none⟩=some (.string t3)):=hc 3 (by simp)
            replace HC1:Hid (wr.cell? ⟨b,off+j*2,none⟩=some (.slice (some ⟨br,fr,none⟩) 4 pr)):=HC1
            have x1:=HC1.out
            have HSW:Hid (swap4 [t0,t1,t2,t3]=[t2,t3,t0,t1]):=rfl
            rw [HSW.out] at HCJ
            clear hlt hj hjp c1 c2 hat hc hs h4 HSW
            go_wp2_with fail
            clear x1
            refine wp_region_calm (offC wr) (fun _=>false) (fun _=>false) anyE false (by kernel_rfl) (by kernel_rfl) (by kernel_rfl) (by kernel_rfl) (by intro m hm;revert hm;simp;try omega) (offC_stable _) (offC_start _) ?_
            refine calm_fixA rfl rfl ?_
            apply Exists.intro
            refine ⟨fun a wz hc hk hf K hK=>?_,?_⟩
            ·have h11:=hk 11 (by kernel_rfl)
             clear hk hf hc
             go_simp
             exact hK _ _ (Below.refl _ _) rfl
            refine calm_fixA rfl rfl ?_
            apply Exists.intro
            refine ⟨fun a wz hc hk hf K hK=>?_,?_⟩
            ·have h13:=hk 13 (by kernel_rfl)
             clear hk hf hc
             go_simp
             exact hK _ _ (Below.refl _ _) rfl
            refine calm_fixA rfl rfl ?_
            apply Exists.intro
            refine ⟨fun a wz hc hk hf K hK=>?_,?_⟩
            ·have h103:=held_isV hf 1 rfl (by kernel_rfl)
             have h104:=held_isV hf 0 rfl (by kernel_rfl)
             clear hk hf hc
             go_simp
             exact hK _ _ (Below.refl _ _) rfl
            refine calm_fixA rfl rfl ?_
            apply Exists.intro
            refine ⟨fun a wz hc hk hf K hK=>?_,?_⟩
            ·have h105:=held_isV hf 0 rfl (by kernel_rfl)
             clear hk hf hc
             go_simp
             exact hK _ _ (Below.refl _ _) rfl
            refine calm_fixA rfl rfl ?_
            apply Exists.intro
            refine ⟨fun a wz hc hk hf K hK=>?_,?_⟩
            ·have hb:Below wr.heap.size wr wz:=hc rfl
             have h106:=held_isV hf 0 rfl (by kernel_rfl)
             clear hk hf hc
             have x1:=cell_kept HC1.out hb
             have t0_:=cell_kept HT0.out hb
             have t1_:=cell_kept HT1.out hb
             have t2_:=cell_kept HT2.out hb
             have t3_:=cell_kept HT3.out hb
             go_simp
             exact hK _ _ (Below.refl _ _) rfl
            refine calm_fixA rfl rfl ?_
            apply Exists.intro
            refine ⟨fun a wz hc hk hf K hK=>?_,?_⟩
            ·have h107:=held_isV hf 0 rfl (by kernel_rfl)
             clear hk hf hc
             go_simp
             exact hK _ _ (Below.refl _ _) rfl
            refine calm_fixA rfl rfl ?_
            apply Exists.intro
            refine ⟨fun a wz hc hk hf K hK=>?_,?_⟩
            ·have hb:Below wr.heap.size wr wz:=hc rfl
             have h108:=held_isV hf 0 rfl (by kernel_rfl)
             clear hk hf hc
             have x1:=cell_kept HC1.out hb
             have t0_:=cell_kept HT0.out hb
             have t1_:=cell_kept HT1.out hb
             have t2_:=cell_kept HT2.out hb
             have t3_:=cell_kept HT3.out hb
             go_simp
             exact hK _ _ (Below.refl _ _) rfl
            refine calm_fixA rfl rfl ?_
            apply Exists.intro
            refine ⟨fun a wz hc hk hf K hK=>?_,?_⟩
            ·have h11:=hk 11 (by kernel_rfl)
             clear hk hf hc
             go_simp
             exact hK _ _ (Below.refl _ _) rfl
            refine calm_fixA rfl rfl ?_
            apply Exists.intro
            refine ⟨fun a wz hc hk hf K hK=>?_,?_⟩
            ·have h13:=hk 13 (by kernel_rfl)
             clear hk hf hc
             go_simp
             exact hK _ _ (Below.refl _ _) rfl
            refine calm_fixA rfl rfl ?_
            apply Exists.intro
            refine ⟨fun a wz hc hk hf K hK=>?_,?_⟩
            ·have h110:=held_isV hf 1 rfl (by kernel_rfl)
             have h111:=held_isV hf 0 rfl (by kernel_rfl)
             clear hk hf hc
             go_simp
             exact hK _ _ (Below.refl _ _) rfl
            refine calm_fixA rfl rfl ?_
            apply Exists.intro
            refine ⟨fun a wz hc hk hf K hK=>?_,?_⟩
            ·have h112:=held_isV hf 0 rfl (by kernel_rfl)
             clear hk hf hc
             go_simp
             exact hK _ _ (Below.refl _ _) rfl
            refine calm_fixA rfl rfl ?_
            apply Exists.intro
            refine ⟨fun a wz hc hk hf K hK=>?_,?_⟩
            ·have hb:Below wr.heap.size wr wz:=hc rfl
             have h113:=held_isV hf 0 rfl (by kernel_rfl)
             clear hk hf hc
             have x1:=cell_kept HC1.out hb
             have t0_:=cell_kept HT0.out hb
             have t1_:=cell_kept HT1.out hb
             have t2_:=cell_kept HT2.out hb
             have t3_:=cell_kept HT3.out hb
             go_simp
             exact hK _ _ (Below.refl _ _) rfl
            refine calm_fixA rfl rfl ?_
            apply Exists.intro
            refine ⟨fun a wz hc hk hf K hK=>?_,?_⟩
            ·have h114:=held_isV hf 0 rfl (by kernel_rfl)
             clear hk hf hc
             go_simp
             exact hK _ _ (Below.refl _ _) rfl
            refine calm_fixA rfl rfl ?_
            apply Exists.intro
            refine ⟨fun a wz hc hk hf K hK=>?_,?_⟩
            ·have hb:Below wr.heap.size wr wz:=hc rfl
             have h115:=held_isV hf 0 rfl (by kernel_rfl)
             clear hk hf hc
             have x1:=cell_kept HC1.out hb
             have t0_:=cell_kept HT0.out hb
             have t1_:=cell_kept HT1.out hb
             have t2_:=cell_kept HT2.out hb
             have t3_:=cell_kept HT3.out hb
             go_simp
             exact hK _ _ (Below.refl _ _) rfl
            refine calm_fixA rfl rfl ?_
            apply Exists.intro
            refine ⟨fun a wz hc hk hf K hK=>?_,?_⟩
            ·have h11:=hk 11 (by kernel_rfl)
             clear hk hf hc
             go_simp
             exact hK _ _ (Below.refl _ _) rfl
            refine calm_fixA rfl rfl ?_
            apply Exists.intro
            refine ⟨fun a wz hc hk hf K hK=>?_,?_⟩
            ·have h13:=hk 13 (by kernel_rfl)
             clear hk hf hc
             go_simp
             exact hK _ _ (Below.refl _ _) rfl
            refine calm_fixA rfl rfl ?_
            apply Exists.intro
            refine ⟨fun a wz hc hk hf K hK=>?_,?_⟩
            ·have h117:=held_isV hf 1 rfl (by kernel_rfl)
             have h118:=held_isV hf 0 rfl (by kernel_rfl)
             clear hk hf hc
             go_simp
             exact hK _ _ (Below.refl _ _) rfl
            refine calm_fixA rfl rfl ?_
            apply Exists.intro
            refine ⟨fun a wz hc hk hf K hK=>?_,?_⟩
            ·have h119:=held_isV hf 0 rfl (by kernel_rfl)
             clear hk hf hc
             go_simp
             exact hK _ _ (Below.refl _ _) rfl
            refine calm_fixA rfl rfl ?_
            apply Exists.intro
            refine ⟨fun a wz hc hk hf K hK=>?_,?_⟩
            ·have hb:Below wr.heap.size wr wz:=hc rfl
             have h120:=held_isV hf 0 rfl (by kernel_rfl)
             clear hk hf hc
             have x1:=cell_kept HC1.out hb
             have t0_:=cell_kept HT0.out hb
             have t1_:=cell_kept HT1.out hb
             have t2_:=cell_kept HT2.out hb
             have t3_:=cell_kept HT3.out hb
             go_simp
             exact hK _ _ (Below.refl _ _) rfl
            refine calm_fixA rfl rfl ?_
            apply Exists.intro
            refine ⟨fun a wz hc hk hf K hK=>?_,?_⟩
            ·have h121:=held_isV hf 0 rfl (by kernel_rfl)
             clear hk hf hc
             go_simp
             exact hK _ _ (Below.refl _ _) rfl
            refine calm_fixA rfl rfl ?_
            apply Exists.intro
            refine ⟨fun a wz hc hk hf K hK=>?_,?_⟩
            ·have hb:Below wr.heap.size wr wz:=hc rfl
             have h122:=held_isV hf 0 rfl (by kernel_rfl)
             clear hk hf hc
             have x1:=cell_kept HC1.out hb
             have t0_:=cell_kept HT0.out hb
             have t1_:=cell_kept HT1.out hb
             have t2_:=cell_kept HT2.out hb
             have t3_:=cell_kept HT3.out hb
             go_simp
             exact hK _ _ (Below.refl _ _) rfl
            refine calm_fixA rfl rfl ?_
            apply Exists.intro
            refine ⟨fun a wz hc hk hf K hK=>?_,?_⟩
            ·have h11:=hk 11 (by kernel_rfl)
             clear hk hf hc
             go_simp
             exact hK _ _ (Below.refl _ _) rfl
            refine calm_fixA rfl rfl ?_
            apply Exists.intro
            refine ⟨fun a wz hc hk hf K hK=>?_,?_⟩
            ·have h13:=hk 13 (by kernel_rfl)
             clear hk hf hc
             go_simp
             exact hK _ _ (Below.refl _ _) rfl
            refine calm_fixA rfl rfl ?_
            apply Exists.intro
            refine ⟨fun a wz hc hk hf K hK=>?_,?_⟩
            ·have h124:=held_isV hf 1 rfl (by kernel_rfl)
             have h125:=held_isV hf 0 rfl (by kernel_rfl)
             clear hk hf hc
             go_simp
             exact hK _ _ (Below.refl _ _) rfl
            refine calm_fixA rfl rfl ?_
            apply Exists.intro
            refine ⟨fun a wz hc hk hf K hK=>?_,?_⟩
            ·have h126:=held_isV hf 0 rfl (by kernel_rfl)
             clear hk hf hc
             go_simp
             exact hK _ _ (Below.refl _ _) rfl
            refine calm_fixA rfl rfl ?_
            apply Exists.intro
            refine ⟨fun a wz hc hk hf K hK=>?_,?_⟩
            ·have hb:Below wr.heap.size wr wz:=hc rfl
             have h127:=held_isV hf 0 rfl (by kernel_rfl)
             clear hk hf hc
             have x1:=cell_kept HC1.out hb
             have t0_:=cell_kept HT0.out hb
             have t1_:=cell_kept HT1.out hb
             have t2_:=cell_kept HT2.out hb
             have t3_:=cell_kept HT3.out hb
             go_simp
             exact hK _ _ (Below.refl _ _) rfl
            refine calm_fixA rfl rfl ?_
            apply Exists.intro
            refine ⟨fun a wz hc hk hf K hK=>?_,?_⟩
            ·have h128:=held_isV hf 0 rfl (by kernel_rfl)
             clear hk hf hc
             go_simp
             exact hK _ _ (Below.refl _ _) rfl
            refine calm_fixA rfl rfl ?_
            apply Exists.intro
            refine ⟨fun a wz hc hk hf K hK=>?_,?_⟩
            ·have hb:Below wr.heap.size wr wz:=hc rfl
             have h129:=held_isV hf 0 rfl (by kernel_rfl)
             clear hk hf hc
             have x1:=cell_kept HC1.out hb
             have t0_:=cell_kept HT0.out hb
             have t1_:=cell_kept HT1.out hb
             have t2_:=cell_kept HT2.out hb
             have t3_:=cell_kept HT3.out hb
             go_simp
             exact hK _ _ (Below.refl _ _) rfl
            refine calm_varA (Row4 [t2,t3,t0,t1]) rfl rfl Row4.kept (fun a wz hc hk hf K hK=>?_) ?_
            ·have hb:Below wr.heap.size wr wz:=hc rfl
             have h109:=held_isV hf 21 rfl (by kernel_rfl)
             have h116:=held_isV hf 14 rfl (by kernel_rfl)
             have h123:=held_isV hf 7 rfl (by kernel_rfl)
             have h130:=held_isV hf 0 rfl (by kernel_rfl)
             clear hk hf hc
             have x1:=cell_kept HC1.out hb
             have t0_:=cell_kept HT0.out hb
             have t1_:=cell_kept HT1.out hb
             have t2_:=cell_kept HT2.out hb
             have t3_:=cell_kept HT3.out hb
             go_simp
             exact hK _ _ (Below.alloc (.refl _ _) (Nat.le_refl _) _) (fun _=>⟨wz.heap.size,4,rfl,lit_strs wz 9 [t2,t3,t0,t1] (by show 4≤1000;decide)⟩)
            refine calm_varA (Row4 [t2,t3,t0,t1]) rfl rfl Row4.kept (fun a wz hc hk hf K hK=>?_) ?_
            ·have hb:Below wr.heap.size wr wz:=hc rfl
             obtain ⟨v131,h131,S131⟩:=held_at hf 0 rfl (by kernel_rfl)
             clear hk hf hc
             go_simp
             exact hK _ _ (Below.refl _ _) (fun _=>S131 rfl)
            refine calm_nil ?_
            refine ⟨keeps_none,?_⟩
            intro wn701 hc
            simp only [lexL,calmEnd]
            rintro _ rfl _ rfl _ rfl _ rfl _ rfl _ rfl _ rfl _ rfl _ rfl _ rfl _ rfl _ rfl _ rfl _ rfl _ rfl _ rfl _ rfl _ rfl _ rfl _ rfl _ rfl _ rfl _ rfl _ rfl _ rfl _ rfl _ rfl _ rfl v131 S131 v14 S14
            obtain ⟨b9,p9,rfl,hrow⟩:=S14 rfl
            have hq:Below wr.heap.size wr wn701:=hc rfl
            have HRW:=Lib.hid hrow
            have HX2:=Lib.hid (cell_kept HC2.out hq)
            clear hc S131 S14 hrow HC1 HC2 HT0 HT1 HT2 HT3
            simp only [Act.put,List.setIfInBounds_toArray,List.set_cons_zero,List.set_cons_succ]
            replace HB:=Lib.hid (HB.out.trans (hq.mono HB.out.size))
            replace Hp:=Lib.hid (Hp.out.kept hq)
            replace Ho:=Lib.hid (Ho.out.kept hq)
            replace HBR:=Lib.hid (HBR.out.trans (hq.mono HBR.out.size))
            clear hq
            have HFD:Hid (∀ W,Below wn701.heap.size wn701 W→GivesAt Try.prog 16 #[.slice Sno np cno,.slice (some ⟨b9,0,none⟩) 4 p9] W (.int .i64 d)):=fun W hW=>by
             have h:=find19 (Ho.out.kept hW) (StrsIn.kept HRW.out hW) HFO.out (by decide)
             rw [HCJ.out] at h
             exact h
            have dd:(d != d)=false:=by simp
            go_wp2_with fail
            refine wp_region_calm (offC wn701) (fun _=>false) (fun _=>false) anyE false (by kernel_rfl) (by kernel_rfl) (by kernel_rfl) (by kernel_rfl) (by intro m hm;revert hm;simp;try omega) (offC_stable _) (offC_start _) ?_
            refine calm_fixA rfl rfl ?_
            apply Exists.intro
            refine ⟨fun a wz hc hk hf K hK=>?_,?_⟩
            ·have h12:=hk 12 (by kernel_rfl)
             clear hk hf hc
             go_simp
             exact hK _ _ (Below.refl _ _) rfl
            refine calm_fixA rfl rfl ?_
            apply Exists.intro
            refine ⟨fun a wz hc hk hf K hK=>?_,?_⟩
            ·have h14:=hk 14 (by kernel_rfl)
             clear hk hf hc
             go_simp
             exact hK _ _ (Below.refl _ _) rfl
            refine calm_fixA rfl rfl ?_
            apply Exists.intro
            refine ⟨fun a wz hc hk hf K hK=>?_,?_⟩
            ·have hb:Below wn701.heap.size wn701 wz:=hc rfl
             have h132:=held_isV hf 1 rfl (by kernel_rfl)
             have h133:=held_isV hf 0 rfl (by kernel_rfl)
             clear hk hf hc
             have x2:=cell_kept HX2.out hb
             go_simp
             refine Calls.mono (HFD.out wz hb) ?_
             rintro e w1 ⟨rfl,hq⟩
             exact hK _ _ hq rfl
            refine calm_fixA rfl rfl ?_
            apply Exists.intro
            refine ⟨fun a wz hc hk hf K hK=>?_,?_⟩
            ·have h11:=hk 11 (by kernel_rfl)
             clear hk hf hc
             go_simp
             exact hK _ _ (Below.refl _ _) rfl
            refine calm_fixA rfl rfl ?_
            apply Exists.intro
            refine ⟨fun a wz hc hk hf K hK=>?_,?_⟩
            ·have h13:=hk 13 (by kernel_rfl)
             clear hk hf hc
             go_simp
             exact hK _ _ (Below.refl _ _) rfl
            refine calm_fixA rfl rfl ?_
            apply Exists.intro
            refine ⟨fun a wz hc hk hf K hK=>?_,?_⟩
            ·have h135:=held_isV hf 1 rfl (by kernel_rfl)
             have h136:=held_isV hf 0 rfl (by kernel_rfl)
             clear hk hf hc
             go_simp
             exact hK _ _ (Below.refl _ _) rfl
            refine calm_fixA rfl rfl ?_
            apply Exists.intro
            refine ⟨fun a wz hc hk hf K hK=>?_,?_⟩
            ·have h137:=held_isV hf 0 rfl (by kernel_rfl)
             clear hk hf hc
             go_simp
             exact hK _ _ (Below.refl _ _) rfl
            refine calm_fixA rfl rfl ?_
            apply Exists.intro
            refine ⟨fun a wz hc hk hf K hK=>?_,?_⟩
            ·have hb:Below wn701.heap.size wn701 wz:=hc rfl
             have h138:=held_isV hf 0 rfl (by kernel_rfl)
             clear hk hf hc
             have x2:=cell_kept HX2.out hb
             go_simp
             exact hK _ _ (Below.refl _ _) rfl
            refine calm_fixA rfl rfl ?_
            apply Exists.intro
            refine ⟨fun a wz hc hk hf K hK=>?_,?_⟩
            ·have h134:=held_isV hf 5 rfl (by kernel_rfl)
             have h139:=held_isV hf 0 rfl (by kernel_rfl)
             clear hk hf hc
             go_simp
             exact hK _ _ (Below.refl _ _) rfl
            refine calm_nil ?_
            refine ⟨keeps_none,?_⟩
            intro wn702 hc
            simp only [lexL,calmEnd]
            rintro _ rfl _ rfl _ rfl _ rfl _ rfl _ rfl _ rfl _ rfl _ rfl
            have hq:Below wn701.heap.size wn701 wn702:=hc rfl
            have HBN:=Lib.hid (HBR.out.trans (hq.mono HBR.out.size))
            clear hc
            simp only [Act.put,List.setIfInBounds_toArray,List.set_cons_zero,List.set_cons_succ]
            clear hq HX2 HRW HFD HBR Hp Ho HB
            go_wp2
            go_roundw
            case rel=>exact ⟨j+1,HLJ.out,by go_num,HBN⟩
            case measure=>have:=HLJ.out;simp [intOf];omega
           ·obtain rfl:j=np:=by omega
            clear hlt hj HBR Hp Ho
            go_wp2_with fail
            refine Calls.mono (HAW.out wr) ?_
            rintro e wn901 ⟨rfl,hq⟩
            replace HB:=Lib.hid (HB.out.trans (hq.mono HB.out.size))
            clear hq
            go_wp2
            go_ret
            exact ⟨rfl,HB.out⟩
   ·have dcn:decide ((6:Int) < (nn.length:Int))=true:=decide_eq_true (by omega)
    clear hcn
    go_wp2_with fail
    refine Calls.mono (HAW.out wn2) ?_
    rintro e wn3 ⟨rfl,hq⟩
    replace HB:=Lib.hid (HB.out.trans (hq.mono HB.out.size))
    clear hq
    go_wp2
    go_ret
    exact ⟨rfl,HB.out⟩
end Go.Proofs.Ytaoeikeobfllkaa
