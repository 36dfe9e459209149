/- The law PairAll of layer 19. -/
import Derived.Test.YtaoeikeobfllkaaGZPairAwake
namespace Go.Proofs.Ytaoeikeobfllkaa
open Go Go.RowKit
theorem Try.infoC33:(Try.prog.info? 33).map (fun i=>(i.zero,i.size,i.bytes))=some (some (.agg #[.int .i64 0,.int .i64 0]),2,16):=by kernel_rfl
theorem many_fit {l:List Tm}{n k c:Nat}(f:Fine n k c l)(j:Nat):(manyW (l.take j)).natAbs≤k:=Nat.le_trans (many_le _) (Nat.le_trans (wt_take_le l j) f.2.1)
theorem many_fit0 {l:List Tm}{n k c:Nat}(f:Fine n k c l):(manyW l).natAbs≤k:=Nat.le_trans (many_le _) f.2.1
set_option maxHeartbeats 16000000 in
set_option maxRecDepth 100000 in
theorem pairAll_calls {w:World}{vl vm vn:Value}{ll:List Tm}{lm:List Tm}{nn:List Cl}(hl:TimesIn w vl ll)(hm:TimesIn w vm lm)(hn:OnIn w vn nn):GivesAt Try.prog 6 #[vl,vm,vn] w (.bool true):=by
 have HAW:=Lib.hid awake19_calls
 have HSL:Hid (∀ W,Below w.heap.size w W→GivesAt Try.prog 7 #[vl,.int .i64 12] W (.bool (small19 ll 12))):=fun W hW=>(small19_calls 12 (hl.kept hW)).gives
 have HNL:=Lib.hid fun (h:small19 ll 12=true)=>fine19 h
 have HLL:=Lib.hid hl
 obtain ⟨Al,cl,rfl⟩:=times_slice hl
 have HSM:Hid (∀ W,Below w.heap.size w W→GivesAt Try.prog 7 #[vm,.int .i64 12] W (.bool (small19 lm 12))):=fun W hW=>(small19_calls 12 (hm.kept hW)).gives
 have HNM:=Lib.hid fun (h:small19 lm 12=true)=>fine19 h
 have HLM:=Lib.hid hm
 obtain ⟨Am,cm,rfl⟩:=times_slice hm
 have HON:=Lib.hid hn
 obtain ⟨An,cn,rfl⟩:=hn.slice
 have HB:Hid (Below w.heap.size w w):=Lib.hid (.refl _ _)
 clear hl hm hn
 unfold GivesAt
 go_enter Try.func6,Try.ntmps6
 cases hsl:small19 ll 12 with
 | false =>
  rw [hsl] at HSL
  clear hsl
  go_wp2_with fail
  refine Calls.mono (HSL.out w HB.out) ?_
  rintro e wn1 ⟨rfl,hq⟩
  replace HB:=Lib.hid (HB.out.trans (hq.mono HB.out.size))
  clear hq
  go_wp2_with fail
  refine Calls.mono (HAW.out wn1) ?_
  rintro e wn2 ⟨rfl,hq⟩
  replace HB:=Lib.hid (HB.out.trans (hq.mono HB.out.size))
  clear hq
  go_wp2
  go_ret
  exact ⟨rfl,HB.out⟩
 | true =>
  rw [hsl] at HSL
  replace HNL:=Lib.hid (HNL.out hsl)
  clear hsl
  go_wp2_with fail
  refine Calls.mono (HSL.out w HB.out) ?_
  rintro e wn1 ⟨rfl,hq⟩
  replace HB:=Lib.hid (HB.out.trans (hq.mono HB.out.size))
  clear hq
  cases hsm:small19 lm 12 with
  | false =>
   rw [hsm] at HSM
   clear hsm
   go_wp2_with fail
   refine Calls.mono (HSM.out wn1 HB.out) ?_
   rintro e wn2 ⟨rfl,hq⟩
   replace HB:=Lib.hid (HB.out.trans (hq.mono HB.out.size))
   clear hq
   go_wp2_with fail
   refine Calls.mono (HAW.out wn2) ?_
   rintro e wn3 ⟨rfl,hq⟩
   replace HB:=Lib.hid (HB.out.trans (hq.mono HB.out.size))
   clear hq
   go_wp2
   go_ret
   exact ⟨rfl,HB.out⟩
  | true =>
   rw [hsm] at HSM
   replace HNM:=Lib.hid (HNM.out hsm)
   clear hsm
   go_wp2_with fail
   refine Calls.mono (HSM.out wn1 HB.out) ?_
   rintro e wn2 ⟨rfl,hq⟩
   replace HB:=Lib.hid (HB.out.trans (hq.mono HB.out.size))
   clear hq
   by_cases hcn:nn.length≤5
   ·have dcn:decide ((5:Int) < (nn.length:Int))=false:=decide_eq_false (by omega)
    have HKN:Hid (nn.length≤5):=hcn
    clear hcn
    have HFL:Hid (Fine 12 402653184 10 ll):=HNL.out
    have HFM:Hid (Fine 12 402653184 10 lm):=HNM.out
    have HKC:Hid (nn.length≤5):=HKN.out
    have HALL:=Lib.hid (many_all ll lm)
    clear HNL HNM HSL HSM HKN
    obtain ⟨i0,hi,hz0,hz1,hz2⟩:=info_parts Try.infoC33
    go_wp2
    go_loop [7,9] (fun n i=>∃ k:Nat,k≤ll.length∧i=.int .i64 k∧n=.int .i64 (manyW (ll.take k))) (fun _ i=>ll.length-(intOf i).toNat)
    case atStart=>exact ⟨0,Nat.zero_le _,rfl,rfl⟩
    case round =>
     obtain ⟨k,hk,rfl,rfl⟩:=hrel
     by_cases hlt:k < ll.length
     ·have hkl:k < ll.length:=hlt
      have hat:=(HLL.out.kept HB.out)
      obtain ⟨b,off,cap',e0⟩:=times_some hat (by omega)
      obtain ⟨rfl,rfl⟩:Al=some ⟨b,off,none⟩∧cl=cap':=by injection e0 with e1 _ e2;exact ⟨e1,e2⟩
      clear e0
      obtain ⟨rv,_,_,x2⟩:=times_cellAt hat k hkl
      have HTK:=Lib.hid (many_take ll k hkl)
      have HLE:=Lib.hid (many_fit HFL.out (k+1))
      obtain ⟨S,hS⟩:∃ S,manyW (ll.take k)=S:=⟨_,rfl⟩
      rw [hS] at HTK ⊢
      clear hS hat
      generalize ll[k]=y at *
      obtain ⟨row1,d⟩:=y
      dsimp only at *
      have i1:(k:Int) < (ll.length:Int):=by omega
      have q1:IntKind.i64.wrap ((k:Int)+1)=(k:Int)+1:=by have h1:=HFL.out.1;rw [IntKind.wrap_i64];omega
      have q3:IntKind.i64.wrap (S+d)=S+d:=by have h1:=HLE.out;have h2:=HTK.out;rw [h2] at h1;rw [IntKind.wrap_i64];omega
      have HLK:Hid (k < ll.length):=hlt
      clear hlt hk hkl
      go_wp2
      go_round
      case rel=>exact ⟨k+1,HLK.out,by go_num,congrArg (Value.int .i64) HTK.out.symm⟩
      case measure=>have:=HLK.out;simp [intOf];omega
     ·obtain rfl:k=ll.length:=by omega
      rw [List.take_of_length_le (Nat.le_refl _)]
      clear hlt hk
      go_wp2
      go_loop [8,10] (fun n i=>∃ k:Nat,k≤lm.length∧i=.int .i64 k∧n=.int .i64 (manyW (lm.take k))) (fun _ i=>lm.length-(intOf i).toNat)
      case atStart=>exact ⟨0,Nat.zero_le _,rfl,rfl⟩
      case round =>
       obtain ⟨k,hk,rfl,rfl⟩:=hrel
       by_cases hlt:k < lm.length
       ·have hkl:k < lm.length:=hlt
        have hat:=(HLM.out.kept HB.out)
        obtain ⟨b,off,cap',e0⟩:=times_some hat (by omega)
        obtain ⟨rfl,rfl⟩:Am=some ⟨b,off,none⟩∧cm=cap':=by injection e0 with e1 _ e2;exact ⟨e1,e2⟩
        clear e0
        obtain ⟨rv,_,_,x2⟩:=times_cellAt hat k hkl
        have HTK:=Lib.hid (many_take lm k hkl)
        have HLE:=Lib.hid (many_fit HFM.out (k+1))
        obtain ⟨S,hS⟩:∃ S,manyW (lm.take k)=S:=⟨_,rfl⟩
        rw [hS] at HTK ⊢
        clear hS hat
        generalize lm[k]=y at *
        obtain ⟨row1,d⟩:=y
        dsimp only at *
        have i1:(k:Int) < (lm.length:Int):=by omega
        have q1:IntKind.i64.wrap ((k:Int)+1)=(k:Int)+1:=by have h1:=HFM.out.1;rw [IntKind.wrap_i64];omega
        have q3:IntKind.i64.wrap (S+d)=S+d:=by have h1:=HLE.out;have h2:=HTK.out;rw [h2] at h1;rw [IntKind.wrap_i64];omega
        have HLK:Hid (k < lm.length):=hlt
        clear hlt hk hkl
        go_wp2
        go_round
        case rel=>exact ⟨k+1,HLK.out,by go_num,congrArg (Value.int .i64) HTK.out.symm⟩
        case measure=>have:=HLK.out;simp [intOf];omega
       ·obtain rfl:k=lm.length:=by omega
        rw [List.take_of_length_le (Nat.le_refl _)]
        clear hlt hk
        clear hi hz0 hz1 hz2
        obtain ⟨i0,hi,hz0,hz1,hz2⟩:=info_parts Try.infoC33
        go_wp2_with fail
        refine Calls.mono (pjoin_calls (HLL.out.kept HB.out) (HLM.out.kept HB.out) (OnIn.nil_ wn2 none 0) HFL.out HFM.out (by decide)) ?_
        rintro e wn3 ⟨vp,rfl,hk,hq⟩
        have Hp:Hid (TimesIn wn3 vp (joinS ll lm [])):=hk
        clear hk
        replace HB:=Lib.hid (HB.out.trans (hq.mono HB.out.size))
        clear hq
        have HFP:Hid (Fine 144 162129586585337856 20 (joinS ll lm [])):=HFL.out.join HFM.out []
        obtain ⟨Snp,cnp,enp⟩:=times_slice Hp.out
        obtain ⟨np,hnnp⟩:∃ n,(joinS ll lm []).length=n:=⟨_,rfl⟩
        have HLnp:Hid ((joinS ll lm []).length=np):=hnnp
        rw [hnnp] at enp
        subst enp
        clear hnnp
        have HNB:=Lib.hid (mul_fits (many_fit0 HFL.out) (many_fit0 HFM.out) (by decide))
        generalize joinS ll lm []=P at *
        generalize manyW ll=N at *
        generalize manyW lm=M at *
        go_wp2
        go_loop [12,13] (fun n i=>∃ k:Nat,k≤np∧i=.int .i64 k∧n=.int .i64 (manyW (P.take k))) (fun _ i=>np-(intOf i).toNat)
        case atStart=>exact ⟨0,Nat.zero_le _,rfl,rfl⟩
        case round =>
         obtain ⟨k,hk,rfl,rfl⟩:=hrel
         by_cases hlt:k < np
         ·have hkl:k < P.length:=by rw [HLnp.out];exact hlt
          have hat:=Hp.out
          obtain ⟨b,off,cap',e0⟩:=times_some hat (by omega)
          obtain ⟨rfl,rfl⟩:Snp=some ⟨b,off,none⟩∧cnp=cap':=by injection e0 with e1 _ e2;exact ⟨e1,e2⟩
          clear e0
          obtain ⟨rv,_,_,x2⟩:=times_cellAt hat k hkl
          have HTK:=Lib.hid (many_take P k hkl)
          have HLE:=Lib.hid (many_fit HFP.out (k+1))
          obtain ⟨S,hS⟩:∃ S,manyW (P.take k)=S:=⟨_,rfl⟩
          rw [hS] at HTK ⊢
          clear hS hat
          generalize P[k]=y at *
          obtain ⟨row1,d⟩:=y
          dsimp only at *
          have i1:(k:Int) < (np:Int):=by omega
          have q1:IntKind.i64.wrap ((k:Int)+1)=(k:Int)+1:=by have h1:=HFP.out.1;have h2:=HLnp.out;rw [IntKind.wrap_i64];omega
          have q3:IntKind.i64.wrap (S+d)=S+d:=by have h1:=HLE.out;have h2:=HTK.out;rw [h2] at h1;rw [IntKind.wrap_i64];omega
          have HLK:Hid (k < np):=hlt
          clear hlt hk hkl
          go_wp2
          go_round
          case rel=>exact ⟨k+1,HLK.out,by go_num,congrArg (Value.int .i64) HTK.out.symm⟩
          case measure=>have:=HLK.out;simp [intOf];omega
         ·obtain rfl:k=np:=by omega
          rw [List.take_of_length_le (by rw [HLnp.out];exact Nat.le_refl _)]
          clear hlt hk
          clear Hp
          rw [HALL.out]
          clear HALL HFP HLnp
          have hq0:=Below.alloc (.refl wn3.heap.size wn3) (Nat.le_refl _) (.cells #[] 33)
          have HE:Hid (Own (wn3.alloc (.cells #[] 33)) wn3.heap.size 2 (.slice (some ⟨wn3.heap.size,0,none⟩) 0 0) 0 []):=own_empty 2 (Nat.le_refl _) (by simp)
          have HSN:Hid (SliceOf (wn3.alloc (.cells #[] 33)) 2 (.slice An nn.length cn) nn.length (onV nn)):=HON.out.kept (HB.out.trans (hq0.mono HB.out.size))
          have H1:=Lib.hid (onV_one nn)
          have HQ0:=Lib.hid hq0
          clear hq0
          go_wp2_with (at_builtin;refine wpList_append_src rfl (.tmp 73) (.tmp 74) 23 rfl 33 i0 (.agg #[.int .i64 0,.int .i64 0]) 2 16 Try.underlying23 hi hz0 hz1 hz2 rfl (by decide) (B:=wn3.heap.size) (.slice (some ⟨wn3.heap.size,0,none⟩) 0 0) 0 [] rfl HE.out (.slice An nn.length cn) nn.length (onV nn) rfl HSN.out H1.out (by have:=HKC.out;unfold maxLen;omega) (by have:=HKC.out;omega) HQ0.out.size ?_)
          intro v5 w5 hO5 hg5 _
          have hq5:=HQ0.out.grown hg5 HQ0.out.size (fun j hj=>(HE.out.lt j hj).1)
          have HO5:=Lib.hid (Own.alloc hO5 (.cells #[.int .i64 0,.int .i64 0] 33))
          have HL5:Hid (SliceOf (w5.alloc (.cells #[.int .i64 0,.int .i64 0] 33)) 2 (.slice (some ⟨w5.heap.size,0,none⟩) 1 1) 1 [.int .i64 0,.int .i64 0]):=lit_on w5 33 [(0,0)] (by show 1≤1000;decide)
          have HQ5:=Lib.hid (hq5.alloc hq5.size (.cells #[.int .i64 0,.int .i64 0] 33))
          have HK5:Hid (∀ k,v5.ownBlock=some k→wn3.heap.size≤k):=fun k hk=>(hO5.lt k hk).1
          clear hO5 hg5 hq5 HE HSN H1 HQ0
          go_wp2_with (at_builtin;refine wpList_append_src rfl (.tmp 75) (.tmp 77) 23 rfl 33 i0 (.agg #[.int .i64 0,.int .i64 0]) 2 16 Try.underlying23 hi hz0 hz1 hz2 rfl (by decide) (B:=wn3.heap.size) v5 _ _ rfl HO5.out (.slice (some ⟨w5.heap.size,0,none⟩) 1 1) 1 [.int .i64 0,.int .i64 0] rfl HL5.out (onV_one [(0,0)]) (by have:=HKC.out;unfold maxLen;omega) (by have:=HKC.out;omega) HQ5.out.size ?_)
          intro v6 wn5 hO6 hg6 _
          have hq:=HQ5.out.grown hg6 HQ5.out.size HK5.out
          have HMO:Hid (OnIn wn5 v6 (nn++[(0,0)])):=by
           have h:=hO6.slice
           show SliceOf _ _ _ _ _
           rw [onV_append,List.length_append]
           exact h
          have HME:Hid (∀ a b,meetsB a b (nn++[(0,0)])=true→meetsB a b nn=true):=fun a b h=>meets_more h
          clear hO6 hg6 HO5 HL5 HQ5 HK5
          obtain ⟨A6,p6,rfl⟩:=HMO.out.slice
          generalize nn++[(0,0)]=mo at *
          replace HB:=Lib.hid (HB.out.trans (hq.mono HB.out.size))
          clear hq
          go_wp2
          go_loopw [15] (fun i wr=>∃ k:Nat,k≤ll.length∧i=.int .i64 k∧Hid (Below wn5.heap.size wn5 wr)) (fun i _=>ll.length-(intOf i).toNat)
          case atStart=>exact ⟨0,Nat.zero_le _,rfl,Lib.hid (.refl _ _)⟩
          case round =>
           obtain ⟨k,hk,rfl,HBR⟩:=hrel
           obtain ⟨w400,hw400⟩:∃ x,x=wr:=⟨_,rfl⟩
           subst hw400
           have hq:=HBR.out
           replace HB:=Lib.hid (HB.out.trans (hq.mono HB.out.size))
           replace HMO:=Lib.hid (HMO.out.kept hq)
           clear hq
           by_cases hlt:k < ll.length
           ·obtain ⟨b1,o1,cap',e0⟩:=times_some HLL.out (by omega)
            obtain ⟨rfl,rfl⟩:Al=some ⟨b1,o1,none⟩∧cl=cap':=by injection e0 with e1 _ e2;exact ⟨e1,e2⟩
            clear e0
            obtain ⟨r1,hs1,c1,_⟩:=times_cellAt HLL.out k hlt
            obtain ⟨A1,p1,rfl⟩:∃ A p,r1=.slice A ll[k].1.length p:=by obtain ⟨A,p,e,_⟩:=one_at hs1;exact ⟨A,p,e⟩
            have HC1:=Lib.hid c1
            have HS1:=Lib.hid hs1
            have HLK:Hid (k < ll.length):=hlt
            have i1:(k:Int) < (ll.length:Int):=by omega
            have q1:IntKind.i64.wrap ((k:Int)+1)=(k:Int)+1:=by have:=HFL.out.1;rw [IntKind.wrap_i64];omega
            clear c1 hs1
            generalize ll[k]=x at *
            obtain ⟨row1,c1⟩:=x
            dsimp only at *
            clear hlt hk
            go_wp2
            go_loopw [16] (fun i wr=>∃ j:Nat,j≤lm.length∧i=.int .i64 j∧Hid (Below w400.heap.size w400 wr)) (fun i _=>lm.length-(intOf i).toNat)
            case atStart=>exact ⟨0,Nat.zero_le _,rfl,Lib.hid (.refl _ _)⟩
            case round =>
             obtain ⟨j,hj,rfl,HBI⟩:=hrel
             have hq:=HBI.out
             replace HB:=Lib.hid (HB.out.trans (hq.mono HB.out.size))
             replace HMO:=Lib.hid (HMO.out.kept hq)
             replace HBR:=Lib.hid (HBR.out.trans (hq.mono HBR.out.size))
             clear hq
             by_cases hlt:j < lm.length
             ·obtain ⟨b2,o2,cap',e0⟩:=times_some HLM.out (by omega)
              obtain ⟨rfl,rfl⟩:Am=some ⟨b2,o2,none⟩∧cm=cap':=by injection e0 with e1 _ e2;exact ⟨e1,e2⟩
              clear e0
              obtain ⟨r2,hs2,c2,_⟩:=times_cellAt HLM.out j hlt
              obtain ⟨A2,p2,rfl⟩:∃ A p,r2=.slice A lm[j].1.length p:=by obtain ⟨A,p,e,_⟩:=one_at hs2;exact ⟨A,p,e⟩
              have HX1:=Lib.hid (cell_kept HC1.out HB.out)
              have HX2:=Lib.hid (cell_kept c2 HB.out)
              have HSA:=Lib.hid (StrsIn.kept HS1.out HB.out)
              have HSB:=Lib.hid (StrsIn.kept hs2 HB.out)
              have HLJ:Hid (j < lm.length):=hlt
              have i2:(j:Int) < (lm.length:Int):=by omega
              have q2:IntKind.i64.wrap ((j:Int)+1)=(j:Int)+1:=by have:=HFM.out.1;rw [IntKind.wrap_i64];omega
              clear c2 hs2
              generalize lm[j]=y at *
              obtain ⟨row2,c2⟩:=y
              dsimp only at *
              clear hlt hj
              have HM1:Hid (∀ W,Below wr.heap.size wr W→GivesAt Try.prog 9 #[.slice A1 row1.length p1,.slice A2 row2.length p2,.slice A6 mo.length p6] W (.bool (meetsB row1 row2 mo))):=fun W hW=>pmeets_calls (StrsIn.kept HSA.out hW) (StrsIn.kept HSB.out hW) (HMO.out.kept hW)
              have HM2:Hid (∀ W,Below wr.heap.size wr W→GivesAt Try.prog 9 #[.slice A1 row1.length p1,.slice A2 row2.length p2,.slice An nn.length cn] W (.bool (meetsB row1 row2 nn))):=fun W hW=>pmeets_calls (StrsIn.kept HSA.out hW) (StrsIn.kept HSB.out hW) (HON.out.kept (HB.out.trans (hW.mono HB.out.size)))
              have HMR:=Lib.hid (HME.out row1 row2)
              cases hy:meetsB row1 row2 mo with
              | true =>
               rw [hy] at HM1
               rw [HMR.out hy] at HM2
               clear hy HMR
               go_wp2_with fail
               refine wp_region_calm (offC wr) (fun _=>false) (fun _=>false) anyE false (by kernel_rfl) (by kernel_rfl) (by kernel_rfl) (by kernel_rfl) (by intro m hm;revert hm;simp;try omega) (offC_stable _) (offC_start _) ?_
               refine calm_fixA rfl rfl ?_
               apply Exists.intro
               refine ⟨fun a wz hc hk hf K hK=>?_,?_⟩
               ·have h0:=hk 0 (by kernel_rfl)
                clear hk hf hc
                go_simp
                exact hK _ _ (Below.refl _ _) rfl
               refine calm_fixA rfl rfl ?_
               apply Exists.intro
               refine ⟨fun a wz hc hk hf K hK=>?_,?_⟩
               ·have h15:=hk 15 (by kernel_rfl)
                clear hk hf hc
                go_simp
                exact hK _ _ (Below.refl _ _) rfl
               refine calm_fixA rfl rfl ?_
               apply Exists.intro
               refine ⟨fun a wz hc hk hf K hK=>?_,?_⟩
               ·have h91:=held_isV hf 1 rfl (by kernel_rfl)
                have h92:=held_isV hf 0 rfl (by kernel_rfl)
                clear hk hf hc
                go_simp
                exact hK _ _ (Below.refl _ _) rfl
               refine calm_fixA rfl rfl ?_
               apply Exists.intro
               refine ⟨fun a wz hc hk hf K hK=>?_,?_⟩
               ·have h93:=held_isV hf 0 rfl (by kernel_rfl)
                clear hk hf hc
                go_simp
                exact hK _ _ (Below.refl _ _) rfl
               refine calm_fixA rfl rfl ?_
               apply Exists.intro
               refine ⟨fun a wz hc hk hf K hK=>?_,?_⟩
               ·have hb:Below wr.heap.size wr wz:=hc rfl
                have h94:=held_isV hf 0 rfl (by kernel_rfl)
                clear hk hf hc
                have x1:=cell_kept HX1.out hb
                have x2:=cell_kept HX2.out hb
                go_simp
                exact hK _ _ (Below.refl _ _) rfl
               refine calm_fixA rfl rfl ?_
               apply Exists.intro
               refine ⟨fun a wz hc hk hf K hK=>?_,?_⟩
               ·have h1:=hk 1 (by kernel_rfl)
                clear hk hf hc
                go_simp
                exact hK _ _ (Below.refl _ _) rfl
               refine calm_fixA rfl rfl ?_
               apply Exists.intro
               refine ⟨fun a wz hc hk hf K hK=>?_,?_⟩
               ·have h16:=hk 16 (by kernel_rfl)
                clear hk hf hc
                go_simp
                exact hK _ _ (Below.refl _ _) rfl
               refine calm_fixA rfl rfl ?_
               apply Exists.intro
               refine ⟨fun a wz hc hk hf K hK=>?_,?_⟩
               ·have h96:=held_isV hf 1 rfl (by kernel_rfl)
                have h97:=held_isV hf 0 rfl (by kernel_rfl)
                clear hk hf hc
                go_simp
                exact hK _ _ (Below.refl _ _) rfl
               refine calm_fixA rfl rfl ?_
               apply Exists.intro
               refine ⟨fun a wz hc hk hf K hK=>?_,?_⟩
               ·have h98:=held_isV hf 0 rfl (by kernel_rfl)
                clear hk hf hc
                go_simp
                exact hK _ _ (Below.refl _ _) rfl
               refine calm_fixA rfl rfl ?_
               apply Exists.intro
               refine ⟨fun a wz hc hk hf K hK=>?_,?_⟩
               ·have hb:Below wr.heap.size wr wz:=hc rfl
                have h99:=held_isV hf 0 rfl (by kernel_rfl)
                clear hk hf hc
                have x1:=cell_kept HX1.out hb
                have x2:=cell_kept HX2.out hb
                go_simp
                exact hK _ _ (Below.refl _ _) rfl
               refine calm_fixA rfl rfl ?_
               apply Exists.intro
               refine ⟨fun a wz hc hk hf K hK=>?_,?_⟩
               ·have h14:=hk 14 (by kernel_rfl)
                clear hk hf hc
                go_simp
                exact hK _ _ (Below.refl _ _) rfl
               refine calm_fixA rfl rfl ?_
               apply Exists.intro
               refine ⟨fun a wz hc hk hf K hK=>?_,?_⟩
               ·have hb:Below wr.heap.size wr wz:=hc rfl
                have h95:=held_isV hf 6 rfl (by kernel_rfl)
                have h100:=held_isV hf 1 rfl (by kernel_rfl)
                have h101:=held_isV hf 0 rfl (by kernel_rfl)
                clear hk hf hc
                have x1:=cell_kept HX1.out hb
                have x2:=cell_kept HX2.out hb
                go_simp
                refine Calls.mono (HM1.out wz hb) ?_
                rintro e w1 ⟨rfl,hq⟩
                exact hK _ _ hq rfl
               refine calm_fixA rfl rfl ?_
               apply Exists.intro
               refine ⟨fun a wz hc hk hf K hK=>?_,?_⟩
               ·have h102:=held_isV hf 0 rfl (by kernel_rfl)
                clear hk hf hc
                go_simp
                exact hK _ _ (Below.refl _ _) rfl
               refine calm_fixA rfl rfl ?_
               apply Exists.intro
               refine ⟨fun a wz hc hk hf K hK=>?_,?_⟩
               ·have h0:=hk 0 (by kernel_rfl)
                have h103:=held_isV hf 0 rfl (by kernel_rfl)
                clear hk hf hc
                go_simp
                exact hK _ _ (Below.refl _ _) rfl
               refine calm_fixA rfl rfl ?_
               apply Exists.intro
               refine ⟨fun a wz hc hk hf K hK=>?_,?_⟩
               ·have h15:=hk 15 (by kernel_rfl)
                have h103:=held_isV hf 1 rfl (by kernel_rfl)
                clear hk hf hc
                go_simp
                exact hK _ _ (Below.refl _ _) rfl
               refine calm_fixA rfl rfl ?_
               apply Exists.intro
               refine ⟨fun a wz hc hk hf K hK=>?_,?_⟩
               ·have h104:=held_isV hf 1 rfl (by kernel_rfl)
                have h105:=held_isV hf 0 rfl (by kernel_rfl)
                have h103:=held_isV hf 2 rfl (by kernel_rfl)
                clear hk hf hc
                go_simp
                exact hK _ _ (Below.refl _ _) rfl
               refine calm_fixA rfl rfl ?_
               apply Exists.intro
               refine ⟨fun a wz hc hk hf K hK=>?_,?_⟩
               ·have h106:=held_isV hf 0 rfl (by kernel_rfl)
                have h103:=held_isV hf 3 rfl (by kernel_rfl)
                clear hk hf hc
                go_simp
                exact hK _ _ (Below.refl _ _) rfl
               refine calm_fixA rfl rfl ?_
               apply Exists.intro
               refine ⟨fun a wz hc hk hf K hK=>?_,?_⟩
               ·have hb:Below wr.heap.size wr wz:=hc rfl
                have h107:=held_isV hf 0 rfl (by kernel_rfl)
                have h103:=held_isV hf 4 rfl (by kernel_rfl)
                clear hk hf hc
                have x1:=cell_kept HX1.out hb
                have x2:=cell_kept HX2.out hb
                go_simp
                exact hK _ _ (Below.refl _ _) rfl
               refine calm_fixA rfl rfl ?_
               apply Exists.intro
               refine ⟨fun a wz hc hk hf K hK=>?_,?_⟩
               ·have h1:=hk 1 (by kernel_rfl)
                have h103:=held_isV hf 5 rfl (by kernel_rfl)
                clear hk hf hc
                go_simp
                exact hK _ _ (Below.refl _ _) rfl
               refine calm_fixA rfl rfl ?_
               apply Exists.intro
               refine ⟨fun a wz hc hk hf K hK=>?_,?_⟩
               ·have h16:=hk 16 (by kernel_rfl)
                have h103:=held_isV hf 6 rfl (by kernel_rfl)
                clear hk hf hc
                go_simp
                exact hK _ _ (Below.refl _ _) rfl
               refine calm_fixA rfl rfl ?_
               apply Exists.intro
               refine ⟨fun a wz hc hk hf K hK=>?_,?_⟩
               ·have h109:=held_isV hf 1 rfl (by kernel_rfl)
                have h110:=held_isV hf 0 rfl (by kernel_rfl)
                have h103:=held_isV hf 7 rfl (by kernel_rfl)
                clear hk hf hc
                go_simp
                exact hK _ _ (Below.refl _ _) rfl
               refine calm_fixA rfl rfl ?_
               apply Exists.intro
               refine ⟨fun a wz hc hk hf K hK=>?_,?_⟩
               ·have h111:=held_isV hf 0 rfl (by kernel_rfl)
                have h103:=held_isV hf 8 rfl (by kernel_rfl)
                clear hk hf hc
                go_simp
                exact hK _ _ (Below.refl _ _) rfl
               refine calm_fixA rfl rfl ?_
               apply Exists.intro
               refine ⟨fun a wz hc hk hf K hK=>?_,?_⟩
               ·have hb:Below wr.heap.size wr wz:=hc rfl
                have h112:=held_isV hf 0 rfl (by kernel_rfl)
                have h103:=held_isV hf 9 rfl (by kernel_rfl)
                clear hk hf hc
                have x1:=cell_kept HX1.out hb
                have x2:=cell_kept HX2.out hb
                go_simp
                exact hK _ _ (Below.refl _ _) rfl
               refine calm_fixA rfl rfl ?_
               apply Exists.intro
               refine ⟨fun a wz hc hk hf K hK=>?_,?_⟩
               ·have h2:=hk 2 (by kernel_rfl)
                have h103:=held_isV hf 10 rfl (by kernel_rfl)
                clear hk hf hc
                go_simp
                exact hK _ _ (Below.refl _ _) rfl
               refine calm_fixA rfl rfl ?_
               apply Exists.intro
               refine ⟨fun a wz hc hk hf K hK=>?_,?_⟩
               ·have hb:Below wr.heap.size wr wz:=hc rfl
                have h108:=held_isV hf 6 rfl (by kernel_rfl)
                have h113:=held_isV hf 1 rfl (by kernel_rfl)
                have h114:=held_isV hf 0 rfl (by kernel_rfl)
                have h103:=held_isV hf 11 rfl (by kernel_rfl)
                clear hk hf hc
                have x1:=cell_kept HX1.out hb
                have x2:=cell_kept HX2.out hb
                go_simp
                refine Calls.mono (HM2.out wz hb) ?_
                rintro e w1 ⟨rfl,hq⟩
                exact hK _ _ hq rfl
               refine calm_fixA rfl rfl ?_
               apply Exists.intro
               refine ⟨fun a wz hc hk hf K hK=>?_,?_⟩
               ·have h115:=held_isV hf 0 rfl (by kernel_rfl)
                have h103:=held_isV hf 12 rfl (by kernel_rfl)
                clear hk hf hc
                go_simp
                exact hK _ _ (Below.refl _ _) rfl
               refine calm_fixA rfl rfl ?_
               apply Exists.intro
               refine ⟨fun a wz hc hk hf K hK=>?_,?_⟩
               ·have h103:=held_isV hf 13 rfl (by kernel_rfl)
                have h116:=held_isV hf 0 rfl (by kernel_rfl)
                clear hk hf hc
                go_simp
                exact hK _ _ (Below.refl _ _) rfl
               refine calm_nil ?_
               refine ⟨keeps_none,?_⟩
               intro wn201 hc
               simp only [lexL,calmEnd]
               rintro _ rfl _ rfl _ rfl _ rfl _ rfl _ rfl _ rfl _ rfl _ rfl _ rfl _ rfl _ rfl _ rfl _ rfl _ rfl _ rfl _ rfl _ rfl _ rfl _ rfl _ rfl _ rfl _ rfl _ rfl _ rfl _ rfl _ rfl
               have hq:Below wr.heap.size wr wn201:=hc rfl
               have HBN:=Lib.hid (HBI.out.trans (hq.mono HBI.out.size))
               clear hc
               simp only [Act.put,List.setIfInBounds_toArray,List.set_cons_zero,List.set_cons_succ]
               clear hq HX1 HX2 HSA HSB HM1 HM2 HBR HBI HMO HB
               go_wp2
               go_roundw
               case rel=>exact ⟨j+1,HLJ.out,by go_num,HBN⟩
               case measure=>have:=HLJ.out;simp [intOf];omega
              | false =>
               rw [hy] at HM1
               clear hy HMR
               go_wp2_with fail
               refine wp_region_calm (offC wr) (fun _=>false) (fun _=>false) anyE false (by kernel_rfl) (by kernel_rfl) (by kernel_rfl) (by kernel_rfl) (by intro m hm;revert hm;simp;try omega) (offC_stable _) (offC_start _) ?_
               refine calm_fixA rfl rfl ?_
               apply Exists.intro
               refine ⟨fun a wz hc hk hf K hK=>?_,?_⟩
               ·have h0:=hk 0 (by kernel_rfl)
                clear hk hf hc
                go_simp
                exact hK _ _ (Below.refl _ _) rfl
               refine calm_fixA rfl rfl ?_
               apply Exists.intro
               refine ⟨fun a wz hc hk hf K hK=>?_,?_⟩
               ·have h15:=hk 15 (by kernel_rfl)
                clear hk hf hc
                go_simp
                exact hK _ _ (Below.refl _ _) rfl
               refine calm_fixA rfl rfl ?_
               apply Exists.intro
               refine ⟨fun a wz hc hk hf K hK=>?_,?_⟩
               ·have h91:=held_isV hf 1 rfl (by kernel_rfl)
                have h92:=held_isV hf 0 rfl (by kernel_rfl)
                clear hk hf hc
                go_simp
                exact hK _ _ (Below.refl _ _) rfl
               refine calm_fixA rfl rfl ?_
               apply Exists.intro
               refine ⟨fun a wz hc hk hf K hK=>?_,?_⟩
               ·have h93:=held_isV hf 0 rfl (by kernel_rfl)
                clear hk hf hc
                go_simp
                exact hK _ _ (Below.refl _ _) rfl
               refine calm_fixA rfl rfl ?_
               apply Exists.intro
               refine ⟨fun a wz hc hk hf K hK=>?_,?_⟩
               ·have hb:Below wr.heap.size wr wz:=hc rfl
                have h94:=held_isV hf 0 rfl (by kernel_rfl)
                clear hk hf hc
                have x1:=cell_kept HX1.out hb
                have x2:=cell_kept HX2.out hb
                go_simp
                exact hK _ _ (Below.refl _ _) rfl
               refine calm_fixA rfl rfl ?_
               apply Exists.intro
               refine ⟨fun a wz hc hk hf K hK=>?_,?_⟩
               ·have h1:=hk 1 (by kernel_rfl)
                clear hk hf hc
                go_simp
                exact hK _ _ (Below.refl _ _) rfl
               refine calm_fixA rfl rfl ?_
               apply Exists.intro
               refine ⟨fun a wz hc hk hf K hK=>?_,?_⟩
               ·have h16:=hk 16 (by kernel_rfl)
                clear hk hf hc
                go_simp
                exact hK _ _ (Below.refl _ _) rfl
               refine calm_fixA rfl rfl ?_
               apply Exists.intro
               refine ⟨fun a wz hc hk hf K hK=>?_,?_⟩
               ·have h96:=held_isV hf 1 rfl (by kernel_rfl)
                have h97:=held_isV hf 0 rfl (by kernel_rfl)
                clear hk hf hc
                go_simp
                exact hK _ _ (Below.refl _ _) rfl
               refine calm_fixA rfl rfl ?_
               apply Exists.intro
               refine ⟨fun a wz hc hk hf K hK=>?_,?_⟩
               ·have h98:=held_isV hf 0 rfl (by kernel_rfl)
                clear hk hf hc
                go_simp
                exact hK _ _ (Below.refl _ _) rfl
               refine calm_fixA rfl rfl ?_
               apply Exists.intro
               refine ⟨fun a wz hc hk hf K hK=>?_,?_⟩
               ·have hb:Below wr.heap.size wr wz:=hc rfl
                have h99:=held_isV hf 0 rfl (by kernel_rfl)
                clear hk hf hc
                have x1:=cell_kept HX1.out hb
                have x2:=cell_kept HX2.out hb
                go_simp
                exact hK _ _ (Below.refl _ _) rfl
               refine calm_fixA rfl rfl ?_
               apply Exists.intro
               refine ⟨fun a wz hc hk hf K hK=>?_,?_⟩
               ·have h14:=hk 14 (by kernel_rfl)
                clear hk hf hc
                go_simp
                exact hK _ _ (Below.refl _ _) rfl
               refine calm_fixA rfl rfl ?_
               apply Exists.intro
               refine ⟨fun a wz hc hk hf K hK=>?_,?_⟩
               ·have hb:Below wr.heap.size wr wz:=hc rfl
                have h95:=held_isV hf 6 rfl (by kernel_rfl)
                have h100:=held_isV hf 1 rfl (by kernel_rfl)
                have h101:=held_isV hf 0 rfl (by kernel_rfl)
                clear hk hf hc
                have x1:=cell_kept HX1.out hb
                have x2:=cell_kept HX2.out hb
                go_simp
                refine Calls.mono (HM1.out wz hb) ?_
                rintro e w1 ⟨rfl,hq⟩
                exact hK _ _ hq rfl
               refine calm_fixA rfl rfl ?_
               apply Exists.intro
               refine ⟨fun a wz hc hk hf K hK=>?_,?_⟩
               ·have h102:=held_isV hf 0 rfl (by kernel_rfl)
                clear hk hf hc
                go_simp
                exact hK _ _ (Below.refl _ _) rfl
               refine calm_fixA rfl rfl ?_
               apply Exists.intro
               refine ⟨fun a wz hc hk hf K hK=>?_,?_⟩
               ·have h0:=hk 0 (by kernel_rfl)
                have h103:=held_isV hf 0 rfl (by kernel_rfl)
                clear hk hf hc
                go_simp
                exact hK _ _ (Below.refl _ _) rfl
               refine calm_fixA rfl rfl ?_
               apply Exists.intro
               refine ⟨fun a wz hc hk hf K hK=>?_,?_⟩
               ·have h15:=hk 15 (by kernel_rfl)
                have h103:=held_isV hf 1 rfl (by kernel_rfl)
                clear hk hf hc
                go_simp
                exact hK _ _ (Below.refl _ _) rfl
               refine calm_fixA rfl rfl ?_
               apply Exists.intro
               refine ⟨fun a wz hc hk hf K hK=>?_,?_⟩
               ·have h104:=held_isV hf 1 rfl (by kernel_rfl)
                have h105:=held_isV hf 0 rfl (by kernel_rfl)
                have h103:=held_isV hf 2 rfl (by kernel_rfl)
                clear hk hf hc
                go_simp
                exact hK _ _ (Below.refl _ _) rfl
               refine calm_fixA rfl rfl ?_
               apply Exists.intro
               refine ⟨fun a wz hc hk hf K hK=>?_,?_⟩
               ·have h106:=held_isV hf 0 rfl (by kernel_rfl)
                have h103:=held_isV hf 3 rfl (by kernel_rfl)
                clear hk hf hc
                go_simp
                exact hK _ _ (Below.refl _ _) rfl
               refine calm_fixA rfl rfl ?_
               apply Exists.intro
               refine ⟨fun a wz hc hk hf K hK=>?_,?_⟩
               ·have hb:Below wr.heap.size wr wz:=hc rfl
                have h107:=held_isV hf 0 rfl (by kernel_rfl)
                have h103:=held_isV hf 4 rfl (by kernel_rfl)
                clear hk hf hc
                have x1:=cell_kept HX1.out hb
                have x2:=cell_kept HX2.out hb
                go_simp
                exact hK _ _ (Below.refl _ _) rfl
               refine calm_fixA rfl rfl ?_
               apply Exists.intro
               refine ⟨fun a wz hc hk hf K hK=>?_,?_⟩
               ·have h1:=hk 1 (by kernel_rfl)
                have h103:=held_isV hf 5 rfl (by kernel_rfl)
                clear hk hf hc
                go_simp
                exact hK _ _ (Below.refl _ _) rfl
               refine calm_fixA rfl rfl ?_
               apply Exists.intro
               refine ⟨fun a wz hc hk hf K hK=>?_,?_⟩
               ·have h16:=hk 16 (by kernel_rfl)
                have h103:=held_isV hf 6 rfl (by kernel_rfl)
                clear hk hf hc
                go_simp
                exact hK _ _ (Below.refl _ _) rfl
               refine calm_fixA rfl rfl ?_
               apply Exists.intro
               refine ⟨fun a wz hc hk hf K hK=>?_,?_⟩
               ·have h109:=held_isV hf 1 rfl (by kernel_rfl)
                have h110:=held_isV hf 0 rfl (by kernel_rfl)
                have h103:=held_isV hf 7 rfl (by kernel_rfl)
                clear hk hf hc
                go_simp
                exact hK _ _ (Below.refl _ _) rfl
               refine calm_fixA rfl rfl ?_
               apply Exists.intro
               refine ⟨fun a wz hc hk hf K hK=>?_,?_⟩
               ·have h111:=held_isV hf 0 rfl (by kernel_rfl)
                have h103:=held_isV hf 8 rfl (by kernel_rfl)
                clear hk hf hc
                go_simp
                exact hK _ _ (Below.refl _ _) rfl
               refine calm_fixA rfl rfl ?_
               apply Exists.intro
               refine ⟨fun a wz hc hk hf K hK=>?_,?_⟩
               ·have hb:Below wr.heap.size wr wz:=hc rfl
                have h112:=held_isV hf 0 rfl (by kernel_rfl)
                have h103:=held_isV hf 9 rfl (by kernel_rfl)
                clear hk hf hc
                have x1:=cell_kept HX1.out hb
                have x2:=cell_kept HX2.out hb
                go_simp
                exact hK _ _ (Below.refl _ _) rfl
               refine calm_fixA rfl rfl ?_
               apply Exists.intro
               refine ⟨fun a wz hc hk hf K hK=>?_,?_⟩
               ·have h2:=hk 2 (by kernel_rfl)
                have h103:=held_isV hf 10 rfl (by kernel_rfl)
                clear hk hf hc
                go_simp
                exact hK _ _ (Below.refl _ _) rfl
               refine calm_fixA rfl rfl ?_
               apply Exists.intro
               refine ⟨fun a wz hc hk hf K hK=>?_,?_⟩
               ·have h108:=held_isV hf 6 rfl (by kernel_rfl)
                have h113:=held_isV hf 1 rfl (by kernel_rfl)
                have h114:=held_isV hf 0 rfl (by kernel_rfl)
                have h103:=held_isV hf 11 rfl (by kernel_rfl)
                clear hk hf hc
                go_simp
                exact hK _ _ (Below.refl _ _) rfl
               refine calm_fixA rfl rfl ?_
               apply Exists.intro
               refine ⟨fun a wz hc hk hf K hK=>?_,?_⟩
               ·have h115:=held_isV hf 0 rfl (by kernel_rfl)
                have h103:=held_isV hf 12 rfl (by kernel_rfl)
                clear hk hf hc
                go_simp
                exact hK _ _ (Below.refl _ _) rfl
               refine calm_fixA rfl rfl ?_
               apply Exists.intro
               refine ⟨fun a wz hc hk hf K hK=>?_,?_⟩
               ·have h103:=held_isV hf 13 rfl (by kernel_rfl)
                have h116:=held_isV hf 0 rfl (by kernel_rfl)
                clear hk hf hc
                go_simp
                exact hK _ _ (Below.refl _ _) rfl
               refine calm_nil ?_
               refine ⟨keeps_none,?_⟩
               intro wn201 hc
               simp only [lexL,calmEnd]
               rintro _ rfl _ rfl _ rfl _ rfl _ rfl _ rfl _ rfl _ rfl _ rfl _ rfl _ rfl _ rfl _ rfl _ rfl _ rfl _ rfl _ rfl _ rfl _ rfl _ rfl _ rfl _ rfl _ rfl _ rfl _ rfl _ rfl _ rfl
               have hq:Below wr.heap.size wr wn201:=hc rfl
               have HBN:=Lib.hid (HBI.out.trans (hq.mono HBI.out.size))
               clear hc
               simp only [Act.put,List.setIfInBounds_toArray,List.set_cons_zero,List.set_cons_succ]
               clear hq HX1 HX2 HSA HSB HM1 HM2 HBR HBI HMO HB
               go_wp2
               go_roundw
               case rel=>exact ⟨j+1,HLJ.out,by go_num,HBN⟩
               case measure=>have:=HLJ.out;simp [intOf];omega
             ·obtain rfl:j=lm.length:=by omega
              clear hlt hj HC1 HS1 HBI HMO HB
              go_wp2
              go_roundw
              case rel=>exact ⟨k+1,HLK.out,by go_num,HBR⟩
              case measure=>have:=HLK.out;simp [intOf];omega
           ·obtain rfl:k=ll.length:=by omega
            clear hlt hk HBR HMO
            go_wp2_with fail
            refine Calls.mono (HAW.out w400) ?_
            rintro e wn301 ⟨rfl,hq⟩
            replace HB:=Lib.hid (HB.out.trans (hq.mono HB.out.size))
            clear hq
            have q9:IntKind.i64.wrap (N*M)=N*M:=IntWalk.i64_in _ HNB.out
            have d9:(N*M==N*M)=true:=by simp
            go_wp2
            go_ret
            exact ⟨rfl,HB.out⟩
   ·have dcn:decide ((5:Int) < (nn.length:Int))=true:=decide_eq_true (by omega)
    clear hcn
    go_wp2_with fail
    refine Calls.mono (HAW.out wn2) ?_
    rintro e wn3 ⟨rfl,hq⟩
    replace HB:=Lib.hid (HB.out.trans (hq.mono HB.out.size))
    clear hq
    go_wp2
    go_ret
    exact ⟨rfl,HB.out⟩
end Go.Proofs.Ytaoeikeobfllkaa
