/- The law SieveCounts of layer 18. -/
import Derived.Test.YtcofhnedidllpaaGTimes
import Derived.Test.YtcofhnedidllpaaGWeighRef
import Derived.Test.YtcofhnedidllpaaGZSieveFine
namespace Go.Proofs.Ytcofhnedidllpaa
open Go Go.RowKit
theorem linS_take (g:List ByteArray→Bool)(l:List Tm)(k:Nat)(h:k < l.length):linS g (l.take (k+1))=linS g (l.take k)+if g l[k].1=true then l[k].2 else 0:=by
 rw [take_add l k h,linS_append]
 simp only [linS]
 omega
theorem linS_le (g:List ByteArray→Bool)(l:List Tm):(linS g l).natAbs≤wtW l:=by
 induction l with
 | nil=>exact Nat.le_refl _
 | cons t l ih =>
  simp only [linS,wtW]
  split <;> omega
theorem linS_le_take (g:List ByteArray→Bool)(l:List Tm)(k:Nat):(linS g (l.take k)).natAbs≤wtW l:=by
 have h:=linS_le g (l.take k)
 have h2:=wtW_append (l.take k) (l.drop k)
 rw [List.take_append_drop] at h2
 omega
theorem lin_all (cols:List Int)(l:List Tm):linS (fun _=>true) (projS cols l)=linS (fun a=>pickOk a cols) l:=by
 unfold projS
 rw [lin_of,lin_picked]
 exact linS_congr fun x _=>by rw [Bool.and_true]
set_option maxHeartbeats 16000000 in
set_option maxRecDepth 100000 in
theorem sieveCounts_calls {w:World}{vl vc:Value}{ll:List Tm}{cc:List Int}(hl:TimesIn w vl ll)(hc:IntsIn w vc cc):GivesAt Try.prog 6 #[vl,vc] w (.bool true):=by
 have HAW:=Lib.hid awake18_calls
 have HSL:Hid (∀ W,Below w.heap.size w W→GivesAt Try.prog 8 #[vl] W (.bool (smallV ll))):=fun W hW=>(small18_calls (hl.kept hW)).gives
 have HNL:=Lib.hid fun (h:smallV ll=true)=>facts18 h
 have HLL:=Lib.hid hl
 obtain ⟨Al,cl,rfl⟩:=times_slice hl
 have HCC:=Lib.hid hc
 obtain ⟨Ac,cc_,rfl,_⟩:=one_at hc
 have HB:Hid (Below w.heap.size w w):=Lib.hid (.refl _ _)
 clear hl hc
 unfold GivesAt
 go_enter Try.func6,Try.ntmps6
 cases hsl:smallV ll with
 | false =>
  rw [hsl] at HSL
  clear hsl
  go_wp2_with fail
  refine Calls.mono (HSL.out w HB.out) ?_
  rintro e wn1 ⟨rfl,hq⟩
  replace HB:=Lib.hid (HB.out.trans (hq.mono HB.out.size))
  clear hq
  go_wp2_with fail
  refine Calls.mono (HAW.out wn1) ?_
  rintro e wn2 ⟨rfl,hq⟩
  replace HB:=Lib.hid (HB.out.trans (hq.mono HB.out.size))
  clear hq
  go_wp2
  go_ret
  exact ⟨rfl,HB.out⟩
 | true =>
  rw [hsl] at HSL
  replace HNL:=Lib.hid (HNL.out hsl)
  clear hsl
  go_wp2_with fail
  refine Calls.mono (HSL.out w HB.out) ?_
  rintro e wn1 ⟨rfl,hq⟩
  replace HB:=Lib.hid (HB.out.trans (hq.mono HB.out.size))
  clear hq
  by_cases hcc:cc.length≤10
  ·have dcc:decide ((10:Int) < (cc.length:Int))=false:=decide_eq_false (by omega)
   have HKC:Hid (cc.length≤10):=hcc
   clear hcc
   have HFL:Hid (Fine 60 109951162777600 ll):=HNL.out
   have HCL:Hid (cc.length≤1000000):=by have:=HKC.out;show _≤_;omega
   clear HNL HSL HKC
   go_wp2_with fail
   refine Calls.mono (project18 (HLL.out.kept HB.out) (IntsIn.kept HCC.out HB.out) HFL.out (by decide) HCL.out) ?_
   rintro e wn2 ⟨vp,rfl,hk,hq⟩
   have Hp:Hid (TimesIn wn2 vp (projS cc ll)):=hk
   clear hk
   replace HB:=Lib.hid (HB.out.trans (hq.mono HB.out.size))
   clear hq
   have HFP:Hid (Fine 60 109951162777600 (projS cc ll)):=HFL.out.proj HCL.out
   have HCN:Hid (∀ row,cntW (projS cc ll) row=linS (fun a=>pickOk a cc&&decide (pickF a cc=row)) ll):=fun row=>cnt_proj cc ll row
   have HAL:=Lib.hid (lin_all cc ll)
   have HRT:Hid (rightW (projS cc ll)=true):=Lib.hid (decide_eq_true (proj_right cc ll))
   obtain ⟨Snp,cnp,enp⟩:=times_slice Hp.out
   obtain ⟨np,hnnp⟩:∃ n,(projS cc ll).length=n:=⟨_,rfl⟩
   have HLnp:Hid ((projS cc ll).length=np):=hnnp
   rw [hnnp] at enp
   subst enp
   clear hnnp
   generalize projS cc ll=P at *
   go_wp2
   go_loopw [6,7] (fun n i wr=>∃ k:Nat,k≤ll.length∧i=.int .i64 k∧n=.int .i64 (linS (fun a=>pickOk a cc) (ll.take k))∧Hid (Below wn2.heap.size wn2 wr)) (fun _ i _=>ll.length-(intOf i).toNat)
   case atStart=>exact ⟨0,Nat.zero_le _,rfl,rfl,Lib.hid (.refl _ _)⟩
   case round =>
    obtain ⟨k,hk,rfl,rfl,HBR⟩:=hrel
    have hq:=HBR.out
    replace HB:=Lib.hid (HB.out.trans (hq.mono HB.out.size))
    replace Hp:=Lib.hid (Hp.out.kept hq)
    clear hq
    by_cases hlt:k < ll.length
    ·obtain ⟨b,off,cap',e0⟩:=times_some HLL.out (by omega)
     obtain ⟨rfl,rfl⟩:Al=some ⟨b,off,none⟩∧cl=cap':=by injection e0 with e1 _ e2;exact ⟨e1,e2⟩
     clear e0
     obtain ⟨rv,hs,c1,c2⟩:=times_cellAt HLL.out k hlt
     have HX1:=Lib.hid c1
     have HX2:=Lib.hid c2
     have HBL:=Lib.hid (spot_of_cell c1).2
     have HS:=Lib.hid hs
     obtain ⟨Ar,pr,rfl⟩:∃ Ar pr,rv=.slice Ar ll[k].1.length pr:=by obtain ⟨Ar,pr,e,_⟩:=one_at hs;exact ⟨Ar,pr,e⟩
     have i1:(k:Int) < (ll.length:Int):=by omega
     have q1:IntKind.i64.wrap ((k:Int)+1)=(k:Int)+1:=by have:=HFL.out.1;rw [IntKind.wrap_i64];omega
     clear c1 c2 hs
     have HLK:Hid (k < ll.length):=hlt
     have HTK:=Lib.hid (linS_take (fun a=>pickOk a cc) ll k hlt)
     have HLE:=Lib.hid (linS_le_take (fun a=>pickOk a cc) ll (k+1))
     obtain ⟨S,hS⟩:∃ S,linS (fun a=>pickOk a cc) (ll.take k)=S:=⟨_,rfl⟩
     rw [hS] at HTK ⊢
     clear hS
     generalize ll[k]=x at *
     obtain ⟨row0,c⟩:=x
     dsimp only at *
     clear hlt hk
     have hcp:=ref_shape_pick_new (StrsIn.kept HS.out HB.out) (IntsIn.kept HCC.out HB.out) HCL.out
     cases hy:pickOk row0 cc with
     | false =>
      rw [hy] at HTK
      have HTN:=Lib.hid (HTK.out.trans (show _=S by rw [if_neg (by decide)];exact Int.add_zero S))
      have hcq:=hcp.mono fun _ _ he=>he.no1 hy
      clear hy HTK hcp
      have x1:=(HB.out.cell (p:=⟨b,off+k*2,none⟩) HBL.out).trans HX1.out
      have x2:=(HB.out.cell (p:=⟨b,off+k*2+1,none⟩) HBL.out).trans HX2.out
      go_wp2_with fail
      refine hcq.mono ?_
      rintro e wn101 ⟨A8,p8,rfl,hq⟩
      clear hcq x1 x2
      replace HB:=Lib.hid (HB.out.trans (hq.mono HB.out.size))
      replace Hp:=Lib.hid (Hp.out.kept hq)
      replace HBR:=Lib.hid (HBR.out.trans (hq.mono HBR.out.size))
      clear hq
      go_wp2
      go_roundw
      case rel=>exact ⟨k+1,HLK.out,by go_num,congrArg (Value.int .i64) HTN.out.symm,HBR⟩
      case measure=>have:=HLK.out;simp [intOf];omega
     | true =>
      rw [hy] at HTK
      have HTN:=Lib.hid (HTK.out.trans (by rw [if_pos rfl]))
      have q3:IntKind.i64.wrap (S+c)=S+c:=by have h1:=HLE.out;have h2:=HTN.out;have h3:=HFL.out.2.1;rw [h2] at h1;rw [IntKind.wrap_i64];omega
      have hcq:=hcp.mono fun _ _ he=>he.yes1 hy
      clear hy HTK hcp
      obtain ⟨row,hrow⟩:∃ r,pickF row0 cc=r:=⟨_,rfl⟩
      rw [hrow] at hcq
      clear hrow
      have x1:=(HB.out.cell (p:=⟨b,off+k*2,none⟩) HBL.out).trans HX1.out
      have x2:=(HB.out.cell (p:=⟨b,off+k*2+1,none⟩) HBL.out).trans HX2.out
      go_wp2_with fail
      refine hcq.mono ?_
      rintro e wn101 ⟨A8,p8,rfl,hs8,_,hq⟩
      have HR:Hid (StrsIn wn101 (.slice A8 row.length p8) row):=hs8
      clear hcq x1 x2 hs8
      replace HB:=Lib.hid (HB.out.trans (hq.mono HB.out.size))
      replace Hp:=Lib.hid (Hp.out.kept hq)
      replace HBR:=Lib.hid (HBR.out.trans (hq.mono HBR.out.size))
      clear hq
      have x1:=(HB.out.cell (p:=⟨b,off+k*2,none⟩) HBL.out).trans HX1.out
      have x2:=(HB.out.cell (p:=⟨b,off+k*2+1,none⟩) HBL.out).trans HX2.out
      go_wp2
      clear x1 x2 HX1 HX2 HBL HS i1
      go_loopw [10,11] (fun n i wr=>∃ j:Nat,j≤ll.length∧i=.int .i64 j∧n=.int .i64 (linS (fun a=>pickOk a cc&&decide (pickF a cc=row)) (ll.take j))∧Hid (Below wn101.heap.size wn101 wr)) (fun _ i _=>ll.length-(intOf i).toNat)
      case atStart=>exact ⟨0,Nat.zero_le _,rfl,rfl,Lib.hid (.refl _ _)⟩
      case round =>
       obtain ⟨j,hj,rfl,rfl,HBI⟩:=hrel
       have hq:=HBI.out
       replace HB:=Lib.hid (HB.out.trans (hq.mono HB.out.size))
       replace Hp:=Lib.hid (Hp.out.kept hq)
       replace HBR:=Lib.hid (HBR.out.trans (hq.mono HBR.out.size))
       replace HR:=Lib.hid (StrsIn.kept HR.out hq)
       clear hq
       by_cases hlt:j < ll.length
       ·obtain ⟨rv,hs,c1,c2⟩:=times_cellAt HLL.out j hlt
        have HX1:=Lib.hid c1
        have HX2:=Lib.hid c2
        have HBL:=Lib.hid (spot_of_cell c1).2
        have HS:=Lib.hid hs
        obtain ⟨Ar,pr,rfl⟩:∃ Ar pr,rv=.slice Ar ll[j].1.length pr:=by obtain ⟨Ar,pr,e,_⟩:=one_at hs;exact ⟨Ar,pr,e⟩
        have i1:(j:Int) < (ll.length:Int):=by omega
        have q2:IntKind.i64.wrap ((j:Int)+1)=(j:Int)+1:=by have:=HFL.out.1;rw [IntKind.wrap_i64];omega
        clear c1 c2 hs
        have HLJ:Hid (j < ll.length):=hlt
        have HTJ:=Lib.hid (linS_take (fun a=>pickOk a cc&&decide (pickF a cc=row)) ll j hlt)
        have HLF:=Lib.hid (linS_le_take (fun a=>pickOk a cc&&decide (pickF a cc=row)) ll (j+1))
        obtain ⟨U,hU⟩:∃ S,linS (fun a=>pickOk a cc&&decide (pickF a cc=row)) (ll.take j)=S:=⟨_,rfl⟩
        rw [hU] at HTJ ⊢
        clear hU
        generalize ll[j]=y at *
        obtain ⟨row1,d⟩:=y
        dsimp only at *
        clear hlt hj
        have hcp:=ref_shape_pick_new (StrsIn.kept HS.out HB.out) (IntsIn.kept HCC.out HB.out) HCL.out
        cases hy:pickOk row1 cc with
        | false =>
         rw [hy,Bool.false_and] at HTJ
         have HTM:=Lib.hid (HTJ.out.trans (show _=U by rw [if_neg (by decide)];exact Int.add_zero U))
         have hcq:=hcp.mono fun _ _ he=>he.no1 hy
         clear hy HTJ hcp
         have x1:=(HB.out.cell (p:=⟨b,off+j*2,none⟩) HBL.out).trans HX1.out
         have x2:=(HB.out.cell (p:=⟨b,off+j*2+1,none⟩) HBL.out).trans HX2.out
         go_wp2_with fail
         refine hcq.mono ?_
         rintro e wn201 ⟨A9,p9,rfl,hq⟩
         clear hcq x1 x2
         replace HB:=Lib.hid (HB.out.trans (hq.mono HB.out.size))
         replace Hp:=Lib.hid (Hp.out.kept hq)
         replace HBR:=Lib.hid (HBR.out.trans (hq.mono HBR.out.size))
         replace HR:=Lib.hid (StrsIn.kept HR.out hq)
         replace HBI:=Lib.hid (HBI.out.trans (hq.mono HBI.out.size))
         clear hq
         go_wp2
         go_roundw
         case rel=>exact ⟨j+1,HLJ.out,by go_num,congrArg (Value.int .i64) HTM.out.symm,HBI⟩
         case measure=>have:=HLJ.out;simp [intOf];omega
        | true =>
         rw [hy,Bool.true_and] at HTJ
         have hcq:=hcp.mono fun _ _ he=>he.yes1 hy
         clear hy hcp
         obtain ⟨other,hot⟩:∃ r,pickF row1 cc=r:=⟨_,rfl⟩
         rw [hot] at hcq HTJ
         clear hot
         have x1:=(HB.out.cell (p:=⟨b,off+j*2,none⟩) HBL.out).trans HX1.out
         have x2:=(HB.out.cell (p:=⟨b,off+j*2+1,none⟩) HBL.out).trans HX2.out
         go_wp2_with fail
         refine hcq.mono ?_
         rintro e wn201 ⟨A9,p9,rfl,hs9,_,hq⟩
         have HO:Hid (StrsIn wn201 (.slice A9 other.length p9) other):=hs9
         clear hcq x1 x2 hs9
         replace HB:=Lib.hid (HB.out.trans (hq.mono HB.out.size))
         replace Hp:=Lib.hid (Hp.out.kept hq)
         replace HBR:=Lib.hid (HBR.out.trans (hq.mono HBR.out.size))
         replace HR:=Lib.hid (StrsIn.kept HR.out hq)
         replace HBI:=Lib.hid (HBI.out.trans (hq.mono HBI.out.size))
         clear hq
         have hcm:=ref_compare_calls HO.out HR.out
         have HZ:=Lib.hid (cmpL_zero other row)
         obtain ⟨cm,hcmE⟩:∃ c,cmpL other row=c:=⟨_,rfl⟩
         rw [hcmE] at hcm HZ
         clear hcmE
         go_wp2_with fail
         refine Calls.mono (hcm) ?_
         rintro e wn202 ⟨rfl,hq⟩
         replace HB:=Lib.hid (HB.out.trans (hq.mono HB.out.size))
         replace Hp:=Lib.hid (Hp.out.kept hq)
         replace HBR:=Lib.hid (HBR.out.trans (hq.mono HBR.out.size))
         replace HR:=Lib.hid (StrsIn.kept HR.out hq)
         replace HBI:=Lib.hid (HBI.out.trans (hq.mono HBI.out.size))
         replace HO:=Lib.hid (StrsIn.kept HO.out hq)
         clear hq
         clear hcm
         by_cases h0:cm=0
         ·have dz:(cm==0)=true:=by rw [beq_iff_eq];exact h0
          have heq:=HZ.out.1 h0
          have HTM:=Lib.hid (HTJ.out.trans (by rw [if_pos (decide_eq_true heq)]))
          have q4:IntKind.i64.wrap (U+d)=U+d:=by have h1:=HLF.out;have h2:=HTM.out;have h3:=HFL.out.2.1;rw [h2] at h1;rw [IntKind.wrap_i64];omega
          clear heq HZ HTJ h0
          have x1:=(HB.out.cell (p:=⟨b,off+j*2,none⟩) HBL.out).trans HX1.out
          have x2:=(HB.out.cell (p:=⟨b,off+j*2+1,none⟩) HBL.out).trans HX2.out
          go_wp2
          go_roundw
          case rel=>exact ⟨j+1,HLJ.out,by go_num,congrArg (Value.int .i64) HTM.out.symm,HBI⟩
          case measure=>have:=HLJ.out;simp [intOf];omega
         ·have dz:(cm==0)=false:=by rw [beq_eq_false_iff_ne];exact h0
          have HTM:=Lib.hid (HTJ.out.trans (show _=U by rw [if_neg (fun h=>h0 (HZ.out.2 (of_decide_eq_true h)))];exact Int.add_zero U))
          clear HZ HTJ h0
          go_wp2
          go_roundw
          case rel=>exact ⟨j+1,HLJ.out,by go_num,congrArg (Value.int .i64) HTM.out.symm,HBI⟩
          case measure=>have:=HLJ.out;simp [intOf];omega
       ·obtain rfl:j=ll.length:=by omega
        rw [List.take_length]
        have HFI:Hid (∀ W,Below wn101.heap.size wn101 W→True):=fun _ _=>trivial
        clear HFI
        have hfi:=ref_weigh_find_calls Hp.out HR.out (Nat.le_trans HFP.out.2.1 (by decide))
        rw [HCN.out row] at hfi
        obtain ⟨Z,hZ⟩:∃ z,linS (fun a=>pickOk a cc&&decide (pickF a cc=row)) ll=z:=⟨_,rfl⟩
        rw [hZ] at hfi ⊢
        have dn:(Z != Z)=false:=by simp
        clear hZ hlt hj
        go_wp2_with fail
        refine Calls.mono (hfi) ?_
        rintro e wn301 ⟨rfl,hq⟩
        replace HB:=Lib.hid (HB.out.trans (hq.mono HB.out.size))
        replace Hp:=Lib.hid (Hp.out.kept hq)
        replace HBR:=Lib.hid (HBR.out.trans (hq.mono HBR.out.size))
        replace HR:=Lib.hid (StrsIn.kept HR.out hq)
        replace HBI:=Lib.hid (HBI.out.trans (hq.mono HBI.out.size))
        clear hq
        clear hfi
        go_wp2
        go_roundw
        case rel=>exact ⟨k+1,HLK.out,by go_num,congrArg (Value.int .i64) HTN.out.symm,HBR⟩
        case measure=>have:=HLK.out;simp [intOf];omega
    ·obtain rfl:k=ll.length:=by omega
     rw [List.take_length]
     have HLG:=Lib.hid (linS_le (fun a=>pickOk a cc) ll)
     obtain ⟨N,hN⟩:∃ z,linS (fun a=>pickOk a cc) ll=z:=⟨_,rfl⟩
     rw [hN] at HLG HAL ⊢
     clear hN hlt hk HBR HCN
     go_wp2
     obtain ⟨w300,hw300⟩:∃ x,x=wr:=⟨_,rfl⟩
     subst hw300
     go_loopw [6,14] (fun n i wr=>∃ j:Nat,j≤np∧i=.int .i64 j∧n=.int .i64 (N-linS (fun _=>true) (P.take j))∧Hid (Below w300.heap.size w300 wr)) (fun _ i _=>np-(intOf i).toNat)
     case atStart=>exact ⟨0,Nat.zero_le _,rfl,congrArg (Value.int .i64) (by rw [List.take_zero];exact (Int.sub_zero N).symm),Lib.hid (.refl _ _)⟩
     case round =>
      obtain ⟨j,hj,rfl,rfl,HBJ⟩:=hrel
      have hq:=HBJ.out
      replace HB:=Lib.hid (HB.out.trans (hq.mono HB.out.size))
      replace Hp:=Lib.hid (Hp.out.kept hq)
      clear hq
      by_cases hlt:j < np
      ·have hjp:j < P.length:=by rw [HLnp.out];exact hlt
       obtain ⟨b,off,cap',e0⟩:=times_some Hp.out (by omega)
       obtain ⟨rfl,rfl⟩:Snp=some ⟨b,off,none⟩∧cnp=cap':=by injection e0 with e1 _ e2;exact ⟨e1,e2⟩
       clear e0
       obtain ⟨rv,_,_,x2⟩:=times_cellAt Hp.out j hjp
       have HTJ:=Lib.hid (linS_take (fun _=>true) P j hjp)
       have HLF:=Lib.hid (linS_le_take (fun _=>true) P (j+1))
       have HLE:=Lib.hid (linS_le_take (fun _=>true) P j)
       obtain ⟨U,hU⟩:∃ S,linS (fun _=>true) (P.take j)=S:=⟨_,rfl⟩
       rw [hU] at HTJ HLE ⊢
       clear hU
       generalize P[j]=y at *
       obtain ⟨row1,d⟩:=y
       dsimp only at *
       have HTM:=Lib.hid (HTJ.out.trans (by rw [if_pos rfl]))
       have i1:(j:Int) < (np:Int):=by omega
       have q1:IntKind.i64.wrap ((j:Int)+1)=(j:Int)+1:=by have h1:=HFP.out.1;have h2:=HLnp.out;rw [IntKind.wrap_i64];omega
       have q3:IntKind.i64.wrap (N-U-d)=N-U-d:=by have h1:=HLF.out;have h2:=HTM.out;have h3:=HFL.out.2.1;have h4:=HFP.out.2.1;have h5:=HLG.out;rw [h2] at h1;rw [IntKind.wrap_i64];omega
       have HLJ:Hid (j < np):=hlt
       clear hlt hj hjp HTJ
       go_wp2
       go_roundw
       case rel=>exact ⟨j+1,HLJ.out,by go_num,congrArg (Value.int .i64) (by have:=HTM.out;omega),HBJ⟩
       case measure=>have:=HLJ.out;simp [intOf];omega
      ·obtain rfl:j=np:=by omega
       rw [List.take_of_length_le (by rw [HLnp.out];exact Nat.le_refl _),HAL.out,Int.sub_self]
       clear hlt hj HBJ
       go_wp2_with fail
       refine Calls.mono (HAW.out wr) ?_
       rintro e wn3 ⟨rfl,hq⟩
       replace HB:=Lib.hid (HB.out.trans (hq.mono HB.out.size))
       replace Hp:=Lib.hid (Hp.out.kept hq)
       clear hq
       have hri:=ref_weigh_right_calls Hp.out
       rw [HRT.out] at hri
       go_wp2_with fail
       refine Calls.mono (hri) ?_
       rintro e wn4 ⟨rfl,hq⟩
       replace HB:=Lib.hid (HB.out.trans (hq.mono HB.out.size))
       replace Hp:=Lib.hid (Hp.out.kept hq)
       clear hq
       clear hri
       go_wp2
       go_ret
       exact ⟨rfl,HB.out⟩
  ·have dcc:decide ((10:Int) < (cc.length:Int))=true:=decide_eq_true (by omega)
   clear hcc
   go_wp2_with fail
   refine Calls.mono (HAW.out wn1) ?_
   rintro e wn2 ⟨rfl,hq⟩
   replace HB:=Lib.hid (HB.out.trans (hq.mono HB.out.size))
   clear hq
   go_wp2
   go_ret
   exact ⟨rfl,HB.out⟩
end Go.Proofs.Ytcofhnedidllpaa
