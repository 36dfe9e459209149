/- The law GroupKeeps of layer 21. -/
import Derived.Test.YtjbpbfhgjldliaaGreatGTimes
import Derived.Test.YtjbpbfhgjldliaaGreatGOpen
import Derived.Test.YtjbpbfhgjldliaaGreatGWeighRef
import Derived.Test.YtjbpbfhgjldliaaGreatGGroupChg
import Derived.Test.YtjbpbfhgjldliaaGreatGGroupAwake
import Derived.Test.YtjbpbfhgjldliaaGreatGGroupEnds
import Derived.Test.YtjbpbfhgjldliaaGreatGZGroupRefGroups
namespace Go.Proofs.YtjbpbfhgjldliaaGreat
open Go Go.RowKit
theorem pieces_slice2 {w:World}{v:Value}{P:List (List Tm)}(h:PiecesIn w v P):∃ A c,v=.slice A P.length c:=by
 obtain ⟨A,c,e,_⟩:=pieces_at h
 exact ⟨A,c,e⟩
theorem mem_wt {x:Tm}:∀ {l:List Tm},x∈l→x.2.natAbs≤wtW l
 | [],h=>absurd h (by simp)
 | y::l,h=>by
  simp only [wtW]
  rcases List.mem_cons.1 h with rfl|h
  ·omega
  ·have:=mem_wt h;omega
structure KeepR (cb:List Int) (ng:List (Int×Int)) (k:Nat) (S:List BP) (N was:List Tm):Prop where
 holds:Holds cb S N
 once:Once N
 told:toldP ng 1 (S.map (grpB ng))=some was
 fit:FitS cb (12*k) (12582912*k) S
 len:N.length≤12*k
 wt:wtW N≤12582912*k
 four:∀ x∈N,x.1.length=4
theorem KeepR.start (cb:List Int)(ng:List (Int×Int)):KeepR cb ng 0 [] [] []:=⟨Holds.nil_ cb,fun _ h=>absurd h (by simp),rfl,FitS.nil_ cb,Nat.le_refl _,Nat.le_refl _,fun _ h=>absurd h (by simp)⟩
theorem KeepR.stay {cb:List Int}{ng:List (Int×Int)}{k:Nat}{S:List BP}{N was:List Tm}(h:KeepR cb ng k S N was):KeepR cb ng (k+1) S N was :=
 ⟨h.holds,h.once,h.told,⟨h.fit.sort,h.fit.live,h.fit.keys,Nat.le_trans h.fit.len (by omega),Nat.le_trans h.fit.wt (by omega)⟩,Nat.le_trans h.len (by omega),Nat.le_trans h.wt (by omega),h.four⟩
section
variable {cb:List Int}{ng:List (Int×Int)}{k:Nat}{S E:List BP}{N was p want:List Tm}
theorem KeepR.holds_next (h:KeepR cb ng k S N was)(hw:wholeW (sumW N p)=true)(hE:E.Perm (eachB cb p)∧E.Pairwise fun a b=>¬cmpL b.1 a.1 = -1):Holds cb (nextS E S) (sumW N p)∧Once (sumW N p):=by
 have ho:=gonce_of (sum_right N p) hw
 refine ⟨(h.holds.next hE.1 hE.2 fun r=>?_).congr fun r=>?_,ho⟩
 ·have:=cnt_ge ho r
  rw [cnt_sum] at this
  rw [cntW_append];exact this
 ·rw [cnt_sum,cntW_append]
theorem KeepR.sizes (h:KeepR cb ng k S N was)(hp:p.length≤12)(hpw:wtW p≤12582912):(sumW N p).length≤12*(k+1)∧wtW (sumW N p)≤12582912*(k+1):=by
 have h1:=sum_length N p
 have h2:=wt_sum N p
 have h3:=h.len
 have h4:=h.wt
 omega
theorem KeepR.next (h:KeepR cb ng k S N was)(hp:p.length≤12)(hpw:wtW p≤12582912)(h4:∀ x∈p,x.1.length=4)(hw:wholeW (sumW N p)=true)(hE:E.Perm (eachB cb p)∧E.Pairwise fun a b=>¬cmpL b.1 a.1 = -1)(ht:toldP ng 1 ((nextS E S).map (grpB ng))=some want):KeepR cb ng (k+1) (nextS E S) (sumW N p) want:=by
 obtain ⟨a1,a2⟩:=h.holds_next hw hE
 obtain ⟨b1,b2⟩:=h.sizes hp hpw
 refine ⟨a1,a2,ht,?_,b1,b2,fun x hx=>?_⟩
 ·have:=FitS.both (m:=12) (k:=12582912) h.fit hE.1 hE.2 (.inl rfl) hp hpw
  exact this
 ·rw [sum_of_append] at hx
  obtain ⟨u,hu,e⟩:=mem_of hx
  rw [←e]
  rcases List.mem_append.1 hu with hu|hu
  ·exact h.four u hu
  ·exact h4 u hu
theorem keeps_eq {K M:List Tm}{T:List BP}(h:Holds cb T M)(ho:Once M)(hb:wtW M≤9223372036854775807)(ha:∀ a∈ng,1≤a.1∧a.1≤4)(hK:KeysP cb M K):toldP ng 1 (T.map (grpB ng))=groupsK cb ng (okL cb M) (K.map (·.1)):=by
 have hm:manyL M≤9223372036854775807:=by have:=gmany_le M;omega
 rw [holds_told h ho hm ha]
 congr 1
 refine holds_keys h ho (List.pairwise_map.2 hK.right.1) fun k=>?_
 rw [←hK.mem k]
 simp only [List.mem_map]
theorem keeps_sum {d:List Tm}{T:List BP}{n:Nat}(hs:SortK T)(hk:∀ q∈T,q.1.length=n)(ht:toldP ng 1 (T.map (grpB ng))=some want)(hc:∀ r,cntW was r+cntW d r=cntW want r):sumW was d=want :=
 right_ext (sum_right _ _) (told_right hs hk ht) fun r=>by rw [cnt_sum];exact hc r
theorem told_at {T:List BP}{L:List Tm}(h:toldP ng 1 (T.map (grpB ng))=some L)(j:Nat)(hj:j < T.length)(hj2:j < L.length):rowG ng (grpB ng T[j])=some L[j].1∧L[j].1.length≤T[j].1.length+ng.length:=by
 have hg:=told_good h (grpB ng T[j]) (List.mem_map.2 ⟨_,List.getElem_mem hj,rfl⟩)
 have e:=told_is h
 subst e
 rw [List.getElem_map,List.getElem_map]
 dsimp only
 have e2:rowG ng (grpB ng T[j])=some (rowD ng (grpB ng T[j])):=by
  unfold rowD
  cases hr:rowG ng (grpB ng T[j]) with
  | none=>exact absurd hr hg
  | some r=>rfl
 exact ⟨e2,row_le e2⟩
theorem told_short {T:List BP}{L:List Tm}(h:toldP ng 1 (T.map (grpB ng))=some L)(hk:∀ q∈T,q.1.length≤4)(hg:ng.length≤4):∀ t∈L,t.1.length≤1000000:=fun t ht=>by
 obtain ⟨_,g,hm,hr⟩:=told_rows h t ht
 obtain ⟨q,hq,rfl⟩:=List.mem_map.1 hm
 have h1:=row_le hr
 have h2:=hk q hq
 have e:(grpB ng q).key.length=q.1.length:=rfl
 omega
end
set_option maxHeartbeats 16000000 in
set_option maxRecDepth 100000 in
theorem groupKeeps_calls {w:World}{vl vb vg:Value}{pl:List (List Tm)}{cb:List Int}{ng:List (Int×Int)}(hl:PiecesIn w vl pl)(hb:IntsIn w vb cb)(hg:OnIn w vg ng):GivesAt Tryz.prog 3 #[vl,vb,vg] w (.bool true):=by
 have HAW:=Lib.hid awake21_calls
 have HPL:=Lib.hid hl
 obtain ⟨Al,cl,rfl⟩:=pieces_slice2 hl
 have HCB:=Lib.hid hb
 obtain ⟨Ab,kb,rfl,_⟩:=one_at hb
 have HWG:Hid (∀ W,Below w.heap.size w W→GivesAt Tryz.prog 4 #[vg] W (.bool (ways21 ng))):=fun W hW=>(ways21_calls (hg.kept hW)).gives
 have HKG:=Lib.hid fun (h:ways21 ng=true)=>way21_ok h
 have HOG:=Lib.hid hg
 obtain ⟨Ag,cg,rfl⟩:=hg.slice
 have HB:Hid (Below w.heap.size w w):=Lib.hid (.refl _ _)
 clear hl hb hg
 unfold GivesAt
 go_enter Tryz.func3,Tryz.ntmps3
 by_cases hc:pl.length≤4
 ·have dc0:decide ((4:Int) < (pl.length:Int))=false:=decide_eq_false (by omega)
  have HLEN0:Hid (pl.length≤4):=hc
  clear hc
  by_cases hc:cb.length≤4
  ·have dc1:decide ((4:Int) < (cb.length:Int))=false:=decide_eq_false (by omega)
   have HLEN1:Hid (cb.length≤4):=hc
   clear hc
   cases hsg:ways21 ng with
   | false =>
    rw [hsg] at HWG
    clear hsg
    go_wp2_with fail
    refine Calls.mono (HWG.out w HB.out) ?_
    rintro e wn1 ⟨rfl,hq⟩
    replace HB:=Lib.hid (HB.out.trans (hq.mono HB.out.size))
    clear hq
    go_wp2_with fail
    refine Calls.mono (HAW.out wn1) ?_
    rintro e wn2 ⟨rfl,hq⟩
    replace HB:=Lib.hid (HB.out.trans (hq.mono HB.out.size))
    clear hq
    go_wp2
    go_ret
    exact ⟨rfl,HB.out⟩
   | true =>
    rw [hsg] at HWG
    replace HKG:=Lib.hid (HKG.out hsg)
    clear hsg
    go_wp2_with fail
    refine Calls.mono (HWG.out w HB.out) ?_
    rintro e wn1 ⟨rfl,hq⟩
    replace HB:=Lib.hid (HB.out.trans (hq.mono HB.out.size))
    clear hq
    clear HWG
    have HBC:=Lib.hid (IntsIn.kept HCB.out HB.out)
    obtain ⟨AB2,cB2,eB2,hbat⟩:=one_at HBC.out
    obtain ⟨rfl,rfl⟩:Ab=AB2∧kb=cB2:=by injection eB2 with e1 _ e2;exact ⟨e1,e2⟩
    have HBAT:=Lib.hid hbat
    obtain ⟨AO2,cO2,eO2,-,hoat⟩:=on_at (HOG.out.kept HB.out)
    obtain ⟨rfl,rfl⟩:Ag=AO2∧cg=cO2:=by injection eO2 with e1 _ e2;exact ⟨e1,e2⟩
    have HOAT:=Lib.hid hoat
    clear eB2 hbat eO2 hoat
    go_wp2
    go_loop [7] (fun i=>∃ k:Nat,k≤cb.length∧i=.int .i64 k∧Hid (∀ c∈cb.take k,0≤c∧c≤3)) (fun i=>cb.length-(intOf i).toNat)
    case atStart=>exact ⟨0,Nat.zero_le _,rfl,Lib.hid fun c hc=>absurd hc (by simp)⟩
    case round =>
     obtain ⟨k,hk,rfl,HC⟩:=hrel
     by_cases hlt:k < cb.length
     ·obtain ⟨b0,o0,rfl,hbl,hc⟩:=HBAT.out k hlt
      have x0:=hc k hlt
      have HT:=Lib.hid (take_add cb k hlt)
      have i1:(k:Int) < (cb.length:Int):=by omega
      have q1:IntKind.i64.wrap ((k:Int)+1)=(k:Int)+1:=by have:=HLEN1.out;rw [IntKind.wrap_i64];omega
      have HLK:Hid (k < cb.length):=hlt
      clear hc
      generalize cb[k]=c at *
      clear hlt hk hbl
      by_cases h0:0≤c
      ·have d0:decide (c < 0)=false:=decide_eq_false (by omega)
       by_cases h3:c≤3
       ·have d3:decide (3 < c)=false:=decide_eq_false (by omega)
        have HC2:Hid (∀ d∈cb.take (k+1),0≤d∧d≤3):=Lib.hid fun d hd=>by
         rw [HT.out] at hd
         rcases List.mem_append.1 hd with hd|hd
         ·exact HC.out d hd
         ·rw [List.mem_singleton.1 hd];exact ⟨h0,h3⟩
        clear h0 h3
        go_wp2
        go_round
        case rel=>exact ⟨k+1,HLK.out,by go_num,HC2⟩
        case measure=>have:=HLK.out;simp [intOf];omega
       ·have d3:decide (3 < c)=true:=decide_eq_true (by omega)
        clear h0 h3
        go_wp2_with fail
        refine Calls.mono (HAW.out wn1) ?_
        rintro e wn2 ⟨rfl,hq⟩
        replace HB:=Lib.hid (HB.out.trans (hq.mono HB.out.size))
        clear hq
        go_wp2
        go_ret
        exact ⟨rfl,HB.out⟩
      ·have d0:decide (c < 0)=true:=decide_eq_true (by omega)
       clear h0
       go_wp2_with fail
       refine Calls.mono (HAW.out wn1) ?_
       rintro e wn2 ⟨rfl,hq⟩
       replace HB:=Lib.hid (HB.out.trans (hq.mono HB.out.size))
       clear hq
       go_wp2
       go_ret
       exact ⟨rfl,HB.out⟩
     ·obtain rfl:k=cb.length:=by omega
      rw [List.take_length] at HC
      have i1:¬(cb.length:Int) < (cb.length:Int):=by omega
      clear hlt hk HBAT
      go_wp2
      clear i1
      go_loop [8] (fun i=>∃ k:Nat,k≤ng.length∧i=.int .i64 k) (fun i=>ng.length-(intOf i).toNat)
      case atStart=>exact ⟨0,Nat.zero_le _,rfl⟩
      case round =>
       obtain ⟨k,hk,rfl⟩:=hrel
       by_cases hlt:k < ng.length
       ·obtain ⟨b0,o0,rfl,hbl,hc⟩:=HOAT.out k hlt
        obtain ⟨x0,x1⟩:=hc k hlt
        have i1:(k:Int) < (ng.length:Int):=by omega
        have q1:IntKind.i64.wrap ((k:Int)+1)=(k:Int)+1:=by have:=HKG.out.1;rw [IntKind.wrap_i64];omega
        have HLK:Hid (k < ng.length):=hlt
        clear hc
        generalize ng[k]=ag at *
        obtain ⟨way,col⟩:=ag
        dsimp only at *
        clear hlt hk hbl
        by_cases hw:way=2
        ·have gw:(way==2)=true:=by rw [hw];rfl
         clear hw
         by_cases hcol1:col=1
         ·have gcol1:(col==1)=true:=by rw [hcol1];rfl
          have ncol1:(col != 1)=false:=by rw [bne,gcol1];rfl
          clear hcol1
          go_wp2
          go_round
          case rel=>exact ⟨k+1,HLK.out,by go_num⟩
          case measure=>have:=HLK.out;simp [intOf];omega
         ·have gcol1:(col==1)=false:=by rw [beq_eq_false_iff_ne];exact hcol1
          have ncol1:(col != 1)=true:=by rw [bne,gcol1];rfl
          clear hcol1
          by_cases hcol3:col=3
          ·have gcol3:(col==3)=true:=by rw [hcol3];rfl
           have ncol3:(col != 3)=false:=by rw [bne,gcol3];rfl
           clear hcol3
           go_wp2
           go_round
           case rel=>exact ⟨k+1,HLK.out,by go_num⟩
           case measure=>have:=HLK.out;simp [intOf];omega
          ·have gcol3:(col==3)=false:=by rw [beq_eq_false_iff_ne];exact hcol3
           have ncol3:(col != 3)=true:=by rw [bne,gcol3];rfl
           clear hcol3
           go_wp2_with fail
           refine Calls.mono (HAW.out wn1) ?_
           rintro e wn2 ⟨rfl,hq⟩
           replace HB:=Lib.hid (HB.out.trans (hq.mono HB.out.size))
           clear hq
           go_wp2
           go_ret
           exact ⟨rfl,HB.out⟩
        ·have gw:(way==2)=false:=by rw [beq_eq_false_iff_ne];exact hw
         clear hw
         go_wp2
         go_round
         case rel=>exact ⟨k+1,HLK.out,by go_num⟩
         case measure=>have:=HLK.out;simp [intOf];omega
       ·obtain rfl:k=ng.length:=by omega
        have i1:¬(ng.length:Int) < (ng.length:Int):=by omega
        clear hlt hk HOAT HBC
        go_wp2
        clear i1
        go_loopw [9,10,11,12] (fun gv rv wv i wr=>∃ k:Nat,k≤pl.length∧i=.int .i64 k∧∃ S N was,Hid (KeepR cb ng k S N was)∧Hid (groupK.In (fun _=>True) wr gv (S.map (grpB ng)))∧Hid (TimesIn wr rv N)∧Hid (TimesIn wr wv was)∧Hid (Below w.heap.size w wr)) (fun _ _ _ i _=>pl.length-(intOf i).toNat)
        case atStart=>exact ⟨0,Nat.zero_le _,rfl,[],[],[],Lib.hid (KeepR.start cb ng),Lib.hid (Kin.In.nil_ _ _ none 0 trivial),Lib.hid (TimesIn.nil_ _ _ _),Lib.hid (TimesIn.nil_ _ _ _),HB⟩
        case round =>
         clear HB
         obtain ⟨k,hk,rfl,S0,N,was,HKR,HG0,HRN,HWN,HB⟩:=hrel
         by_cases hlt:k < pl.length
         ·obtain ⟨GA0,gc0,ge,hst⟩:=state_at HG0.out
          obtain ⟨gl0,hgl⟩:∃ n,S0.length=n:=⟨_,rfl⟩
          have HSL0:=Lib.hid hgl
          rw [hgl] at ge
          subst ge
          clear hgl hst
          obtain ⟨AN,cN,en⟩:=times_slice HRN.out
          subst en
          obtain ⟨AW,cW,ew⟩:=times_slice HWN.out
          subst ew
          obtain ⟨AP0,cp0,e0,hpat⟩:=pieces_at HPL.out
          obtain ⟨rfl,rfl⟩:Al=AP0∧cl=cp0:=by injection e0 with e1 _ e2;exact ⟨e1,e2⟩
          clear e0
          obtain ⟨b1,o1,rfl,hbl,hpc⟩:=hpat k hlt
          obtain ⟨pv,hpv,hx⟩:=hpc k hlt
          have HX:=Lib.hid fun W (hW:Below w.heap.size w W)=>(hW.cell (p:=⟨b1,o1+k,none⟩) hbl).trans hx
          have HP:=Lib.hid hpv
          have HLK:Hid (k < pl.length):=hlt
          have HK4:Hid (k < 4):=Lib.hid (by have:=HLEN0.out;omega)
          have i1:(k:Int) < (pl.length:Int):=by omega
          have i2:(pl.length:Int)≤4:=by have:=HLEN0.out;omega
          have q1:IntKind.i64.wrap ((k:Int)+1)=(k:Int)+1:=by have:=HK4.out;rw [IntKind.wrap_i64];omega
          clear hpc hx hpv
          generalize pl[k]=p at *
          clear hlt hk hbl
          obtain ⟨Ap,cp,rfl⟩:=times_slice HP.out
          have x0:=HX.out wr HB.out
          cases hsp:small21 p 12 with
          | false =>
           have HSP:Hid (GivesAt Tryz.prog 6 #[.slice Ap p.length cp,.int .i64 12] wr (.bool (small21 p 12))):=Lib.hid (small21_calls 12 (HP.out.kept HB.out)).gives
           rw [hsp] at HSP
           clear hsp
           go_wp2_with fail
           refine Calls.mono (HSP.out) ?_
           rintro e wn2 ⟨rfl,hq⟩
           replace HB:=Lib.hid (HB.out.trans (hq.mono HB.out.size))
           replace HG0:=Lib.hid (HG0.out.kept hq)
           replace HRN:=Lib.hid (HRN.out.kept hq)
           replace HWN:=Lib.hid (HWN.out.kept hq)
           clear hq
           clear HSP x0
           go_wp2_with fail
           refine Calls.mono (HAW.out wn2) ?_
           rintro e wn3 ⟨rfl,hq⟩
           replace HB:=Lib.hid (HB.out.trans (hq.mono HB.out.size))
           replace HG0:=Lib.hid (HG0.out.kept hq)
           replace HRN:=Lib.hid (HRN.out.kept hq)
           replace HWN:=Lib.hid (HWN.out.kept hq)
           clear hq
           go_wp2
           go_ret
           exact ⟨rfl,HB.out⟩
          | true =>
           have HSP:Hid (GivesAt Tryz.prog 6 #[.slice Ap p.length cp,.int .i64 12] wr (.bool (small21 p 12))):=Lib.hid (small21_calls 12 (HP.out.kept HB.out)).gives
           rw [hsp] at HSP
           have HNP:=Lib.hid (fine21 hsp)
           clear hsp
           go_wp2_with fail
           refine Calls.mono (HSP.out) ?_
           rintro e wn2 ⟨rfl,hq⟩
           replace HB:=Lib.hid (HB.out.trans (hq.mono HB.out.size))
           replace HG0:=Lib.hid (HG0.out.kept hq)
           replace HRN:=Lib.hid (HRN.out.kept hq)
           replace HWN:=Lib.hid (HWN.out.kept hq)
           clear hq
           clear HSP x0
           obtain ⟨hpl,hpw,hp4,_⟩:=HNP.out
           have HZP:Hid (p.length≤12∧wtW p≤12582912):=Lib.hid ⟨hpl,hpw⟩
           have HP4:=Lib.hid hp4
           clear hpl hpw hp4 HNP
           have HSZ:=Lib.hid (HKR.out.sizes HZP.out.1 HZP.out.2)
           have x0:=HX.out wn2 HB.out
           go_wp2_with fail
           refine Calls.mono (ref_weigh_sum_calls HRN.out (HP.out.kept HB.out) (by have:=HKR.out.len;have:=HZP.out.1;have:=HK4.out;omega) (by have:=HKR.out.wt;have:=HZP.out.2;have:=HK4.out;omega)) ?_
           rintro e wn3 ⟨vNX,rfl,hk,hq⟩
           have HNX:Hid (TimesIn wn3 vNX (sumW N p)):=hk
           clear hk
           replace HB:=Lib.hid (HB.out.trans (hq.mono HB.out.size))
           replace HG0:=Lib.hid (HG0.out.kept hq)
           replace HRN:=Lib.hid (HRN.out.kept hq)
           replace HWN:=Lib.hid (HWN.out.kept hq)
           clear hq
           clear x0
           have HWH:=Lib.hid (ref_weigh_whole_calls HNX.out)
           have HHN:=Lib.hid fun E hw hE=>KeepR.holds_next (p:=p) (E:=E) HKR.out hw hE
           have HKN:=Lib.hid fun E want hw hE ht=>KeepR.next (p:=p) (E:=E) (want:=want) HKR.out HZP.out.1 HZP.out.2 HP4.out hw hE ht
           obtain ⟨M,hM⟩:∃ M,sumW N p=M:=⟨_,rfl⟩
           rw [hM] at HSZ HNX HWH HHN HKN
           clear hM
           obtain ⟨AM,cM,em⟩:=times_slice HNX.out
           subst em
           cases hwm:wholeW M with
           | false =>
            rw [hwm] at HWH
            go_wp2_with fail
            refine Calls.mono (HWH.out) ?_
            rintro e wn4 ⟨rfl,hq⟩
            replace HB:=Lib.hid (HB.out.trans (hq.mono HB.out.size))
            replace HG0:=Lib.hid (HG0.out.kept hq)
            replace HRN:=Lib.hid (HRN.out.kept hq)
            replace HWN:=Lib.hid (HWN.out.kept hq)
            replace HNX:=Lib.hid (HNX.out.kept hq)
            clear hq
            clear HWH
            have HKS:=Lib.hid HKR.out.stay
            clear hwm HHN HKN HSZ HNX
            go_wp2
            go_roundw
            case rel=>exact ⟨k+1,HLK.out,by go_num,S0,N,was,HKS,HG0,HRN,HWN,HB⟩
            case measure=>have:=HLK.out;simp [intOf];omega
           | true =>
            rw [hwm] at HWH
            go_wp2_with fail
            refine Calls.mono (HWH.out) ?_
            rintro e wn4 ⟨rfl,hq⟩
            replace HB:=Lib.hid (HB.out.trans (hq.mono HB.out.size))
            replace HG0:=Lib.hid (HG0.out.kept hq)
            replace HRN:=Lib.hid (HRN.out.kept hq)
            replace HWN:=Lib.hid (HWN.out.kept hq)
            replace HNX:=Lib.hid (HNX.out.kept hq)
            clear hq
            clear HWH
            have HHN2:=Lib.hid fun E hE=>HHN.out E hwm hE
            have HKN2:=Lib.hid fun E want hE ht=>HKN.out E want hwm hE ht
            have HRG:=Lib.hid (rgroups_calls HNX.out (IntsIn.kept HCB.out HB.out) (HOG.out.kept HB.out) (fun x hx=>by have:=mem_wt hx;have:=HSZ.out.2;have:=HK4.out;omega) (by have:=HSZ.out.1;have:=HK4.out;omega) (by have:=HLEN1.out;omega) (by have:=HKG.out.1;omega))
            clear hwm HHN HKN
            go_wp2_with fail
            refine HRG.out.mono ?_
            clear HRG
            rintro e wn5 ⟨K,hK,hq,hm⟩
            have HKP:=Lib.hid hK
            clear hK
            replace HB:=Lib.hid (HB.out.trans (hq.mono HB.out.size))
            replace HG0:=Lib.hid (HG0.out.kept hq)
            replace HRN:=Lib.hid (HRN.out.kept hq)
            replace HWN:=Lib.hid (HWN.out.kept hq)
            replace HNX:=Lib.hid (HNX.out.kept hq)
            clear hq
            cases hgk:groupsK cb ng (okL cb M) (K.map (·.1)) with
            | none =>
             rw [hgk] at hm
             obtain rfl:=hm
             have HGK:=Lib.hid hgk
             clear hgk
             have x0:=HX.out wn5 HB.out
             go_wp2_with fail
             have hc:=gchange_calls (lv:=.slice GA0 gl0 gc0) (l:=(S0:List BP).map (grpB ng)) HG0.out (sort_right HKR.out.fit.sort _) (IntsIn.kept HCB.out HB.out) (HOG.out.kept HB.out) (HP.out.kept HB.out) (HKR.out.fit.fit (by first|decide|(have:=HK4.out;omega)) (by first|decide|(have:=HK4.out;omega)) HLEN1.out _ HKG.out.1) (by have:=HKG.out.1;have:=HLEN1.out;omega) (by rw [List.length_map];have h1:=HKR.out.fit.count;have h2:=HZP.out.1;first|omega|(have:=HK4.out;omega)) (by have h2:=HZP.out.1;omega) (by have h2:=HZP.out.2;omega)
             refine hc.mono ?_
             clear hc
             intro e wn6 hend
             obtain ⟨E1,gv1,rv1,cn1,er1,S1,was1,d1,rfl,hG,hT,hn1,hq,hp,hE,hw1,hdl1,hdw1,hm1⟩:=chg_of hend HG0.out HKR.out.fit.sort HKR.out.fit.live HKR.out.told
             have HF1:=Lib.hid (FitS.both (m:=12) (k:=12582912) HKR.out.fit hp hE (hm1.elim (fun h=>.inl h.2.1) fun h=>.inr h.2.1) (by have h2:=HZP.out.1;omega) (by have h2:=HZP.out.2;omega))
             have HM1:=Lib.hid hm1
             have HE1:=Lib.hid (And.intro hp hE)
             have HWA1:=Lib.hid hw1
             have HDL1:=Lib.hid (And.intro hdl1 hdw1)
             have HCN1:=Lib.hid hn1
             have HG1:Hid (groupK.In (fun _=>True) wn6 gv1 (S1.map (grpB ng))):=hG
             have HD1:Hid (TimesIn wn6 rv1 d1):=hT
             clear hend hG hT hn1 hp hE hw1 hdl1 hdw1 hm1
             replace HB:=Lib.hid (HB.out.trans (hq.mono HB.out.size))
             replace HG0:=Lib.hid (HG0.out.kept hq)
             replace HRN:=Lib.hid (HRN.out.kept hq)
             replace HWN:=Lib.hid (HWN.out.kept hq)
             replace HNX:=Lib.hid (HNX.out.kept hq)
             clear hq
             clear x0
             have HTE:Hid (toldP ng 1 ((nextS E1 S0).map (grpB ng))=groupsK cb ng (okL cb M) (K.map (·.1))):=Lib.hid (keeps_eq (HHN2.out E1 HE1.out).1 (HHN2.out E1 HE1.out).2 (by have:=HSZ.out.2;have:=HK4.out;omega) HKG.out.2 HKP.out)
             rw [HGK.out] at HTE
             have hlk:¬(p.length:Int) < (cn1:Int):=by have:=HCN1.out;omega
             have dle1:decide ((p.length:Int) < (cn1:Int))=false:=decide_eq_false hlk
             have dle2:decide (p.length < cn1)=false:=decide_eq_false (by omega)
             clear hlk HHN2 HGK HKP
             have x0:=HX.out wn6 HB.out
             obtain ⟨he,hs,hgv,hd⟩:er1=7∧S1=S0∧gv1=.slice GA0 gl0 gc0∧d1=[]:=by
              rcases HM1.out with h|h
              ·have h2:=HWA1.out
               rw [h.2.1,HTE.out] at h2
               cases h2
              ·exact ⟨h.1,h.2.1,h.2.2.2.1,h.2.2.2.2.1⟩
             subst he hs hgv hd
             obtain ⟨AD,cD,ed⟩:=times_slice HD1.out
             change rv1=.slice AD 0 cD at ed
             subst ed
             have HSM:=Lib.hid (gsame_calls HG0.out HG0.out (fun g hg=>short_grp g (HKR.out.fit.fit (by have:=HK4.out;omega) (by have:=HK4.out;omega) HLEN1.out _ HKG.out.1 g hg).1))
             clear HM1 HE1 HWA1 HF1 HDL1 HTE HCN1 HKN2 HNX HG1 HD1
             go_wp2_with fail
             refine Calls.mono (HSM.out) ?_
             rintro e wn7 ⟨rfl,hq⟩
             replace HB:=Lib.hid (HB.out.trans (hq.mono HB.out.size))
             replace HG0:=Lib.hid (HG0.out.kept hq)
             replace HRN:=Lib.hid (HRN.out.kept hq)
             replace HWN:=Lib.hid (HWN.out.kept hq)
             clear hq
             have HKS:=Lib.hid HKR.out.stay
             clear HSM x0
             go_wp2
             go_roundw
             case rel=>exact ⟨k+1,HLK.out,by go_num,S1,N,was,HKS,HG0,HRN,HWN,HB⟩
             case measure=>have:=HLK.out;simp [intOf];omega
            | some want =>
             rw [hgk] at hm
             obtain ⟨vw,rfl,hvw⟩:=hm
             have HVW:Hid (TimesIn wn5 vw want):=hvw
             clear hvw
             have HGK:=Lib.hid hgk
             clear hgk
             have x0:=HX.out wn5 HB.out
             obtain ⟨AV,cV,ev⟩:=times_slice HVW.out
             subst ev
             go_wp2_with fail
             have hc:=gchange_calls (lv:=.slice GA0 gl0 gc0) (l:=(S0:List BP).map (grpB ng)) HG0.out (sort_right HKR.out.fit.sort _) (IntsIn.kept HCB.out HB.out) (HOG.out.kept HB.out) (HP.out.kept HB.out) (HKR.out.fit.fit (by first|decide|(have:=HK4.out;omega)) (by first|decide|(have:=HK4.out;omega)) HLEN1.out _ HKG.out.1) (by have:=HKG.out.1;have:=HLEN1.out;omega) (by rw [List.length_map];have h1:=HKR.out.fit.count;have h2:=HZP.out.1;first|omega|(have:=HK4.out;omega)) (by have h2:=HZP.out.1;omega) (by have h2:=HZP.out.2;omega)
             refine hc.mono ?_
             clear hc
             intro e wn6 hend
             obtain ⟨E1,gv1,rv1,cn1,er1,S1,was1,d1,rfl,hG,hT,hn1,hq,hp,hE,hw1,hdl1,hdw1,hm1⟩:=chg_of hend HG0.out HKR.out.fit.sort HKR.out.fit.live HKR.out.told
             have HF1:=Lib.hid (FitS.both (m:=12) (k:=12582912) HKR.out.fit hp hE (hm1.elim (fun h=>.inl h.2.1) fun h=>.inr h.2.1) (by have h2:=HZP.out.1;omega) (by have h2:=HZP.out.2;omega))
             have HM1:=Lib.hid hm1
             have HE1:=Lib.hid (And.intro hp hE)
             have HWA1:=Lib.hid hw1
             have HDL1:=Lib.hid (And.intro hdl1 hdw1)
             have HCN1:=Lib.hid hn1
             have HG1:Hid (groupK.In (fun _=>True) wn6 gv1 (S1.map (grpB ng))):=hG
             have HD1:Hid (TimesIn wn6 rv1 d1):=hT
             clear hend hG hT hn1 hp hE hw1 hdl1 hdw1 hm1
             replace HB:=Lib.hid (HB.out.trans (hq.mono HB.out.size))
             replace HG0:=Lib.hid (HG0.out.kept hq)
             replace HRN:=Lib.hid (HRN.out.kept hq)
             replace HWN:=Lib.hid (HWN.out.kept hq)
             replace HNX:=Lib.hid (HNX.out.kept hq)
             replace HVW:=Lib.hid (HVW.out.kept hq)
             clear hq
             clear x0
             have HTE:Hid (toldP ng 1 ((nextS E1 S0).map (grpB ng))=groupsK cb ng (okL cb M) (K.map (·.1))):=Lib.hid (keeps_eq (HHN2.out E1 HE1.out).1 (HHN2.out E1 HE1.out).2 (by have:=HSZ.out.2;have:=HK4.out;omega) HKG.out.2 HKP.out)
             rw [HGK.out] at HTE
             have hlk:¬(p.length:Int) < (cn1:Int):=by have:=HCN1.out;omega
             have dle1:decide ((p.length:Int) < (cn1:Int))=false:=decide_eq_false hlk
             have dle2:decide (p.length < cn1)=false:=decide_eq_false (by omega)
             clear hlk HHN2 HGK HKP
             have x0:=HX.out wn6 HB.out
             obtain ⟨he,hs,hwe,hcn⟩:er1=0∧S1=nextS E1 S0∧was1=want∧∀ r,cntW was r+cntW d1 r=cntW was1 r:=by
              rcases HM1.out with h|h
              ·have h2:=HWA1.out
               rw [h.2.1,HTE.out] at h2
               exact ⟨h.1,h.2.1,(Option.some.inj h2).symm,h.2.2⟩
              ·rw [HTE.out] at h
               exact absurd h.2.2.2.2.2 (by simp)
             subst he hwe
             have HKS:Hid (KeepR cb ng (k+1) S1 M was1):=Lib.hid (by
              rw [hs]
              exact HKN2.out E1 was1 HE1.out HTE.out)
             have HSE:=Lib.hid (keeps_sum HF1.out.sort HF1.out.keys HWA1.out hcn)
             have HWL:Hid (was.length≤48∧wtW was≤48):=Lib.hid (by
              have h1:=told_length HKR.out.told
              have h2:=told_wt HKR.out.told
              have h3:=HKR.out.fit.count
              have h4:=HK4.out
              have e1:(1:Int).natAbs=1:=rfl
              rw [List.length_map] at h1 h2
              rw [e1,Nat.mul_one] at h2
              omega)
             have HVL:Hid (was1.length=S1.length∧was1.length≤100):=Lib.hid (by
              have h1:=told_length HWA1.out
              have h3:=HF1.out.count
              have h4:=HK4.out
              rw [List.length_map] at h1
              omega)
             have HSW:=Lib.hid (told_short HWA1.out (fun q hq=>by rw [HF1.out.keys q hq];exact HLEN1.out) HKG.out.1)
             clear hs hcn HM1 HE1 HTE HCN1 HKN2 HG0 HRN
             obtain ⟨GA1,gc1,ge,hst⟩:=state_at HG1.out
             obtain ⟨gl1,hgl⟩:∃ n,S1.length=n:=⟨_,rfl⟩
             have HSL1:=Lib.hid hgl
             rw [hgl] at ge
             subst ge
             have HST1W:Hid (StateAt wn6 ng S1 GA1):=hst
             have HWQ:Hid (wn6.heap.size≤wn6.heap.size):=Lib.hid (Nat.le_refl _)
             clear hgl hst HWQ
             obtain ⟨AD,cD,ed⟩:=times_slice HD1.out
             subst ed
             clear HST1W
             go_wp2_with fail
             refine Calls.mono (ref_weigh_sum_calls HWN.out HD1.out (by have:=HWL.out.1;have:=HDL1.out.1;have:=HZP.out.1;omega) (by have:=HWL.out.2;have:=HDL1.out.2;have:=HZP.out.1;omega)) ?_
             rintro e wn7 ⟨vSU,rfl,hk,hq⟩
             have HSU:Hid (TimesIn wn7 vSU (sumW was d1)):=hk
             clear hk
             replace HB:=Lib.hid (HB.out.trans (hq.mono HB.out.size))
             replace HWN:=Lib.hid (HWN.out.kept hq)
             replace HNX:=Lib.hid (HNX.out.kept hq)
             replace HVW:=Lib.hid (HVW.out.kept hq)
             replace HG1:=Lib.hid (HG1.out.kept hq)
             replace HD1:=Lib.hid (HD1.out.kept hq)
             clear hq
             rw [HSE.out] at HSU
             clear HD1 HWN x0
             have HSM:=Lib.hid (same_times HSU.out HVW.out (by have:=HVL.out.2;omega) HSW.out HSW.out)
             rw [decide_eq_true rfl] at HSM
             go_wp2_with fail
             refine Calls.mono (HSM.out) ?_
             rintro e wn8 ⟨rfl,hq⟩
             replace HB:=Lib.hid (HB.out.trans (hq.mono HB.out.size))
             replace HNX:=Lib.hid (HNX.out.kept hq)
             replace HVW:=Lib.hid (HVW.out.kept hq)
             replace HG1:=Lib.hid (HG1.out.kept hq)
             replace HSU:=Lib.hid (HSU.out.kept hq)
             clear hq
             clear HSU
             clear HSM
             have e5:((gl1:Int)==(was1.length:Int))=true:=by rw [HVL.out.1,HSL1.out];simp
             have e6:((gl1:Int) != (was1.length:Int))=false:=by rw [HVL.out.1,HSL1.out];simp
             obtain ⟨w5,hw5⟩:∃ x,x=wn8:=⟨_,rfl⟩
             subst hw5
             obtain ⟨GA2,gc2,ge,hst⟩:=state_at HG1.out
             obtain ⟨rfl,rfl⟩:GA1=GA2∧gc1=gc2:=by injection ge with e1 _ e2;exact ⟨e1,e2⟩
             have HSTA:=Lib.hid hst
             clear ge hst
             go_wp2
             clear e5 e6
             go_loopw [20] (fun i wr=>∃ j:Nat,j≤S1.length∧i=.int .i64 j∧Hid (Below w5.heap.size w5 wr)) (fun i _=>S1.length-(intOf i).toNat)
             case atStart=>exact ⟨0,Nat.zero_le _,rfl,Lib.hid (.refl _ _)⟩
             case round =>
              obtain ⟨j,hj,rfl,HBJ⟩:=hrel
              by_cases hjl:j < S1.length
              ·obtain ⟨b3,o3,rfl,hb3,hcc⟩:=HSTA.out j hjl
               obtain ⟨kA,kp,pA,pp,hr,-,x1,x2,x3⟩:=hcc j hjl
               have hjw:j < was1.length:=by rw [HVL.out.1];exact hjl
               obtain ⟨bv,ov,cv',ev⟩:=times_some HVW.out (by omega)
               obtain ⟨rfl,rfl⟩:AV=some ⟨bv,ov,none⟩∧cV=cv':=by injection ev with e1 _ e2;exact ⟨e1,e2⟩
               clear ev
               obtain ⟨rv,hrv,y1,-⟩:=times_cellAt HVW.out j hjw
               have HTA:=Lib.hid (told_at HWA1.out j hjl hjw)
               have HLV:=Lib.hid (HF1.out.fit (by have:=HK4.out;omega) (by have:=HK4.out;omega) HLEN1.out ng HKG.out.1 (grpB ng S1[j]) (List.mem_map.2 ⟨_,List.getElem_mem hjl,rfl⟩))
               have HY1:=Lib.hid (cell_kept y1 HBJ.out)
               have HRV:=Lib.hid (StrsIn.kept hrv HBJ.out)
               have HRR:=Lib.hid (groupK.kept hr HBJ.out)
               have z1:=cell_kept x1 HBJ.out
               have z2:=cell_kept x2 HBJ.out
               have z3:=cell_kept x3 HBJ.out
               have HLJ:Hid (j < S1.length):=hjl
               have i3:(j:Int) < (gl1:Int):=by have:=HSL1.out;omega
               have i4:(j:Int) < (was1.length:Int):=by omega
               have q3:IntKind.i64.wrap ((j:Int)+1)=(j:Int)+1:=by have:=HVL.out.2;rw [IntKind.wrap_i64];omega
               clear hcc hr x1 x2 x3 y1 hrv hb3
               obtain ⟨wrow,hwr⟩:∃ x,(was1[j]'hjw).1=x:=⟨_,rfl⟩
               rw [hwr] at HTA HRV
               obtain ⟨Arv,prv,rfl,-⟩:=one_at HRV.out
               clear hwr
               obtain ⟨P,hP⟩:∃ x,(S1[j]'hjl)=x:=⟨_,rfl⟩
               rw [hP] at HTA HLV HRR z1 z2
               clear hP hjw hjl hj
               have HGR:=Lib.hid (growg_calls (gv:=groupA (.slice kA P.1.length kp) (.slice pA ng.length pp) (grpB ng P).n) (G:=grpB ng P) ⟨_,_,rfl,groupK.mono HRR.out fun _ _=>trivial⟩ (HOG.out.kept (HB.out.trans (HBJ.out.mono HB.out.size))) (by have:=HLV.out.1.1;omega) (by have:=HLV.out.1.1;omega) HLV.out.1.2.1 (by have:=HKG.out.1;omega))
               rw [HTA.out.1] at HGR
               unfold groupA at HGR
               have HPN:Hid ((grpB ng P).n=manyL P.2):=Lib.hid rfl
               rw [HPN.out] at HGR
               go_wp2_with fail
               refine HGR.out.mono ?_
               intro e w6 hend
               obtain ⟨⟨xv,rfl,hX,-⟩,hq⟩:(∃ v,e=.returned (.tuple #[v,.int .i64 0])∧StrsIn w6 v wrow∧Fresh wr.heap.size v)∧Below wr.heap.size wr w6:=hend
               have HXV:=Lib.hid hX
               have HBK:=Lib.hid (HBJ.out.trans (hq.mono HBJ.out.size))
               have y2:=cell_kept HY1.out hq
               have HCM:=Lib.hid (ref_compare_calls hX (StrsIn.kept HRV.out hq))
               rw [cmpL_self] at HCM
               obtain ⟨Ax,px,ex,-⟩:=one_at hX
               subst ex
               clear hX hq HGR z1 z2 z3 HRR HRV HY1
               go_wp2_with fail
               refine HCM.out.mono ?_
               rintro e w7 ⟨rfl,hq⟩
               have HBL9:=Lib.hid (HBK.out.trans (hq.mono HBK.out.size))
               clear hq HCM y2 HBK HBJ HXV
               go_wp2
               go_roundw
               case rel=>exact ⟨j+1,HLJ.out,by go_num,HBL9⟩
               case measure=>have:=HLJ.out;simp [intOf];omega
              ·have i3:¬(j:Int) < (gl1:Int):=by have:=HSL1.out;omega
               have HGZ:=Lib.hid (HG1.out.kept HBJ.out)
               have HNZ:=Lib.hid (HNX.out.kept HBJ.out)
               have HVZ:=Lib.hid (HVW.out.kept HBJ.out)
               have HBZ:=Lib.hid (HB.out.trans (HBJ.out.mono HB.out.size))
               clear hjl hj HBJ HG1 HNX HVW HB HSTA
               go_wp2
               go_roundw
               case rel=>exact ⟨k+1,HLK.out,by go_num,S1,M,was1,HKS,HGZ,HNZ,HVZ,HBZ⟩
               case measure=>have:=HLK.out;simp [intOf];omega
         ·obtain rfl:k=pl.length:=by omega
          have i1:¬(pl.length:Int) < (pl.length:Int):=by omega
          clear hlt hk
          go_wp2_with fail
          refine Calls.mono (HAW.out wr) ?_
          rintro e wn2 ⟨rfl,hq⟩
          replace HB:=Lib.hid (HB.out.trans (hq.mono HB.out.size))
          clear hq
          go_wp2
          go_ret
          exact ⟨rfl,HB.out⟩
  ·have dc1:decide ((4:Int) < (cb.length:Int))=true:=decide_eq_true (by omega)
   clear hc
   go_wp2_with fail
   refine Calls.mono (HAW.out w) ?_
   rintro e wn1 ⟨rfl,hq⟩
   replace HB:=Lib.hid (HB.out.trans (hq.mono HB.out.size))
   clear hq
   go_wp2
   go_ret
   exact ⟨rfl,HB.out⟩
 ·have dc0:decide ((4:Int) < (pl.length:Int))=true:=decide_eq_true (by omega)
  clear hc
  go_wp2_with fail
  refine Calls.mono (HAW.out w) ?_
  rintro e wn1 ⟨rfl,hq⟩
  replace HB:=Lib.hid (HB.out.trans (hq.mono HB.out.size))
  clear hq
  go_wp2
  go_ret
  exact ⟨rfl,HB.out⟩
end Go.Proofs.YtjbpbfhgjldliaaGreat
