/- The contracts of layer 13's own read and All. -/
import Derived.Test.YtafmbnafibahkaaGreatGBlockOwn
import Derived.Test.YtafmbnafibahkaaGreatGCutBlocks
import Derived.Test.YtafmbnafibahkaaGreatGCutParts
import Derived.Laws.MakeOwn
namespace Go.Proofs.YtafmbnafibahkaaGreat
open Go Go.RowKit
theorem Tryz.infoCp85:(Tryz.prog.info? 85).map (fun i=>(i.zero,i.size,i.bytes))=some (some (.agg #[.slice none 0 0,.slice none 0 0,.bool false]),3,56):=by kernel_rfl
theorem good_read {p:List Tm}{cols:List (Int×Bool)}(h:GoodP p cols):readB p cols.length cols=true:=by
 have hk:kindsB p cols=true:=by
  unfold kindsB
  rw [List.all_eq_true]
  intro c hc
  have hc':=List.mem_range.1 hc
  rw [List.getD_eq_getElem?_getD,List.getElem?_eq_getElem hc']
  exact h.2.2.1 c hc'
 unfold readB
 rw [hk,decide_eq_true rfl,Bool.true_and,Bool.true_and]
 exact h.1
def PartsEnd (w:World)(P:List (List Tm))(e:Ending)(w':World):Prop :=
 ∃ pv:List PartV,e=.returned (.tuple #[.slice (some ⟨w.heap.size,0,none⟩) P.length P.length,.bool true])∧Own w' w.heap.size 3 (.slice (some ⟨w.heap.size,0,none⟩) P.length P.length) P.length (partsV pv)∧Plain w' w.heap.size∧pv.length=P.length ∧
  (∀ j (h1:j < pv.length) (h2:j < P.length),TimesIn w' pv[j].1 P[j])∧(∀ j (h1:j < pv.length),pv[j].2=(.slice none 0 0,false))∧Below w.heap.size w w'
set_option maxHeartbeats 4000000 in
set_option maxRecDepth 100000 in
theorem cut_read_calls {w:World}{vb vc:Value}{P:List (List Tm)}{cols:List (Int×Bool)}(hvb:BlksIn w vb (blksL P cols.length))(hvc:ColsIn w vc cols)(hP:∀ p∈P,GoodP p cols)(hPl:P.length≤4096)(hcK:cols.length≤1000000) :
  Calls Tryz.prog 61 #[vb,vc] w (PartsEnd w P):=by
 obtain ⟨j0,hj,jz0,jz1,jz2⟩:=info_parts Tryz.infoCp85
 obtain ⟨hb,hB⟩:=start w
 obtain ⟨A1,p1,rfl,hat⟩:=blksL_at hvb
 obtain ⟨A2,p2,rfl,hone2⟩:=cols_at hvc
 have HAT:=Lib.hid hat
 have HVC:=Lib.hid hvc
 have HPG:=Lib.hid hP
 clear hvb hat hvc hP hone2
 unfold PartsEnd
 go_enter Tryz.func61,Tryz.ntmps61
 go_wp2_with (at_make;refine wpList_make_full _ rfl _ _ 81 rfl w.heap.size 85 j0 (.agg #[.slice none 0 0,.slice none 0 0,.bool false]) 3 Tryz.underlying81 hj jz0 jz1 .i64 .i64 _ _ P.length rfl rfl rfl rfl (by rw [jz2];omega) (by unfold maxLen;omega) hB ?_)
 intro w1 hrow hg1
 have hrow':w1.ownsRow w.heap.size 85 3 (.slice (some ⟨w.heap.size,0,none⟩) P.length P.length) P.length (partsV (List.replicate P.length (.slice none 0 0,.slice none 0 0,false))):=(made_parts P.length)▸hrow
 have hO:Own w1 w.heap.size 3 (.slice (some ⟨w.heap.size,0,none⟩) P.length P.length) P.length (partsV (List.replicate P.length (.slice none 0 0,.slice none 0 0,false))):=Own.of_row (B:=w.heap.size) hrow' (by unfold maxLen;omega) (Nat.le_refl _)
 have hp1:Plain w1 w.heap.size:=Plain.made hrow' (by
  intro x hx
  unfold partsV at hx
  rw [List.mem_flatMap] at hx
  obtain ⟨t,ht,hx⟩:=hx
  rw [List.mem_replicate] at ht
  rw [ht.2] at hx
  unfold partC at hx
  simp only [List.mem_cons,List.not_mem_nil,or_false] at hx
  rcases hx with rfl|rfl|rfl
  ·exact plain_slice _ _ _
  ·exact plain_slice _ _ _
  ·exact plain_bool _)
 have hb1:Below w.heap.size w w1:=hb.grown hg1 hB (fun k hk=>by cases hk)
 clear hrow hrow' hg1 hb hB
 go_wp2
 go_loopw [7,8,16] (fun _ _ i wr=>∃ k:Nat,k≤P.length∧i=.int .i64 k∧(∃ pv:List PartV,pv.length=P.length∧Own wr w.heap.size 3 (.slice (some ⟨w.heap.size,0,none⟩) P.length P.length) P.length (partsV pv)∧Plain wr w.heap.size∧Hid (∀ j (h1:j < pv.length) (h2:j < P.length),j < k→TimesIn wr pv[j].1 P[j])∧Hid (∀ j (h1:j < pv.length),pv[j].2=(.slice none 0 0,false)))∧Below w.heap.size w wr) (fun _ _ i _=>P.length-(intOf i).toNat)
 case atStart=>exact ⟨0,Nat.zero_le _,rfl,⟨_,List.length_replicate,hO,hp1,fun j _ _ h=>absurd h (by omega),fun j h=>by rw [List.getElem_replicate]⟩,hb1⟩
 case round =>
  clear hO hp1 hb1
  obtain ⟨k,hk,rfl,⟨pv,hpl,hO,hpn,HT,HZ⟩,hb⟩:=hrel
  have hB:=hb.size
  by_cases hlt:k < P.length
  ·obtain ⟨b,off,rfl,hbl,rv,hrs,c0,c1,c2⟩:=HAT.out k hlt
   have x0:=(hb.cell (p:=⟨b,off+k*3,none⟩) hbl).trans c0
   have x1:=(hb.cell (p:=⟨b,off+k*3+1,none⟩) hbl).trans c1
   have x2:=(hb.cell (p:=⟨b,off+k*3+2,none⟩) hbl).trans c2
   have hg:=HPG.out P[k] (List.getElem_mem hlt)
   have HGR:=Lib.hid (good_read hg)
   obtain ⟨hg1,hg2,hg3,hg4,hg5⟩:=hg
   have hrs1:=StrsIn.kept hrs hb
   obtain ⟨Ar,pr,e,hone⟩:=one_at hrs
   have hsl:(colsT P[k] cols.length).length=cols.length:=colsT_length _ _
   rw [hsl] at e
   subst e
   have hq0:Below wr.heap.size wr (wr.alloc (.cells #[.int .i64 P[k].length,.slice Ar cols.length pr,.string (shelfB (P[k].map Prod.snd))] 72)):=Below.alloc (.refl _ _) (Nat.le_refl _) _
   have HRW:=Lib.hid (block_rows_new (w:=wr.alloc (.cells #[.int .i64 P[k].length,.slice Ar cols.length pr,.string (shelfB (P[k].map Prod.snd))] 72)) (vb:=.agg #[.int .i64 P[k].length,.slice Ar cols.length pr,.string (shelfB (P[k].map Prod.snd))]) (l:=P[k]) cols.length ⟨_,rfl,StrsIn.kept hrs1 hq0⟩ ((HVC.out.kept hb).kept hq0) hg2 hg4 hg5 hcK hcK)
   rw [HGR.out] at HRW
   have HPK:Hid (∀ {u:Value} {W:World},TimesIn W u P[k]→TimesIn W u P[k]):=fun h=>h
   have hpk:k < pv.length:=by omega
   have HOW:=Lib.hid hO
   have HPN:=Lib.hid hpn
   obtain ⟨z0,z1,z2,_⟩:=(bbox_lit wr 72 P[k].length (.slice Ar cols.length pr) (shelfB (P[k].map Prod.snd))).cells
   have HQ0:=Lib.hid hq0
   have HPV:Hid (∃ pk,pk=P[k]):=⟨_,rfl⟩
   have HTK:Hid (∀ (v3:Value) (W:World),TimesIn W v3 P[k]→(∀ j (h1:j < pv.length) (h2:j < P.length),j < k→TimesIn W pv[j].1 P[j])→∀ j (h1:j < (pv.set k (v3,pv[k].2.1,pv[k].2.2)).length) (h2:j < P.length),j < k+1→TimesIn W ((pv.set k (v3,pv[k].2.1,pv[k].2.2))[j]).1 P[j]):=fun v3 W h3 h4 j h1 h2 h5=>by
    rw [List.length_set] at h1
    rw [List.getElem_set]
    split
    ·rename_i e;subst e;exact h3
    ·exact h4 j h1 h2 (by omega)
   clear c0 c1 c2 hrs hrs1 hone hg1 hg2 hg3 hg4 hg5 hO hpn hsl HGR HPK HPV hq0
   generalize shelfB (P[k].map Prod.snd)=s at *
   generalize P[k]=p at *
   generalize p.length=pl at *
   go_wp2_with fail
   refine HRW.out.mono ?_
   rintro e w3 ⟨v3,he,hN,hq⟩
   rw [if_pos rfl] at he hN
   subst he
   have hT3:=hN.times
   obtain ⟨tv3,A3,p3,rfl,_,_⟩:=times_at hT3
   have hqq:=HQ0.out.trans (hq.mono HQ0.out.size)
   have hO3:=HOW.out.later hqq
   have hp3:=HPN.out.later (HOW.out.lt _ rfl).2 hqq
   have hb3:=hb.trans (hqq.mono hB)
   obtain ⟨_,_,_,hcc,hff⟩:=hO3.parts
   have y0:=hcc _ _ (partsV_get pv k hpk).1
   have f0:=(hff (k*3) (by omega)).2
   rw [Nat.zero_add] at y0 f0
   have hgg:=setCells_grown w.heap.size [Value.slice A3 p.length p3] (k*3) w3
   simp only [World.setCells] at hgg
   have hkb:KeptBut w3 (.slice (some ⟨w.heap.size,0,none⟩) P.length P.length) (w3.setCell ⟨w.heap.size,k*3,none⟩ (.slice A3 p.length p3)):=KeptBut.of hgg
   have hpa:∀ O,(Value.slice (some ⟨w.heap.size,0,none⟩) P.length P.length).ownBlock=some O→Plain w3 O:=fun O hO=>by simp only [Value.ownBlock,Option.some.injEq] at hO;subst hO;exact hp3
   have HO4:Hid (Own (w3.setCell ⟨w.heap.size,k*3,none⟩ (.slice A3 p.length p3)) w.heap.size 3 (.slice (some ⟨w.heap.size,0,none⟩) P.length P.length) P.length (partsV (pv.set k (.slice A3 p.length p3,pv[k].2.1,pv[k].2.2)))):=by
    have:=hO3.stored (k*3) (by omega) (.slice A3 p.length p3)
    rw [partsV_set0 pv k hpk,Nat.zero_add] at this
    exact this
   have HP4:=Lib.hid (hp3.set y0 (plain_slice A3 p.length p3))
   have HT4:=Lib.hid (HTK.out _ _ (hT3.but hpa hkb) (fun j h1 h2 h3=>((HT.out j h1 h2 h3).kept hqq).but hpa hkb))
   have HZ4:Hid (∀ j (h1:j < (pv.set k (.slice A3 p.length p3,pv[k].2.1,pv[k].2.2)).length),((pv.set k (.slice A3 p.length p3,pv[k].2.1,pv[k].2.2))[j]).2=(.slice none 0 0,false)):=fun j h1=>by
    rw [List.length_set] at h1
    rw [List.getElem_set]
    split
    ·rename_i e;subst e;exact HZ.out k hpk
    ·exact HZ.out j h1
   have hb4:=hb3.setCell (p:=⟨w.heap.size,k*3,none⟩) (Nat.le_refl _) (.slice A3 p.length p3)
   clear hN hT3 hq hqq hO3 hp3 hb3 hcc hff hgg hkb hpa HRW z0 z1 z2 x0 x1 x2 HTK hb hB
   go_wp2
   go_roundw
   case rel=>exact ⟨k+1,by omega,by go_num,⟨_,by rw [List.length_set];exact hpl,HO4.out,HP4.out,HT4.out,HZ4.out⟩,hb4⟩
   case measure=>simp [intOf];omega
  ·obtain rfl:k=P.length:=by omega
   have HOE:=Lib.hid hO
   have HPE:=Lib.hid hpn
   have HPL:=Lib.hid hpl
   clear hO hpn hpl
   go_wp2
   go_ret2
   exact ⟨pv,rfl,HOE.out,HPE.out,HPL.out,fun j h1 h2=>HT.out j h1 h2 h2,HZ.out,hb⟩
set_option maxHeartbeats 4000000 in
set_option maxRecDepth 100000 in
theorem cut_all_calls {w:World}{vb vc:Value}{P:List (List Tm)}{cols:List (Int×Bool)}(hvb:BlksIn w vb (blksL P cols.length))(hvc:ColsIn w vc cols)(hP:∀ p∈P,GoodP p cols)(hl:P.flatten.length≤4096)(hPl:P.length≤4096)(hcK:cols.length≤1000000) :
  Calls Tryz.prog 42 #[vb,vc] w (AllEnd w P):=by
 obtain ⟨m0,hm,mz0,mz1,mz2⟩:=info_parts Tryz.infoCb46
 obtain ⟨hb,hB⟩:=start w
 have HRD:=Lib.hid (cut_read_calls hvb hvc hP hPl hcK)
 obtain ⟨A1,p1,rfl,_⟩:=blksL_at hvb
 obtain ⟨A2,p2,rfl,_⟩:=cols_at hvc
 have HFL:Hid (∀ k,k < P.length→((P.take k).flatten).length+P[k]!.length≤4096):=fun k hk=>by
  have:=congrArg List.length (flatten_at P k hk)
  rw [List.length_append,List.length_append] at this
  rw [getElem!_pos P k hk]
  omega
 clear hvb hvc hP
 go_enter Tryz.func42,Tryz.ntmps42
 go_wp2_with fail
 refine HRD.out.mono ?_
 rintro e w1 ⟨pv,rfl,hO,_,hpl,hT,hZ,hq⟩
 have hH:HeadsIn w1 (.slice (some ⟨w.heap.size,0,none⟩) P.length P.length) P:=⟨pv,hO.slice,hpl,hT,fun j h1=>⟨none,0,0,by rw [hZ j h1]⟩⟩
 obtain ⟨A3,c3,e3,_,hat⟩:=heads_at hH
 simp only [Value.slice.injEq,true_and] at e3
 obtain ⟨rfl,rfl⟩:=e3
 have HAT:=Lib.hid hat
 have HB:=Lib.hid (hb.trans (hq.mono hB))
 clear hO hpl hT hZ hq hH hat HRD hb hB
 go_wp2
 go_loopw [8,10,21] (fun x _ i wr=>∃ k:Nat,k≤P.length∧i=.int .i64 k∧(∃ tv,TimesOwn wr w1.heap.size x tv (P.take k).flatten)∧Below w1.heap.size w1 wr) (fun _ _ i _=>P.length-(intOf i).toNat)
 case atStart=>exact ⟨0,Nat.zero_le _,rfl,⟨[],TimesOwn.nil_ _ _⟩,.refl _ _⟩
 case round =>
  obtain ⟨k,hk,rfl,⟨tv,hT⟩,hb⟩:=hrel
  have hB:=hb.size
  by_cases hlt:k < P.length
  ·obtain ⟨b,off,eb,hbl,hc⟩:=HAT.out k hlt
   simp only [Option.some.injEq,Addr.mk.injEq,and_true] at eb
   obtain ⟨rfl,rfl⟩:=eb
   obtain ⟨rv,Am,nm,cm,fl,hrT,c0,c1,c2⟩:=hc k hlt
   rw [Nat.zero_add] at c0 c1 c2
   have x0:=(hb.cell (p:=⟨w.heap.size,k*3,none⟩) hbl).trans c0
   have x1:=(hb.cell (p:=⟨w.heap.size,k*3+1,none⟩) hbl).trans c1
   have x2:=(hb.cell (p:=⟨w.heap.size,k*3+2,none⟩) hbl).trans c2
   have HTF:=Lib.hid (take_flatten P k hlt)
   have hlen:=HFL.out k hlt
   rw [getElem!_pos P k hlt] at hlen
   obtain ⟨tv2,hs2,hr2⟩:=hrT
   have HOFF:Hid (∀ v,(∀ j,v.ownBlock=some j→w1.heap.size≤j)→RowsOff v tv2):=fun v hv t ht=>by
    obtain ⟨y,_,hy,_⟩:=hr2.mem t ht
    exact RowOff.below hy (Nat.le_refl _) hv
   obtain ⟨A5,p5,rfl,_⟩:=hs2.at_
   have hq0:Below wr.heap.size wr (wr.alloc (.cells #[.slice A5 P[k].length p5,.slice Am nm cm,.bool fl] 85)):=Below.alloc (.refl _ _) (Nat.le_refl _) _
   have HS2:=Lib.hid (SliceOf.later (SliceOf.later hs2 hb) hq0)
   have HR2:=Lib.hid ((hr2.kept hb).kept hq0)
   have HT1:=Lib.hid (hT.later hq0)
   have HB1:=Lib.hid (hb.trans (hq0.mono hB))
   obtain ⟨A9,p9,rfl⟩:=hT.slice
   clear c0 c1 c2 hs2 hr2 hT hq0 hc
   generalize (P.take k).flatten=a at *
   generalize P[k]=p at *
   have HPL:Hid (a.length+p.length≤4096):=hlen
   generalize hal:a.length=al at *
   generalize hpl:p.length=pl at *
   have HO1:Hid (Own (wr.alloc (.cells #[.slice A5 pl p5,.slice Am nm cm,.bool fl] 85)) w1.heap.size 2 (.slice A9 al p9) al (timesV tv)):=hal▸HT1.out.own
   have HAL:=Lib.hid hal
   have HPLE:=Lib.hid hpl
   clear hal hpl
   go_wp2_with (at_builtin;refine wpList_append_src rfl (.tmp 25) (.tmp 27) 26 rfl 46 m0 (.agg #[.slice none 0 0,.int .i64 0]) 2 32 Tryz.underlying26 hm mz0 mz1 mz2 rfl (by decide) (B:=w1.heap.size) (.slice A9 al p9) al (timesV tv) rfl HO1.out _ pl (timesV tv2) rfl HS2.out (RowsOf.one_cell HR2.out) (by unfold maxLen;omega) (by omega) HB1.out.size ?_)
   intro v7 w7 hO7 hg7 ha7
   have HT7:Hid (∃ tv,TimesOwn w7 w1.heap.size v7 tv (P.take (k+1)).flatten):=by
    refine ⟨tv++tv2,?_⟩
    rw [HTF.out]
    exact HT1.out.adds HR2.out (HOFF.out _ (fun j hj=>(HO1.out.lt j hj).1)) hg7 (by simpa using ha7) (by rw [HAL.out,HPLE.out];exact hO7)
   have hbn:=HB1.out.grown hg7 HB1.out.size (fun q hq=>(HO1.out.lt q hq).1)
   clear hO7 hg7 ha7 HO1 HT1 HS2 HR2 HOFF x0 x1 x2
   go_wp2
   go_roundw
   case rel=>exact ⟨k+1,by omega,by go_num,HT7.out,hbn⟩
   case measure=>simp [intOf];omega
  ·obtain rfl:k=P.length:=by omega
   rw [List.take_length] at hT
   have HRR:=Lib.hid (weigh_right_calls hT.times)
   have HTI:=Lib.hid hT.times
   obtain ⟨A9,p9,rfl⟩:=hT.slice
   clear hT
   cases hr:rightW P.flatten with
   | true =>
    rw [hr] at HRR
    have HYES:=Lib.hid hr
    clear hr
    generalize P.flatten.length=pf at *
    go_wp2_with fail
    refine HRR.out.stepB (w0:=wr) (B:=wr.heap.size) (.refl _ _) (Nat.le_refl _) ?_
    intro w5 _ _ hq5
    have HT5:=Lib.hid (HTI.out.kept hq5)
    have hbe:=HB.out.trans ((hb.trans (hq5.mono hB)).mono HB.out.size)
    clear hq5 HRR
    go_wp2
    go_ret2
    exact all_yes HYES.out HT5.out hbe
   | false =>
    rw [hr] at HRR
    have HNO:=Lib.hid hr
    clear hr
    generalize P.flatten.length=pf at *
    go_wp2_with fail
    refine HRR.out.stepB (w0:=wr) (B:=wr.heap.size) (.refl _ _) (Nat.le_refl _) ?_
    intro w5 _ _ hq5
    have hbe:=HB.out.trans ((hb.trans (hq5.mono hB)).mono HB.out.size)
    clear hq5 HRR
    go_wp2
    go_ret2
    exact all_no HNO.out hbe
end Go.Proofs.YtafmbnafibahkaaGreat
