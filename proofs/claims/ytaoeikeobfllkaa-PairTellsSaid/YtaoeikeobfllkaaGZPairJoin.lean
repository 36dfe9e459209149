/- The contract of layer 19's own Join. -/
import Derived.Test.YtaoeikeobfllkaaGZPairFine
import Derived.Test.YtaoeikeobfllkaaGZPairTogether
namespace Go.Proofs.Ytaoeikeobfllkaa
open Go Go.RowKit
theorem selC0:selC 0=fun c:Cl=>c.1:=funext fun _=>rfl
theorem selC1:selC 1=fun c:Cl=>c.2:=funext fun _=>rfl
set_option maxHeartbeats 8000000 in
set_option maxRecDepth 100000 in
theorem pjoin_calls {w:World}{vl vm vo:Value}{l m:List Tm}{on:List Cl}{n1 n2 k1 k2 d1 d2:Nat}(hl:TimesIn w vl l)(hm:TimesIn w vm m)(ho:OnIn w vo on)(f:Fine n1 k1 d1 l)(g:Fine n2 k2 d2 m)
  (hn:n1≤1000000∧n2≤1000000∧n1*n2≤1000000∧k1≤4611686018427387904∧k2≤4611686018427387904∧k1*k2≤4611686018427387904∧d1+d2≤1000000) :
  GivesTimes Try.prog 12 #[vl,vm,vo] w (joinS l m on):=by
 obtain ⟨hn1,hn2,hn3,hk1,hk2,hk3,hd⟩:=hn
 obtain ⟨i0,hi,hz0,hz1,hz2⟩:=info_parts Try.infoM29
 obtain ⟨hb,hB⟩:=start w
 obtain ⟨Al,cl,rfl⟩:=times_slice hl
 obtain ⟨Am,cm,rfl⟩:=times_slice hm
 obtain ⟨Ao,co,rfl,hco,_⟩:=on_at ho
 have hof1:=weigh_of_calls hl (Nat.le_trans f.1 hn1) (Nat.le_trans f.2.1 hk1) (f.shortR (by omega))
 have HOF2:Hid (∀ W,Below w.heap.size w W→GivesTimes Try.prog 21 #[.slice Am m.length cm] W (ofW m)):=fun W hW=>weigh_of_calls (hm.kept hW) (Nat.le_trans g.1 hn2) (Nat.le_trans g.2.1 hk2) (g.shortR (by omega))
 have HEQ:=Lib.hid (join_of l m on)
 unfold joinS at HEQ ⊢
 have f':=f.of
 have g':=g.of
 have HO:=Lib.hid ho
 have HCO:=Lib.hid hco
 have HON:=Lib.hid ho.len
 unfold GivesTimes at hof1 HOF2 ⊢
 generalize ofW l=l' at *
 generalize ofW m=m' at *
 generalize ofW (pairsL l m on)=res at *
 obtain ⟨l0,hl0⟩:∃ z,l.length=z:=⟨_,rfl⟩
 obtain ⟨m0,hm0⟩:∃ z,m.length=z:=⟨_,rfl⟩
 rw [hl0] at hof1 ⊢
 rw [hm0] at HOF2 ⊢
 have HFP:=Lib.hid (f'.pairs g' on)
 have HF:=Lib.hid f'
 have HG:=Lib.hid g'
 have HB0:=Lib.hid hb
 clear hl hm ho f g f' g' hl0 hm0 hco hb hB
 go_enter Try.func12,Try.ntmps12
 go_wp2_with fail
 refine hof1.mono ?_
 clear hof1
 rintro e w1 ⟨v1,rfl,hT1,hq1⟩
 have hof2:=HOF2.out _ hq1
 have HT1:=Lib.hid hT1
 have HB1:=Lib.hid hq1
 clear hT1 hq1 HOF2 HB0
 go_wp2_with fail
 refine hof2.mono ?_
 clear hof2
 rintro e w2 ⟨v2,rfl,hT2,hq2⟩
 replace HT1:=Lib.hid (HT1.out.kept hq2)
 have HT2:=Lib.hid hT2
 have HB2:=Lib.hid (HB1.out.trans (hq2.mono HB1.out.size))
 obtain ⟨A1,c1,rfl⟩:=times_slice HT1.out
 obtain ⟨A2,c2,rfl⟩:=times_slice HT2.out
 clear hT2 hq2 HB1
 -- the columns' front and back
 obtain ⟨p,hp⟩:∃ p:Nat,min on.length 6=p:=⟨_,rfl⟩
 have hpl:p≤on.length:=by omega
 have hp6:p≤6:=by omega
 have hpc:p≤co:=by have:=HCO.out;omega
 have hmin:min (on.length:Int) 6=(p:Int):=by omega
 obtain ⟨Ab,hbk,hOb⟩:=on_back_run (HO.out.kept HB2.out) hpl
 have hfr:=fun W=>on_front_run W Ao on.length co p hpc
 have HOF:=Lib.hid ((HO.out.kept HB2.out).front hpl)
 have HOB:=Lib.hid hOb
 have HSP:=Lib.hid (List.take_append_drop p on).symm
 have HKL:Hid ((on.take p).length≤6):=by show _≤_;rw [List.length_take];omega
 have hby:=by_key_calls HT2.out HOF.out HKL.out (Nat.le_trans HG.out.1 hn2) HG.out.2.2.2
 clear hOb hp hpc HCO hpl hp6
 obtain ⟨kd,hkd⟩:∃ kd,on.take p=kd:=⟨_,rfl⟩
 obtain ⟨ot,hot⟩:∃ ot,on.drop p=ot:=⟨_,rfl⟩
 rw [hkd,hot] at HSP
 rw [hkd] at HOF HKL hby
 rw [hot] at HOB
 clear hkd hot
 go_wp2_with fail
 unfold ByKeyEnd at hby
 refine hby.mono ?_
 clear hby hfr hbk hmin
 rintro e w3 ⟨b,rfl,hgr,hq3⟩
 replace HT1:=Lib.hid (HT1.out.kept hq3)
 have HGR:=Lib.hid hgr
 have HB3:=Lib.hid (HB2.out.trans (hq3.mono HB2.out.size))
 replace HOF:=Lib.hid (HOF.out.kept hq3)
 replace HOB:=Lib.hid (HOB.out.kept hq3)
 clear hgr hq3 HB2 HT2 HO
 obtain ⟨tv1,_,_,e1,_,hat⟩:=times_at HT1.out
 cases e1
 have HAT:=Lib.hid hat
 clear hat
 generalize on.length-p=ot0 at *
 generalize co-p=oc0 at *
 go_wp2
 go_loopw [10,35] (fun x i wr=>∃ k:Nat,k≤l'.length∧i=.int .i64 k∧Hid (GrowN w3 (pairsL (l'.take k) m' on) x wr)) (fun _ i _=>l'.length-(intOf i).toNat)
 case atStart=>exact ⟨0,Nat.zero_le _,rfl,Lib.hid (GrowN.nil_ w3)⟩
 case round =>
  obtain ⟨k,hk,rfl,HGW⟩:=hrel
  have HBR:=Lib.hid HGW.out.below
  obtain ⟨Ax,px,ex⟩:=HGW.out.slice
  by_cases hlt:k < l'.length
  ·obtain ⟨b1,off,rfl,hbl,hc⟩:=HAT.out k hlt
   obtain ⟨rv,hs,_,c1,c2⟩:=hc k hlt
   have x1:=(HBR.out.cell (p:=⟨b1,off+k*2,none⟩) hbl).trans c1
   have x2:=(HBR.out.cell (p:=⟨b1,off+k*2+1,none⟩) hbl).trans c2
   obtain ⟨Ar,pr,rfl⟩:∃ Ar pr,rv=.slice Ar l'[k].1.length pr:=by obtain ⟨Ar,pr,e,_⟩:=one_at hs;exact ⟨Ar,pr,e⟩
   have hqa:=Below.alloc (.refl wr.heap.size wr) (Nat.le_refl _) (.cells #[.slice Ar l'[k].1.length pr,.int .i64 l'[k].2] 29)
   have hbx:=HBR.out.trans (hqa.mono HBR.out.size)
   have hkey:=pkey_calls (s:=0) (by decide) (StrsIn.kept hs hbx) (HOF.out.kept hbx) HKL.out
   have H48:=Lib.hid (pairs_take l' m' on k hlt)
   have HWG:Hid (keyOk l'[k].1 (kd.map (selC 0))=true→withL l'[k] (groupL m' (kd.map (selC 1)) (keyL l'[k].1 (kd.map (selC 0)))) ot=withL l'[k] m' on):=fun h=>by
    rw [selC0] at h
    rw [selC0,selC1]
    exact with_group HSP.out h
   have HWN:Hid (keyOk l'[k].1 (kd.map (selC 0))=false→withL l'[k] m' on=[]):=fun h=>by
    rw [selC0] at h
    exact with_none HSP.out h
   have HKT:=Lib.hid (keyL_texts (cs:=kd.map (selC 0)) (fun c hc=>HF.out.2.2.2 _ (List.getElem_mem hlt) c hc) (by rw [List.length_map];exact HKL.out))
   have HXW:=Lib.hid (Nat.le_trans (wt_mem (List.getElem_mem hlt)) HF.out.2.1)
   have HXL:=Lib.hid (HF.out.2.2.1 _ (List.getElem_mem hlt))
   have HFL:Hid (∀ (G:List Tm) (q:Nat),G.length≤m'.length→(pairsL (l'.take k) m' on++withL l'[k] (G.take q) ot).length≤1000000):=fun G q hG=>by
    have h1:=pairs_length (l'.take k) m' on
    have h2:=with_length l'[k] (G.take q) ot
    rw [List.length_take] at h1 h2
    have h3:(k+1)*m'.length≤n1*n2:=Nat.mul_le_mul (Nat.le_trans hlt HF.out.1) HG.out.1
    rw [Nat.add_mul,Nat.one_mul] at h3
    rw [Nat.min_eq_left (Nat.le_of_lt hlt)] at h1
    rw [List.length_append]
    omega
   have HLK:Hid (k < l'.length):=hlt
   have HLM:Hid (l'.length≤1000000):=Nat.le_trans HF.out.1 hn1
   have HS:=Lib.hid hs
   have i1:(k:Int) < (l'.length:Int):=by omega
   clear hc c1 c2 hs
   generalize l'[k]=x at *
   clear hlt
   obtain ⟨row,c⟩:=x
   dsimp only at *
   have HX0:=Lib.hid (box_cell wr 29 #[.slice Ar row.length pr,.int .i64 c] 0 _ rfl)
   have HX1:=Lib.hid (box_cell wr 29 #[.slice Ar row.length pr,.int .i64 c] 1 _ rfl)
   have HQA:=Lib.hid hqa
   clear hqa hbx
   cases hy:keyOk row (kd.map (selC 0)) with
   | true =>
    unfold KeyEnd at hkey
    rw [keyR_yes hy,hy] at hkey
    replace HWG:=Lib.hid (HWG.out hy)
    have hk6:=HKT.out.1
    have hgl:=group_length m' (kd.map (selC 1)) (keyL row (kd.map (selC 0)))
    have HGM:Hid (∀ y∈groupL m' (kd.map (selC 1)) (keyL row (kd.map (selC 0))),y∈m'):=fun y hy=>mem_group hy
    generalize keyL row (kd.map (selC 0))=kl at *
    obtain ⟨z0,z1,z2,z3,z4,z5,rfl⟩:=six hk6
    have hkey2:Calls Try.prog 23 #[.slice Ar row.length pr,.slice Ao p co,.int .i64 0] (wr.alloc (.cells #[.slice Ar row.length pr,.int .i64 c] 29)) fun e w'=>e=.returned (.tuple #[.agg #[.string z0,.string z1,.string z2,.string z3,.string z4,.string z5],.bool true])∧Below (wr.alloc (.cells #[.slice Ar row.length pr,.int .i64 c] 29)).heap.size (wr.alloc (.cells #[.slice Ar row.length pr,.int .i64 c] 29)) w':=hkey
    clear hkey hk6 hy HWN
    subst ex
    go_wp2_with fail
    refine hkey2.mono ?_
    clear hkey2
    rintro e w4 ⟨rfl,hq4⟩
    have hq5:=Below.alloc (.refl w4.heap.size w4) (Nat.le_refl _) (.cells #[.string z0,.string z1,.string z2,.string z3,.string z4,.string z5] 48)
    have hq45:=hq4.trans (hq5.mono hq4.size)
    have hqr:=HQA.out.trans (hq45.mono HQA.out.size)
    obtain ⟨v,tv,hrun,hTv⟩:=HGR.out.look (HBR.out.trans (hqr.mono HBR.out.size)) Try.keyT19 Try.underlying45 Try.zeroL19 HKT.out
    have hrun':(Instr.lookup 45 (.map (some b)) (.agg #[.string z0,.string z1,.string z2,.string z3,.string z4,.string z5]) false).run Try.prog (w4.alloc (.cells #[.string z0,.string z1,.string z2,.string z3,.string z4,.string z5] 48))=.ok v (w4.alloc (.cells #[.string z0,.string z1,.string z2,.string z3,.string z4,.string z5] 48)):=hrun
    obtain ⟨tvg,Ag,pg,rfl,_,hatg⟩:=times_at hTv.times
    have HATG:=Lib.hid hatg
    have HXX:Hid ((w4.alloc (.cells #[.string z0,.string z1,.string z2,.string z3,.string z4,.string z5] 48)).cell? ⟨wr.heap.size,0,none⟩=some (.slice Ar row.length pr)∧(w4.alloc (.cells #[.string z0,.string z1,.string z2,.string z3,.string z4,.string z5] 48)).cell? ⟨wr.heap.size,1,none⟩=some (.int .i64 c)∧wr.heap.size < (w4.alloc (.cells #[.string z0,.string z1,.string z2,.string z3,.string z4,.string z5] 48)).heap.size∧∀ g,(Value.slice Ax (pairsL (l'.take k) m' on).length px).ownBlock=some g→g≠wr.heap.size) :=
     ⟨cell_kept HX0.out hq45,cell_kept HX1.out hq45,by have:=hq45.size;simp at this ⊢;omega,fun g hg=>Nat.ne_of_lt (HGW.out.lt g hg)⟩
    replace HGW:=Lib.hid (GrowN.kept _ _ _ hqr HGW.out)
    have y0:=(show (w4.alloc (.cells #[.string z0,.string z1,.string z2,.string z3,.string z4,.string z5] 48)).cell? ⟨wr.heap.size,0,none⟩=_ from HXX.out.1)
    clear hrun hTv hatg hq4 hq5 hq45 hqr HX0 HX1 HQA HBR x1 x2 y0
    generalize groupL m' (kd.map (selC 1)) [z0,z1,z2,z3,z4,z5]=G at *
    go_wp2_with (refine wpList_look_run rfl _ _ 45 rfl _ _ _ rfl rfl hrun' ?_)
    clear hrun'
    generalize w4.alloc (.cells #[.string z0,.string z1,.string z2,.string z3,.string z4,.string z5] 48)=w5 at *
    generalize wr.heap.size=bx at *
    have HSTART:Hid (GrowN w3 (pairsL (l'.take k) m' on++withL (row,c) (G.take 0) ot) (Value.slice Ax (pairsL (l'.take k) m' on).length px) w5):=by
     show GrowN _ (_++[]) _ _
     rw [List.append_nil]
     exact HGW.out
    clear HGW
    go_loopw [10,52] (fun x i wr=>∃ q:Nat,q≤G.length∧i=.int .i64 q∧Hid (GrowN w3 (pairsL (l'.take k) m' on++withL (row,c) (G.take q) ot) x wr)∧Hid (wr.cell? ⟨bx,0,none⟩=some (.slice Ar row.length pr)∧wr.cell? ⟨bx,1,none⟩=some (.int .i64 c)∧bx < wr.heap.size∧∀ g,x.ownBlock=some g→g≠bx)) (fun _ i _=>G.length-(intOf i).toNat)
    case atStart=>exact ⟨0,Nat.zero_le _,rfl,HSTART,HXX⟩
    case round =>
     obtain ⟨q,hq,rfl,HGQ,HXQ⟩:=hrel
     have HBQ:=Lib.hid HGQ.out.below
     obtain ⟨A9,p9,e9⟩:=HGQ.out.slice
     by_cases hql:q < G.length
     ·obtain ⟨b2,off2,rfl,hbl2,hc2⟩:=HATG.out q hql
      obtain ⟨ry,hsy,_,c3,c4⟩:=hc2 q hql
      have y1:=(HBQ.out.cell (p:=⟨b2,off2+q*2,none⟩) hbl2).trans c3
      have y2:=(HBQ.out.cell (p:=⟨b2,off2+q*2+1,none⟩) hbl2).trans c4
      obtain ⟨Ay,py,rfl⟩:∃ Ay py,ry=.slice Ay G[q].1.length py:=by obtain ⟨Ay,py,e,_⟩:=one_at hsy;exact ⟨Ay,py,e⟩
      have HTQ:=Lib.hid (with_take (row,c) G ot q hql)
      have hmem:=HGM.out _ (List.getElem_mem hql)
      have HYW:=Lib.hid (Nat.le_trans (wt_mem hmem) HG.out.2.1)
      have HYL:=Lib.hid (HG.out.2.2.1 _ hmem)
      have hfl:=HFL.out G q hgl
      have HSY:=Lib.hid hsy
      have HLQ:Hid (q < G.length):=hql
      have i2:(q:Int) < (G.length:Int):=by omega
      have HGLL:Hid (G.length≤1000000):=Nat.le_trans hgl (Nat.le_trans HG.out.1 hn2)
      clear hc2 c3 c4 hsy hmem
      generalize G[q]=y at *
      clear hql
      obtain ⟨ry0,cy⟩:=y
      obtain ⟨F,hF⟩:∃ F,pairsL (l'.take k) m' on++withL (row,c) (G.take q) ot=F:=⟨_,rfl⟩
      have HTN:Hid (pairsL (l'.take k) m' on++withL (row,c) (G.take (q+1)) ot=F++if meetsB row ry0 ot=true then [(row++ry0,c*cy)] else []):=by
       show _=_
       rw [HTQ.out,←List.append_assoc,hF]
       rfl
      rw [hF] at HGQ e9 hfl
      dsimp only at *
      clear hF HTQ
      obtain ⟨m9,hm9⟩:∃ z,F.length=z:=⟨_,rfl⟩
      have HM9:Hid (F.length=m9):=hm9
      rw [hm9] at e9 hfl
      have HFM:Hid (m9≤1000000):=hfl
      subst e9
      clear hm9 hfl
      have hqa:=Below.alloc (.refl wr.heap.size wr) (Nat.le_refl _) (.cells #[.slice Ay ry0.length py,.int .i64 cy] 29)
      have hbw:=HBQ.out.trans (hqa.mono HBQ.out.size)
      have hmeet:=pmeets_calls (StrsIn.kept HS.out hbw) (StrsIn.kept HSY.out hbw) (HOB.out.kept hbw)
      have HY0:=Lib.hid (box_cell wr 29 #[.slice Ay ry0.length py,.int .i64 cy] 0 _ rfl)
      have HY1:=Lib.hid (box_cell wr 29 #[.slice Ay ry0.length py,.int .i64 cy] 1 _ rfl)
      obtain ⟨xc0,xc1,xlt,xne⟩:=HXQ.out
      have z6:=cell_kept xc0 hqa
      have z7:=cell_kept xc1 hqa
      have HZ6:=Lib.hid z6
      have HZ7:=Lib.hid z7
      have HXL2:=Lib.hid xlt
      have HXN:=Lib.hid xne
      have HQA:=Lib.hid hqa
      clear hqa hbw xc0 xc1 xlt xne HXQ z7
      cases hy:meetsB row ry0 ot with
      | true =>
       rw [hy] at hmeet
       replace HTN:=Lib.hid (HTN.out.trans (by rw [if_pos hy]))
       clear hy
       go_wp2_with fail
       refine hmeet.mono ?_
       clear hmeet
       rintro e w6 ⟨rfl,hq6⟩
       have x0:=cell_kept HZ6.out hq6
       have x1:=cell_kept HZ7.out hq6
       have u0:=cell_kept HY0.out hq6
       have u1:=cell_kept HY1.out hq6
       have hq06:=HQA.out.trans (hq6.mono HQA.out.size)
       have hb6:=HBQ.out.trans (hq06.mono HBQ.out.size)
       have hfit:=mul_fits HXW.out HYW.out hk3
       have htog:=together_calls c cy (StrsIn.kept HS.out hb6) (StrsIn.kept HSY.out hb6) (by have:=HXL.out;have:=HYL.out;omega) hfit.1 hfit.2
       unfold TmEnd timesA at htog
       have HX0:=Lib.hid x0
       have HX1:=Lib.hid x1
       have HGQ6:=Lib.hid (GrowN.kept _ _ _ hq06 HGQ.out)
       have HL6:Hid (bx < w6.heap.size):=Nat.lt_of_lt_of_le HXL2.out hq06.size
       generalize row++ry0=rr at *
       generalize c*cy=cc at *
       clear hq6 hq06 hb6 hfit HZ6 HZ7 HY0 HY1 HQA HGQ y1 y2 z6 HXL2 HBQ
       go_wp2_with fail
       refine htog.mono ?_
       clear htog
       rintro e w7 ⟨A7,p7,rfl,hs7,hf7,hq7⟩
       obtain ⟨tv8,hT8,hF8,hB8⟩:=HGQ6.out
       have hq8:=Below.alloc (.refl w7.heap.size w7) (Nat.le_refl _) (.cells #[.slice A7 rr.length p7,.int .i64 cc] 29)
       have hq78:=hq7.trans (hq8.mono hq7.size)
       have HO12:=Lib.hid (RowOff.of_fresh (v:=.slice A9 m9 p9) hf7 (fun j hj=>(hT8.own.lt j hj).2))
       have HFR:=Lib.hid (hf7.mono hB8.size)
       have HT9:=Lib.hid (hT8.later hq78)
       have hO9:=HT9.out.own
       rw [HM9.out] at hO9
       have HO9:=Lib.hid hO9
       have HB9:=Lib.hid (hB8.trans (hq78.mono hB8.size))
       have HF9:=Lib.hid hF8
       have HLIT:=Lib.hid (lit_tm w7 29 (.slice A7 rr.length p7) cc)
       have H1:=Lib.hid (one_tm hs7 cc)
       have HS9:Hid (StrsIn (w7.alloc (.cells #[.slice A7 rr.length p7,.int .i64 cc] 29)) (.slice A7 rr.length p7) rr):=StrsIn.kept hs7 hq8
       have HC0:=Lib.hid (cell_kept HX0.out hq78)
       have HC1:=Lib.hid (cell_kept HX1.out hq78)
       have HL9:Hid (bx < (w7.alloc (.cells #[.slice A7 rr.length p7,.int .i64 cc] 29)).heap.size):=Nat.lt_of_lt_of_le HL6.out hq78.size
       clear hs7 hf7 hq7 hT8 hF8 hB8 hq8 hq78 hO9 HX0 HX1 HGQ6 x0 x1 u0 u1
       have hml:=HFM.out
       go_wp2_with (at_builtin;refine wpList_append_src rfl (.tmp 62) (.tmp 66) 22 rfl 29 i0 (.agg #[.slice none 0 0,.int .i64 0]) 2 32 Try.underlying22 hi hz0 hz1 hz2 rfl (by decide) (B:=w3.heap.size) (.slice A9 m9 p9) m9 (timesV tv8) rfl HO9.out (.slice (some ⟨w7.heap.size,0,none⟩) 1 1) 1 [.slice A7 rr.length p7,.int .i64 cc] rfl HLIT.out H1.out (by unfold maxLen;omega) (by omega) HB9.out.size ?_)
       intro v10 w10 hO10 hg10 ha10
       have HG10:=Lib.hid (GrowN.add HT9.out HF9.out HB9.out HS9.out HFR.out HO12.out hg10 (by simpa using ha10) hO10 (by rw [HM9.out]))
       rw [←HTN.out] at HG10
       have HX10:Hid (w10.cell? ⟨bx,0,none⟩=some (.slice Ar row.length pr)∧w10.cell? ⟨bx,1,none⟩=some (.int .i64 c)∧bx < w10.heap.size∧∀ g,v10.ownBlock=some g→g≠bx) :=
        ⟨hg10.cell HC0.out (fun e=>HXN.out bx e.symm rfl),hg10.cell HC1.out (fun e=>HXN.out bx e.symm rfl),Nat.lt_of_lt_of_le HL9.out hg10.size,fun g hg=>by
         rcases ha10 g hg with h|h
         ·exact HXN.out g h
         ·exact Nat.ne_of_gt (Nat.lt_of_lt_of_le HL9.out (by simpa using h))⟩
       clear hO10 hg10 ha10 hml
       have hml:=HGLL.out
       go_wp2
       go_roundw
       case rel=>exact ⟨q+1,HLQ.out,by go_num,HG10,HX10⟩
       case measure=>have:=HLQ.out;simp [intOf];omega
      | false =>
       rw [hy] at hmeet
       replace HTN:=Lib.hid (HTN.out.trans (by rw [if_neg (by rw [hy];decide),List.append_nil]))
       clear hy
       go_wp2_with fail
       refine hmeet.mono ?_
       clear hmeet
       rintro e w6 ⟨rfl,hq6⟩
       have hq06:=HQA.out.trans (hq6.mono HQA.out.size)
       have HG10:=Lib.hid (GrowN.kept _ _ _ hq06 HGQ.out)
       rw [←HTN.out] at HG10
       have HX10:Hid (w6.cell? ⟨bx,0,none⟩=some (.slice Ar row.length pr)∧w6.cell? ⟨bx,1,none⟩=some (.int .i64 c)∧bx < w6.heap.size∧∀ g,(Value.slice A9 m9 p9).ownBlock=some g→g≠bx) :=
        ⟨cell_kept HZ6.out hq6,cell_kept HZ7.out hq6,Nat.lt_of_lt_of_le HXL2.out hq06.size,HXN.out⟩
       clear hq6 hq06 HZ6 HZ7 HY0 HY1 HQA HGQ y1 y2 z6 HXL2 HBQ HXN
       have hml:=HGLL.out
       go_wp2
       go_roundw
       case rel=>exact ⟨q+1,HLQ.out,by go_num,HG10,HX10⟩
       case measure=>have:=HLQ.out;simp [intOf];omega
     ·obtain rfl:q=G.length:=by omega
      rw [List.take_length,HWG.out,←H48.out] at HGQ e9
      clear HFL HXQ HBQ
      have hml:=HLM.out
      generalize (pairsL (l'.take (k+1)) m' on).length=m9 at *
      subst e9
      go_wp2
      go_roundw
      case rel=>exact ⟨k+1,HLK.out,by go_num,HGQ⟩
      case measure=>have:=HLK.out;simp [intOf];omega
   | false =>
    unfold KeyEnd at hkey
    rw [keyR_no hy,hy] at hkey
    replace HWN:=Lib.hid (HWN.out hy)
    have hkey2:Calls Try.prog 23 #[.slice Ar row.length pr,.slice Ao p co,.int .i64 0] (wr.alloc (.cells #[.slice Ar row.length pr,.int .i64 c] 29)) fun e w'=>e=.returned (.tuple #[.agg #[.string ⟨#[]⟩,.string ⟨#[]⟩,.string ⟨#[]⟩,.string ⟨#[]⟩,.string ⟨#[]⟩,.string ⟨#[]⟩],.bool false])∧Below (wr.alloc (.cells #[.slice Ar row.length pr,.int .i64 c] 29)).heap.size (wr.alloc (.cells #[.slice Ar row.length pr,.int .i64 c] 29)) w':=hkey
    clear hkey hy HKT HWG HFL
    rw [HWN.out,List.append_nil] at H48
    subst ex
    go_wp2_with fail
    refine hkey2.mono ?_
    clear hkey2
    rintro e w4 ⟨rfl,hq4⟩
    have hq5:=Below.alloc (.refl w4.heap.size w4) (Nat.le_refl _) (.cells #[.string ⟨#[]⟩,.string ⟨#[]⟩,.string ⟨#[]⟩,.string ⟨#[]⟩,.string ⟨#[]⟩,.string ⟨#[]⟩] 48)
    have hq45:=hq4.trans (hq5.mono hq4.size)
    have hqr:=HQA.out.trans (hq45.mono HQA.out.size)
    replace HGW:=Lib.hid (GrowN.kept _ _ _ hqr HGW.out)
    replace HGW:Hid (GrowN w3 (pairsL (l'.take (k+1)) m' on) (Value.slice Ax (pairsL (l'.take k) m' on).length px) (w4.alloc (.cells #[.string ⟨#[]⟩,.string ⟨#[]⟩,.string ⟨#[]⟩,.string ⟨#[]⟩,.string ⟨#[]⟩,.string ⟨#[]⟩] 48))):=by rw [H48.out];exact HGW
    clear hq4 hq5 hq45 hqr HX0 HX1 HQA HBR x1 x2 H48
    have hml:=HLM.out
    go_wp2
    go_roundw
    case rel=>exact ⟨k+1,HLK.out,by go_num,HGW⟩
    case measure=>have:=HLK.out;simp [intOf];omega
  ·obtain rfl:k=l'.length:=by omega
   rw [List.take_length] at HGW ex
   have hof:=weigh_of_calls HGW.out.new.times (Nat.le_trans HFP.out.1 hn3) (Nat.le_trans HFP.out.2.1 hk3) (HFP.out.shortR hd)
   rw [HEQ.out] at hof
   have HB4:=Lib.hid (HB3.out.trans (HBR.out.mono HB3.out.size))
   unfold GivesTimes at hof
   generalize (pairsL l' m' on).length=m9 at *
   subst ex
   clear HGW HBR hlt hk
   go_wp2_with fail
   refine hof.mono ?_
   clear hof
   rintro e w8 ⟨v8,rfl,hT8,hq8⟩
   have HT8:=Lib.hid hT8
   have HB8:=Lib.hid (HB4.out.trans (hq8.mono HB4.out.size))
   obtain ⟨A8,p8,rfl⟩:=times_slice hT8
   clear hT8 hq8
   go_wp2
   go_ret
   exact ⟨_,rfl,HT8.out,HB8.out⟩
end Go.Proofs.Ytaoeikeobfllkaa
