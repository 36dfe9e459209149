/- Layer 17's own gather: the parts of a condition, as they stand. -/
import Derived.Test.YtnkhkkdmjabhnaaGCalmM
import Derived.Test.YtnkhkkdmjabhnaaGZNormPrint
namespace Go.Proofs.Ytnkhkkdmjabhnaa
open Go Go.RowKit
theorem Try.infoP52:(Try.prog.info? 52).map (fun i=>(i.zero,i.size,i.bytes))=some (some (.agg #[.int .u8 0,.int .i64 0,.string ⟨#[]⟩,.slice none 0 0,.string ⟨#[]⟩]),5,72):=by kernel_rfl
def partsV (ps:List PartV):List Value:=ps.flatMap encV
theorem partsV_append (a b:List PartV):partsV (a++b)=partsV a++partsV b:=List.flatMap_append
theorem partsV_one (p:PartV):partsV [p]=encV p:=by simp [partsV]
theorem partsV_length (ps:List PartV):(partsV ps).length=ps.length*5:=by
 induction ps with
 | nil=>rfl
 | cons p ps ih =>
  have e:partsV (p::ps)=encV p++partsV ps:=rfl
  rw [e,List.length_append,ih,List.length_cons]
  show 5+_=_
  omega
def PsOk (w0:World)(ps:List PartV):Prop:=∀ p∈ps,okT p.t∧KidsIn w0 (.slice p.A p.n p.p) p.t.kids∧p.pr=mkB (printL p.t)∧Sm17 p.t∧p.n=p.t.kids.length
def Tagged (ps:List PartV):Prop:=∀ i (h:i < ps.length),ps[i].tag=i
theorem Tagged.snoc {ps:List PartV}{p:PartV}(h:Tagged ps)(hp:p.tag=ps.length):Tagged (ps++[p]):=fun i hi=>by
 by_cases c:i < ps.length
 ·rw [List.getElem_append_left c];exact h i c
 ·have e:i=ps.length:=by simp at hi;omega
  subst e
  rw [List.getElem_append_right (Nat.le_refl _)]
  simpa using hp
def GatOk (w0 w:World)(v:Value)(L:List Trm)(u:Value)(w':World):Prop:=∃ ps',Own w' w0.heap.size 5 u ps'.length (partsV ps')∧ps'.map PartV.t=L∧PsOk w0 ps'∧Tagged ps'∧w.grownBy w' v.ownBlock∧∀ k,u.ownBlock=some k→v.ownBlock=some k∨w.heap.size≤k
theorem GatOk.kept {w0 w:World}{v:Value}{L:List Trm}(u:Value)(w1 w2:World)(hb:Below w1.heap.size w1 w2)(h:GatOk w0 w v L u w1):GatOk w0 w v L u w2:=by
 obtain ⟨ps,h1,h2,h3,h4,h5,h6⟩:=h
 exact ⟨ps,h1.later hb,h2,h3,h4,grown_tr2 h5 (below_grown hb),h6⟩
def gatC (w0 w2:World)(v:Value):Phase→World→Prop:=fun ph wz=>Below w0.heap.size w0 wz∧w2.grownBy wz v.ownBlock∧(ph 6=none→Below w2.heap.size w2 wz)
theorem gatC_stable (w0 w2:World)(v:Value):∀ ph w w',Below w.heap.size w w'→gatC w0 w2 v ph w→gatC w0 w2 v ph w':=fun _ _ _ hb h=>⟨h.1.trans (hb.mono h.1.size),grown_tr2 h.2.1 (below_grown hb),fun hp=>(h.2.2 hp).trans (hb.mono (h.2.2 hp).size)⟩
theorem gatC_start {w0 w2:World}(v:Value)(h:Below w0.heap.size w0 w2):gatC w0 w2 v (fun _=>none) w2.drew:=⟨Below.drew h,below_grown (below_drew1 _),fun _=>below_drew1 _⟩
theorem gat_below {w0 w w':World}{v:Value}(hb:Below w0.heap.size w0 w)(hg:w.grownBy w' v.ownBlock)(hv:∀ k,v.ownBlock=some k→w0.heap.size≤k):Below w0.heap.size w0 w':=hb.grown hg hb.size hv
theorem leaves_le:∀ t,(leavesT t).length≤(printL t).length:=by
 intro t
 induction t using Trm.ind with
 | h t ih =>
  rw [leaves_eq]
  split
  ·rw [printL_eq,List.length_append,flat_swap_length]
   have:∀ ks:List Trm,(∀ k∈ks,(leavesT k).length≤(printL k).length)→((ks.map leavesT).flatten).length≤((ks.map printL).flatten).length:=by
    intro ks
    induction ks with
    | nil=>intro _;simp
    | cons k ks ih2 =>
     intro h
     have h1:=h k List.mem_cons_self
     have h2:=ih2 fun x hx=>h x (List.mem_cons_of_mem _ hx)
     rw [List.map_cons,List.map_cons,List.flatten_cons,List.flatten_cons,List.length_append,List.length_append]
     omega
   have:=this t.kids ih
   omega
  ·have h1:0 < (printL t).length:=by
    rw [printL_eq,List.length_append]
    unfold headL
    simp
    omega
   split <;> simp <;> omega
def GatAt (t:Trm):Prop:=Sm17 t→∀ (w0:World)(tv:Value),TermIn w0 tv t→∀ (w:World)(v:Value)(ps:List PartV),Below w0.heap.size w0 w→Own w w0.heap.size 5 v ps.length (partsV ps)→PsOk w0 ps→Tagged ps→ps.length+(leavesT t).length≤1000000000 →
 Calls Try.prog 29 #[v,tv,.string (mkB trueL)] w fun e w'=>∃ u,e=.returned u∧GatOk w0 w v (ps.map PartV.t++leavesT t) u w'
set_option maxHeartbeats 8000000 in
set_option maxRecDepth 100000 in
theorem own_gather_calls (t:Trm):GatAt t:=by
 refine Trm.ind (P:=GatAt) (fun t ih=>?_) t
 intro hs w0 tv ht w v ps hb hO hP hT hL
 obtain ⟨i0,hi,hz0,hz1,hz2⟩:=info_parts Try.infoP52
 have HOF:=Lib.hid fun W (hW:Below w0.heap.size w0 W)=>of_two_calls (ht.kept hW) 38
 have HPR:=Lib.hid fun W (hW:Below w0.heap.size w0 W)=>norm_print_calls (ht.kept hW) hs
 have HIH:Hid (∀ k (hk:k∈t.kids),∀ (tv:Value),TermIn w0 tv k→∀ (w:World) (v:Value) (ps:List PartV),Below w0.heap.size w0 w→Own w w0.heap.size 5 v ps.length (partsV ps)→PsOk w0 ps→Tagged ps→ps.length+(leavesT k).length≤1000000000 →
  Calls Try.prog 29 #[v,tv,.string (mkB trueL)] w fun e w'=>∃ u,e=.returned u∧GatOk w0 w v (ps.map PartV.t++leavesT k) u w'):=fun k hk=>ih k hk (hs.kid hk) w0
 have HLY:=Lib.hid fun (h:t.op=38∧t.kids.length=2)=>(leaves_eq t).trans (if_pos h)
 have HLE:=Lib.hid fun (h:¬(t.op=38∧t.kids.length=2))=>(leaves_eq t).trans (if_neg h)
 have HSM:=Lib.hid hs
 obtain ⟨op,col,cell,ks⟩:=t
 obtain ⟨kv,rfl,ho,hk⟩:=ht
 dsimp only [trmA,Trm.op,Trm.col,Trm.cell,Trm.kids] at *
 obtain ⟨A,cap,rfl,-⟩:=kids_at hk
 have HK:=Lib.hid hk
 have HOK:=Lib.hid ho
 have HO:=Lib.hid hO
 have HP:=Lib.hid hP
 have HTG:=Lib.hid hT
 have HB0:=Lib.hid hb
 obtain ⟨n,hn⟩:∃ n,ks.length=n:=⟨_,rfl⟩
 have HN:Hid (ks.length=n):=hn
 have HTW:Hid (twoOf 38 (.mk op col cell ks)=(decide (op=38)&&decide (n=2))):=by
  show (decide (op=38)&&decide (ks.length=2))=_
  rw [hn]
 rw [HTW.out] at HOF
 rw [hn] at HOF HPR HK HLY HLE ⊢
 have HL:=Lib.hid hL
 clear ho hk hO hP hT hb hs ih hn hL
 generalize leavesT (.mk op col cell ks)=lv at *
 obtain ⟨pl,hpl⟩:∃ x,printL (.mk op col cell ks)=x:=⟨_,rfl⟩
 have HPLE:Hid (printL (.mk op col cell ks)=pl):=hpl
 rw [hpl] at HPR HLE
 clear hpl
 have ha1:=Below.alloc (.refl w.heap.size w) (Nat.le_refl _) (.cells #[.int .u8 op,.int .i64 col,.string cell,.slice A n cap] 24)
 have hx:=trmbox_lit w 24 op col cell (.slice A n cap)
 have HX:=Lib.hid hx
 have HB:=Lib.hid ha1
 obtain ⟨vA,vn,ev⟩:=HO.out.len
 have HNE:Hid (v.ownBlock≠some w.heap.size):=fun e=>by have:=(HO.out.lt _ e).2;omega
 have HVB:Hid (∀ k,v.ownBlock=some k→w0.heap.size≤k):=fun k hk=>(HO.out.lt k hk).1
 obtain ⟨c0,c1,c2,c3,-⟩:=HX.out.cells
 clear ha1 hx
 go_enter Try.func29,Try.ntmps29
 subst ev
 generalize hps:ps.length=pn at *
 have HPN:Hid (ps.length=pn):=hps
 clear hps
 go_wp2_with fail
 generalize World.alloc w _=w1 at *
 clear c0 c1 c2 c3
 have HB01:=Lib.hid (HB0.out.trans (HB.out.mono HB0.out.size))
 refine (HOF.out w1 HB01.out).stepB (w0:=w1) (B:=w1.heap.size) (.refl _ _) (Nat.le_refl _) ?_
 intro w2 _ _ hq
 have HX2:=Lib.hid (HX.out.later hq)
 have HB2:=Lib.hid (HB.out.trans (hq.mono HB.out.size))
 have HB02:=Lib.hid (HB01.out.trans (hq.mono HB01.out.size))
 have HO2:=Lib.hid (HO.out.later HB2.out)
 have HG2:Hid (w.grownBy w2 (Value.slice vA pn vn).ownBlock):=below_grown HB2.out
 clear hq HX HB HB01 HO HOF
 by_cases h2:op=38∧n=2
 ·obtain ⟨rfl,rfl⟩:=h2
  have hl2:=HN.out
  match hks:ks,hl2 with
  | [ka,kb],_ =>
   have HLV:Hid (lv=leavesT ka++leavesT kb):=by
    show lv=_
    rw [HLY.out ⟨rfl,rfl⟩]
    show ([leavesT ka,leavesT kb]:List (List Trm)).flatten=_
    simp
   obtain ⟨bA,oA,aA,ap,ea,hbA,hcA,htA⟩:=kid_cells HK.out (i:=0) (by simp)
   obtain ⟨bB,oB,bbA,bp,eb,hbB,hcB,htB⟩:=kid_cells HK.out (i:=1) (by simp)
   subst ea
   simp only [Option.some.injEq,Addr.mk.injEq,and_true] at eb
   obtain ⟨rfl,rfl⟩:=eb
   simp only [List.getElem_cons_zero,List.getElem_cons_succ,Nat.zero_mul,Nat.add_zero,Nat.one_mul] at hcA hcB htA htB
   have HCA:=Lib.hid hcA
   have HCB:=Lib.hid hcB
   have HIA:=Lib.hid (HIH.out ka (by simp) _ htA)
   have HIB:=Lib.hid (HIH.out kb (by simp) _ htB)
   clear hcA hcB htA htB HIH HLE HLY HPR HK
   generalize ka.kids.length=an at *
   generalize ka.op=ao at *
   generalize ka.col=ac at *
   generalize ka.cell=ab at *
   generalize kb.kids.length=bn at *
   generalize kb.op=bo at *
   generalize kb.col=bc at *
   generalize kb.cell=bb at *
   have HLL:Hid (pn+(leavesT ka).length+(leavesT kb).length≤1000000000):=by
    have h:=HL.out
    rw [HLV.out,List.length_append] at h
    show _≤_
    omega
   go_wp2_with fail
   refine wp_region_m (gatC w0 w2 (Value.slice vA pn vn)) (fun k=>k==6||k==12) (fun k m=>(m==6&&[0,1,2,3,4,5].contains k)||(m==12&&[0,1,2,3,4,5,6,7,8,9,10,11].contains k)) (fun k m=>(m==6&&[12,13].contains k)||(m==12&&[13].contains k)) (fun _ _ _ _=>True) (by kernel_rfl) (by kernel_rfl) (by kernel_rfl) (by kernel_rfl) (by intro m hm;revert hm;simp;try omega) (gatC_stable w0 w2 _) (gatC_start _ HB02.out) ?_
   refine m_fix rfl ?_
   apply Exists.intro
   refine ⟨fun ph a wz hp hc hk hf K hK=>?_,?_⟩
   ·have h0:=hk 0 (by kernel_rfl)
    clear hk hf hc
    go_simp
    exact hK _ _ (Below.refl _ _) rfl
   refine m_fix rfl ?_
   apply Exists.intro
   refine ⟨fun ph a wz hp hc hk hf K hK=>?_,?_⟩
   ·have h4:=hk 4 (by kernel_rfl)
    clear hk hf hc
    go_simp
    exact hK _ _ (Below.refl _ _) rfl
   refine m_fix rfl ?_
   apply Exists.intro
   refine ⟨fun ph a wz hp hc hk hf K hK=>?_,?_⟩
   ·have h11:=mheld_isV hf 0 rfl (by kernel_rfl)
    clear hk hf
    obtain ⟨y0,y1,y2,y3,-⟩:=(HX2.out.other hc.2.1 HNE.out).cells
    clear hc
    go_simp
    exact hK _ _ (Below.refl _ _) rfl
   refine m_fix rfl ?_
   apply Exists.intro
   refine ⟨fun ph a wz hp hc hk hf K hK=>?_,?_⟩
   ·have h12:=mheld_isV hf 0 rfl (by kernel_rfl)
    clear hk hf hc
    go_simp
    exact hK _ _ (Below.refl _ _) rfl
   refine m_fix rfl ?_
   apply Exists.intro
   refine ⟨fun ph a wz hp hc hk hf K hK=>?_,?_⟩
   ·have hb:Below w0.heap.size w0 wz:=hc.1
    have h13:=mheld_isV hf 0 rfl (by kernel_rfl)
    clear hk hf hc
    obtain ⟨k0,k1,k2,k3⟩:=HCA.out.kept hbA hb
    go_simp
    exact hK _ _ (Below.refl _ _) rfl
   refine m_fix rfl ?_
   apply Exists.intro
   refine ⟨fun ph a wz hp hc hk hf K hK=>?_,?_⟩
   ·have h2:=hk 2 (by kernel_rfl)
    clear hk hf hc
    go_simp
    exact hK _ _ (Below.refl _ _) rfl
   refine m_store (tillM 12 (GatOk w0 w2 (Value.slice vA pn vn) (ps.map PartV.t++leavesT ka))) rfl (stable_tillM (fun u w1 w2 hb h=>GatOk.kept u w1 w2 hb h)) (fun ph a wz hp hph hc hk hf K hK=>?_) ?_
   ·have h10:=mheld_isV hf 5 rfl (by kernel_rfl)
    have h14:=mheld_isV hf 1 rfl (by kernel_rfl)
    have h15:=mheld_isV hf 0 rfl (by kernel_rfl)
    clear hk hf
    have hbz:=hc.2.2 hph
    go_simp
    refine Calls.mono (HIA.out wz _ ps hc.1 (by rw [HPN.out];exact HO2.out.later hbz) HP.out HTG.out (by rw [HPN.out];have:=HLL.out;omega)) ?_
    rintro e w1 ⟨u,rfl,qs,h1,h2,h3,h4,h5,h6⟩
    have hg:=grown_tr2 (below_grown hbz) h5
    refine hK _ _ trivial ⟨gat_below HB02.out hg HVB.out,hg,fun h=>by rw [setP_self] at h;cases h⟩ fun _=>⟨qs,h1,h2,h3,h4,hg,fun k hk=>?_⟩
    rcases h6 k hk with h|h
    ·exact .inl h
    ·exact .inr (Nat.le_trans hbz.size h)
   refine m_fix rfl ?_
   apply Exists.intro
   refine ⟨fun ph a wz hp hc hk hf K hK=>?_,?_⟩
   ·have h4:=hk 4 (by kernel_rfl)
    clear hk hf hc
    go_simp
    exact hK _ _ (Below.refl _ _) rfl
   refine m_fix rfl ?_
   apply Exists.intro
   refine ⟨fun ph a wz hp hc hk hf K hK=>?_,?_⟩
   ·have h17:=mheld_isV hf 0 rfl (by kernel_rfl)
    clear hk hf
    obtain ⟨y0,y1,y2,y3,-⟩:=(HX2.out.other hc.2.1 HNE.out).cells
    clear hc
    go_simp
    exact hK _ _ (Below.refl _ _) rfl
   refine m_fix rfl ?_
   apply Exists.intro
   refine ⟨fun ph a wz hp hc hk hf K hK=>?_,?_⟩
   ·have h18:=mheld_isV hf 0 rfl (by kernel_rfl)
    clear hk hf hc
    go_simp
    exact hK _ _ (Below.refl _ _) rfl
   refine m_fix rfl ?_
   apply Exists.intro
   refine ⟨fun ph a wz hp hc hk hf K hK=>?_,?_⟩
   ·have hb:Below w0.heap.size w0 wz:=hc.1
    have h19:=mheld_isV hf 0 rfl (by kernel_rfl)
    clear hk hf hc
    obtain ⟨k0,k1,k2,k3⟩:=HCB.out.kept hbB hb
    go_simp
    exact hK _ _ (Below.refl _ _) rfl
   refine m_fix rfl ?_
   apply Exists.intro
   refine ⟨fun ph a wz hp hc hk hf K hK=>?_,?_⟩
   ·have h2:=hk 2 (by kernel_rfl)
    clear hk hf hc
    go_simp
    exact hK _ _ (Below.refl _ _) rfl
   refine m_store (fun _ u wx=>GatOk w0 w2 (Value.slice vA pn vn) (ps.map PartV.t++(leavesT ka++leavesT kb)) u wx) rfl (fun _ u w1 w2 hb h=>GatOk.kept u w1 w2 hb h) (fun ph a wz hp hph hc hk hf K hK=>?_) ?_
   ·obtain ⟨v16,h16,S16⟩:=mheld_at hf 5 rfl (by kernel_rfl)
    have h20:=mheld_isV hf 1 rfl (by kernel_rfl)
    have h21:=mheld_isV hf 0 rfl (by kernel_rfl)
    clear hk hf
    obtain ⟨qs,h1,h2,h3,h4,h5,h6⟩:=S16 hph
    have hql:qs.length=pn+(leavesT ka).length:=by
     have:=congrArg List.length h2
     rwa [List.length_map,List.length_append,List.length_map,HPN.out] at this
    have HP6:=hp.2 6 rfl rfl
    go_simp
    refine Calls.mono (HIB.out wz _ qs hc.1 h1 h3 h4 (by have:=HLL.out;omega)) ?_
    rintro e w1 ⟨u,rfl,rs,r1,r2,r3,r4,r5,r6⟩
    have hg:=grown_turn h5 h6 r5
    refine hK _ _ trivial ⟨gat_below HB02.out hg HVB.out,hg,fun h=>by rw [setP_ne _ (by decide)] at h;rw [h] at HP6;cases HP6⟩ ⟨rs,r1,by rw [r2,h2,List.append_assoc],r3,r4,hg,new_trans h6 h5.size r6⟩
   refine m_var (fun _ u wx=>GatOk w0 w2 (Value.slice vA pn vn) (ps.map PartV.t++(leavesT ka++leavesT kb)) u wx) rfl (fun _ u w1 w2 hb h=>GatOk.kept u w1 w2 hb h) (fun ph a wz hp hc hk hf K hK=>?_) ?_
   ·obtain ⟨v22,h22,S22⟩:=mheld_at hf 0 rfl (by kernel_rfl)
    clear hk hf
    go_simp
    exact hK _ _ (Below.refl _ _) S22
   refine m_nil ?_
   refine ⟨keeps_m (fun m hm=>?_),?_⟩
   ·have hm2:m=6∨m=12:=by simpa [or_assoc] using hm
    rcases hm2 with rfl|rfl
    ·exact ⟨.inr (.inr (keep_isV _)),.inr (.inr (keep_isV _)),.inr (.inr (keep_isV _)),.inr (.inr (keep_isV _)),.inr (.inr (keep_isV _)),.inr (.inr (keep_isV _)),.inl rfl,.inr (.inr (keep_isV _)),.inr (.inr (keep_isV _)),.inr (.inr (keep_isV _)),.inr (.inr (keep_isV _)),.inr (.inr (keep_isV _)),.inr (.inl rfl),.inr (.inl rfl),trivial⟩
    ·exact ⟨.inr (.inr (keep_isV _)),.inr (.inr (keep_isV _)),.inr (.inr (keep_isV _)),.inr (.inr (keep_isV _)),.inr (.inr (keep_isV _)),.inr (.inr (keep_isV _)),.inr (.inr keep_till_self),.inr (.inr (keep_isV _)),.inr (.inr (keep_isV _)),.inr (.inr (keep_isV _)),.inr (.inr (keep_isV _)),.inr (.inr (keep_isV _)),.inl rfl,.inr (.inl rfl),trivial⟩
   intro ph w3 hps hc
   simp only [mlexL,mEnd]
   rintro _ rfl _ rfl _ rfl _ rfl _ rfl _ rfl v16 S16 _ rfl _ rfl _ rfl _ rfl _ rfl v22 S22 v6 S6
   clear hps hc S16 S22
   simp only [Act.put,List.setIfInBounds_toArray,List.set_cons_zero,List.set_cons_succ]
   obtain ⟨qs,hOq,hm,hpq,htq,hgq,hnq⟩:=S6
   have HRES:Hid (GatOk w0 w (Value.slice vA pn vn) (ps.map PartV.t++lv) v6 w3):=by
    rw [HLV.out]
    exact ⟨qs,hOq,hm,hpq,htq,grown_tr2 HG2.out hgq,fun k hk=>by
     rcases hnq k hk with h|h
     ·exact .inl h
     ·exact .inr (Nat.le_trans HB2.out.size h)⟩
   obtain ⟨uA,un,eu⟩:=hOq.len
   subst eu
   clear hOq hm hpq htq hgq hnq
   go_wp2
   go_ret
   exact ⟨_,rfl,HRES.out⟩
 ·have e2:(decide (op=38)&&decide (n=2))=false:=by
   rcases Decidable.not_and_iff_or_not.1 h2 with h|h
   ·simp [h]
   ·simp [h]
  have HLV:Hid (lv=if pl=trueL then [] else [.mk op col cell ks]):=by
   exact HLE.out h2
  rw [e2]
  clear HIH HLE HLY h2 e2
  obtain ⟨x0,x1,x2,x3,-⟩:=HX2.out.cells
  go_wp2_with fail
  clear x0 x1 x2 x3
  refine (HPR.out w2 HB02.out).stepB (w0:=w2) (B:=w2.heap.size) (.refl _ _) (Nat.le_refl _) ?_
  intro w3 _ _ hq
  have HX3:=Lib.hid (HX2.out.later hq)
  have HO3:=Lib.hid (HO2.out.later hq)
  have HG3:=Lib.hid (grown_tr2 HG2.out (below_grown hq))
  clear hq HX2 HO2 HG2 HPR HB02 HB2
  by_cases hp:pl=trueL
  ·have d1:((mkB pl).toList==(mkB trueL).toList)=true:=by rw [hp];simp
   have HRES:Hid (GatOk w0 w (Value.slice vA pn vn) (ps.map PartV.t++lv) (.slice vA pn vn) w3):=by
    rw [HLV.out,if_pos hp,List.append_nil]
    exact ⟨ps,by rw [HPN.out];exact HO3.out,rfl,HP.out,HTG.out,HG3.out,fun k hk=>.inl hk⟩
   clear HLV HO3 HG3 hp
   generalize mkB pl=pb at *
   go_wp2
   go_ret
   exact ⟨_,rfl,HRES.out⟩
  ·have d1:((mkB pl).toList==(mkB trueL).toList)=false:=by
    rw [beq_eq_false_iff_ne]
    intro e
    rw [ByteArray.toList_eq,ByteArray.toList_eq] at e
    exact hp e
   rw [if_neg hp] at HLV
   have hLn:=HL.out
   rw [HLV.out] at hLn
   replace hLn:pn+1≤1000000000:=hLn
   obtain ⟨x0,x1,x2,x3,-⟩:=HX3.out.cells
   have HPL:Hid (mkB pl=mkB pl):=rfl
   obtain ⟨pb,hpb⟩:∃ pb,Hid (pb=mkB pl):=⟨_,rfl⟩
   rw [←hpb.out] at d1 ⊢
   clear HPL hp
   have ha4:=Below.alloc (.refl w3.heap.size w3) (Nat.le_refl _) (.cells #[.int .u8 op,.int .i64 col,.string cell,.slice A n cap,.string pb] 52)
   have hsl:SliceOf (w3.alloc (.cells #[.int .u8 op,.int .i64 col,.string cell,.slice A n cap,.string pb] 52)) 5 (.slice (some ⟨w3.heap.size,0,none⟩) 1 1) 1 [.int .u8 op,.int .i64 col,.string cell,.slice A n cap,.string pb]:=(Own.lit (B:=0) (size:=5) w3 #[.int .u8 op,.int .i64 col,.string cell,.slice A n cap,.string pb] 52 1 (Nat.zero_le _) (by unfold maxLen;omega) rfl).slice
   go_wp2_with (at_builtin;refine wpList_append_src rfl (.tmp 29) (.tmp 33) 48 rfl 52 i0 (.agg #[.int .u8 0,.int .i64 0,.string ⟨#[]⟩,.slice none 0 0,.string ⟨#[]⟩]) 5 72 Try.underlying48 hi hz0 hz1 hz2 rfl (by decide) (B:=w0.heap.size) (Value.slice vA pn vn) pn (partsV ps) rfl (HO3.out.later ha4) _ 1 _ rfl hsl (fun u hu=>encV_one ⟨0,.mk op col cell ks,A,n,cap,pb⟩ u hu) (by unfold maxLen;omega) (by omega) (by have:=HB0.out.size;have:=HG3.out.size;have:=ha4.size;omega) ?_)
   intro v5 w5 hO5 hg5 hn5
   have HRES:Hid (GatOk w0 w (Value.slice vA pn vn) (ps.map PartV.t++lv) v5 w5):=by
    rw [HLV.out]
    have hnew:(ps++[⟨pn,.mk op col cell ks,A,n,cap,pb⟩]:List PartV).length=pn+1:=by rw [List.length_append,HPN.out];rfl
    refine ⟨ps++[⟨pn,.mk op col cell ks,A,n,cap,pb⟩],?_,?_,?_,HTG.out.snoc HPN.out.symm,?_,?_⟩
    ·rw [hnew,partsV_append,partsV_one];exact hO5
    ·rw [List.map_append];rfl
    ·intro p hp2
     rcases List.mem_append.1 hp2 with hp2|hp2
     ·exact HP.out p hp2
     ·rw [List.mem_singleton.1 hp2]
      exact ⟨HOK.out,HK.out,by rw [show PartV.t ⟨pn,.mk op col cell ks,A,n,cap,pb⟩=.mk op col cell ks from rfl,HPLE.out];exact hpb.out,HSM.out,HN.out.symm⟩
    ·exact grown_tr2 HG3.out (grown_tr2 (below_grown ha4) hg5)
    ·intro k hk
     rcases hn5 k hk with h|h
     ·exact .inl h
     ·have:=HG3.out.size;have:=ha4.size;exact .inr (by omega)
   obtain ⟨uA,un,eu⟩:=hO5.len
   subst eu
   clear hO5 hg5 hn5 hsl ha4 x0 x1 x2 x3
   go_wp2
   go_ret
   exact ⟨_,rfl,HRES.out⟩
end Go.Proofs.Ytnkhkkdmjabhnaa
