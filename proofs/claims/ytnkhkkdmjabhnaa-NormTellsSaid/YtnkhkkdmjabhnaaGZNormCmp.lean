/- Layer 17's own compare: how two terms' bytes stand. -/
import Derived.Test.YtnkhkkdmjabhnaaGZCalm
import Derived.Test.YtnkhkkdmjabhnaaGZNormOwnA
namespace Go.Proofs.Ytnkhkkdmjabhnaa
open Go Go.RowKit
inductive Sm17:Trm→Prop
 | mk {t:Trm}:okT t→t.cell.size≤1000000→t.kids.length≤1000→(printL t).length≤1000000000→(∀ k∈t.kids,Sm17 k)→Sm17 t
theorem Sm17.parts {t:Trm}(h:Sm17 t):okT t∧t.cell.size≤1000000∧t.kids.length≤1000∧(printL t).length≤1000000000∧∀ k∈t.kids,Sm17 k:=by cases h with|mk a b c d e=>exact ⟨a,b,c,d,e⟩
theorem Sm17.kid {t k:Trm}(h:Sm17 t)(hk:k∈t.kids):Sm17 k:=h.parts.2.2.2.2 k hk
theorem Sm17.okA:∀ {t:Trm},Sm17 t→OkA t:=by
 intro t
 induction t using Trm.ind with
 | h t ih=>exact fun h=>.mk h.parts.1 fun k hk=>ih k hk (h.kid hk)
theorem Sm17.ord:∀ {t:Trm},Sm17 t→Sm17 (ordT t):=by
 intro t
 induction t using Trm.ind with
 | h t ih =>
  intro h
  obtain ⟨h1,h2,h3,h4,h5⟩:=h.parts
  have e:(ordT t).op=t.op∧(ordT t).col=t.col∧(ordT t).cell=t.cell∧(ordT t).kids=sortK t.op (t.kids.map ordT):=by rw [ord_eq];exact ⟨rfl,rfl,rfl,rfl⟩
  have hp:=sortK_perm t.op (t.kids.map ordT)
  refine .mk ?_ (by rw [e.2.2.1];exact h2) ?_ (by rw [(ord_facts t).1];exact h4) fun k hk=>?_
  ·unfold okT at h1 ⊢
   rw [e.1,e.2.1];exact h1
  ·rw [e.2.2.2,hp.length_eq,List.length_map];exact h3
  ·rw [e.2.2.2] at hk
   obtain ⟨x,hx,rfl⟩:=List.mem_map.1 (hp.mem_iff.1 hk)
   exact ih x hx (h5 x hx)
def Cells4 (w:World)(b o:Nat)(op col:Int)(cell:ByteArray)(kv:Value):Prop:=w.cell? ⟨b,o,none⟩=some (.int .u8 op)∧w.cell? ⟨b,o+1,none⟩=some (.int .i64 col)∧w.cell? ⟨b,o+2,none⟩=some (.string cell)∧w.cell? ⟨b,o+3,none⟩=some kv
theorem Cells4.kept {w w':World}{b o:Nat}{op col:Int}{cell:ByteArray}{kv:Value}(h:Cells4 w b o op col cell kv)(hlt:b < w.heap.size)(hb:Below w.heap.size w w'):Cells4 w' b o op col cell kv :=
 ⟨(hb.cell (p:=⟨b,o,none⟩) hlt).trans h.1,(hb.cell (p:=⟨b,o+1,none⟩) hlt).trans h.2.1,(hb.cell (p:=⟨b,o+2,none⟩) hlt).trans h.2.2.1,(hb.cell (p:=⟨b,o+3,none⟩) hlt).trans h.2.2.2⟩
theorem str_cmp_gives (a b:ByteArray)(w:World):GivesAt Try.prog 47 #[.string a,.string b] w (.int .i64 (cb a.data.toList b.data.toList)):=(Try.strings_Compare a b w).mono fun _ _ ⟨he,hw⟩=>⟨he,hw▸.refl _ _⟩
theorem kid_cells {w:World}{A:Option Addr}{n cap:Nat}{l:List Trm}(h:KidsIn w (.slice A n cap) l){i:Nat}(hi:i < l.length):∃ b off A' p',A=some ⟨b,off,none⟩∧b < w.heap.size∧Cells4 w b (off+i*4) l[i].op l[i].col l[i].cell (.slice A' l[i].kids.length p')∧TermIn w (.agg #[.int .u8 l[i].op,.int .i64 l[i].col,.string l[i].cell,.slice A' l[i].kids.length p']) l[i]:=by
 obtain ⟨A2,c2,e,hat⟩:=kids_at h
 injection e with e1 e2 e3
 subst e1
 obtain ⟨b,off,ea,hb,hc⟩:=hat i hi
 obtain ⟨kv,ho,hk,c0,c1,c2,c3⟩:=hc i hi
 obtain ⟨A',p',rfl,-⟩:=kids_at hk
 exact ⟨b,off,A',p',ea,hb,⟨c0,c1,c2,c3⟩,_,rfl,ho,hk⟩
def CmpAt (a:Trm):Prop:=Sm17 a→OrdT a→∀ b,Sm17 b→OrdT b→∀ (w:World)(va vb:Value),TermIn w va a→TermIn w vb b→GivesAt Try.prog 45 #[va,vb] w (.int .i64 (cb (printL a) (printL b)))
set_option maxHeartbeats 4000000 in
set_option maxRecDepth 100000 in
theorem own_compare_calls (a:Trm):CmpAt a:=by
 refine Trm.ind (P:=CmpAt) (fun a ih=>?_) a
 intro sa oa b sb ob w va vb ha hb0
 have HHA:=Lib.hid fun W (hW:Below w.heap.size w W)=>head_calls (ha.kept hW) (by have:=sa.parts.2.1;omega) (by have:=sa.parts.2.2.1;omega)
 have HHB:=Lib.hid fun W (hW:Below w.heap.size w W)=>head_calls (hb0.kept hW) (by have:=sb.parts.2.1;omega) (by have:=sb.parts.2.2.1;omega)
 have HIH:Hid (∀ i (hi:i < a.kids.length) (hj:i < b.kids.length) W va vb,TermIn W va a.kids[i]→TermIn W vb b.kids[i]→GivesAt Try.prog 45 #[va,vb] W (.int .i64 (cb (printL a.kids[i]) (printL b.kids[i])))):=fun i hi hj W va vb h1 h2 =>
  ih _ (List.getElem_mem hi) (sa.kid (List.getElem_mem hi)) (oa.kid (List.getElem_mem hi)) _ (sb.kid (List.getElem_mem hj)) (ob.kid (List.getElem_mem hj)) W va vb h1 h2
 have CH:=Lib.hid (cmp_head sa.okA sb.okA oa ob)
 have HK:=Lib.hid (head_kids sa.okA sb.okA)
 have CK:=Lib.hid fun h (i:Nat) hi hj=>cmp_kid sa.okA sb.okA oa ob h (i:=i) hi hj
 have CS:=Lib.hid (cmp_same oa ob)
 have HLA:Hid (a.kids.length≤1000):=sa.parts.2.2.1
 clear ih sa sb oa ob
 obtain ⟨op,col,cell,ks⟩:=a
 obtain ⟨op',col',cell',ks'⟩:=b
 obtain ⟨kv,rfl,-,hka⟩:=ha
 obtain ⟨kv',rfl,-,hkb⟩:=hb0
 dsimp only [trmA,Trm.op,Trm.col,Trm.cell,Trm.kids] at *
 obtain ⟨A,cap,rfl,-⟩:=kids_at hka
 obtain ⟨A',cap',rfl,-⟩:=kids_at hkb
 have HKA:=Lib.hid hka
 have HKB:=Lib.hid hkb
 clear hka hkb
 generalize headL op col cell ks.length=ha at *
 generalize headL op' col' cell' ks'.length=hb' at *
 generalize hP:cb (printL (.mk op col cell ks)) (printL (.mk op' col' cell' ks'))=res at *
 clear hP
 obtain ⟨n,hn⟩:∃ n,ks.length=n:=⟨_,rfl⟩
 obtain ⟨m,hm⟩:∃ m,ks'.length=m:=⟨_,rfl⟩
 have HNM:Hid (ks.length=n∧ks'.length=m):=⟨hn,hm⟩
 rw [hn] at HHA HKA HLA HK ⊢
 rw [hm] at HHB HKB HK ⊢
 clear hn hm
 unfold GivesAt
 have hxa:=trmbox_lit w 24 op col cell (.slice A n cap)
 have hxb:=trmbox_lit (w.alloc (.cells #[.int .u8 op,.int .i64 col,.string cell,.slice A n cap] 24)) 24 op' col' cell' (.slice A' m cap')
 have hs1:(w.alloc (.cells #[.int .u8 op,.int .i64 col,.string cell,.slice A n cap] 24)).heap.size=w.heap.size+1:=by simp
 rw [hs1] at hxb
 have ha1:=Below.alloc (.refl w.heap.size w) (Nat.le_refl _) (.cells #[.int .u8 op,.int .i64 col,.string cell,.slice A n cap] 24)
 have ha2:=Below.alloc (.refl _ (w.alloc (.cells #[.int .u8 op,.int .i64 col,.string cell,.slice A n cap] 24))) (Nat.le_refl _) (.cells #[.int .u8 op',.int .i64 col',.string cell',.slice A' m cap'] 24)
 have HXA:=Lib.hid (hxa.later ha2)
 have HXB:=Lib.hid hxb
 have HB:=Lib.hid (ha1.trans (ha2.mono ha1.size))
 clear hxa hxb hs1 ha1 ha2
 go_enter Try.func45,Try.ntmps45
 go_wp2_with fail
 generalize World.alloc (World.alloc w _) _=w2 at *
 refine wp_region_calm (offC w2) (fun _=>false) (fun _=>false) anyE false (by kernel_rfl) (by kernel_rfl) (by kernel_rfl) (by kernel_rfl) (by intro m hm;revert hm;simp;try omega) (offC_stable _) (offC_start _) ?_
 refine calm_fixA rfl rfl ?_
 apply Exists.intro
 refine ⟨fun a wz hc hk hf K hK=>?_,?_⟩
 ·have hb:Below w2.heap.size w2 wz:=hc rfl
  have h2:=hk 2 (by kernel_rfl)
  clear hk hf hc
  obtain ⟨x0,x1,x2,x3,-⟩:=(HXA.out.later hb).cells
  obtain ⟨y0,y1,y2,y3,-⟩:=(HXB.out.later hb).cells
  go_simp
  exact hK _ _ (Below.refl _ _) rfl
 refine calm_fixA rfl rfl ?_
 apply Exists.intro
 refine ⟨fun a wz hc hk hf K hK=>?_,?_⟩
 ·have hb:Below w2.heap.size w2 wz:=hc rfl
  have h8:=held_isV hf 0 rfl (by kernel_rfl)
  clear hk hf hc
  go_simp
  refine Calls.mono (HHA.out wz (HB.out.trans (hb.mono HB.out.size))) ?_
  rintro e w1 ⟨rfl,hq⟩
  exact hK _ _ hq rfl
 refine calm_fixA rfl rfl ?_
 apply Exists.intro
 refine ⟨fun a wz hc hk hf K hK=>?_,?_⟩
 ·have hb:Below w2.heap.size w2 wz:=hc rfl
  have h3:=hk 3 (by kernel_rfl)
  clear hk hf hc
  obtain ⟨x0,x1,x2,x3,-⟩:=(HXA.out.later hb).cells
  obtain ⟨y0,y1,y2,y3,-⟩:=(HXB.out.later hb).cells
  go_simp
  exact hK _ _ (Below.refl _ _) rfl
 refine calm_fixA rfl rfl ?_
 apply Exists.intro
 refine ⟨fun a wz hc hk hf K hK=>?_,?_⟩
 ·have hb:Below w2.heap.size w2 wz:=hc rfl
  have h10:=held_isV hf 0 rfl (by kernel_rfl)
  clear hk hf hc
  go_simp
  refine Calls.mono (HHB.out wz (HB.out.trans (hb.mono HB.out.size))) ?_
  rintro e w1 ⟨rfl,hq⟩
  exact hK _ _ hq rfl
 refine calm_fixA rfl rfl ?_
 apply Exists.intro
 refine ⟨fun a wz hc hk hf K hK=>?_,?_⟩
 ·have hb:Below w2.heap.size w2 wz:=hc rfl
  have h9:=held_isV hf 2 rfl (by kernel_rfl)
  have h11:=held_isV hf 0 rfl (by kernel_rfl)
  clear hk hf hc
  go_simp
  refine Calls.mono (str_cmp_gives _ _ wz) ?_
  rintro e w1 ⟨rfl,hq⟩
  exact hK _ _ hq rfl
 refine calm_fixA rfl rfl ?_
 apply Exists.intro
 refine ⟨fun a wz hc hk hf K hK=>?_,?_⟩
 ·have h12:=held_isV hf 0 rfl (by kernel_rfl)
  clear hk hf hc
  go_simp
  exact hK _ _ (Below.refl _ _) rfl
 refine calm_nil ?_
 refine ⟨keeps_none,?_⟩
 intro w3 hc
 simp only [lexL,calmEnd]
 rintro _ rfl _ rfl _ rfl _ rfl _ rfl _ rfl
 have hq:Below w2.heap.size w2 w3:=hc rfl
 have HXAn:=Lib.hid (HXA.out.later hq)
 have HXBn:=Lib.hid (HXB.out.later hq)
 have HBn:=Lib.hid (HB.out.trans (hq.mono HB.out.size))
 clear hc hq HXA HXB HB
 have HXA:=HXAn
 have HXB:=HXBn
 have HB:=HBn
 clear HXAn HXBn HBn
 simp only [Act.put,List.setIfInBounds_toArray,List.set_cons_zero,List.set_cons_succ]
 obtain ⟨z,hz⟩:∃ z,cb ha hb'=z:=⟨_,rfl⟩
 have hz2:cb (mkB ha).data.toList (mkB hb').data.toList=z:=hz
 rw [hz2]
 rw [hz] at CH HK CK CS
 clear hz hz2
 by_cases h0:z=0
 ·subst h0
  have HMN:Hid (n=m):=HK.out rfl
  have CK2:=Lib.hid (CK.out rfl)
  have CS2:=Lib.hid (CS.out rfl)
  clear CH HK CK CS
  obtain ⟨x0,x1,x2,x3,-⟩:=HXA.out.cells
  go_wp2
  clear x0 x1 x2 x3
  go_loopw [19] (fun v wr=>∃ i:Nat,i≤n∧v=.int .i64 i∧Hid ((ks.take i).map printL=(ks'.take i).map printL)∧Hid (TrmBox wr w.heap.size op col cell (.slice A n cap))∧Hid (TrmBox wr (w.heap.size+1) op' col' cell' (.slice A' m cap'))∧Hid (Below w.heap.size w wr)) (fun v _=>n-(intOf v).toNat)
  case atStart=>exact ⟨0,Nat.zero_le _,rfl,by rw [List.take_zero,List.take_zero];exact Lib.hid rfl,HXA.out,HXB.out,HB.out⟩
  case round =>
   clear HXA HXB HB
   obtain ⟨i,hi,rfl,HT,HXA,HXB,HB⟩:=hrel
   by_cases hlt:i < n
   ·have hm:i < m:=by have:=HMN.out;omega
    have hla:=HLA.out
    have h1:i < ks.length:=by rw [HNM.out.1];exact hlt
    have h2:i < ks'.length:=by rw [HNM.out.2];exact hm
    obtain ⟨bA,oA,A3,p3,ea,hbA,hcA,htA⟩:=kid_cells HKA.out h1
    obtain ⟨bB,oB,A4,p4,eb,hbB,hcB,htB⟩:=kid_cells HKB.out h2
    subst ea eb
    have HIHI:=Lib.hid fun W (hW:Below w.heap.size w W)=>HIH.out i h1 h2 W _ _ (htA.kept hW) (htB.kept hW)
    have HCKI:=Lib.hid (CK2.out i h1 h2 HT.out)
    have HTS:=Lib.hid (take_step h1 h2 HT.out)
    have HCA:=Lib.hid hcA
    have HCB:=Lib.hid hcB
    have i0:(0:Int)≤(i:Int):=by omega
    have i1:(i:Int) < (n:Int):=by omega
    have i2:(i:Int) < (m:Int):=by omega
    have q1:IntKind.i64.wrap ((i:Int)+1)=(i:Int)+1:=by rw [IntKind.wrap_i64];omega
    clear hcA hcB htA htB hla
    generalize cb (printL ks[i]) (printL ks'[i])=z at *
    generalize ks[i].kids.length=n3 at *
    generalize ks[i].op=o3 at *
    generalize ks[i].col=c3 at *
    generalize ks[i].cell=b3 at *
    generalize ks'[i].kids.length=n4 at *
    generalize ks'[i].op=o4 at *
    generalize ks'[i].col=c4 at *
    generalize ks'[i].cell=b4 at *
    clear h1 h2
    go_wp2_with fail
    refine wp_region_calm (offC wr) (fun _=>false) (fun _=>false) anyE false (by kernel_rfl) (by kernel_rfl) (by kernel_rfl) (by kernel_rfl) (by intro m hm;revert hm;simp;try omega) (offC_stable _) (offC_start _) ?_
    refine calm_fixA rfl rfl ?_
    apply Exists.intro
    refine ⟨fun a wz hc hk hf K hK=>?_,?_⟩
    ·have h2:=hk 2 (by kernel_rfl)
     clear hk hf hc
     go_simp
     exact hK _ _ (Below.refl _ _) rfl
    refine calm_fixA rfl rfl ?_
    apply Exists.intro
    refine ⟨fun a wz hc hk hf K hK=>?_,?_⟩
    ·have hb:Below wr.heap.size wr wz:=hc rfl
     have h22:=held_isV hf 0 rfl (by kernel_rfl)
     clear hk hf hc
     obtain ⟨x0,x1,x2,x3,-⟩:=(HXA.out.later hb).cells
     obtain ⟨y0,y1,y2,y3,-⟩:=(HXB.out.later hb).cells
     obtain ⟨k0,k1,k2,k3⟩:=HCA.out.kept hbA (HB.out.trans (hb.mono HB.out.size))
     obtain ⟨l0,l1,l2,l3⟩:=HCB.out.kept hbB (HB.out.trans (hb.mono HB.out.size))
     go_simp
     exact hK _ _ (Below.refl _ _) rfl
    refine calm_fixA rfl rfl ?_
    apply Exists.intro
    refine ⟨fun a wz hc hk hf K hK=>?_,?_⟩
    ·have h6:=hk 6 (by kernel_rfl)
     clear hk hf hc
     go_simp
     exact hK _ _ (Below.refl _ _) rfl
    refine calm_fixA rfl rfl ?_
    apply Exists.intro
    refine ⟨fun a wz hc hk hf K hK=>?_,?_⟩
    ·have h23:=held_isV hf 1 rfl (by kernel_rfl)
     have h24:=held_isV hf 0 rfl (by kernel_rfl)
     clear hk hf hc
     go_simp
     exact hK _ _ (Below.refl _ _) rfl
    refine calm_fixA rfl rfl ?_
    apply Exists.intro
    refine ⟨fun a wz hc hk hf K hK=>?_,?_⟩
    ·have hb:Below wr.heap.size wr wz:=hc rfl
     have h25:=held_isV hf 0 rfl (by kernel_rfl)
     clear hk hf hc
     obtain ⟨x0,x1,x2,x3,-⟩:=(HXA.out.later hb).cells
     obtain ⟨y0,y1,y2,y3,-⟩:=(HXB.out.later hb).cells
     obtain ⟨k0,k1,k2,k3⟩:=HCA.out.kept hbA (HB.out.trans (hb.mono HB.out.size))
     obtain ⟨l0,l1,l2,l3⟩:=HCB.out.kept hbB (HB.out.trans (hb.mono HB.out.size))
     go_simp
     exact hK _ _ (Below.refl _ _) rfl
    refine calm_fixA rfl rfl ?_
    apply Exists.intro
    refine ⟨fun a wz hc hk hf K hK=>?_,?_⟩
    ·have h3:=hk 3 (by kernel_rfl)
     clear hk hf hc
     go_simp
     exact hK _ _ (Below.refl _ _) rfl
    refine calm_fixA rfl rfl ?_
    apply Exists.intro
    refine ⟨fun a wz hc hk hf K hK=>?_,?_⟩
    ·have hb:Below wr.heap.size wr wz:=hc rfl
     have h27:=held_isV hf 0 rfl (by kernel_rfl)
     clear hk hf hc
     obtain ⟨x0,x1,x2,x3,-⟩:=(HXA.out.later hb).cells
     obtain ⟨y0,y1,y2,y3,-⟩:=(HXB.out.later hb).cells
     obtain ⟨k0,k1,k2,k3⟩:=HCA.out.kept hbA (HB.out.trans (hb.mono HB.out.size))
     obtain ⟨l0,l1,l2,l3⟩:=HCB.out.kept hbB (HB.out.trans (hb.mono HB.out.size))
     go_simp
     exact hK _ _ (Below.refl _ _) rfl
    refine calm_fixA rfl rfl ?_
    apply Exists.intro
    refine ⟨fun a wz hc hk hf K hK=>?_,?_⟩
    ·have h6:=hk 6 (by kernel_rfl)
     clear hk hf hc
     go_simp
     exact hK _ _ (Below.refl _ _) rfl
    refine calm_fixA rfl rfl ?_
    apply Exists.intro
    refine ⟨fun a wz hc hk hf K hK=>?_,?_⟩
    ·have h28:=held_isV hf 1 rfl (by kernel_rfl)
     have h29:=held_isV hf 0 rfl (by kernel_rfl)
     clear hk hf hc
     go_simp
     exact hK _ _ (Below.refl _ _) rfl
    refine calm_fixA rfl rfl ?_
    apply Exists.intro
    refine ⟨fun a wz hc hk hf K hK=>?_,?_⟩
    ·have hb:Below wr.heap.size wr wz:=hc rfl
     have h30:=held_isV hf 0 rfl (by kernel_rfl)
     clear hk hf hc
     obtain ⟨x0,x1,x2,x3,-⟩:=(HXA.out.later hb).cells
     obtain ⟨y0,y1,y2,y3,-⟩:=(HXB.out.later hb).cells
     obtain ⟨k0,k1,k2,k3⟩:=HCA.out.kept hbA (HB.out.trans (hb.mono HB.out.size))
     obtain ⟨l0,l1,l2,l3⟩:=HCB.out.kept hbB (HB.out.trans (hb.mono HB.out.size))
     go_simp
     exact hK _ _ (Below.refl _ _) rfl
    refine calm_fixA rfl rfl ?_
    apply Exists.intro
    refine ⟨fun a wz hc hk hf K hK=>?_,?_⟩
    ·have hb:Below wr.heap.size wr wz:=hc rfl
     have h26:=held_isV hf 5 rfl (by kernel_rfl)
     have h31:=held_isV hf 0 rfl (by kernel_rfl)
     clear hk hf hc
     go_simp
     refine Calls.mono (HIHI.out wz (HB.out.trans (hb.mono HB.out.size))) ?_
     rintro e w1 ⟨rfl,hq⟩
     exact hK _ _ hq rfl
    refine calm_fixA rfl rfl ?_
    apply Exists.intro
    refine ⟨fun a wz hc hk hf K hK=>?_,?_⟩
    ·have h32:=held_isV hf 0 rfl (by kernel_rfl)
     clear hk hf hc
     go_simp
     exact hK _ _ (Below.refl _ _) rfl
    refine calm_nil ?_
    refine ⟨keeps_none,?_⟩
    intro w3 hc
    simp only [lexL,calmEnd]
    rintro _ rfl _ rfl _ rfl _ rfl _ rfl _ rfl _ rfl _ rfl _ rfl _ rfl _ rfl _ rfl
    have hq:Below wr.heap.size wr w3:=hc rfl
    have HXAn:=Lib.hid (HXA.out.later hq)
    have HXBn:=Lib.hid (HXB.out.later hq)
    have HBn:=Lib.hid (HB.out.trans (hq.mono HB.out.size))
    clear hc hq HXA HXB HB
    have HXA:=HXAn
    have HXB:=HXBn
    have HB:=HBn
    clear HXAn HXBn HBn
    simp only [Act.put,List.setIfInBounds_toArray,List.set_cons_zero,List.set_cons_succ]
    by_cases h0:z=0
    ·subst h0
     have HTN:=Lib.hid (HTS.out rfl)
     clear HTS HCKI
     go_wp2
     go_roundw
     case rel=>have hla:=HLA.out;exact ⟨i+1,hlt,by go_num,HTN.out,HXA.out,HXB.out,HB.out⟩
     case measure=>have hla:=HLA.out;simp [intOf];omega
    ·have HRES:Hid (res=z):=HCKI.out h0
     have dz:(z==0)=false:=by simp [h0]
     clear HTS HCKI
     go_wp2
     go_ret
     exact ⟨ret_int HRES.out.symm,HB.out⟩
   ·obtain rfl:i=n:=by omega
    have HRES:Hid (res=0):=CS2.out (by
     have h1:=HT.out
     rw [List.take_of_length_le (by rw [HNM.out.1];exact Nat.le_refl _),List.take_of_length_le (by rw [HNM.out.2,HMN.out];exact Nat.le_refl _)] at h1
     exact h1)
    go_wp2
    go_ret
    exact ⟨ret_int HRES.out.symm,HB.out⟩
 ·have HRES:Hid (res=z):=CH.out h0
  have dz:(z==0)=false:=by simp [h0]
  clear CH HK CK CS
  go_wp2
  go_ret
  exact ⟨ret_int HRES.out.symm,HB.out⟩
end Go.Proofs.Ytnkhkkdmjabhnaa
