/- The answer's Parts: what a condition asks at once. -/
import Derived.Test.YtnkhkkdmjabhnaaGZNormPartsOwn
import Derived.Test.YtnkhkkdmjabhnaaGZNormPutRef
namespace Go.Proofs.Ytnkhkkdmjabhnaa
open Go Go.RowKit
theorem sm_leaves:∀ t,Sm17 t→∀ x∈leavesT t,Sm17 x:=by
 intro t
 induction t using Trm.ind with
 | h t ih =>
  intro hs x hx
  rw [leaves_eq] at hx
  split at hx
  ·obtain ⟨l,hl,hxl⟩:=List.mem_flatten.1 hx
   obtain ⟨k,hk,rfl⟩:=List.mem_map.1 hl
   exact ih k hk (hs.kid hk) x hxl
  ·split at hx
   ·exact absurd hx (by simp)
   ·rw [List.mem_singleton.1 hx];exact hs
theorem sm_parts {t x:Trm}(hs:Sm17 t)(h:x∈partsT t):Sm17 x:=sm_leaves t hs x (parts_leaf h)
theorem parts_le (t:Trm):(partsT t).length≤(leavesT t).length:=by
 have:=(fold_length (leavesT t) []).2
 simpa [partsT] using this
theorem foldl_take (l:List Trm)(s:List Trm)(k:Nat)(h:k < l.length):(l.take (k+1)).foldl insT s=insT ((l.take k).foldl insT s) l[k]:=by
 rw [List.take_add_one,List.getElem?_eq_getElem h,List.foldl_append]
 rfl
theorem mem_fold_take {l s:List Trm}{k:Nat}{x:Trm}(h:x∈(l.take k).foldl insT s):x∈s∨x∈l:=by
 have key:∀ (l s:List Trm),x∈l.foldl insT s→x∈s∨x∈l:=by
  intro l
  induction l with
  | nil=>intro s h;exact .inl h
  | cons y l ih =>
   intro s h
   rcases ih _ h with h|h
   ·rcases mem_insT h with h|h
    ·exact .inl h
    ·exact .inr (by rw [h];exact List.mem_cons_self)
   ·exact .inr (List.mem_cons_of_mem _ h)
 rcases key _ _ h with h|h
 ·exact .inl h
 ·exact .inr (List.mem_of_mem_take h)
def RPartsAt (t:Trm):Prop:=Sm17 t→∀ (w:World)(v:Value),TermIn w v t→Calls Try.prog 14 #[v] w (PutEnd w (partsT t))
set_option maxHeartbeats 8000000 in
set_option maxRecDepth 100000 in
theorem ref_parts_at (t:Trm):RPartsAt t:=by
 refine Trm.ind (P:=RPartsAt) (fun t ih=>?_) t
 intro hs w v ht
 have HIH:Hid (∀ k (hk:k∈t.kids),∀ (w:World) (v:Value),TermIn w v k→Calls Try.prog 14 #[v] w (PutEnd w (partsT k))):=fun k hk=>ih k hk (hs.kid hk)
 have HT:=Lib.hid ht
 have HSM:=Lib.hid hs
 have HLE:Hid ((leavesT t).length≤1000000000):=Nat.le_trans (leaves_le t) hs.parts.2.2.2.1
 have HPO:=Lib.hid fun (h:¬(t.op=38∧t.kids.length=2))=>parts_other h
 have HKL:=hs.parts.2.2.1
 obtain ⟨op,col,cell,ks⟩:=t
 obtain ⟨kv,rfl,ho,hk⟩:=ht
 dsimp only [trmA,Trm.op,Trm.col,Trm.cell,Trm.kids] at *
 obtain ⟨A,cap,rfl,-⟩:=kids_at hk
 have HK:=Lib.hid hk
 have HKS:=Lib.hid hs
 obtain ⟨n,hn⟩:∃ n,ks.length=n:=⟨_,rfl⟩
 have HN:Hid (ks.length=n):=hn
 rw [hn] at HT HK HPO ⊢
 clear ho hk hs ih hn HKL
 have ha1:=Below.alloc (.refl w.heap.size w) (Nat.le_refl _) (.cells #[.int .u8 op,.int .i64 col,.string cell,.slice A n cap] 24)
 have hx:=trmbox_lit w 24 op col cell (.slice A n cap)
 have HX:=Lib.hid hx
 have HB:=Lib.hid ha1
 obtain ⟨c0,c1,c2,c3,-⟩:=HX.out.cells
 clear ha1 hx
 unfold PutEnd
 by_cases h2:op=38∧n=2
 ·obtain ⟨rfl,rfl⟩:=h2
  have hl2:=HN.out
  match hks:ks,hl2 with
  | [ka,kb],_ =>
   have HPV:Hid (partsT (.mk 38 col cell [ka,kb])=(partsT kb).foldl insT (partsT ka)):=parts_and _ _ _ _
   rw [HPV.out]
   obtain ⟨bA,oA,aA,ap,ea,hbA,hcA,htA⟩:=kid_cells HK.out (i:=0) (by simp)
   obtain ⟨bB,oB,bbA,bp,eb,hbB,hcB,htB⟩:=kid_cells HK.out (i:=1) (by simp)
   subst ea
   simp only [Option.some.injEq,Addr.mk.injEq,and_true] at eb
   obtain ⟨rfl,rfl⟩:=eb
   simp only [List.getElem_cons_zero,List.getElem_cons_succ,Nat.zero_mul,Nat.add_zero,Nat.one_mul] at hcA hcB htA htB
   have HCA:=Lib.hid hcA
   have HCB:=Lib.hid hcB
   have HIA:=Lib.hid fun W (hW:Below w.heap.size w W)=>HIH.out ka (by simp) W _ (htA.kept hW)
   have HIB:=Lib.hid fun W (hW:Below w.heap.size w W)=>HIH.out kb (by simp) W _ (htB.kept hW)
   have HSA:=Lib.hid fun x (hx:x∈partsT ka)=>sm_parts (HSM.out.kid (k:=ka) (by simp [Trm.kids])) hx
   have HSB:=Lib.hid fun x (hx:x∈partsT kb)=>sm_parts (HSM.out.kid (k:=kb) (by simp [Trm.kids])) hx
   have HLL:Hid ((partsT ka).length+(partsT kb).length≤1000000000):=by
    have h:=HLE.out
    rw [leaves_and,List.length_append] at h
    have:=parts_le ka
    have:=parts_le kb
    show _≤_
    omega
   clear hcA hcB htA htB HIH HPO HPV HK HT HSM HKS HLE HN hl2 hks
   generalize partsT ka=pa at *
   generalize partsT kb=pb at *
   generalize ka.kids.length=an at *
   generalize ka.op=ao at *
   generalize ka.col=ac at *
   generalize ka.cell=ab at *
   generalize kb.kids.length=bn at *
   generalize kb.op=bo at *
   generalize kb.col=bc at *
   generalize kb.cell=bb at *
   obtain ⟨k0,kk1,k2,k3⟩:=HCA.out.kept hbA HB.out
   go_enter Try.func14,Try.ntmps14
   go_wp2_with fail
   generalize World.alloc w _=w1 at *
   clear c0 c1 c2 c3 k0 kk1 k2 k3
   refine (HIA.out w1 HB.out).mono ?_
   rintro e w2 ⟨u2,rfl,hk2,hb2⟩
   have HB2:=Lib.hid (HB.out.trans (hb2.mono HB.out.size))
   have HX2:=Lib.hid (HX.out.later hb2)
   have HKA:=Lib.hid hk2
   obtain ⟨A2,p2,e2,-⟩:=kids_at hk2
   subst e2
   obtain ⟨k0,kk1,k2,k3⟩:=HCB.out.kept hbB HB2.out
   obtain ⟨c0,c1,c2,c3,-⟩:=HX2.out.cells
   clear hk2 hb2 HB HX HIA HCA
   go_wp2_with fail
   clear c0 c1 c2 c3 k0 kk1 k2 k3
   refine (HIB.out w2 HB2.out).mono ?_
   rintro e w3 ⟨u3,rfl,hk3,hb3⟩
   have HB3:=Lib.hid (HB2.out.trans (hb3.mono HB2.out.size))
   have HKA3:=Lib.hid (HKA.out.kept hb3)
   have HKB:=Lib.hid hk3
   obtain ⟨A3,p3,e3,-⟩:=kids_at hk3
   subst e3
   clear hk3 hb3 HB2 HX2 HIB HCB HKA
   obtain ⟨m,hm⟩:∃ m,pb.length=m:=⟨_,rfl⟩
   have HM:Hid (pb.length=m):=hm
   rw [hm] at HKB HLL ⊢
   clear hm
   have HBL:=Lib.hid hbA
   go_wp2
   go_loopw [3,5] (fun kx ix wr=>∃ (i:Nat) (kl:Value),ix=.int .i64 i∧kx=kl∧i≤m∧Hid (KidsIn wr kl ((pb.take i).foldl insT pa))∧Hid (Below w3.heap.size w3 wr)) (fun _ ix _=>m-(intOf ix).toNat)
   case atStart=>exact ⟨0,_,rfl,rfl,Nat.zero_le _,HKA3,Lib.hid (Below.refl _ _)⟩
   case round =>
    clear HKA3
    obtain ⟨i,kl,rfl,ek,him,HKL,HBR⟩:=hrel
    rw [ek]
    clear ek
    have hmm:pa.length+m≤1000000000:=HLL.out
    by_cases hlt:i < m
    ·have hil:i < pb.length:=by rw [HM.out];exact hlt
     obtain ⟨b,o,Ak,pk,ea,hb,hc,htk⟩:=kid_cells HKB.out hil
     subst ea
     obtain ⟨Al,pl,el,-⟩:=kids_at HKL.out
     have hll:((pb.take i).foldl insT pa).length≤1000000000:=by
      have h:=(fold_length (pb.take i) pa).2
      rw [List.length_take] at h
      omega
     have HPU:=Lib.hid (ref_put_calls HKL.out (htk.kept HBR.out) (fun x hx=>(mem_fold_take hx).elim (HSA.out x) (HSB.out x)) (HSB.out _ (List.getElem_mem hil)) hll)
     rw [←foldl_take pb pa i hil] at HPU
     obtain ⟨k0,kk1,k2,k3⟩:=hc.kept hb HBR.out
     have i1:(i:Int) < (m:Int):=by omega
     have q1:IntKind.i64.wrap ((i:Int)+1)=(i:Int)+1:=by rw [IntKind.wrap_i64];omega
     have HLT:Hid (i < m):=hlt
     subst el
     clear hc htk hlt him hmm hll
     generalize ((pb.take i).foldl insT pa).length=ln at *
     generalize pb[i].kids.length=n3 at *
     generalize pb[i].op=o9 at *
     generalize pb[i].col=cc3 at *
     generalize pb[i].cell=b3 at *
     clear hil
     go_wp2_with fail
     refine HPU.out.mono ?_
     rintro e w5 ⟨u5,rfl,hk5,hb5⟩
     have HK5:=Lib.hid hk5
     have HB5:=Lib.hid (HBR.out.trans (hb5.mono HBR.out.size))
     obtain ⟨A5,p5,e5,-⟩:=kids_at hk5
     subst e5
     clear hk5 hb5 HPU HKL HBR k0 kk1 k2 k3
     generalize ((pb.take (i+1)).foldl insT pa).length=l5 at *
     go_wp2
     go_roundw
     case rel=>exact ⟨i+1,_,by go_num,rfl,HLT.out,HK5,HB5⟩
     case measure=>have:=HLT.out;simp [intOf];omega
    ·obtain rfl:i=m:=by omega
     have HR:Hid (KidsIn wr kl (pb.foldl insT pa)):=by
      have h:=HKL.out
      rw [List.take_of_length_le (by rw [HM.out];exact Nat.le_refl _)] at h
      exact h
     have HBZ:=Lib.hid (HB3.out.trans (HBR.out.mono HB3.out.size))
     obtain ⟨Al,pl,el,-⟩:=kids_at HR.out
     subst el
     have i1:¬(i:Int) < (i:Int):=by omega
     clear HKL HBR hlt him
     generalize (pb.foldl insT pa).length=ln at *
     go_wp2
     go_ret
     exact ⟨_,rfl,HR.out,HBZ.out⟩
 ·have HPV:Hid (partsT (.mk op col cell ks)=if printL (.mk op col cell ks)=trueL then [] else [.mk op col cell ks]):=HPO.out h2
  by_cases h38:op=38
  ·have hn2:¬n=2:=fun e=>h2 ⟨h38,e⟩
   have d38:(op==38)=true:=by simp [h38]
   have d2:((n:Int)==2)=false:=by
    rw [beq_eq_false_iff_ne];omega
   clear h2 hn2 HIH HPO
   have hop:=h38
   subst h38
   clear d38
   go_enter Try.func14,Try.ntmps14
   go_wp2_with fail
   generalize World.alloc w _=w1 at *
   clear c0 c1 c2 c3
   refine (ref_nprint_calls (HT.out.kept HB.out) HSM.out).stepB (w0:=w1) (B:=w1.heap.size) (.refl _ _) (Nat.le_refl _) ?_
   intro w3 _ _ hq
   have HX3:=Lib.hid (HX.out.later hq)
   have HB3:=Lib.hid (HB.out.trans (hq.mono HB.out.size))
   clear hq HX HB
   go_wp2_with fail
   refine (ref_true_gives w3).stepB (w0:=w3) (B:=w3.heap.size) (.refl _ _) (Nat.le_refl _) ?_
   intro w4 _ _ hq
   have HX4:=Lib.hid (HX3.out.later hq)
   have HB4:=Lib.hid (HB3.out.trans (hq.mono HB3.out.size))
   clear hq HX3 HB3
   go_wp2_with fail
   refine (ref_nprint_calls (true_in w4) sm17_true).stepB (w0:=w4) (B:=w4.heap.size) (.refl _ _) (Nat.le_refl _) ?_
   intro w2 _ _ hq
   have HX2:=Lib.hid (HX4.out.later hq)
   have HB2:=Lib.hid (HB4.out.trans (hq.mono HB4.out.size))
   clear hq HX4 HB4
   by_cases hp:printL (.mk 38 col cell ks)=trueL
   ·have d1:((mkB (printL (.mk 38 col cell ks))).toList==(mkB (printL trueT)).toList)=true:=by
     rw [hp]
     exact beq_self_eq_true _
    have HRES:Hid (KidsIn w2 (.slice none 0 0) (partsT (.mk 38 col cell ks))):=by
     rw [HPV.out,if_pos hp]
     exact KidsIn.nil_ _ _ _
    clear hp
    generalize mkB (printL (.mk 38 col cell ks))=pb at *
    go_wp2
    go_ret
    exact ⟨_,rfl,HRES.out,HB2.out⟩
   ·have d1:((mkB (printL (.mk 38 col cell ks))).toList==(mkB (printL trueT)).toList)=false:=by
     rw [beq_eq_false_iff_ne]
     intro e
     rw [ByteArray.toList_eq,ByteArray.toList_eq] at e
     exact hp e
    rw [if_neg hp] at HPV
    have HPU:=Lib.hid (ref_put_calls (KidsIn.nil_ w2 none 0) (HT.out.kept HB2.out) (fun x hx=>absurd hx (by simp)) HSM.out (by simp))
    clear hp
    generalize mkB (printL (.mk 38 col cell ks))=pb at *
    obtain ⟨c0,c1,c2,c3,-⟩:=HX2.out.cells
    go_wp2_with fail
    refine HPU.out.mono ?_
    rintro e w5 ⟨u5,rfl,hk5,hb5⟩
    have HK5:=Lib.hid hk5
    have HB5:=Lib.hid (HB2.out.trans (hb5.mono HB2.out.size))
    obtain ⟨A5,p5,e5,-⟩:=kids_at hk5
    subst e5
    clear hk5 hb5 HPU c0 c1 c2 c3
    go_wp2
    go_ret
    exact ⟨_,rfl,by rw [HPV.out];exact HK5.out,HB5.out⟩
  ·have d38:(op==38)=false:=by simp [h38]
   clear h2 h38 HIH HPO
   go_enter Try.func14,Try.ntmps14
   go_wp2_with fail
   generalize World.alloc w _=w1 at *
   clear c0 c1 c2 c3
   refine (ref_nprint_calls (HT.out.kept HB.out) HSM.out).stepB (w0:=w1) (B:=w1.heap.size) (.refl _ _) (Nat.le_refl _) ?_
   intro w3 _ _ hq
   have HX3:=Lib.hid (HX.out.later hq)
   have HB3:=Lib.hid (HB.out.trans (hq.mono HB.out.size))
   clear hq HX HB
   go_wp2_with fail
   refine (ref_true_gives w3).stepB (w0:=w3) (B:=w3.heap.size) (.refl _ _) (Nat.le_refl _) ?_
   intro w4 _ _ hq
   have HX4:=Lib.hid (HX3.out.later hq)
   have HB4:=Lib.hid (HB3.out.trans (hq.mono HB3.out.size))
   clear hq HX3 HB3
   go_wp2_with fail
   refine (ref_nprint_calls (true_in w4) sm17_true).stepB (w0:=w4) (B:=w4.heap.size) (.refl _ _) (Nat.le_refl _) ?_
   intro w2 _ _ hq
   have HX2:=Lib.hid (HX4.out.later hq)
   have HB2:=Lib.hid (HB4.out.trans (hq.mono HB4.out.size))
   clear hq HX4 HB4
   by_cases hp:printL (.mk op col cell ks)=trueL
   ·have d1:((mkB (printL (.mk op col cell ks))).toList==(mkB (printL trueT)).toList)=true:=by
     rw [hp]
     exact beq_self_eq_true _
    have HRES:Hid (KidsIn w2 (.slice none 0 0) (partsT (.mk op col cell ks))):=by
     rw [HPV.out,if_pos hp]
     exact KidsIn.nil_ _ _ _
    clear hp
    generalize mkB (printL (.mk op col cell ks))=pb at *
    go_wp2
    go_ret
    exact ⟨_,rfl,HRES.out,HB2.out⟩
   ·have d1:((mkB (printL (.mk op col cell ks))).toList==(mkB (printL trueT)).toList)=false:=by
     rw [beq_eq_false_iff_ne]
     intro e
     rw [ByteArray.toList_eq,ByteArray.toList_eq] at e
     exact hp e
    rw [if_neg hp] at HPV
    have HPU:=Lib.hid (ref_put_calls (KidsIn.nil_ w2 none 0) (HT.out.kept HB2.out) (fun x hx=>absurd hx (by simp)) HSM.out (by simp))
    clear hp
    generalize mkB (printL (.mk op col cell ks))=pb at *
    obtain ⟨c0,c1,c2,c3,-⟩:=HX2.out.cells
    go_wp2_with fail
    refine HPU.out.mono ?_
    rintro e w5 ⟨u5,rfl,hk5,hb5⟩
    have HK5:=Lib.hid hk5
    have HB5:=Lib.hid (HB2.out.trans (hb5.mono HB2.out.size))
    obtain ⟨A5,p5,e5,-⟩:=kids_at hk5
    subst e5
    clear hk5 hb5 HPU c0 c1 c2 c3
    go_wp2
    go_ret
    exact ⟨_,rfl,by rw [HPV.out];exact HK5.out,HB5.out⟩
theorem ref_parts_calls {w:World}{v:Value}{t:Trm}(ht:TermIn w v t)(hs:Sm17 t):Calls Try.prog 14 #[v] w (PutEnd w (partsT t)):=ref_parts_at t hs w v ht
end Go.Proofs.Ytnkhkkdmjabhnaa
