/- The answer's put: a term among others, by their bytes, each once. -/
import Derived.Test.YtnkhkkdmjabhnaaGCalmM
import Derived.Test.YtnkhkkdmjabhnaaGZNormPrintRef
namespace Go.Proofs.Ytnkhkkdmjabhnaa
open Go Go.RowKit
theorem ins_at:∀ (l:List Trm)(t:Trm)(k:Nat),k≤l.length→(∀ j (h:j < l.length),j < k→ltP l[j] t=true)→(∀ h:k < l.length,ltP l[k] t=false) →
  insT l t=if ∃ h:k < l.length,printL l[k]=printL t then l else l.take k++[t]++l.drop k
 | [],t,k,hk,_,_=>by
  obtain rfl:k=0:=by simpa using hk
  rw [if_neg (by rintro ⟨h,_⟩;simp at h)]
  rfl
 | x::l,t,0,_,_,h2=>by
  have h:=h2 (by simp)
  rw [List.getElem_cons_zero] at h
  unfold insT
  rw [if_neg (by rw [h];decide)]
  by_cases e:printL x=printL t
  ·rw [if_pos e,if_pos ⟨by simp,e⟩]
  ·rw [if_neg e,if_neg (by rintro ⟨_,h⟩;exact e h)]
   rfl
 | x::l,t,k+1,hk,h1,h2=>by
  have h0:=h1 0 (by simp) (by omega)
  rw [List.getElem_cons_zero] at h0
  have ih:=ins_at l t k (by simpa using hk) (fun j h hj=>by have:=h1 (j+1) (by simpa using h) (by omega);simpa using this) (fun h=>by have:=h2 (by simpa using h);simpa using this)
  unfold insT
  rw [if_pos h0,ih]
  by_cases e:∃ h:k < l.length,printL l[k]=printL t
  ·obtain ⟨h,e⟩:=e
   rw [if_pos ⟨h,e⟩,if_pos ⟨by simpa using h,by simpa using e⟩]
  ·rw [if_neg e,if_neg (by rintro ⟨h,e2⟩;exact e ⟨by simpa using h,by simpa using e2⟩)]
   rfl
theorem terms_from (W:World)(A:Option Addr)(n cap k:Nat)(hk:k≤n):(Instr.sliceAt 22 (.slice A n cap) (some (.int .i64 k)) none none).run Try.prog W=.ok (.slice (if cap=k then A else A.map (·.add (k*4))) (n-k) (cap-k)) W:=by
 have hu:Try.prog.underlying 22=some (.slice (Try.prog.elem 22)):=by kernel_rfl
 have he:Try.prog.elem 22=24:=by kernel_rfl
 rw [run_sliceAt_slice _ _ _ _ _ _ hu,run_slice_l _ _ _ _ _ hu _ _ (by omega) (by omega),he,Try.sizeOf24]
 simp [Result.andThen,sliced]
theorem terms_to (W:World)(A:Option Addr)(n cap k:Nat)(hk:k≤cap):(Instr.sliceAt 22 (.slice A n cap) none (some (.int .i64 k)) none).run Try.prog W=.ok (.slice A k cap) W:=by
 have hu:Try.prog.underlying 22=some (.slice (Try.prog.elem 22)):=by kernel_rfl
 have he:Try.prog.elem 22=24:=by kernel_rfl
 rw [run_sliceAt_slice _ _ _ _ _ _ hu,run_slice_h _ _ _ _ _ hu _ _ (by omega) (by omega),he,Try.sizeOf24]
 have e:∀ a:Addr,a.add 0=a:=fun a=>by unfold Addr.add;simp
 cases A <;> simp [Result.andThen,sliced,e]
theorem trmsV_take (tv:List (Value×Trm))(k:Nat):trmsV (tv.take k)=(trmsV tv).take (k*4):=by
 induction tv generalizing k with
 | nil=>simp [trmsV]
 | cons t tv ih =>
  cases k with
  | zero=>simp [trmsV]
  | succ k =>
   rw [List.take_succ_cons,trmsV_cons,trmsV_cons,ih,show (k+1)*4=k*4+1+1+1+1 by omega]
   rfl
theorem trmsV_drop (tv:List (Value×Trm))(k:Nat):trmsV (tv.drop k)=(trmsV tv).drop (k*4):=by
 induction tv generalizing k with
 | nil=>simp [trmsV]
 | cons t tv ih =>
  cases k with
  | zero=>simp [trmsV]
  | succ k =>
   rw [List.drop_succ_cons,trmsV_cons,ih,show (k+1)*4=k*4+1+1+1+1 by omega]
   rfl
theorem slice_head {w:World}{A:Option Addr}{n cap k:Nat}{tv:List (Value×Trm)}(h:SliceOf w 4 (.slice A n cap) n (trmsV tv))(hk:k≤n):SliceOf w 4 (.slice A k cap) k (trmsV (tv.take k)):=by
 obtain ⟨h1,h2,A',c',e,hr,h4⟩:=h
 simp only [Value.slice.injEq,true_and] at e
 obtain ⟨rfl,rfl⟩:=e
 rw [trmsV_length] at h1
 refine ⟨by rw [trmsV_length,List.length_take];omega,by omega,A,cap,rfl,by omega,fun h5=>?_⟩
 obtain ⟨b,o,e2,hb,hc⟩:=h4 (by omega)
 refine ⟨b,o,e2,hb,fun j u hu=>?_⟩
 rw [trmsV_take,List.getElem?_take] at hu
 split at hu
 ·exact hc j u hu
 ·exact absurd hu (by simp)
theorem slice_tail {w:World}{A:Option Addr}{n cap k:Nat}{tv:List (Value×Trm)}(h:SliceOf w 4 (.slice A n cap) n (trmsV tv))(hk:k≤n):SliceOf w 4 (.slice (if cap=k then A else A.map (·.add (k*4))) (n-k) (cap-k)) (n-k) (trmsV (tv.drop k)):=by
 obtain ⟨h1,h2,A',c',e,hr,h4⟩:=h
 simp only [Value.slice.injEq,true_and] at e
 obtain ⟨rfl,rfl⟩:=e
 rw [trmsV_length] at h1
 refine ⟨by rw [trmsV_length,List.length_drop];omega,by omega,_,cap-k,rfl,by omega,fun h5=>?_⟩
 obtain ⟨b,o,rfl,hb,hc⟩:=h4 (by omega)
 refine ⟨b,o+k*4,by rw [if_neg (by omega)];simp [Addr.add],hb,fun j u hu=>?_⟩
 rw [trmsV_drop,List.getElem?_drop] at hu
 rw [Nat.add_assoc]
 exact hc _ u hu
def OwnT (B n:Nat)(xs:List Value):Value→World→Prop:=fun v w=>Own w B 4 v n xs
theorem OwnT.kept {B n:Nat}{xs:List Value}:∀ (v:Value)(w w':World),Below w.heap.size w w'→OwnT B n xs v w→OwnT B n xs v w':=fun _ _ _ hb h=>Own.later h hb
def EmptyT (B:Nat):Value→World→Prop:=fun v w=>∃ N,v=.slice (some ⟨N,0,none⟩) 0 0∧Own w B 4 v 0 []∧N < w.heap.size∧∀ o,w.cell? ⟨N,o,none⟩=none
theorem EmptyT.kept {B:Nat}:∀ (v:Value)(w w':World),Below w.heap.size w w'→EmptyT B v w→EmptyT B v w':=fun v w w' hb ⟨N,e,h1,h2,h3⟩=>⟨N,e,h1.later hb,Nat.lt_of_lt_of_le h2 hb.size,fun o=>by rw [←h3 o];exact hb.cell (p:=⟨N,o,none⟩) h2⟩
def LitT (t:Value×Trm):Value→World→Prop:=fun v w=>SliceOf w 4 v 1 (trmC t)
theorem LitT.kept {t:Value×Trm}:∀ (v:Value)(w w':World),Below w.heap.size w w'→LitT t v w→LitT t v w':=fun _ _ _ hb h=>SliceOf.later h hb
theorem LitT.apart {t:Value×Trm}{v:Value}{w w':World}(h:LitT t v w)(he:∃ N,w.grownBy w' (some N)∧∀ o,w.cell? ⟨N,o,none⟩=none):LitT t v w':=by
 obtain ⟨N,hg,hz⟩:=he
 refine SliceOf.keepOwn h hg.size fun k hk hlt=>hg.block k hlt fun e=>?_
 cases e
 obtain ⟨A,c,e2,hat⟩:=h.at_
 obtain ⟨b,o,ea,_,hc⟩:=hat (by omega)
 rw [e2,ea] at hk
 simp only [Value.ownBlock,Option.some.injEq] at hk
 have h0:=hc 0 _ rfl
 rw [hk,hz] at h0
 cases h0
def PutEnd (w:World)(r:List Trm)(e:Ending)(w':World):Prop:=∃ u,e=.returned u∧KidsIn w' u r∧Below w.heap.size w w'
set_option maxHeartbeats 8000000 in
set_option maxRecDepth 100000 in
theorem ref_put_calls {w:World}{lv v:Value}{l:List Trm}{t:Trm}(hl:KidsIn w lv l)(ht:TermIn w v t)(hs:∀ x∈l,Sm17 x)(hst:Sm17 t)(hlen:l.length≤1000000000):Calls Try.prog 35 #[lv,v] w (PutEnd w (insT l t)):=by
 obtain ⟨i0,hi0,iz0,iz1,iz2⟩:=info_parts Try.infoCe24
 have HPT:=Lib.hid fun W (hW:Below w.heap.size w W)=>ref_nprint_calls (ht.kept hW) hst
 obtain ⟨tv,htv,-,hsl,hkids⟩:=hl.parts
 obtain ⟨A,cap,rfl,-⟩:=kids_at hl
 have hcap:l.length≤cap:=by
  obtain ⟨_,_,A',c',e,hr,_⟩:=hsl
  simp only [Value.slice.injEq] at e
  omega
 have HK:=Lib.hid hl
 have HS:=Lib.hid hs
 have HTV:=Lib.hid htv
 have HKD:=Lib.hid hkids
 have HT:=Lib.hid ht
 obtain ⟨n,hn⟩:∃ n,l.length=n:=⟨_,rfl⟩
 have HN:Hid (l.length=n):=hn
 rw [hn] at hsl hlen hcap HK ⊢
 have HSL:=Lib.hid hsl
 have HL:Hid (n≤1000000000∧n≤cap):=⟨hlen,hcap⟩
 obtain ⟨kv,rfl,hok,hk⟩:=ht
 obtain ⟨At,ct,rfl,-⟩:=kids_at hk
 have HKT:=Lib.hid hk
 have HOK:=Lib.hid hok
 dsimp only [trmA] at *
 clear hl hs htv hkids hn hsl hlen hcap hk hok hst
 have ha1:=Below.alloc (.refl w.heap.size w) (Nat.le_refl _) (.cells #[.int .u8 t.op,.int .i64 t.col,.string t.cell,.slice At t.kids.length ct] 24)
 have hx:=trmbox_lit w 24 t.op t.col t.cell (.slice At t.kids.length ct)
 have HX:=Lib.hid hx
 have HB:=Lib.hid ha1
 obtain ⟨c0,c1,c2,c3,-⟩:=HX.out.cells
 obtain ⟨PT,hPT⟩:∃ x,Hid (x=mkB (printL t)):=⟨_,rfl⟩
 rw [←hPT.out] at HPT
 clear ha1 hx
 unfold PutEnd
 go_enter Try.func35,Try.ntmps35
 go_wp2_with fail
 generalize World.alloc w _=w1 at *
 clear c0 c1 c2 c3
 refine (HPT.out w1 HB.out).stepB (w0:=w1) (B:=w1.heap.size) (.refl _ _) (Nat.le_refl _) ?_
 intro w2 _ _ hq
 have HX2:=Lib.hid (HX.out.later hq)
 have HB2:=Lib.hid (HB.out.trans (hq.mono HB.out.size))
 clear hq HX HB HPT
 go_wp2
 go_loopw [6] (fun kx wr=>∃ k:Nat,kx=.int .i64 k∧k≤n∧Hid (∀ j (h:j < l.length),j < k→ltP l[j] t=true)∧Hid (TrmBox wr w.heap.size t.op t.col t.cell (.slice At t.kids.length ct))∧Hid (Below w.heap.size w wr)) (fun kx _=>n-(intOf kx).toNat)
 case atStart=>exact ⟨0,rfl,Nat.zero_le _,(show Hid _ from fun j _ h=>absurd h (by omega)),HX2,HB2⟩
 case round =>
  clear HX2 HB2
  obtain ⟨k,rfl,hk,HLT,HX,HB⟩:=hrel
  have hnl:=HL.out.1
  have q1:IntKind.i64.wrap ((k:Int)+1)=(k:Int)+1:=by rw [IntKind.wrap_i64];omega
  by_cases hlt:k < n
  ·have hkl:k < l.length:=by rw [HN.out];exact hlt
   obtain ⟨b,o,Ak,pk,ea,hb,hc,htk⟩:=kid_cells HK.out hkl
   subst ea
   have HPK:=Lib.hid fun W (hW:Below w.heap.size w W)=>ref_nprint_calls (htk.kept hW) (HS.out _ (List.getElem_mem hkl))
   have HC:=Lib.hid hc
   have k1:(k:Int) < (n:Int):=by omega
   have HKN:Hid (k < n):=hlt
   have hls:Op.bytesLess (mkB (printL l[k])).toList PT.toList=ltP l[k] t:=by rw [hPT.out,ByteArray.toList_eq,ByteArray.toList_eq,mkB_data,mkB_data];rfl
   have HLE:=Lib.hid fun (h:ltP l[k] t=true) j (hj:j < l.length) (hjk:j < k+1)=>(show ltP l[j] t=true by
    by_cases e:j=k
    ·subst e;exact h
    ·exact HLT.out j hj (by omega))
   have HIN:=Lib.hid fun (h:ltP l[k] t=false)=>ins_at l t k (by omega) HLT.out (fun _=>h)
   have HEQ:Hid (((mkB (printL l[k])).toList==PT.toList)=true↔printL l[k]=printL t):=by
    rw [hPT.out,beq_iff_eq,ByteArray.toList_eq,ByteArray.toList_eq,mkB_data,mkB_data]
    exact Iff.rfl
   have HEX:Hid ((∃ h:k < l.length,printL l[k]=printL t)↔printL l[k]=printL t):=⟨fun ⟨_,e⟩=>e,fun e=>⟨hkl,e⟩⟩
   clear hc htk hlt hnl
   obtain ⟨PK,hPK⟩:∃ x,x=mkB (printL l[k]):=⟨_,rfl⟩
   rw [←hPK] at HPK hls HEQ
   clear hPK
   generalize l[k].kids.length=n3 at *
   generalize l[k].op=o3 at *
   generalize l[k].col=cc3 at *
   generalize l[k].cell=x3 at *
   obtain ⟨k0,kk1,k2,k3⟩:=HC.out.kept hb HB.out
   cases hlp:ltP l[k] t with
   | true =>
    have HLE2:=Lib.hid (HLE.out hlp)
    rw [hlp] at hls
    clear hlp HLE HIN HEQ HEX hkl
    go_wp2_with fail
    clear k0 kk1 k2 k3
    refine (HPK.out wr HB.out).stepB (w0:=wr) (B:=wr.heap.size) (.refl _ _) (Nat.le_refl _) ?_
    intro w5 _ _ hq
    have HX5:=Lib.hid (HX.out.later hq)
    have HB5:=Lib.hid (HB.out.trans (hq.mono HB.out.size))
    clear hq HX HB HPK
    go_wp2
    go_roundw
    case rel=>exact ⟨k+1,by go_num,HKN.out,HLE2,HX5,HB5⟩
    case measure=>have:=HKN.out;simp [intOf];omega
   | false =>
    have hin:=HIN.out hlp
    rw [hlp] at hls
    clear hlp HLE HIN
    go_wp2_with fail
    clear k0 kk1 k2 k3
    refine (HPK.out wr HB.out).stepB (w0:=wr) (B:=wr.heap.size) (.refl _ _) (Nat.le_refl _) ?_
    intro w5 _ _ hq
    have HX5:=Lib.hid (HX.out.later hq)
    have HB5:=Lib.hid (HB.out.trans (hq.mono HB.out.size))
    clear hq HX HB
    obtain ⟨k0,kk1,k2,k3⟩:=HC.out.kept hb HB5.out
    go_wp2_with fail
    clear k0 kk1 k2 k3
    refine (HPK.out w5 HB5.out).stepB (w0:=w5) (B:=w5.heap.size) (.refl _ _) (Nat.le_refl _) ?_
    intro w6 _ _ hq
    have HX:=Lib.hid (HX5.out.later hq)
    have HB:=Lib.hid (HB5.out.trans (hq.mono HB5.out.size))
    clear hq HX5 HB5 HPK
    by_cases he:printL l[k]=printL t
    ·rw [if_pos (HEX.out.2 he)] at hin
     have HIN:=Lib.hid hin
     have deq:(PK.toList==PT.toList)=true:=HEQ.out.2 he
     have hkk:=HK.out.kept HB.out
     have HKK:=Lib.hid hkk
     clear hin he HEQ HEX hkk hkl
     go_wp2
     go_ret
     exact ⟨_,rfl,by rw [HIN.out];exact HKK.out,HB.out⟩
    ·rw [if_neg fun h=>he (HEX.out.1 h)] at hin
     have HIN:=Lib.hid hin
     have deq:(PK.toList==PT.toList)=false:=by
      cases h:(PK.toList==PT.toList) with
      | false=>rfl
      | true=>exact absurd (HEQ.out.1 h) he
     clear hin he HEQ HEX hkl hls
     go_wp2_with fail
     clear deq k1
     have hkn9:k≤n:=Nat.le_of_lt HKN.out
     have hlc9:=HL.out
     have hto:∀ W',(Instr.sliceAt 22 (.slice (some ⟨b,o,none⟩:Option Addr) n cap) none (some (.int .i64 k)) none).run Try.prog W'=.ok (.slice (some ⟨b,o,none⟩:Option Addr) k cap) W':=fun W'=>terms_to W' _ n cap k (by omega)
     have hfr:∀ W',(Instr.sliceAt 22 (.slice (some ⟨b,o,none⟩:Option Addr) n cap) (some (.int .i64 k)) none none).run Try.prog W'=.ok (.slice (if cap=k then (some ⟨b,o,none⟩:Option Addr) else (some ⟨b,o,none⟩:Option Addr).map (·.add (k*4))) (n-k) (cap-k)) W':=fun W'=>terms_from W' _ n cap k hkn9
     have HHD:=Lib.hid (slice_head (k:=k) HSL.out hkn9)
     have HTL:=Lib.hid (slice_tail (k:=k) HSL.out hkn9)
     generalize (if cap=k then (some ⟨b,o,none⟩:Option Addr) else (some ⟨b,o,none⟩:Option Addr).map (·.add (k*4)))=AT at *
     obtain ⟨nk,hnk⟩:∃ m,n-k=m:=⟨_,rfl⟩
     rw [hnk] at hfr HTL
     have HNK:Hid (k+nk=n∧n≤1000000000):=by show _∧_;omega
     generalize cap-k=ck at *
     have HOC:Hid (∀ u∈trmsV tv,u.oneCell'=true):=one_trms HKD.out
     have HO1:Hid (∀ u∈trmsV (tv.take k),u.oneCell'=true):=by
      rw [trmsV_take];exact fun u hu=>HOC.out u (List.mem_of_mem_take hu)
     have HO2:Hid (∀ u∈trmsV (tv.drop k),u.oneCell'=true):=by
      rw [trmsV_drop];exact fun u hu=>HOC.out u (List.mem_of_mem_drop hu)
     have HOT:Hid (∀ u∈trmC (.slice At t.kids.length ct,t),u.oneCell'=true):=one_trm HKT.out
     clear hnk hkn9 hlc9
     refine wp_region_m (belowM w6) (fun k=>k==4||k==7||k==11) (fun k m=>(m==4&&[0,1,2,3].contains k)||(m==7&&[0,1,2,3,4,5,6].contains k)||(m==11&&[0,1,2,3,4,5,6,7,8,9,10].contains k)) (fun k m=>(m==4&&[7,11,12].contains k)||(m==7&&[11,12].contains k)||(m==11&&[12].contains k)) (fun m _ w w1=>match m with|4=>∃ N,w.grownBy w1 (some N)∧∀ o,w.cell? ⟨N,o,none⟩=none|_=>True) (by kernel_rfl) (by kernel_rfl) (by kernel_rfl) (by kernel_rfl) (by intro m hm;revert hm;simp;try omega) (belowM_stable _) (belowM_start _) ?_
     refine m_var (tillM 4 (EmptyT w6.heap.size)) rfl (stable_tillM EmptyT.kept) (fun ph a wz hp hc hk hf K hK=>?_) ?_
     ·have hb:Below w6.heap.size w6 wz:=hc
      clear hk hf
      go_simp
      refine hK _ _ (Below.alloc (.refl _ _) (Nat.le_refl _) _) (fun _=>⟨_,rfl,own_empty 4 hb.size (by simp),by simp,fun o=>by simp⟩)
     refine m_fix rfl ?_
     apply Exists.intro
     refine ⟨fun ph a wz hp hc hk hf K hK=>?_,?_⟩
     ·have h0:=hk 0 (by kernel_rfl)
      clear hk hf hc
      go_simp
      exact hK _ _ (Below.refl _ _) rfl
     refine m_fix rfl ?_
     apply Exists.intro
     refine ⟨fun ph a wz hp hc hk hf K hK=>?_,?_⟩
     ·have h6:=hk 6 (by kernel_rfl)
      clear hk hf hc
      go_simp
      exact hK _ _ (Below.refl _ _) rfl
     refine m_fix rfl ?_
     apply Exists.intro
     refine ⟨fun ph a wz hp hc hk hf K hK=>?_,?_⟩
     ·have h39:=mheld_isV hf 1 rfl (by kernel_rfl)
      have h40:=mheld_isV hf 0 rfl (by kernel_rfl)
      clear hk hf hc
      go_simp
      exact hK _ _ (Below.refl _ _) rfl
     refine m_store (tillM 7 (OwnT w6.heap.size (0+k) ([]++trmsV (tv.take k)))) rfl (stable_tillM OwnT.kept) (fun ph a wz hp hph hc hk hf K hK=>?_) ?_
     ·have hb:Below w6.heap.size w6 wz:=hc
      obtain ⟨v38,h38,S38⟩:=mheld_at hf 3 rfl (by kernel_rfl)
      replace S38:=S38 hph
      have h41:=mheld_isV hf 0 rfl (by kernel_rfl)
      clear hk hf
      obtain ⟨N0,rfl,ho,hN,hz⟩:=S38
      refine step_append_srcS rfl (.tmp 38) (.tmp 41) 22 rfl 24 i0 (.agg #[.int .u8 0,.int .i64 0,.string ⟨#[]⟩,.slice none 0 0]) 4 56 Try.underlying22 hi0 iz0 iz1 iz2 rfl (by decide) (B:=w6.heap.size) (.slice (some ⟨N0,0,none⟩) 0 0) 0 [] ?_ ho (.slice (some ⟨b,o,none⟩:Option Addr) k cap) k (trmsV (tv.take k)) ?_ (SliceOf.later HHD.out (HB.out.trans (hb.mono HB.out.size))) HO1.out ?_ ?_ ?_ fun v' w' r1 r2 r3 r4=>?_
      ·simp [Act.eval,h38]
      ·simp [Act.eval,h41]
      ·have:=HNK.out;unfold maxLen;omega
      ·have:=HNK.out;omega
      ·exact hb.size
      exact hK _ _ ⟨N0,r2,hz⟩ (ho.grown hb hb.size r2) (fun _=>r1)
     refine m_fix rfl ?_
     apply Exists.intro
     refine ⟨fun ph a wz hp hc hk hf K hK=>?_,?_⟩
     ·have hb:Below w6.heap.size w6 wz:=hc
      have h3:=hk 3 (by kernel_rfl)
      clear hk hf hc
      obtain ⟨y0,y1,y2,y3,-⟩:=(HX.out.later hb).cells
      go_simp
      exact hK _ _ (Below.refl _ _) rfl
     refine m_var (tillM 7 (LitT (.slice At t.kids.length ct,t))) rfl (stable_tillM LitT.kept) (fun ph a wz hp hc hk hf K hK=>?_) ?_
     ·have hb:Below w6.heap.size w6 wz:=hc
      have h43:=mheld_isV hf 0 rfl (by kernel_rfl)
      clear hk hf
      go_simp
      refine hK _ _ (Below.alloc (.refl _ _) (Nat.le_refl _) _) (fun _=>lit_trm wz 24 (.slice At t.kids.length ct,t))
     refine m_store (tillM 11 (OwnT w6.heap.size (0+k+1) ([]++trmsV (tv.take k)++trmC (.slice At t.kids.length ct,t)))) rfl (stable_tillM OwnT.kept) (fun ph a wz hp hph hc hk hf K hK=>?_) ?_
     ·have hb:Below w6.heap.size w6 wz:=hc
      obtain ⟨v42,h42,S42⟩:=mheld_at hf 2 rfl (by kernel_rfl)
      obtain ⟨v44,h44,S44⟩:=mheld_at hf 0 rfl (by kernel_rfl)
      replace S44:=S44 hph
      clear hk hf
      have ho:=S42 hph
      have hli:=S44
      unfold OwnT at ho
      unfold LitT at hli
      obtain ⟨vA,vp,rfl⟩:=ho.len
      refine step_append_srcS rfl (.tmp 42) (.tmp 44) 22 rfl 24 i0 (.agg #[.int .u8 0,.int .i64 0,.string ⟨#[]⟩,.slice none 0 0]) 4 56 Try.underlying22 hi0 iz0 iz1 iz2 rfl (by decide) (B:=w6.heap.size) (.slice vA (0+k) vp) (0+k) ([]++trmsV (tv.take k)) ?_ ho v44 1 _ ?_ hli HOT.out ?_ ?_ ?_ fun v' w' r1 r2 r3 r4=>?_
      ·simp [Act.eval,h42]
      ·simp [Act.eval,h44]
      ·have:=HNK.out;unfold maxLen;omega
      ·have:=HNK.out;omega
      ·exact hb.size
      exact hK _ _ trivial (ho.grown hb hb.size r2) (fun _=>r1)
     refine m_fix rfl ?_
     apply Exists.intro
     refine ⟨fun ph a wz hp hc hk hf K hK=>?_,?_⟩
     ·have h0:=hk 0 (by kernel_rfl)
      clear hk hf hc
      go_simp
      exact hK _ _ (Below.refl _ _) rfl
     refine m_fix rfl ?_
     apply Exists.intro
     refine ⟨fun ph a wz hp hc hk hf K hK=>?_,?_⟩
     ·have h6:=hk 6 (by kernel_rfl)
      clear hk hf hc
      go_simp
      exact hK _ _ (Below.refl _ _) rfl
     refine m_fix rfl ?_
     apply Exists.intro
     refine ⟨fun ph a wz hp hc hk hf K hK=>?_,?_⟩
     ·have h46:=mheld_isV hf 1 rfl (by kernel_rfl)
      have h47:=mheld_isV hf 0 rfl (by kernel_rfl)
      clear hk hf hc
      go_simp
      exact hK _ _ (Below.refl _ _) rfl
     refine m_store (fun _ u wx=>OwnT w6.heap.size (0+k+1+nk) ([]++trmsV (tv.take k)++trmC (.slice At t.kids.length ct,t)++trmsV (tv.drop k)) u wx) rfl (fun _ u w1 w2 hb h=>OwnT.kept u w1 w2 hb h) (fun ph a wz hp hph hc hk hf K hK=>?_) ?_
     ·have hb:Below w6.heap.size w6 wz:=hc
      obtain ⟨v45,h45,S45⟩:=mheld_at hf 3 rfl (by kernel_rfl)
      have h48:=mheld_isV hf 0 rfl (by kernel_rfl)
      clear hk hf
      have ho:=S45 hph
      unfold OwnT at ho
      obtain ⟨vA,vp,rfl⟩:=ho.len
      refine step_append_srcS rfl (.tmp 45) (.tmp 48) 22 rfl 24 i0 (.agg #[.int .u8 0,.int .i64 0,.string ⟨#[]⟩,.slice none 0 0]) 4 56 Try.underlying22 hi0 iz0 iz1 iz2 rfl (by decide) (B:=w6.heap.size) (.slice vA (0+k+1) vp) (0+k+1) ([]++trmsV (tv.take k)++trmC (.slice At t.kids.length ct,t)) ?_ ho (.slice AT nk ck) nk (trmsV (tv.drop k)) ?_ (SliceOf.later HTL.out (HB.out.trans (hb.mono HB.out.size))) HO2.out ?_ ?_ ?_ fun v' w' r1 r2 r3 r4=>?_
      ·simp [Act.eval,h45]
      ·simp [Act.eval,h48]
      ·have:=HNK.out;unfold maxLen;omega
      ·have:=HNK.out;omega
      ·exact hb.size
      exact hK _ _ trivial (ho.grown hb hb.size r2) r1
     refine m_var (fun _ u wx=>OwnT w6.heap.size (0+k+1+nk) ([]++trmsV (tv.take k)++trmC (.slice At t.kids.length ct,t)++trmsV (tv.drop k)) u wx) rfl (fun _ u w1 w2 hb h=>OwnT.kept u w1 w2 hb h) (fun ph a wz hp hc hk hf K hK=>?_) ?_
     ·obtain ⟨v49,h49,S49⟩:=mheld_at hf 0 rfl (by kernel_rfl)
      clear hk hf
      go_simp
      exact hK _ _ (Below.refl _ _) S49
     refine m_nil ?_
     refine ⟨keeps_m (fun m hm=>?_),?_⟩
     ·have hm2:m=4∨m=7∨m=11:=by simpa [or_assoc] using hm
      rcases hm2 with rfl|rfl|rfl
      ·exact ⟨.inr (.inr keep_till_self),.inr (.inr (keep_isV _)),.inr (.inr (keep_isV _)),.inr (.inr (keep_isV _)),.inl rfl,.inr (.inr (keep_isV _)),.inr (.inr (keep_till (by decide) fun _ _ _ _ _ _ _ h he=>LitT.apart h he)),.inr (.inl rfl),.inr (.inr (keep_isV _)),.inr (.inr (keep_isV _)),.inr (.inr (keep_isV _)),.inr (.inl rfl),.inr (.inl rfl),trivial⟩
      ·exact ⟨.inr (.inr (keep_till_past rfl rfl (by decide))),.inr (.inr (keep_isV _)),.inr (.inr (keep_isV _)),.inr (.inr (keep_isV _)),.inr (.inr keep_till_self),.inr (.inr (keep_isV _)),.inr (.inr keep_till_self),.inl rfl,.inr (.inr (keep_isV _)),.inr (.inr (keep_isV _)),.inr (.inr (keep_isV _)),.inr (.inl rfl),.inr (.inl rfl),trivial⟩
      ·exact ⟨.inr (.inr (keep_till_past rfl rfl (by decide))),.inr (.inr (keep_isV _)),.inr (.inr (keep_isV _)),.inr (.inr (keep_isV _)),.inr (.inr (keep_till_past rfl rfl (by decide))),.inr (.inr (keep_isV _)),.inr (.inr (keep_till_past rfl rfl (by decide))),.inr (.inr keep_till_self),.inr (.inr (keep_isV _)),.inr (.inr (keep_isV _)),.inr (.inr (keep_isV _)),.inl rfl,.inr (.inl rfl),trivial⟩
     intro ph w9 hps hc
     simp only [mlexL,mEnd]
     rintro v38 S38 _ rfl _ rfl _ rfl v42 S42 _ rfl v44 S44 v45 S45 _ rfl _ rfl _ rfl v49 S49 v4 S4
     have hq9:Below w6.heap.size w6 w9:=hc
     have ho9:Own w9 w6.heap.size 4 v4 (0+k+1+nk) ([]++trmsV (tv.take k)++trmC (.slice At t.kids.length ct,t)++trmsV (tv.drop k)):=S4
     have HB9:=Lib.hid (HB.out.trans (hq9.mono HB.out.size))
     have HRES:Hid (KidsIn w9 v4 (insT l t)):=by
      have hnk:=HNK.out
      have hl9:(tv.take k++[((.slice At t.kids.length ct:Value),t)]++tv.drop k).length=0+k+1+nk:=by
       have h1:=congrArg List.length HTV.out
       rw [List.length_map,HN.out] at h1
       rw [List.length_append,List.length_append,List.length_take,List.length_drop]
       simp only [List.length_singleton]
       omega
      have hm9:(tv.take k++[((.slice At t.kids.length ct:Value),t)]++tv.drop k).map Prod.snd=insT l t:=by
       rw [HIN.out,←HTV.out,List.map_append,List.map_append,List.map_take,List.map_drop]
       rfl
      have hsl9:SliceOf w9 4 v4 (tv.take k++[((.slice At t.kids.length ct:Value),t)]++tv.drop k).length (trmsV (tv.take k++[((.slice At t.kids.length ct:Value),t)]++tv.drop k)):=by
       rw [hl9,trmsV_append,trmsV_append,show trmsV [((.slice At t.kids.length ct:Value),t)]=trmC (.slice At t.kids.length ct,t) from by simp [trmsV]]
       have h:=ho9.slice
       rw [List.nil_append] at h
       exact h
      refine KidsQ.of _ hm9 trivial (by rw [←hm9,List.length_map];exact hsl9) fun u hu=>?_
      rcases List.mem_append.1 hu with hu|hu
      ·rcases List.mem_append.1 hu with hu|hu
       ·exact ⟨(HKD.out u (List.mem_of_mem_take hu)).1,(HKD.out u (List.mem_of_mem_take hu)).2.kept HB9.out⟩
       ·rw [List.mem_singleton.1 hu];exact ⟨HOK.out,HKT.out.kept HB9.out⟩
      ·exact ⟨(HKD.out u (List.mem_of_mem_drop hu)).1,(HKD.out u (List.mem_of_mem_drop hu)).2.kept HB9.out⟩
     obtain ⟨vA,vp,ev⟩:=ho9.len
     subst ev
     clear ho9 hq9 hc hps S38 S42 S44 S45 S49
     simp only [Act.put,List.setIfInBounds_toArray,List.set_cons_zero,List.set_cons_succ]
     go_wp2
     go_ret
     exact ⟨_,rfl,HRES.out,HB9.out⟩
  ·obtain rfl:k=n:=by omega
   have hin:=ins_at l t k (by rw [HN.out];exact Nat.le_refl _) HLT.out (fun h=>by rw [HN.out] at h;omega)
   rw [if_neg (by rintro ⟨h,_⟩;rw [HN.out] at h;omega)] at hin
   have HIN:=Lib.hid hin
   have k1:¬(k:Int) < (k:Int):=by omega
   clear hin hlt hnl hk
   go_wp2_with fail
   clear k1
   have hkn9:k≤k:=Nat.le_refl _
   have hlc9:=HL.out
   have hto:∀ W',(Instr.sliceAt 22 (.slice A k cap) none (some (.int .i64 k)) none).run Try.prog W'=.ok (.slice A k cap) W':=fun W'=>terms_to W' _ k cap k (by omega)
   have hfr:∀ W',(Instr.sliceAt 22 (.slice A k cap) (some (.int .i64 k)) none none).run Try.prog W'=.ok (.slice (if cap=k then A else A.map (·.add (k*4))) (k-k) (cap-k)) W':=fun W'=>terms_from W' _ k cap k hkn9
   have HHD:=Lib.hid (slice_head (k:=k) HSL.out hkn9)
   have HTL:=Lib.hid (slice_tail (k:=k) HSL.out hkn9)
   generalize (if cap=k then A else A.map (·.add (k*4)))=AT at *
   obtain ⟨nk,hnk⟩:∃ m,k-k=m:=⟨_,rfl⟩
   rw [hnk] at hfr HTL
   have HNK:Hid (k+nk=k∧k≤1000000000):=by show _∧_;omega
   generalize cap-k=ck at *
   have HOC:Hid (∀ u∈trmsV tv,u.oneCell'=true):=one_trms HKD.out
   have HO1:Hid (∀ u∈trmsV (tv.take k),u.oneCell'=true):=by
    rw [trmsV_take];exact fun u hu=>HOC.out u (List.mem_of_mem_take hu)
   have HO2:Hid (∀ u∈trmsV (tv.drop k),u.oneCell'=true):=by
    rw [trmsV_drop];exact fun u hu=>HOC.out u (List.mem_of_mem_drop hu)
   have HOT:Hid (∀ u∈trmC (.slice At t.kids.length ct,t),u.oneCell'=true):=one_trm HKT.out
   clear hnk hkn9 hlc9
   refine wp_region_m (belowM wr) (fun k=>k==4||k==7||k==11) (fun k m=>(m==4&&[0,1,2,3].contains k)||(m==7&&[0,1,2,3,4,5,6].contains k)||(m==11&&[0,1,2,3,4,5,6,7,8,9,10].contains k)) (fun k m=>(m==4&&[7,11,12].contains k)||(m==7&&[11,12].contains k)||(m==11&&[12].contains k)) (fun m _ w w1=>match m with|4=>∃ N,w.grownBy w1 (some N)∧∀ o,w.cell? ⟨N,o,none⟩=none|_=>True) (by kernel_rfl) (by kernel_rfl) (by kernel_rfl) (by kernel_rfl) (by intro m hm;revert hm;simp;try omega) (belowM_stable _) (belowM_start _) ?_
   refine m_var (tillM 4 (EmptyT wr.heap.size)) rfl (stable_tillM EmptyT.kept) (fun ph a wz hp hc hk hf K hK=>?_) ?_
   ·have hb:Below wr.heap.size wr wz:=hc
    clear hk hf
    go_simp
    refine hK _ _ (Below.alloc (.refl _ _) (Nat.le_refl _) _) (fun _=>⟨_,rfl,own_empty 4 hb.size (by simp),by simp,fun o=>by simp⟩)
   refine m_fix rfl ?_
   apply Exists.intro
   refine ⟨fun ph a wz hp hc hk hf K hK=>?_,?_⟩
   ·have h0:=hk 0 (by kernel_rfl)
    clear hk hf hc
    go_simp
    exact hK _ _ (Below.refl _ _) rfl
   refine m_fix rfl ?_
   apply Exists.intro
   refine ⟨fun ph a wz hp hc hk hf K hK=>?_,?_⟩
   ·have h6:=hk 6 (by kernel_rfl)
    clear hk hf hc
    go_simp
    exact hK _ _ (Below.refl _ _) rfl
   refine m_fix rfl ?_
   apply Exists.intro
   refine ⟨fun ph a wz hp hc hk hf K hK=>?_,?_⟩
   ·have h39:=mheld_isV hf 1 rfl (by kernel_rfl)
    have h40:=mheld_isV hf 0 rfl (by kernel_rfl)
    clear hk hf hc
    go_simp
    exact hK _ _ (Below.refl _ _) rfl
   refine m_store (tillM 7 (OwnT wr.heap.size (0+k) ([]++trmsV (tv.take k)))) rfl (stable_tillM OwnT.kept) (fun ph a wz hp hph hc hk hf K hK=>?_) ?_
   ·have hb:Below wr.heap.size wr wz:=hc
    obtain ⟨v38,h38,S38⟩:=mheld_at hf 3 rfl (by kernel_rfl)
    replace S38:=S38 hph
    have h41:=mheld_isV hf 0 rfl (by kernel_rfl)
    clear hk hf
    obtain ⟨N0,rfl,ho,hN,hz⟩:=S38
    refine step_append_srcS rfl (.tmp 38) (.tmp 41) 22 rfl 24 i0 (.agg #[.int .u8 0,.int .i64 0,.string ⟨#[]⟩,.slice none 0 0]) 4 56 Try.underlying22 hi0 iz0 iz1 iz2 rfl (by decide) (B:=wr.heap.size) (.slice (some ⟨N0,0,none⟩) 0 0) 0 [] ?_ ho (.slice A k cap) k (trmsV (tv.take k)) ?_ (SliceOf.later HHD.out (HB.out.trans (hb.mono HB.out.size))) HO1.out ?_ ?_ ?_ fun v' w' r1 r2 r3 r4=>?_
    ·simp [Act.eval,h38]
    ·simp [Act.eval,h41]
    ·have:=HNK.out;unfold maxLen;omega
    ·have:=HNK.out;omega
    ·exact hb.size
    exact hK _ _ ⟨N0,r2,hz⟩ (ho.grown hb hb.size r2) (fun _=>r1)
   refine m_fix rfl ?_
   apply Exists.intro
   refine ⟨fun ph a wz hp hc hk hf K hK=>?_,?_⟩
   ·have hb:Below wr.heap.size wr wz:=hc
    have h3:=hk 3 (by kernel_rfl)
    clear hk hf hc
    obtain ⟨y0,y1,y2,y3,-⟩:=(HX.out.later hb).cells
    go_simp
    exact hK _ _ (Below.refl _ _) rfl
   refine m_var (tillM 7 (LitT (.slice At t.kids.length ct,t))) rfl (stable_tillM LitT.kept) (fun ph a wz hp hc hk hf K hK=>?_) ?_
   ·have hb:Below wr.heap.size wr wz:=hc
    have h43:=mheld_isV hf 0 rfl (by kernel_rfl)
    clear hk hf
    go_simp
    refine hK _ _ (Below.alloc (.refl _ _) (Nat.le_refl _) _) (fun _=>lit_trm wz 24 (.slice At t.kids.length ct,t))
   refine m_store (tillM 11 (OwnT wr.heap.size (0+k+1) ([]++trmsV (tv.take k)++trmC (.slice At t.kids.length ct,t)))) rfl (stable_tillM OwnT.kept) (fun ph a wz hp hph hc hk hf K hK=>?_) ?_
   ·have hb:Below wr.heap.size wr wz:=hc
    obtain ⟨v42,h42,S42⟩:=mheld_at hf 2 rfl (by kernel_rfl)
    obtain ⟨v44,h44,S44⟩:=mheld_at hf 0 rfl (by kernel_rfl)
    replace S44:=S44 hph
    clear hk hf
    have ho:=S42 hph
    have hli:=S44
    unfold OwnT at ho
    unfold LitT at hli
    obtain ⟨vA,vp,rfl⟩:=ho.len
    refine step_append_srcS rfl (.tmp 42) (.tmp 44) 22 rfl 24 i0 (.agg #[.int .u8 0,.int .i64 0,.string ⟨#[]⟩,.slice none 0 0]) 4 56 Try.underlying22 hi0 iz0 iz1 iz2 rfl (by decide) (B:=wr.heap.size) (.slice vA (0+k) vp) (0+k) ([]++trmsV (tv.take k)) ?_ ho v44 1 _ ?_ hli HOT.out ?_ ?_ ?_ fun v' w' r1 r2 r3 r4=>?_
    ·simp [Act.eval,h42]
    ·simp [Act.eval,h44]
    ·have:=HNK.out;unfold maxLen;omega
    ·have:=HNK.out;omega
    ·exact hb.size
    exact hK _ _ trivial (ho.grown hb hb.size r2) (fun _=>r1)
   refine m_fix rfl ?_
   apply Exists.intro
   refine ⟨fun ph a wz hp hc hk hf K hK=>?_,?_⟩
   ·have h0:=hk 0 (by kernel_rfl)
    clear hk hf hc
    go_simp
    exact hK _ _ (Below.refl _ _) rfl
   refine m_fix rfl ?_
   apply Exists.intro
   refine ⟨fun ph a wz hp hc hk hf K hK=>?_,?_⟩
   ·have h6:=hk 6 (by kernel_rfl)
    clear hk hf hc
    go_simp
    exact hK _ _ (Below.refl _ _) rfl
   refine m_fix rfl ?_
   apply Exists.intro
   refine ⟨fun ph a wz hp hc hk hf K hK=>?_,?_⟩
   ·have h46:=mheld_isV hf 1 rfl (by kernel_rfl)
    have h47:=mheld_isV hf 0 rfl (by kernel_rfl)
    clear hk hf hc
    go_simp
    exact hK _ _ (Below.refl _ _) rfl
   refine m_store (fun _ u wx=>OwnT wr.heap.size (0+k+1+nk) ([]++trmsV (tv.take k)++trmC (.slice At t.kids.length ct,t)++trmsV (tv.drop k)) u wx) rfl (fun _ u w1 w2 hb h=>OwnT.kept u w1 w2 hb h) (fun ph a wz hp hph hc hk hf K hK=>?_) ?_
   ·have hb:Below wr.heap.size wr wz:=hc
    obtain ⟨v45,h45,S45⟩:=mheld_at hf 3 rfl (by kernel_rfl)
    have h48:=mheld_isV hf 0 rfl (by kernel_rfl)
    clear hk hf
    have ho:=S45 hph
    unfold OwnT at ho
    obtain ⟨vA,vp,rfl⟩:=ho.len
    refine step_append_srcS rfl (.tmp 45) (.tmp 48) 22 rfl 24 i0 (.agg #[.int .u8 0,.int .i64 0,.string ⟨#[]⟩,.slice none 0 0]) 4 56 Try.underlying22 hi0 iz0 iz1 iz2 rfl (by decide) (B:=wr.heap.size) (.slice vA (0+k+1) vp) (0+k+1) ([]++trmsV (tv.take k)++trmC (.slice At t.kids.length ct,t)) ?_ ho (.slice AT nk ck) nk (trmsV (tv.drop k)) ?_ (SliceOf.later HTL.out (HB.out.trans (hb.mono HB.out.size))) HO2.out ?_ ?_ ?_ fun v' w' r1 r2 r3 r4=>?_
    ·simp [Act.eval,h45]
    ·simp [Act.eval,h48]
    ·have:=HNK.out;unfold maxLen;omega
    ·have:=HNK.out;omega
    ·exact hb.size
    exact hK _ _ trivial (ho.grown hb hb.size r2) r1
   refine m_var (fun _ u wx=>OwnT wr.heap.size (0+k+1+nk) ([]++trmsV (tv.take k)++trmC (.slice At t.kids.length ct,t)++trmsV (tv.drop k)) u wx) rfl (fun _ u w1 w2 hb h=>OwnT.kept u w1 w2 hb h) (fun ph a wz hp hc hk hf K hK=>?_) ?_
   ·obtain ⟨v49,h49,S49⟩:=mheld_at hf 0 rfl (by kernel_rfl)
    clear hk hf
    go_simp
    exact hK _ _ (Below.refl _ _) S49
   refine m_nil ?_
   refine ⟨keeps_m (fun m hm=>?_),?_⟩
   ·have hm2:m=4∨m=7∨m=11:=by simpa [or_assoc] using hm
    rcases hm2 with rfl|rfl|rfl
    ·exact ⟨.inr (.inr keep_till_self),.inr (.inr (keep_isV _)),.inr (.inr (keep_isV _)),.inr (.inr (keep_isV _)),.inl rfl,.inr (.inr (keep_isV _)),.inr (.inr (keep_till (by decide) fun _ _ _ _ _ _ _ h he=>LitT.apart h he)),.inr (.inl rfl),.inr (.inr (keep_isV _)),.inr (.inr (keep_isV _)),.inr (.inr (keep_isV _)),.inr (.inl rfl),.inr (.inl rfl),trivial⟩
    ·exact ⟨.inr (.inr (keep_till_past rfl rfl (by decide))),.inr (.inr (keep_isV _)),.inr (.inr (keep_isV _)),.inr (.inr (keep_isV _)),.inr (.inr keep_till_self),.inr (.inr (keep_isV _)),.inr (.inr keep_till_self),.inl rfl,.inr (.inr (keep_isV _)),.inr (.inr (keep_isV _)),.inr (.inr (keep_isV _)),.inr (.inl rfl),.inr (.inl rfl),trivial⟩
    ·exact ⟨.inr (.inr (keep_till_past rfl rfl (by decide))),.inr (.inr (keep_isV _)),.inr (.inr (keep_isV _)),.inr (.inr (keep_isV _)),.inr (.inr (keep_till_past rfl rfl (by decide))),.inr (.inr (keep_isV _)),.inr (.inr (keep_till_past rfl rfl (by decide))),.inr (.inr keep_till_self),.inr (.inr (keep_isV _)),.inr (.inr (keep_isV _)),.inr (.inr (keep_isV _)),.inl rfl,.inr (.inl rfl),trivial⟩
   intro ph w9 hps hc
   simp only [mlexL,mEnd]
   rintro v38 S38 _ rfl _ rfl _ rfl v42 S42 _ rfl v44 S44 v45 S45 _ rfl _ rfl _ rfl v49 S49 v4 S4
   have hq9:Below wr.heap.size wr w9:=hc
   have ho9:Own w9 wr.heap.size 4 v4 (0+k+1+nk) ([]++trmsV (tv.take k)++trmC (.slice At t.kids.length ct,t)++trmsV (tv.drop k)):=S4
   have HB9:=Lib.hid (HB.out.trans (hq9.mono HB.out.size))
   have HRES:Hid (KidsIn w9 v4 (insT l t)):=by
    have hnk:=HNK.out
    have hl9:(tv.take k++[((.slice At t.kids.length ct:Value),t)]++tv.drop k).length=0+k+1+nk:=by
     have h1:=congrArg List.length HTV.out
     rw [List.length_map,HN.out] at h1
     rw [List.length_append,List.length_append,List.length_take,List.length_drop]
     simp only [List.length_singleton]
     omega
    have hm9:(tv.take k++[((.slice At t.kids.length ct:Value),t)]++tv.drop k).map Prod.snd=insT l t:=by
     rw [HIN.out,←HTV.out,List.map_append,List.map_append,List.map_take,List.map_drop]
     rfl
    have hsl9:SliceOf w9 4 v4 (tv.take k++[((.slice At t.kids.length ct:Value),t)]++tv.drop k).length (trmsV (tv.take k++[((.slice At t.kids.length ct:Value),t)]++tv.drop k)):=by
     rw [hl9,trmsV_append,trmsV_append,show trmsV [((.slice At t.kids.length ct:Value),t)]=trmC (.slice At t.kids.length ct,t) from by simp [trmsV]]
     have h:=ho9.slice
     rw [List.nil_append] at h
     exact h
    refine KidsQ.of _ hm9 trivial (by rw [←hm9,List.length_map];exact hsl9) fun u hu=>?_
    rcases List.mem_append.1 hu with hu|hu
    ·rcases List.mem_append.1 hu with hu|hu
     ·exact ⟨(HKD.out u (List.mem_of_mem_take hu)).1,(HKD.out u (List.mem_of_mem_take hu)).2.kept HB9.out⟩
     ·rw [List.mem_singleton.1 hu];exact ⟨HOK.out,HKT.out.kept HB9.out⟩
    ·exact ⟨(HKD.out u (List.mem_of_mem_drop hu)).1,(HKD.out u (List.mem_of_mem_drop hu)).2.kept HB9.out⟩
   obtain ⟨vA,vp,ev⟩:=ho9.len
   subst ev
   clear ho9 hq9 hc hps S38 S42 S44 S45 S49
   simp only [Act.put,List.setIfInBounds_toArray,List.set_cons_zero,List.set_cons_succ]
   go_wp2
   go_ret
   exact ⟨_,rfl,HRES.out,HB9.out⟩
end Go.Proofs.Ytnkhkkdmjabhnaa
