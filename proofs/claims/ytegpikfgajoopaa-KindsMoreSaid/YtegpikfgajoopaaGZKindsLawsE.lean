/- The law KindsMore of layer 16. -/
import Derived.Test.YtegpikfgajoopaaGBlockUnder
import Derived.Test.YtegpikfgajoopaaGOpen
import Derived.Test.YtegpikfgajoopaaGShapeZ
import Derived.Test.YtegpikfgajoopaaGZKindsAwake
import Derived.Test.YtegpikfgajoopaaGCalmM
namespace Go.Proofs.Ytegpikfgajoopaa
open Go Go.RowKit
theorem Try.infoKm45:(Try.prog.info? 45).map (fun i=>(i.zero,i.size,i.bytes))=some (some (.agg #[.int .u8 0,.bool false]),2,2):=by kernel_rfl
theorem one_cols16 (l:List (Int×Bool)):∀ u∈colsV l,u.oneCell'=true:=by
 intro u hu
 unfold colsV at hu
 obtain ⟨c,_,hc⟩:=List.mem_flatMap.1 hu
 unfold colV at hc
 simp only [List.mem_cons,List.not_mem_nil,or_false] at hc
 rcases hc with rfl|rfl <;> rfl
def OwnP16 (B n:Nat)(xs:List Value):Value→World→Prop:=fun v w=>Own w B 2 v n xs
theorem OwnP16.kept {B n:Nat}{xs:List Value}:∀ (v:Value)(w w':World),Below w.heap.size w w'→OwnP16 B n xs v w→OwnP16 B n xs v w':=fun _ _ _ hb h=>Own.later h hb
def colsM16 (l:List (Int×Bool)):MSpec:=fun _ v w=>ColsIn w v l
theorem stable_colsM16 {l:List (Int×Bool)}:StableM (colsM16 l):=fun _ _ _ _ hb h=>ColsIn.kept h hb
theorem col_in (w:World)(c:Int)(h1 : -9223372036854775808≤c)(h2:c≤9223372036854775807):TermIn w (.agg #[.int .u8 99,.int .i64 c,.string ⟨#[]⟩,.slice none 0 0]) (colT15 c) :=
 ⟨_,rfl,⟨by show (0:Int)≤99;decide,by show (99:Int)≤255;decide,h1,h2⟩,KidsIn.nil_ _ _ _⟩
theorem kind_out {cols:List (Int×Bool)}{c:Int}(h:¬(0≤c∧c < cols.length)):kindK cols (colT15 c)=(0,1):=by
 have h1:sizeT (colT15 c)=1:=by rw [colT15,sizeT,sizeTs]
 rw [kindK_small (by omega),colT15,ofK_eq,if_pos (by decide),ofKs]
 show (if (99:Int)=99 then (if 0≤c∧c < cols.length then ((cols.getD c.toNat (0,false)).1,0) else (0,1)) else _)=_
 rw [if_pos rfl,if_neg h]
set_option maxHeartbeats 8000000 in
theorem kindsMore_calls {w:World}{vt vc vm:Value}{t:Trm}{cols more:List (Int×Bool)}(ht:TermIn w vt t)(hc:ColsIn w vc cols)(hmo:ColsIn w vm more):GivesAt Try.prog 6 #[vt,vc,vm] w (.bool true):=by
 obtain ⟨i0,hi,iz0,iz1,iz2⟩:=info_parts Try.infoKm45
 have hmc:=hc.len
 have hmm:=hmo.len
 unfold maxLen at hmc hmm
 have HAW:=Lib.hid awake16_calls
 have HT:=Lib.hid ht
 have HC:=Lib.hid hc
 have HM:=Lib.hid hmo
 have HG:Hid (∀ W,Below w.heap.size w W→GivesAt Try.prog 7 #[vt,.int .i64 0] W (.bool (greatK 0 t))):=fun W hW=>great16_calls t W vt 0 (by decide) (ht.kept hW)
 obtain ⟨A,cap,rfl⟩:=ht.parts15
 obtain ⟨Ac,pc,rfl,-⟩:=cols_at hc
 obtain ⟨Am,pm,rfl,-⟩:=cols_at hmo
 have hb:Below w.heap.size w (w.alloc (.cells #[.int .u8 t.op,.int .i64 t.col,.string t.cell,.slice A t.kids.length cap] 24)):=Below.alloc (.refl w.heap.size w) (Nat.le_refl _) _
 have hB:=hb.size
 have HX:=Lib.hid (trmbox_lit w 24 t.op t.col t.cell (.slice A t.kids.length cap))
 clear ht hc hmo
 unfold GivesAt
 cases hg:greatK 0 t with
 | true =>
  rw [hg] at HG
  clear hg
  go_enter Try.func6,Try.ntmps6
  go_wp2_with (first|(go_at_call 7;refine (HG.out _ hb).step (w0:=w) (B:=w.heap.size) hb hB ?_;clear hb hB;intro wg hb hB)|(go_at_call 8;refine HAW.out.step (w0:=w) (B:=w.heap.size) hb hB ?_;clear hb hB;intro wa hb hB))
  go_ret
  exact ⟨rfl,hb⟩
 | false =>
  have HSZ:Hid (sizeT t≤1000):=Lib.hid (by have:=greatK_size t 0 hg;omega)
  rw [hg] at HG
  clear hg
  by_cases h10:cols.length≤10
  ·have d10:decide ((10:Int) < (cols.length:Int))=false:=decide_eq_false (by omega)
   by_cases m10:more.length≤10
   ·have e10:decide ((10:Int) < (more.length:Int))=false:=decide_eq_false (by omega)
    have HMO:=Lib.hid (ofK_more (cols:=cols) (more:=more) t)
    have HER:=Lib.hid (ofK_err (cols:=cols) t)
    have HQ1:=Lib.hid (kind_out (cols:=cols) (c:=(cols.length:Int)) (by omega))
    have HQ2:=Lib.hid (kind_out (cols:=cols) (c:=-1) (by omega))
    obtain ⟨cm,hcm⟩:∃ l,cols++more=l:=⟨_,rfl⟩
    have HCM:Hid (∀ v W,SliceOf W 2 v (0+cols.length+more.length) ([]++colsV cols++colsV more)→ColsIn W v cm):=fun v W h=>by
     rw [←hcm]
     unfold ColsIn
     rw [List.length_append,colsV,List.flatMap_append]
     rw [Nat.zero_add,List.nil_append] at h
     exact h
    rw [hcm] at HMO
    clear hcm
    by_cases hz:30 < wrap64 (sizeT t:Nat)
    ·have HQ:Hid (kindK cols t=(0,8)):=Lib.hid (if_pos hz)
     have HQM:Hid (kindK cm t=(0,8)):=Lib.hid (if_pos hz)
     clear hz HMO HER
     go_enter Try.func6,Try.ntmps6
     go_wp2_with fail
     refine (HG.out _ hb).stepB (w0:=w) (B:=w.heap.size) hb hB ?_
     clear hb hB
     intro wg hb hB hq
     replace HX:=Lib.hid (HX.out.later hq)
     replace HT:=Lib.hid (HT.out.kept hb)
     replace HC:=Lib.hid (HC.out.kept hb)
     replace HM:=Lib.hid (HM.out.kept hb)
     clear hq hB HG
     obtain ⟨y0,y1,y2,y3,_⟩:=HX.out.cells
     go_wp2_with fail
     clear y0 y1 y2 y3
     have hs:=kinds_of_calls t HSZ.out HT.out HC.out
     rw [HQ.out] at hs
     refine Calls.mono (hs) ?_
     rintro e w3 ⟨rfl,hq⟩
     clear hs
     replace HX:=Lib.hid (HX.out.later hq)
     replace HT:=Lib.hid (HT.out.kept hq)
     replace HC:=Lib.hid (HC.out.kept hq)
     replace HM:=Lib.hid (HM.out.kept hq)
     replace hb:=hb.trans (hq.mono hb.size)
     clear hq
     go_wp2_with fail
     have HB3:=Lib.hid hb
     clear hb
     refine wp_region_m (belowM w3) (fun k=>k==3||k==5) (fun k m=>(m==3&&[1,2].contains k)||(m==5&&[1,2,3,4].contains k)) (fun k m=>(m==3&&[5,6,7,8,9,10,11].contains k)||(m==5&&[6,7,8,9,10,11].contains k)) (fun _ _ _ _=>True) (by kernel_rfl) (by kernel_rfl) (by kernel_rfl) (by kernel_rfl) (by intro m hm;revert hm;simp;try omega) (belowM_stable _) (belowM_start _) ?_
     refine m_fix rfl ?_
     apply Exists.intro
     refine ⟨fun ph a wz hp hc hk hf K hK=>?_,?_⟩
     ·have hb:Below w3.heap.size w3 wz:=hc
      have h3:=hk 3 (by kernel_rfl)
      clear hk hf hc
      obtain ⟨y0,y1,y2,y3,_⟩:=(HX.out.later hb).cells
      go_simp
      exact hK _ _ (Below.refl _ _) rfl
     refine m_var (tillM 3 (OwnP16 w3.heap.size (0) ([]))) rfl (stable_tillM OwnP16.kept) (fun ph a wz hp hc hk hf K hK=>?_) ?_
     ·have hb:Below w3.heap.size w3 wz:=hc
      clear hk hf
      go_simp
      refine hK _ _ (Below.alloc (.refl _ _) (Nat.le_refl _) _) (fun _=>own_empty 2 hb.size (by simp))
     refine m_fix rfl ?_
     apply Exists.intro
     refine ⟨fun ph a wz hp hc hk hf K hK=>?_,?_⟩
     ·have h1:=hk 1 (by kernel_rfl)
      clear hk hf hc
      go_simp
      exact hK _ _ (Below.refl _ _) rfl
     refine m_store (tillM 5 (OwnP16 w3.heap.size (0+cols.length) ([]++colsV cols))) rfl (stable_tillM OwnP16.kept) (fun ph a wz hp hph hc hk hf K hK=>?_) ?_
     ·have hb:Below w3.heap.size w3 wz:=hc
      obtain ⟨v36,h36,S36⟩:=mheld_at hf 1 rfl (by kernel_rfl)
      replace S36:=S36 hph
      have h37:=mheld_isV hf 0 rfl (by kernel_rfl)
      clear hk hf
      have ho:=S36
      unfold OwnP16 at ho
      refine step_append_srcS rfl (.tmp 36) (.tmp 37) 25 rfl 45 i0 (.agg #[.int .u8 0,.bool false]) 2 2 Try.underlying25 hi iz0 iz1 iz2 rfl (by decide) (B:=w3.heap.size) v36 0 [] ?_ ho (.slice Ac cols.length pc) cols.length (colsV cols) ?_ (ColsIn.kept HC.out hb) (one_cols16 _) ?_ ?_ ?_ fun v' w' r1 r2 r3 r4=>?_
      ·simp [Act.eval,h36]
      ·simp [Act.eval,h37]
      ·unfold maxLen;omega
      ·omega
      ·exact hb.size
      exact hK _ _ trivial (ho.grown hb hb.size r2) (fun _=>r1)
     refine m_fix rfl ?_
     apply Exists.intro
     refine ⟨fun ph a wz hp hc hk hf K hK=>?_,?_⟩
     ·have h2:=hk 2 (by kernel_rfl)
      clear hk hf hc
      go_simp
      exact hK _ _ (Below.refl _ _) rfl
     refine m_store (colsM16 cm) rfl stable_colsM16 (fun ph a wz hp hph hc hk hf K hK=>?_) ?_
     ·have hb:Below w3.heap.size w3 wz:=hc
      obtain ⟨v38,h38,S38⟩:=mheld_at hf 1 rfl (by kernel_rfl)
      have h39:=mheld_isV hf 0 rfl (by kernel_rfl)
      clear hk hf
      have ho:=S38 hph
      unfold OwnP16 at ho
      refine step_append_srcS rfl (.tmp 38) (.tmp 39) 25 rfl 45 i0 (.agg #[.int .u8 0,.bool false]) 2 2 Try.underlying25 hi iz0 iz1 iz2 rfl (by decide) (B:=w3.heap.size) v38 (0+cols.length) ([]++colsV cols) ?_ ho (.slice Am more.length pm) more.length (colsV more) ?_ (ColsIn.kept HM.out hb) (one_cols16 _) ?_ ?_ ?_ fun v' w' r1 r2 r3 r4=>?_
      ·simp [Act.eval,h38]
      ·simp [Act.eval,h39]
      ·unfold maxLen;omega
      ·omega
      ·exact hb.size
      exact hK _ _ trivial (ho.grown hb hb.size r2) (HCM.out _ _ r1.slice)
     refine m_fix rfl ?_
     apply Exists.intro
     refine ⟨fun ph a wz hp hc hk hf K hK=>?_,?_⟩
     ·have hb:Below w3.heap.size w3 wz:=hc
      have h35:=mheld_isV hf 5 rfl (by kernel_rfl)
      obtain ⟨v40,h40,S40⟩:=mheld_at hf 0 rfl (by kernel_rfl)
      clear hk hf hc
      obtain ⟨A9,p9,rfl,-⟩:=cols_at (show ColsIn wz v40 cm from S40)
      have hs:=kinds_of_calls t HSZ.out (HT.out.kept hb) (show ColsIn wz (.slice A9 cm.length p9) cm from S40)
      rw [HQM.out] at hs
      replace hs:=Lib.hid hs
      clear S40
      generalize cm.length=nm at *
      go_simp
      refine Calls.mono (hs.out) ?_
      rintro e w1 ⟨rfl,hq⟩
      exact hK _ _ hq rfl
     refine m_fix rfl ?_
     apply Exists.intro
     refine ⟨fun ph a wz hp hc hk hf K hK=>?_,?_⟩
     ·have h41:=mheld_isV hf 0 rfl (by kernel_rfl)
      clear hk hf hc
      go_simp
      exact hK _ _ (Below.refl _ _) rfl
     refine m_fix rfl ?_
     apply Exists.intro
     refine ⟨fun ph a wz hp hc hk hf K hK=>?_,?_⟩
     ·have h34:=mheld_isV hf 0 rfl (by kernel_rfl)
      clear hk hf hc
      go_simp
      exact hK _ _ (Below.refl _ _) rfl
     refine m_fix rfl ?_
     apply Exists.intro
     refine ⟨fun ph a wz hp hc hk hf K hK=>?_,?_⟩
     ·have h34:=mheld_isV hf 1 rfl (by kernel_rfl)
      clear hk hf hc
      go_simp
      exact hK _ _ (Below.refl _ _) rfl
     refine m_fix rfl ?_
     apply Exists.intro
     refine ⟨fun ph a wz hp hc hk hf K hK=>?_,?_⟩
     ·have h42:=mheld_isV hf 1 rfl (by kernel_rfl)
      clear hk hf hc
      go_simp
      exact hK _ _ (Below.refl _ _) rfl
     refine m_fix rfl ?_
     apply Exists.intro
     refine ⟨fun ph a wz hp hc hk hf K hK=>?_,?_⟩
     ·have h43:=mheld_isV hf 1 rfl (by kernel_rfl)
      clear hk hf hc
      go_simp
      exact hK _ _ (Below.refl _ _) rfl
     refine m_nil ?_
     refine ⟨keeps_m (fun m hm=>?_),?_⟩
     ·have hm2:m=3∨m=5:=by simpa [or_assoc] using hm
      rcases hm2 with rfl|rfl
      ·exact ⟨.inr (.inr (keep_isV _)),.inr (.inr keep_till_self),.inr (.inr (keep_isV _)),.inl rfl,.inr (.inr (keep_isV _)),.inr (.inl rfl),.inr (.inl rfl),.inr (.inl rfl),.inr (.inl rfl),.inr (.inl rfl),.inr (.inl rfl),.inr (.inl rfl),trivial⟩
      ·exact ⟨.inr (.inr (keep_isV _)),.inr (.inr (keep_till_past rfl rfl (by decide))),.inr (.inr (keep_isV _)),.inr (.inr keep_till_self),.inr (.inr (keep_isV _)),.inl rfl,.inr (.inl rfl),.inr (.inl rfl),.inr (.inl rfl),.inr (.inl rfl),.inr (.inl rfl),.inr (.inl rfl),trivial⟩
     intro ph w4 hps hc
     simp only [mlexL,mEnd]
     rintro _ rfl v36 S36 _ rfl v38 S38 _ rfl v40 S40 _ rfl _ rfl _ rfl _ rfl _ rfl _ rfl
     have hq:Below w3.heap.size w3 w4:=hc
     have hb:=HB3.out
     clear hc hps HB3 S36 S38 S40
     simp only [Act.put,List.setIfInBounds_toArray,List.set_cons_zero,List.set_cons_succ]
     replace HX:=Lib.hid (HX.out.later hq)
     replace HT:=Lib.hid (HT.out.kept hq)
     replace HC:=Lib.hid (HC.out.kept hq)
     replace HM:=Lib.hid (HM.out.kept hq)
     replace hb:=hb.trans (hq.mono hb.size)
     clear hq
     clear HX HT HM
     go_wp2_with fail
     have hs:=kinds_of_calls (colT15 (cols.length:Int)) (by show (1:Nat)≤1000;decide) (col_in _ _ (by omega) (by omega)) HC.out
     rw [HQ1.out] at hs
     refine Calls.mono (hs) ?_
     rintro e w5 ⟨rfl,hq⟩
     clear hs
     replace HC:=Lib.hid (HC.out.kept hq)
     replace hb:=hb.trans (hq.mono hb.size)
     clear hq
     go_wp2_with fail
     have hs:=kinds_of_calls (colT15 (-1)) (by show (1:Nat)≤1000;decide) (col_in _ _ (by decide) (by decide)) HC.out
     rw [HQ2.out] at hs
     refine Calls.mono (hs) ?_
     rintro e w6 ⟨rfl,hq⟩
     clear hs
     replace HC:=Lib.hid (HC.out.kept hq)
     replace hb:=hb.trans (hq.mono hb.size)
     clear hq
     have hB:=hb.size
     go_wp2_with (go_at_call 8;refine HAW.out.step (w0:=w) (B:=w.heap.size) hb hB ?_;clear hb hB;intro wa hb hB)
     go_ret
     exact ⟨rfl,hb⟩
    ·have HQ0:Hid (kindK cols t=ofK cols t):=Lib.hid (if_neg hz)
     have HQM0:Hid (kindK cm t=ofK cm t):=Lib.hid (if_neg hz)
     clear hz
     obtain ⟨q,hq⟩:∃ q,ofK cols t=q:=⟨_,rfl⟩
     obtain ⟨qk,qe⟩:=q
     rw [hq] at HQ0 HMO HER
     dsimp only at HMO HER
     by_cases he:qe=0
     ·subst he
      have HQ:Hid (kindK cols t=(qk,0)):=HQ0
      have HQM:Hid (kindK cm t=(qk,0)):=Lib.hid (HQM0.out.trans (HMO.out rfl))
      have dq:(qk != qk)=false:=by simp
      clear hq HQ0 HQM0 HMO HER
      go_enter Try.func6,Try.ntmps6
      go_wp2_with fail
      refine (HG.out _ hb).stepB (w0:=w) (B:=w.heap.size) hb hB ?_
      clear hb hB
      intro wg hb hB hq
      replace HX:=Lib.hid (HX.out.later hq)
      replace HT:=Lib.hid (HT.out.kept hb)
      replace HC:=Lib.hid (HC.out.kept hb)
      replace HM:=Lib.hid (HM.out.kept hb)
      clear hq hB HG
      obtain ⟨y0,y1,y2,y3,_⟩:=HX.out.cells
      go_wp2_with fail
      clear y0 y1 y2 y3
      have hs:=kinds_of_calls t HSZ.out HT.out HC.out
      rw [HQ.out] at hs
      refine Calls.mono (hs) ?_
      rintro e w3 ⟨rfl,hq⟩
      clear hs
      replace HX:=Lib.hid (HX.out.later hq)
      replace HT:=Lib.hid (HT.out.kept hq)
      replace HC:=Lib.hid (HC.out.kept hq)
      replace HM:=Lib.hid (HM.out.kept hq)
      replace hb:=hb.trans (hq.mono hb.size)
      clear hq
      go_wp2_with fail
      have HB3:=Lib.hid hb
      clear hb
      refine wp_region_m (belowM w3) (fun k=>k==3||k==5) (fun k m=>(m==3&&[1,2].contains k)||(m==5&&[1,2,3,4].contains k)) (fun k m=>(m==3&&[5,6,7,8,9,10,11].contains k)||(m==5&&[6,7,8,9,10,11].contains k)) (fun _ _ _ _=>True) (by kernel_rfl) (by kernel_rfl) (by kernel_rfl) (by kernel_rfl) (by intro m hm;revert hm;simp;try omega) (belowM_stable _) (belowM_start _) ?_
      refine m_fix rfl ?_
      apply Exists.intro
      refine ⟨fun ph a wz hp hc hk hf K hK=>?_,?_⟩
      ·have hb:Below w3.heap.size w3 wz:=hc
       have h3:=hk 3 (by kernel_rfl)
       clear hk hf hc
       obtain ⟨y0,y1,y2,y3,_⟩:=(HX.out.later hb).cells
       go_simp
       exact hK _ _ (Below.refl _ _) rfl
      refine m_var (tillM 3 (OwnP16 w3.heap.size (0) ([]))) rfl (stable_tillM OwnP16.kept) (fun ph a wz hp hc hk hf K hK=>?_) ?_
      ·have hb:Below w3.heap.size w3 wz:=hc
       clear hk hf
       go_simp
       refine hK _ _ (Below.alloc (.refl _ _) (Nat.le_refl _) _) (fun _=>own_empty 2 hb.size (by simp))
      refine m_fix rfl ?_
      apply Exists.intro
      refine ⟨fun ph a wz hp hc hk hf K hK=>?_,?_⟩
      ·have h1:=hk 1 (by kernel_rfl)
       clear hk hf hc
       go_simp
       exact hK _ _ (Below.refl _ _) rfl
      refine m_store (tillM 5 (OwnP16 w3.heap.size (0+cols.length) ([]++colsV cols))) rfl (stable_tillM OwnP16.kept) (fun ph a wz hp hph hc hk hf K hK=>?_) ?_
      ·have hb:Below w3.heap.size w3 wz:=hc
       obtain ⟨v36,h36,S36⟩:=mheld_at hf 1 rfl (by kernel_rfl)
       replace S36:=S36 hph
       have h37:=mheld_isV hf 0 rfl (by kernel_rfl)
       clear hk hf
       have ho:=S36
       unfold OwnP16 at ho
       refine step_append_srcS rfl (.tmp 36) (.tmp 37) 25 rfl 45 i0 (.agg #[.int .u8 0,.bool false]) 2 2 Try.underlying25 hi iz0 iz1 iz2 rfl (by decide) (B:=w3.heap.size) v36 0 [] ?_ ho (.slice Ac cols.length pc) cols.length (colsV cols) ?_ (ColsIn.kept HC.out hb) (one_cols16 _) ?_ ?_ ?_ fun v' w' r1 r2 r3 r4=>?_
       ·simp [Act.eval,h36]
       ·simp [Act.eval,h37]
       ·unfold maxLen;omega
       ·omega
       ·exact hb.size
       exact hK _ _ trivial (ho.grown hb hb.size r2) (fun _=>r1)
      refine m_fix rfl ?_
      apply Exists.intro
      refine ⟨fun ph a wz hp hc hk hf K hK=>?_,?_⟩
      ·have h2:=hk 2 (by kernel_rfl)
       clear hk hf hc
       go_simp
       exact hK _ _ (Below.refl _ _) rfl
      refine m_store (colsM16 cm) rfl stable_colsM16 (fun ph a wz hp hph hc hk hf K hK=>?_) ?_
      ·have hb:Below w3.heap.size w3 wz:=hc
       obtain ⟨v38,h38,S38⟩:=mheld_at hf 1 rfl (by kernel_rfl)
       have h39:=mheld_isV hf 0 rfl (by kernel_rfl)
       clear hk hf
       have ho:=S38 hph
       unfold OwnP16 at ho
       refine step_append_srcS rfl (.tmp 38) (.tmp 39) 25 rfl 45 i0 (.agg #[.int .u8 0,.bool false]) 2 2 Try.underlying25 hi iz0 iz1 iz2 rfl (by decide) (B:=w3.heap.size) v38 (0+cols.length) ([]++colsV cols) ?_ ho (.slice Am more.length pm) more.length (colsV more) ?_ (ColsIn.kept HM.out hb) (one_cols16 _) ?_ ?_ ?_ fun v' w' r1 r2 r3 r4=>?_
       ·simp [Act.eval,h38]
       ·simp [Act.eval,h39]
       ·unfold maxLen;omega
       ·omega
       ·exact hb.size
       exact hK _ _ trivial (ho.grown hb hb.size r2) (HCM.out _ _ r1.slice)
      refine m_fix rfl ?_
      apply Exists.intro
      refine ⟨fun ph a wz hp hc hk hf K hK=>?_,?_⟩
      ·have hb:Below w3.heap.size w3 wz:=hc
       have h35:=mheld_isV hf 5 rfl (by kernel_rfl)
       obtain ⟨v40,h40,S40⟩:=mheld_at hf 0 rfl (by kernel_rfl)
       clear hk hf hc
       obtain ⟨A9,p9,rfl,-⟩:=cols_at (show ColsIn wz v40 cm from S40)
       have hs:=kinds_of_calls t HSZ.out (HT.out.kept hb) (show ColsIn wz (.slice A9 cm.length p9) cm from S40)
       rw [HQM.out] at hs
       replace hs:=Lib.hid hs
       clear S40
       generalize cm.length=nm at *
       go_simp
       refine Calls.mono (hs.out) ?_
       rintro e w1 ⟨rfl,hq⟩
       exact hK _ _ hq rfl
      refine m_fix rfl ?_
      apply Exists.intro
      refine ⟨fun ph a wz hp hc hk hf K hK=>?_,?_⟩
      ·have h41:=mheld_isV hf 0 rfl (by kernel_rfl)
       clear hk hf hc
       go_simp
       exact hK _ _ (Below.refl _ _) rfl
      refine m_fix rfl ?_
      apply Exists.intro
      refine ⟨fun ph a wz hp hc hk hf K hK=>?_,?_⟩
      ·have h34:=mheld_isV hf 0 rfl (by kernel_rfl)
       clear hk hf hc
       go_simp
       exact hK _ _ (Below.refl _ _) rfl
      refine m_fix rfl ?_
      apply Exists.intro
      refine ⟨fun ph a wz hp hc hk hf K hK=>?_,?_⟩
      ·have h34:=mheld_isV hf 1 rfl (by kernel_rfl)
       clear hk hf hc
       go_simp
       exact hK _ _ (Below.refl _ _) rfl
      refine m_fix rfl ?_
      apply Exists.intro
      refine ⟨fun ph a wz hp hc hk hf K hK=>?_,?_⟩
      ·have h42:=mheld_isV hf 1 rfl (by kernel_rfl)
       clear hk hf hc
       go_simp
       exact hK _ _ (Below.refl _ _) rfl
      refine m_fix rfl ?_
      apply Exists.intro
      refine ⟨fun ph a wz hp hc hk hf K hK=>?_,?_⟩
      ·have h43:=mheld_isV hf 1 rfl (by kernel_rfl)
       clear hk hf hc
       go_simp
       exact hK _ _ (Below.refl _ _) rfl
      refine m_nil ?_
      refine ⟨keeps_m (fun m hm=>?_),?_⟩
      ·have hm2:m=3∨m=5:=by simpa [or_assoc] using hm
       rcases hm2 with rfl|rfl
       ·exact ⟨.inr (.inr (keep_isV _)),.inr (.inr keep_till_self),.inr (.inr (keep_isV _)),.inl rfl,.inr (.inr (keep_isV _)),.inr (.inl rfl),.inr (.inl rfl),.inr (.inl rfl),.inr (.inl rfl),.inr (.inl rfl),.inr (.inl rfl),.inr (.inl rfl),trivial⟩
       ·exact ⟨.inr (.inr (keep_isV _)),.inr (.inr (keep_till_past rfl rfl (by decide))),.inr (.inr (keep_isV _)),.inr (.inr keep_till_self),.inr (.inr (keep_isV _)),.inl rfl,.inr (.inl rfl),.inr (.inl rfl),.inr (.inl rfl),.inr (.inl rfl),.inr (.inl rfl),.inr (.inl rfl),trivial⟩
      intro ph w4 hps hc
      simp only [mlexL,mEnd]
      rintro _ rfl v36 S36 _ rfl v38 S38 _ rfl v40 S40 _ rfl _ rfl _ rfl _ rfl _ rfl _ rfl
      have hq:Below w3.heap.size w3 w4:=hc
      have hb:=HB3.out
      clear hc hps HB3 S36 S38 S40
      simp only [Act.put,List.setIfInBounds_toArray,List.set_cons_zero,List.set_cons_succ]
      replace HX:=Lib.hid (HX.out.later hq)
      replace HT:=Lib.hid (HT.out.kept hq)
      replace HC:=Lib.hid (HC.out.kept hq)
      replace HM:=Lib.hid (HM.out.kept hq)
      replace hb:=hb.trans (hq.mono hb.size)
      clear hq
      clear HX HT HM
      go_wp2_with fail
      have hs:=kinds_of_calls (colT15 (cols.length:Int)) (by show (1:Nat)≤1000;decide) (col_in _ _ (by omega) (by omega)) HC.out
      rw [HQ1.out] at hs
      refine Calls.mono (hs) ?_
      rintro e w5 ⟨rfl,hq⟩
      clear hs
      replace HC:=Lib.hid (HC.out.kept hq)
      replace hb:=hb.trans (hq.mono hb.size)
      clear hq
      go_wp2_with fail
      have hs:=kinds_of_calls (colT15 (-1)) (by show (1:Nat)≤1000;decide) (col_in _ _ (by decide) (by decide)) HC.out
      rw [HQ2.out] at hs
      refine Calls.mono (hs) ?_
      rintro e w6 ⟨rfl,hq⟩
      clear hs
      replace HC:=Lib.hid (HC.out.kept hq)
      replace hb:=hb.trans (hq.mono hb.size)
      clear hq
      have hB:=hb.size
      go_wp2_with (go_at_call 8;refine HAW.out.step (w0:=w) (B:=w.heap.size) hb hB ?_;clear hb hB;intro wa hb hB)
      go_ret
      exact ⟨rfl,hb⟩
     ·have HQ:Hid (kindK cols t=(qk,qe)):=HQ0
      have he8:=(HER.out he).2
      have d0:(qe==0)=false:=by simp [he]
      have d8:(qe != 8)=true:=by rw [bne_iff_ne];omega
      obtain ⟨r,hr⟩:∃ q,ofK cm t=q:=⟨_,rfl⟩
      obtain ⟨mk,mf⟩:=r
      rw [hr] at HQM0
      have HQM:Hid (kindK cm t=(mk,mf)):=HQM0
      clear hq hr HQ0 HQM0 HMO HER he he8
      go_enter Try.func6,Try.ntmps6
      go_wp2_with fail
      refine (HG.out _ hb).stepB (w0:=w) (B:=w.heap.size) hb hB ?_
      clear hb hB
      intro wg hb hB hq
      replace HX:=Lib.hid (HX.out.later hq)
      replace HT:=Lib.hid (HT.out.kept hb)
      replace HC:=Lib.hid (HC.out.kept hb)
      replace HM:=Lib.hid (HM.out.kept hb)
      clear hq hB HG
      obtain ⟨y0,y1,y2,y3,_⟩:=HX.out.cells
      go_wp2_with fail
      clear y0 y1 y2 y3
      have hs:=kinds_of_calls t HSZ.out HT.out HC.out
      rw [HQ.out] at hs
      refine Calls.mono (hs) ?_
      rintro e w3 ⟨rfl,hq⟩
      clear hs
      replace HX:=Lib.hid (HX.out.later hq)
      replace HT:=Lib.hid (HT.out.kept hq)
      replace HC:=Lib.hid (HC.out.kept hq)
      replace HM:=Lib.hid (HM.out.kept hq)
      replace hb:=hb.trans (hq.mono hb.size)
      clear hq
      go_wp2_with fail
      have HB3:=Lib.hid hb
      clear hb
      refine wp_region_m (belowM w3) (fun k=>k==3||k==5) (fun k m=>(m==3&&[1,2].contains k)||(m==5&&[1,2,3,4].contains k)) (fun k m=>(m==3&&[5,6,7,8,9,10,11].contains k)||(m==5&&[6,7,8,9,10,11].contains k)) (fun _ _ _ _=>True) (by kernel_rfl) (by kernel_rfl) (by kernel_rfl) (by kernel_rfl) (by intro m hm;revert hm;simp;try omega) (belowM_stable _) (belowM_start _) ?_
      refine m_fix rfl ?_
      apply Exists.intro
      refine ⟨fun ph a wz hp hc hk hf K hK=>?_,?_⟩
      ·have hb:Below w3.heap.size w3 wz:=hc
       have h3:=hk 3 (by kernel_rfl)
       clear hk hf hc
       obtain ⟨y0,y1,y2,y3,_⟩:=(HX.out.later hb).cells
       go_simp
       exact hK _ _ (Below.refl _ _) rfl
      refine m_var (tillM 3 (OwnP16 w3.heap.size (0) ([]))) rfl (stable_tillM OwnP16.kept) (fun ph a wz hp hc hk hf K hK=>?_) ?_
      ·have hb:Below w3.heap.size w3 wz:=hc
       clear hk hf
       go_simp
       refine hK _ _ (Below.alloc (.refl _ _) (Nat.le_refl _) _) (fun _=>own_empty 2 hb.size (by simp))
      refine m_fix rfl ?_
      apply Exists.intro
      refine ⟨fun ph a wz hp hc hk hf K hK=>?_,?_⟩
      ·have h1:=hk 1 (by kernel_rfl)
       clear hk hf hc
       go_simp
       exact hK _ _ (Below.refl _ _) rfl
      refine m_store (tillM 5 (OwnP16 w3.heap.size (0+cols.length) ([]++colsV cols))) rfl (stable_tillM OwnP16.kept) (fun ph a wz hp hph hc hk hf K hK=>?_) ?_
      ·have hb:Below w3.heap.size w3 wz:=hc
       obtain ⟨v36,h36,S36⟩:=mheld_at hf 1 rfl (by kernel_rfl)
       replace S36:=S36 hph
       have h37:=mheld_isV hf 0 rfl (by kernel_rfl)
       clear hk hf
       have ho:=S36
       unfold OwnP16 at ho
       refine step_append_srcS rfl (.tmp 36) (.tmp 37) 25 rfl 45 i0 (.agg #[.int .u8 0,.bool false]) 2 2 Try.underlying25 hi iz0 iz1 iz2 rfl (by decide) (B:=w3.heap.size) v36 0 [] ?_ ho (.slice Ac cols.length pc) cols.length (colsV cols) ?_ (ColsIn.kept HC.out hb) (one_cols16 _) ?_ ?_ ?_ fun v' w' r1 r2 r3 r4=>?_
       ·simp [Act.eval,h36]
       ·simp [Act.eval,h37]
       ·unfold maxLen;omega
       ·omega
       ·exact hb.size
       exact hK _ _ trivial (ho.grown hb hb.size r2) (fun _=>r1)
      refine m_fix rfl ?_
      apply Exists.intro
      refine ⟨fun ph a wz hp hc hk hf K hK=>?_,?_⟩
      ·have h2:=hk 2 (by kernel_rfl)
       clear hk hf hc
       go_simp
       exact hK _ _ (Below.refl _ _) rfl
      refine m_store (colsM16 cm) rfl stable_colsM16 (fun ph a wz hp hph hc hk hf K hK=>?_) ?_
      ·have hb:Below w3.heap.size w3 wz:=hc
       obtain ⟨v38,h38,S38⟩:=mheld_at hf 1 rfl (by kernel_rfl)
       have h39:=mheld_isV hf 0 rfl (by kernel_rfl)
       clear hk hf
       have ho:=S38 hph
       unfold OwnP16 at ho
       refine step_append_srcS rfl (.tmp 38) (.tmp 39) 25 rfl 45 i0 (.agg #[.int .u8 0,.bool false]) 2 2 Try.underlying25 hi iz0 iz1 iz2 rfl (by decide) (B:=w3.heap.size) v38 (0+cols.length) ([]++colsV cols) ?_ ho (.slice Am more.length pm) more.length (colsV more) ?_ (ColsIn.kept HM.out hb) (one_cols16 _) ?_ ?_ ?_ fun v' w' r1 r2 r3 r4=>?_
       ·simp [Act.eval,h38]
       ·simp [Act.eval,h39]
       ·unfold maxLen;omega
       ·omega
       ·exact hb.size
       exact hK _ _ trivial (ho.grown hb hb.size r2) (HCM.out _ _ r1.slice)
      refine m_fix rfl ?_
      apply Exists.intro
      refine ⟨fun ph a wz hp hc hk hf K hK=>?_,?_⟩
      ·have hb:Below w3.heap.size w3 wz:=hc
       have h35:=mheld_isV hf 5 rfl (by kernel_rfl)
       obtain ⟨v40,h40,S40⟩:=mheld_at hf 0 rfl (by kernel_rfl)
       clear hk hf hc
       obtain ⟨A9,p9,rfl,-⟩:=cols_at (show ColsIn wz v40 cm from S40)
       have hs:=kinds_of_calls t HSZ.out (HT.out.kept hb) (show ColsIn wz (.slice A9 cm.length p9) cm from S40)
       rw [HQM.out] at hs
       replace hs:=Lib.hid hs
       clear S40
       generalize cm.length=nm at *
       go_simp
       refine Calls.mono (hs.out) ?_
       rintro e w1 ⟨rfl,hq⟩
       exact hK _ _ hq rfl
      refine m_fix rfl ?_
      apply Exists.intro
      refine ⟨fun ph a wz hp hc hk hf K hK=>?_,?_⟩
      ·have h41:=mheld_isV hf 0 rfl (by kernel_rfl)
       clear hk hf hc
       go_simp
       exact hK _ _ (Below.refl _ _) rfl
      refine m_fix rfl ?_
      apply Exists.intro
      refine ⟨fun ph a wz hp hc hk hf K hK=>?_,?_⟩
      ·have h34:=mheld_isV hf 0 rfl (by kernel_rfl)
       clear hk hf hc
       go_simp
       exact hK _ _ (Below.refl _ _) rfl
      refine m_fix rfl ?_
      apply Exists.intro
      refine ⟨fun ph a wz hp hc hk hf K hK=>?_,?_⟩
      ·have h34:=mheld_isV hf 1 rfl (by kernel_rfl)
       clear hk hf hc
       go_simp
       exact hK _ _ (Below.refl _ _) rfl
      refine m_fix rfl ?_
      apply Exists.intro
      refine ⟨fun ph a wz hp hc hk hf K hK=>?_,?_⟩
      ·have h42:=mheld_isV hf 1 rfl (by kernel_rfl)
       clear hk hf hc
       go_simp
       exact hK _ _ (Below.refl _ _) rfl
      refine m_fix rfl ?_
      apply Exists.intro
      refine ⟨fun ph a wz hp hc hk hf K hK=>?_,?_⟩
      ·have h43:=mheld_isV hf 1 rfl (by kernel_rfl)
       clear hk hf hc
       go_simp
       exact hK _ _ (Below.refl _ _) rfl
      refine m_nil ?_
      refine ⟨keeps_m (fun m hm=>?_),?_⟩
      ·have hm2:m=3∨m=5:=by simpa [or_assoc] using hm
       rcases hm2 with rfl|rfl
       ·exact ⟨.inr (.inr (keep_isV _)),.inr (.inr keep_till_self),.inr (.inr (keep_isV _)),.inl rfl,.inr (.inr (keep_isV _)),.inr (.inl rfl),.inr (.inl rfl),.inr (.inl rfl),.inr (.inl rfl),.inr (.inl rfl),.inr (.inl rfl),.inr (.inl rfl),trivial⟩
       ·exact ⟨.inr (.inr (keep_isV _)),.inr (.inr (keep_till_past rfl rfl (by decide))),.inr (.inr (keep_isV _)),.inr (.inr keep_till_self),.inr (.inr (keep_isV _)),.inl rfl,.inr (.inl rfl),.inr (.inl rfl),.inr (.inl rfl),.inr (.inl rfl),.inr (.inl rfl),.inr (.inl rfl),trivial⟩
      intro ph w4 hps hc
      simp only [mlexL,mEnd]
      rintro _ rfl v36 S36 _ rfl v38 S38 _ rfl v40 S40 _ rfl _ rfl _ rfl _ rfl _ rfl _ rfl
      have hq:Below w3.heap.size w3 w4:=hc
      have hb:=HB3.out
      clear hc hps HB3 S36 S38 S40
      simp only [Act.put,List.setIfInBounds_toArray,List.set_cons_zero,List.set_cons_succ]
      replace HX:=Lib.hid (HX.out.later hq)
      replace HT:=Lib.hid (HT.out.kept hq)
      replace HC:=Lib.hid (HC.out.kept hq)
      replace HM:=Lib.hid (HM.out.kept hq)
      replace hb:=hb.trans (hq.mono hb.size)
      clear hq
      clear HX HT HM
      go_wp2_with fail
      have hs:=kinds_of_calls (colT15 (cols.length:Int)) (by show (1:Nat)≤1000;decide) (col_in _ _ (by omega) (by omega)) HC.out
      rw [HQ1.out] at hs
      refine Calls.mono (hs) ?_
      rintro e w5 ⟨rfl,hq⟩
      clear hs
      replace HC:=Lib.hid (HC.out.kept hq)
      replace hb:=hb.trans (hq.mono hb.size)
      clear hq
      go_wp2_with fail
      have hs:=kinds_of_calls (colT15 (-1)) (by show (1:Nat)≤1000;decide) (col_in _ _ (by decide) (by decide)) HC.out
      rw [HQ2.out] at hs
      refine Calls.mono (hs) ?_
      rintro e w6 ⟨rfl,hq⟩
      clear hs
      replace HC:=Lib.hid (HC.out.kept hq)
      replace hb:=hb.trans (hq.mono hb.size)
      clear hq
      have hB:=hb.size
      go_wp2_with (go_at_call 8;refine HAW.out.step (w0:=w) (B:=w.heap.size) hb hB ?_;clear hb hB;intro wa hb hB)
      go_ret
      exact ⟨rfl,hb⟩
   ·have e10:decide ((10:Int) < (more.length:Int))=true:=decide_eq_true (by omega)
    go_enter Try.func6,Try.ntmps6
    go_wp2_with (first|(go_at_call 7;refine (HG.out _ hb).step (w0:=w) (B:=w.heap.size) hb hB ?_;clear hb hB;intro wg hb hB)|(go_at_call 8;refine HAW.out.step (w0:=w) (B:=w.heap.size) hb hB ?_;clear hb hB;intro wa hb hB))
    go_ret
    exact ⟨rfl,hb⟩
  ·have d10:decide ((10:Int) < (cols.length:Int))=true:=decide_eq_true (by omega)
   go_enter Try.func6,Try.ntmps6
   go_wp2_with (first|(go_at_call 7;refine (HG.out _ hb).step (w0:=w) (B:=w.heap.size) hb hB ?_;clear hb hB;intro wg hb hB)|(go_at_call 8;refine HAW.out.step (w0:=w) (B:=w.heap.size) hb hB ?_;clear hb hB;intro wa hb hB))
   go_ret
   exact ⟨rfl,hb⟩
end Go.Proofs.Ytegpikfgajoopaa
