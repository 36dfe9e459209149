/- The law KindsHold of layer 16. -/
import Derived.Test.YtegpikfgajoopaaGBlockUnder
import Derived.Test.YtegpikfgajoopaaGOpen
import Derived.Test.YtegpikfgajoopaaGShapeZ
import Derived.Test.YtegpikfgajoopaaGZKindsAwake
namespace Go.Proofs.Ytegpikfgajoopaa
open Go Go.RowKit
set_option maxHeartbeats 8000000 in
theorem kindsHold_calls {w:World}{vt vc vr:Value}{t:Trm}{cols:List (Int×Bool)}{row:List ByteArray}(ht:TermIn w vt t)(hc:ColsIn w vc cols)(hr:StrsIn w vr row):GivesAt Try.prog 4 #[vt,vc,vr] w (.bool true):=by
 have hmc:=hc.len
 unfold maxLen at hmc
 have HAW:=Lib.hid awake16_calls
 have HT:=Lib.hid ht
 have HC:=Lib.hid hc
 have HG:Hid (∀ W,Below w.heap.size w W→GivesAt Try.prog 7 #[vt,.int .i64 0] W (.bool (greatK 0 t))):=fun W hW=>great16_calls t W vt 0 (by decide) (ht.kept hW)
 have HR:=Lib.hid hr
 have HRT:Hid (∀ W,Below w.heap.size w W→GivesAt Try.prog 13 #[vc] W (.bool (rightC cols))):=fun W hW=>ref_shape_right_calls (hc.kept hW)
 have HRO:Hid (∀ W,Below w.heap.size w W→GivesAt Try.prog 14 #[vc,vr] W (.int .i64 (rowN cols row))):=fun W hW=>ref_row_calls (hc.kept hW) (StrsIn.kept hr hW)
 obtain ⟨A,cap,rfl⟩:=ht.parts15
 obtain ⟨Ac,pc,rfl,-⟩:=cols_at hc
 have hb:Below w.heap.size w (w.alloc (.cells #[.int .u8 t.op,.int .i64 t.col,.string t.cell,.slice A t.kids.length cap] 24)):=Below.alloc (.refl w.heap.size w) (Nat.le_refl _) _
 have hB:=hb.size
 have HX:=Lib.hid (trmbox_lit w 24 t.op t.col t.cell (.slice A t.kids.length cap))
 obtain ⟨Ar,pr,rfl,-⟩:=one_at hr
 clear ht hc hr
 unfold GivesAt
 cases hg:greatK 0 t with
 | true =>
  rw [hg] at HG
  clear hg
  go_enter Try.func4,Try.ntmps4
  go_wp2_with (first|(go_at_call 7;refine (HG.out _ hb).step (w0:=w) (B:=w.heap.size) hb hB ?_;clear hb hB;intro wg hb hB)|(go_at_call 8;refine HAW.out.step (w0:=w) (B:=w.heap.size) hb hB ?_;clear hb hB;intro wa hb hB))
  go_ret
  exact ⟨rfl,hb⟩
 | false =>
  have HSZ:Hid (sizeT t≤1000):=Lib.hid (by have:=greatK_size t 0 hg;omega)
  rw [hg] at HG
  clear hg
  cases hrc:rightC cols with
  | false =>
   rw [hrc] at HRT
   clear hrc
   go_enter Try.func4,Try.ntmps4
   go_wp2_with (first|(go_at_call 7;refine (HG.out _ hb).step (w0:=w) (B:=w.heap.size) hb hB ?_;clear hb hB;intro wg hb hB)|(go_at_call 13;refine (HRT.out _ hb).step (w0:=w) (B:=w.heap.size) hb hB ?_;clear hb hB;intro wr hb hB)|(go_at_call 8;refine HAW.out.step (w0:=w) (B:=w.heap.size) hb hB ?_;clear hb hB;intro wa hb hB))
   go_ret
   exact ⟨rfl,hb⟩
  | true =>
   rw [hrc] at HRT
   clear hrc
   by_cases hrow:rowN cols row=0
   ·have HKH:Hid (∀ (_:(kindK cols t).2=0),rightB (evalT row t)=true∧(evalT row t=noC∨kindI (evalT row t)=(kindK cols t).1)):=fun h=>by
     have hs:=greatK_size
     unfold kindK at h ⊢
     by_cases h30:30 < wrap64 (sizeT t:Nat)
     ·rw [if_pos h30] at h;exact absurd h (by decide)
     ·rw [if_neg h30] at h ⊢
      exact kind_holds hrow t h
    rw [hrow] at HRO
    clear hrow
    have HKE:Hid ((kindK cols t).2≠0→(kindK cols t).1=0∧whereK cols t=(kindK cols t).2):=fun h=>kindK_err h
    have HKO:Hid ((kindK cols t).2=0→(whereK cols t==0)=((kindK cols t).1==98||(kindK cols t).1==0)):=fun h=>whereK_ok h
    obtain ⟨q,hq⟩:∃ q,kindK cols t=q:=⟨_,rfl⟩
    obtain ⟨wk,hw⟩:∃ x,whereK cols t=x:=⟨_,rfl⟩
    obtain ⟨cv,he⟩:∃ x,evalT row t=x:=⟨_,rfl⟩
    rw [hq] at HKE HKO HKH
    rw [hw] at HKE HKO
    rw [he] at HKH
    have HQ:=Lib.hid hq
    have HW:=Lib.hid hw
    have HE:=Lib.hid he
    obtain ⟨qk,qe⟩:=q
    dsimp only at HKE HKO HKH
    clear hq hw he
    by_cases hz:qe=0
    ·subst hz
     obtain ⟨hri,hki⟩:=HKH.out rfl
     have hko:=HKO.out rfl
     clear HKH HKO HKE
     rcases hki with hno|hki
     ·have e0:cv.toList.isEmpty=true:=by rw [←empty_no];exact decide_eq_true hno
      have hna:=Lib.hid hno
      clear hno
      by_cases k1:qk=98
      ·have d1:(qk==98)=true:=by simp [k1]
       rw [d1,Bool.true_or] at hko
       clear k1
       go_enter Try.func4,Try.ntmps4
       go_wp2_with fail
       refine (HG.out _ hb).stepB (w0:=w) (B:=w.heap.size) hb hB ?_
       clear hb hB
       intro wg hb hB hq
       replace HX:=Lib.hid (HX.out.later hq)
       clear hq
       go_wp2_with fail
       refine (HRT.out _ hb).stepB (w0:=w) (B:=w.heap.size) hb hB ?_
       clear hb hB
       intro wr hb hB hq
       replace HX:=Lib.hid (HX.out.later hq)
       clear hq
       go_wp2_with fail
       refine (HRO.out _ hb).stepB (w0:=w) (B:=w.heap.size) hb hB ?_
       clear hb hB
       intro wo hb hB hq
       replace HX:=Lib.hid (HX.out.later hq)
       clear hq
       replace HT:=Lib.hid (HT.out.kept hb)
       replace HC:=Lib.hid (HC.out.kept hb)
       replace HR:=Lib.hid (StrsIn.kept HR.out hb)
       clear hB HG HRT HRO
       obtain ⟨y0,y1,y2,y3,_⟩:=HX.out.cells
       go_wp2_with fail
       clear y0 y1 y2 y3
       have hs:=kinds_of_calls t HSZ.out HT.out HC.out
       rw [HQ.out] at hs
       refine Calls.mono (hs) ?_
       rintro e w3 ⟨rfl,hq⟩
       clear hs
       replace HX:=Lib.hid (HX.out.later hq)
       replace HT:=Lib.hid (HT.out.kept hq)
       replace HC:=Lib.hid (HC.out.kept hq)
       replace HR:=Lib.hid (StrsIn.kept HR.out hq)
       replace hb:=hb.trans (hq.mono hb.size)
       clear hq
       obtain ⟨y0,y1,y2,y3,_⟩:=HX.out.cells
       go_wp2_with fail
       clear y0 y1 y2 y3
       have hs:=kinds_where_calls t HSZ.out HT.out HC.out
       rw [HW.out] at hs
       refine Calls.mono (hs) ?_
       rintro e w4 ⟨rfl,hq⟩
       clear hs
       replace HX:=Lib.hid (HX.out.later hq)
       replace HT:=Lib.hid (HT.out.kept hq)
       replace HC:=Lib.hid (HC.out.kept hq)
       replace HR:=Lib.hid (StrsIn.kept HR.out hq)
       replace hb:=hb.trans (hq.mono hb.size)
       clear hq
       obtain ⟨y0,y1,y2,y3,_⟩:=HX.out.cells
       go_wp2_with fail
       clear y0 y1 y2 y3
       have hs:=ref_eval_calls t w4 _ _ HT.out HR.out
       rw [HE.out] at hs
       refine Calls.mono (hs) ?_
       rintro e w5 ⟨rfl,hq⟩
       clear hs
       replace HX:=Lib.hid (HX.out.later hq)
       replace HT:=Lib.hid (HT.out.kept hq)
       replace HC:=Lib.hid (HC.out.kept hq)
       replace HR:=Lib.hid (StrsIn.kept HR.out hq)
       replace hb:=hb.trans (hq.mono hb.size)
       clear hq
       have hB:=hb.size
       have HRI:=right_calls cv
       rw [hri] at HRI
       have HKI:=kind_calls cv
       go_wp2_with (first|(go_at_call 16;refine HRI.step (w0:=w) (B:=w.heap.size) hb hB ?_;clear hb hB;intro w6 hb hB)|(go_at_call 17;refine HKI.step (w0:=w) (B:=w.heap.size) hb hB ?_;clear hb hB;intro w7 hb hB)|(go_at_call 8;refine HAW.out.step (w0:=w) (B:=w.heap.size) hb hB ?_;clear hb hB;intro wa hb hB))
       go_ret
       exact ⟨rfl,hb⟩
      ·have d1:(qk==98)=false:=by simp [k1]
       rw [d1,Bool.false_or] at hko
       clear k1
       cases hk0:(qk==0)
       all_goals
        rw [hk0] at hko
        go_enter Try.func4,Try.ntmps4
        go_wp2_with fail
        refine (HG.out _ hb).stepB (w0:=w) (B:=w.heap.size) hb hB ?_
        clear hb hB
        intro wg hb hB hq
        replace HX:=Lib.hid (HX.out.later hq)
        clear hq
        go_wp2_with fail
        refine (HRT.out _ hb).stepB (w0:=w) (B:=w.heap.size) hb hB ?_
        clear hb hB
        intro wr hb hB hq
        replace HX:=Lib.hid (HX.out.later hq)
        clear hq
        go_wp2_with fail
        refine (HRO.out _ hb).stepB (w0:=w) (B:=w.heap.size) hb hB ?_
        clear hb hB
        intro wo hb hB hq
        replace HX:=Lib.hid (HX.out.later hq)
        clear hq
        replace HT:=Lib.hid (HT.out.kept hb)
        replace HC:=Lib.hid (HC.out.kept hb)
        replace HR:=Lib.hid (StrsIn.kept HR.out hb)
        clear hB HG HRT HRO
        obtain ⟨y0,y1,y2,y3,_⟩:=HX.out.cells
        go_wp2_with fail
        clear y0 y1 y2 y3
        have hs:=kinds_of_calls t HSZ.out HT.out HC.out
        rw [HQ.out] at hs
        refine Calls.mono (hs) ?_
        rintro e w3 ⟨rfl,hq⟩
        clear hs
        replace HX:=Lib.hid (HX.out.later hq)
        replace HT:=Lib.hid (HT.out.kept hq)
        replace HC:=Lib.hid (HC.out.kept hq)
        replace HR:=Lib.hid (StrsIn.kept HR.out hq)
        replace hb:=hb.trans (hq.mono hb.size)
        clear hq
        obtain ⟨y0,y1,y2,y3,_⟩:=HX.out.cells
        go_wp2_with fail
        clear y0 y1 y2 y3
        have hs:=kinds_where_calls t HSZ.out HT.out HC.out
        rw [HW.out] at hs
        refine Calls.mono (hs) ?_
        rintro e w4 ⟨rfl,hq⟩
        clear hs
        replace HX:=Lib.hid (HX.out.later hq)
        replace HT:=Lib.hid (HT.out.kept hq)
        replace HC:=Lib.hid (HC.out.kept hq)
        replace HR:=Lib.hid (StrsIn.kept HR.out hq)
        replace hb:=hb.trans (hq.mono hb.size)
        clear hq
        obtain ⟨y0,y1,y2,y3,_⟩:=HX.out.cells
        go_wp2_with fail
        clear y0 y1 y2 y3
        have hs:=ref_eval_calls t w4 _ _ HT.out HR.out
        rw [HE.out] at hs
        refine Calls.mono (hs) ?_
        rintro e w5 ⟨rfl,hq⟩
        clear hs
        replace HX:=Lib.hid (HX.out.later hq)
        replace HT:=Lib.hid (HT.out.kept hq)
        replace HC:=Lib.hid (HC.out.kept hq)
        replace HR:=Lib.hid (StrsIn.kept HR.out hq)
        replace hb:=hb.trans (hq.mono hb.size)
        clear hq
        have hB:=hb.size
        have HRI:=right_calls cv
        rw [hri] at HRI
        have HKI:=kind_calls cv
        go_wp2_with (first|(go_at_call 16;refine HRI.step (w0:=w) (B:=w.heap.size) hb hB ?_;clear hb hB;intro w6 hb hB)|(go_at_call 17;refine HKI.step (w0:=w) (B:=w.heap.size) hb hB ?_;clear hb hB;intro w7 hb hB)|(go_at_call 8;refine HAW.out.step (w0:=w) (B:=w.heap.size) hb hB ?_;clear hb hB;intro wa hb hB))
        go_ret
        exact ⟨rfl,hb⟩
     ·have dki:(kindI cv != qk)=false:=by simp [hki]
      by_cases k1:qk=98
      ·have d1:(qk==98)=true:=by simp [k1]
       rw [d1,Bool.true_or] at hko
       clear k1 hki
       cases hem:cv.toList.isEmpty
       all_goals
        go_enter Try.func4,Try.ntmps4
        go_wp2_with fail
        refine (HG.out _ hb).stepB (w0:=w) (B:=w.heap.size) hb hB ?_
        clear hb hB
        intro wg hb hB hq
        replace HX:=Lib.hid (HX.out.later hq)
        clear hq
        go_wp2_with fail
        refine (HRT.out _ hb).stepB (w0:=w) (B:=w.heap.size) hb hB ?_
        clear hb hB
        intro wr hb hB hq
        replace HX:=Lib.hid (HX.out.later hq)
        clear hq
        go_wp2_with fail
        refine (HRO.out _ hb).stepB (w0:=w) (B:=w.heap.size) hb hB ?_
        clear hb hB
        intro wo hb hB hq
        replace HX:=Lib.hid (HX.out.later hq)
        clear hq
        replace HT:=Lib.hid (HT.out.kept hb)
        replace HC:=Lib.hid (HC.out.kept hb)
        replace HR:=Lib.hid (StrsIn.kept HR.out hb)
        clear hB HG HRT HRO
        obtain ⟨y0,y1,y2,y3,_⟩:=HX.out.cells
        go_wp2_with fail
        clear y0 y1 y2 y3
        have hs:=kinds_of_calls t HSZ.out HT.out HC.out
        rw [HQ.out] at hs
        refine Calls.mono (hs) ?_
        rintro e w3 ⟨rfl,hq⟩
        clear hs
        replace HX:=Lib.hid (HX.out.later hq)
        replace HT:=Lib.hid (HT.out.kept hq)
        replace HC:=Lib.hid (HC.out.kept hq)
        replace HR:=Lib.hid (StrsIn.kept HR.out hq)
        replace hb:=hb.trans (hq.mono hb.size)
        clear hq
        obtain ⟨y0,y1,y2,y3,_⟩:=HX.out.cells
        go_wp2_with fail
        clear y0 y1 y2 y3
        have hs:=kinds_where_calls t HSZ.out HT.out HC.out
        rw [HW.out] at hs
        refine Calls.mono (hs) ?_
        rintro e w4 ⟨rfl,hq⟩
        clear hs
        replace HX:=Lib.hid (HX.out.later hq)
        replace HT:=Lib.hid (HT.out.kept hq)
        replace HC:=Lib.hid (HC.out.kept hq)
        replace HR:=Lib.hid (StrsIn.kept HR.out hq)
        replace hb:=hb.trans (hq.mono hb.size)
        clear hq
        obtain ⟨y0,y1,y2,y3,_⟩:=HX.out.cells
        go_wp2_with fail
        clear y0 y1 y2 y3
        have hs:=ref_eval_calls t w4 _ _ HT.out HR.out
        rw [HE.out] at hs
        refine Calls.mono (hs) ?_
        rintro e w5 ⟨rfl,hq⟩
        clear hs
        replace HX:=Lib.hid (HX.out.later hq)
        replace HT:=Lib.hid (HT.out.kept hq)
        replace HC:=Lib.hid (HC.out.kept hq)
        replace HR:=Lib.hid (StrsIn.kept HR.out hq)
        replace hb:=hb.trans (hq.mono hb.size)
        clear hq
        have hB:=hb.size
        have HRI:=right_calls cv
        rw [hri] at HRI
        have HKI:=kind_calls cv
        go_wp2_with (first|(go_at_call 16;refine HRI.step (w0:=w) (B:=w.heap.size) hb hB ?_;clear hb hB;intro w6 hb hB)|(go_at_call 17;refine HKI.step (w0:=w) (B:=w.heap.size) hb hB ?_;clear hb hB;intro w7 hb hB)|(go_at_call 8;refine HAW.out.step (w0:=w) (B:=w.heap.size) hb hB ?_;clear hb hB;intro wa hb hB))
        go_ret
        exact ⟨rfl,hb⟩
      ·have d1:(qk==98)=false:=by simp [k1]
       rw [d1,Bool.false_or] at hko
       clear k1 hki
       cases hem:cv.toList.isEmpty
       all_goals
        cases hk0:(qk==0)
        all_goals
         rw [hk0] at hko
         go_enter Try.func4,Try.ntmps4
         go_wp2_with fail
         refine (HG.out _ hb).stepB (w0:=w) (B:=w.heap.size) hb hB ?_
         clear hb hB
         intro wg hb hB hq
         replace HX:=Lib.hid (HX.out.later hq)
         clear hq
         go_wp2_with fail
         refine (HRT.out _ hb).stepB (w0:=w) (B:=w.heap.size) hb hB ?_
         clear hb hB
         intro wr hb hB hq
         replace HX:=Lib.hid (HX.out.later hq)
         clear hq
         go_wp2_with fail
         refine (HRO.out _ hb).stepB (w0:=w) (B:=w.heap.size) hb hB ?_
         clear hb hB
         intro wo hb hB hq
         replace HX:=Lib.hid (HX.out.later hq)
         clear hq
         replace HT:=Lib.hid (HT.out.kept hb)
         replace HC:=Lib.hid (HC.out.kept hb)
         replace HR:=Lib.hid (StrsIn.kept HR.out hb)
         clear hB HG HRT HRO
         obtain ⟨y0,y1,y2,y3,_⟩:=HX.out.cells
         go_wp2_with fail
         clear y0 y1 y2 y3
         have hs:=kinds_of_calls t HSZ.out HT.out HC.out
         rw [HQ.out] at hs
         refine Calls.mono (hs) ?_
         rintro e w3 ⟨rfl,hq⟩
         clear hs
         replace HX:=Lib.hid (HX.out.later hq)
         replace HT:=Lib.hid (HT.out.kept hq)
         replace HC:=Lib.hid (HC.out.kept hq)
         replace HR:=Lib.hid (StrsIn.kept HR.out hq)
         replace hb:=hb.trans (hq.mono hb.size)
         clear hq
         obtain ⟨y0,y1,y2,y3,_⟩:=HX.out.cells
         go_wp2_with fail
         clear y0 y1 y2 y3
         have hs:=kinds_where_calls t HSZ.out HT.out HC.out
         rw [HW.out] at hs
         refine Calls.mono (hs) ?_
         rintro e w4 ⟨rfl,hq⟩
         clear hs
         replace HX:=Lib.hid (HX.out.later hq)
         replace HT:=Lib.hid (HT.out.kept hq)
         replace HC:=Lib.hid (HC.out.kept hq)
         replace HR:=Lib.hid (StrsIn.kept HR.out hq)
         replace hb:=hb.trans (hq.mono hb.size)
         clear hq
         obtain ⟨y0,y1,y2,y3,_⟩:=HX.out.cells
         go_wp2_with fail
         clear y0 y1 y2 y3
         have hs:=ref_eval_calls t w4 _ _ HT.out HR.out
         rw [HE.out] at hs
         refine Calls.mono (hs) ?_
         rintro e w5 ⟨rfl,hq⟩
         clear hs
         replace HX:=Lib.hid (HX.out.later hq)
         replace HT:=Lib.hid (HT.out.kept hq)
         replace HC:=Lib.hid (HC.out.kept hq)
         replace HR:=Lib.hid (StrsIn.kept HR.out hq)
         replace hb:=hb.trans (hq.mono hb.size)
         clear hq
         have hB:=hb.size
         have HRI:=right_calls cv
         rw [hri] at HRI
         have HKI:=kind_calls cv
         go_wp2_with (first|(go_at_call 16;refine HRI.step (w0:=w) (B:=w.heap.size) hb hB ?_;clear hb hB;intro w6 hb hB)|(go_at_call 17;refine HKI.step (w0:=w) (B:=w.heap.size) hb hB ?_;clear hb hB;intro w7 hb hB)|(go_at_call 8;refine HAW.out.step (w0:=w) (B:=w.heap.size) hb hB ?_;clear hb hB;intro wa hb hB))
         go_ret
         exact ⟨rfl,hb⟩
    ·have HZ:=Lib.hid (HKE.out hz)
     have d1:(qe != 0)=true:=by simp [hz]
     have d2:(wk==qe)=true:=by simp [HZ.out.2]
     have d3:(qk==0)=true:=by simp [HZ.out.1]
     clear hz HKH HKO HKE HZ
     go_enter Try.func4,Try.ntmps4
     go_wp2_with fail
     refine (HG.out _ hb).stepB (w0:=w) (B:=w.heap.size) hb hB ?_
     clear hb hB
     intro wg hb hB hq
     replace HX:=Lib.hid (HX.out.later hq)
     clear hq
     go_wp2_with fail
     refine (HRT.out _ hb).stepB (w0:=w) (B:=w.heap.size) hb hB ?_
     clear hb hB
     intro wr hb hB hq
     replace HX:=Lib.hid (HX.out.later hq)
     clear hq
     go_wp2_with fail
     refine (HRO.out _ hb).stepB (w0:=w) (B:=w.heap.size) hb hB ?_
     clear hb hB
     intro wo hb hB hq
     replace HX:=Lib.hid (HX.out.later hq)
     clear hq
     replace HT:=Lib.hid (HT.out.kept hb)
     replace HC:=Lib.hid (HC.out.kept hb)
     replace HR:=Lib.hid (StrsIn.kept HR.out hb)
     clear hB HG HRT HRO
     obtain ⟨y0,y1,y2,y3,_⟩:=HX.out.cells
     go_wp2_with fail
     clear y0 y1 y2 y3
     have hs:=kinds_of_calls t HSZ.out HT.out HC.out
     rw [HQ.out] at hs
     refine Calls.mono (hs) ?_
     rintro e w3 ⟨rfl,hq⟩
     clear hs
     replace HX:=Lib.hid (HX.out.later hq)
     replace HT:=Lib.hid (HT.out.kept hq)
     replace HC:=Lib.hid (HC.out.kept hq)
     replace HR:=Lib.hid (StrsIn.kept HR.out hq)
     replace hb:=hb.trans (hq.mono hb.size)
     clear hq
     obtain ⟨y0,y1,y2,y3,_⟩:=HX.out.cells
     go_wp2_with fail
     clear y0 y1 y2 y3
     have hs:=kinds_where_calls t HSZ.out HT.out HC.out
     rw [HW.out] at hs
     refine Calls.mono (hs) ?_
     rintro e w4 ⟨rfl,hq⟩
     clear hs
     replace HX:=Lib.hid (HX.out.later hq)
     replace HT:=Lib.hid (HT.out.kept hq)
     replace HC:=Lib.hid (HC.out.kept hq)
     replace HR:=Lib.hid (StrsIn.kept HR.out hq)
     replace hb:=hb.trans (hq.mono hb.size)
     clear hq
     have hB:=hb.size
     go_wp2_with (go_at_call 8;refine HAW.out.step (w0:=w) (B:=w.heap.size) hb hB ?_;clear hb hB;intro wa hb hB)
     go_ret
     exact ⟨rfl,hb⟩
   ·have d0:(rowN cols row != 0)=true:=by simp [hrow]
    clear hrow
    go_enter Try.func4,Try.ntmps4
    go_wp2_with (first|(go_at_call 7;refine (HG.out _ hb).step (w0:=w) (B:=w.heap.size) hb hB ?_;clear hb hB;intro wg hb hB)|(go_at_call 13;refine (HRT.out _ hb).step (w0:=w) (B:=w.heap.size) hb hB ?_;clear hb hB;intro wr hb hB)|(go_at_call 14;refine (HRO.out _ hb).step (w0:=w) (B:=w.heap.size) hb hB ?_;clear hb hB;intro wo hb hB)|(go_at_call 8;refine HAW.out.step (w0:=w) (B:=w.heap.size) hb hB ?_;clear hb hB;intro wa hb hB))
    go_ret
    exact ⟨rfl,hb⟩
end Go.Proofs.Ytegpikfgajoopaa
