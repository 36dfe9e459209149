/- The law KindsTells of layer 16. -/
import Derived.Test.YtegpikfgajoopaaGBlockUnder
import Derived.Test.YtegpikfgajoopaaGOpen
import Derived.Test.YtegpikfgajoopaaGShapeZ
import Derived.Test.YtegpikfgajoopaaGZKindsAwake
namespace Go.Proofs.Ytegpikfgajoopaa
open Go Go.RowKit
set_option maxHeartbeats 8000000 in
theorem kindsTells_calls {w:World}{vt vc:Value}{t:Trm}{cols:List (Int×Bool)}(ht:TermIn w vt t)(hc:ColsIn w vc cols):GivesAt Try.prog 3 #[vt,vc] w (.bool true):=by
 have hmc:=hc.len
 unfold maxLen at hmc
 have HAW:=Lib.hid awake16_calls
 have HT:=Lib.hid ht
 have HC:=Lib.hid hc
 have HG:Hid (∀ W,Below w.heap.size w W→GivesAt Try.prog 7 #[vt,.int .i64 0] W (.bool (greatK 0 t))):=fun W hW=>great16_calls t W vt 0 (by decide) (ht.kept hW)
 obtain ⟨A,cap,rfl⟩:=ht.parts15
 obtain ⟨Ac,pc,rfl,-⟩:=cols_at hc
 have hb:Below w.heap.size w (w.alloc (.cells #[.int .u8 t.op,.int .i64 t.col,.string t.cell,.slice A t.kids.length cap] 24)):=Below.alloc (.refl w.heap.size w) (Nat.le_refl _) _
 have hB:=hb.size
 have HX:=Lib.hid (trmbox_lit w 24 t.op t.col t.cell (.slice A t.kids.length cap))
 clear ht hc
 unfold GivesAt
 cases hg:greatK 0 t with
 | true =>
  rw [hg] at HG
  clear hg
  go_enter Try.func3,Try.ntmps3
  go_wp2_with (first|(go_at_call 7;refine (HG.out _ hb).step (w0:=w) (B:=w.heap.size) hb hB ?_;clear hb hB;intro wg hb hB)|(go_at_call 8;refine HAW.out.step (w0:=w) (B:=w.heap.size) hb hB ?_;clear hb hB;intro wa hb hB))
  go_ret
  exact ⟨rfl,hb⟩
 | false =>
  have HSZ:Hid (sizeT t≤1000):=Lib.hid (by have:=greatK_size t 0 hg;omega)
  rw [hg] at HG
  clear hg
  by_cases h20:cols.length≤20
  ·have d20:decide ((20:Int) < (cols.length:Int))=false:=decide_eq_false (by omega)
   obtain ⟨q,hq⟩:∃ q,kindK cols t=q:=⟨_,rfl⟩
   have HQ:=Lib.hid hq
   obtain ⟨qk,qe⟩:=q
   clear hq
   go_enter Try.func3,Try.ntmps3
   go_wp2_with fail
   refine (HG.out _ hb).stepB (w0:=w) (B:=w.heap.size) hb hB ?_
   clear hb hB
   intro wg hb hB hq
   replace HX:=Lib.hid (HX.out.later hq)
   replace HT:=Lib.hid (HT.out.kept hb)
   replace HC:=Lib.hid (HC.out.kept hb)
   clear hq hB HG
   obtain ⟨y0,y1,y2,y3,_⟩:=HX.out.cells
   go_wp2_with fail
   clear y0 y1 y2 y3
   have hs:=kinds_of_calls t HSZ.out HT.out HC.out
   rw [HQ.out] at hs
   refine Calls.mono (hs) ?_
   rintro e w3 ⟨rfl,hq⟩
   clear hs
   replace HX:=Lib.hid (HX.out.later hq)
   replace HT:=Lib.hid (HT.out.kept hq)
   replace HC:=Lib.hid (HC.out.kept hq)
   replace hb:=hb.trans (hq.mono hb.size)
   clear hq
   obtain ⟨y0,y1,y2,y3,_⟩:=HX.out.cells
   go_wp2_with fail
   clear y0 y1 y2 y3
   have hs:=ref_Of16_calls t HT.out HC.out
   rw [HQ.out] at hs
   refine Calls.mono (hs) ?_
   rintro e w4 ⟨rfl,hq⟩
   clear hs
   replace HX:=Lib.hid (HX.out.later hq)
   replace HT:=Lib.hid (HT.out.kept hq)
   replace HC:=Lib.hid (HC.out.kept hq)
   replace hb:=hb.trans (hq.mono hb.size)
   clear hq
   go_wp2_with fail
   have HB:=Lib.hid hb
   clear hb
   refine wp_region_calm (offC w4) (fun _=>false) (fun _=>false) anyE false (by kernel_rfl) (by kernel_rfl) (by kernel_rfl) (by kernel_rfl) (by intro m hm;revert hm;simp;try omega) (offC_stable _) (offC_start _) ?_
   refine calm_fixA rfl rfl ?_
   apply Exists.intro
   refine ⟨fun a wz hc hk hf K hK=>?_,?_⟩
   ·have hb:Below w4.heap.size w4 wz:=hc rfl
    clear hk hf hc
    go_simp
    refine Calls.mono (HAW.out wz) ?_
    rintro e w1 ⟨rfl,hq⟩
    exact hK _ _ hq rfl
   refine calm_fixA rfl rfl ?_
   apply Exists.intro
   refine ⟨fun a wz hc hk hf K hK=>?_,?_⟩
   ·have h29:=held_isV hf 0 rfl (by kernel_rfl)
    clear hk hf hc
    go_simp
    exact hK _ _ (Below.refl _ _) rfl
   refine calm_fixA rfl rfl ?_
   apply Exists.intro
   refine ⟨fun a wz hc hk hf K hK=>?_,?_⟩
   ·have h5:=hk 5 (by kernel_rfl)
    have h30:=held_isV hf 0 rfl (by kernel_rfl)
    clear hk hf hc
    go_simp
    exact hK _ _ (Below.refl _ _) rfl
   refine calm_fixA rfl rfl ?_
   apply Exists.intro
   refine ⟨fun a wz hc hk hf K hK=>?_,?_⟩
   ·have h7:=hk 7 (by kernel_rfl)
    have h30:=held_isV hf 1 rfl (by kernel_rfl)
    clear hk hf hc
    go_simp
    exact hK _ _ (Below.refl _ _) rfl
   refine calm_fixA rfl rfl ?_
   apply Exists.intro
   refine ⟨fun a wz hc hk hf K hK=>?_,?_⟩
   ·have h31:=held_isV hf 1 rfl (by kernel_rfl)
    have h32:=held_isV hf 0 rfl (by kernel_rfl)
    have h30:=held_isV hf 2 rfl (by kernel_rfl)
    clear hk hf hc
    go_simp
    exact hK _ _ (Below.refl _ _) rfl
   refine calm_fixA rfl rfl ?_
   apply Exists.intro
   refine ⟨fun a wz hc hk hf K hK=>?_,?_⟩
   ·have h30:=held_isV hf 3 rfl (by kernel_rfl)
    have h33:=held_isV hf 0 rfl (by kernel_rfl)
    clear hk hf hc
    go_simp
    exact hK _ _ (Below.refl _ _) rfl
   refine calm_fixA rfl rfl ?_
   apply Exists.intro
   refine ⟨fun a wz hc hk hf K hK=>?_,?_⟩
   ·have h34:=held_isV hf 0 rfl (by kernel_rfl)
    clear hk hf hc
    go_simp
    exact hK _ _ (Below.refl _ _) rfl
   refine calm_fixA rfl rfl ?_
   apply Exists.intro
   refine ⟨fun a wz hc hk hf K hK=>?_,?_⟩
   ·have h6:=hk 6 (by kernel_rfl)
    have h35:=held_isV hf 0 rfl (by kernel_rfl)
    clear hk hf hc
    go_simp
    exact hK _ _ (Below.refl _ _) rfl
   refine calm_fixA rfl rfl ?_
   apply Exists.intro
   refine ⟨fun a wz hc hk hf K hK=>?_,?_⟩
   ·have h8:=hk 8 (by kernel_rfl)
    have h35:=held_isV hf 1 rfl (by kernel_rfl)
    clear hk hf hc
    go_simp
    exact hK _ _ (Below.refl _ _) rfl
   refine calm_fixA rfl rfl ?_
   apply Exists.intro
   refine ⟨fun a wz hc hk hf K hK=>?_,?_⟩
   ·have h36:=held_isV hf 1 rfl (by kernel_rfl)
    have h37:=held_isV hf 0 rfl (by kernel_rfl)
    have h35:=held_isV hf 2 rfl (by kernel_rfl)
    clear hk hf hc
    go_simp
    exact hK _ _ (Below.refl _ _) rfl
   refine calm_fixA rfl rfl ?_
   apply Exists.intro
   refine ⟨fun a wz hc hk hf K hK=>?_,?_⟩
   ·have h35:=held_isV hf 3 rfl (by kernel_rfl)
    have h38:=held_isV hf 0 rfl (by kernel_rfl)
    clear hk hf hc
    go_simp
    exact hK _ _ (Below.refl _ _) rfl
   refine calm_fixA rfl rfl ?_
   apply Exists.intro
   refine ⟨fun a wz hc hk hf K hK=>?_,?_⟩
   ·have h39:=held_isV hf 0 rfl (by kernel_rfl)
    clear hk hf hc
    go_simp
    exact hK _ _ (Below.refl _ _) rfl
   refine calm_fixA rfl rfl ?_
   apply Exists.intro
   refine ⟨fun a wz hc hk hf K hK=>?_,?_⟩
   ·have hb:Below w4.heap.size w4 wz:=hc rfl
    have h2:=hk 2 (by kernel_rfl)
    have h40:=held_isV hf 0 rfl (by kernel_rfl)
    clear hk hf hc
    obtain ⟨y0,y1,y2,y3,_⟩:=(HX.out.later hb).cells
    go_simp
    exact hK _ _ (Below.refl _ _) rfl
   refine calm_fixA rfl rfl ?_
   apply Exists.intro
   refine ⟨fun a wz hc hk hf K hK=>?_,?_⟩
   ·have h1:=hk 1 (by kernel_rfl)
    have h40:=held_isV hf 1 rfl (by kernel_rfl)
    clear hk hf hc
    go_simp
    exact hK _ _ (Below.refl _ _) rfl
   refine calm_fixA rfl rfl ?_
   apply Exists.intro
   refine ⟨fun a wz hc hk hf K hK=>?_,?_⟩
   ·have hb:Below w4.heap.size w4 wz:=hc rfl
    have h41:=held_isV hf 1 rfl (by kernel_rfl)
    have h42:=held_isV hf 0 rfl (by kernel_rfl)
    have h40:=held_isV hf 2 rfl (by kernel_rfl)
    clear hk hf hc
    have hs:=kinds_where_calls t HSZ.out (HT.out.kept hb) (HC.out.kept hb)
    go_simp
    refine Calls.mono (hs) ?_
    rintro e w1 ⟨rfl,hq⟩
    exact hK _ _ hq rfl
   refine calm_fixA rfl rfl ?_
   apply Exists.intro
   refine ⟨fun a wz hc hk hf K hK=>?_,?_⟩
   ·have hb:Below w4.heap.size w4 wz:=hc rfl
    have h2:=hk 2 (by kernel_rfl)
    have h40:=held_isV hf 3 rfl (by kernel_rfl)
    clear hk hf hc
    obtain ⟨y0,y1,y2,y3,_⟩:=(HX.out.later hb).cells
    go_simp
    exact hK _ _ (Below.refl _ _) rfl
   refine calm_fixA rfl rfl ?_
   apply Exists.intro
   refine ⟨fun a wz hc hk hf K hK=>?_,?_⟩
   ·have h1:=hk 1 (by kernel_rfl)
    have h40:=held_isV hf 4 rfl (by kernel_rfl)
    clear hk hf hc
    go_simp
    exact hK _ _ (Below.refl _ _) rfl
   refine calm_fixA rfl rfl ?_
   apply Exists.intro
   refine ⟨fun a wz hc hk hf K hK=>?_,?_⟩
   ·have hb:Below w4.heap.size w4 wz:=hc rfl
    have h44:=held_isV hf 1 rfl (by kernel_rfl)
    have h45:=held_isV hf 0 rfl (by kernel_rfl)
    have h40:=held_isV hf 5 rfl (by kernel_rfl)
    clear hk hf hc
    have hs:=ref_Where16_calls t (HT.out.kept hb) (HC.out.kept hb)
    go_simp
    refine Calls.mono (hs) ?_
    rintro e w1 ⟨rfl,hq⟩
    exact hK _ _ hq rfl
   refine calm_fixA rfl rfl ?_
   apply Exists.intro
   refine ⟨fun a wz hc hk hf K hK=>?_,?_⟩
   ·have h43:=held_isV hf 3 rfl (by kernel_rfl)
    have h46:=held_isV hf 0 rfl (by kernel_rfl)
    have h40:=held_isV hf 6 rfl (by kernel_rfl)
    clear hk hf hc
    go_simp
    exact hK _ _ (Below.refl _ _) rfl
   refine calm_fixA rfl rfl ?_
   apply Exists.intro
   refine ⟨fun a wz hc hk hf K hK=>?_,?_⟩
   ·have h40:=held_isV hf 7 rfl (by kernel_rfl)
    have h47:=held_isV hf 0 rfl (by kernel_rfl)
    clear hk hf hc
    go_simp
    exact hK _ _ (Below.refl _ _) rfl
   refine calm_fixA rfl rfl ?_
   apply Exists.intro
   refine ⟨fun a wz hc hk hf K hK=>?_,?_⟩
   ·have h48:=held_isV hf 0 rfl (by kernel_rfl)
    clear hk hf hc
    go_simp
    exact hK _ _ (Below.refl _ _) rfl
   refine calm_nil ?_
   refine ⟨keeps_none,?_⟩
   intro w5 hc
   simp only [lexL,calmEnd]
   rintro _ rfl _ rfl _ rfl _ rfl _ rfl _ rfl _ rfl _ rfl _ rfl _ rfl _ rfl _ rfl _ rfl _ rfl _ rfl _ rfl _ rfl _ rfl _ rfl _ rfl _ rfl
   have hq:Below w4.heap.size w4 w5:=hc rfl
   have hb:=HB.out
   clear hc 
   simp only [Act.put,List.setIfInBounds_toArray,List.set_cons_zero,List.set_cons_succ]
   replace HX:=Lib.hid (HX.out.later hq)
   replace HT:=Lib.hid (HT.out.kept hq)
   replace HC:=Lib.hid (HC.out.kept hq)
   replace hb:=hb.trans (hq.mono hb.size)
   clear hq
   go_wp2
   go_ret
   exact ⟨rfl,hb⟩
  ·have d20:decide ((20:Int) < (cols.length:Int))=true:=decide_eq_true (by omega)
   go_enter Try.func3,Try.ntmps3
   go_wp2_with (first|(go_at_call 7;refine (HG.out _ hb).step (w0:=w) (B:=w.heap.size) hb hB ?_;clear hb hB;intro wg hb hB)|(go_at_call 8;refine HAW.out.step (w0:=w) (B:=w.heap.size) hb hB ?_;clear hb hB;intro wa hb hB))
   go_ret
   exact ⟨rfl,hb⟩
end Go.Proofs.Ytegpikfgajoopaa
