/- The contracts of layer 16's answer: Of, Where. -/
import Derived.Test.YtegpikfgajoopaaGZKindsRef
namespace Go.Proofs.Ytegpikfgajoopaa
open Go Go.RowKit
theorem ref_Of16_calls {cols:List (Int×Bool)}(t:Trm){w:World}{v cv:Value}(ht:TermIn w v t)(hc:ColsIn w cv cols):GivesAt Try.prog 10 #[v,cv] w (.tuple #[.int .u8 (kindK cols t).1,.int .i64 (kindK cols t).2]):=by
 have HSZ:Hid (∀ W,Below w.heap.size w W→GivesAt Try.prog 18 #[v] W (.int .i64 (wrap64 (sizeT t:Nat)))):=fun W hW=>ref_size_calls t W v (ht.kept hW)
 have HOF:Hid (∀ W,Below w.heap.size w W→GivesAt Try.prog 24 #[v,cv] W (.tuple #[.int .u8 (ofK cols t).1,.int .i64 (ofK cols t).2])):=fun W hW=>ref_of16_calls t W v cv (ht.kept hW) (hc.kept hW)
 obtain ⟨A,cap,rfl⟩:=ht.parts15
 obtain ⟨Ac,pc,rfl,-⟩:=cols_at hc
 have hb:Below w.heap.size w (w.alloc (.cells #[.int .u8 t.op,.int .i64 t.col,.string t.cell,.slice A t.kids.length cap] 24)):=Below.alloc (.refl w.heap.size w) (Nat.le_refl _) _
 have hB:=hb.size
 have HX:=Lib.hid (trmbox_lit w 24 t.op t.col t.cell (.slice A t.kids.length cap))
 unfold GivesAt
 have hv:kindK cols t=if 30 < wrap64 (sizeT t:Nat) then (0,8) else ofK cols t:=rfl
 have HV:=Lib.hid hv
 clear ht hc hv
 generalize kindK cols t=r at *
 generalize wrap64 (sizeT t:Nat)=sz at *
 generalize ofK cols t=q at *
 by_cases h:30 < sz
 ·have HR:Hid (r=(0,8)):=Lib.hid (by rw [HV.out,if_pos h])
  have d1:decide (30 < sz)=true:=decide_eq_true h
  clear h HV
  go_enter Try.func10,Try.ntmps10
  go_wp2_with (go_at_call 18;refine (HSZ.out _ hb).step (w0:=w) (B:=w.heap.size) hb hB ?_;clear hb hB;intro w1 hb hB)
  go_ret2
  exact ⟨ret2_of (congrArg Prod.fst HR.out) (congrArg Prod.snd HR.out),hb⟩
 ·have HR:Hid (r=q):=Lib.hid (by rw [HV.out,if_neg h])
  have d1:decide (30 < sz)=false:=decide_eq_false h
  clear h HV
  go_enter Try.func10,Try.ntmps10
  go_wp2_with fail
  refine (HSZ.out _ hb).stepB (w0:=w) (B:=w.heap.size) hb hB ?_
  clear hb hB
  intro w1 hb hB hq
  obtain ⟨y0,y1,y2,y3,_⟩:=(HX.out.later hq).cells
  clear hq
  go_wp2_with (go_at_call 24;refine (HOF.out _ hb).step (w0:=w) (B:=w.heap.size) hb hB ?_;clear hb hB y0 y1 y2 y3;intro w2 hb hB)
  go_ret2
  exact ⟨ret2_of (congrArg Prod.fst HR.out) (congrArg Prod.snd HR.out),hb⟩
theorem ref_Where16_calls {cols:List (Int×Bool)}(t:Trm){w:World}{v cv:Value}(ht:TermIn w v t)(hc:ColsIn w cv cols):GivesAt Try.prog 12 #[v,cv] w (.int .i64 (whereK cols t)):=by
 have HOF:Hid (∀ W,Below w.heap.size w W→GivesAt Try.prog 10 #[v,cv] W (.tuple #[.int .u8 (kindK cols t).1,.int .i64 (kindK cols t).2])):=fun W hW=>ref_Of16_calls t (ht.kept hW) (hc.kept hW)
 obtain ⟨A,cap,rfl⟩:=ht.parts15
 obtain ⟨Ac,pc,rfl,-⟩:=cols_at hc
 have hb:Below w.heap.size w (w.alloc (.cells #[.int .u8 t.op,.int .i64 t.col,.string t.cell,.slice A t.kids.length cap] 24)):=Below.alloc (.refl w.heap.size w) (Nat.le_refl _) _
 have hB:=hb.size
 unfold GivesAt
 have hv:whereK cols t=if (kindK cols t).2=0 then (if fitK (kindK cols t).1 98=true then 0 else 5) else (kindK cols t).2:=rfl
 have HV:=Lib.hid hv
 clear ht hc hv
 generalize whereK cols t=r at *
 generalize kindK cols t=q at *
 obtain ⟨qk,qe⟩:=q
 dsimp only at HV HOF
 by_cases h:qe=0
 ·subst h
  cases hf:fitK qk 98 with
  | true =>
   have HF:=Lib.hid fun (W:World)=>hf▸ref_fit16_calls qk 98 W
   have HR:Hid (r=0):=Lib.hid (by rw [HV.out,if_pos rfl,hf,if_pos rfl])
   clear hf HV
   go_enter Try.func12,Try.ntmps12
   go_wp2_with (first|(go_at_call 10;refine (HOF.out _ hb).step (w0:=w) (B:=w.heap.size) hb hB ?_;clear hb hB;intro w1 hb hB)|(go_at_call 26;refine (HF.out _).step ?_))
   go_ret
   exact ⟨ret_int HR.out.symm,hb⟩
  | false =>
   have HF:=Lib.hid fun (W:World)=>hf▸ref_fit16_calls qk 98 W
   have HR:Hid (r=5):=Lib.hid (by rw [HV.out,if_pos rfl,hf,if_neg (by decide)])
   clear hf HV
   go_enter Try.func12,Try.ntmps12
   go_wp2_with (first|(go_at_call 10;refine (HOF.out _ hb).step (w0:=w) (B:=w.heap.size) hb hB ?_;clear hb hB;intro w1 hb hB)|(go_at_call 26;refine (HF.out _).step ?_))
   go_ret
   exact ⟨ret_int HR.out.symm,hb⟩
 ·have d1:(qe==0)=false:=by simp [h]
  have HR:Hid (r=qe):=Lib.hid (by rw [HV.out,if_neg h])
  clear h HV
  go_enter Try.func12,Try.ntmps12
  go_wp2_with (go_at_call 10;refine (HOF.out _ hb).step (w0:=w) (B:=w.heap.size) hb hB ?_;clear hb hB;intro w1 hb hB)
  go_ret
  exact ⟨ret_int HR.out.symm,hb⟩
end Go.Proofs.Ytegpikfgajoopaa
