/- The contracts of layer 11's own Minus and Int. -/
import Derived.Test.YtopeeokjfaampaaGZWideRefC
import Derived.Test.YtopeeokjfaampaaGZWideSum
namespace Go.Proofs.Ytopeeokjfaampaa
open Go Go.RowKit
set_option maxHeartbeats 2000000 in
theorem wide_int_calls {a:Wd}(ha:InW a):Gives Try.prog 31 #[wV a] (.tuple #[.int .i64 (intD a),.int .i64 (errD a)]):=by
 intro w
 obtain ⟨hb,hB⟩:=start w
 have hw:=wrap64_in a.2
 have H1:=Lib.hid (wide_of_calls (wrap64 a.2) hw.1 hw.2)
 have hiff:=fits_iff ha
 have hint:=int_of ha
 obtain ⟨o,ho⟩:∃ o,ofD (wrap64 a.2)=o:=⟨_,rfl⟩
 rw [ho] at H1 hiff
 have HF:Hid (o≠a→fitsD a=false):=fun h=>by
  cases hf:fitsD a with
  | false=>rfl
  | true=>exact absurd (hiff.1 hf) h
 have HT:Hid (o=a→fitsD a=true):=fun h=>hiff.2 h
 have HI:=Lib.hid hint
 have HE1:Hid (fitsD a=true→errD a=0):=fun h=>by unfold errD;rw [h];rfl
 have HE0:Hid (fitsD a=false→errD a=7∧intD a=0):=fun h=>by unfold errD intD;rw [h];exact ⟨rfl,rfl⟩
 clear hiff hint ho hw ha
 obtain ⟨a1,a2⟩:=a
 obtain ⟨o1,o2⟩:=o
 unfold wV at *
 dsimp only at *
 have x0:(w.alloc (.cells #[.int .i64 a1,.int .u64 a2] 53)).cell? ⟨w.heap.size,0,none⟩=some (.int .i64 a1):=by simp [go_sem]
 have x1:(w.alloc (.cells #[.int .i64 a1,.int .u64 a2] 53)).cell? ⟨w.heap.size,1,none⟩=some (.int .u64 a2):=by simp [go_sem]
 have hb2:=(below_alloc hb hB (.cells #[.int .i64 a1,.int .u64 a2] 53)).1
 by_cases he:o1=a1∧o2=a2
 ·obtain ⟨rfl,rfl⟩:=he
  have hf:=HT.out rfl
  have HR:=Lib.hid (HI.out hf)
  have HE:=Lib.hid (HE1.out hf)
  clear HT HF HI HE1 HE0 hf
  go_enter Try.func31,Try.ntmps31
  go_wp2
  generalize w.alloc (.cells #[.int .i64 o1,.int .u64 o2] 53)=w2 at *
  have b0:=fun d os=>cell_regrown x0 d os
  have b1:=fun d os=>cell_regrown x1 d os
  refine wp_region_quiet_below (by kernel_rfl) (by kernel_rfl) ?_
  repeat (first|go_big_quiet_skip|(go_big_quiet_want;go_big_quiet_op;first|go_big_quiet_on|(apply Exists.intro;refine ⟨fun _=>?_,?_⟩;(first|(go_at_call 27;exact Calls.regrown_of (H1.out _)));go_big_quiet_on)))
  refine wpQuiet_nil ?_
  rintro w3 ⟨p,hw3⟩
  have hbq:Below w2.heap.size w2 w3:=hw3▸below_regrown w2 p.d p.os
  clear hw3 b0 b1
  have z1:=cell_kept x1 hbq
  go_wp2
  go_ret2
  exact ⟨by rw [HR.out,HE.out];rfl,hb2.trans (hbq.mono hb2.size)⟩
 ·have hf:=HF.out (fun e=>he ⟨congrArg Prod.fst e,congrArg Prod.snd e⟩)
  have HR:=Lib.hid (HE0.out hf)
  clear HT HF HI HE1 HE0 hf
  by_cases h1:o1=a1
  ·have h2:¬o2=a2:=fun e=>he ⟨h1,e⟩
   subst h1
   have d2:(o2==a2)=false:=by rw [beq_eq_false_iff_ne];exact h2
   clear he
   go_enter Try.func31,Try.ntmps31
   go_wp2
   generalize w.alloc (.cells #[.int .i64 o1,.int .u64 a2] 53)=w2 at *
   have b0:=fun d os=>cell_regrown x0 d os
   have b1:=fun d os=>cell_regrown x1 d os
   refine wp_region_quiet_below (by kernel_rfl) (by kernel_rfl) ?_
   repeat (first|go_big_quiet_skip|(go_big_quiet_want;go_big_quiet_op;first|go_big_quiet_on|(apply Exists.intro;refine ⟨fun _=>?_,?_⟩;(first|(go_at_call 27;exact Calls.regrown_of (H1.out _)));go_big_quiet_on)))
   refine wpQuiet_nil ?_
   rintro w3 ⟨p,hw3⟩
   have hbq:Below w2.heap.size w2 w3:=hw3▸below_regrown w2 p.d p.os
   clear hw3 b0 b1
   go_wp2
   go_ret2
   exact ⟨by rw [HR.out.1,HR.out.2];rfl,hb2.trans (hbq.mono hb2.size)⟩
  ·have d1:(o1==a1)=false:=by rw [beq_eq_false_iff_ne];exact h1
   clear he
   go_enter Try.func31,Try.ntmps31
   go_wp2
   generalize w.alloc (.cells #[.int .i64 a1,.int .u64 a2] 53)=w2 at *
   have b0:=fun d os=>cell_regrown x0 d os
   have b1:=fun d os=>cell_regrown x1 d os
   refine wp_region_quiet_below (by kernel_rfl) (by kernel_rfl) ?_
   repeat (first|go_big_quiet_skip|(go_big_quiet_want;go_big_quiet_op;first|go_big_quiet_on|(apply Exists.intro;refine ⟨fun _=>?_,?_⟩;(first|(go_at_call 27;exact Calls.regrown_of (H1.out _)));go_big_quiet_on)))
   refine wpQuiet_nil ?_
   rintro w3 ⟨p,hw3⟩
   have hbq:Below w2.heap.size w2 w3:=hw3▸below_regrown w2 p.d p.os
   clear hw3 b0 b1
   go_wp2
   go_ret2
   exact ⟨by rw [HR.out.1,HR.out.2];rfl,hb2.trans (hbq.mono hb2.size)⟩
end Go.Proofs.Ytopeeokjfaampaa
