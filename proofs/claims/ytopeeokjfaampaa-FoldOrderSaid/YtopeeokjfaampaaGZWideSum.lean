/- The contracts of layer 11's own Sum and Product. -/
import Derived.Test.YtopeeokjfaampaaGZWideFns
namespace Go.Proofs.Ytopeeokjfaampaa
open Go Go.RowKit
theorem three_boxes (w:World)(T:TypeId)(a b:Wd) :
  WBox (((w.alloc (.cells #[.int .i64 a.1,.int .u64 a.2] T)).alloc (.cells #[.int .i64 b.1,.int .u64 b.2] T)).alloc (.cells #[.int .i64 0,.int .u64 0] T)) w.heap.size a ∧
  WBox (((w.alloc (.cells #[.int .i64 a.1,.int .u64 a.2] T)).alloc (.cells #[.int .i64 b.1,.int .u64 b.2] T)).alloc (.cells #[.int .i64 0,.int .u64 0] T)) (w.heap.size+1) b ∧
  WBox (((w.alloc (.cells #[.int .i64 a.1,.int .u64 a.2] T)).alloc (.cells #[.int .i64 b.1,.int .u64 b.2] T)).alloc (.cells #[.int .i64 0,.int .u64 0] T)) (w.heap.size+1+1) (0,0) ∧
  Below w.heap.size w (((w.alloc (.cells #[.int .i64 a.1,.int .u64 a.2] T)).alloc (.cells #[.int .i64 b.1,.int .u64 b.2] T)).alloc (.cells #[.int .i64 0,.int .u64 0] T)):=by
 have h1:=wbox_lit w T a
 have h2:=wbox_lit (w.alloc (.cells #[.int .i64 a.1,.int .u64 a.2] T)) T b
 have h3:=wbox_zero ((w.alloc (.cells #[.int .i64 a.1,.int .u64 a.2] T)).alloc (.cells #[.int .i64 b.1,.int .u64 b.2] T)) T
 have q:∀ (w:World) (o:Obj),Below w.heap.size w (w.alloc o):=fun w o=>Below.alloc (.refl _ _) (Nat.le_refl _) o
 refine ⟨(h1.later (q _ _)).later (q _ _),?_,?_,?_⟩
 ·have:=h2.later (q _ (.cells #[.int .i64 0,.int .u64 0] T))
  simpa using this
 ·simpa using h3
 ·exact ((Below.alloc (.refl _ _) (Nat.le_refl _) _).alloc (by simp) _).alloc (by simp;omega) _
set_option maxHeartbeats 4000000 in
theorem wide_sum_calls {a b:Wd}(ha:InW a)(hb':InW b):Gives Try.prog 26 #[wV a,wV b] (wV (sumD a b)):=by
 intro w
 have HR:=Lib.hid (sumD_carry ha hb')
 have H1:=Lib.hid (wide_carry_calls ha.2.1 ha.2.2 hb'.2.1 hb'.2.2 rfl)
 obtain ⟨hx,hy,hz,hb2⟩:=three_boxes w 53 a b
 unfold wV
 generalize sumD a b=s at *
 obtain ⟨a1,a2⟩:=a
 obtain ⟨b1,b2⟩:=b
 clear ha hb'
 dsimp only at *
 go_enter Try.func26,Try.ntmps26
 go_wp2_with fail
 generalize ((w.alloc (.cells #[.int .i64 a1,.int .u64 a2] 53)).alloc (.cells #[.int .i64 b1,.int .u64 b2] 53)).alloc (.cells #[.int .i64 0,.int .u64 0] 53)=w2 at *
 obtain ⟨x0,x1,_⟩:=hx.cells
 obtain ⟨y0,y1,_⟩:=hy.cells
 dsimp only at x0 x1 y0 y1
 go_wp2_with fail
 have q0:=fun d os=>cell_regrown x0 d os
 have q1:=fun d os=>cell_regrown x1 d os
 have q2:=fun d os=>cell_regrown y0 d os
 have q3:=fun d os=>cell_regrown y1 d os
 clear x0 x1 y0 y1
 refine wp_region_quiet_below (by kernel_rfl) (by kernel_rfl) ?_
 repeat (first|go_big_quiet_skip|(go_big_quiet_want;go_big_quiet_op;first|go_big_quiet_on|(apply Exists.intro;refine ⟨fun _=>?_,?_⟩;(first|(go_at_call 35;exact Calls.regrown_of (H1.out _)));go_big_quiet_on)))
 refine wpQuiet_nil ?_
 rintro w3 ⟨p,hw3⟩
 have hbq:Below w2.heap.size w2 w3:=hw3▸below_regrown w2 p.d p.os
 clear hw3 q0 q1 q2 q3
 replace hz:=hz.later hbq
 replace hb2:=hb2.trans (hbq.mono hb2.size)
 clear hbq hx hy H1
 obtain ⟨z0,z1,f0,f1,_⟩:=hz.cells
 dsimp only at z0 z1 f0 f1
 generalize (a2+b2) / 18446744073709551616=c at *
 obtain ⟨q,hq⟩:∃ q,IntKind.u64.wrap (a2+b2)=q:=⟨_,rfl⟩
 obtain ⟨r,hr⟩:∃ r,wrap64 (IntKind.u64.wrap (IntKind.u64.wrap (IntKind.u64.wrap a1+IntKind.u64.wrap b1)+c))=r:=⟨_,rfl⟩
 rw [hq,hr] at HR
 go_wp2
 obtain ⟨z0,z1,_⟩:=(hz.put (r,q)).cells
 refine ⟨rfl,wV (r,q),?_,by rw [HR.out];rfl,put_below hb2 (by omega) (r,q)⟩
 simp [results,Try.results26,go_sem,z0,z1,wV]
set_option maxHeartbeats 4000000 in
theorem wide_product_calls {a b:Int}(h0 : -9223372036854775808≤a)(h1:a≤9223372036854775807)(g0 : -9223372036854775808≤b)(g1:b≤9223372036854775807) :
  Gives Try.prog 30 #[.int .i64 a,.int .i64 b] (wV (prodD a b)):=by
 intro w
 have hz:=wbox_zero w 53
 have hb:=Below.alloc (.refl _ _) (Nat.le_refl _) (.cells #[.int .i64 0,.int .u64 0] 53) (w:=w)
 obtain ⟨u,hu⟩:∃ u,IntKind.u64.wrap a=u:=⟨_,rfl⟩
 obtain ⟨v,hv⟩:∃ v,IntKind.u64.wrap b=v:=⟨_,rfl⟩
 have e:=prod_signs h0 h1 g0 g1 hu.symm hv.symm
 have hu':=hu
 have hv':=hv
 rw [IntKind.wrap_u64] at hu' hv'
 have u0:0≤u:=by omega
 have u1:u≤18446744073709551615:=by omega
 have v0:0≤v:=by omega
 have v1:v≤18446744073709551615:=by omega
 rw [←and_sign a v v0 v1,←and_sign b u u0 u1] at e
 have HR:=Lib.hid e
 have H1:=Lib.hid (wide_times_calls u0 u1 v0 v1)
 have H2:=Lib.hid (wide_signs_calls a h0 h1)
 have H3:=Lib.hid (wide_signs_calls b g0 g1)
 generalize prodD a b=s at *
 generalize u*v / 18446744073709551616=hi at *
 generalize u*v % 18446744073709551616=lo at *
 clear e hu' hv' u0 u1 v0 v1 h0 h1 g0 g1
 generalize signD a=sa at *
 generalize signD b=sb at *
 go_enter Try.func30,Try.ntmps30
 go_wp2_with fail
 generalize w.alloc (.cells #[.int .i64 0,.int .u64 0] 53)=w2 at *
 refine H1.out.step (w0:=w2) (B:=w2.heap.size) (.refl _ _) (Nat.le_refl _) ?_
 intro w3 hq hB
 go_wp2_with fail
 refine H2.out.step (w0:=w2) (B:=w2.heap.size) hq hB ?_
 clear hq hB
 intro w4 hq hB
 go_wp2_with fail
 refine H3.out.step (w0:=w2) (B:=w2.heap.size) hq hB ?_
 clear hq hB
 intro w5 hq hB
 replace hb:=hb.trans (hq.mono hb.size)
 replace hz:=hz.later hq
 clear hq hB H1 H2 H3
 obtain ⟨q,hq⟩:∃ q,wrap64 (IntKind.u64.wrap (hi-IntKind.u64.wrap (bits .and .u64 sa v+bits .and .u64 sb u)))=q:=⟨_,rfl⟩
 rw [hq] at HR
 obtain ⟨y0,y1,f0,f1,_⟩:=hz.cells
 go_wp2
 obtain ⟨y0,y1,_⟩:=(hz.put (q,lo)).cells
 refine ⟨rfl,wV (q,lo),?_,by rw [HR.out],put_below hb (Nat.le_refl _) (q,lo)⟩
 simp [results,Try.results30,go_sem,y0,y1,wV]
end Go.Proofs.Ytopeeokjfaampaa
