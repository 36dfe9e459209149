/- The contracts of layer 11's own signs, carry, times, Of, Sum, Product. -/
import Derived.Test.YtopeeokjfaampaaGZWideRefB
import Derived.Test.YtopeeokjfaampaaGZWideBox
namespace Go.Proofs.Ytopeeokjfaampaa
open Go Go.RowKit
set_option maxHeartbeats 1000000 in
theorem wide_signs_calls (n:Int)(h0 : -9223372036854775808≤n)(h1:n≤9223372036854775807):Gives Try.prog 36 #[.int .i64 n] (.int .u64 (signD n)):=by
 intro w
 obtain ⟨hb,hB⟩:=start w
 have HR:=Lib.hid (signs_eq h0 h1)
 clear h0 h1
 go_enter Try.func36,Try.ntmps36
 go_wp2
 go_ret
 exact ⟨by rw [←HR.out];rfl,hb⟩
set_option maxHeartbeats 1000000 in
theorem wide_carry_calls {a b s:Int}(h0:0≤a)(h1:a≤18446744073709551615)(g0:0≤b)(g1:b≤18446744073709551615)(hs:IntKind.u64.wrap (a+b)=s) :
  Gives Try.prog 35 #[.int .u64 a,.int .u64 b,.int .u64 s] (.int .u64 ((a+b) / 18446744073709551616)):=by
 intro w
 obtain ⟨hb,hB⟩:=start w
 have e:=carry_eq h0 h1 g0 g1
 rw [hs] at e
 have HR:=Lib.hid e
 clear h0 h1 g0 g1 hs e
 go_enter Try.func35,Try.ntmps35
 go_wp2
 go_ret
 exact ⟨by rw [←HR.out];rfl,hb⟩
set_option maxHeartbeats 2000000 in
theorem wide_times_calls {a b:Int}(h0:0≤a)(h1:a≤18446744073709551615)(g0:0≤b)(g1:b≤18446744073709551615) :
  Gives Try.prog 37 #[.int .u64 a,.int .u64 b] (.tuple #[.int .u64 (a*b / 18446744073709551616),.int .u64 (a*b % 18446744073709551616)]):=by
 intro w
 obtain ⟨hb,hB⟩:=start w
 have HR:=Lib.hid (times_words h0 h1 g0 g1)
 clear h0 h1 g0 g1
 go_enter Try.func37,Try.ntmps37
 go_wp2
 go_ret2
 exact ⟨by rw [HR.out.1,HR.out.2];rfl,hb⟩
set_option maxHeartbeats 2000000 in
theorem wide_of_calls (n:Int)(h0 : -9223372036854775808≤n)(h1:n≤9223372036854775807):Gives Try.prog 27 #[.int .i64 n] (wV (ofD n)):=by
 intro w
 obtain ⟨hb,hB⟩:=start w
 have H1:=Lib.hid (wide_signs_calls n h0 h1)
 have HR:=Lib.hid (of_signs h0 h1)
 clear h0 h1
 go_enter Try.func27,Try.ntmps27
 go_wp2_with fail
 have hx:=wbox_zero w 53
 have hb2:=(below_alloc hb hB (.cells #[.int .i64 0,.int .u64 0] 53)).1
 generalize w.alloc (.cells #[.int .i64 0,.int .u64 0] 53)=w2 at *
 refine H1.out.step (w0:=w2) (B:=w2.heap.size) (.refl _ _) (Nat.le_refl _) ?_
 intro w3 hq _
 replace hb2:=hb2.trans (hq.mono hb2.size)
 replace hx:=hx.later hq
 clear hq hb hB H1
 obtain ⟨s,hs⟩:∃ s,wrap64 (signD n)=s:=⟨_,rfl⟩
 obtain ⟨u,hu⟩:∃ u,IntKind.u64.wrap n=u:=⟨_,rfl⟩
 rw [hs,hu] at HR
 obtain ⟨y0,y1,f0,f1,_⟩:=hx.cells
 go_wp2
 obtain ⟨y0,y1,_⟩:=(hx.put (s,u)).cells
 refine ⟨rfl,wV (s,u),?_,by rw [HR.out],put_below hb2 (Nat.le_refl _) (s,u)⟩
 simp [results,Try.results27,go_sem,y0,y1,wV]
end Go.Proofs.Ytopeeokjfaampaa
