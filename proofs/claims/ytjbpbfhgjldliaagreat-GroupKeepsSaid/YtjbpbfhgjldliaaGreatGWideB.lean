/- The contract of the answer's Product of layer 11. -/
import Derived.Test.YtjbpbfhgjldliaaGreatGBase
import Derived.Test.YtjbpbfhgjldliaaGreatGVary
import Derived.Test.YtjbpbfhgjldliaaGreatGStrs
import Derived.Lib.QuietBelow
import Derived.Deep.QuietTactic
import Derived.BigQuiet
import Derived.StillTailTactics
import Derived.Deep.RegionWith
namespace Go.Proofs.YtjbpbfhgjldliaaGreat
open Go Go.RowKit
abbrev Wd:=Int×Int
def InW (a:Wd):Prop:=(-9223372036854775808≤a.1∧a.1≤9223372036854775807)∧0≤a.2∧a.2≤18446744073709551615
def valW (a:Wd):Int:=a.1*18446744073709551616+a.2
def wr64 (x:Int):Int:=(x+9223372036854775808) % 18446744073709551616-9223372036854775808
def toW (z:Int):Wd:=(wr64 (z / 18446744073709551616),z % 18446744073709551616)
theorem toW_in (z:Int):InW (toW z):=by
 unfold InW toW wr64
 dsimp only
 omega
theorem toW_val {a:Wd}(h:InW a):toW (valW a)=a:=by
 obtain ⟨h1,h2⟩:=h
 have e1:valW a / 18446744073709551616=a.1:=by unfold valW;omega
 have e2:valW a % 18446744073709551616=a.2:=by unfold valW;omega
 unfold toW wr64
 rw [e1,e2]
 refine Prod.ext ?_ rfl
 show (a.1+9223372036854775808) % 18446744073709551616-9223372036854775808=a.1
 omega
def m128:Int:=340282366920938463463374607431768211456
theorem toW_add (z k:Int):toW (z+k*m128)=toW z:=by
 have e:z+k*m128=z+(k*18446744073709551616)*18446744073709551616:=by
  unfold m128
  rw [Int.mul_assoc];rfl
 have h1:(z+k*m128) / 18446744073709551616=z / 18446744073709551616+k*18446744073709551616:=by rw [e];omega
 have h2:(z+k*m128) % 18446744073709551616=z % 18446744073709551616:=by rw [e];omega
 unfold toW wr64
 rw [h1,h2]
 refine Prod.ext ?_ rfl
 show (z / 18446744073709551616+k*18446744073709551616+9223372036854775808) % 18446744073709551616-9223372036854775808=(z / 18446744073709551616+9223372036854775808) % 18446744073709551616-9223372036854775808
 omega
theorem val_toW (z:Int):∃ k:Int,valW (toW z)=z+k*m128:=by
 refine ⟨- ((z / 18446744073709551616+9223372036854775808) / 18446744073709551616),?_⟩
 unfold valW toW wr64 m128
 dsimp only
 omega
theorem toW_same {a b:Int}(k:Int)(h:a=b+k*m128):toW a=toW b:=by rw [h];exact toW_add b k
def sumD (a b:Wd):Wd:=toW (valW a+valW b)
def minusD (a:Wd):Wd:=toW (- valW a)
def prodD (a b:Int):Wd:=toW (a*b)
def ofD (n:Int):Wd:=toW n
def fitsD (a:Wd):Bool:=decide (-9223372036854775808≤valW a)&&decide (valW a≤9223372036854775807)
def intD (a:Wd):Int:=if fitsD a then valW a else 0
theorem minusD_in (a:Wd):InW (minusD a):=toW_in _
theorem ofD_in (n:Int):InW (ofD n):=toW_in _
theorem val_zero:valW (0,0)=0:=rfl
theorem toW_zero:toW 0=(0,0):=rfl
theorem val_of {n:Int}(h0 : -170141183460469231731687303715884105728≤n)(h1:n≤170141183460469231731687303715884105727):valW (toW n)=n:=by
 unfold valW toW wr64
 dsimp only
 omega
theorem fits_of {n:Int}(h0 : -9223372036854775808≤n)(h1:n≤9223372036854775807):fitsD (ofD n)=true∧intD (ofD n)=n:=by
 have e:valW (ofD n)=n:=val_of (by omega) (by omega)
 have f:fitsD (ofD n)=true:=by unfold fitsD;rw [e,decide_eq_true h0,decide_eq_true h1];rfl
 exact ⟨f,by unfold intD;rw [f,e];rfl⟩
def wV (a:Wd):Value:=.agg #[.int .i64 a.1,.int .u64 a.2]
theorem ofD_neg {n:Int}(h0 : -9223372036854775808≤n)(h:n < 0):ofD n=(-1,IntKind.u64.wrap n):=by
 rw [IntKind.wrap_u64]
 unfold ofD toW wr64
 refine Prod.ext ?_ rfl
 show (n / 18446744073709551616+9223372036854775808) % 18446744073709551616-9223372036854775808 = -1
 omega
theorem ofD_pos {n:Int}(h1:n≤9223372036854775807)(h:¬n < 0):ofD n=(0,IntKind.u64.wrap n):=by
 rw [IntKind.wrap_u64]
 unfold ofD toW wr64
 refine Prod.ext ?_ rfl
 show (n / 18446744073709551616+9223372036854775808) % 18446744073709551616-9223372036854775808=0
 omega
theorem ret_wd {a:Wd}{x y:Int}(h:a=(x,y)):Ending.returned (.agg #[.int .i64 x,.int .u64 y])=.returned (wV a):=by rw [h];rfl
set_option maxHeartbeats 1000000 in
theorem ref_wide_of_calls (n:Int)(h0 : -9223372036854775808≤n)(h1:n≤9223372036854775807):Gives Tryz.prog 35 #[.int .i64 n] (wV (ofD n)):=by
 intro w
 obtain ⟨hb,hB⟩:=start w
 by_cases hn:n < 0
 ·have HR:=Lib.hid (ofD_neg h0 hn)
  have d1:decide (n < 0)=true:=decide_eq_true hn
  clear h0 h1
  generalize hq:IntKind.u64.wrap n=q at *
  go_enter Tryz.func35,Tryz.ntmps35
  go_wp2
  refine ⟨rfl,.agg #[.int .i64 (-1),.int .u64 q],?_,ret_wd HR.out,?_⟩
  ·simp [results,Tryz.results35,go_sem]
  ·go_grown
 ·have HR:=Lib.hid (ofD_pos h1 hn)
  have d1:decide (n < 0)=false:=decide_eq_false hn
  clear h0 h1
  generalize hq:IntKind.u64.wrap n=q at *
  go_enter Tryz.func35,Tryz.ntmps35
  go_wp2
  refine ⟨rfl,.agg #[.int .i64 0,.int .u64 q],?_,ret_wd HR.out,?_⟩
  ·simp [results,Tryz.results35,go_sem]
  ·go_grown
theorem sumD_low {a b:Wd}(ha:InW a)(hb:InW b)(h:¬IntKind.u64.wrap (a.2+b.2) < a.2):sumD a b=(wrap64 (a.1+b.1),IntKind.u64.wrap (a.2+b.2)):=by
 obtain ⟨a1,a2⟩:=a
 obtain ⟨b1,b2⟩:=b
 obtain ⟨_,ha⟩:=ha
 obtain ⟨_,hb⟩:=hb
 rw [IntKind.wrap_u64] at h ⊢
 unfold sumD toW valW wr64 wrap64
 dsimp only at *
 refine Prod.ext ?_ ?_
 ·dsimp only;omega
 ·dsimp only;omega
theorem sumD_high {a b:Wd}(ha:InW a)(hb:InW b)(h:IntKind.u64.wrap (a.2+b.2) < a.2):sumD a b=(wrap64 (wrap64 (a.1+b.1)+1),IntKind.u64.wrap (a.2+b.2)):=by
 obtain ⟨a1,a2⟩:=a
 obtain ⟨b1,b2⟩:=b
 obtain ⟨_,ha⟩:=ha
 obtain ⟨_,hb⟩:=hb
 rw [IntKind.wrap_u64] at h ⊢
 unfold sumD toW valW wr64 wrap64
 dsimp only at *
 refine Prod.ext ?_ ?_
 ·dsimp only;omega
 ·dsimp only;omega
set_option maxHeartbeats 1000000 in
theorem ref_wide_sum_calls {a b:Wd}(ha:InW a)(hb':InW b):Gives Tryz.prog 34 #[wV a,wV b] (wV (sumD a b)):=by
 intro w
 obtain ⟨hb,hB⟩:=start w
 by_cases hn:IntKind.u64.wrap (a.2+b.2) < a.2
 ·have HR:=Lib.hid (sumD_high ha hb' hn)
  unfold wV
  generalize sumD a b=s at *
  obtain ⟨a1,a2⟩:=a
  obtain ⟨b1,b2⟩:=b
  clear ha hb'
  dsimp only at *
  obtain ⟨q,hq⟩:∃ q,IntKind.u64.wrap (a2+b2)=q:=⟨_,rfl⟩
  obtain ⟨p,hp⟩:∃ p,wrap64 (a1+b1)=p:=⟨_,rfl⟩
  obtain ⟨p2,hp2⟩:∃ p2,wrap64 (p+1)=p2:=⟨_,rfl⟩
  rw [hq,hp,hp2] at HR
  rw [hq] at hn
  have d1:decide (q < a2)=true:=decide_eq_true hn
  clear hn
  go_enter Tryz.func34,Tryz.ntmps34
  go_wp2
  refine ⟨rfl,.agg #[.int .i64 p2,.int .u64 q],?_,?_,?_⟩
  ·simp [results,Tryz.results34,go_sem,hp,hp2]
  ·rw [HR.out]
  ·go_grown
 ·have HR:=Lib.hid (sumD_low ha hb' hn)
  unfold wV
  generalize sumD a b=s at *
  obtain ⟨a1,a2⟩:=a
  obtain ⟨b1,b2⟩:=b
  clear ha hb'
  dsimp only at *
  obtain ⟨q,hq⟩:∃ q,IntKind.u64.wrap (a2+b2)=q:=⟨_,rfl⟩
  obtain ⟨p,hp⟩:∃ p,wrap64 (a1+b1)=p:=⟨_,rfl⟩
  rw [hq,hp] at HR
  rw [hq] at hn
  have d1:decide (q < a2)=false:=decide_eq_false hn
  clear hn
  go_enter Tryz.func34,Tryz.ntmps34
  go_wp2
  refine ⟨rfl,.agg #[.int .i64 p,.int .u64 q],?_,?_,?_⟩
  ·simp [results,Tryz.results34,go_sem,hp]
  ·rw [HR.out]
  ·go_grown
def notD (a:Wd):Wd:=(-1-a.1,18446744073709551615-a.2)
theorem notD_in {a:Wd}(h:InW a):InW (notD a):=by
 obtain ⟨a1,a2⟩:=a
 obtain ⟨h1,h2⟩:=h
 unfold InW notD
 dsimp only at *
 omega
theorem notD_sum {a:Wd}(h:InW a):sumD (notD a) (ofD 1)=minusD a:=by
 obtain ⟨a1,a2⟩:=a
 obtain ⟨h1,h2⟩:=h
 have e:valW (ofD 1)=1:=rfl
 unfold sumD minusD
 rw [e]
 refine toW_same 0 ?_
 unfold valW notD m128
 dsimp only at *
 omega
theorem ofInt_toNat (a:Int):(BitVec.ofInt 64 a).toNat=(a % 18446744073709551616).toNat:=by
 rw [BitVec.toNat_ofInt];rfl
theorem not_all (x:BitVec 64):(BitVec.allOnes 64 ^^^ x).toNat=18446744073709551615-x.toNat:=by
 rw [BitVec.allOnes_xor,BitVec.toNat_not]
theorem not_u64 (a:Int)(h0:0≤a)(h1:a≤18446744073709551615):bits .xor .u64 IntKind.u64.max a=18446744073709551615-a:=by
 show IntKind.u64.wrap ((BitVec.ofInt 64 18446744073709551615 ^^^ BitVec.ofInt 64 a).toNat:Int)=_
 rw [show BitVec.ofInt 64 18446744073709551615=BitVec.allOnes 64 by decide,not_all,ofInt_toNat,IntKind.wrap_u64]
 omega
set_option maxHeartbeats 2000000 in
theorem ref_wide_minus_calls {a:Wd}(ha:InW a):Gives Tryz.prog 53 #[wV a] (wV (minusD a)):=by
 intro w
 obtain ⟨hb,hB⟩:=start w
 have HR:=Lib.hid (notD_sum ha)
 have H1:=Lib.hid (ref_wide_of_calls 1 (by decide) (by decide))
 have H2:=Lib.hid (ref_wide_sum_calls (notD_in ha) (ofD_in 1))
 rw [HR.out] at H2
 clear HR
 generalize minusD a=s at *
 obtain ⟨a1,a2⟩:=a
 obtain ⟨s1,s2⟩:=s
 unfold wV notD at *
 dsimp only at *
 generalize (ofD 1).1=c1 at *
 generalize (ofD 1).2=c2 at *
 obtain ⟨⟨ha0,ha1⟩,ha2,ha3⟩:=ha
 rw [←not_i64 a1 ha0 ha1,←not_u64 a2 ha2 ha3] at H2
 clear ha0 ha1 ha2 ha3
 go_enter Tryz.func53,Tryz.ntmps53
 go_wp2
 have x0:((w.alloc (.cells #[.int .i64 a1,.int .u64 a2] 70)).alloc (.cells #[.int .i64 0,.int .u64 0] 70)).cell? ⟨w.heap.size,0,none⟩=some (.int .i64 a1):=by simp [go_sem]
 have x1:((w.alloc (.cells #[.int .i64 a1,.int .u64 a2] 70)).alloc (.cells #[.int .i64 0,.int .u64 0] 70)).cell? ⟨w.heap.size,1,none⟩=some (.int .u64 a2):=by simp [go_sem]
 have hres:Own ((w.alloc (.cells #[.int .i64 a1,.int .u64 a2] 70)).alloc (.cells #[.int .i64 0,.int .u64 0] 70)) w.heap.size 2 (.slice (some ⟨w.heap.size+1,0,none⟩) 1 1) 1 [.int .i64 0,.int .u64 0]:=by
  have:=Own.lit (B:=w.heap.size) (size:=2) (w.alloc (.cells #[.int .i64 a1,.int .u64 a2] 70)) #[.int .i64 0,.int .u64 0] 70 1 (by simp) (by unfold maxLen;omega) rfl
  simpa using this
 have hb2:=((hb.alloc hB (.cells #[.int .i64 a1,.int .u64 a2] 70)).alloc (by simp) (.cells #[.int .i64 0,.int .u64 0] 70))
 generalize (w.alloc (.cells #[.int .i64 a1,.int .u64 a2] 70)).alloc (.cells #[.int .i64 0,.int .u64 0] 70)=w2 at *
 have HRES:=Lib.hid hres
 have HB2:=Lib.hid hb2
 have HX0:=Lib.hid x0
 have HX1:=Lib.hid x1
 clear hres hb2 hb hB
 go_region_with (first|(go_at_call 35;refine H1.out.step (w0:=w2) (B:=w2.heap.size) ?_ ?_ ?_;exact Below.drew (.refl _ _);exact Nat.le_refl _;intro w3 hq hB;have z0:=cell_kept HX0.out hq;have z1:=cell_kept HX1.out hq)|(go_at_call 34;refine H2.out.step (w0:=w2) (B:=w2.heap.size) hq hB ?_;clear hq hB z0 z1;intro w4 hq hB;obtain ⟨_,r1,_,r2,r3⟩:=(HRES.out.later hq).parts;have e0:=r2 0 _ rfl;have e1:=r2 1 _ rfl;have f0:=(r3 0 (by decide)).2;have f1:=(r3 1 (by decide)).2;rw [Nat.zero_add] at e0 e1 f0 f1))
 all_goals
  have hO:=Own.stored (Own.stored (HRES.out.later hq) 0 (by decide) (.int .i64 s1)) 1 (by decide) (.int .u64 s2)
  have hb4:=((HB2.out.trans (hq.mono HB2.out.size)).setCell (Nat.le_succ _) (p:=⟨w.heap.size+1,0+0,none⟩) (.int .i64 s1)).setCell (Nat.le_succ _) (p:=⟨w.heap.size+1,0+1,none⟩) (.int .u64 s2)
  simp only [Nat.zero_add] at hO hb4
  clear hq hB r1 r2 r3 e0 e1 f0 f1
  generalize (w4.setCell ⟨w.heap.size+1,0,none⟩ (.int .i64 s1)).setCell ⟨w.heap.size+1,1,none⟩ (.int .u64 s2)=w5 at *
  obtain ⟨_,_,_,e2,_⟩:=hO.parts
  have e0:=e2 0 _ rfl
  have e1:=e2 1 _ rfl
  rw [Nat.zero_add] at e0 e1
  clear e2 hO
  go_wp2
  refine ⟨rfl,.agg #[.int .i64 s1,.int .u64 s2],?_,rfl,hb4⟩
  simp [results,Tryz.results53,go_sem,e0,e1]
theorem wrap64_in (x:Int) : -9223372036854775808≤wrap64 x∧wrap64 x≤9223372036854775807:=by unfold wrap64;omega
theorem fits_iff {a:Wd}(h:InW a):fitsD a=true↔ofD (wrap64 a.2)=a:=by
 have hw:=wrap64_in a.2
 constructor
 ·intro hf
  unfold fitsD at hf
  rw [Bool.and_eq_true,decide_eq_true_eq,decide_eq_true_eq] at hf
  have e:wrap64 a.2=valW a:=by
   obtain ⟨a1,a2⟩:=a
   unfold valW wrap64 at *
   unfold InW at h
   dsimp only at *
   omega
  rw [e]
  exact toW_val h
 ·intro e
  have:=(fits_of hw.1 hw.2).1
  rwa [e] at this
theorem int_of {a:Wd}(h:InW a)(hf:fitsD a=true):intD a=wrap64 a.2:=by
 have hw:=wrap64_in a.2
 have e:=(fits_iff h).1 hf
 have:=(fits_of hw.1 hw.2).2
 rw [e] at this
 exact this
def errD (a:Wd):Int:=if fitsD a then 0 else 7
set_option maxHeartbeats 2000000 in
theorem ref_wide_int_calls {a:Wd}(ha:InW a):Gives Tryz.prog 38 #[wV a] (.tuple #[.int .i64 (intD a),.int .i64 (errD a)]):=by
 intro w
 obtain ⟨hb,hB⟩:=start w
 have hw:=wrap64_in a.2
 have H1:=Lib.hid (ref_wide_of_calls (wrap64 a.2) hw.1 hw.2)
 have hiff:=fits_iff ha
 have hint:=int_of ha
 obtain ⟨o,ho⟩:∃ o,ofD (wrap64 a.2)=o:=⟨_,rfl⟩
 rw [ho] at H1 hiff
 have HF:Hid (o≠a→fitsD a=false):=fun h=>by
  cases hf:fitsD a with
  | false=>rfl
  | true=>exact absurd (hiff.1 hf) h
 have HT:Hid (o=a→fitsD a=true):=fun h=>hiff.2 h
 have HI:=Lib.hid hint
 have HE1:Hid (fitsD a=true→errD a=0):=fun h=>by unfold errD;rw [h];rfl
 have HE0:Hid (fitsD a=false→errD a=7∧intD a=0):=fun h=>by unfold errD intD;rw [h];exact ⟨rfl,rfl⟩
 clear hiff hint ho hw ha
 obtain ⟨a1,a2⟩:=a
 obtain ⟨o1,o2⟩:=o
 unfold wV at *
 dsimp only at *
 have x0:(w.alloc (.cells #[.int .i64 a1,.int .u64 a2] 70)).cell? ⟨w.heap.size,0,none⟩=some (.int .i64 a1):=by simp [go_sem]
 have x1:(w.alloc (.cells #[.int .i64 a1,.int .u64 a2] 70)).cell? ⟨w.heap.size,1,none⟩=some (.int .u64 a2):=by simp [go_sem]
 have hb2:=(below_alloc hb hB (.cells #[.int .i64 a1,.int .u64 a2] 70)).1
 by_cases he:o1=a1∧o2=a2
 ·obtain ⟨rfl,rfl⟩:=he
  have hf:=HT.out rfl
  have HR:=Lib.hid (HI.out hf)
  have HE:=Lib.hid (HE1.out hf)
  clear HT HF HI HE1 HE0 hf
  go_enter Tryz.func38,Tryz.ntmps38
  go_wp2
  generalize w.alloc (.cells #[.int .i64 o1,.int .u64 o2] 70)=w2 at *
  have b0:=fun d os=>cell_regrown x0 d os
  have b1:=fun d os=>cell_regrown x1 d os
  refine wp_region_quiet_below (by kernel_rfl) (by kernel_rfl) ?_
  repeat (first|go_big_quiet_skip|(go_big_quiet_want;go_big_quiet_op;first|go_big_quiet_on|(apply Exists.intro;refine ⟨fun _=>?_,?_⟩;(first|(go_at_call 35;exact Calls.regrown_of (H1.out _)));go_big_quiet_on)))
  refine wpQuiet_nil ?_
  rintro w3 ⟨p,hw3⟩
  have hbq:Below w2.heap.size w2 w3:=hw3▸below_regrown w2 p.d p.os
  clear hw3 b0 b1
  have z1:=cell_kept x1 hbq
  go_wp2
  go_ret2
  exact ⟨by rw [HR.out,HE.out];rfl,hb2.trans (hbq.mono hb2.size)⟩
 ·have hf:=HF.out (fun e=>he ⟨congrArg Prod.fst e,congrArg Prod.snd e⟩)
  have HR:=Lib.hid (HE0.out hf)
  clear HT HF HI HE1 HE0 hf
  by_cases h1:o1=a1
  ·have h2:¬o2=a2:=fun e=>he ⟨h1,e⟩
   subst h1
   have d2:(o2==a2)=false:=by rw [beq_eq_false_iff_ne];exact h2
   clear he
   go_enter Tryz.func38,Tryz.ntmps38
   go_wp2
   generalize w.alloc (.cells #[.int .i64 o1,.int .u64 a2] 70)=w2 at *
   have b0:=fun d os=>cell_regrown x0 d os
   have b1:=fun d os=>cell_regrown x1 d os
   refine wp_region_quiet_below (by kernel_rfl) (by kernel_rfl) ?_
   repeat (first|go_big_quiet_skip|(go_big_quiet_want;go_big_quiet_op;first|go_big_quiet_on|(apply Exists.intro;refine ⟨fun _=>?_,?_⟩;(first|(go_at_call 35;exact Calls.regrown_of (H1.out _)));go_big_quiet_on)))
   refine wpQuiet_nil ?_
   rintro w3 ⟨p,hw3⟩
   have hbq:Below w2.heap.size w2 w3:=hw3▸below_regrown w2 p.d p.os
   clear hw3 b0 b1
   go_wp2
   go_ret2
   exact ⟨by rw [HR.out.1,HR.out.2];rfl,hb2.trans (hbq.mono hb2.size)⟩
  ·have d1:(o1==a1)=false:=by rw [beq_eq_false_iff_ne];exact h1
   clear he
   go_enter Tryz.func38,Tryz.ntmps38
   go_wp2
   generalize w.alloc (.cells #[.int .i64 a1,.int .u64 a2] 70)=w2 at *
   have b0:=fun d os=>cell_regrown x0 d os
   have b1:=fun d os=>cell_regrown x1 d os
   refine wp_region_quiet_below (by kernel_rfl) (by kernel_rfl) ?_
   repeat (first|go_big_quiet_skip|(go_big_quiet_want;go_big_quiet_op;first|go_big_quiet_on|(apply Exists.intro;refine ⟨fun _=>?_,?_⟩;(first|(go_at_call 35;exact Calls.regrown_of (H1.out _)));go_big_quiet_on)))
   refine wpQuiet_nil ?_
   rintro w3 ⟨p,hw3⟩
   have hbq:Below w2.heap.size w2 w3:=hw3▸below_regrown w2 p.d p.os
   clear hw3 b0 b1
   go_wp2
   go_ret2
   exact ⟨by rw [HR.out.1,HR.out.2];rfl,hb2.trans (hbq.mono hb2.size)⟩
def signD (n:Int):Int:=if n < 0 then 18446744073709551615 else 0
theorem signs_eq {n:Int}(h0 : -9223372036854775808≤n)(h1:n≤9223372036854775807):IntKind.u64.wrap (n / 9223372036854775808)=signD n:=by
 rw [IntKind.wrap_u64]
 unfold signD
 split <;> omega
theorem of_signs {n:Int}(h0 : -9223372036854775808≤n)(h1:n≤9223372036854775807):ofD n=(wrap64 (signD n),IntKind.u64.wrap n):=by
 rw [IntKind.wrap_u64]
 unfold ofD toW wr64 wrap64 signD
 refine Prod.ext ?_ rfl
 dsimp only
 split <;> omega
theorem top_bit (x:BitVec 64):x.toNat / 9223372036854775808=x.msb.toNat:=by
 have h:=BitVec.msb_eq_decide x
 have hl:x.toNat < 18446744073709551616:=x.isLt
 rw [h]
 by_cases hx:2 ^ (64-1)≤x.toNat
 ·rw [decide_eq_true hx]
  have:(9223372036854775808:Nat)≤x.toNat:=hx
  show _=1
  omega
 ·rw [decide_eq_false hx]
  have:¬(9223372036854775808:Nat)≤x.toNat:=hx
  show _=0
  omega
theorem ofInt_of (x:BitVec 64):BitVec.ofInt 64 (x.toNat:Int)=x:=by
 rw [BitVec.ofInt_natCast,BitVec.ofNat_toNat,BitVec.setWidth_eq]
theorem wrap_toNat (x:BitVec 64):IntKind.u64.wrap (x.toNat:Int)=(x.toNat:Int):=by
 have hl:x.toNat < 18446744073709551616:=x.isLt
 rw [IntKind.wrap_u64];omega
theorem msb_of (n:Int)(h0:0≤n)(h1:n≤18446744073709551615):(BitVec.ofInt 64 n).msb=decide (9223372036854775808≤n):=by
 rw [BitVec.msb_eq_decide]
 have e:(BitVec.ofInt 64 n).toNat=n.toNat:=by
  rw [BitVec.toNat_ofInt]
  show (n % 18446744073709551616).toNat=n.toNat
  omega
 rw [e]
 by_cases h:9223372036854775808≤n
 ·rw [decide_eq_true h,decide_eq_true_eq]
  show 9223372036854775808≤n.toNat
  omega
 ·rw [decide_eq_false h,decide_eq_false_iff_not]
  show ¬9223372036854775808≤n.toNat
  omega
theorem carry_eq {a b:Int}(h0:0≤a)(h1:a≤18446744073709551615)(g0:0≤b)(g1:b≤18446744073709551615) :
  bits .or .u64 (bits .and .u64 a b) (bits .andNot .u64 (bits .or .u64 a b) (IntKind.u64.wrap (a+b))) / 9223372036854775808=(a+b) / 18446744073709551616:=by
 have hs0:0≤IntKind.u64.wrap (a+b):=by rw [IntKind.wrap_u64];omega
 have hs1:IntKind.u64.wrap (a+b)≤18446744073709551615:=by rw [IntKind.wrap_u64];omega
 have hs:IntKind.u64.wrap (a+b)=(a+b) % 18446744073709551616:=by rw [IntKind.wrap_u64]
 generalize IntKind.u64.wrap (a+b)=s at *
 have e1:bits .and .u64 a b=((BitVec.ofInt 64 a &&& BitVec.ofInt 64 b).toNat:Int):=wrap_toNat _
 have e2:bits .or .u64 a b=((BitVec.ofInt 64 a ||| BitVec.ofInt 64 b).toNat:Int):=wrap_toNat _
 have e3:bits .andNot .u64 (bits .or .u64 a b) s=(((BitVec.ofInt 64 a ||| BitVec.ofInt 64 b) &&& ~~~ BitVec.ofInt 64 s).toNat:Int):=by
  rw [e2]
  refine Eq.trans (wrap_toNat (BitVec.ofInt 64 ((BitVec.ofInt 64 a ||| BitVec.ofInt 64 b).toNat:Int) &&& ~~~ BitVec.ofInt 64 s)) ?_
  rw [ofInt_of]
 have e4:bits .or .u64 (bits .and .u64 a b) (bits .andNot .u64 (bits .or .u64 a b) s)=(((BitVec.ofInt 64 a &&& BitVec.ofInt 64 b) ||| ((BitVec.ofInt 64 a ||| BitVec.ofInt 64 b) &&& ~~~ BitVec.ofInt 64 s)).toNat:Int):=by
  rw [e1,e3]
  refine Eq.trans (wrap_toNat (BitVec.ofInt 64 ((BitVec.ofInt 64 a &&& BitVec.ofInt 64 b).toNat:Int) ||| BitVec.ofInt 64 (((BitVec.ofInt 64 a ||| BitVec.ofInt 64 b) &&& ~~~ BitVec.ofInt 64 s).toNat:Int))) ?_
  rw [ofInt_of,ofInt_of]
 rw [e4]
 have k:=top_bit ((BitVec.ofInt 64 a &&& BitVec.ofInt 64 b) ||| ((BitVec.ofInt 64 a ||| BitVec.ofInt 64 b) &&& ~~~ BitVec.ofInt 64 s))
 rw [BitVec.msb_or,BitVec.msb_and,BitVec.msb_and,BitVec.msb_or,BitVec.msb_not,msb_of a h0 h1,msb_of b g0 g1,msb_of s hs0 hs1] at k
 generalize ((BitVec.ofInt 64 a &&& BitVec.ofInt 64 b) ||| ((BitVec.ofInt 64 a ||| BitVec.ofInt 64 b) &&& ~~~ BitVec.ofInt 64 s)).toNat=t at *
 have k':(t:Int) / 9223372036854775808=((t / 9223372036854775808:Nat):Int):=by omega
 rw [k',k]
 by_cases x1:9223372036854775808≤a <;> by_cases x2:9223372036854775808≤b <;> by_cases x3:9223372036854775808≤s <;>
  simp only [x1,x2,x3,decide_true,decide_false,Bool.and_true,Bool.and_false,Bool.or_true,Bool.or_false,Bool.not_true,Bool.not_false,Bool.true_and,Bool.false_and,Bool.true_or,Bool.false_or,Bool.and_self,Bool.or_self,Bool.toNat,cond_true,cond_false] <;> simp <;> omega
theorem sumD_carry {a b:Wd}(ha:InW a)(hb:InW b):sumD a b=(wrap64 (IntKind.u64.wrap (IntKind.u64.wrap (IntKind.u64.wrap a.1+IntKind.u64.wrap b.1)+(a.2+b.2) / 18446744073709551616)),IntKind.u64.wrap (a.2+b.2)):=by
 obtain ⟨a1,a2⟩:=a
 obtain ⟨b1,b2⟩:=b
 obtain ⟨_,ha⟩:=ha
 obtain ⟨_,hb⟩:=hb
 rw [IntKind.wrap_u64,IntKind.wrap_u64,IntKind.wrap_u64,IntKind.wrap_u64,IntKind.wrap_u64]
 unfold sumD toW valW wr64 wrap64
 dsimp only at *
 refine Prod.ext ?_ ?_
 ·dsimp only;omega
 ·dsimp only;omega
theorem and_half (n:Int)(h0:0≤n)(h1:n≤18446744073709551615):bits .and .u64 n 4294967295=n % 4294967296:=by
 obtain ⟨m,rfl⟩:∃ m:Nat,n=(m:Int):=⟨n.toNat,by omega⟩
 have k:=bits_and_u64_nat m 4294967295 (by omega) (by omega)
 have e:m &&& 4294967295=m % 4294967296:=Nat.and_two_pow_sub_one_eq_mod m 32
 rw [e] at k
 rw [show (4294967295:Int)=((4294967295:Nat):Int) from rfl,k]
 omega
theorem or_half (x y:Int)(h0:0≤x)(h1:x≤4294967295)(g0:0≤y)(g1:y≤4294967295):bits .or .u64 (x*4294967296) y=x*4294967296+y:=by
 obtain ⟨m,rfl⟩:∃ m:Nat,x=(m:Int):=⟨x.toNat,by omega⟩
 obtain ⟨n,rfl⟩:∃ n:Nat,y=(n:Int):=⟨y.toNat,by omega⟩
 have k:=bits_or_u64_nat (4294967296*m) n (by omega) (by omega)
 have j:=Nat.two_pow_add_eq_or_of_lt (i:=32) (b:=n) (by omega) m
 have j':4294967296*m+n=4294967296*m ||| n:=j
 rw [←j'] at k
 rw [show (m:Int)*4294967296=((4294967296*m:Nat):Int) by omega,k]
 omega
theorem half_mul {x y:Int}(h0:0≤x)(h1:x≤4294967295)(g0:0≤y)(g1:y≤4294967295):0≤x*y∧x*y≤18446744065119617025:=by
 refine ⟨Int.mul_nonneg h0 g0,?_⟩
 have:=Int.mul_le_mul h1 g1 g0 (by decide:(0:Int)≤4294967295)
 omega
def lowsD (p q r:Int):Int:=((r+(q+p / 4294967296) % 4294967296) % 4294967296)*4294967296+p % 4294967296
def highsD (p q r s:Int):Int:=s+(q+p / 4294967296) / 4294967296+(r+(q+p / 4294967296) % 4294967296) / 4294967296
theorem times_eq {a b:Int}:highsD ((a % 4294967296)*(b % 4294967296)) ((a / 4294967296)*(b % 4294967296)) ((a % 4294967296)*(b / 4294967296)) ((a / 4294967296)*(b / 4294967296))*18446744073709551616 +
  lowsD ((a % 4294967296)*(b % 4294967296)) ((a / 4294967296)*(b % 4294967296)) ((a % 4294967296)*(b / 4294967296))=a*b:=by
 have e:a*b=((a / 4294967296)*4294967296+a % 4294967296)*((b / 4294967296)*4294967296+b % 4294967296):=by
  rw [show a / 4294967296*4294967296+a % 4294967296=a by omega,show b / 4294967296*4294967296+b % 4294967296=b by omega]
 rw [e,Int.add_mul,Int.mul_add,Int.mul_add]
 generalize a / 4294967296=ah
 generalize b / 4294967296=bh
 generalize a % 4294967296=al
 generalize b % 4294967296=bl
 rw [show ah*4294967296*(bh*4294967296)=(ah*bh)*18446744073709551616 by rw [Int.mul_assoc,Int.mul_left_comm 4294967296 bh,←Int.mul_assoc];rfl,
  show ah*4294967296*bl=(ah*bl)*4294967296 by rw [Int.mul_assoc,Int.mul_comm 4294967296 bl,←Int.mul_assoc],show al*(bh*4294967296)=(al*bh)*4294967296 by rw [←Int.mul_assoc]]
 generalize ah*bh=s
 generalize ah*bl=q
 generalize al*bh=r
 generalize al*bl=p
 unfold highsD lowsD
 omega
theorem lows_in (p q r:Int):0≤lowsD p q r∧lowsD p q r≤18446744073709551615:=by unfold lowsD;omega
theorem times_parts {a b:Int}:highsD ((a % 4294967296)*(b % 4294967296)) ((a / 4294967296)*(b % 4294967296)) ((a % 4294967296)*(b / 4294967296)) ((a / 4294967296)*(b / 4294967296))=a*b / 18446744073709551616 ∧
  lowsD ((a % 4294967296)*(b % 4294967296)) ((a / 4294967296)*(b % 4294967296)) ((a % 4294967296)*(b / 4294967296))=a*b % 18446744073709551616:=by
 have h:=times_eq (a:=a) (b:=b)
 have k:=lows_in ((a % 4294967296)*(b % 4294967296)) ((a / 4294967296)*(b % 4294967296)) ((a % 4294967296)*(b / 4294967296))
 generalize highsD ((a % 4294967296)*(b % 4294967296)) ((a / 4294967296)*(b % 4294967296)) ((a % 4294967296)*(b / 4294967296)) ((a / 4294967296)*(b / 4294967296))=h1 at *
 generalize lowsD ((a % 4294967296)*(b % 4294967296)) ((a / 4294967296)*(b % 4294967296)) ((a % 4294967296)*(b / 4294967296))=l1 at *
 generalize a*b=z at *
 omega
theorem times_words {a b:Int}(h0:0≤a)(h1:a≤18446744073709551615)(g0:0≤b)(g1:b≤18446744073709551615) :
  IntKind.u64.wrap (IntKind.u64.wrap (IntKind.u64.wrap (a / 4294967296*(b / 4294967296)) +
    IntKind.u64.wrap (IntKind.u64.wrap (a / 4294967296*bits .and .u64 b 4294967295)+IntKind.u64.wrap (bits .and .u64 a 4294967295*bits .and .u64 b 4294967295) / 4294967296) / 4294967296) +
   IntKind.u64.wrap (IntKind.u64.wrap (bits .and .u64 a 4294967295*(b / 4294967296)) +
    bits .and .u64 (IntKind.u64.wrap (IntKind.u64.wrap (a / 4294967296*bits .and .u64 b 4294967295)+IntKind.u64.wrap (bits .and .u64 a 4294967295*bits .and .u64 b 4294967295) / 4294967296)) 4294967295) / 4294967296)=a*b / 18446744073709551616 ∧
  bits .or .u64 (IntKind.u64.wrap (IntKind.u64.wrap (IntKind.u64.wrap (bits .and .u64 a 4294967295*(b / 4294967296)) +
    bits .and .u64 (IntKind.u64.wrap (IntKind.u64.wrap (a / 4294967296*bits .and .u64 b 4294967295)+IntKind.u64.wrap (bits .and .u64 a 4294967295*bits .and .u64 b 4294967295) / 4294967296)) 4294967295)*4294967296))
   (bits .and .u64 (IntKind.u64.wrap (bits .and .u64 a 4294967295*bits .and .u64 b 4294967295)) 4294967295)=a*b % 18446744073709551616:=by
 have h:=times_parts (a:=a) (b:=b)
 have p1:=half_mul (x:=a % 4294967296) (y:=b % 4294967296) (by omega) (by omega) (by omega) (by omega)
 have p2:=half_mul (x:=a / 4294967296) (y:=b % 4294967296) (by omega) (by omega) (by omega) (by omega)
 have p3:=half_mul (x:=a % 4294967296) (y:=b / 4294967296) (by omega) (by omega) (by omega) (by omega)
 have p4:=half_mul (x:=a / 4294967296) (y:=b / 4294967296) (by omega) (by omega) (by omega) (by omega)
 rw [and_half a h0 h1,and_half b g0 g1,←h.1,←h.2]
 clear h
 generalize a % 4294967296*(b % 4294967296)=p at *
 generalize a / 4294967296*(b % 4294967296)=q at *
 generalize a % 4294967296*(b / 4294967296)=r at *
 generalize a / 4294967296*(b / 4294967296)=s at *
 have hw:∀ n:Int,0≤n→n≤18446744073709551615→IntKind.u64.wrap n=n:=fun n _ _=>by rw [IntKind.wrap_u64];omega
 rw [hw p (by omega) (by omega),hw q (by omega) (by omega),hw r (by omega) (by omega),hw s (by omega) (by omega)]
 have x1:0≤q+p / 4294967296∧q+p / 4294967296≤18446744073709551615:=by omega
 rw [hw (q+p / 4294967296) x1.1 x1.2,and_half (q+p / 4294967296) x1.1 x1.2]
 have x2:0≤r+(q+p / 4294967296) % 4294967296∧r+(q+p / 4294967296) % 4294967296≤18446744073709551615:=by omega
 rw [hw (r+(q+p / 4294967296) % 4294967296) x2.1 x2.2]
 have x3:0≤s+(q+p / 4294967296) / 4294967296∧s+(q+p / 4294967296) / 4294967296≤18446744073709551615-4294967296:=by omega
 rw [hw (s+(q+p / 4294967296) / 4294967296) x3.1 (by omega),hw (s+(q+p / 4294967296) / 4294967296+(r+(q+p / 4294967296) % 4294967296) / 4294967296) (by omega) (by omega),and_half p (by omega) (by omega)]
 refine ⟨rfl,?_⟩
 have e:IntKind.u64.wrap ((r+(q+p / 4294967296) % 4294967296)*4294967296)=((r+(q+p / 4294967296) % 4294967296) % 4294967296)*4294967296:=by rw [IntKind.wrap_u64];omega
 rw [e,or_half _ _ (by omega) (by omega) (by omega) (by omega)]
 rfl
theorem and_sign (n v:Int)(h0:0≤v)(h1:v≤18446744073709551615):bits .and .u64 (signD n) v=if n < 0 then v else 0:=by
 obtain ⟨m,rfl⟩:∃ m:Nat,v=(m:Int):=⟨v.toNat,by omega⟩
 unfold signD
 split
 ·have k:=bits_and_u64_nat 18446744073709551615 m (by omega) (by omega)
  have e:18446744073709551615 &&& m=m % 18446744073709551616:=by rw [Nat.and_comm];exact Nat.and_two_pow_sub_one_eq_mod m 64
  rw [e] at k
  rw [show (18446744073709551615:Int)=((18446744073709551615:Nat):Int) from rfl,k]
  omega
 ·have k:=bits_and_u64_nat 0 m (by omega) (by omega)
  rw [Nat.zero_and] at k
  exact k
theorem prod_signs {a b:Int}(h0 : -9223372036854775808≤a)(h1:a≤9223372036854775807)(g0 : -9223372036854775808≤b)(g1:b≤9223372036854775807){u v:Int}(hu:u=IntKind.u64.wrap a)(hv:v=IntKind.u64.wrap b) :
  prodD a b=(wrap64 (IntKind.u64.wrap (u*v / 18446744073709551616-IntKind.u64.wrap ((if a < 0 then v else 0)+(if b < 0 then u else 0)))),u*v % 18446744073709551616):=by
 rw [IntKind.wrap_u64] at hu hv
 rw [IntKind.wrap_u64,IntKind.wrap_u64]
 have e:∃ k:Int,a*b=u*v-((if a < 0 then v else 0)+(if b < 0 then u else 0))*18446744073709551616+k*m128:=by
  unfold m128
  by_cases ha:a < 0 <;> by_cases hb:b < 0
  ·refine ⟨1,?_⟩
   rw [if_pos ha,if_pos hb,show a=u-18446744073709551616 by omega,show b=v-18446744073709551616 by omega,Int.sub_mul,Int.mul_sub]
   omega
  ·refine ⟨0,?_⟩
   rw [if_pos ha,if_neg hb,show a=u-18446744073709551616 by omega,show b=v by omega,Int.sub_mul]
   omega
  ·refine ⟨0,?_⟩
   rw [if_neg ha,if_pos hb,show b=v-18446744073709551616 by omega,show a=u by omega,Int.mul_sub]
   omega
  ·refine ⟨0,?_⟩
   rw [if_neg ha,if_neg hb,show a=u by omega,show b=v by omega]
   omega
 obtain ⟨k,hk⟩:=e
 unfold prodD
 rw [toW_same k hk]
 generalize u*v=z
 generalize (if a < 0 then v else 0)+(if b < 0 then u else 0)=c
 unfold toW wr64 wrap64
 refine Prod.ext ?_ ?_
 ·dsimp only;omega
 ·dsimp only;omega
def WBox (w:World)(B:Nat)(a:Wd):Prop:=Own w B 2 (.slice (some ⟨B,0,none⟩) 1 1) 1 [.int .i64 a.1,.int .u64 a.2]
abbrev putW2 (w:World) (B:Nat) (a:Wd):World:=(w.setCell ⟨B,0,none⟩ (.int .i64 a.1)).setCell ⟨B,1,none⟩ (.int .u64 a.2)
theorem WBox.cells {w:World}{B:Nat}{a:Wd}(h:WBox w B a):w.cell? ⟨B,0,none⟩=some (.int .i64 a.1)∧w.cell? ⟨B,1,none⟩=some (.int .u64 a.2)∧w.frozen? ⟨B,0,none⟩=false∧w.frozen? ⟨B,1,none⟩=false∧B < w.heap.size:=by
 obtain ⟨_,h2,_,hc,hr⟩:=Own.parts h
 have e0:=hc 0 _ rfl
 have e1:=hc 1 _ rfl
 have e2:=(hr 0 (by decide)).2
 have e3:=(hr 1 (by decide)).2
 rw [Nat.zero_add] at e1 e3
 exact ⟨e0,e1,e2,e3,h2⟩
theorem WBox.later {w w':World}{B:Nat}{a:Wd}(h:WBox w B a)(hb:Below w.heap.size w w'):WBox w' B a:=Own.later h hb
theorem WBox.put {w:World}{B:Nat}{a:Wd}(h:WBox w B a)(s:Wd):WBox (putW2 w B s) B s:=by
 have:=Own.stored (Own.stored h 0 (by decide) (.int .i64 s.1)) 1 (by decide) (.int .u64 s.2)
 simp only [Nat.zero_add] at this
 exact this
theorem put_grown (w:World)(B:Nat)(s:Wd):w.grownBy (putW2 w B s) (some B):=by
 have:=setCells_grown B [.int .i64 s.1,.int .u64 s.2] 0 w
 simp only [World.setCells,Nat.zero_add] at this
 exact this
theorem WBox.beside {w:World}{B C:Nat}{a:Wd}(h:WBox w B a)(hn:B≠C)(s:Wd):WBox (putW2 w C s) B a :=
 Own.other h (put_grown w C s) fun k hk e=>by
  simp only [Value.ownBlock,Option.some.injEq] at hk e
  omega
theorem put_below {w0 w:World}{B0 B:Nat}(hb:Below B0 w0 w)(h:B0≤B)(s:Wd):Below B0 w0 (putW2 w B s):=(hb.setCell h _).setCell h _
theorem wbox_lit (w:World)(T:TypeId)(a:Wd):WBox (w.alloc (.cells #[.int .i64 a.1,.int .u64 a.2] T)) w.heap.size a :=
 Own.lit (size:=2) w #[.int .i64 a.1,.int .u64 a.2] T 1 (Nat.le_refl _) (by unfold maxLen;omega) rfl
theorem wbox_zero (w:World)(T:TypeId):WBox (w.alloc (.cells #[.int .i64 0,.int .u64 0] T)) w.heap.size (0,0):=wbox_lit w T (0,0)
set_option maxHeartbeats 1000000 in
theorem wide_signs_calls (n:Int)(h0 : -9223372036854775808≤n)(h1:n≤9223372036854775807):Gives Tryz.prog 84 #[.int .i64 n] (.int .u64 (signD n)):=by
 intro w
 obtain ⟨hb,hB⟩:=start w
 have HR:=Lib.hid (signs_eq h0 h1)
 clear h0 h1
 go_enter Tryz.func84,Tryz.ntmps84
 go_wp2
 go_ret
 exact ⟨by rw [←HR.out];rfl,hb⟩
set_option maxHeartbeats 1000000 in
theorem wide_carry_calls {a b s:Int}(h0:0≤a)(h1:a≤18446744073709551615)(g0:0≤b)(g1:b≤18446744073709551615)(hs:IntKind.u64.wrap (a+b)=s) :
  Gives Tryz.prog 86 #[.int .u64 a,.int .u64 b,.int .u64 s] (.int .u64 ((a+b) / 18446744073709551616)):=by
 intro w
 obtain ⟨hb,hB⟩:=start w
 have e:=carry_eq h0 h1 g0 g1
 rw [hs] at e
 have HR:=Lib.hid e
 clear h0 h1 g0 g1 hs e
 go_enter Tryz.func86,Tryz.ntmps86
 go_wp2
 go_ret
 exact ⟨by rw [←HR.out];rfl,hb⟩
set_option maxHeartbeats 2000000 in
theorem wide_times_calls {a b:Int}(h0:0≤a)(h1:a≤18446744073709551615)(g0:0≤b)(g1:b≤18446744073709551615) :
  Gives Tryz.prog 104 #[.int .u64 a,.int .u64 b] (.tuple #[.int .u64 (a*b / 18446744073709551616),.int .u64 (a*b % 18446744073709551616)]):=by
 intro w
 obtain ⟨hb,hB⟩:=start w
 have HR:=Lib.hid (times_words h0 h1 g0 g1)
 clear h0 h1 g0 g1
 go_enter Tryz.func104,Tryz.ntmps104
 go_wp2
 go_ret2
 exact ⟨by rw [HR.out.1,HR.out.2];rfl,hb⟩
set_option maxHeartbeats 2000000 in
theorem wide_of_calls (n:Int)(h0 : -9223372036854775808≤n)(h1:n≤9223372036854775807):Gives Tryz.prog 66 #[.int .i64 n] (wV (ofD n)):=by
 intro w
 obtain ⟨hb,hB⟩:=start w
 have H1:=Lib.hid (wide_signs_calls n h0 h1)
 have HR:=Lib.hid (of_signs h0 h1)
 clear h0 h1
 go_enter Tryz.func66,Tryz.ntmps66
 go_wp2_with fail
 have hx:=wbox_zero w 70
 have hb2:=(below_alloc hb hB (.cells #[.int .i64 0,.int .u64 0] 70)).1
 generalize w.alloc (.cells #[.int .i64 0,.int .u64 0] 70)=w2 at *
 refine H1.out.step (w0:=w2) (B:=w2.heap.size) (.refl _ _) (Nat.le_refl _) ?_
 intro w3 hq _
 replace hb2:=hb2.trans (hq.mono hb2.size)
 replace hx:=hx.later hq
 clear hq hb hB H1
 obtain ⟨s,hs⟩:∃ s,wrap64 (signD n)=s:=⟨_,rfl⟩
 obtain ⟨u,hu⟩:∃ u,IntKind.u64.wrap n=u:=⟨_,rfl⟩
 rw [hs,hu] at HR
 obtain ⟨y0,y1,f0,f1,_⟩:=hx.cells
 go_wp2
 obtain ⟨y0,y1,_⟩:=(hx.put (s,u)).cells
 refine ⟨rfl,wV (s,u),?_,by rw [HR.out],put_below hb2 (Nat.le_refl _) (s,u)⟩
 simp [results,Tryz.results66,go_sem,y0,y1,wV]
theorem three_boxes (w:World)(T:TypeId)(a b:Wd) :
  WBox (((w.alloc (.cells #[.int .i64 a.1,.int .u64 a.2] T)).alloc (.cells #[.int .i64 b.1,.int .u64 b.2] T)).alloc (.cells #[.int .i64 0,.int .u64 0] T)) w.heap.size a ∧
  WBox (((w.alloc (.cells #[.int .i64 a.1,.int .u64 a.2] T)).alloc (.cells #[.int .i64 b.1,.int .u64 b.2] T)).alloc (.cells #[.int .i64 0,.int .u64 0] T)) (w.heap.size+1) b ∧
  WBox (((w.alloc (.cells #[.int .i64 a.1,.int .u64 a.2] T)).alloc (.cells #[.int .i64 b.1,.int .u64 b.2] T)).alloc (.cells #[.int .i64 0,.int .u64 0] T)) (w.heap.size+1+1) (0,0) ∧
  Below w.heap.size w (((w.alloc (.cells #[.int .i64 a.1,.int .u64 a.2] T)).alloc (.cells #[.int .i64 b.1,.int .u64 b.2] T)).alloc (.cells #[.int .i64 0,.int .u64 0] T)):=by
 have h1:=wbox_lit w T a
 have h2:=wbox_lit (w.alloc (.cells #[.int .i64 a.1,.int .u64 a.2] T)) T b
 have h3:=wbox_zero ((w.alloc (.cells #[.int .i64 a.1,.int .u64 a.2] T)).alloc (.cells #[.int .i64 b.1,.int .u64 b.2] T)) T
 have q:∀ (w:World) (o:Obj),Below w.heap.size w (w.alloc o):=fun w o=>Below.alloc (.refl _ _) (Nat.le_refl _) o
 refine ⟨(h1.later (q _ _)).later (q _ _),?_,?_,?_⟩
 ·have:=h2.later (q _ (.cells #[.int .i64 0,.int .u64 0] T))
  simpa using this
 ·simpa using h3
 ·exact ((Below.alloc (.refl _ _) (Nat.le_refl _) _).alloc (by simp) _).alloc (by simp;omega) _
set_option maxHeartbeats 4000000 in
theorem wide_sum_calls {a b:Wd}(ha:InW a)(hb':InW b):Gives Tryz.prog 69 #[wV a,wV b] (wV (sumD a b)):=by
 intro w
 have HR:=Lib.hid (sumD_carry ha hb')
 have H1:=Lib.hid (wide_carry_calls ha.2.1 ha.2.2 hb'.2.1 hb'.2.2 rfl)
 obtain ⟨hx,hy,hz,hb2⟩:=three_boxes w 70 a b
 unfold wV
 generalize sumD a b=s at *
 obtain ⟨a1,a2⟩:=a
 obtain ⟨b1,b2⟩:=b
 clear ha hb'
 dsimp only at *
 go_enter Tryz.func69,Tryz.ntmps69
 go_wp2_with fail
 generalize ((w.alloc (.cells #[.int .i64 a1,.int .u64 a2] 70)).alloc (.cells #[.int .i64 b1,.int .u64 b2] 70)).alloc (.cells #[.int .i64 0,.int .u64 0] 70)=w2 at *
 obtain ⟨x0,x1,_⟩:=hx.cells
 obtain ⟨y0,y1,_⟩:=hy.cells
 dsimp only at x0 x1 y0 y1
 go_wp2_with fail
 have q0:=fun d os=>cell_regrown x0 d os
 have q1:=fun d os=>cell_regrown x1 d os
 have q2:=fun d os=>cell_regrown y0 d os
 have q3:=fun d os=>cell_regrown y1 d os
 clear x0 x1 y0 y1
 refine wp_region_quiet_below (by kernel_rfl) (by kernel_rfl) ?_
 repeat (first|go_big_quiet_skip|(go_big_quiet_want;go_big_quiet_op;first|go_big_quiet_on|(apply Exists.intro;refine ⟨fun _=>?_,?_⟩;(first|(go_at_call 86;exact Calls.regrown_of (H1.out _)));go_big_quiet_on)))
 refine wpQuiet_nil ?_
 rintro w3 ⟨p,hw3⟩
 have hbq:Below w2.heap.size w2 w3:=hw3▸below_regrown w2 p.d p.os
 clear hw3 q0 q1 q2 q3
 replace hz:=hz.later hbq
 replace hb2:=hb2.trans (hbq.mono hb2.size)
 clear hbq hx hy H1
 obtain ⟨z0,z1,f0,f1,_⟩:=hz.cells
 dsimp only at z0 z1 f0 f1
 generalize (a2+b2) / 18446744073709551616=c at *
 obtain ⟨q,hq⟩:∃ q,IntKind.u64.wrap (a2+b2)=q:=⟨_,rfl⟩
 obtain ⟨r,hr⟩:∃ r,wrap64 (IntKind.u64.wrap (IntKind.u64.wrap (IntKind.u64.wrap a1+IntKind.u64.wrap b1)+c))=r:=⟨_,rfl⟩
 rw [hq,hr] at HR
 go_wp2
 obtain ⟨z0,z1,_⟩:=(hz.put (r,q)).cells
 refine ⟨rfl,wV (r,q),?_,by rw [HR.out];rfl,put_below hb2 (by omega) (r,q)⟩
 simp [results,Tryz.results69,go_sem,z0,z1,wV]
set_option maxHeartbeats 4000000 in
theorem wide_product_calls {a b:Int}(h0 : -9223372036854775808≤a)(h1:a≤9223372036854775807)(g0 : -9223372036854775808≤b)(g1:b≤9223372036854775807) :
  Gives Tryz.prog 88 #[.int .i64 a,.int .i64 b] (wV (prodD a b)):=by
 intro w
 have hz:=wbox_zero w 70
 have hb:=Below.alloc (.refl _ _) (Nat.le_refl _) (.cells #[.int .i64 0,.int .u64 0] 70) (w:=w)
 obtain ⟨u,hu⟩:∃ u,IntKind.u64.wrap a=u:=⟨_,rfl⟩
 obtain ⟨v,hv⟩:∃ v,IntKind.u64.wrap b=v:=⟨_,rfl⟩
 have e:=prod_signs h0 h1 g0 g1 hu.symm hv.symm
 have hu':=hu
 have hv':=hv
 rw [IntKind.wrap_u64] at hu' hv'
 have u0:0≤u:=by omega
 have u1:u≤18446744073709551615:=by omega
 have v0:0≤v:=by omega
 have v1:v≤18446744073709551615:=by omega
 rw [←and_sign a v v0 v1,←and_sign b u u0 u1] at e
 have HR:=Lib.hid e
 have H1:=Lib.hid (wide_times_calls u0 u1 v0 v1)
 have H2:=Lib.hid (wide_signs_calls a h0 h1)
 have H3:=Lib.hid (wide_signs_calls b g0 g1)
 generalize prodD a b=s at *
 generalize u*v / 18446744073709551616=hi at *
 generalize u*v % 18446744073709551616=lo at *
 clear e hu' hv' u0 u1 v0 v1 h0 h1 g0 g1
 generalize signD a=sa at *
 generalize signD b=sb at *
 go_enter Tryz.func88,Tryz.ntmps88
 go_wp2_with fail
 generalize w.alloc (.cells #[.int .i64 0,.int .u64 0] 70)=w2 at *
 refine H1.out.step (w0:=w2) (B:=w2.heap.size) (.refl _ _) (Nat.le_refl _) ?_
 intro w3 hq hB
 go_wp2_with fail
 refine H2.out.step (w0:=w2) (B:=w2.heap.size) hq hB ?_
 clear hq hB
 intro w4 hq hB
 go_wp2_with fail
 refine H3.out.step (w0:=w2) (B:=w2.heap.size) hq hB ?_
 clear hq hB
 intro w5 hq hB
 replace hb:=hb.trans (hq.mono hb.size)
 replace hz:=hz.later hq
 clear hq hB H1 H2 H3
 obtain ⟨q,hq⟩:∃ q,wrap64 (IntKind.u64.wrap (hi-IntKind.u64.wrap (bits .and .u64 sa v+bits .and .u64 sb u)))=q:=⟨_,rfl⟩
 rw [hq] at HR
 obtain ⟨y0,y1,f0,f1,_⟩:=hz.cells
 go_wp2
 obtain ⟨y0,y1,_⟩:=(hz.put (q,lo)).cells
 refine ⟨rfl,wV (q,lo),?_,by rw [HR.out],put_below hb (Nat.le_refl _) (q,lo)⟩
 simp [results,Tryz.results88,go_sem,y0,y1,wV]
set_option maxHeartbeats 2000000 in
theorem wide_int_calls {a:Wd}(ha:InW a):Gives Tryz.prog 49 #[wV a] (.tuple #[.int .i64 (intD a),.int .i64 (errD a)]):=by
 intro w
 obtain ⟨hb,hB⟩:=start w
 have hw:=wrap64_in a.2
 have H1:=Lib.hid (wide_of_calls (wrap64 a.2) hw.1 hw.2)
 have hiff:=fits_iff ha
 have hint:=int_of ha
 obtain ⟨o,ho⟩:∃ o,ofD (wrap64 a.2)=o:=⟨_,rfl⟩
 rw [ho] at H1 hiff
 have HF:Hid (o≠a→fitsD a=false):=fun h=>by
  cases hf:fitsD a with
  | false=>rfl
  | true=>exact absurd (hiff.1 hf) h
 have HT:Hid (o=a→fitsD a=true):=fun h=>hiff.2 h
 have HI:=Lib.hid hint
 have HE1:Hid (fitsD a=true→errD a=0):=fun h=>by unfold errD;rw [h];rfl
 have HE0:Hid (fitsD a=false→errD a=7∧intD a=0):=fun h=>by unfold errD intD;rw [h];exact ⟨rfl,rfl⟩
 clear hiff hint ho hw ha
 obtain ⟨a1,a2⟩:=a
 obtain ⟨o1,o2⟩:=o
 unfold wV at *
 dsimp only at *
 have x0:(w.alloc (.cells #[.int .i64 a1,.int .u64 a2] 70)).cell? ⟨w.heap.size,0,none⟩=some (.int .i64 a1):=by simp [go_sem]
 have x1:(w.alloc (.cells #[.int .i64 a1,.int .u64 a2] 70)).cell? ⟨w.heap.size,1,none⟩=some (.int .u64 a2):=by simp [go_sem]
 have hb2:=(below_alloc hb hB (.cells #[.int .i64 a1,.int .u64 a2] 70)).1
 by_cases he:o1=a1∧o2=a2
 ·obtain ⟨rfl,rfl⟩:=he
  have hf:=HT.out rfl
  have HR:=Lib.hid (HI.out hf)
  have HE:=Lib.hid (HE1.out hf)
  clear HT HF HI HE1 HE0 hf
  go_enter Tryz.func49,Tryz.ntmps49
  go_wp2
  generalize w.alloc (.cells #[.int .i64 o1,.int .u64 o2] 70)=w2 at *
  have b0:=fun d os=>cell_regrown x0 d os
  have b1:=fun d os=>cell_regrown x1 d os
  refine wp_region_quiet_below (by kernel_rfl) (by kernel_rfl) ?_
  repeat (first|go_big_quiet_skip|(go_big_quiet_want;go_big_quiet_op;first|go_big_quiet_on|(apply Exists.intro;refine ⟨fun _=>?_,?_⟩;(first|(go_at_call 66;exact Calls.regrown_of (H1.out _)));go_big_quiet_on)))
  refine wpQuiet_nil ?_
  rintro w3 ⟨p,hw3⟩
  have hbq:Below w2.heap.size w2 w3:=hw3▸below_regrown w2 p.d p.os
  clear hw3 b0 b1
  have z1:=cell_kept x1 hbq
  go_wp2
  go_ret2
  exact ⟨by rw [HR.out,HE.out];rfl,hb2.trans (hbq.mono hb2.size)⟩
 ·have hf:=HF.out (fun e=>he ⟨congrArg Prod.fst e,congrArg Prod.snd e⟩)
  have HR:=Lib.hid (HE0.out hf)
  clear HT HF HI HE1 HE0 hf
  by_cases h1:o1=a1
  ·have h2:¬o2=a2:=fun e=>he ⟨h1,e⟩
   subst h1
   have d2:(o2==a2)=false:=by rw [beq_eq_false_iff_ne];exact h2
   clear he
   go_enter Tryz.func49,Tryz.ntmps49
   go_wp2
   generalize w.alloc (.cells #[.int .i64 o1,.int .u64 a2] 70)=w2 at *
   have b0:=fun d os=>cell_regrown x0 d os
   have b1:=fun d os=>cell_regrown x1 d os
   refine wp_region_quiet_below (by kernel_rfl) (by kernel_rfl) ?_
   repeat (first|go_big_quiet_skip|(go_big_quiet_want;go_big_quiet_op;first|go_big_quiet_on|(apply Exists.intro;refine ⟨fun _=>?_,?_⟩;(first|(go_at_call 66;exact Calls.regrown_of (H1.out _)));go_big_quiet_on)))
   refine wpQuiet_nil ?_
   rintro w3 ⟨p,hw3⟩
   have hbq:Below w2.heap.size w2 w3:=hw3▸below_regrown w2 p.d p.os
   clear hw3 b0 b1
   go_wp2
   go_ret2
   exact ⟨by rw [HR.out.1,HR.out.2];rfl,hb2.trans (hbq.mono hb2.size)⟩
  ·have d1:(o1==a1)=false:=by rw [beq_eq_false_iff_ne];exact h1
   clear he
   go_enter Tryz.func49,Tryz.ntmps49
   go_wp2
   generalize w.alloc (.cells #[.int .i64 a1,.int .u64 a2] 70)=w2 at *
   have b0:=fun d os=>cell_regrown x0 d os
   have b1:=fun d os=>cell_regrown x1 d os
   refine wp_region_quiet_below (by kernel_rfl) (by kernel_rfl) ?_
   repeat (first|go_big_quiet_skip|(go_big_quiet_want;go_big_quiet_op;first|go_big_quiet_on|(apply Exists.intro;refine ⟨fun _=>?_,?_⟩;(first|(go_at_call 66;exact Calls.regrown_of (H1.out _)));go_big_quiet_on)))
   refine wpQuiet_nil ?_
   rintro w3 ⟨p,hw3⟩
   have hbq:Below w2.heap.size w2 w3:=hw3▸below_regrown w2 p.d p.os
   clear hw3 b0 b1
   go_wp2
   go_ret2
   exact ⟨by rw [HR.out.1,HR.out.2];rfl,hb2.trans (hbq.mono hb2.size)⟩
theorem sumD_toW (x y:Int):sumD (toW x) (toW y)=toW (x+y):=by
 unfold sumD
 obtain ⟨k,hk⟩:=val_toW x
 obtain ⟨j,hj⟩:=val_toW y
 rw [hk,hj]
 refine toW_same (k+j) ?_
 rw [Int.add_mul];omega
theorem minusD_toW (x:Int):minusD (toW x)=toW (- x):=by
 unfold minusD
 obtain ⟨k,hk⟩:=val_toW x
 rw [hk]
 refine toW_same (-k) ?_
 rw [Int.neg_mul];omega
def outS (a:Int)(U:Nat)(k:Nat):Wd:=toW (a*((U % 2 ^ k:Nat):Int))
def dblS (a:Int)(k:Nat):Wd:=toW (a*((2 ^ k:Nat):Int))
theorem outS_start (a:Int)(U:Nat):outS a U 0=(0,0):=by
 unfold outS
 rw [Nat.pow_zero,Nat.mod_one]
 show toW (a*0)=(0,0)
 rw [Int.mul_zero];rfl
theorem dblS_start (a:Int):dblS a 0=ofD a:=by
 unfold dblS ofD
 rw [Nat.pow_zero]
 show toW (a*1)=toW a
 rw [Int.mul_one]
theorem dblS_next (a:Int)(k:Nat):sumD (dblS a k) (dblS a k)=dblS a (k+1):=by
 unfold dblS
 rw [sumD_toW,←Int.mul_add,Nat.pow_succ]
 congr 2
 omega
theorem mod_next (U k:Nat):U % 2 ^ (k+1)=U % 2 ^ k+2 ^ k*(U / 2 ^ k % 2):=by
 rw [Nat.pow_succ,Nat.mod_mul]
theorem outS_none (a:Int)(U k:Nat)(h:U / 2 ^ k % 2=0):outS a U (k+1)=outS a U k:=by
 unfold outS
 rw [mod_next,h,Nat.mul_zero,Nat.add_zero]
theorem outS_some (a:Int)(U k:Nat)(h:U / 2 ^ k % 2=1):sumD (outS a U k) (dblS a k)=outS a U (k+1):=by
 unfold outS dblS
 rw [sumD_toW,←Int.mul_add,mod_next,h,Nat.mul_one]
 congr 2
theorem outS_last (a:Int)(U:Nat){b:Int}(g0 : -9223372036854775808≤b)(g1:b≤9223372036854775807)(hU:IntKind.u64.wrap b=(U:Int))(h:U / 2 ^ 63 % 2=1):sumD (outS a U 63) (minusD (dblS a 63))=prodD a b:=by
 rw [IntKind.wrap_u64] at hU
 unfold outS dblS prodD
 rw [minusD_toW,sumD_toW,←Int.mul_neg,←Int.mul_add]
 congr 2
 have e:U % 2 ^ 63=U % 9223372036854775808:=rfl
 have e2:U / 2 ^ 63 % 2=U / 9223372036854775808 % 2:=rfl
 have e3:(2 ^ 63:Nat)=9223372036854775808:=rfl
 rw [e2] at h
 rw [e,e3]
 omega
theorem outS_end (a:Int)(U:Nat){b:Int}(g0 : -9223372036854775808≤b)(g1:b≤9223372036854775807)(hU:IntKind.u64.wrap b=(U:Int))(h:U / 2 ^ 63 % 2=0):outS a U 63=prodD a b:=by
 rw [IntKind.wrap_u64] at hU
 unfold outS prodD
 congr 2
 have e:U % 2 ^ 63=U % 9223372036854775808:=rfl
 have e2:U / 2 ^ 63 % 2=U / 9223372036854775808 % 2:=rfl
 rw [e2] at h
 rw [e]
 omega
theorem bit_at (U k:Nat)(hU:U < 18446744073709551616):bits .and .u64 ((U:Int) / 2 ^ k) 1=((U / 2 ^ k % 2:Nat):Int):=by
 have e:(U:Int) / 2 ^ k=((U / 2 ^ k:Nat):Int):=by simp
 rw [e,and_1 (U / 2 ^ k) (Nat.lt_of_le_of_lt (Nat.div_le_self _ _) hU)]
def atS (a b:Int)(U k:Nat):Wd:=if k=64 then prodD a b else outS a U k
theorem atS_less {a b:Int}{U k:Nat}(h:k < 64):atS a b U k=outS a U k:=if_neg (by omega)
theorem atS_none {a b:Int}{U k:Nat}(g0 : -9223372036854775808≤b)(g1:b≤9223372036854775807)(hU:IntKind.u64.wrap b=(U:Int))(hk:k < 64)(h:U / 2 ^ k % 2=0):atS a b U (k+1)=atS a b U k:=by
 rw [atS_less hk]
 by_cases e:k=63
 ·subst e
  exact (outS_end a U g0 g1 hU h).symm
 ·rw [atS_less (by omega)];exact outS_none a U k h
theorem atS_some {a b:Int}{U k:Nat}(hk:k < 63)(h:U / 2 ^ k % 2=1):sumD (atS a b U k) (dblS a k)=atS a b U (k+1):=by
 rw [atS_less (by omega),atS_less (by omega)];exact outS_some a U k h
theorem atS_last {a b:Int}{U:Nat}(g0 : -9223372036854775808≤b)(g1:b≤9223372036854775807)(hU:IntKind.u64.wrap b=(U:Int))(h:U / 2 ^ 63 % 2=1):sumD (atS a b U 63) (minusD (dblS a 63))=atS a b U 64:=by
 rw [atS_less (by decide)];exact outS_last a U g0 g1 hU h
theorem dblS_in (a:Int)(k:Nat):InW (dblS a k):=toW_in _
theorem atS_in (a b:Int)(U k:Nat):InW (atS a b U k):=by unfold atS;split <;> exact toW_in _
set_option maxHeartbeats 4000000 in
theorem ref_wide_product_calls {a b:Int}(h0 : -9223372036854775808≤a)(h1:a≤9223372036854775807)(g0 : -9223372036854775808≤b)(g1:b≤9223372036854775807) :
  Gives Tryz.prog 37 #[.int .i64 a,.int .i64 b] (wV (prodD a b)):=by
 intro w
 obtain ⟨U,hU⟩:∃ U:Nat,IntKind.u64.wrap b=(U:Int):=⟨(IntKind.u64.wrap b).toNat,by rw [IntKind.wrap_u64];omega⟩
 have hUl:U < 18446744073709551616:=by rw [IntKind.wrap_u64] at hU;omega
 have HU:=Lib.hid hU
 have HL:=Lib.hid hUl
 have HB0:=Lib.hid g0
 have HB1:=Lib.hid g1
 have HD:=Lib.hid (dblS_start a)
 have H1:=Lib.hid (ref_wide_of_calls a h0 h1)
 have q:∀ (w:World) (o:Obj),Below w.heap.size w (w.alloc o):=fun w o=>Below.alloc (.refl _ _) (Nat.le_refl _) o
 have hz:=(wbox_zero w 70).later (q _ (.cells #[.int .i64 0,.int .u64 0] 70))
 have ho:=wbox_zero (w.alloc (.cells #[.int .i64 0,.int .u64 0] 70)) 70
 have hb:=(q w (.cells #[.int .i64 0,.int .u64 0] 70)).alloc (by simp) (.cells #[.int .i64 0,.int .u64 0] 70)
 have hsz:((w.alloc (.cells #[.int .i64 0,.int .u64 0] 70)).alloc (.cells #[.int .i64 0,.int .u64 0] 70)).heap.size=w.heap.size+2:=by simp
 rw [show (w.alloc (.cells #[.int .i64 0,.int .u64 0] 70)).heap.size=w.heap.size+1 by simp] at ho
 clear h0 h1 g0 g1 hU hUl q
 have HA:=Lib.hid ((congrArg InW (dblS_start a)).mp (dblS_in a 0))
 unfold wV at H1
 go_enter Tryz.func37,Tryz.ntmps37
 go_wp2_with fail
 generalize (w.alloc (.cells #[.int .i64 0,.int .u64 0] 70)).alloc (.cells #[.int .i64 0,.int .u64 0] 70)=w2 at *
 refine H1.out.step (w0:=w2) (B:=w2.heap.size) (.refl _ _) (Nat.le_refl _) ?_
 intro w3 hq hB
 replace hb:=hb.trans (hq.mono hb.size)
 replace hz:=hz.later hq
 replace ho:=ho.later hq
 rw [hsz] at hB
 clear hq hsz H1
 have hx:=wbox_lit w3 70 (ofD a)
 have q:Below w3.heap.size w3 (w3.alloc (.cells #[.int .i64 (ofD a).1,.int .u64 (ofD a).2] 70)):=Below.alloc (.refl _ _) (Nat.le_refl _) _
 replace hz:=hz.later q
 replace ho:=ho.later q
 replace hb:=hb.trans (q.mono hb.size)
 clear q
 rw [←HD.out] at hx hb hz ho ⊢
 rw [←outS_start a U,←atS_less (b:=b) (k:=0) (by decide)] at ho
 obtain ⟨B,hBx⟩:∃ B,w3.heap.size=B:=⟨_,rfl⟩
 have hBB:w.heap.size+2≤B:=by omega
 rw [hBx] at hx
 clear hB
 go_wp2_with fail
 generalize w3.alloc (.cells #[.int .i64 (dblS a 0).1,.int .u64 (dblS a 0).2] 70)=w4 at *
 clear hBx HA HD
 have HBB:=Lib.hid hBB
 clear hBB
 go_loopw [7] (fun i wr=>∃ k:Nat,k≤64∧i=.int .i64 k∧WBox wr w.heap.size (0,0)∧WBox wr (w.heap.size+1) (atS a b U k)∧WBox wr B (dblS a k)∧Below w.heap.size w wr) (fun i _=>64-(intOf i).toNat)
 case atStart=>exact ⟨0,by omega,rfl,hz,ho,hx,hb⟩
 case round =>
  clear hz ho hx hb
  obtain ⟨k,hk,rfl,hz,ho,hx,hb⟩:=hrel
  by_cases hlt:k < 64
  ·have hu:=HU.out
   have hw:IntKind.u64.wrap (k:Int)=(k:Int):=by rw [IntKind.wrap_u64];omega
   have hBB:=HBB.out
   have S0:=ref_wide_sum_calls (dblS_in a k) (dblS_in a k)
   rw [dblS_next] at S0
   unfold wV at S0
   have S:=Lib.hid S0
   clear S0
   by_cases hbit:U / 2 ^ k % 2=1
   ·have g1:(bits .and .u64 ((U:Int) / 2 ^ k) 1==1)=true:=by rw [bit_at U k HL.out,hbit];rfl
    by_cases h63:k=63
    ·have g2:((k:Int)==63)=true:=by rw [h63];rfl
     have e1:sumD (atS a b U k) (minusD (dblS a k))=atS a b U (k+1):=by subst h63;exact atS_last HB0.out HB1.out hu hbit
     clear h63
     have M0:=ref_wide_minus_calls (dblS_in a k)
     have S1:=ref_wide_sum_calls (atS_in a b U k) (minusD_in (dblS a k))
     rw [e1] at S1
     unfold wV at M0 S1
     have M:=Lib.hid M0
     have S2:=Lib.hid S1
     clear M0 S1 e1
     obtain ⟨x0,x1,xf0,xf1,_⟩:=hx.cells
     obtain ⟨y0,y1,yf0,yf1,_⟩:=ho.cells
     have HX0:=Lib.hid x0
     have HX1:=Lib.hid x1
     have HO:=Lib.hid ho
     have HZ:=Lib.hid hz
     have HX:=Lib.hid hx
     have HB:=Lib.hid hb
     clear hz ho hx hb xf0 xf1 yf0 yf1
     go_wp2_with fail
     go_region_with (first|(go_at_call 53;refine M.out.step (w0:=wr) (B:=wr.heap.size) ?_ ?_ ?_;exact Below.drew (.refl _ _);exact Nat.le_refl _;intro w7 hq hqB;obtain ⟨y0,y1,yf0,yf1,_⟩:=(HO.out.later hq).cells)|(go_at_call 34;refine S2.out.step (w0:=wr) (B:=wr.heap.size) hq hqB ?_;clear hq hqB y0 y1 yf0 yf1;intro w8 hq hqB;obtain ⟨y0,y1,yf0,yf1,_⟩:=(HO.out.later hq).cells))
     all_goals
      have hz:=HZ.out.later hq
      have ho:=HO.out.later hq
      have hx:=HX.out.later hq
      have hb:=HB.out.trans (hq.mono HB.out.size)
      replace hz:=hz.beside (C:=w.heap.size+1) (by omega) (atS a b U (k+1))
      replace hx:=hx.beside (C:=w.heap.size+1) (by omega) (atS a b U (k+1))
      replace ho:=ho.put (atS a b U (k+1))
      replace hb:=put_below hb (B:=w.heap.size+1) (by omega) (atS a b U (k+1))
      clear hq hqB x0 x1 y0 y1 yf0 yf1 HX0 HX1 HO HZ HX HB M S2
      unfold putW2 at hz hx ho hb
      generalize (w8.setCell ⟨w.heap.size+1,0,none⟩ (.int .i64 (atS a b U (k+1)).1)).setCell ⟨w.heap.size+1,1,none⟩ (.int .u64 (atS a b U (k+1)).2)=w6 at *
      obtain ⟨x0,x1,xf0,xf1,_⟩:=hx.cells
      go_wp2_with fail
      refine S.out.step (w0:=w6) (B:=w6.heap.size) (.refl _ _) (Nat.le_refl _) ?_
      clear x0 x1 xf0 xf1
      intro w8 hq _
      replace hz:=hz.later hq
      replace ho:=ho.later hq
      replace hx:=hx.later hq
      replace hb:=hb.trans (hq.mono hb.size)
      clear hq
      obtain ⟨x0,x1,xf0,xf1,_⟩:=hx.cells
      have hz9:=hz.beside (C:=B) (by omega) (dblS a (k+1))
      have ho9:=ho.beside (C:=B) (by omega) (dblS a (k+1))
      have hx9:=hx.put (dblS a (k+1))
      have hb9:=put_below hb (B:=B) (by omega) (dblS a (k+1))
      clear hz ho hx hb
      go_wp2
      go_roundw
      case rel=>exact ⟨k+1,by omega,by go_num,hz9,ho9,hx9,hb9⟩
      case measure=>simp [intOf];omega
    ·have g2:((k:Int)==63)=false:=by rw [beq_eq_false_iff_ne];omega
     have S1:=ref_wide_sum_calls (atS_in a b U k) (dblS_in a k)
     rw [atS_some (by omega) hbit] at S1
     unfold wV at S1
     have S2:=Lib.hid S1
     clear S1
     obtain ⟨x0,x1,xf0,xf1,_⟩:=hx.cells
     obtain ⟨y0,y1,yf0,yf1,_⟩:=ho.cells
     go_wp2_with fail
     refine S2.out.step (w0:=wr) (B:=wr.heap.size) (.refl _ _) (Nat.le_refl _) ?_
     clear x0 x1 xf0 xf1 y0 y1 yf0 yf1
     intro w7 hq _
     replace hz:=hz.later hq
     replace ho:=ho.later hq
     replace hx:=hx.later hq
     replace hb:=hb.trans (hq.mono hb.size)
     clear hq
     obtain ⟨y0,y1,yf0,yf1,_⟩:=ho.cells
     replace hz:=hz.beside (C:=w.heap.size+1) (by omega) (atS a b U (k+1))
     replace hx:=hx.beside (C:=w.heap.size+1) (by omega) (atS a b U (k+1))
     replace ho:=ho.put (atS a b U (k+1))
     replace hb:=put_below hb (B:=w.heap.size+1) (by omega) (atS a b U (k+1))
     obtain ⟨x0,x1,xf0,xf1,_⟩:=hx.cells
     go_wp2_with fail
     clear y0 y1 yf0 yf1
     unfold putW2 at hz hx ho hb x0 x1 xf0 xf1
     generalize (w7.setCell ⟨w.heap.size+1,0,none⟩ (.int .i64 (atS a b U (k+1)).1)).setCell ⟨w.heap.size+1,1,none⟩ (.int .u64 (atS a b U (k+1)).2)=w6 at *
     refine S.out.step (w0:=w6) (B:=w6.heap.size) (.refl _ _) (Nat.le_refl _) ?_
     clear x0 x1 xf0 xf1
     intro w8 hq _
     replace hz:=hz.later hq
     replace ho:=ho.later hq
     replace hx:=hx.later hq
     replace hb:=hb.trans (hq.mono hb.size)
     clear hq
     obtain ⟨x0,x1,xf0,xf1,_⟩:=hx.cells
     have hz9:=hz.beside (C:=B) (by omega) (dblS a (k+1))
     have ho9:=ho.beside (C:=B) (by omega) (dblS a (k+1))
     have hx9:=hx.put (dblS a (k+1))
     have hb9:=put_below hb (B:=B) (by omega) (dblS a (k+1))
     clear hz ho hx hb
     go_wp2
     go_roundw
     case rel=>exact ⟨k+1,by omega,by go_num,hz9,ho9,hx9,hb9⟩
     case measure=>simp [intOf];omega
   ·have g1:(bits .and .u64 ((U:Int) / 2 ^ k) 1==1)=false:=by
     rw [bit_at U k HL.out,show U / 2 ^ k % 2=0 by omega];rfl
    rw [←atS_none HB0.out HB1.out hu hlt (by omega)] at ho
    obtain ⟨x0,x1,xf0,xf1,_⟩:=hx.cells
    go_wp2_with fail
    refine S.out.step (w0:=wr) (B:=wr.heap.size) (.refl _ _) (Nat.le_refl _) ?_
    clear x0 x1 xf0 xf1
    intro w8 hq _
    replace hz:=hz.later hq
    replace ho:=ho.later hq
    replace hx:=hx.later hq
    replace hb:=hb.trans (hq.mono hb.size)
    clear hq
    obtain ⟨x0,x1,xf0,xf1,_⟩:=hx.cells
    have hz9:=hz.beside (C:=B) (by omega) (dblS a (k+1))
    have ho9:=ho.beside (C:=B) (by omega) (dblS a (k+1))
    have hx9:=hx.put (dblS a (k+1))
    have hb9:=put_below hb (B:=B) (by omega) (dblS a (k+1))
    clear hz ho hx hb
    go_wp2
    go_roundw
    case rel=>exact ⟨k+1,by omega,by go_num,hz9,ho9,hx9,hb9⟩
    case measure=>simp [intOf];omega
  ·obtain rfl:k=64:=by omega
   obtain ⟨y0,y1,yf0,yf1,_⟩:=ho.cells
   obtain ⟨z0,z1,zf0,zf1,_⟩:=hz.cells
   have hz9:=hz.put (prodD a b)
   have hb9:=put_below hb (B:=w.heap.size) (Nat.le_refl _) (prodD a b)
   rw [show atS a b U 64=prodD a b from if_pos rfl] at y0 y1
   clear hz ho hx hb
   go_wp2
   obtain ⟨z0,z1,_⟩:=hz9.cells
   refine ⟨rfl,wV (prodD a b),?_,rfl,hb9⟩
   simp [results,Tryz.results37,go_sem,z0,z1,wV]
end Go.Proofs.YtjbpbfhgjldliaaGreat
