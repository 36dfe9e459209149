/- Plain facts on the words of layer 11's own functions: a number's sign, what a sum carries, a product by halves; no program. -/
import Derived.Test.YtopeeokjfaampaaGZWideRef
namespace Go.Proofs.Ytopeeokjfaampaa
open Go Go.RowKit
def signD (n:Int):Int:=if n < 0 then 18446744073709551615 else 0
theorem signs_eq {n:Int}(h0 : -9223372036854775808≤n)(h1:n≤9223372036854775807):IntKind.u64.wrap (n / 9223372036854775808)=signD n:=by
 rw [IntKind.wrap_u64]
 unfold signD
 split <;> omega
theorem of_signs {n:Int}(h0 : -9223372036854775808≤n)(h1:n≤9223372036854775807):ofD n=(wrap64 (signD n),IntKind.u64.wrap n):=by
 rw [IntKind.wrap_u64]
 unfold ofD toW wr64 wrap64 signD
 refine Prod.ext ?_ rfl
 dsimp only
 split <;> omega
theorem top_bit (x:BitVec 64):x.toNat / 9223372036854775808=x.msb.toNat:=by
 have h:=BitVec.msb_eq_decide x
 have hl:x.toNat < 18446744073709551616:=x.isLt
 rw [h]
 by_cases hx:2 ^ (64-1)≤x.toNat
 ·rw [decide_eq_true hx]
  have:(9223372036854775808:Nat)≤x.toNat:=hx
  show _=1
  omega
 ·rw [decide_eq_false hx]
  have:¬(9223372036854775808:Nat)≤x.toNat:=hx
  show _=0
  omega
theorem ofInt_of (x:BitVec 64):BitVec.ofInt 64 (x.toNat:Int)=x:=by
 rw [BitVec.ofInt_natCast,BitVec.ofNat_toNat,BitVec.setWidth_eq]
theorem wrap_toNat (x:BitVec 64):IntKind.u64.wrap (x.toNat:Int)=(x.toNat:Int):=by
 have hl:x.toNat < 18446744073709551616:=x.isLt
 rw [IntKind.wrap_u64];omega
theorem msb_of (n:Int)(h0:0≤n)(h1:n≤18446744073709551615):(BitVec.ofInt 64 n).msb=decide (9223372036854775808≤n):=by
 rw [BitVec.msb_eq_decide]
 have e:(BitVec.ofInt 64 n).toNat=n.toNat:=by
  rw [BitVec.toNat_ofInt]
  show (n % 18446744073709551616).toNat=n.toNat
  omega
 rw [e]
 by_cases h:9223372036854775808≤n
 ·rw [decide_eq_true h,decide_eq_true_eq]
  show 9223372036854775808≤n.toNat
  omega
 ·rw [decide_eq_false h,decide_eq_false_iff_not]
  show ¬9223372036854775808≤n.toNat
  omega
theorem carry_eq {a b:Int}(h0:0≤a)(h1:a≤18446744073709551615)(g0:0≤b)(g1:b≤18446744073709551615) :
  bits .or .u64 (bits .and .u64 a b) (bits .andNot .u64 (bits .or .u64 a b) (IntKind.u64.wrap (a+b))) / 9223372036854775808=(a+b) / 18446744073709551616:=by
 have hs0:0≤IntKind.u64.wrap (a+b):=by rw [IntKind.wrap_u64];omega
 have hs1:IntKind.u64.wrap (a+b)≤18446744073709551615:=by rw [IntKind.wrap_u64];omega
 have hs:IntKind.u64.wrap (a+b)=(a+b) % 18446744073709551616:=by rw [IntKind.wrap_u64]
 generalize IntKind.u64.wrap (a+b)=s at *
 have e1:bits .and .u64 a b=((BitVec.ofInt 64 a &&& BitVec.ofInt 64 b).toNat:Int):=wrap_toNat _
 have e2:bits .or .u64 a b=((BitVec.ofInt 64 a ||| BitVec.ofInt 64 b).toNat:Int):=wrap_toNat _
 have e3:bits .andNot .u64 (bits .or .u64 a b) s=(((BitVec.ofInt 64 a ||| BitVec.ofInt 64 b) &&& ~~~ BitVec.ofInt 64 s).toNat:Int):=by
  rw [e2]
  refine Eq.trans (wrap_toNat (BitVec.ofInt 64 ((BitVec.ofInt 64 a ||| BitVec.ofInt 64 b).toNat:Int) &&& ~~~ BitVec.ofInt 64 s)) ?_
  rw [ofInt_of]
 have e4:bits .or .u64 (bits .and .u64 a b) (bits .andNot .u64 (bits .or .u64 a b) s)=(((BitVec.ofInt 64 a &&& BitVec.ofInt 64 b) ||| ((BitVec.ofInt 64 a ||| BitVec.ofInt 64 b) &&& ~~~ BitVec.ofInt 64 s)).toNat:Int):=by
  rw [e1,e3]
  refine Eq.trans (wrap_toNat (BitVec.ofInt 64 ((BitVec.ofInt 64 a &&& BitVec.ofInt 64 b).toNat:Int) ||| BitVec.ofInt 64 (((BitVec.ofInt 64 a ||| BitVec.ofInt 64 b) &&& ~~~ BitVec.ofInt 64 s).toNat:Int))) ?_
  rw [ofInt_of,ofInt_of]
 rw [e4]
 have k:=top_bit ((BitVec.ofInt 64 a &&& BitVec.ofInt 64 b) ||| ((BitVec.ofInt 64 a ||| BitVec.ofInt 64 b) &&& ~~~ BitVec.ofInt 64 s))
 rw [BitVec.msb_or,BitVec.msb_and,BitVec.msb_and,BitVec.msb_or,BitVec.msb_not,msb_of a h0 h1,msb_of b g0 g1,msb_of s hs0 hs1] at k
 generalize ((BitVec.ofInt 64 a &&& BitVec.ofInt 64 b) ||| ((BitVec.ofInt 64 a ||| BitVec.ofInt 64 b) &&& ~~~ BitVec.ofInt 64 s)).toNat=t at *
 have k':(t:Int) / 9223372036854775808=((t / 9223372036854775808:Nat):Int):=by omega
 rw [k',k]
 by_cases x1:9223372036854775808≤a <;> by_cases x2:9223372036854775808≤b <;> by_cases x3:9223372036854775808≤s <;>
  simp only [x1,x2,x3,decide_true,decide_false,Bool.and_true,Bool.and_false,Bool.or_true,Bool.or_false,Bool.not_true,Bool.not_false,Bool.true_and,Bool.false_and,Bool.true_or,Bool.false_or,Bool.and_self,Bool.or_self,Bool.toNat,cond_true,cond_false] <;> simp <;> omega
theorem sumD_carry {a b:Wd}(ha:InW a)(hb:InW b):sumD a b=(wrap64 (IntKind.u64.wrap (IntKind.u64.wrap (IntKind.u64.wrap a.1+IntKind.u64.wrap b.1)+(a.2+b.2) / 18446744073709551616)),IntKind.u64.wrap (a.2+b.2)):=by
 obtain ⟨a1,a2⟩:=a
 obtain ⟨b1,b2⟩:=b
 obtain ⟨_,ha⟩:=ha
 obtain ⟨_,hb⟩:=hb
 rw [IntKind.wrap_u64,IntKind.wrap_u64,IntKind.wrap_u64,IntKind.wrap_u64,IntKind.wrap_u64]
 unfold sumD toW valW wr64 wrap64
 dsimp only at *
 refine Prod.ext ?_ ?_
 ·dsimp only;omega
 ·dsimp only;omega
theorem and_half (n:Int)(h0:0≤n)(h1:n≤18446744073709551615):bits .and .u64 n 4294967295=n % 4294967296:=by
 obtain ⟨m,rfl⟩:∃ m:Nat,n=(m:Int):=⟨n.toNat,by omega⟩
 have k:=bits_and_u64_nat m 4294967295 (by omega) (by omega)
 have e:m &&& 4294967295=m % 4294967296:=Nat.and_two_pow_sub_one_eq_mod m 32
 rw [e] at k
 rw [show (4294967295:Int)=((4294967295:Nat):Int) from rfl,k]
 omega
theorem or_half (x y:Int)(h0:0≤x)(h1:x≤4294967295)(g0:0≤y)(g1:y≤4294967295):bits .or .u64 (x*4294967296) y=x*4294967296+y:=by
 obtain ⟨m,rfl⟩:∃ m:Nat,x=(m:Int):=⟨x.toNat,by omega⟩
 obtain ⟨n,rfl⟩:∃ n:Nat,y=(n:Int):=⟨y.toNat,by omega⟩
 have k:=bits_or_u64_nat (4294967296*m) n (by omega) (by omega)
 have j:=Nat.two_pow_add_eq_or_of_lt (i:=32) (b:=n) (by omega) m
 have j':4294967296*m+n=4294967296*m ||| n:=j
 rw [←j'] at k
 rw [show (m:Int)*4294967296=((4294967296*m:Nat):Int) by omega,k]
 omega
theorem half_mul {x y:Int}(h0:0≤x)(h1:x≤4294967295)(g0:0≤y)(g1:y≤4294967295):0≤x*y∧x*y≤18446744065119617025:=by
 refine ⟨Int.mul_nonneg h0 g0,?_⟩
 have:=Int.mul_le_mul h1 g1 g0 (by decide:(0:Int)≤4294967295)
 omega
def lowsD (p q r:Int):Int:=((r+(q+p / 4294967296) % 4294967296) % 4294967296)*4294967296+p % 4294967296
def highsD (p q r s:Int):Int:=s+(q+p / 4294967296) / 4294967296+(r+(q+p / 4294967296) % 4294967296) / 4294967296
theorem times_eq {a b:Int}:highsD ((a % 4294967296)*(b % 4294967296)) ((a / 4294967296)*(b % 4294967296)) ((a % 4294967296)*(b / 4294967296)) ((a / 4294967296)*(b / 4294967296))*18446744073709551616 +
  lowsD ((a % 4294967296)*(b % 4294967296)) ((a / 4294967296)*(b % 4294967296)) ((a % 4294967296)*(b / 4294967296))=a*b:=by
 have e:a*b=((a / 4294967296)*4294967296+a % 4294967296)*((b / 4294967296)*4294967296+b % 4294967296):=by
  rw [show a / 4294967296*4294967296+a % 4294967296=a by omega,show b / 4294967296*4294967296+b % 4294967296=b by omega]
 rw [e,Int.add_mul,Int.mul_add,Int.mul_add]
 generalize a / 4294967296=ah
 generalize b / 4294967296=bh
 generalize a % 4294967296=al
 generalize b % 4294967296=bl
 rw [show ah*4294967296*(bh*4294967296)=(ah*bh)*18446744073709551616 by rw [Int.mul_assoc,Int.mul_left_comm 4294967296 bh,←Int.mul_assoc];rfl,
  show ah*4294967296*bl=(ah*bl)*4294967296 by rw [Int.mul_assoc,Int.mul_comm 4294967296 bl,←Int.mul_assoc],show al*(bh*4294967296)=(al*bh)*4294967296 by rw [←Int.mul_assoc]]
 generalize ah*bh=s
 generalize ah*bl=q
 generalize al*bh=r
 generalize al*bl=p
 unfold highsD lowsD
 omega
theorem lows_in (p q r:Int):0≤lowsD p q r∧lowsD p q r≤18446744073709551615:=by unfold lowsD;omega
theorem times_parts {a b:Int}:highsD ((a % 4294967296)*(b % 4294967296)) ((a / 4294967296)*(b % 4294967296)) ((a % 4294967296)*(b / 4294967296)) ((a / 4294967296)*(b / 4294967296))=a*b / 18446744073709551616 ∧
  lowsD ((a % 4294967296)*(b % 4294967296)) ((a / 4294967296)*(b % 4294967296)) ((a % 4294967296)*(b / 4294967296))=a*b % 18446744073709551616:=by
 have h:=times_eq (a:=a) (b:=b)
 have k:=lows_in ((a % 4294967296)*(b % 4294967296)) ((a / 4294967296)*(b % 4294967296)) ((a % 4294967296)*(b / 4294967296))
 generalize highsD ((a % 4294967296)*(b % 4294967296)) ((a / 4294967296)*(b % 4294967296)) ((a % 4294967296)*(b / 4294967296)) ((a / 4294967296)*(b / 4294967296))=h1 at *
 generalize lowsD ((a % 4294967296)*(b % 4294967296)) ((a / 4294967296)*(b % 4294967296)) ((a % 4294967296)*(b / 4294967296))=l1 at *
 generalize a*b=z at *
 omega
theorem times_words {a b:Int}(h0:0≤a)(h1:a≤18446744073709551615)(g0:0≤b)(g1:b≤18446744073709551615) :
  IntKind.u64.wrap (IntKind.u64.wrap (IntKind.u64.wrap (a / 4294967296*(b / 4294967296)) +
    IntKind.u64.wrap (IntKind.u64.wrap (a / 4294967296*bits .and .u64 b 4294967295)+IntKind.u64.wrap (bits .and .u64 a 4294967295*bits .and .u64 b 4294967295) / 4294967296) / 4294967296) +
   IntKind.u64.wrap (IntKind.u64.wrap (bits .and .u64 a 4294967295*(b / 4294967296)) +
    bits .and .u64 (IntKind.u64.wrap (IntKind.u64.wrap (a / 4294967296*bits .and .u64 b 4294967295)+IntKind.u64.wrap (bits .and .u64 a 4294967295*bits .and .u64 b 4294967295) / 4294967296)) 4294967295) / 4294967296)=a*b / 18446744073709551616 ∧
  bits .or .u64 (IntKind.u64.wrap (IntKind.u64.wrap (IntKind.u64.wrap (bits .and .u64 a 4294967295*(b / 4294967296)) +
    bits .and .u64 (IntKind.u64.wrap (IntKind.u64.wrap (a / 4294967296*bits .and .u64 b 4294967295)+IntKind.u64.wrap (bits .and .u64 a 4294967295*bits .and .u64 b 4294967295) / 4294967296)) 4294967295)*4294967296))
   (bits .and .u64 (IntKind.u64.wrap (bits .and .u64 a 4294967295*bits .and .u64 b 4294967295)) 4294967295)=a*b % 18446744073709551616:=by
 have h:=times_parts (a:=a) (b:=b)
 have p1:=half_mul (x:=a % 4294967296) (y:=b % 4294967296) (by omega) (by omega) (by omega) (by omega)
 have p2:=half_mul (x:=a / 4294967296) (y:=b % 4294967296) (by omega) (by omega) (by omega) (by omega)
 have p3:=half_mul (x:=a % 4294967296) (y:=b / 4294967296) (by omega) (by omega) (by omega) (by omega)
 have p4:=half_mul (x:=a / 4294967296) (y:=b / 4294967296) (by omega) (by omega) (by omega) (by omega)
 rw [and_half a h0 h1,and_half b g0 g1,←h.1,←h.2]
 clear h
 generalize a % 4294967296*(b % 4294967296)=p at *
 generalize a / 4294967296*(b % 4294967296)=q at *
 generalize a % 4294967296*(b / 4294967296)=r at *
 generalize a / 4294967296*(b / 4294967296)=s at *
 have hw:∀ n:Int,0≤n→n≤18446744073709551615→IntKind.u64.wrap n=n:=fun n _ _=>by rw [IntKind.wrap_u64];omega
 rw [hw p (by omega) (by omega),hw q (by omega) (by omega),hw r (by omega) (by omega),hw s (by omega) (by omega)]
 have x1:0≤q+p / 4294967296∧q+p / 4294967296≤18446744073709551615:=by omega
 rw [hw (q+p / 4294967296) x1.1 x1.2,and_half (q+p / 4294967296) x1.1 x1.2]
 have x2:0≤r+(q+p / 4294967296) % 4294967296∧r+(q+p / 4294967296) % 4294967296≤18446744073709551615:=by omega
 rw [hw (r+(q+p / 4294967296) % 4294967296) x2.1 x2.2]
 have x3:0≤s+(q+p / 4294967296) / 4294967296∧s+(q+p / 4294967296) / 4294967296≤18446744073709551615-4294967296:=by omega
 rw [hw (s+(q+p / 4294967296) / 4294967296) x3.1 (by omega),hw (s+(q+p / 4294967296) / 4294967296+(r+(q+p / 4294967296) % 4294967296) / 4294967296) (by omega) (by omega),and_half p (by omega) (by omega)]
 refine ⟨rfl,?_⟩
 have e:IntKind.u64.wrap ((r+(q+p / 4294967296) % 4294967296)*4294967296)=((r+(q+p / 4294967296) % 4294967296) % 4294967296)*4294967296:=by rw [IntKind.wrap_u64];omega
 rw [e,or_half _ _ (by omega) (by omega) (by omega) (by omega)]
 rfl
theorem and_sign (n v:Int)(h0:0≤v)(h1:v≤18446744073709551615):bits .and .u64 (signD n) v=if n < 0 then v else 0:=by
 obtain ⟨m,rfl⟩:∃ m:Nat,v=(m:Int):=⟨v.toNat,by omega⟩
 unfold signD
 split
 ·have k:=bits_and_u64_nat 18446744073709551615 m (by omega) (by omega)
  have e:18446744073709551615 &&& m=m % 18446744073709551616:=by rw [Nat.and_comm];exact Nat.and_two_pow_sub_one_eq_mod m 64
  rw [e] at k
  rw [show (18446744073709551615:Int)=((18446744073709551615:Nat):Int) from rfl,k]
  omega
 ·have k:=bits_and_u64_nat 0 m (by omega) (by omega)
  rw [Nat.zero_and] at k
  exact k
theorem prod_signs {a b:Int}(h0 : -9223372036854775808≤a)(h1:a≤9223372036854775807)(g0 : -9223372036854775808≤b)(g1:b≤9223372036854775807){u v:Int}(hu:u=IntKind.u64.wrap a)(hv:v=IntKind.u64.wrap b) :
  prodD a b=(wrap64 (IntKind.u64.wrap (u*v / 18446744073709551616-IntKind.u64.wrap ((if a < 0 then v else 0)+(if b < 0 then u else 0)))),u*v % 18446744073709551616):=by
 rw [IntKind.wrap_u64] at hu hv
 rw [IntKind.wrap_u64,IntKind.wrap_u64]
 have e:∃ k:Int,a*b=u*v-((if a < 0 then v else 0)+(if b < 0 then u else 0))*18446744073709551616+k*m128:=by
  unfold m128
  by_cases ha:a < 0 <;> by_cases hb:b < 0
  ·refine ⟨1,?_⟩
   rw [if_pos ha,if_pos hb,show a=u-18446744073709551616 by omega,show b=v-18446744073709551616 by omega,Int.sub_mul,Int.mul_sub]
   omega
  ·refine ⟨0,?_⟩
   rw [if_pos ha,if_neg hb,show a=u-18446744073709551616 by omega,show b=v by omega,Int.sub_mul]
   omega
  ·refine ⟨0,?_⟩
   rw [if_neg ha,if_pos hb,show b=v-18446744073709551616 by omega,show a=u by omega,Int.mul_sub]
   omega
  ·refine ⟨0,?_⟩
   rw [if_neg ha,if_neg hb,show a=u by omega,show b=v by omega]
   omega
 obtain ⟨k,hk⟩:=e
 unfold prodD
 rw [toW_same k hk]
 generalize u*v=z
 generalize (if a < 0 then v else 0)+(if b < 0 then u else 0)=c
 unfold toW wr64 wrap64
 refine Prod.ext ?_ ?_
 ·dsimp only;omega
 ·dsimp only;omega
end Go.Proofs.Ytopeeokjfaampaa
