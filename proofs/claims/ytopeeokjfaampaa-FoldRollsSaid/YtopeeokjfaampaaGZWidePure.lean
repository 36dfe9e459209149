/- Plain facts on numbers of 128 bits, as two words; no program. -/
import Derived.Test.YtopeeokjfaampaaGBase
namespace Go.Proofs.Ytopeeokjfaampaa
open Go Go.RowKit
abbrev Wd:=Int×Int
def InW (a:Wd):Prop:=(-9223372036854775808≤a.1∧a.1≤9223372036854775807)∧0≤a.2∧a.2≤18446744073709551615
def valW (a:Wd):Int:=a.1*18446744073709551616+a.2
def wr64 (x:Int):Int:=(x+9223372036854775808) % 18446744073709551616-9223372036854775808
def toW (z:Int):Wd:=(wr64 (z / 18446744073709551616),z % 18446744073709551616)
theorem toW_in (z:Int):InW (toW z):=by
 unfold InW toW wr64
 dsimp only
 omega
theorem toW_val {a:Wd}(h:InW a):toW (valW a)=a:=by
 obtain ⟨h1,h2⟩:=h
 have e1:valW a / 18446744073709551616=a.1:=by unfold valW;omega
 have e2:valW a % 18446744073709551616=a.2:=by unfold valW;omega
 unfold toW wr64
 rw [e1,e2]
 refine Prod.ext ?_ rfl
 show (a.1+9223372036854775808) % 18446744073709551616-9223372036854775808=a.1
 omega
def m128:Int:=340282366920938463463374607431768211456
theorem toW_add (z k:Int):toW (z+k*m128)=toW z:=by
 have e:z+k*m128=z+(k*18446744073709551616)*18446744073709551616:=by
  unfold m128
  rw [Int.mul_assoc];rfl
 have h1:(z+k*m128) / 18446744073709551616=z / 18446744073709551616+k*18446744073709551616:=by rw [e];omega
 have h2:(z+k*m128) % 18446744073709551616=z % 18446744073709551616:=by rw [e];omega
 unfold toW wr64
 rw [h1,h2]
 refine Prod.ext ?_ rfl
 show (z / 18446744073709551616+k*18446744073709551616+9223372036854775808) % 18446744073709551616-9223372036854775808=(z / 18446744073709551616+9223372036854775808) % 18446744073709551616-9223372036854775808
 omega
theorem val_toW (z:Int):∃ k:Int,valW (toW z)=z+k*m128:=by
 refine ⟨- ((z / 18446744073709551616+9223372036854775808) / 18446744073709551616),?_⟩
 unfold valW toW wr64 m128
 dsimp only
 omega
theorem toW_same {a b:Int}(k:Int)(h:a=b+k*m128):toW a=toW b:=by rw [h];exact toW_add b k
def sumD (a b:Wd):Wd:=toW (valW a+valW b)
def prodD (a b:Int):Wd:=toW (a*b)
def ofD (n:Int):Wd:=toW n
def fitsD (a:Wd):Bool:=decide (-9223372036854775808≤valW a)&&decide (valW a≤9223372036854775807)
def intD (a:Wd):Int:=if fitsD a then valW a else 0
theorem val_zero:valW (0,0)=0:=rfl
theorem toW_zero:toW 0=(0,0):=rfl
theorem val_of {n:Int}(h0 : -170141183460469231731687303715884105728≤n)(h1:n≤170141183460469231731687303715884105727):valW (toW n)=n:=by
 unfold valW toW wr64
 dsimp only
 omega
theorem fits_of {n:Int}(h0 : -9223372036854775808≤n)(h1:n≤9223372036854775807):fitsD (ofD n)=true∧intD (ofD n)=n:=by
 have e:valW (ofD n)=n:=val_of (by omega) (by omega)
 have f:fitsD (ofD n)=true:=by unfold fitsD;rw [e,decide_eq_true h0,decide_eq_true h1];rfl
 exact ⟨f,by unfold intD;rw [f,e];rfl⟩
end Go.Proofs.Ytopeeokjfaampaa
