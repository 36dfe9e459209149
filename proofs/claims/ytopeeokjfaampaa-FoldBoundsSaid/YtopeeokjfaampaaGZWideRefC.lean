/- The contract of the answer's Int of layer 11. -/
import Derived.Test.YtopeeokjfaampaaGZWideRefB
namespace Go.Proofs.Ytopeeokjfaampaa
open Go Go.RowKit
theorem wrap64_in (x:Int) : -9223372036854775808≤wrap64 x∧wrap64 x≤9223372036854775807:=by unfold wrap64;omega
theorem fits_iff {a:Wd}(h:InW a):fitsD a=true↔ofD (wrap64 a.2)=a:=by
 have hw:=wrap64_in a.2
 constructor
 ·intro hf
  unfold fitsD at hf
  rw [Bool.and_eq_true,decide_eq_true_eq,decide_eq_true_eq] at hf
  have e:wrap64 a.2=valW a:=by
   obtain ⟨a1,a2⟩:=a
   unfold valW wrap64 at *
   unfold InW at h
   dsimp only at *
   omega
  rw [e]
  exact toW_val h
 ·intro e
  have:=(fits_of hw.1 hw.2).1
  rwa [e] at this
theorem int_of {a:Wd}(h:InW a)(hf:fitsD a=true):intD a=wrap64 a.2:=by
 have hw:=wrap64_in a.2
 have e:=(fits_iff h).1 hf
 have:=(fits_of hw.1 hw.2).2
 rw [e] at this
 exact this
def errD (a:Wd):Int:=if fitsD a then 0 else 7
end Go.Proofs.Ytopeeokjfaampaa
