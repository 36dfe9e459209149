/- What layer 19's laws share: the calls of layers 10 and 19 on rows that are few, short, not too often. -/
import Derived.Test.YtaoeikeobfllkaaGWeighRef
import Derived.Test.YtaoeikeobfllkaaGWeighOwn
import Derived.Test.YtaoeikeobfllkaaGZPairJoin
import Derived.Test.YtaoeikeobfllkaaGZPairRefJoin
import Derived.Test.YtaoeikeobfllkaaGZPairSmall
namespace Go.Proofs.Ytaoeikeobfllkaa
open Go Go.RowKit
section
variable {n k c m j d:Nat}{a b:List Tm}{w:World}{va vb vr:Value}
theorem sum19 (ha:TimesIn w va a)(hb:TimesIn w vb b)(f:Fine n k c a)(g:Fine m j d b)(hn:n+m≤1000000∧k+j≤4611686018427387904):GivesTimes Try.prog 14 #[va,vb] w (sumW a b):=ref_weigh_sum_calls ha hb (Nat.le_trans (Nat.add_le_add f.1 g.1) hn.1) (Nat.le_trans (Nat.add_le_add f.2.1 g.2.1) hn.2)
theorem same19F (ha:TimesIn w va a)(hb:TimesIn w vb a)(f:Fine n k c a)(hn:n≤1000000∧c≤1000000):GivesAt Try.prog 11 #[va,vb] w (.bool true):=by
 have h:=same_times ha hb (Nat.le_trans f.1 hn.1) (f.shortR hn.2) (f.shortR hn.2)
 rw [decide_eq_true rfl] at h
 exact h
theorem find19 {row:List ByteArray}(ha:TimesIn w va a)(hr:StrsIn w vr row)(f:Fine n k c a)(hk:k≤4611686018427387904):GivesAt Try.prog 16 #[va,vr] w (.int .i64 (cntW a row)):=ref_weigh_find_calls ha hr (Nat.le_trans f.2.1 hk)
theorem right19 (ha:TimesIn w va a)(h:RightP a):GivesAt Try.prog 15 #[va] w (.bool true):=by
 have h1:=ref_weigh_right_calls ha
 rw [show rightW a=true from decide_eq_true h] at h1
 exact h1
end
end Go.Proofs.Ytaoeikeobfllkaa
