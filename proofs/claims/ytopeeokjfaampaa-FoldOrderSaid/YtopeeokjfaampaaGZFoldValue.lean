/- The contract of layer 20's Value. -/
import Derived.Test.YtopeeokjfaampaaGWeighSmall
import Derived.Test.YtopeeokjfaampaaGZFoldTally
namespace Go.Proofs.Ytopeeokjfaampaa
open Go Go.RowKit
def aggV (a:Int×Int):Value:=.agg #[.int .i64 a.1,.int .i64 a.2]
theorem val_count (t:Tal):valT t 1=numW t.rows:=if_pos rfl
theorem val_none (t:Tal){way:Int}(h:way≠1)(e:t.lo=⟨#[]⟩):valT t way=some eB:=by
 have e:t.lo=eB:=e
 unfold valT;rw [if_neg h,if_pos e]
theorem val_lo (t:Tal)(e:t.lo≠⟨#[]⟩):valT t 3=some t.lo:=by
 have e:¬t.lo=eB:=e
 unfold valT;rw [if_neg (by decide),if_neg e,if_pos rfl]
theorem val_hi (t:Tal)(e:t.lo≠⟨#[]⟩):valT t 4=some t.hi:=by
 have e:¬t.lo=eB:=e
 unfold valT;rw [if_neg (by decide),if_neg e,if_neg (by decide),if_pos rfl]
theorem val_sum (t:Tal){way:Int}(h1:way≠1)(h3:way≠3)(h4:way≠4)(e:t.lo≠⟨#[]⟩):valT t way=numW t.sum:=by
 have e:¬t.lo=eB:=e
 unfold valT;rw [if_neg h1,if_neg e,if_neg h3,if_neg h4]
set_option maxHeartbeats 4000000 in
set_option maxRecDepth 100000 in
theorem fvalue_calls {w:World}{v:Value}{l:List Tm}(a:Int×Int)(h:TimesIn w v l)(hN:∀ x∈l,-9223372036854775808≤x.2∧x.2≤9223372036854775807) :
  GivesAt Try.prog 11 #[v,aggV a] w (.tuple #[.string (gotN (valP l a)),.int .i64 (errN (valP l a))]):=by
 obtain ⟨Av,cv,rfl⟩:=times_slice h
 obtain ⟨way,col⟩:=a
 have hb0:=Below.alloc (.refl w.heap.size w) (Nat.le_refl _) (.cells #[.int .i64 way,.int .i64 col] 31)
 have HT:=Lib.hid (ftally_calls col (h.kept hb0) hN)
 have a0:=box_cell w 31 #[.int .i64 way,.int .i64 col] 0 _ rfl
 have a1:=box_cell w 31 #[.int .i64 way,.int .i64 col] 1 _ rfl
 clear h hN
 unfold valP aggV
 dsimp only
 generalize talL col l=t at *
 have V1:=val_count t
 have V2:=fun way (h:way≠1) e=>val_none t (way:=way) h e
 have V3:=val_lo t
 have V4:=val_hi t
 have V5:=fun way h1 h3 h4 e=>val_sum t (way:=way) h1 h3 h4 e
 obtain ⟨r,s,lo,hi⟩:=t
 dsimp only at V1 V2 V3 V4 V5
 have HNR:=Lib.hid (fnumber_calls r)
 have HNS:=Lib.hid (fnumber_calls s)
 unfold talA talC at HT
 unfold wV at HNR HNS
 dsimp only at HT
 generalize toW r=pp at *
 generalize toW s=qq at *
 obtain ⟨p1,p2⟩:=pp
 obtain ⟨q1,q2⟩:=qq
 dsimp only at *
 by_cases h1:way=1
 ·subst h1
  rw [V1]
  clear V1 V2 V3 V4 V5
  generalize gotN (numW r)=g1 at *
  generalize errN (numW r)=g2 at *
  unfold GivesAt
  go_enter Try.func11,Try.ntmps11
  go_wp2_with fail
  refine Calls.mono HT.out ?_
  rintro e w2 ⟨rfl,hq⟩
  replace a0:=cell_kept a0 hq
  have hq2:=Below.alloc (.refl w2.heap.size w2) (Nat.le_refl _) (.cells #[.int .i64 p1,.int .u64 p2,.int .i64 q1,.int .u64 q2,.string lo,.string hi] 55)
  have y0:=cell_kept a0 hq2
  have HBB:=Lib.hid (hb0.trans ((hq.trans (hq2.mono hq.size)).mono hb0.size))
  have c0:=box_cell w2 55 #[.int .i64 p1,.int .u64 p2,.int .i64 q1,.int .u64 q2,.string lo,.string hi] 0 _ rfl
  have c1:=box_cell w2 55 #[.int .i64 p1,.int .u64 p2,.int .i64 q1,.int .u64 q2,.string lo,.string hi] 1 _ rfl
  have c2:=box_cell w2 55 #[.int .i64 p1,.int .u64 p2,.int .i64 q1,.int .u64 q2,.string lo,.string hi] 2 _ rfl
  have c3:=box_cell w2 55 #[.int .i64 p1,.int .u64 p2,.int .i64 q1,.int .u64 q2,.string lo,.string hi] 3 _ rfl
  have c4:=box_cell w2 55 #[.int .i64 p1,.int .u64 p2,.int .i64 q1,.int .u64 q2,.string lo,.string hi] 4 _ rfl
  have c5:=box_cell w2 55 #[.int .i64 p1,.int .u64 p2,.int .i64 q1,.int .u64 q2,.string lo,.string hi] 5 _ rfl
  clear hq hq2 hb0
  go_wp2_with fail
  refine Calls.mono (HNR.out _) ?_
  rintro e w3 ⟨rfl,hq⟩
  have HB3:=Lib.hid (HBB.out.trans (hq.mono HBB.out.size))
  clear hq
  go_wp2
  go_ret2
  exact ⟨rfl,HB3.out⟩
 have d1:(way==1)=false:=by simpa using h1
 by_cases he:lo=⟨#[]⟩
 ·rw [V2 way h1 he]
  subst he
  show GivesAt _ _ _ _ (.tuple #[.string ⟨#[]⟩,.int .i64 0])
  clear V1 V2 V3 V4 V5
  unfold GivesAt
  go_enter Try.func11,Try.ntmps11
  go_wp2_with fail
  refine Calls.mono HT.out ?_
  rintro e w2 ⟨rfl,hq⟩
  replace a0:=cell_kept a0 hq
  have hq2:=Below.alloc (.refl w2.heap.size w2) (Nat.le_refl _) (.cells #[.int .i64 p1,.int .u64 p2,.int .i64 q1,.int .u64 q2,.string ⟨#[]⟩,.string hi] 55)
  have y0:=cell_kept a0 hq2
  have HBB:=Lib.hid (hb0.trans ((hq.trans (hq2.mono hq.size)).mono hb0.size))
  have c0:=box_cell w2 55 #[.int .i64 p1,.int .u64 p2,.int .i64 q1,.int .u64 q2,.string ⟨#[]⟩,.string hi] 0 _ rfl
  have c1:=box_cell w2 55 #[.int .i64 p1,.int .u64 p2,.int .i64 q1,.int .u64 q2,.string ⟨#[]⟩,.string hi] 1 _ rfl
  have c2:=box_cell w2 55 #[.int .i64 p1,.int .u64 p2,.int .i64 q1,.int .u64 q2,.string ⟨#[]⟩,.string hi] 2 _ rfl
  have c3:=box_cell w2 55 #[.int .i64 p1,.int .u64 p2,.int .i64 q1,.int .u64 q2,.string ⟨#[]⟩,.string hi] 3 _ rfl
  have c4:=box_cell w2 55 #[.int .i64 p1,.int .u64 p2,.int .i64 q1,.int .u64 q2,.string ⟨#[]⟩,.string hi] 4 _ rfl
  have c5:=box_cell w2 55 #[.int .i64 p1,.int .u64 p2,.int .i64 q1,.int .u64 q2,.string ⟨#[]⟩,.string hi] 5 _ rfl
  clear hq hq2 hb0
  go_wp2
  go_ret2
  exact ⟨rfl,HBB.out⟩
 have el:=text_some he
 by_cases h3:way=3
 ·subst h3
  rw [V3 he]
  show GivesAt _ _ _ _ (.tuple #[.string lo,.int .i64 0])
  clear V1 V2 V3 V4 V5
  clear he
  unfold GivesAt
  go_enter Try.func11,Try.ntmps11
  go_wp2_with fail
  refine Calls.mono HT.out ?_
  rintro e w2 ⟨rfl,hq⟩
  replace a0:=cell_kept a0 hq
  have hq2:=Below.alloc (.refl w2.heap.size w2) (Nat.le_refl _) (.cells #[.int .i64 p1,.int .u64 p2,.int .i64 q1,.int .u64 q2,.string lo,.string hi] 55)
  have y0:=cell_kept a0 hq2
  have HBB:=Lib.hid (hb0.trans ((hq.trans (hq2.mono hq.size)).mono hb0.size))
  have c0:=box_cell w2 55 #[.int .i64 p1,.int .u64 p2,.int .i64 q1,.int .u64 q2,.string lo,.string hi] 0 _ rfl
  have c1:=box_cell w2 55 #[.int .i64 p1,.int .u64 p2,.int .i64 q1,.int .u64 q2,.string lo,.string hi] 1 _ rfl
  have c2:=box_cell w2 55 #[.int .i64 p1,.int .u64 p2,.int .i64 q1,.int .u64 q2,.string lo,.string hi] 2 _ rfl
  have c3:=box_cell w2 55 #[.int .i64 p1,.int .u64 p2,.int .i64 q1,.int .u64 q2,.string lo,.string hi] 3 _ rfl
  have c4:=box_cell w2 55 #[.int .i64 p1,.int .u64 p2,.int .i64 q1,.int .u64 q2,.string lo,.string hi] 4 _ rfl
  have c5:=box_cell w2 55 #[.int .i64 p1,.int .u64 p2,.int .i64 q1,.int .u64 q2,.string lo,.string hi] 5 _ rfl
  clear hq hq2 hb0
  go_wp2
  go_ret2
  exact ⟨rfl,HBB.out⟩
 have d3:(way==3)=false:=by simpa using h3
 by_cases h4:way=4
 ·subst h4
  rw [V4 he]
  show GivesAt _ _ _ _ (.tuple #[.string hi,.int .i64 0])
  clear V1 V2 V3 V4 V5
  clear he
  unfold GivesAt
  go_enter Try.func11,Try.ntmps11
  go_wp2_with fail
  refine Calls.mono HT.out ?_
  rintro e w2 ⟨rfl,hq⟩
  replace a0:=cell_kept a0 hq
  have hq2:=Below.alloc (.refl w2.heap.size w2) (Nat.le_refl _) (.cells #[.int .i64 p1,.int .u64 p2,.int .i64 q1,.int .u64 q2,.string lo,.string hi] 55)
  have y0:=cell_kept a0 hq2
  have HBB:=Lib.hid (hb0.trans ((hq.trans (hq2.mono hq.size)).mono hb0.size))
  have c0:=box_cell w2 55 #[.int .i64 p1,.int .u64 p2,.int .i64 q1,.int .u64 q2,.string lo,.string hi] 0 _ rfl
  have c1:=box_cell w2 55 #[.int .i64 p1,.int .u64 p2,.int .i64 q1,.int .u64 q2,.string lo,.string hi] 1 _ rfl
  have c2:=box_cell w2 55 #[.int .i64 p1,.int .u64 p2,.int .i64 q1,.int .u64 q2,.string lo,.string hi] 2 _ rfl
  have c3:=box_cell w2 55 #[.int .i64 p1,.int .u64 p2,.int .i64 q1,.int .u64 q2,.string lo,.string hi] 3 _ rfl
  have c4:=box_cell w2 55 #[.int .i64 p1,.int .u64 p2,.int .i64 q1,.int .u64 q2,.string lo,.string hi] 4 _ rfl
  have c5:=box_cell w2 55 #[.int .i64 p1,.int .u64 p2,.int .i64 q1,.int .u64 q2,.string lo,.string hi] 5 _ rfl
  clear hq hq2 hb0
  go_wp2
  go_ret2
  exact ⟨rfl,HBB.out⟩
 have d4:(way==4)=false:=by simpa using h4
 rw [V5 way h1 h3 h4 he]
 clear V1 V2 V3 V4 V5 he h1 h3 h4
 generalize gotN (numW s)=g1 at *
 generalize errN (numW s)=g2 at *
 unfold GivesAt
 go_enter Try.func11,Try.ntmps11
 go_wp2_with fail
 refine Calls.mono HT.out ?_
 rintro e w2 ⟨rfl,hq⟩
 replace a0:=cell_kept a0 hq
 have hq2:=Below.alloc (.refl w2.heap.size w2) (Nat.le_refl _) (.cells #[.int .i64 p1,.int .u64 p2,.int .i64 q1,.int .u64 q2,.string lo,.string hi] 55)
 have y0:=cell_kept a0 hq2
 have HBB:=Lib.hid (hb0.trans ((hq.trans (hq2.mono hq.size)).mono hb0.size))
 have c0:=box_cell w2 55 #[.int .i64 p1,.int .u64 p2,.int .i64 q1,.int .u64 q2,.string lo,.string hi] 0 _ rfl
 have c1:=box_cell w2 55 #[.int .i64 p1,.int .u64 p2,.int .i64 q1,.int .u64 q2,.string lo,.string hi] 1 _ rfl
 have c2:=box_cell w2 55 #[.int .i64 p1,.int .u64 p2,.int .i64 q1,.int .u64 q2,.string lo,.string hi] 2 _ rfl
 have c3:=box_cell w2 55 #[.int .i64 p1,.int .u64 p2,.int .i64 q1,.int .u64 q2,.string lo,.string hi] 3 _ rfl
 have c4:=box_cell w2 55 #[.int .i64 p1,.int .u64 p2,.int .i64 q1,.int .u64 q2,.string lo,.string hi] 4 _ rfl
 have c5:=box_cell w2 55 #[.int .i64 p1,.int .u64 p2,.int .i64 q1,.int .u64 q2,.string lo,.string hi] 5 _ rfl
 clear hq hq2 hb0
 go_wp2_with fail
 refine Calls.mono (HNS.out _) ?_
 rintro e w3 ⟨rfl,hq⟩
 have HB3:=Lib.hid (HBB.out.trans (hq.mono HBB.out.size))
 clear hq
 go_wp2
 go_ret2
 exact ⟨rfl,HB3.out⟩
end Go.Proofs.Ytopeeokjfaampaa
