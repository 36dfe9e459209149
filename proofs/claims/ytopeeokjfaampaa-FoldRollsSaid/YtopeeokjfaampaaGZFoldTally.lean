/- The contract of layer 20's tallyOf: rows taken together by one column. -/
import Derived.Test.YtopeeokjfaampaaGZCalm
import Derived.Test.YtopeeokjfaampaaGWeighFns
import Derived.Test.YtopeeokjfaampaaGZWideSum
import Derived.Test.YtopeeokjfaampaaGZFoldOwnA
import Derived.Test.YtopeeokjfaampaaGZPairAt
namespace Go.Proofs.Ytopeeokjfaampaa
open Go Go.RowKit
def talC (t:Tal):List Value:=[.int .i64 (toW t.rows).1,.int .u64 (toW t.rows).2,.int .i64 (toW t.sum).1,.int .u64 (toW t.sum).2,.string t.lo,.string t.hi]
def talA (t:Tal):Value:=.agg (talC t).toArray
structure TlB (w wr:World) (vs:List Value):Prop where
 res:Own wr w.heap.size 6 (.slice (some ⟨w.heap.size,0,none⟩) 1 1) 1 (#[.int .i64 0,.int .u64 0,.int .i64 0,.int .u64 0,.string ⟨#[]⟩,.string ⟨#[]⟩]).toList
 all:Own wr w.heap.size 6 (.slice (some ⟨w.heap.size+1,0,none⟩) 1 1) 1 vs
 below:Below w.heap.size w wr
structure TlX (w wr:World) (g:Nat) (vs:List Value) (rv:Value) (c:Int):Prop where
 tl:TlB w wr vs
 x:Own wr g 2 (.slice (some ⟨g,0,none⟩) 1 1) 1 [rv,.int .i64 c]
 lt:w.heap.size+1 < g
section
variable {w wr wx:World}{g:Nat}{vs:List Value}{rv:Value}{c:Int}
theorem TlB.kept (h:TlB w wr vs)(hq:Below wr.heap.size wr wx):TlB w wx vs:=⟨h.res.later hq,h.all.later hq,h.below.trans (hq.mono h.below.size)⟩
theorem TlX.kept (h:TlX w wr g vs rv c)(hq:Below wr.heap.size wr wx):TlX w wx g vs rv c:=⟨h.tl.kept hq,h.x.later hq,h.lt⟩
theorem tl_grown (w:World)(b j:Nat)(u:Value):w.grownBy (w.setCell ⟨b,j,none⟩ u) (some b):=setCells_grown b [u] j w
theorem TlB.put (h:TlB w wr vs)(j:Nat)(hj:j < 6)(u:Value):TlB w (wr.setCell ⟨w.heap.size+1,j,none⟩ u) (vs.set j u):=by
 refine ⟨h.res.other (tl_grown wr _ j u) (fun k hk e=>?_),?_,h.below.setCell (p:=⟨w.heap.size+1,j,none⟩) (show w.heap.size≤w.heap.size+1 by omega) u⟩
 ·simp only [Value.ownBlock,Option.some.injEq] at hk e
  omega
 ·have:=Own.stored h.all j (by omega) u
  rwa [Nat.zero_add] at this
theorem TlX.put (h:TlX w wr g vs rv c)(j:Nat)(hj:j < 6)(u:Value):TlX w (wr.setCell ⟨w.heap.size+1,j,none⟩ u) g (vs.set j u) rv c:=by
 refine ⟨h.tl.put j hj u,h.x.other (tl_grown wr _ j u) (fun k hk e=>?_),h.lt⟩
 simp only [Value.ownBlock,Option.some.injEq] at hk e
 have:=h.lt
 omega
theorem TlB.cells {a b c' d e f:Value}(h:TlB w wr [a,b,c',d,e,f]):wr.cell? ⟨w.heap.size+1,0,none⟩=some a∧wr.cell? ⟨w.heap.size+1,1,none⟩=some b∧wr.cell? ⟨w.heap.size+1,2,none⟩=some c'∧wr.cell? ⟨w.heap.size+1,3,none⟩=some d∧wr.cell? ⟨w.heap.size+1,4,none⟩=some e∧wr.cell? ⟨w.heap.size+1,5,none⟩=some f ∧
  wr.frozen? ⟨w.heap.size+1,0,none⟩=false∧wr.frozen? ⟨w.heap.size+1,1,none⟩=false∧wr.frozen? ⟨w.heap.size+1,2,none⟩=false∧wr.frozen? ⟨w.heap.size+1,3,none⟩=false∧wr.frozen? ⟨w.heap.size+1,4,none⟩=false∧wr.frozen? ⟨w.heap.size+1,5,none⟩=false:=by
 obtain ⟨_,_,_,h4,h5⟩:=h.all.parts
 have fz (j:Nat) (hj:j < 6):=(h5 j (by omega)).2
 have k (j:Nat) (u:Value) (hu:[a,b,c',d,e,f][j]? = some u):=h4 j u hu
 simp only [Nat.zero_add] at fz k
 exact ⟨k 0 _ rfl,k 1 _ rfl,k 2 _ rfl,k 3 _ rfl,k 4 _ rfl,k 5 _ rfl,fz 0 (by decide),fz 1 (by decide),fz 2 (by decide),fz 3 (by decide),fz 4 (by decide),fz 5 (by decide)⟩
theorem TlX.cells {a b c' d e f:Value}(h:TlX w wr g [a,b,c',d,e,f] rv c):wr.cell? ⟨w.heap.size+1,0,none⟩=some a∧wr.cell? ⟨w.heap.size+1,1,none⟩=some b∧wr.cell? ⟨w.heap.size+1,2,none⟩=some c'∧wr.cell? ⟨w.heap.size+1,3,none⟩=some d∧wr.cell? ⟨w.heap.size+1,4,none⟩=some e∧wr.cell? ⟨w.heap.size+1,5,none⟩=some f ∧
  wr.frozen? ⟨w.heap.size+1,0,none⟩=false∧wr.frozen? ⟨w.heap.size+1,1,none⟩=false∧wr.frozen? ⟨w.heap.size+1,2,none⟩=false∧wr.frozen? ⟨w.heap.size+1,3,none⟩=false∧wr.frozen? ⟨w.heap.size+1,4,none⟩=false∧wr.frozen? ⟨w.heap.size+1,5,none⟩=false:=h.tl.cells
theorem TlX.row (h:TlX w wr g vs rv c):wr.cell? ⟨g,0,none⟩=some rv∧wr.cell? ⟨g,1,none⟩=some (.int .i64 c):=by
 obtain ⟨_,_,_,h4,_⟩:=h.x.parts
 have k (j:Nat) (u:Value) (hu:[rv,Value.int .i64 c][j]? = some u):=h4 j u hu
 simp only [Nat.zero_add] at k
 exact ⟨k 0 _ rfl,k 1 _ rfl⟩
theorem TlB.free (h:TlB w wr vs):(wr.cell? ⟨w.heap.size,0,none⟩=some (.int .i64 0)∧wr.cell? ⟨w.heap.size,1,none⟩=some (.int .u64 0)∧wr.cell? ⟨w.heap.size,2,none⟩=some (.int .i64 0)∧wr.cell? ⟨w.heap.size,3,none⟩=some (.int .u64 0)∧wr.cell? ⟨w.heap.size,4,none⟩=some (.string ⟨#[]⟩)∧wr.cell? ⟨w.heap.size,5,none⟩=some (.string ⟨#[]⟩)) ∧
  wr.frozen? ⟨w.heap.size,0,none⟩=false∧wr.frozen? ⟨w.heap.size,1,none⟩=false∧wr.frozen? ⟨w.heap.size,2,none⟩=false∧wr.frozen? ⟨w.heap.size,3,none⟩=false∧wr.frozen? ⟨w.heap.size,4,none⟩=false∧wr.frozen? ⟨w.heap.size,5,none⟩=false:=by
 obtain ⟨_,_,_,h4,h5⟩:=h.res.parts
 have f (j:Nat) (hj:j < 6):=(h5 j (by omega)).2
 have k (j:Nat) (u:Value) (hu:(#[.int .i64 0,.int .u64 0,.int .i64 0,.int .u64 0,.string ⟨#[]⟩,.string ⟨#[]⟩]).toList[j]? = some u):=h4 j u hu
 simp only [Nat.zero_add] at f k
 exact ⟨⟨k 0 _ rfl,k 1 _ rfl,k 2 _ rfl,k 3 _ rfl,k 4 _ rfl,k 5 _ rfl⟩,f 0 (by decide),f 1 (by decide),f 2 (by decide),f 3 (by decide),f 4 (by decide),f 5 (by decide)⟩
end
theorem tl_start (w:World):TlB w ((w.alloc (.cells #[.int .i64 0,.int .u64 0,.int .i64 0,.int .u64 0,.string ⟨#[]⟩,.string ⟨#[]⟩] 55)).alloc (.cells #[.int .i64 0,.int .u64 0,.int .i64 0,.int .u64 0,.string ⟨#[]⟩,.string ⟨#[]⟩] 55)) (talC tal0):=by
 have h1:=Own.lit (B:=w.heap.size) (size:=6) w #[.int .i64 0,.int .u64 0,.int .i64 0,.int .u64 0,.string ⟨#[]⟩,.string ⟨#[]⟩] 55 1 (Nat.le_refl _) (by unfold maxLen;omega) rfl
 have h2:=Own.lit (B:=w.heap.size) (size:=6) (w.alloc (.cells #[.int .i64 0,.int .u64 0,.int .i64 0,.int .u64 0,.string ⟨#[]⟩,.string ⟨#[]⟩] 55)) #[.int .i64 0,.int .u64 0,.int .i64 0,.int .u64 0,.string ⟨#[]⟩,.string ⟨#[]⟩] 55 1 (by simp) (by unfold maxLen;omega) rfl
 rw [show (w.alloc (.cells #[.int .i64 0,.int .u64 0,.int .i64 0,.int .u64 0,.string ⟨#[]⟩,.string ⟨#[]⟩] 55)).heap.size=w.heap.size+1 by simp] at h2
 exact ⟨h1.alloc _,h2,((Below.refl w.heap.size w).alloc (Nat.le_refl _) _).alloc (by simp) _⟩
theorem TlB.lay {w wr:World}{vs:List Value}(h:TlB w wr vs)(TT:TypeId)(rv:Value)(c:Int):TlX w (wr.alloc (.cells #[rv,.int .i64 c] TT)) wr.heap.size vs rv c :=
 ⟨h.kept (Below.alloc (.refl _ _) (Nat.le_refl _) _),Own.lit (size:=2) wr #[rv,.int .i64 c] TT 1 (Nat.le_refl _) (by unfold maxLen;omega) rfl,by have:=h.all.parts;omega⟩
theorem sum_toW (a b:Int):sumD (toW a) (toW b)=toW (a+b):=by
 unfold sumD
 obtain ⟨k,hk⟩:=val_toW a
 obtain ⟨j,hj⟩:=val_toW b
 rw [hk,hj]
 refine toW_same (k+j) ?_
 rw [Int.add_mul];omega
theorem fnum_calls (s:ByteArray):Gives Try.prog 29 #[.string s] (.tuple #[.int .i64 (numC s),.bool (isInt s)]):=by
 unfold numC
 cases h:isInt s with
 | true=>exact num_yes s h
 | false=>exact num_no s h
theorem byteI_in (s:ByteArray)(i:Nat):0≤byteI s i∧byteI s i < 256:=byte_range _
theorem num_in64 (s:ByteArray) : -9223372036854775808≤numOf s∧numOf s≤9223372036854775807:=by
 have h1:=byteI_in s 1;have h2:=byteI_in s 2;have h3:=byteI_in s 3;have h4:=byteI_in s 4
 have h5:=byteI_in s 5;have h6:=byteI_in s 6;have h7:=byteI_in s 7;have h8:=byteI_in s 8
 unfold numOf offs
 omega
theorem numC_e:numC eB=0:=by decide +kernel
theorem numC_range (s:ByteArray) : -9223372036854775808≤numC s∧numC s≤9223372036854775807:=by
 unfold numC
 split
 ·exact num_in64 s
 ·omega
theorem cellD_in {row:List ByteArray}{j:Nat}(h:j < row.length):cellD row (j:Int)=row[j]:=by
 unfold cellD
 rw [if_pos (by omega),Int.toNat_natCast,List.getD_eq_getElem?_getD,List.getElem?_eq_getElem h];rfl
theorem cellD_out {row:List ByteArray}{c:Int}(h:hasB row c=false):cellD row c=eB:=by
 unfold hasB at h
 rw [Bool.and_eq_false_iff,decide_eq_false_iff_not,decide_eq_false_iff_not] at h
 unfold cellD
 split
 ·rw [List.getD_eq_getElem?_getD,List.getElem?_eq_none (by omega)];rfl
 ·rfl
theorem minT_cases (lo:ByteArray){d:ByteArray}(h:d≠⟨#[]⟩):(lo=⟨#[]⟩∧minT lo d=d)∨(lo≠⟨#[]⟩∧Op.bytesLess d.toList lo.toList=true∧minT lo d=d)∨(lo≠⟨#[]⟩∧Op.bytesLess d.toList lo.toList=false∧minT lo d=lo):=by
 unfold minT
 by_cases e:lo=⟨#[]⟩
 ·exact .inl ⟨e,if_pos e⟩
 ·rw [if_neg (show ¬lo=eB from e),if_neg (show ¬d=eB from h)]
  cases k:ltB d lo with
  | true=>exact .inr (.inl ⟨e,k,rfl⟩)
  | false=>exact .inr (.inr ⟨e,k,rfl⟩)
theorem maxT_cases (hi d:ByteArray):(Op.bytesLess d.toList hi.toList=false∧(d.toList==hi.toList)=false∧maxT hi d=d)∨(Op.bytesLess d.toList hi.toList=true∧True∧maxT hi d=hi)∨(Op.bytesLess d.toList hi.toList=false∧(d.toList==hi.toList)=true∧maxT hi d=hi):=by
 unfold maxT
 rcases lt_three hi d with h|h|h
 ·subst h
  exact .inr (.inr ⟨bl_irrefl _,by simp,by rw [ltB_irrefl];rfl⟩)
 ·refine .inl ⟨ltB_asym h,?_,if_pos h⟩
  rcases str_ne_cases d hi with ⟨he,_⟩ | ⟨_,h3,_⟩
  ·exact absurd he (ltB_ne h).symm
  ·exact h3
 ·exact .inr (.inl ⟨h,trivial,by rw [ltB_asym h];rfl⟩)
set_option maxHeartbeats 4000000 in
set_option maxRecDepth 100000 in
theorem ftally_calls {w:World}{v:Value}{l:List Tm}(col:Int)(h:TimesIn w v l)(hN:∀ x∈l,-9223372036854775808≤x.2∧x.2≤9223372036854775807):GivesAt Try.prog 18 #[v,.int .i64 col] w (talA (talL col l)):=by
 obtain ⟨tv,A,cap,rfl,_,hat⟩:=times_at h
 have HAT:=Lib.hid hat
 have HNN:=Lib.hid hN
 have HLEN:=Lib.hid h.len
 have HST:=Lib.hid (tl_start w)
 clear h hat hN
 unfold GivesAt
 go_enter Try.func18,Try.ntmps18
 go_wp2
 generalize World.alloc (World.alloc w _) _=w1 at *
 go_loopw [13] (fun i wr=>∃ k:Nat,k≤l.length∧i=.int .i64 k∧Hid (TlB w wr (talC (talL col (l.take k))))) (fun i _=>l.length-(intOf i).toNat)
 case atStart=>exact ⟨0,Nat.zero_le _,rfl,HST⟩
 case round =>
  obtain ⟨k,hk,rfl,HG⟩:=hrel
  by_cases hlt:k < l.length
  ·have hbw:=HG.out.below
   obtain ⟨b,off,rfl,hbl,hc⟩:=HAT.out k hlt
   obtain ⟨rv,hs,_,c1,c2⟩:=hc k hlt
   have z1:=(hbw.cell (p:=⟨b,off+k*2,none⟩) hbl).trans c1
   have z2:=(hbw.cell (p:=⟨b,off+k*2+1,none⟩) hbl).trans c2
   have HT0:=Lib.hid (talL_take col l k hlt)
   have HNK:=Lib.hid (HNN.out l[k] (List.getElem_mem hlt))
   have hml:=HLEN.out
   unfold maxLen at hml
   have i1:(k:Int) < (l.length:Int):=by omega
   have HLK:Hid (k < l.length):=hlt
   obtain ⟨Ar,pr,rfl⟩:∃ Ar pr,rv=.slice Ar l[k].1.length pr:=by obtain ⟨Ar,pr,e,_⟩:=one_at hs;exact ⟨Ar,pr,e⟩
   have HS:=Lib.hid hs
   clear hc c1 c2 hs hbw
   generalize l[k]=x at *
   obtain ⟨row,c⟩:=x
   generalize talL col (l.take k)=t at *
   obtain ⟨r0,s0,lo,hi⟩:=t
   have HT:Hid (∀ y,cellD row col=y→talL col (l.take (k+1))=⟨r0+c,s0+numC y*c,minT lo y,maxT hi y⟩):=fun y e=>by rw [HT0.out,←e];rfl
   have HOF:=Lib.hid (wide_of_calls c HNK.out.1 HNK.out.2)
   have HSUM:=Lib.hid (wide_sum_calls (toW_in r0) (toW_in c))
   rw [sum_toW] at HSUM
   have HG2:=Lib.hid (HG.out.lay 27 (.slice Ar row.length pr) c)
   have HPE:Hid (wV (ofD c)=wV (toW c)):=Lib.hid rfl
   rw [HPE.out] at HOF
   clear HPE HT0 HG
   unfold wV at HOF HSUM
   unfold talC at HG2
   dsimp only at HG2 HNK
   have HR4:Hid (∀ y q,cellD row col=y→toW (s0+numC y*c)=q→talC (talL col (l.take (k+1)))=[.int .i64 (toW (r0+c)).1,.int .u64 (toW (r0+c)).2,.int .i64 q.1,.int .u64 q.2,.string (minT lo y),.string (maxT hi y)]):=fun y q e hq=>by rw [HT.out y e,←hq];rfl
   clear HT
   generalize toW (r0+c)=pp at *
   generalize toW r0=rr at *
   generalize toW c=cc at *
   obtain ⟨p1,p2⟩:=pp
   obtain ⟨r1,r2⟩:=rr
   obtain ⟨o1,o2⟩:=cc
   obtain ⟨ss,hss⟩:∃ ss,toW s0=ss:=⟨_,rfl⟩
   rw [hss] at HG2
   have HSS:=Lib.hid hss
   clear hss
   obtain ⟨s1,s2⟩:=ss
   dsimp only at *
   go_wp2_with fail
   generalize World.alloc wr _=w2 at *
   refine wp_region_calm (offC w2) (fun k=>k==7) (fun _=>false) anyE true (by kernel_rfl) (by kernel_rfl) (by kernel_rfl) (by kernel_rfl) (by intro m hm;revert hm;simp;try omega) (offC_stable _) (offC_start _) ?_
   refine calm_fixA rfl rfl ?_
   apply Exists.intro
   refine ⟨fun a wz hc hk hf K hK=>?_,?_⟩
   ·have h5:=hk 5 (by kernel_rfl)
    clear hk hf hc
    go_simp
    exact hK _ _ (Below.refl _ _) rfl
   refine calm_fixA rfl rfl ?_
   apply Exists.intro
   refine ⟨fun a wz hc hk hf K hK=>?_,?_⟩
   ·have hb:Below w2.heap.size w2 wz:=hc rfl
    have h17:=held_isV hf 0 rfl (by kernel_rfl)
    clear hk hf hc
    obtain ⟨c0,c1,c2,c3,c4,c5,f0,f1,f2,f3,f4,f5⟩:=(HG2.out.kept hb).cells
    obtain ⟨x0,x1⟩:=(HG2.out.kept hb).row
    go_simp
    exact hK _ _ (Below.refl _ _) rfl
   refine calm_fixA rfl rfl ?_
   apply Exists.intro
   refine ⟨fun a wz hc hk hf K hK=>?_,?_⟩
   ·have h7:=hk 7 (by kernel_rfl)
    clear hk hf hc
    go_simp
    exact hK _ _ (Below.refl _ _) rfl
   refine calm_fixA rfl rfl ?_
   apply Exists.intro
   refine ⟨fun a wz hc hk hf K hK=>?_,?_⟩
   ·have hb:Below w2.heap.size w2 wz:=hc rfl
    have h19:=held_isV hf 0 rfl (by kernel_rfl)
    clear hk hf hc
    obtain ⟨c0,c1,c2,c3,c4,c5,f0,f1,f2,f3,f4,f5⟩:=(HG2.out.kept hb).cells
    obtain ⟨x0,x1⟩:=(HG2.out.kept hb).row
    go_simp
    exact hK _ _ (Below.refl _ _) rfl
   refine calm_fixA rfl rfl ?_
   apply Exists.intro
   refine ⟨fun a wz hc hk hf K hK=>?_,?_⟩
   ·have hb:Below w2.heap.size w2 wz:=hc rfl
    have h20:=held_isV hf 0 rfl (by kernel_rfl)
    clear hk hf hc
    go_simp
    refine Calls.mono (HOF.out wz) ?_
    rintro e w1 ⟨rfl,hq⟩
    exact hK _ _ hq rfl
   refine calm_fixA rfl rfl ?_
   apply Exists.intro
   refine ⟨fun a wz hc hk hf K hK=>?_,?_⟩
   ·have hb:Below w2.heap.size w2 wz:=hc rfl
    have h18:=held_isV hf 3 rfl (by kernel_rfl)
    have h21:=held_isV hf 0 rfl (by kernel_rfl)
    clear hk hf hc
    go_simp
    refine Calls.mono (HSUM.out wz) ?_
    rintro e w1 ⟨rfl,hq⟩
    exact hK _ _ hq rfl
   refine calm_fixA rfl rfl ?_
   apply Exists.intro
   refine ⟨fun a wz hc hk hf K hK=>?_,?_⟩
   ·have h5:=hk 5 (by kernel_rfl)
    clear hk hf hc
    go_simp
    exact hK _ _ (Below.refl _ _) rfl
   refine calm_storeA (fun w0=>TlX w w0 wr.heap.size [.int .i64 p1,.int .u64 p2,.int .i64 s1,.int .u64 s2,.string lo,.string hi] (.slice Ar row.length pr) c) rfl (fun m h=>by simpa using h) (fun a wz hb hk hf K hK=>?_) ?_
   ·have h23:=held_isV hf 0 rfl (by kernel_rfl)
    have h22:=held_isV hf 1 rfl (by kernel_rfl)
    clear hk hf
    have hP:=((HG2.out.kept hb).put 0 (by decide) (.int .i64 p1)).put 1 (by decide) (.int .u64 p2)
    obtain ⟨c0,c1,c2,c3,c4,c5,f0,f1,f2,f3,f4,f5⟩:=(HG2.out.kept hb).cells
    simp only [List.set_cons_zero,List.set_cons_succ] at hP
    have HP:=Lib.hid hP
    clear hP
    go_simp
    exact hK undef _ HP.out
   refine calm_nil ?_
   refine ⟨keeps_one (m:=7) (fun k h=>by simpa using h) ⟨.inr (loose_isV _),.inr (loose_isV _),.inr (loose_isV _),.inr (loose_isV _),.inr (loose_isV _),.inr (loose_isV _),.inr (loose_isV _),.inl rfl,trivial⟩,?_⟩
   intro w4 hc
   simp only [lexL,calmEnd]
   rintro _ rfl _ rfl _ rfl _ rfl _ rfl _ rfl _ rfl _ hst7
   obtain ⟨wx,hx,hq⟩:=hst7 rfl
   have HG4:=Lib.hid (hx.kept hq)
   clear hst7 hx hq hc
   simp only [Act.put,List.setIfInBounds_toArray,List.set_cons_zero,List.set_cons_succ]
   clear HG2 HSUM HOF z1 z2
   obtain ⟨c0,c1,c2,c3,c4,c5,f0,f1,f2,f3,f4,f5⟩:=HG4.out.cells
   obtain ⟨x0,x1⟩:=HG4.out.row
   have HC:=Lib.hid (fhas_calls Ar row.length pr col w4)
   have HE:Hid ((decide (0≤col)&&decide (col < (row.length:Int)))=hasB row col):=Lib.hid rfl
   rw [HE.out] at HC
   clear HE
   obtain ⟨y,hy⟩:∃ y,hasB row col=y:=⟨_,rfl⟩
   rw [hy] at HC
   have HSKIP:Hid (cellD row col=eB→Hid (TlB w w4 (talC (talL col (l.take (k+1)))))):=fun e=>by
    refine Lib.hid ?_
    rw [HR4.out eB (s1,s2) e (by rw [numC_e,Int.zero_mul,Int.add_zero];exact HSS.out),minT_e2,maxT_e2]
    exact HG4.out.tl
   cases y with
   | false =>
    have HGN:=HSKIP.out (cellD_out hy)
    clear HSKIP HR4 HSS hy
    go_wp2_with (go_at_call 28;refine HC.out.step ?_)
    go_roundw
    case rel=>exact ⟨k+1,HLK.out,by go_num,HGN⟩
    case measure=>have:=HLK.out;simp [intOf];omega
   | true =>
    obtain ⟨j,rfl,hjr⟩:∃ j:Nat,col=j∧j < row.length:=by
     unfold hasB at hy
     rw [Bool.and_eq_true,decide_eq_true_eq,decide_eq_true_eq] at hy
     exact ⟨col.toNat,by omega,by omega⟩
    obtain ⟨A7,p7,e7,hat7⟩:=one_at HS.out
    simp only [Value.slice.injEq,true_and] at e7
    obtain ⟨rfl,rfl⟩:=e7
    obtain ⟨b7,off7,rfl,hbl7,hc7⟩:=hat7 j hjr
    have y0:=(HG4.out.tl.below.cell (p:=⟨b7,off7+j,none⟩) hbl7).trans (hc7 j hjr)
    have HCE:=Lib.hid (cellD_in hjr)
    have i2:(j:Int) < (row.length:Int):=by omega
    have i0:(0:Int)≤(j:Int):=by omega
    clear hy hc7 hat7
    generalize row[j]=d at *
    by_cases he:d=⟨#[]⟩
    ·have HGN:=HSKIP.out (HCE.out.trans he)
     subst he
     clear HSKIP HR4 HSS HCE
     go_wp2_with (go_at_call 28;refine HC.out.step ?_)
     go_roundw
     case rel=>exact ⟨k+1,HLK.out,by go_num,HGN⟩
     case measure=>have:=HLK.out;simp [intOf];omega
    ·have e0:=text_some he
     have HDE:=Lib.hid he
     have HRN:=Lib.hid (HR4.out d (toW (s0+numC d*c)) HCE.out rfl)
     have HNR:=Lib.hid (numC_range d)
     have HPR:=Lib.hid (wide_product_calls HNR.out.1 HNR.out.2 HNK.out.1 HNK.out.2)
     have HSUM2:=Lib.hid (wide_sum_calls (toW_in s0) (toW_in (numC d*c)))
     rw [sum_toW,HSS.out] at HSUM2
     have HPE:Hid (wV (prodD (numC d) c)=wV (toW (numC d*c))):=Lib.hid rfl
     rw [HPE.out] at HPR
     have HNUM:=Lib.hid (fnum_calls d w4)
     clear HPE HSKIP HR4 HSS HCE he
     unfold wV at HPR HSUM2
     generalize toW (s0+numC d*c)=qq at *
     generalize toW (numC d*c)=dd at *
     generalize numC d=nd at *
     generalize isInt d=bd at *
     obtain ⟨q1,q2⟩:=qq
     obtain ⟨d1,d2⟩:=dd
     dsimp only at *
     go_wp2_with (first|(go_at_call 28;refine HC.out.step ?_)|fail)
     refine Calls.mono HNUM.out ?_
     rintro e w5 ⟨rfl,hq⟩
     have HG5:=Lib.hid (HG4.out.kept hq)
     clear hq HNUM HC HG4 c0 c1 c2 c3 c4 c5 f0 f1 f2 f3 f4 f5 x0 x1 y0
     go_wp2_with fail
     refine wp_region_calm (offC w5) (fun k=>k==8) (fun _=>false) anyE true (by kernel_rfl) (by kernel_rfl) (by kernel_rfl) (by kernel_rfl) (by intro m hm;revert hm;simp;try omega) (offC_stable _) (offC_start _) ?_
     refine calm_fixA rfl rfl ?_
     apply Exists.intro
     refine ⟨fun a wz hc hk hf K hK=>?_,?_⟩
     ·have h5:=hk 5 (by kernel_rfl)
      clear hk hf hc
      go_simp
      exact hK _ _ (Below.refl _ _) rfl
     refine calm_fixA rfl rfl ?_
     apply Exists.intro
     refine ⟨fun a wz hc hk hf K hK=>?_,?_⟩
     ·have hb:Below w5.heap.size w5 wz:=hc rfl
      have h47:=held_isV hf 0 rfl (by kernel_rfl)
      clear hk hf hc
      obtain ⟨c0,c1,c2,c3,c4,c5,f0,f1,f2,f3,f4,f5⟩:=(HG5.out.kept hb).cells
      obtain ⟨x0,x1⟩:=(HG5.out.kept hb).row
      go_simp
      exact hK _ _ (Below.refl _ _) rfl
     refine calm_fixA rfl rfl ?_
     apply Exists.intro
     refine ⟨fun a wz hc hk hf K hK=>?_,?_⟩
     ·have h9:=hk 9 (by kernel_rfl)
      clear hk hf hc
      go_simp
      exact hK _ _ (Below.refl _ _) rfl
     refine calm_fixA rfl rfl ?_
     apply Exists.intro
     refine ⟨fun a wz hc hk hf K hK=>?_,?_⟩
     ·have h7:=hk 7 (by kernel_rfl)
      clear hk hf hc
      go_simp
      exact hK _ _ (Below.refl _ _) rfl
     refine calm_fixA rfl rfl ?_
     apply Exists.intro
     refine ⟨fun a wz hc hk hf K hK=>?_,?_⟩
     ·have hb:Below w5.heap.size w5 wz:=hc rfl
      have h50:=held_isV hf 0 rfl (by kernel_rfl)
      clear hk hf hc
      obtain ⟨c0,c1,c2,c3,c4,c5,f0,f1,f2,f3,f4,f5⟩:=(HG5.out.kept hb).cells
      obtain ⟨x0,x1⟩:=(HG5.out.kept hb).row
      go_simp
      exact hK _ _ (Below.refl _ _) rfl
     refine calm_fixA rfl rfl ?_
     apply Exists.intro
     refine ⟨fun a wz hc hk hf K hK=>?_,?_⟩
     ·have hb:Below w5.heap.size w5 wz:=hc rfl
      have h49:=held_isV hf 2 rfl (by kernel_rfl)
      have h51:=held_isV hf 0 rfl (by kernel_rfl)
      clear hk hf hc
      go_simp
      refine Calls.mono (HPR.out wz) ?_
      rintro e w1 ⟨rfl,hq⟩
      exact hK _ _ hq rfl
     refine calm_fixA rfl rfl ?_
     apply Exists.intro
     refine ⟨fun a wz hc hk hf K hK=>?_,?_⟩
     ·have hb:Below w5.heap.size w5 wz:=hc rfl
      have h48:=held_isV hf 4 rfl (by kernel_rfl)
      have h52:=held_isV hf 0 rfl (by kernel_rfl)
      clear hk hf hc
      go_simp
      refine Calls.mono (HSUM2.out wz) ?_
      rintro e w1 ⟨rfl,hq⟩
      exact hK _ _ hq rfl
     refine calm_fixA rfl rfl ?_
     apply Exists.intro
     refine ⟨fun a wz hc hk hf K hK=>?_,?_⟩
     ·have h5:=hk 5 (by kernel_rfl)
      clear hk hf hc
      go_simp
      exact hK _ _ (Below.refl _ _) rfl
     refine calm_storeA (fun w0=>TlX w w0 wr.heap.size [.int .i64 p1,.int .u64 p2,.int .i64 q1,.int .u64 q2,.string lo,.string hi] (.slice (some ⟨b7,off7,none⟩) row.length pr) c) rfl (fun m h=>by simpa using h) (fun a wz hb hk hf K hK=>?_) ?_
     ·have h54:=held_isV hf 0 rfl (by kernel_rfl)
      have h53:=held_isV hf 1 rfl (by kernel_rfl)
      clear hk hf
      have hP:=((HG5.out.kept hb).put 2 (by decide) (.int .i64 q1)).put 3 (by decide) (.int .u64 q2)
      obtain ⟨c0,c1,c2,c3,c4,c5,f0,f1,f2,f3,f4,f5⟩:=(HG5.out.kept hb).cells
      simp only [List.set_cons_zero,List.set_cons_succ] at hP
      have HP:=Lib.hid hP
      clear hP
      go_simp
      exact hK undef _ HP.out
     refine calm_nil ?_
     refine ⟨keeps_one (m:=8) (fun k h=>by simpa using h) ⟨.inr (loose_isV _),.inr (loose_isV _),.inr (loose_isV _),.inr (loose_isV _),.inr (loose_isV _),.inr (loose_isV _),.inr (loose_isV _),.inr (loose_isV _),.inl rfl,trivial⟩,?_⟩
     intro w6 hc
     simp only [lexL,calmEnd]
     rintro _ rfl _ rfl _ rfl _ rfl _ rfl _ rfl _ rfl _ rfl _ hst8
     obtain ⟨wx,hx,hq⟩:=hst8 rfl
     have HG6:=Lib.hid (hx.kept hq)
     clear hst8 hx hq hc
     simp only [Act.put,List.setIfInBounds_toArray,List.set_cons_zero,List.set_cons_succ]
     clear HG5 HSUM2 HPR
     obtain ⟨c0,c1,c2,c3,c4,c5,f0,f1,f2,f3,f4,f5⟩:=HG6.out.cells
     have HD1:=Lib.hid (minT_cases lo HDE.out)
     have HD2:=Lib.hid (maxT_cases hi d)
     have HP4:=Lib.hid ((HG6.out.put 4 (by decide) (.string d)))
     have HP5:=Lib.hid ((HG6.out.put 5 (by decide) (.string d)))
     have HP45:=Lib.hid ((HP4.out.put 5 (by decide) (.string d)))
     have hs4:=HP4.out
     have hs5:=HP5.out
     have hs45:=HP45.out
     simp only [List.set_cons_zero,List.set_cons_succ] at hs4 hs5 hs45
     replace HP4:=Lib.hid hs4
     replace HP5:=Lib.hid hs5
     replace HP45:=Lib.hid hs45
     clear hs4 hs5 hs45
     obtain ⟨a0,a1,a2,a3,a4,a5,g0,g1,g2,g3,g4,g5⟩:=HP4.out.cells
     clear HDE
     rcases HD1.out with ⟨el,em⟩ | ⟨el,hl,em⟩ | ⟨el,hl,em⟩ <;> rcases HD2.out with ⟨hn,hm,en⟩ | ⟨hn,hm,en⟩ | ⟨hn,hm,en⟩ <;> clear HD1 HD2
     ·rw [em] at HRN
      subst el
      rw [en] at HRN
      have HGN0:=HP45.out.tl
      rw [←HRN.out] at HGN0
      have HGN:=Lib.hid HGN0
      clear HGN0
      clear HRN HP4 HP5 HP45 HG6
      go_wp2
      go_roundw
      case rel=>exact ⟨k+1,HLK.out,by go_num,HGN⟩
      case measure=>have:=HLK.out;simp [intOf];omega
     ·rw [em] at HRN
      subst el
      rw [en] at HRN
      have HGN0:=HP4.out.tl
      rw [←HRN.out] at HGN0
      have HGN:=Lib.hid HGN0
      clear HGN0
      clear HRN HP4 HP5 HP45 HG6
      go_wp2
      go_roundw
      case rel=>exact ⟨k+1,HLK.out,by go_num,HGN⟩
      case measure=>have:=HLK.out;simp [intOf];omega
     ·rw [em] at HRN
      subst el
      rw [en] at HRN
      have HGN0:=HP4.out.tl
      rw [←HRN.out] at HGN0
      have HGN:=Lib.hid HGN0
      clear HGN0
      clear HRN HP4 HP5 HP45 HG6
      go_wp2
      go_roundw
      case rel=>exact ⟨k+1,HLK.out,by go_num,HGN⟩
      case measure=>have:=HLK.out;simp [intOf];omega
     ·rw [em] at HRN
      have el2:=text_some el
      clear el
      rw [en] at HRN
      have HGN0:=HP45.out.tl
      rw [←HRN.out] at HGN0
      have HGN:=Lib.hid HGN0
      clear HGN0
      clear HRN HP4 HP5 HP45 HG6
      go_wp2
      go_roundw
      case rel=>exact ⟨k+1,HLK.out,by go_num,HGN⟩
      case measure=>have:=HLK.out;simp [intOf];omega
     ·rw [em] at HRN
      have el2:=text_some el
      clear el
      rw [en] at HRN
      have HGN0:=HP4.out.tl
      rw [←HRN.out] at HGN0
      have HGN:=Lib.hid HGN0
      clear HGN0
      clear HRN HP4 HP5 HP45 HG6
      go_wp2
      go_roundw
      case rel=>exact ⟨k+1,HLK.out,by go_num,HGN⟩
      case measure=>have:=HLK.out;simp [intOf];omega
     ·rw [em] at HRN
      have el2:=text_some el
      clear el
      rw [en] at HRN
      have HGN0:=HP4.out.tl
      rw [←HRN.out] at HGN0
      have HGN:=Lib.hid HGN0
      clear HGN0
      clear HRN HP4 HP5 HP45 HG6
      go_wp2
      go_roundw
      case rel=>exact ⟨k+1,HLK.out,by go_num,HGN⟩
      case measure=>have:=HLK.out;simp [intOf];omega
     ·rw [em] at HRN
      have el2:=text_some el
      clear el
      rw [en] at HRN
      have HGN0:=HP5.out.tl
      rw [←HRN.out] at HGN0
      have HGN:=Lib.hid HGN0
      clear HGN0
      clear HRN HP4 HP5 HP45 HG6 a0 a1 a2 a3 a4 a5 g0 g1 g2 g3 g4 g5
      go_wp2
      go_roundw
      case rel=>exact ⟨k+1,HLK.out,by go_num,HGN⟩
      case measure=>have:=HLK.out;simp [intOf];omega
     ·rw [em] at HRN
      have el2:=text_some el
      clear el
      rw [en] at HRN
      have HGN0:=HG6.out.tl
      rw [←HRN.out] at HGN0
      have HGN:=Lib.hid HGN0
      clear HGN0
      clear HRN HP4 HP5 HP45 HG6 a0 a1 a2 a3 a4 a5 g0 g1 g2 g3 g4 g5
      go_wp2
      go_roundw
      case rel=>exact ⟨k+1,HLK.out,by go_num,HGN⟩
      case measure=>have:=HLK.out;simp [intOf];omega
     ·rw [em] at HRN
      have el2:=text_some el
      clear el
      rw [en] at HRN
      have HGN0:=HG6.out.tl
      rw [←HRN.out] at HGN0
      have HGN:=Lib.hid HGN0
      clear HGN0
      clear HRN HP4 HP5 HP45 HG6 a0 a1 a2 a3 a4 a5 g0 g1 g2 g3 g4 g5
      go_wp2
      go_roundw
      case rel=>exact ⟨k+1,HLK.out,by go_num,HGN⟩
      case measure=>have:=HLK.out;simp [intOf];omega
  ·obtain rfl:k=l.length:=by omega
   rw [List.take_length] at HG
   obtain ⟨t,ht⟩:∃ t,talL col l=t:=⟨_,rfl⟩
   rw [ht] at HG
   have HTL:=Lib.hid ht
   clear ht
   unfold talC at HG
   have HBE:=Lib.hid HG.out.below
   obtain ⟨c0,c1,c2,c3,c4,c5,f0,f1,f2,f3,f4,f5⟩:=HG.out.cells
   obtain ⟨⟨z0,z1,z2,z3,z4,z5⟩,y0,y1,y2,y3,y4,y5⟩:=HG.out.free
   have i1:¬(l.length:Int) < (l.length:Int):=by omega
   have HBZ:=Lib.hid (((((((HBE.out.setCell (p:=⟨w.heap.size,0,none⟩) (Nat.le_refl _) (.int .i64 (toW t.rows).1)).setCell (p:=⟨w.heap.size,1,none⟩) (Nat.le_refl _) (.int .u64 (toW t.rows).2)).setCell (p:=⟨w.heap.size,2,none⟩) (Nat.le_refl _) (.int .i64 (toW t.sum).1)).setCell (p:=⟨w.heap.size,3,none⟩) (Nat.le_refl _) (.int .u64 (toW t.sum).2)).setCell (p:=⟨w.heap.size,4,none⟩) (Nat.le_refl _) (.string t.lo)).setCell (p:=⟨w.heap.size,5,none⟩) (Nat.le_refl _) (.string t.hi)))
   have HRZ:=Lib.hid (Own.stored (Own.stored (Own.stored (Own.stored (Own.stored (Own.stored HG.out.res 0 (by decide) (.int .i64 (toW t.rows).1)) 1 (by decide) (.int .u64 (toW t.rows).2)) 2 (by decide) (.int .i64 (toW t.sum).1)) 3 (by decide) (.int .u64 (toW t.sum).2)) 4 (by decide) (.string t.lo)) 5 (by decide) (.string t.hi))
   clear HG HST
   go_wp2
   clear c0 c1 c2 c3 c4 c5 f0 f1 f2 f3 f4 f5 z0 z1 z2 z3 z4 z5 y0 y1 y2 y3 y4 y5
   obtain ⟨_,_,_,h4,_⟩:=HRZ.out.parts
   simp only [List.set_cons_zero,List.set_cons_succ,Nat.zero_add] at h4
   have k0:=h4 0 _ rfl
   have k1:=h4 1 _ rfl
   have k2:=h4 2 _ rfl
   have k3:=h4 3 _ rfl
   have k4:=h4 4 _ rfl
   have k5:=h4 5 _ rfl
   clear h4
   refine ⟨rfl,.agg #[.int .i64 (toW t.rows).1,.int .u64 (toW t.rows).2,.int .i64 (toW t.sum).1,.int .u64 (toW t.sum).2,.string t.lo,.string t.hi],?_,by rw [HTL.out];rfl,HBZ.out⟩
   simp [results,Try.results18,go_sem,k0,k1,k2,k3,k4,k5]
end Go.Proofs.Ytopeeokjfaampaa
