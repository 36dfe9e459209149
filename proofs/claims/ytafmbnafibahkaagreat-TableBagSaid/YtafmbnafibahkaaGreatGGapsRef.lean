/- The contract of the answer's Join of layer 7. -/
import Derived.Test.YtafmbnafibahkaaGreatGVary
import Derived.Test.YtafmbnafibahkaaGreatGVaryRead
import Derived.Test.YtafmbnafibahkaaGreatGStrs
import Derived.Test.YtafmbnafibahkaaGreatGGaps
import Derived.StillTailTactics
import Derived.Deep.RegionWith
namespace Go.Proofs.YtafmbnafibahkaaGreat
open Go Go.RowKit
def Cut (l:List Bool)(a:List Nat)(n:Nat):Prop:=lensOf l=a++[n]
theorem cut_first:Cut [] [] 0:=rfl
theorem cut_len {l:List Bool}{a:List Nat}{n:Nat}(h:Cut l a n):sumN a+n=l.length∧a.length≤l.length:=by
 unfold Cut at h
 have h1:=sumN_lensOf l
 rw [h,sumN_append] at h1
 simp only [sumN] at h1
 refine ⟨by omega,?_⟩
 obtain ⟨g,_⟩:=lensOf_good l
 rw [h] at g
 obtain ⟨m,tl,e,h2⟩:=g
 have h3:∀ (tl:List Nat),(∀ k∈tl,1≤k)→tl.length≤sumN tl:=by
  intro tl
  induction tl with
  | nil=>intro _;simp
  | cons x tl ih =>
   intro h
   have:=h x List.mem_cons_self
   have:=ih (fun k hk=>h k (List.mem_cons_of_mem _ hk))
   simp only [sumN,List.length_cons];omega
 have h4:=h3 tl h2
 have h5:=congrArg List.length e
 have h6:=congrArg sumN e
 rw [sumN_append] at h6
 simp only [sumN] at h6
 rw [List.length_append] at h5
 simp only [List.length_cons,List.length_nil] at h5
 omega
theorem cut_same {l:List Bool}{a:List Nat}{n:Nat}(h:Cut l a n){k:Nat}{m:List Bool}(hk:k < m.length)(hm:l=m.take k)(hx:m[k]=flip true a.length):Cut (m.take (k+1)) a (n+1):=by
 unfold Cut at h ⊢
 rw [take_add m k hk,←hm,lensOf_snoc,h]
 unfold addGap
 rw [nowOf_flip,if_pos hx,bump_eq]
theorem cut_turn {l:List Bool}{a:List Nat}{n:Nat}(h:Cut l a n){k:Nat}{m:List Bool}(hk:k < m.length)(hm:l=m.take k)(hx:m[k]≠flip true a.length):Cut (m.take (k+1)) (a++[n]) 1:=by
 unfold Cut at h ⊢
 rw [take_add m k hk,←hm,lensOf_snoc,h]
 unfold addGap
 rw [nowOf_flip,if_neg hx]
theorem gapsB_snoc (a:List Nat)(n:Nat):gapsB (a++[n])=gapsB a++(printB n).data.toList:=by
 rw [gapsB_append,print_data];simp [gapsB]
theorem gapsB_size (a:List Nat)(h:∀ n∈a,n < 18446744073709551616):(gapsB a).length≤10*a.length:=by
 induction a with
 | nil=>simp [gapsB]
 | cons x a ih =>
  have h1:=vp_len_10 (h x List.mem_cons_self)
  have h2:=ih (fun k hk=>h k (List.mem_cons_of_mem _ hk))
  rw [gapsB_cons,List.length_append,List.length_cons];omega
theorem cut_end {l:List Bool}{a:List Nat}{n:Nat}(h:Cut l a n):mkB (gapsB a)++printB n=gapsT l:=by
 unfold gapsT gapsP
 unfold Cut at h
 rw [h,gapsB_snoc,←mkB_append,mkB_of]
theorem cut_small {l:List Bool}{a:List Nat}{n:Nat}(h:Cut l a n)(hl:l.length≤1000000):n≤1000000∧(gapsB a).length≤10000000:=by
 obtain ⟨h1,h2⟩:=cut_len h
 refine ⟨by omega,?_⟩
 have:=gapsB_size a (fun k hk=>by have:=sumN_le k hk;omega)
 omega
theorem gapsT_size (l:List Bool)(h:l.length≤1000000):(gapsT l).size≤20000000:=by
 unfold gapsT gapsP
 rw [mkB_size]
 obtain ⟨⟨n,tl,e,h1⟩,_⟩:=lensOf_good l
 have hs:=sumN_lensOf l
 have h2:=gapsB_size (lensOf l) (fun k hk=>by have:=sumN_le k hk;omega)
 have h3:∀ (tl:List Nat),(∀ k∈tl,1≤k)→tl.length≤sumN tl:=by
  intro tl
  induction tl with
  | nil=>intro _;simp
  | cons x tl ih =>
   intro h
   have:=h x List.mem_cons_self
   have:=ih (fun k hk=>h k (List.mem_cons_of_mem _ hk))
   simp only [sumN,List.length_cons];omega
 have h4:=h3 tl h1
 rw [e] at h2 hs ⊢
 simp only [sumN,List.length_cons] at h2 hs
 omega
set_option maxHeartbeats 1000000 in
set_option maxRecDepth 100000 in
theorem ref_gaps_print_calls {w:World}{v:Value}{l:List Bool}(h:BoolsIn w v l)(hlen:l.length≤1000000):GivesAt Tryz.prog 97 #[v] w (.string (gapsT l)):=by
 obtain ⟨hb,hB⟩:=start w
 obtain ⟨A,cap,rfl,hat⟩:=one_at h
 have HAT:=Lib.hid hat
 clear h hat
 unfold GivesAt
 go_enter Tryz.func97,Tryz.ntmps97
 go_wp2
 go_loopw [3,4,5,6] (fun v y n i wr=>∃ (k:Nat) (a:List Nat) (m:Nat),k≤l.length∧i=.int .i64 k∧Hid (Cut (l.take k) a m)∧m≤1000000∧(gapsB a).length≤10000000∧y=.bool (flip true a.length)∧n=.int .u64 m∧v=.string (mkB (gapsB a))∧Below w.heap.size w wr) (fun _ _ _ i _=>l.length-(intOf i).toNat)
 case atStart=>exact ⟨0,[],0,by omega,rfl,cut_first,by omega,by simp [gapsB],rfl,rfl,rfl,hb⟩
 case round =>
  clear hb hB
  obtain ⟨k,a,m,hk,rfl,HC,hm,hga,rfl,rfl,rfl,hb⟩:=hrel
  have hB:=hb.size
  have p1:=Lib.hid (ref_print_calls m (by omega))
  have z1:(printB m).size≤10:=by rw [print_len];exact vp_len_10 (by omega)
  have hLs:(mkB (gapsB a)).size=(gapsB a).length:=mkB_size _
  by_cases hlt:k < l.length
  ·obtain ⟨b,off,rfl,hbl,hc⟩:=HAT.out k hlt
   have hx:=(hb.cell (p:=⟨b,off+k,none⟩) hbl).trans (hc k hlt)
   have HS:=Lib.hid (cut_same HC.out hlt rfl)
   have HT:=Lib.hid (cut_turn HC.out hlt rfl)
   have HG:=Lib.hid (gapsB_snoc a m)
   have HFS:=Lib.hid (show flip true (a++[m]).length = !flip true a.length from by
    rw [List.length_append,List.length_singleton,←flip_succ true a.length];unfold flip;split <;> simp)
   have t1:¬9223372036854775807 < (mkB (gapsB a)).size+(printB m).size:=by omega
   have q1:IntKind.u64.wrap ((m:Int)+1)=((m+1:Nat):Int):=by rw [show (m:Int)+1=((m+1:Nat):Int) by omega];exact wrap_lt _ (by omega)
   clear hc
   generalize l[k]=x at *
   generalize hy:flip true a.length=y at *
   have HY:=Lib.hid hy
   clear hy
   by_cases hxy:x=y
   ·have HC1:=Lib.hid (HS.out hxy)
    have hsm:=cut_small HC1.out (by rw [List.length_take];omega)
    subst hxy
    clear HS HT t1
    cases x
    all_goals
     go_wp2
     go_roundw
     case rel=>exact ⟨k+1,a,m+1,by omega,by go_num,HC1.out,hsm.1,hsm.2,by rw [HY.out],by go_num,rfl,hb⟩
     case measure=>simp [intOf];omega
   ·have HC1:=Lib.hid (HT.out hxy)
    have hsm:=cut_small HC1.out (by rw [List.length_take];omega)
    have HXY:Hid (x = !y):=by show _=_;cases x <;> cases y <;> simp_all
    obtain rfl:=HXY.out
    clear HS HT hxy HXY
    have HM:Hid (mkB (gapsB a)++printB m=mkB (gapsB (a++[m]))):=by
     show _=_
     rw [HG.out,←mkB_append,mkB_of]
    cases y
    all_goals
     go_wp2_with (go_at_call 98;refine p1.out.step (w0:=w) (B:=w.heap.size) hb hB ?_;clear hb hB hx;intro w4 hb hB)
     go_roundw
     case rel=>exact ⟨k+1,a++[m],1,by omega,by go_num,HC1.out,by omega,hsm.2,by rw [HFS.out];rfl,by go_num,by rw [HM.out],hb⟩
     case measure=>simp [intOf];omega
  ·obtain rfl:k=l.length:=by omega
   have HE:=cut_end HC.out
   rw [List.take_length] at HE
   have HEE:=Lib.hid HE
   have t1:¬9223372036854775807 < (mkB (gapsB a)).size+(printB m).size:=by omega
   clear HE
   go_wp2_with (go_at_call 98;refine p1.out.step (w0:=w) (B:=w.heap.size) hb hB ?_;clear hb hB;intro w4 hb hB)
   go_ret
   exact ⟨ret_str HEE.out,hb⟩
set_option maxHeartbeats 1000000 in
set_option maxRecDepth 100000 in
theorem gaps_print_calls {w:World}{v:Value}{l:List Bool}(h:BoolsIn w v l)(hlen:l.length≤1000000):GivesAt Tryz.prog 115 #[v] w (.string (gapsT l)):=by
 obtain ⟨i0,hi,hz0,hz1,hz2⟩:=info_parts Tryz.infoB5
 obtain ⟨hb,hB⟩:=start w
 obtain ⟨A,cap,rfl,hat⟩:=one_at h
 have HAT:=Lib.hid hat
 clear h hat
 unfold GivesAt
 go_enter Tryz.func115,Tryz.ntmps115
 go_wp2
 go_loopw [3,4,5,10] (fun v y n i wr=>∃ (k:Nat) (a:List Nat) (m:Nat),k≤l.length∧i=.int .i64 k∧Hid (Cut (l.take k) a m)∧m≤1000000∧(gapsB a).length≤10000000∧y=.bool (flip true a.length)∧n=.int .u64 m∧RowB wr w.heap.size 5 v (gapsB a)∧Below w.heap.size w wr) (fun _ _ _ i _=>l.length-(intOf i).toNat)
 case atStart=>exact ⟨0,[],0,by omega,rfl,cut_first,by omega,by simp [gapsB],rfl,rfl,World.ownsRow_nil _ _ _ _,hb⟩
 case round =>
  clear hb hB
  obtain ⟨k,a,m,hk,rfl,HC,hm,hga,rfl,rfl,hrow,hb⟩:=hrel
  have hB:=hb.size
  have p1:=Lib.hid (print_calls m (by omega))
  have z1:(printB m).size≤10:=by rw [print_len];exact vp_len_10 (by omega)
  by_cases hlt:k < l.length
  ·obtain ⟨b,off,rfl,hbl,hc⟩:=HAT.out k hlt
   have hx:=(hb.cell (p:=⟨b,off+k,none⟩) hbl).trans (hc k hlt)
   have HS:=Lib.hid (cut_same HC.out hlt rfl)
   have HT:=Lib.hid (cut_turn HC.out hlt rfl)
   have HG:=Lib.hid (gapsB_snoc a m)
   have HFS:=Lib.hid (show flip true (a++[m]).length = !flip true a.length from by
    rw [List.length_append,List.length_singleton,←flip_succ true a.length];unfold flip;split <;> simp)
   have q1:IntKind.u64.wrap ((m:Int)+1)=((m+1:Nat):Int):=by rw [show (m:Int)+1=((m+1:Nat):Int) by omega];exact wrap_lt _ (by omega)
   clear hc
   generalize l[k]=x at *
   generalize hy:flip true a.length=y at *
   have HY:=Lib.hid hy
   clear hy
   by_cases hxy:x=y
   ·have HC1:=Lib.hid (HS.out hxy)
    have hsm:=cut_small HC1.out (by rw [List.length_take];omega)
    have HR:=Lib.hid hrow
    obtain ⟨_,_,rfl⟩:=(hrow.own (by unfold maxLen;omega)).len
    subst hxy
    clear HS HT hrow
    cases x
    all_goals
     go_wp2
     go_roundw
     case rel=>exact ⟨k+1,a,m+1,by omega,by go_num,HC1.out,hsm.1,hsm.2,by rw [HY.out],by go_num,HR.out,hb⟩
     case measure=>simp [intOf];omega
   ·have HC1:=Lib.hid (HT.out hxy)
    have hsm:=cut_small HC1.out (by rw [List.length_take];omega)
    have HXY:Hid (x = !y):=by show _=_;cases x <;> cases y <;> simp_all
    obtain rfl:=HXY.out
    generalize hL:gapsB a=L at *
    clear HS HT hxy HXY hL
    obtain ⟨_,_,rfl⟩:=(hrow.own (by unfold maxLen;omega)).len
    cases y
    all_goals
     go_wp2_with (first|(go_at_call 109;refine p1.out.stepB (w0:=wr) (B:=wr.heap.size) (.refl _ _) (Nat.le_refl _) ?_;intro w4 _ _ hq;replace hrow:=RowB.later hrow hq;replace hb:=hb.trans (hq.mono hB);replace hB:=Nat.le_trans hB hq.size;clear hx hq)|(at_builtin;refine Lib.wpList_append_own_string _ rfl _ _ 97 9 rfl w.heap.size 5 i0 Tryz.underlying97 Tryz.underlying9 hi hz0 hz1 hz2 _ _ _ rfl hrow (printB m) rfl ?c1 ?c2 hB ?_))
     case c1=>unfold maxLen;omega
     case c2=>omega
     intro v5 w5 hrow5 hg5 _
     have hb5:=hb.grown hg5 hB (fun k hk=>(hrow.lt k hk).1)
     have HO:=Lib.hid (RowB.step hrow5 HG.out rfl)
     clear hrow hb hB hg5 hrow5
     go_wp2
     go_roundw
     case rel=>exact ⟨k+1,a++[m],1,by omega,by go_num,HC1.out,by omega,hsm.2,by rw [HFS.out];rfl,by go_num,HO.out,hb5⟩
     case measure=>simp [intOf];omega
  ·obtain rfl:k=l.length:=by omega
   have HE:=cut_end HC.out
   rw [List.take_length] at HE
   have HEE:=Lib.hid HE
   have HO:=Lib.hid (hrow.own (by unfold maxLen;omega))
   generalize hL:gapsB a=L at *
   have hconv:=run_string_own HO.out 97 9 5 Tryz.underlying97 Tryz.underlying5 Tryz.underlying9
   have hconvd:=run_string_own HO.out.drew 97 9 5 Tryz.underlying97 Tryz.underlying5 Tryz.underlying9
   obtain ⟨_,_,rfl⟩:=HO.out.len
   have hov:¬(9223372036854775807 < L.length+(printB m).size):=by omega
   have hov2:¬(9223372036854775807 < (⟨L.toArray⟩:ByteArray).size+(printB m).size):=by have:(⟨L.toArray⟩:ByteArray).size=L.length:=List.size_toArray;omega
   clear HE hrow hL
   go_wp2_with fail
   go_region_with (go_at_call 109;refine p1.out.step (w0:=wr) (B:=wr.heap.size) (Below.drew (.refl _ _)) (Nat.le_refl _) ?_;intro w2 hq2 _;have hc2:=run_string_own (HO.out.later hq2) 97 9 5 Tryz.underlying97 Tryz.underlying5 Tryz.underlying9)
   all_goals
    go_wp2
    go_ret
    exact ⟨ret_str HEE.out,hb.trans (hq2.mono hB)⟩
end Go.Proofs.YtafmbnafibahkaaGreat
