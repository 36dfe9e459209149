/- The contracts of the answer's Same and Whole of layer 10. -/
import Derived.Test.YtopeeokjfaampaaGStrs
import Derived.Test.YtopeeokjfaampaaGTimes
import Derived.Lib.QuietBelow
import Derived.Deep.RegionLaw
import Derived.StillTailTactics
import Derived.Deep.RegionWith
namespace Go.Proofs.Ytopeeokjfaampaa
open Go Go.RowKit
theorem Try.infoM27:(Try.prog.info? 27).map (fun i=>(i.zero,i.size,i.bytes))=some (some (.agg #[.slice none 0 0,.int .i64 0]),2,32):=by kernel_rfl
theorem lit_tm (w:World)(T:TypeId)(rv:Value)(n:Int):SliceOf (w.alloc (.cells #[rv,.int .i64 n] T)) 2 (.slice (some ⟨w.heap.size,0,none⟩) 1 1) 1 [rv,.int .i64 n] :=
 (Own.lit (B:=0) (size:=2) w #[rv,.int .i64 n] T 1 (Nat.zero_le _) (by unfold maxLen;omega) rfl).slice
theorem one_tm {w:World}{rv:Value}{row:List ByteArray}(h:StrsIn w rv row)(n:Int):∀ u∈[rv,.int .i64 n],u.oneCell'=true:=by
 intro u hu
 simp only [List.mem_cons,List.not_mem_nil,or_false] at hu
 rcases hu with rfl|rfl
 ·obtain ⟨A,c,e,_⟩:=h.at_
  rw [e];rfl
 ·rfl
instance (l:List Tm):Decidable (RightP l):=by unfold RightP;infer_instance
theorem take_eq_step {α:Type}{a b:List α}{k:Nat}(h1:k < a.length)(h2:k < b.length)(h:a.take k=b.take k)(e:a[k]=b[k]):a.take (k+1)=b.take (k+1):=by
 rw [take_add a k h1,take_add b k h2,h,e]
set_option maxHeartbeats 2000000 in
theorem same_times {w:World}{va vb:Value}{a b:List Tm}(ha:TimesIn w va a)(hb:TimesIn w vb b)(hla:a.length≤1000000)(ra:∀ t∈a,t.1.length≤1000000)(rb:∀ t∈b,t.1.length≤1000000) :
  GivesAt Try.prog 10 #[va,vb] w (.bool (decide (a=b))):=by
 have hg:=(start w).1
 obtain ⟨tva,A,ca,rfl,_,hata⟩:=times_at ha
 obtain ⟨tvb,B,cb,rfl,_,hatb⟩:=times_at hb
 have HA:=Lib.hid hata
 have HB:=Lib.hid hatb
 have HRA:=Lib.hid ra
 have HRB:=Lib.hid rb
 clear ha hb hata hatb ra rb
 unfold GivesAt
 by_cases hl:a.length=b.length
 ·have d1:((a.length:Int)==(b.length:Int))=true:=by rw [beq_iff_eq];omega
  have hle:b.length=a.length:=hl.symm
  have HL:=Lib.hid hl
  clear hl
  go_enter Try.func10,Try.ntmps10
  rw [hle] at d1 ⊢
  clear hle
  go_wp2
  go_loopw [5] (fun i wr=>∃ k:Nat,k≤a.length∧i=.int .i64 k∧Hid (a.take k=b.take k)∧Below w.heap.size w wr) (fun i _=>a.length-(intOf i).toNat)
  case atStart=>exact ⟨0,by omega,rfl,show a.take 0=b.take 0 from rfl,hg⟩
  case round =>
   clear hg
   obtain ⟨k,hk,rfl,HE,hg⟩:=hrel
   by_cases hlt:k < a.length
   ·have hlt2:k < b.length:=by have:=HL.out;omega
    obtain ⟨b1,o1,rfl,hl1,hc1⟩:=HA.out k hlt
    obtain ⟨b2,o2,rfl,hl2,hc2⟩:=HB.out k hlt2
    obtain ⟨r1,s1,_,c11,c12⟩:=hc1 k hlt
    obtain ⟨r2,s2,_,c21,c22⟩:=hc2 k hlt2
    have x11:=(hg.cell (p:=⟨b1,o1+k*2,none⟩) hl1).trans c11
    have x12:=(hg.cell (p:=⟨b1,o1+k*2+1,none⟩) hl1).trans c12
    have x21:=(hg.cell (p:=⟨b2,o2+k*2,none⟩) hl2).trans c21
    have x22:=(hg.cell (p:=⟨b2,o2+k*2+1,none⟩) hl2).trans c22
    have hs:∀ w',Below wr.heap.size wr w'→GivesAt _ _ #[r1,r2] w' _:=fun w' hw=>same_strs (StrsIn.kept (StrsIn.kept s1 hg) hw) (StrsIn.kept (StrsIn.kept s2 hg) hw) (HRA.out _ (List.getElem_mem hlt)) (HRB.out _ (List.getElem_mem hlt2))
    have HST:=Lib.hid (take_eq_step hlt hlt2 HE.out)
    have hne:a[k]≠b[k]→¬a=b:=by intro h e;subst e;exact h rfl
    have a11:=fun d os=>cell_regrown x11 d os
    have a12:=fun d os=>cell_regrown x12 d os
    have a21:=fun d os=>cell_regrown x21 d os
    have a22:=fun d os=>cell_regrown x22 d os
    clear hc1 hc2 c11 c12 c21 c22 s1 s2 x11 x12 x21 x22
    generalize a[k]=x at *
    generalize b[k]=y at *
    obtain ⟨xr,xn⟩:=x
    obtain ⟨yr,yn⟩:=y
    dsimp only at *
    by_cases hn:xn=yn
    ·subst hn
     have d2:(xn==xn)=true:=by simp
     have d3:(xn != xn)=false:=by simp
     by_cases hr:xr=yr
     ·have HQ:Hid (∀ w',Below wr.heap.size wr w'→GivesAt Try.prog 17 #[r1,r2] w' (.bool true)):=by
       intro w' hw;have:=hs w' hw;rwa [decide_eq_true hr] at this
      have HI:=Lib.hid (HST.out (by rw [hr]))
      clear hs hr hne HST
      go_wp2
      refine wp_region_quiet_below (by kernel_rfl) (by kernel_rfl) ?_
      repeat (first|go_big_quiet_skip|(go_big_quiet_want;go_big_quiet_op;first|go_big_quiet_on|(apply Exists.intro;refine ⟨fun _=>?_,?_⟩;(first|(go_at_call 17;exact Calls.regrown_of (HQ.out _ (below_regrown wr _ _))));go_big_quiet_on)))
      refine wpQuiet_nil ?_
      rintro w3 ⟨p,hw3⟩
      have hb2:Below wr.heap.size wr w3:=hw3▸below_regrown wr p.d p.os
      clear hw3 a11 a12 a21 a22 HQ
      replace hg:=hg.trans (hb2.mono hg.size)
      clear hb2
      go_wp2
      go_roundw
      case rel=>exact ⟨k+1,by omega,by go_num,HI,hg⟩
      case measure=>simp [intOf];omega
     ·have HQ:Hid (∀ w',Below wr.heap.size wr w'→GivesAt Try.prog 17 #[r1,r2] w' (.bool false)):=by
       intro w' hw;have:=hs w' hw;rwa [decide_eq_false hr] at this
      have HD:=Lib.hid (show decide (a=b)=false by rw [decide_eq_false_iff_not];exact hne (fun e=>hr (congrArg Prod.fst e)))
      clear hs hr hne HST
      go_wp2
      refine wp_region_quiet_below (by kernel_rfl) (by kernel_rfl) ?_
      repeat (first|go_big_quiet_skip|(go_big_quiet_want;go_big_quiet_op;first|go_big_quiet_on|(apply Exists.intro;refine ⟨fun _=>?_,?_⟩;(first|(go_at_call 17;exact Calls.regrown_of (HQ.out _ (below_regrown wr _ _))));go_big_quiet_on)))
      refine wpQuiet_nil ?_
      rintro w3 ⟨p,hw3⟩
      have hb2:Below wr.heap.size wr w3:=hw3▸below_regrown wr p.d p.os
      clear hw3 a11 a12 a21 a22 HQ
      replace hg:=hg.trans (hb2.mono hg.size)
      clear hb2
      go_wp2
      go_ret
      exact ⟨ret_bool HD.out.symm,hg⟩
    ·have d2:(xn==yn)=false:=by rw [beq_eq_false_iff_ne];exact hn
     have d3:(xn != yn)=true:=by rw [bne_iff_ne];exact hn
     have HD:=Lib.hid (show decide (a=b)=false by rw [decide_eq_false_iff_not];exact hne (fun e=>hn (congrArg Prod.snd e)))
     have HQ:=Lib.hid hs
     clear hs hne HST hn
     go_wp2
     refine wp_region_quiet_below (by kernel_rfl) (by kernel_rfl) ?_
     repeat (first|go_big_quiet_skip|(go_big_quiet_want;go_big_quiet_op;first|go_big_quiet_on|(apply Exists.intro;refine ⟨fun _=>?_,?_⟩;(first|(go_at_call 17;exact Calls.regrown_of (HQ.out _ (below_regrown wr _ _))));go_big_quiet_on)))
     refine wpQuiet_nil ?_
     rintro w3 ⟨p,hw3⟩
     have hb2:Below wr.heap.size wr w3:=hw3▸below_regrown wr p.d p.os
     clear hw3 a11 a12 a21 a22 HQ
     replace hg:=hg.trans (hb2.mono hg.size)
     clear hb2
     go_wp2
     go_ret
     exact ⟨ret_bool HD.out.symm,hg⟩
   ·obtain rfl:k=a.length:=by omega
    have HD:Hid (decide (a=b)=true):=by
     show _=_
     rw [decide_eq_true_eq]
     have:=HE.out
     rwa [List.take_length,List.take_of_length_le (by have:=HL.out;omega)] at this
    go_wp2
    go_ret
    exact ⟨ret_bool HD.out.symm,hg⟩
 ·have d1:((a.length:Int)==(b.length:Int))=false:=by rw [beq_eq_false_iff_ne];omega
  have HD:=Lib.hid (show decide (a=b)=false by rw [decide_eq_false_iff_not];intro e;exact hl (by rw [e]))
  go_enter Try.func10,Try.ntmps10
  go_wp2
  go_ret
  exact ⟨ret_bool HD.out.symm,hg⟩
end Go.Proofs.Ytopeeokjfaampaa
