/- Layer 14's law: the same table twice is told to be the same. -/
import Derived.Test.YtafmbnafibahkaaGreatGStrs
import Derived.Test.YtafmbnafibahkaaGreatGBlocks
import Derived.Test.YtafmbnafibahkaaGreatGWeighRef
import Derived.Test.YtafmbnafibahkaaGreatGTableRef
import Derived.Lib.QuietBelow
import Derived.BigQuiet
import Derived.Laws.StructEq
namespace Go.Proofs.YtafmbnafibahkaaGreat
open Go Go.RowKit
theorem take_eq_next {α:Type}{a b:List α}{k:Nat}(h1:k < a.length)(h2:k < b.length)(h:a.take k=b.take k)(e:a[k]=b[k]):a.take (k+1)=b.take (k+1):=by
 rw [take_add a k h1,take_add b k h2,h,e]
set_option maxHeartbeats 4000000 in
set_option maxRecDepth 100000 in
theorem same_blks {w:World}{va vb:Value}{a b:List Blk}(ha:BlksIn w va a)(hb:BlksIn w vb b)(hla:a.length≤1000000)(ra:∀ t∈a,t.2.1.length≤1000000)(rb:∀ t∈b,t.2.1.length≤1000000) :
  GivesAt Tryz.prog 26 #[va,vb] w (.bool (decide (a=b))):=by
 have hg:=(start w).1
 obtain ⟨A,ca,rfl,hata⟩:=blks_at ha
 obtain ⟨B,cb,rfl,hatb⟩:=blks_at hb
 have HA:=Lib.hid hata
 have HB:=Lib.hid hatb
 have HRA:=Lib.hid ra
 have HRB:=Lib.hid rb
 clear ha hb hata hatb ra rb
 unfold GivesAt
 by_cases hl:a.length=b.length
 ·have d1:((a.length:Int)==(b.length:Int))=true:=by rw [beq_iff_eq];omega
  have d0:((a.length:Int) != (b.length:Int))=false:=by simp [hl]
  have hle:b.length=a.length:=hl.symm
  have HL:=Lib.hid hl
  clear hl
  go_enter Tryz.func26,Tryz.ntmps26
  rw [hle] at d1 d0 ⊢
  clear hle
  go_wp2
  go_loopw [5] (fun i wr=>∃ k:Nat,k≤a.length∧i=.int .i64 k∧Hid (a.take k=b.take k)∧Below w.heap.size w wr) (fun i _=>a.length-(intOf i).toNat)
  case atStart=>exact ⟨0,by omega,rfl,show a.take 0=b.take 0 from rfl,hg⟩
  case round =>
   clear hg
   obtain ⟨k,hk,rfl,HE,hg⟩:=hrel
   by_cases hlt:k < a.length
   ·have hlt2:k < b.length:=by have:=HL.out;omega
    obtain ⟨b1,o1,rfl,hl1,hc1⟩:=HA.out k hlt
    obtain ⟨b2,o2,rfl,hl2,hc2⟩:=HB.out k hlt2
    obtain ⟨r1,s1,c11,c12,c13⟩:=hc1 k hlt
    obtain ⟨r2,s2,c21,c22,c23⟩:=hc2 k hlt2
    have HX:Hid (∀ w',Below w.heap.size w w'→w'.cell? ⟨b1,o1+k*3,none⟩=some (.int .i64 a[k].1)∧w'.cell? ⟨b1,o1+k*3+1,none⟩=some r1∧w'.cell? ⟨b1,o1+k*3+2,none⟩=some (.string a[k].2.2)) :=
     fun w' hg=>⟨(hg.cell (p:=⟨b1,o1+k*3,none⟩) hl1).trans c11,(hg.cell (p:=⟨b1,o1+k*3+1,none⟩) hl1).trans c12,(hg.cell (p:=⟨b1,o1+k*3+2,none⟩) hl1).trans c13⟩
    have HY:Hid (∀ w',Below w.heap.size w w'→w'.cell? ⟨b2,o2+k*3,none⟩=some (.int .i64 b[k].1)∧w'.cell? ⟨b2,o2+k*3+1,none⟩=some r2∧w'.cell? ⟨b2,o2+k*3+2,none⟩=some (.string b[k].2.2)) :=
     fun w' hg=>⟨(hg.cell (p:=⟨b2,o2+k*3,none⟩) hl2).trans c21,(hg.cell (p:=⟨b2,o2+k*3+1,none⟩) hl2).trans c22,(hg.cell (p:=⟨b2,o2+k*3+2,none⟩) hl2).trans c23⟩
    have HLA:=Lib.hid (HRA.out _ (List.getElem_mem hlt))
    have HLB:=Lib.hid (HRB.out _ (List.getElem_mem hlt2))
    have HST:=Lib.hid (take_eq_next hlt hlt2 HE.out)
    have hne:a[k]≠b[k]→decide (a=b)=false:=by intro h;rw [decide_eq_false_iff_not];intro e;subst e;exact h rfl
    obtain ⟨A1,p1,rfl,hat1⟩:=one_at s1
    obtain ⟨A2,p2,rfl,hat2⟩:=one_at s2
    have HT1:=Lib.hid hat1
    have HT2:=Lib.hid hat2
    clear hc1 hc2 c11 c12 c13 c21 c22 c23 s1 s2 hat1 hat2
    have hq1:=(HX.out _ hg)
    have hq2:=(HY.out _ hg)
    generalize a[k]=x at *
    generalize b[k]=y at *
    obtain ⟨xr,xc,xn⟩:=x
    obtain ⟨yr,yc,yn⟩:=y
    dsimp only at *
    obtain ⟨x0,x1,x2⟩:=hq1
    obtain ⟨y0,y1,y2⟩:=hq2
    have a0:=fun d os=>cell_regrown x0 d os
    have a1:=fun d os=>cell_regrown x1 d os
    have a2:=fun d os=>cell_regrown x2 d os
    have a3:=fun d os=>cell_regrown y0 d os
    have a4:=fun d os=>cell_regrown y1 d os
    have a5:=fun d os=>cell_regrown y2 d os
    have i0:(0:Int)≤(k:Int):=by omega
    have i1:(k:Int) < (a.length:Int):=by omega
    clear x0 x1 x2 y0 y1 y2
    by_cases e1:xr=yr
    ·have e1a:(xr==yr)=true:=by rw [beq_iff_eq];exact e1
     have e1b:(xr != yr)=false:=by simp [e1]
     have hsc:=str_ne_cases xn yn
     by_cases e2:xn=yn
     ·obtain ⟨_,e2a,e2b⟩:=hsc.resolve_right (fun h=>h.1 e2)
      by_cases e3:xc.length=yc.length
      ·have e3a:((xc.length:Int)==(yc.length:Int))=true:=by rw [beq_iff_eq];omega
       have e3b:((xc.length:Int) != (yc.length:Int))=false:=by simp [e3]
       have HE3:=Lib.hid e3
       have HNE:=Lib.hid (show ∀ j (h1:j < xc.length) (h2:j < yc.length),xc[j]≠yc[j]→decide (a=b)=false from fun j h1 h2 h=>hne (fun e=>by cases e;exact h rfl))
       have HYES:=Lib.hid (show xc=yc→a.take (k+1)=b.take (k+1) from fun e=>HST.out (by rw [e1,e2,e]))
       clear hne hsc e1 e2 HST e3
       go_wp2
       refine wp_region_quiet_below (by kernel_rfl) (by kernel_rfl) ?_
       repeat (first|go_big_quiet_skip|(go_big_quiet_want;go_big_quiet_op;go_big_quiet_on))
       refine wpQuiet_nil ?_
       rintro w3 ⟨p,hw3⟩
       have hb2:Below wr.heap.size wr w3:=hw3▸below_regrown wr p.d p.os
       clear hw3
       replace hg:=hg.trans (hb2.mono hg.size)
       clear hb2
       clear a0 a1 a2 a3 a4 a5
       go_wp2
       go_loopw [6] (fun i wr=>∃ c:Nat,c≤xc.length∧i=.int .i64 c∧Hid (xc.take c=yc.take c)∧Below w.heap.size w wr) (fun i _=>xc.length-(intOf i).toNat)
       case atStart=>exact ⟨0,by omega,rfl,show xc.take 0=yc.take 0 from rfl,hg⟩
       case round =>
        obtain ⟨w9,hw9⟩:∃ w9,w9=w3:=⟨_,rfl⟩
        clear hg
        obtain ⟨c,hc,rfl,HC,hg⟩:=hrel
        have hlx:=HLA.out
        have hq1:=(HX.out _ hg)
        have hq2:=(HY.out _ hg)
        obtain ⟨x0,x1,x2⟩:=hq1
        obtain ⟨y0,y1,y2⟩:=hq2
        by_cases hlc:c < xc.length
        ·have hlc2:c < yc.length:=by have:=HE3.out;omega
         obtain ⟨b3,o3,rfl,hl3,hc3⟩:=HT1.out c hlc
         obtain ⟨b4,o4,rfl,hl4,hc4⟩:=HT2.out c hlc2
         have u1:=(hg.cell (p:=⟨b3,o3+c,none⟩) hl3).trans (hc3 c hlc)
         have u2:=(hg.cell (p:=⟨b4,o4+c,none⟩) hl4).trans (hc4 c hlc2)
         have HS2:=Lib.hid (take_eq_next hlc hlc2 HC.out)
         have HN2:=Lib.hid (HNE.out c hlc hlc2)
         have j1:(c:Int) < (xc.length:Int):=by omega
         have j2:(c:Int) < (yc.length:Int):=by omega
         have j0:(0:Int)≤(c:Int):=by omega
         have a0:=fun d os=>cell_regrown x1 d os
         have a1:=fun d os=>cell_regrown y1 d os
         have a2:=fun d os=>cell_regrown u1 d os
         have a3:=fun d os=>cell_regrown u2 d os
         clear hc3 hc4 x0 x2 y0 y2
         generalize xc[c]=s at *
         generalize yc[c]=t at *
         rcases str_ne_cases s t with ⟨h1,h2,h3⟩ | ⟨h1,h2,h3⟩
         ·have HI:=Lib.hid (HS2.out h1)
          clear h1
          go_wp2
          clear x1 y1 u1 u2
          refine wp_region_quiet_below (by kernel_rfl) (by kernel_rfl) ?_
          repeat (first|go_big_quiet_skip|(go_big_quiet_want;go_big_quiet_op;go_big_quiet_on))
          refine wpQuiet_nil ?_
          rintro w3 ⟨p,hw3⟩
          have hb2:Below wr.heap.size wr w3:=hw3▸below_regrown wr p.d p.os
          clear hw3
          replace hg:=hg.trans (hb2.mono hg.size)
          clear hb2
          clear a0 a1 a2 a3
          go_wp2
          go_roundw
          case rel=>exact ⟨c+1,by omega,by go_num,HI,hg⟩
          case measure=>simp [intOf];omega
         ·have HD:=Lib.hid (HN2.out h1)
          clear h1
          go_wp2
          clear x1 y1 u1 u2
          refine wp_region_quiet_below (by kernel_rfl) (by kernel_rfl) ?_
          repeat (first|go_big_quiet_skip|(go_big_quiet_want;go_big_quiet_op;go_big_quiet_on))
          refine wpQuiet_nil ?_
          rintro w3 ⟨p,hw3⟩
          have hb2:Below wr.heap.size wr w3:=hw3▸below_regrown wr p.d p.os
          clear hw3
          replace hg:=hg.trans (hb2.mono hg.size)
          clear hb2
          clear a0 a1 a2 a3
          go_wp2
          go_ret
          exact ⟨ret_bool HD.out.symm,hg⟩
        ·obtain rfl:c=xc.length:=by omega
         have HI:Hid (a.take (k+1)=b.take (k+1)):=HYES.out (by
          have:=HC.out
          rwa [List.take_length,List.take_of_length_le (by have:=HE3.out;omega)] at this)
         go_wp2
         go_roundw
         case rel=>exact ⟨k+1,by omega,by go_num,HI,hg⟩
         case measure=>simp [intOf];omega
      ·have e3a:((xc.length:Int)==(yc.length:Int))=false:=by rw [beq_eq_false_iff_ne];omega
       have e3b:((xc.length:Int) != (yc.length:Int))=true:=by rw [bne_iff_ne];omega
       have HD:=Lib.hid (hne (fun e=>e3 (by cases e;rfl)))
       clear hne hsc e1 e2 HST e3
       go_wp2
       refine wp_region_quiet_below (by kernel_rfl) (by kernel_rfl) ?_
       repeat (first|go_big_quiet_skip|(go_big_quiet_want;go_big_quiet_op;go_big_quiet_on))
       refine wpQuiet_nil ?_
       rintro w3 ⟨p,hw3⟩
       have hb2:Below wr.heap.size wr w3:=hw3▸below_regrown wr p.d p.os
       clear hw3
       replace hg:=hg.trans (hb2.mono hg.size)
       clear hb2
       go_wp2
       go_ret
       exact ⟨ret_bool HD.out.symm,hg⟩
     ·obtain ⟨_,e2a,e2b⟩:=hsc.resolve_left (fun h=>e2 h.1)
      have HD:=Lib.hid (hne (fun e=>e2 (by cases e;rfl)))
      clear hne hsc e1 e2 HST
      go_wp2
      refine wp_region_quiet_below (by kernel_rfl) (by kernel_rfl) ?_
      repeat (first|go_big_quiet_skip|(go_big_quiet_want;go_big_quiet_op;go_big_quiet_on))
      refine wpQuiet_nil ?_
      rintro w3 ⟨p,hw3⟩
      have hb2:Below wr.heap.size wr w3:=hw3▸below_regrown wr p.d p.os
      clear hw3
      replace hg:=hg.trans (hb2.mono hg.size)
      clear hb2
      go_wp2
      go_ret
      exact ⟨ret_bool HD.out.symm,hg⟩
    ·have e1a:(xr==yr)=false:=by rw [beq_eq_false_iff_ne];exact e1
     have e1b:(xr != yr)=true:=by rw [bne_iff_ne];exact e1
     have HD:=Lib.hid (hne (fun e=>e1 (by cases e;rfl)))
     clear hne HST e1
     go_wp2
     refine wp_region_quiet_below (by kernel_rfl) (by kernel_rfl) ?_
     repeat (first|go_big_quiet_skip|(go_big_quiet_want;go_big_quiet_op;go_big_quiet_on))
     refine wpQuiet_nil ?_
     rintro w3 ⟨p,hw3⟩
     have hb2:Below wr.heap.size wr w3:=hw3▸below_regrown wr p.d p.os
     clear hw3
     replace hg:=hg.trans (hb2.mono hg.size)
     clear hb2
     go_wp2
     go_ret
     exact ⟨ret_bool HD.out.symm,hg⟩
   ·obtain rfl:k=a.length:=by omega
    have HD:Hid (decide (a=b)=true):=by
     show _=_
     rw [decide_eq_true_eq]
     have:=HE.out
     rwa [List.take_length,List.take_of_length_le (by have:=HL.out;omega)] at this
    go_wp2
    go_ret
    exact ⟨ret_bool HD.out.symm,hg⟩
 ·have d1:((a.length:Int)==(b.length:Int))=false:=by rw [beq_eq_false_iff_ne];omega
  have d0:((a.length:Int) != (b.length:Int))=true:=by rw [bne_iff_ne];omega
  have HD:=Lib.hid (show decide (a=b)=false by rw [decide_eq_false_iff_not];intro e;exact hl (by rw [e]))
  go_enter Tryz.func26,Tryz.ntmps26
  go_wp2
  go_ret
  exact ⟨ret_bool HD.out.symm,hg⟩
theorem Tryz.eqCol (a c:Int)(b d:Bool)(w:World):(Op.equalIn 10000 58 (.agg #[.int .u8 a,.bool b]) (.agg #[.int .u8 c,.bool d])).run Tryz.prog w=.ok (a==c&&b==d) w:=by
 have u1:=Tryz.underlying5
 have u2:=Tryz.underlying4
 have a1:=Tryz.isAgg5
 have a2:=Tryz.isAgg4
 have z1:=Tryz.sizeOf5
 have z2:=Tryz.sizeOf4
 have hS:Tryz.prog.underlying 58=some (.struct (Tryz.prog.fieldsOf 58)):=by kernel_rfl
 have hp:Tryz.prog.stoodInHeld 58=false:=by kernel_rfl
 rw [show (10000:Nat)=9999+1 from rfl,run_equalIn_agg w 9999 58 _ _ hS hp]
 simp only [Program.fieldsOf,Tryz.underlying58]
 go_simp
 by_cases h1:a=c <;> cases b <;> cases d <;> simp [h1]
theorem Tryz.neqCol (a c:Int)(b d:Bool)(w:World):(binOp .neq 58 (.agg #[.int .u8 a,.bool b]) (.agg #[.int .u8 c,.bool d])).run Tryz.prog w=.ok (.bool (!(a==c&&b==d))) w:=by
 rw [run_neq_struct,Tryz.eqCol];rfl
set_option maxHeartbeats 1000000 in
theorem same_cols {w:World}{va vb:Value}{a b:List (Int×Bool)}(ha:ColsIn w va a)(hb:ColsIn w vb b)(hla:a.length≤1000000)(hlb:b.length≤1000000) :
  GivesAt Tryz.prog 29 #[va,vb] w (.bool (decide (a=b))):=by
 have hg:=(start w).1
 obtain ⟨A,ca,rfl,hata⟩:=cols_at ha
 obtain ⟨B,cb,rfl,hatb⟩:=cols_at hb
 have HA:=Lib.hid hata
 have HB:=Lib.hid hatb
 clear ha hb hata hatb
 unfold GivesAt
 by_cases hl:a.length=b.length
 ·have d1:((a.length:Int)==(b.length:Int))=true:=by rw [beq_iff_eq];omega
  have hle:b.length=a.length:=hl.symm
  have HL:=Lib.hid hl
  clear hl
  go_enter Tryz.func29,Tryz.ntmps29
  rw [hle] at d1 ⊢
  clear hle
  go_wp2
  go_loopw [5] (fun i wr=>∃ k:Nat,k≤a.length∧i=.int .i64 k∧Hid (a.take k=b.take k)∧Below w.heap.size w wr) (fun i _=>a.length-(intOf i).toNat)
  case atStart=>exact ⟨0,by omega,rfl,show a.take 0=b.take 0 from rfl,hg⟩
  case round =>
   clear hg
   obtain ⟨k,hk,rfl,HE,hg⟩:=hrel
   by_cases hlt:k < a.length
   ·obtain ⟨b1,o1,rfl,hl1,hc1⟩:=HA.out k hlt
    obtain ⟨b2,o2,rfl,hl2,hc2⟩:=HB.out k (by have:=HL.out;omega)
    have x1:=(hg.cell (p:=⟨b1,o1+k*2,none⟩) hl1).trans (hc1 k hlt).1
    have x2:=(hg.cell (p:=⟨b1,o1+k*2+1,none⟩) hl1).trans (hc1 k hlt).2
    have y1:=(hg.cell (p:=⟨b2,o2+k*2,none⟩) hl2).trans (hc2 k (by have:=HL.out;omega)).1
    have y2:=(hg.cell (p:=⟨b2,o2+k*2+1,none⟩) hl2).trans (hc2 k (by have:=HL.out;omega)).2
    have hT1:=take_add a k hlt
    have hT2:=take_add b k (by have:=HL.out;omega)
    have hne:a[k]≠b[k]'(by have:=HL.out;omega)→¬a=b:=by intro h e;subst e;exact h rfl
    have i0:(0:Int)≤(k:Int):=by omega
    have i1:(k:Int) < (a.length:Int):=by omega
    clear hc1 hc2
    generalize a[k]=x at *
    generalize b[k]'(by have:=HL.out;omega)=y at *
    obtain ⟨xk,xn⟩:=x
    obtain ⟨yk,yn⟩:=y
    dsimp only at *
    have hq:=fun W=>Tryz.neqCol xk yk xn yn W
    by_cases he:xk=yk∧xn=yn
    ·have HN:Hid (a.take (k+1)=b.take (k+1)):=by show _=_;rw [hT1,hT2,HE.out,he.1,he.2]
     rw [show (!(xk==yk&&xn==yn))=false by rw [he.1,he.2];simp] at hq
     clear hT1 hT2 hne he
     go_wp2
     go_quiet (fail)
     go_wp2
     go_roundw
     case rel=>exact ⟨k+1,by omega,by go_num,HN,below_drewN hg _⟩
     case measure=>simp [intOf];omega
    ·have HD:=Lib.hid (show decide (a=b)=false by rw [decide_eq_false_iff_not];exact hne (fun e=>he ⟨congrArg Prod.fst e,congrArg Prod.snd e⟩))
     rw [show (!(xk==yk&&xn==yn))=true by
      cases hz:(xk==yk&&xn==yn) with
      | false=>rfl
      | true=>rw [Bool.and_eq_true,beq_iff_eq,beq_iff_eq] at hz;exact absurd hz he] at hq
     clear hT1 hT2 hne he
     go_wp2
     go_quiet (fail)
     go_wp2
     go_ret
     exact ⟨ret_bool HD.out.symm,below_drewN hg _⟩
   ·obtain rfl:k=a.length:=by omega
    have HD:Hid (decide (a=b)=true):=by
     show _=_
     rw [decide_eq_true_eq]
     have:=HE.out
     rwa [List.take_length,List.take_of_length_le (by have:=HL.out;omega)] at this
    go_wp2
    go_ret
    exact ⟨ret_bool HD.out.symm,hg⟩
 ·have d1:((a.length:Int)==(b.length:Int))=false:=by rw [beq_eq_false_iff_ne];omega
  have HD:=Lib.hid (show decide (a=b)=false by rw [decide_eq_false_iff_not];intro e;exact hl (by rw [e]))
  go_enter Tryz.func29,Tryz.ntmps29
  go_wp2
  go_ret
  exact ⟨ret_bool HD.out.symm,hg⟩
def smallT14 (t:Tm):Bool:=decide (t.1.length≤10)&&t.1.all fun c=>decide (c.size≤100)
def smallL14 (l:List Tm)(most:Nat):Bool:=l.all smallT14&&decide (l.length≤most)
theorem small14_no {l:List Tm}{most:Nat}{t:Tm}(ht:t∈l)(h:smallT14 t=false):smallL14 l most=false:=by
 unfold smallL14
 rw [Bool.and_eq_false_iff]
 left
 rw [List.all_eq_false]
 exact ⟨t,ht,by rw [h];decide⟩
theorem small14_yes {l:List Tm}{most:Nat}(h:smallL14 l most=true):(∀ t∈l,t.1.length≤10∧∀ c∈t.1,c.size≤100)∧l.length≤most:=by
 unfold smallL14 at h
 rw [Bool.and_eq_true,decide_eq_true_eq,List.all_eq_true] at h
 refine ⟨fun t ht=>?_,h.2⟩
 have:=h.1 t ht
 unfold smallT14 at this
 rw [Bool.and_eq_true,decide_eq_true_eq,List.all_eq_true] at this
 exact ⟨this.1,fun c hc=>of_decide_eq_true (this.2 c hc)⟩
set_option maxHeartbeats 1000000 in
theorem small14_calls {w:World}{v:Value}{l:List Tm}(most:Nat)(h:TimesIn w v l):Reads Tryz.prog 12 #[v,.int .i64 most] w (.bool (smallL14 l most)):=by
 have hm:=h.len
 unfold maxLen at hm
 obtain ⟨tv,A,cap,rfl,_,hat⟩:=times_at h
 have HAT:=Lib.hid hat
 clear h hat
 unfold Reads
 go_enter Tryz.func12,Tryz.ntmps12
 go_wp2
 go_loop [5] (fun i=>∃ k:Nat,k≤l.length∧i=.int .i64 k∧Hid (∀ t∈l.take k,smallT14 t=true)) (fun i=>l.length-(intOf i).toNat)
 case atStart=>exact ⟨0,Nat.zero_le _,rfl,fun c hc=>absurd hc (by simp)⟩
 case round =>
  obtain ⟨k,hk,rfl,HS⟩:=hrel
  by_cases hlt:k < l.length
  ·obtain ⟨b,off,rfl,hbl,hc⟩:=HAT.out k hlt
   obtain ⟨rv,hs,htv,c1,c2⟩:=hc k hlt
   have HT:=Lib.hid (take_add l k hlt)
   have HM:=Lib.hid (List.getElem_mem hlt)
   clear hc htv
   generalize l[k]=t at *
   obtain ⟨row,n⟩:=t
   dsimp only at *
   have hrl:=hs.len
   unfold maxLen at hrl
   obtain ⟨Ar,pr,rfl,hrat⟩:=one_at hs
   have HRAT:=Lib.hid hrat
   clear hs hrat
   by_cases g1:row.length≤10
   ·have d1:decide (10 < (row.length:Int))=false:=by rw [decide_eq_false_iff_not];omega
    go_wp2
    go_loop [6] (fun i=>∃ q:Nat,q≤row.length∧i=.int .i64 q∧Hid (∀ c∈row.take q,c.size≤100)) (fun i=>row.length-(intOf i).toNat)
    case atStart=>exact ⟨0,Nat.zero_le _,rfl,fun c hc=>absurd hc (by simp)⟩
    case round =>
     obtain ⟨q,hq,rfl,HQ⟩:=hrel
     by_cases hql:q < row.length
     ·obtain ⟨b2,off2,rfl,_,hcr⟩:=HRAT.out q hql
      have hx:=hcr q hql
      have HTQ:=Lib.hid (take_add row q hql)
      have HMQ:=Lib.hid (List.getElem_mem hql)
      clear hcr
      generalize row[q]=c at *
      by_cases hz:c.size≤100
      ·have d4:decide (100 < (c.size:Int))=false:=by rw [decide_eq_false_iff_not];omega
       go_wp2
       go_round
       case rel=>exact ⟨q+1,by omega,by go_num,fun d hd=>by
        rw [HTQ.out] at hd
        rcases List.mem_append.1 hd with hd|hd
        ·exact HQ.out d hd
        ·rw [List.mem_singleton.1 hd];exact hz⟩
       case measure=>simp [intOf];omega
      ·have d4:decide (100 < (c.size:Int))=true:=by rw [decide_eq_true_eq];omega
       have HD:Hid (smallL14 l most=false):=small14_no HM.out (by
        unfold smallT14
        rw [Bool.and_eq_false_iff]
        right
        rw [List.all_eq_false]
        exact ⟨c,HMQ.out,by rw [decide_eq_true_eq];exact hz⟩)
       go_wp2
       go_ret
       exact ⟨ret_bool HD.out.symm,rfl⟩
     ·obtain rfl:q=row.length:=by omega
      rw [List.take_length] at HQ
      have HI:Hid (smallT14 (row,n)=true):=by
       show _=_
       unfold smallT14
       rw [Bool.and_eq_true,decide_eq_true_eq,List.all_eq_true]
       exact ⟨g1,fun c hc=>decide_eq_true (HQ.out c hc)⟩
      go_wp2
      go_round
      case rel=>exact ⟨k+1,by omega,by go_num,fun d hd=>by
       rw [HT.out] at hd
       rcases List.mem_append.1 hd with hd|hd
       ·exact HS.out d hd
       ·rw [List.mem_singleton.1 hd];exact HI.out⟩
      case measure=>simp [intOf];omega
   ·have d1:decide (10 < (row.length:Int))=true:=by rw [decide_eq_true_eq];omega
    have HD:Hid (smallL14 l most=false):=small14_no HM.out (by unfold smallT14;rw [decide_eq_false g1,Bool.false_and])
    go_wp2
    go_ret
    exact ⟨ret_bool HD.out.symm,rfl⟩
  ·obtain rfl:k=l.length:=by omega
   rw [List.take_length] at HS
   have HD:Hid (decide (l.length≤most)=smallL14 l most):=by
    show _=_
    unfold smallL14
    rw [List.all_eq_true.2 HS.out,Bool.true_and]
   go_wp2
   go_ret
   exact ⟨ret_bool HD.out,rfl⟩
theorem blksL_cols {P:List (List Tm)}{K:Nat}(hK:K≤1000000):∀ b∈blksL P K,b.2.1.length≤1000000:=fun b hb=>by
 obtain ⟨p,_,rfl⟩:=List.mem_map.1 hb
 show (colsT p K).length≤1000000
 rw [colsT_length];exact hK
set_option maxHeartbeats 1000000 in
set_option maxRecDepth 100000 in
theorem same14_calls {w:World}{va vb:Value}{t:Tbl}(ha:TblIn w va t)(hb':TblIn w vb t)(hg:GoodT t):GivesAt Tryz.prog 11 #[va,vb] w (.bool true):=by
 obtain ⟨cv,bv,tv,rfl,hT⟩:=ha
 obtain ⟨cu,bu,tu,rfl,hU⟩:=hb'
 obtain ⟨⟨Ac,pc,rfl⟩,⟨Ab,pb,rfl⟩,⟨At,pt,rfl⟩⟩:=hT.slices
 obtain ⟨⟨Bc,qc,rfl⟩,⟨Bb,qb,rfl⟩,⟨Bt,qt,rfl⟩⟩:=hU.slices
 have hq0:Below w.heap.size w (w.alloc (.cells #[.string t.name,.slice Ac t.cols.length pc,.slice Ab (cutL t.R).length pb,.slice At t.T.length pt] 28)):=Below.alloc (.refl _ _) (Nat.le_refl _) _
 have hqz:Below (w.alloc (.cells #[.string t.name,.slice Ac t.cols.length pc,.slice Ab (cutL t.R).length pb,.slice At t.T.length pt] 28)).heap.size (w.alloc (.cells #[.string t.name,.slice Ac t.cols.length pc,.slice Ab (cutL t.R).length pb,.slice At t.T.length pt] 28)) ((w.alloc (.cells #[.string t.name,.slice Ac t.cols.length pc,.slice Ab (cutL t.R).length pb,.slice At t.T.length pt] 28)).alloc (.cells #[.string t.name,.slice Bc t.cols.length qc,.slice Bb (cutL t.R).length qb,.slice Bt t.T.length qt] 28)):=Below.alloc (.refl _ _) (Nat.le_refl _) _
 have hx:=(tbox_lit w 28 t.name (.slice Ac t.cols.length pc) (.slice Ab (cutL t.R).length pb) (.slice At t.T.length pt)).later hqz
 have hz:=tbox_lit (w.alloc (.cells #[.string t.name,.slice Ac t.cols.length pc,.slice Ab (cutL t.R).length pb,.slice At t.T.length pt] 28)) 28 t.name (.slice Bc t.cols.length qc) (.slice Bb (cutL t.R).length qb) (.slice Bt t.T.length qt)
 have hsz:(w.alloc (.cells #[.string t.name,.slice Ac t.cols.length pc,.slice Ab (cutL t.R).length pb,.slice At t.T.length pt] 28)).heap.size=w.heap.size+1:=by simp
 rw [hsz] at hz
 have hb:=hq0.trans (hqz.mono hq0.size)
 have HT:=Lib.hid (hT.kept hb)
 have HU:=Lib.hid (hU.kept hb)
 have hkb:(cutL t.R).length≤1000000:=by have:=hg.few_cut;omega
 have hkt:t.T.length≤1000000:=by have:=hg.tlen;omega
 have hkc:t.cols.length≤1000000:=by have:=hg.cols;omega
 have HSC:Hid (∀ W,Below ((w.alloc (.cells #[.string t.name,.slice Ac t.cols.length pc,.slice Ab (cutL t.R).length pb,.slice At t.T.length pt] 28)).alloc (.cells #[.string t.name,.slice Bc t.cols.length qc,.slice Bb (cutL t.R).length qb,.slice Bt t.T.length qt] 28)).heap.size ((w.alloc (.cells #[.string t.name,.slice Ac t.cols.length pc,.slice Ab (cutL t.R).length pb,.slice At t.T.length pt] 28)).alloc (.cells #[.string t.name,.slice Bc t.cols.length qc,.slice Bb (cutL t.R).length qb,.slice Bt t.T.length qt] 28)) W→GivesAt Tryz.prog 29 #[.slice Ac t.cols.length pc,.slice Bc t.cols.length qc] W (.bool true)):=fun W hW=>by
  have:=same_cols (HT.out.cols.kept hW) (HU.out.cols.kept hW) hkc hkc
  rwa [decide_eq_true rfl] at this
 have HSB:Hid (∀ W,Below ((w.alloc (.cells #[.string t.name,.slice Ac t.cols.length pc,.slice Ab (cutL t.R).length pb,.slice At t.T.length pt] 28)).alloc (.cells #[.string t.name,.slice Bc t.cols.length qc,.slice Bb (cutL t.R).length qb,.slice Bt t.T.length qt] 28)).heap.size ((w.alloc (.cells #[.string t.name,.slice Ac t.cols.length pc,.slice Ab (cutL t.R).length pb,.slice At t.T.length pt] 28)).alloc (.cells #[.string t.name,.slice Bc t.cols.length qc,.slice Bb (cutL t.R).length qb,.slice Bt t.T.length qt] 28)) W→GivesAt Tryz.prog 26 #[.slice Ab (cutL t.R).length pb,.slice Bb (cutL t.R).length qb] W (.bool true)):=fun W hW=>by
  have:=same_blks (HT.out.blks.kept hW) (HU.out.blks.kept hW) (by rw [blksL_length];exact hkb) (blksL_cols hkc) (blksL_cols hkc)
  rwa [decide_eq_true rfl] at this
 have HST:Hid (∀ W,Below ((w.alloc (.cells #[.string t.name,.slice Ac t.cols.length pc,.slice Ab (cutL t.R).length pb,.slice At t.T.length pt] 28)).alloc (.cells #[.string t.name,.slice Bc t.cols.length qc,.slice Bb (cutL t.R).length qb,.slice Bt t.T.length qt] 28)).heap.size ((w.alloc (.cells #[.string t.name,.slice Ac t.cols.length pc,.slice Ab (cutL t.R).length pb,.slice At t.T.length pt] 28)).alloc (.cells #[.string t.name,.slice Bc t.cols.length qc,.slice Bb (cutL t.R).length qb,.slice Bt t.T.length qt] 28)) W→GivesAt Tryz.prog 21 #[.slice At t.T.length pt,.slice Bt t.T.length qt] W (.bool true)):=fun W hW=>by
  have:=same_times (HT.out.tail.kept hW) (HU.out.tail.kept hW) hkt (short_fits hg.tfits hg.cols) (short_fits hg.tfits hg.cols)
  rwa [decide_eq_true rfl] at this
 have hnm:(t.name.toList==t.name.toList)=true:=beq_self_eq_true _
 clear hT hU hq0 hqz hsz HT HU hg hkb hkt hkc
 unfold GivesAt
 go_enter Tryz.func11,Tryz.ntmps11
 obtain ⟨x0,x1,x2,x3,_⟩:=hx.cells
 obtain ⟨y0,y1,y2,y3,_⟩:=hz.cells
 generalize t.cols.length=kc at *
 generalize (cutL t.R).length=kb at *
 generalize t.T.length=kt at *
 go_wp2_with fail
 generalize (w.alloc (.cells #[.string t.name,.slice Ac kc pc,.slice Ab kb pb,.slice At kt pt] 28)).alloc (.cells #[.string t.name,.slice Bc kc qc,.slice Bb kb qb,.slice Bt kt qt] 28)=w1 at *
 refine (HSC.out w1 (.refl _ _)).stepB (w0:=w) (B:=w.heap.size) hb hb.size ?_
 clear x0 x1 x2 x3 y0 y1 y2 y3
 intro w2 hb2 _ hq2
 obtain ⟨x0,x1,x2,x3,_⟩:=(hx.later hq2).cells
 obtain ⟨y0,y1,y2,y3,_⟩:=(hz.later hq2).cells
 go_wp2_with fail
 refine (HSB.out w2 hq2).stepB (w0:=w) (B:=w.heap.size) hb2 hb2.size ?_
 clear x0 x1 x2 x3 y0 y1 y2 y3
 intro w3 hb3 _ hq3
 have hq13:=hq2.trans (hq3.mono hq2.size)
 obtain ⟨x0,x1,x2,x3,_⟩:=(hx.later hq13).cells
 obtain ⟨y0,y1,y2,y3,_⟩:=(hz.later hq13).cells
 go_wp2_with fail
 refine (HST.out w3 hq13).stepB (w0:=w) (B:=w.heap.size) hb3 hb3.size ?_
 clear x0 x1 x2 x3 y0 y1 y2 y3
 intro w4 hb4 _ hq4
 clear hq2 hq3 hq13 hq4
 go_wp2
 go_ret
 exact ⟨rfl,hb4⟩
end Go.Proofs.YtafmbnafibahkaaGreat
