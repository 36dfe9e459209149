/- The law FoldRolls of layer 20. -/
import Derived.Test.YtopeeokjfaampaaGWeighRef
import Derived.Test.YtopeeokjfaampaaGZFoldAwake
namespace Go.Proofs.Ytopeeokjfaampaa
open Go Go.RowKit
theorem same20 {w:World}{va vb:Value}{a:List Tm}(ha:TimesIn w va a)(hb:TimesIn w vb a)(hl:a.length≤1000000)(hr:∀ t∈a,t.1.length≤1000000):GivesAt Try.prog 10 #[va,vb] w (.bool true):=by
 have h:=same_times ha hb hl hr hr
 rw [decide_eq_true rfl] at h
 exact h
theorem rnum_calls (s:ByteArray):Gives Try.prog 8 #[.string s] (.tuple #[.int .i64 (numC s),.bool (isInt s)]):=by
 unfold numC
 cases h:isInt s with
 | true=>exact ref_num_yes s h
 | false=>exact ref_num_no s h
def Row20 (c:Nat)(x:Tm):Prop:=x.1.length=4∧1≤x.2∧x.2≤1000∧-1099511627776≤numC (cellD x.1 (c:Int))∧numC (cellD x.1 (c:Int))≤1099511627776
set_option maxHeartbeats 8000000 in
set_option maxRecDepth 100000 in
theorem foldRolls_calls {w:World}{v:Value}{l:List Tm}(col by_:Nat)(hcol:col < 256)(hby:by_ < 256)(h:TimesIn w v l):GivesAt Try.prog 3 #[v,.int .u8 col,.int .u8 by_] w (.bool true):=by
 have HAW:=Lib.hid awake20_calls
 have HS:=Lib.hid (small20_calls h)
 have HT:=Lib.hid h
 obtain ⟨tv,A,cap,rfl,_,hat⟩:=times_at h
 have HAT:=Lib.hid hat
 have HLEN:=Lib.hid h.len
 obtain ⟨hb,hB⟩:=start w
 clear h hat
 unfold GivesAt
 cases hs:small20 l with
 | false =>
  rw [hs] at HS
  clear hs
  go_enter Try.func3,Try.ntmps3
  go_wp2_with (first|(go_at_call 6;refine HS.out.step ?_)|(go_at_call 7;refine HAW.out.step (w0:=w) (B:=w.heap.size) hb hB ?_;clear hb hB;intro w1 hb hB))
  go_ret
  exact ⟨rfl,hb⟩
 | true =>
  have HIN:=Lib.hid (small20_in hs)
  have HN1:=Lib.hid (small20_n hs)
  have HL50:Hid (l.length≤50):=(small20_of hs).1
  rw [hs] at HS
  clear hs
  obtain ⟨c,hc⟩:∃ c:Nat,c=col % 4:=⟨_,rfl⟩
  obtain ⟨b,hb4⟩:∃ b:Nat,b=by_ % 4:=⟨_,rfl⟩
  have hc4:c < 4:=by omega
  have HB4:Hid (b < 4):=by show _ < _;omega
  have q1:(col:Int) % 4=(c:Int):=by omega
  have q2:(by_:Int) % 4=(b:Int):=by omega
  clear hc hb4
  go_enter Try.func3,Try.ntmps3
  go_wp2_with (go_at_call 6;refine HS.out.step ?_)
  clear HS q1 q2
  go_loopw [9] (fun i wr=>∃ k:Nat,k≤l.length∧i=.int .i64 k∧Hid (∀ x∈l.take k,Row20 c x)∧Below w.heap.size w wr) (fun i _=>l.length-(intOf i).toNat)
  case atStart=>exact ⟨0,Nat.zero_le _,rfl,fun x hx=>absurd hx (by simp),hb⟩
  case round =>
   clear hb hB
   obtain ⟨k,hk,rfl,HR,hb⟩:=hrel
   have HBW:=Lib.hid hb
   by_cases hlt:k < l.length
   ·obtain ⟨bk,off,rfl,hbl,hck⟩:=HAT.out k hlt
    obtain ⟨rv,hs,_,c1,c2⟩:=hck k hlt
    have hml:=HLEN.out
    unfold maxLen at hml
    have HLK:Hid (k < l.length):=hlt
    have i1:(k:Int) < (l.length:Int):=by omega
    have HN:Hid (Row20 c l[k]→Hid (∀ x∈l.take (k+1),Row20 c x)):=fun hr=>Lib.hid fun x hx=>by
     rw [take_add l k hlt] at hx
     rcases List.mem_append.1 hx with hx|hx
     ·exact HR.out x hx
     ·rw [List.mem_singleton.1 hx];exact hr
    have HNN:=Lib.hid (HN1.out l[k] (List.getElem_mem hlt))
    obtain ⟨Ar,pr,rfl,hr⟩:=one_at hs
    have x0:=(hb.cell (p:=⟨bk,off+k*2,none⟩) hbl).trans c1
    have x9:=(hb.cell (p:=⟨bk,off+k*2+1,none⟩) hbl).trans c2
    have HC1:=Lib.hid c1
    have HC2:=Lib.hid c2
    have HRR:=Lib.hid hr
    have HBL:=Lib.hid hbl
    clear hck hs hr c1 c2 hbl
    generalize l[k]=x at *
    obtain ⟨row,n⟩:=x
    dsimp only at *
    clear hlt hk
    by_cases hrl:row.length=4
    ·have HRL:=Lib.hid hrl
     obtain ⟨b2,off2,rfl,hbl2,hcr⟩:=HRR.out c (by omega)
     have hcc:=hcr c (by omega)
     have y0:=(hb.cell (p:=⟨b2,off2+c,none⟩) hbl2).trans hcc
     have HCE:=Lib.hid (cellD_in (row:=row) (j:=c) (by omega))
     have i2:(c:Int) < (4:Int):=by omega
     have i0:(0:Int)≤(c:Int):=by omega
     have HOLD:Hid (∀ W,Below w.heap.size w W→W.cell? ⟨bk,off+k*2,none⟩=some (.slice (some ⟨b2,off2,none⟩) 4 pr)∧W.cell? ⟨b2,off2+c,none⟩=some (.string row[c])∧W.cell? ⟨bk,off+k*2+1,none⟩=some (.int .i64 n)):=fun W hW =>
      ⟨(hW.cell (p:=⟨bk,off+k*2,none⟩) HBL.out).trans (by rw [HC1.out,hrl]),(hW.cell (p:=⟨b2,off2+c,none⟩) hbl2).trans hcc,(hW.cell (p:=⟨bk,off+k*2+1,none⟩) HBL.out).trans HC2.out⟩
     rw [hrl] at x0
     have HNUM:=Lib.hid (rnum_calls row[c] wr)
     have HLR:Hid (∀ q,row.length=q→True):=fun _ _=>trivial
     clear hcr hcc hbl2 HC1 HC2 HRR HBL HLR hb
     generalize row[c]=s at *
     clear hrl
     by_cases hse:s=⟨#[]⟩
     ·subst hse
      have HNZ:Hid (numC ⟨#[]⟩=0):=numC_e
      rw [show isInt ⟨#[]⟩=false by decide +kernel,HNZ.out] at HNUM
      go_wp2_with fail
      refine Calls.mono HNUM.out ?_
      rintro e w3 ⟨rfl,hq⟩
      have hb3:=HBW.out.trans (hq.mono HBW.out.size)
      have HB3:=Lib.hid hb3
      have HY:=Lib.hid (HOLD.out w3 hb3)
      obtain ⟨x1,y1,z1⟩:=HY.out
      clear hb3 hq HNUM
      by_cases hn:n≤1000
      ·have d9:decide (1000 < n)=false:=by rw [decide_eq_false_iff_not];omega
       have hrow:Row20 c (row,n):=⟨HRL.out,HNN.out.1,hn,by show -1099511627776≤numC (cellD row c)∧numC (cellD row c)≤1099511627776;rw [HCE.out,HNZ.out];omega⟩
       clear HNN
       go_wp2
       go_roundw
       case rel=>exact ⟨k+1,HLK.out,by go_num,HN.out hrow,HB3.out⟩
       case measure=>have:=HLK.out;simp [intOf];omega
      ·have d9:decide (1000 < n)=true:=by rw [decide_eq_true_eq];omega
       go_wp2_with fail
       refine HAW.out.step (w0:=w) (B:=w.heap.size) HB3.out HB3.out.size ?_
       intro w9 hb9 hB9
       go_wp2
       go_ret
       exact ⟨rfl,hb9⟩
     ·have e0:=text_some hse
      cases hi:isInt s with
      | false =>
       rw [hi] at HNUM
       go_wp2_with fail
       refine Calls.mono HNUM.out ?_
       rintro e w3 ⟨rfl,hq⟩
       have hb3:=HBW.out.trans (hq.mono HBW.out.size)
       have HB3:=Lib.hid hb3
       have HY:=Lib.hid (HOLD.out w3 hb3)
       obtain ⟨x1,y1,z1⟩:=HY.out
       clear hb3 hq HNUM
       go_wp2_with fail
       refine HAW.out.step (w0:=w) (B:=w.heap.size) HB3.out HB3.out.size ?_
       intro w9 hb9 hB9
       go_wp2
       go_ret
       exact ⟨rfl,hb9⟩
      | true =>
       rw [hi] at HNUM
       have HND:Hid (numC (cellD row c)=numC s):=by rw [HCE.out];exact Lib.hid rfl
       generalize numC s=nd at *
       go_wp2_with fail
       refine Calls.mono HNUM.out ?_
       rintro e w3 ⟨rfl,hq⟩
       have hb3:=HBW.out.trans (hq.mono HBW.out.size)
       have HB3:=Lib.hid hb3
       have HY:=Lib.hid (HOLD.out w3 hb3)
       obtain ⟨x1,y1,z1⟩:=HY.out
       clear hb3 hq HNUM
       by_cases h1:nd≤1099511627776
       ·have d1:decide (1099511627776 < nd)=false:=by rw [decide_eq_false_iff_not];omega
        by_cases h2 : -1099511627776≤nd
        ·have d2:decide (nd < -1099511627776)=false:=by rw [decide_eq_false_iff_not];omega
         by_cases hn:n≤1000
         ·have d9:decide (1000 < n)=false:=by rw [decide_eq_false_iff_not];omega
          have hrow:Row20 c (row,n):=⟨HRL.out,HNN.out.1,hn,by show -1099511627776≤numC (cellD row c)∧numC (cellD row c)≤1099511627776;rw [HND.out];omega⟩
          clear HNN
          go_wp2
          go_roundw
          case rel=>exact ⟨k+1,HLK.out,by go_num,HN.out hrow,HB3.out⟩
          case measure=>have:=HLK.out;simp [intOf];omega
         ·have d9:decide (1000 < n)=true:=by rw [decide_eq_true_eq];omega
          go_wp2_with fail
          refine HAW.out.step (w0:=w) (B:=w.heap.size) HB3.out HB3.out.size ?_
          intro w9 hb9 hB9
          go_wp2
          go_ret
          exact ⟨rfl,hb9⟩
        ·have d2:decide (nd < -1099511627776)=true:=by rw [decide_eq_true_eq];omega
         go_wp2_with fail
         refine HAW.out.step (w0:=w) (B:=w.heap.size) HB3.out HB3.out.size ?_
         intro w9 hb9 hB9
         go_wp2
         go_ret
         exact ⟨rfl,hb9⟩
       ·have d1:decide (1099511627776 < nd)=true:=by rw [decide_eq_true_eq];omega
        go_wp2_with fail
        refine HAW.out.step (w0:=w) (B:=w.heap.size) HB3.out HB3.out.size ?_
        intro w9 hb9 hB9
        go_wp2
        go_ret
        exact ⟨rfl,hb9⟩
    ·have d0:((row.length:Int)==4)=false:=by simp;omega
     have d1:((row.length:Int) != 4)=true:=by simp;omega
     have HB3:=HBW
     clear HRR HC1 HC2 HBL hrl
     go_wp2_with fail
     refine HAW.out.step (w0:=w) (B:=w.heap.size) HB3.out HB3.out.size ?_
     intro w9 hb9 hB9
     go_wp2
     go_ret
     exact ⟨rfl,hb9⟩
   ·obtain rfl:k=l.length:=by omega
    rw [List.take_length] at HR
    have HF:Few20 (c:Int) l:=fun x hx=>⟨(HR.out x hx).2.1,(HR.out x hx).2.2.1,(HR.out x hx).2.2.2.1,(HR.out x hx).2.2.2.2⟩
    have hl50:=HL50.out
    obtain ⟨g,wh,hg1,hg2,hg3,hgl,hgx,hwl,hwx⟩:=rolls (b:=(b:Int)) (c:=(c:Int)) (fun x hx=>(HR.out x hx).1) (by omega) (by have:=HB4.out;omega) HF (by omega)
    have HG1:=Lib.hid hg1
    have HG2:=Lib.hid hg2
    have HG3:=Lib.hid hg3
    have HLL:Hid (l.length≤1000000):=by show _≤_;omega
    have HLG:Hid (g.length≤1000000):=by show _≤_;omega
    have HLW:Hid (wh.length≤1000000):=by show _≤_;omega
    have HIG:Hid (∀ x∈g,-9223372036854775808≤x.2∧x.2≤9223372036854775807):=fun x hx=>by have:=(hgx x hx).1;omega
    have HRW:Hid (∀ x∈wh,x.1.length≤1000000):=fun x hx=>by have:=hwx x hx;omega
    have i1:¬(l.length:Int) < (l.length:Int):=by omega
    clear HF hl50 hg1 hg2 hg3 hgl hgx hwl hwx HR HN1 HL50
    have HL:=Lib.hid (HT.out.kept hb)
    go_wp2_with fail
    have HZ:Hid (wr.heap.size=wr.heap.size):=Lib.hid rfl
    have hq:Below wr.heap.size wr (wr.alloc (.cells #[.int .i64 1,.int .i64 0,.int .i64 2,.int .i64 (c:Int),.int .i64 3,.int .i64 (c:Int),.int .i64 4,.int .i64 (c:Int)] 31)):=Below.alloc (.refl _ _) (Nat.le_refl _) _
    have h:=lit_on wr 31 (cAgg (c:Int)) (by show 4≤1000;decide)
    rw [HZ.out] at h
    have HO:Hid (OnIn (wr.alloc (.cells #[.int .i64 1,.int .i64 0,.int .i64 2,.int .i64 (c:Int),.int .i64 3,.int .i64 (c:Int),.int .i64 4,.int .i64 (c:Int)] 31)) (.slice (some ⟨wr.heap.size,0,none⟩) 4 4) (cAgg (c:Int))):=h
    replace HZ:Hid ((wr.alloc (.cells #[.int .i64 1,.int .i64 0,.int .i64 2,.int .i64 (c:Int),.int .i64 3,.int .i64 (c:Int),.int .i64 4,.int .i64 (c:Int)] 31)).heap.size=wr.heap.size+1):=by show _=_;rw [←HZ.out];simp
    clear h
    replace HL:=Lib.hid (HL.out.kept hq)
    replace hb:=hb.trans (hq.mono hb.size)
    clear hq
    generalize World.alloc wr _=w1 at *
    have hq:Below w1.heap.size w1 (w1.alloc (.cells #[.int .i64 (b:Int)] 3)):=Below.alloc (.refl _ _) (Nat.le_refl _) _
    have h:=lit_ones (Value.int .i64) w1 3 [(b:Int)] (by show 1≤1000;decide)
    rw [HZ.out] at h
    have HI:Hid (IntsIn (w1.alloc (.cells #[.int .i64 (b:Int)] 3)) (.slice (some ⟨wr.heap.size+1,0,none⟩) 1 1) [(b:Int)]):=h
    replace HZ:Hid ((w1.alloc (.cells #[.int .i64 (b:Int)] 3)).heap.size=wr.heap.size+1+1):=by show _=_;rw [←HZ.out];simp
    clear h
    replace HL:=Lib.hid (HL.out.kept hq)
    replace HO:=Lib.hid (HO.out.kept hq)
    replace hb:=hb.trans (hq.mono hb.size)
    clear hq
    generalize World.alloc w1 _=w2 at *
    clear HZ
    have hg:=fgroups_calls HL.out HI.out HO.out HIN.out HLL.out (by show 1≤1000000;decide) (by show 4≤1000000;decide)
    rw [HG1.out] at hg
    refine hg.mono ?_
    clear hg
    rintro e w3 ⟨vg,rfl,hT,hq⟩
    have Hg:Hid (TimesIn w3 vg g):=hT.times
    clear hT
    replace HL:=Lib.hid (HL.out.kept hq)
    replace HO:=Lib.hid (HO.out.kept hq)
    replace HI:=Lib.hid (IntsIn.kept HI.out hq)
    replace hb:=hb.trans (hq.mono hb.size)
    clear hq
    clear HI
    obtain ⟨Ag,cg,rfl⟩:=times_slice Hg.out
    go_wp2_with fail
    have hg:=fgroups_calls HL.out (show IntsIn w3 (.slice none 0 0) [] from SliceOf.nil_ w3 1 none 0) HO.out HIN.out HLL.out (by decide) (by show 4≤1000000;decide)
    rw [HG2.out] at hg
    refine hg.mono ?_
    clear hg
    rintro e w4 ⟨vx,rfl,hT,hq⟩
    have Hx:Hid (TimesIn w4 vx wh):=hT.times
    clear hT
    replace HL:=Lib.hid (HL.out.kept hq)
    replace HO:=Lib.hid (HO.out.kept hq)
    replace Hg:=Lib.hid (Hg.out.kept hq)
    replace hb:=hb.trans (hq.mono hb.size)
    clear hq
    clear HO HL
    obtain ⟨Ax,cx,rfl⟩:=times_slice Hx.out
    go_wp2_with fail
    have HZ:Hid (w4.heap.size=w4.heap.size):=Lib.hid rfl
    have hq:Below w4.heap.size w4 (w4.alloc (.cells #[.int .i64 2,.int .i64 1,.int .i64 2,.int .i64 2,.int .i64 3,.int .i64 3,.int .i64 4,.int .i64 4] 31)):=Below.alloc (.refl _ _) (Nat.le_refl _) _
    have h:=lit_on w4 31 (aAgg) (by show 4≤1000;decide)
    rw [HZ.out] at h
    have HO:Hid (OnIn (w4.alloc (.cells #[.int .i64 2,.int .i64 1,.int .i64 2,.int .i64 2,.int .i64 3,.int .i64 3,.int .i64 4,.int .i64 4] 31)) (.slice (some ⟨w4.heap.size,0,none⟩) 4 4) (aAgg)):=h
    replace HZ:Hid ((w4.alloc (.cells #[.int .i64 2,.int .i64 1,.int .i64 2,.int .i64 2,.int .i64 3,.int .i64 3,.int .i64 4,.int .i64 4] 31)).heap.size=w4.heap.size+1):=by show _=_;rw [←HZ.out];simp
    clear h
    replace Hg:=Lib.hid (Hg.out.kept hq)
    replace Hx:=Lib.hid (Hx.out.kept hq)
    replace hb:=hb.trans (hq.mono hb.size)
    clear hq
    generalize World.alloc w4 _=w5 at *
    clear HZ
    have hg:=fgroups_calls Hg.out (show IntsIn w5 (.slice none 0 0) [] from SliceOf.nil_ w5 1 none 0) HO.out HIG.out HLG.out (by decide) (by show 4≤1000000;decide)
    rw [HG3.out] at hg
    refine hg.mono ?_
    clear hg
    rintro e w6 ⟨vy,rfl,hT,hq⟩
    have Hy:Hid (TimesIn w6 vy wh):=hT.times
    clear hT
    replace Hg:=Lib.hid (Hg.out.kept hq)
    replace Hx:=Lib.hid (Hx.out.kept hq)
    replace HO:=Lib.hid (HO.out.kept hq)
    replace hb:=hb.trans (hq.mono hb.size)
    clear hq
    clear HO Hg
    obtain ⟨Ay,cy,rfl⟩:=times_slice Hy.out
    go_wp2_with fail
    refine (HAW.out w6).mono ?_
    rintro e w30 ⟨rfl,hq⟩
    replace Hx:=Lib.hid (Hx.out.kept hq)
    replace Hy:=Lib.hid (Hy.out.kept hq)
    replace hb:=hb.trans (hq.mono hb.size)
    clear hq
    go_wp2_with fail
    refine (same20 Hx.out Hy.out HLW.out HRW.out).mono ?_
    rintro e w31 ⟨rfl,hq⟩
    replace Hx:=Lib.hid (Hx.out.kept hq)
    replace Hy:=Lib.hid (Hy.out.kept hq)
    replace hb:=hb.trans (hq.mono hb.size)
    clear hq
    go_wp2
    go_ret
    exact ⟨rfl,hb⟩
end Go.Proofs.Ytopeeokjfaampaa
