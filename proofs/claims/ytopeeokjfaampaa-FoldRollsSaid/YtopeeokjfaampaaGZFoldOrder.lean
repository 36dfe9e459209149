/- The law FoldOrder of layer 20. -/
import Derived.Test.YtopeeokjfaampaaGZFoldRolls
namespace Go.Proofs.Ytopeeokjfaampaa
open Go Go.RowKit
def splitsL (l:List Tm)(t k:Nat):List Tm:=((turnL l t).take k).flatMap splitT
theorem splits_zero (l:List Tm)(t:Nat):splitsL l t 0=[]:=rfl
theorem splits_all (l:List Tm)(t:Nat):splitsL l t l.length=(turnL l t).flatMap splitT:=by
 unfold splitsL
 rw [←turn_length l t,List.take_length]
theorem splits_next (l:List Tm)(t k:Nat)(h:k < l.length):splitsL l t (k+1)=splitsL l t k++splitT (l[(k+t) % l.length]'(Nat.mod_lt _ (by omega))):=by
 unfold splitsL
 have hk:k < (turnL l t).length:=by rw [turn_length];exact h
 have hg:=turn_get l t k h
 rw [List.getElem?_eq_getElem hk,List.getElem?_eq_getElem (Nat.mod_lt _ (by omega))] at hg
 rw [take_add _ k hk,List.flatMap_append,Option.some.inj hg]
 simp
theorem meas_next {n k:Nat}(h:k < n):n-(intOf (.int .i64 ((k:Int)+1))).toNat < n-(intOf (.int .i64 (k:Int))).toNat:=by
 simp [intOf];omega
theorem turn_at {k t n j:Nat}(h:(k+t) % n=j):((k:Int)+(t:Int)).tmod (n:Int)=(j:Int):=by
 rw [←Int.natCast_add,Int.tmod_eq_emod_of_nonneg (Int.natCast_nonneg _),←h]
 rfl
theorem splits_at (l:List Tm)(t k:Nat)(h:k < l.length)(j:Nat)(hj:(k+t) % l.length=j)(hjl:j < l.length):splitsL l t (k+1)=splitsL l t k++splitT l[j]:=by
 subst hj
 exact splits_next l t k h
theorem split_length (x:Tm):(splitT x).length≤2:=by
 unfold splitT
 split <;> simp
theorem splits_length (l:List Tm)(t:Nat):∀ k,k≤l.length→(splitsL l t k).length≤2*k
 | 0,_=>by rw [splits_zero];exact Nat.le_refl _
 | k+1,h=>by
  rw [splits_next l t k h,List.length_append]
  have:=splits_length l t k (by omega)
  have:=split_length (l[(k+t) % l.length]'(Nat.mod_lt _ (by omega)))
  omega
theorem split_in {l:List Tm}(h:∀ x∈l,1≤x.2∧x.2≤1099511627776)(t:Nat):∀ y∈(turnL l t).flatMap splitT,-9223372036854775808≤y.2∧y.2≤9223372036854775807:=fun y hy=>by
 obtain ⟨x,hx,hxy⟩:=List.mem_flatMap.1 hy
 have hb:=h x ((turn_perm l t).mem_iff.1 hx)
 unfold splitT at hxy
 split at hxy
 ·simp only [List.mem_cons,List.not_mem_nil,or_false] at hxy
  rcases hxy with rfl|rfl <;> dsimp only <;> omega
 ·rw [List.mem_singleton.1 hxy];omega
theorem keys_length (by_:List Int):∀ r:List Tm,(keysR by_ r).length≤r.length
 | []=>Nat.le_refl _
 | [x]=>Nat.le_refl _
 | x::y::t=>by
  have:=keys_length by_ (y::t)
  rw [keysR_two]
  split
  ·rw [List.length_cons (a:=x)];omega
  ·rw [List.length_cons,List.length_cons (a:=x)];omega
theorem groupsK_facts (by_:List Int)(gs:List (Int×Int))(l:List Tm):∀ (ks:List (List ByteArray))(g:List Tm),groupsK by_ gs l ks=some g→g.length=ks.length∧∀ x∈g,∃ k∈ks,x.1.length=k.length+gs.length
 | [],g,h=>by cases h;exact ⟨rfl,fun _ hx=>absurd hx (by simp)⟩
 | k::ks,g,h=>by
  unfold groupsK at h
  cases hv:valsP (ofKey by_ k l) gs with
  | none=>rw [hv] at h;exact absurd h (by simp)
  | some vs =>
   rw [hv] at h
   dsimp only at h
   cases hr:groupsK by_ gs l ks with
   | none=>rw [hr] at h;exact absurd h (by simp)
   | some g2 =>
    rw [hr] at h
    have e:=Option.some.inj h
    subst e
    obtain ⟨h1,h2⟩:=groupsK_facts by_ gs l ks g2 hr
    refine ⟨by rw [List.length_cons,List.length_cons,h1],fun x hx=>?_⟩
    rcases List.mem_cons.1 hx with rfl|hx
    ·exact ⟨k,List.mem_cons_self ..,by rw [List.length_append,vals_length _ _ _ hv]⟩
    ·obtain ⟨q,hq,e⟩:=h2 x hx
     exact ⟨q,List.mem_cons_of_mem _ hq,e⟩
theorem groups_facts {l g:List Tm}{by_:List Int}{gs:List (Int×Int)}(h:groupsP l by_ gs=some g):g.length≤l.length∧∀ x∈g,x.1.length=by_.length+gs.length:=by
 unfold groupsP groupsR at h
 obtain ⟨h1,h2⟩:=groupsK_facts _ _ _ _ _ h
 have h3:=keys_length by_ (sortT by_ (okL by_ l))
 have h4:=(sort_perm by_ (okL by_ l)).length_eq
 have h5:=okL_length by_ l
 refine ⟨by omega,fun x hx=>?_⟩
 obtain ⟨k,hk,e⟩:=h2 x hx
 obtain ⟨y,_,rfl⟩:=(keys_mem by_ _ k).1 hk
 rw [e]
 show (pickF y.1 by_).length+_=_
 rw [pickF_length]
set_option maxHeartbeats 8000000 in
set_option maxRecDepth 100000 in
theorem foldOrder_calls {w:World}{v va:Value}{l:List Tm}{gs:List (Int×Int)}(turn:Nat)(hturn:turn < 256)(h:TimesIn w v l)(hg:OnIn w va gs):GivesAt Try.prog 5 #[v,.int .u8 turn,va] w (.bool true):=by
 obtain ⟨i0,hi,hz0,hz1,hz2⟩:=info_parts Try.infoM27
 have HAW:=Lib.hid awake20_calls
 have HS:=Lib.hid (small20_calls h)
 have HT:=Lib.hid h
 obtain ⟨tv,A,cap,rfl,_,hat⟩:=times_at h
 obtain ⟨Ag,cg,rfl⟩:=hg.slice
 have HAT:=Lib.hid hat
 have HOG0:=Lib.hid hg
 obtain ⟨hb,hB⟩:=start w
 clear h hat hg
 unfold GivesAt
 cases hs:small20 l with
 | false =>
  rw [hs] at HS
  clear hs
  go_enter Try.func5,Try.ntmps5
  go_wp2_with (first|(go_at_call 6;refine HS.out.step ?_)|(go_at_call 7;refine HAW.out.step (w0:=w) (B:=w.heap.size) hb hB ?_;clear hb hB;intro w1 hb hB))
  go_ret
  exact ⟨rfl,hb⟩
 | true =>
  have HIN:=Lib.hid (small20_in hs)
  have HN1:=Lib.hid (small20_n hs)
  rw [hs] at HS
  clear hs
  by_cases hg4:gs.length≤4
  ·have dg:decide ((4:Int) < (gs.length:Int))=false:=decide_eq_false (by omega)
   by_cases hl25:l.length≤25
   ·have dl:decide ((25:Int) < (l.length:Int))=false:=decide_eq_false (by omega)
    have HGL:Hid (gs.length≤4):=hg4
    have HLL:Hid (l.length≤25):=hl25
    have HTU:Hid (turn < 256):=hturn
    clear hg4 hl25 hturn
    go_enter Try.func5,Try.ntmps5
    go_wp2_with (go_at_call 6;refine HS.out.step ?_)
    clear HS dg dl
    go_loopw [7,8] (fun x i wr=>∃ k:Nat,k≤l.length∧i=.int .i64 k∧Hid (∃ tv,Own wr w.heap.size 2 x (splitsL l turn k).length (timesV tv)∧RowsOf w tv (splitsL l turn k)∧Below w.heap.size w wr)) (fun _ i _=>l.length-(intOf i).toNat)
    case atStart=>exact ⟨0,Nat.zero_le _,rfl,Lib.hid ⟨[],Own.nil_ _ _ _,trivial,hb⟩⟩
    case round =>
     clear hb hB
     obtain ⟨k,hk,rfl,HG⟩:=hrel
     obtain ⟨tv8,hO8,hR8,hB8⟩:=HG.out
     obtain ⟨A9,p9,e9⟩:=hO8.len
     have HBR:=Lib.hid hB8
     have hll:=HLL.out
     have htu:=HTU.out
     by_cases hlt:k < l.length
     ·have hjl:(k+turn) % l.length < l.length:=Nat.mod_lt _ (by omega)
      have hsl:=splits_length l turn k hk
      obtain ⟨j,hj⟩:∃ j,(k+turn) % l.length=j:=⟨_,rfl⟩
      have q0:wrap64 (turn:Int)=(turn:Int):=by unfold wrap64;omega
      have q1:wrap64 ((k:Int)+(turn:Int))=(k:Int)+(turn:Int):=by unfold wrap64;omega
      have q5:wrap64 ((k:Int)+1)=(k:Int)+1:=by unfold wrap64;omega
      have q3:=turn_at hj
      rw [hj] at hjl
      have HNX:=Lib.hid (splits_at l turn k hlt j hj hjl)
      clear hj
      obtain ⟨b,off,rfl,hbl,hc⟩:=HAT.out j hjl
      obtain ⟨rv,hs,_,c1,c2⟩:=hc j hjl
      have x1:=(hB8.cell (p:=⟨b,off+j*2,none⟩) hbl).trans c1
      have x2:=(hB8.cell (p:=⟨b,off+j*2+1,none⟩) hbl).trans c2
      have HNN:=Lib.hid (HN1.out l[j] (List.getElem_mem hjl))
      obtain ⟨Ar,pr,rfl⟩:∃ Ar pr,rv=.slice Ar l[j].1.length pr:=by obtain ⟨Ar,pr,e,_⟩:=one_at hs;exact ⟨Ar,pr,e⟩
      have HS0:=Lib.hid hs
      obtain ⟨F,hF⟩:∃ F,splitsL l turn k=F:=⟨_,rfl⟩
      rw [hF] at hO8 hR8 HNX e9 hsl
      obtain ⟨m9,hm⟩:∃ m,F.length=m:=⟨_,rfl⟩
      have HM:Hid (F.length=m9):=hm
      rw [hm] at hO8 e9 hsl
      have HML:Hid (m9≤50):=by show _≤_;omega
      subst e9
      have HO8:=Lib.hid hO8
      have HR8:=Lib.hid hR8
      have i1:(k:Int) < (l.length:Int):=by omega
      have i2:(j:Int) < (l.length:Int):=by omega
      have i3:(0:Int)≤(j:Int):=by omega
      have i4:¬(l.length:Int)=0:=by omega
      have i5:((l.length:Int)==0)=false:=by rw [beq_eq_false_iff_ne];omega
      have HLK:Hid (k < l.length):=hlt
      clear hc c1 c2 hs hF hm hO8 hR8 hB8 HG hsl hll htu
      generalize l[j]=x at *
      obtain ⟨row,c⟩:=x
      dsimp only at *
      have hq2:=Below.alloc (.refl wr.heap.size wr) (Nat.le_refl _) (.cells #[.slice Ar row.length pr,.int .i64 c] 27)
      have y0:=box_cell wr 27 #[.slice Ar row.length pr,.int .i64 c] 0 _ rfl
      have y1:=box_cell wr 27 #[.slice Ar row.length pr,.int .i64 c] 1 _ rfl
      have HQ2:=Lib.hid hq2
      have HW2:=Lib.hid (HBR.out.trans (hq2.mono HBR.out.size))
      clear hq2 hlt hk hjl
      by_cases hc1:1 < c
      ·have HTN:=Lib.hid (HNX.out.trans (by unfold splitT;rw [if_pos hc1]))
       clear HNX
       have hq3:=Below.alloc (.refl _ _) (Nat.le_refl _) (.cells #[(.slice Ar row.length pr),.int .i64 1] 27) (w:=wr.alloc (.cells #[.slice Ar row.length pr,.int .i64 c] 27))
       have hlit:=lit_tm (wr.alloc (.cells #[.slice Ar row.length pr,.int .i64 c] 27)) 27 (.slice Ar row.length pr) 1
       rw [show (wr.alloc (.cells #[.slice Ar row.length pr,.int .i64 c] 27)).heap.size=wr.heap.size+1 by simp] at hlit
       have HLIT:=Lib.hid hlit
       have HO9:=Lib.hid ((HO8.out.later HQ2.out).later hq3)
       have HB9:=Lib.hid (HW2.out.trans (hq3.mono HW2.out.size))
       have H1:=Lib.hid (one_tm HS0.out 1)
       have HBX:=Lib.hid ((show Own (wr.alloc (.cells #[.slice Ar row.length pr,.int .i64 c] 27)) wr.heap.size 2 (.slice (some ⟨wr.heap.size,0,none⟩) 1 1) 1 [(.slice Ar row.length pr),.int .i64 c] from Own.lit (size:=2) wr #[(.slice Ar row.length pr),.int .i64 c] 27 1 (Nat.le_refl _) (by unfold maxLen;omega) rfl).later hq3)
       have HSZ:Hid (((wr.alloc (.cells #[.slice Ar row.length pr,.int .i64 c] 27)).alloc (.cells #[(.slice Ar row.length pr),.int .i64 1] 27)).heap.size=wr.heap.size+2):=by show _=_;simp
       have HLT:=Lib.hid HO8.out.lt
       have d1:decide (1 < c)=true:=decide_eq_true hc1
       have HCC:=Lib.hid hc1
       have hml:=HML.out
       have HC2:=Lib.hid HNN.out
       clear hlit hq3 hc1
       go_wp2_with (at_builtin;refine wpList_append_src rfl (.tmp 47) (.tmp 51) 22 rfl 27 i0 (.agg #[.slice none 0 0,.int .i64 0]) 2 32 Try.underlying22 hi hz0 hz1 hz2 rfl (by decide) (B:=w.heap.size) (.slice A9 m9 p9) m9 (timesV tv8) rfl HO9.out (.slice (some ⟨wr.heap.size+1,0,none⟩) 1 1) 1 [(.slice Ar row.length pr),.int .i64 1] rfl HLIT.out H1.out (by unfold maxLen;omega) (by omega) HB9.out.size ?_)
       intro v4 w4 hO4 hg4 ha4
       have hbx4:=HBX.out.other hg4 (fun k hk e=>by
        simp only [Value.ownBlock,Option.some.injEq] at hk
        subst hk
        have:=(HLT.out _ e.symm).2
        omega)
       obtain ⟨_,hl4,_,r2,r3⟩:=hbx4.parts
       have a0:=r2 0 _ rfl
       have a1:=r2 1 _ rfl
       have f1:=(r3 1 (by decide)).2
       rw [Nat.add_zero] at a0
       simp only [Nat.zero_add] at a1 f1
       have HO4:=Lib.hid hO4
       have HV4:Hid (∀ k,v4.ownBlock=some k→k≠wr.heap.size):=fun k hk e=>by
        have h3:=HSZ.out
        rcases ha4 k hk with h|h
        ·have:=(HLT.out k h).2
         omega
        ·omega
       have HB4:=Lib.hid (HB9.out.grown hg4 HB9.out.size fun k hk=>(HO9.out.lt k hk).1)
       have hgs:=setCells_grown wr.heap.size [Value.int .i64 (c-1)] 1 w4
       have HO5:=Lib.hid (HO4.out.other (w':=w4.setCell ⟨wr.heap.size,1,none⟩ (.int .i64 (c-1))) hgs fun k hk e=>HV4.out k hk (by simpa using e))
       have hbx5:=Own.stored hbx4 1 (by decide) (.int .i64 (c-1))
       obtain ⟨_,_,_,r4,_⟩:=hbx5.parts
       simp only [Nat.zero_add] at r4
       have b0:=r4 0 _ rfl
       have b1:=r4 1 _ rfl
       have HB5:=Lib.hid (HB4.out.setCell (p:=⟨wr.heap.size,1,none⟩) (show w.heap.size≤wr.heap.size from HBR.out.size) (.int .i64 (c-1)))
       have hq6:=Below.alloc (.refl (w4.setCell ⟨wr.heap.size,1,none⟩ (.int .i64 (c-1))).heap.size _) (Nat.le_refl _) (.cells #[(.slice Ar row.length pr),.int .i64 (c-1)] 27)
       have HO6:=Lib.hid (HO5.out.later hq6)
       have HB6:=Lib.hid (HB5.out.trans (hq6.mono HB5.out.size))
       have hlit2:=lit_tm (w4.setCell ⟨wr.heap.size,1,none⟩ (.int .i64 (c-1))) 27 (.slice Ar row.length pr) (c-1)
       rw [show (w4.setCell ⟨wr.heap.size,1,none⟩ (.int .i64 (c-1))).heap.size=w4.heap.size by simp] at hlit2
       have HLIT2:=Lib.hid hlit2
       have H2:=Lib.hid (one_tm HS0.out (c-1))
       have q9:IntKind.i64.wrap (c-1)=c-1:=by have:=HC2.out;rw [IntKind.wrap_i64];omega
       obtain ⟨A4,p4,e4⟩:=HO4.out.len
       subst e4
       clear hbx4 hbx5 r2 r3 r4 hq6 hlit2 hgs hO4 hg4 ha4 hl4 x1 x2 y0 y1
       go_wp2_with (at_builtin;refine wpList_append_src rfl (.tmp 57) (.tmp 59) 22 rfl 27 i0 (.agg #[.slice none 0 0,.int .i64 0]) 2 32 Try.underlying22 hi hz0 hz1 hz2 rfl (by decide) (B:=w.heap.size) (.slice A4 (m9+1) p4) (m9+1) (timesV tv8++[(.slice Ar row.length pr),.int .i64 1]) rfl HO6.out (.slice (some ⟨w4.heap.size,0,none⟩) 1 1) 1 [(.slice Ar row.length pr),.int .i64 (c-1)] rfl HLIT2.out H2.out (by unfold maxLen;omega) (by omega) HB6.out.size ?_)
       intro v7 w7 hO7 hg7 ha7
       have HG7:Hid (∃ tv,Own w7 w.heap.size 2 v7 (splitsL l turn (k+1)).length (timesV tv)∧RowsOf w tv (splitsL l turn (k+1))∧Below w.heap.size w w7):=by
        refine ⟨tv8++[((.slice Ar row.length pr),1),((.slice Ar row.length pr),c-1)],?_,?_,HB6.out.grown hg7 HB6.out.size fun k hk=>(HO6.out.lt k hk).1⟩
        ·rw [HTN.out,timesV_append,List.length_append,HM.out]
         exact hO7
        ·rw [HTN.out];exact HR8.out.append ⟨⟨HS0.out,rfl⟩,⟨HS0.out,rfl⟩,trivial⟩
       clear hO7 hg7 ha7 a0 a1 b0 b1 f1 hml q9
       go_wp2
       go_roundw
       case rel=>exact ⟨k+1,HLK.out,by go_num,HG7⟩
       case measure=>rw [q5];exact meas_next HLK.out
      ·have HTN:=Lib.hid (HNX.out.trans (by unfold splitT;rw [if_neg hc1]))
       clear HNX
       have hq3:=Below.alloc (.refl _ _) (Nat.le_refl _) (.cells #[.slice Ar row.length pr,.int .i64 c] 27) (w:=wr.alloc (.cells #[.slice Ar row.length pr,.int .i64 c] 27))
       have hlit:=lit_tm (wr.alloc (.cells #[.slice Ar row.length pr,.int .i64 c] 27)) 27 (.slice Ar row.length pr) c
       rw [show (wr.alloc (.cells #[.slice Ar row.length pr,.int .i64 c] 27)).heap.size=wr.heap.size+1 by simp] at hlit
       have HLIT:=Lib.hid hlit
       have HO9:=Lib.hid ((HO8.out.later HQ2.out).later hq3)
       have HB9:=Lib.hid (HW2.out.trans (hq3.mono HW2.out.size))
       have H1:=Lib.hid (one_tm HS0.out c)
       have d1:decide (1 < c)=false:=decide_eq_false hc1
       have hml:=HML.out
       clear hlit hq3 hc1
       go_wp2_with (at_builtin;refine wpList_append_src rfl (.tmp 57) (.tmp 59) 22 rfl 27 i0 (.agg #[.slice none 0 0,.int .i64 0]) 2 32 Try.underlying22 hi hz0 hz1 hz2 rfl (by decide) (B:=w.heap.size) (.slice A9 m9 p9) m9 (timesV tv8) rfl HO9.out (.slice (some ⟨wr.heap.size+1,0,none⟩) 1 1) 1 [(.slice Ar row.length pr),.int .i64 c] rfl HLIT.out H1.out (by unfold maxLen;omega) (by omega) HB9.out.size ?_)
       intro v7 w7 hO7 hg7 ha7
       have HG7:Hid (∃ tv,Own w7 w.heap.size 2 v7 (splitsL l turn (k+1)).length (timesV tv)∧RowsOf w tv (splitsL l turn (k+1))∧Below w.heap.size w w7):=by
        refine ⟨tv8++[((.slice Ar row.length pr),c)],?_,?_,HB9.out.grown hg7 HB9.out.size fun k hk=>(HO9.out.lt k hk).1⟩
        ·rw [HTN.out,timesV_append,List.length_append,HM.out];exact hO7
        ·rw [HTN.out];exact HR8.out.append (RowsOf.one HS0.out)
       clear hO7 hg7 ha7 y0 y1 x1 x2 hml
       go_wp2
       go_roundw
       case rel=>exact ⟨k+1,HLK.out,by go_num,HG7⟩
       case measure=>rw [q5];exact meas_next HLK.out
     ·obtain rfl:k=l.length:=by omega
      rw [splits_all] at hO8 hR8
      have HML:Hid (((turnL l turn).flatMap splitT).length≤50):=by
       have:=splits_length l turn l.length (Nat.le_refl _)
       rw [splits_all] at this
       show _≤_
       omega
      have HOG:=Lib.hid (order_groups l turn [0] gs)
      have HIM:=Lib.hid (split_in HN1.out turn)
      have HM:=Lib.hid (TimesIn.of hO8.slice (hR8.kept HBR.out) rfl)
      have HL:=Lib.hid (HT.out.kept HBR.out)
      have HO:=Lib.hid (HOG0.out.kept HBR.out)
      have hb:=HBR.out
      have HMN:=Lib.hid e9
      rw [splits_all] at HMN
      clear hO8 hR8 HG hB8 e9 HN1 HAT
      generalize (turnL l turn).flatMap splitT=ml at *
      have e9:=HMN.out
      obtain ⟨mn,hmn⟩:∃ mn,ml.length=mn:=⟨_,rfl⟩
      rw [hmn] at e9
      subst e9
      have HMM:=Lib.hid hmn
      clear hmn
      clear HMN
      have i1:¬(l.length:Int) < (l.length:Int):=by omega
      cases hgp:groupsP l [0] gs with
      | none =>
       have HGP:=Lib.hid hgp
       clear hgp
       go_wp2_with fail
       have hq:Below wr.heap.size wr (wr.alloc (.cells #[.int .i64 0] 3)):=Below.alloc (.refl _ _) (Nat.le_refl _) _
       have HI:Hid (IntsIn (wr.alloc (.cells #[.int .i64 0] 3)) (.slice (some ⟨wr.heap.size,0,none⟩) 1 1) [0]):=lit_ones (Value.int .i64) wr 3 [0] (by show 1≤1000;decide)
       replace HL:=Lib.hid (HL.out.kept hq)
       replace HM:=Lib.hid (HM.out.kept hq)
       replace HO:=Lib.hid (HO.out.kept hq)
       replace hb:=hb.trans (hq.mono hb.size)
       clear hq
       generalize World.alloc wr _=w1 at *
       have hg:=fgroups_calls HL.out HI.out HO.out HIN.out (by have:=HLL.out;omega) (by show 1≤1000000;decide) (by have:=HGL.out;omega)
       rw [HGP.out] at hg
       refine hg.mono ?_
       clear hg HI
       rintro e w2 ⟨rfl,hq⟩
       replace HL:=Lib.hid (HL.out.kept hq)
       replace HM:=Lib.hid (HM.out.kept hq)
       replace HO:=Lib.hid (HO.out.kept hq)
       replace hb:=hb.trans (hq.mono hb.size)
       clear hq
       go_wp2_with fail
       have hq:Below w2.heap.size w2 (w2.alloc (.cells #[.int .i64 0] 3)):=Below.alloc (.refl _ _) (Nat.le_refl _) _
       have HI:Hid (IntsIn (w2.alloc (.cells #[.int .i64 0] 3)) (.slice (some ⟨w2.heap.size,0,none⟩) 1 1) [0]):=lit_ones (Value.int .i64) w2 3 [0] (by show 1≤1000;decide)
       replace HL:=Lib.hid (HL.out.kept hq)
       replace HM:=Lib.hid (HM.out.kept hq)
       replace HO:=Lib.hid (HO.out.kept hq)
       replace hb:=hb.trans (hq.mono hb.size)
       clear hq
       generalize World.alloc w2 _=w3 at *
       have hg:=fgroups_calls HM.out HI.out HO.out HIM.out (by have:=HML.out;omega) (by show 1≤1000000;decide) (by have:=HGL.out;omega)
       rw [HOG.out,HGP.out] at hg
       refine hg.mono ?_
       clear hg HI
       rintro e w4 ⟨rfl,hq⟩
       replace HL:=Lib.hid (HL.out.kept hq)
       replace HM:=Lib.hid (HM.out.kept hq)
       replace HO:=Lib.hid (HO.out.kept hq)
       replace hb:=hb.trans (hq.mono hb.size)
       clear hq
       clear HL HM HO
       go_wp2_with fail
       refine (HAW.out w4).mono ?_
       rintro e w30 ⟨rfl,hq⟩
       replace hb:=hb.trans (hq.mono hb.size)
       clear hq
       go_wp2_with fail
       refine (same20 (TimesIn.nil_ w30 none 0) (TimesIn.nil_ w30 none 0) (by decide) (fun t ht=>absurd ht (by simp))).mono ?_
       rintro e w31 ⟨rfl,hq⟩
       replace hb:=hb.trans (hq.mono hb.size)
       clear hq
       go_wp2
       go_ret
       exact ⟨rfl,hb⟩
      | some g =>
       have hgf:=groups_facts hgp
       have HLW:Hid (g.length≤1000000):=by
        have:=HLL.out
        have:=hgf.1
        show _≤_
        omega
       have HRW:Hid (∀ x∈g,x.1.length≤1000000):=fun x hx=>by
        have h1:=hgf.2 x hx
        have:=HGL.out
        have h2:([0]:List Int).length=1:=rfl
        omega
       have HGP:=Lib.hid hgp
       clear hgp hgf
       go_wp2_with fail
       have hq:Below wr.heap.size wr (wr.alloc (.cells #[.int .i64 0] 3)):=Below.alloc (.refl _ _) (Nat.le_refl _) _
       have HI:Hid (IntsIn (wr.alloc (.cells #[.int .i64 0] 3)) (.slice (some ⟨wr.heap.size,0,none⟩) 1 1) [0]):=lit_ones (Value.int .i64) wr 3 [0] (by show 1≤1000;decide)
       replace HL:=Lib.hid (HL.out.kept hq)
       replace HM:=Lib.hid (HM.out.kept hq)
       replace HO:=Lib.hid (HO.out.kept hq)
       replace hb:=hb.trans (hq.mono hb.size)
       clear hq
       generalize World.alloc wr _=w1 at *
       have hg:=fgroups_calls HL.out HI.out HO.out HIN.out (by have:=HLL.out;omega) (by show 1≤1000000;decide) (by have:=HGL.out;omega)
       rw [HGP.out] at hg
       refine hg.mono ?_
       clear hg HI
       rintro e w2 ⟨va,rfl,hT,hq⟩
       have Ha:Hid (TimesIn w2 va g):=hT.times
       clear hT
       replace HL:=Lib.hid (HL.out.kept hq)
       replace HM:=Lib.hid (HM.out.kept hq)
       replace HO:=Lib.hid (HO.out.kept hq)
       replace hb:=hb.trans (hq.mono hb.size)
       clear hq
       obtain ⟨Aa,ca,rfl⟩:=times_slice Ha.out
       go_wp2_with fail
       have hq:Below w2.heap.size w2 (w2.alloc (.cells #[.int .i64 0] 3)):=Below.alloc (.refl _ _) (Nat.le_refl _) _
       have HI:Hid (IntsIn (w2.alloc (.cells #[.int .i64 0] 3)) (.slice (some ⟨w2.heap.size,0,none⟩) 1 1) [0]):=lit_ones (Value.int .i64) w2 3 [0] (by show 1≤1000;decide)
       replace HL:=Lib.hid (HL.out.kept hq)
       replace HM:=Lib.hid (HM.out.kept hq)
       replace HO:=Lib.hid (HO.out.kept hq)
       replace Ha:=Lib.hid (Ha.out.kept hq)
       replace hb:=hb.trans (hq.mono hb.size)
       clear hq
       generalize World.alloc w2 _=w3 at *
       have hg:=fgroups_calls HM.out HI.out HO.out HIM.out (by have:=HML.out;omega) (by show 1≤1000000;decide) (by have:=HGL.out;omega)
       rw [HOG.out,HGP.out] at hg
       refine hg.mono ?_
       clear hg HI
       rintro e w4 ⟨vb,rfl,hT,hq⟩
       have Hb:Hid (TimesIn w4 vb g):=hT.times
       clear hT
       replace HL:=Lib.hid (HL.out.kept hq)
       replace HM:=Lib.hid (HM.out.kept hq)
       replace HO:=Lib.hid (HO.out.kept hq)
       replace Ha:=Lib.hid (Ha.out.kept hq)
       replace hb:=hb.trans (hq.mono hb.size)
       clear hq
       obtain ⟨Ab,cb,rfl⟩:=times_slice Hb.out
       clear HL HM HO
       go_wp2_with fail
       refine (HAW.out w4).mono ?_
       rintro e w30 ⟨rfl,hq⟩
       replace Ha:=Lib.hid (Ha.out.kept hq)
       replace Hb:=Lib.hid (Hb.out.kept hq)
       replace hb:=hb.trans (hq.mono hb.size)
       clear hq
       go_wp2_with fail
       refine (same20 Ha.out Hb.out HLW.out HRW.out).mono ?_
       rintro e w31 ⟨rfl,hq⟩
       replace Ha:=Lib.hid (Ha.out.kept hq)
       replace Hb:=Lib.hid (Hb.out.kept hq)
       replace hb:=hb.trans (hq.mono hb.size)
       clear hq
       go_wp2
       go_ret
       exact ⟨rfl,hb⟩
   ·have dl:decide ((25:Int) < (l.length:Int))=true:=decide_eq_true (by omega)
    clear hg4 hl25
    go_enter Try.func5,Try.ntmps5
    go_wp2_with (first|(go_at_call 6;refine HS.out.step ?_)|(go_at_call 7;refine HAW.out.step (w0:=w) (B:=w.heap.size) hb hB ?_;clear hb hB;intro w1 hb hB))
    go_ret
    exact ⟨rfl,hb⟩
  ·have dg:decide ((4:Int) < (gs.length:Int))=true:=decide_eq_true (by omega)
   clear hg4
   go_enter Try.func5,Try.ntmps5
   go_wp2_with (first|(go_at_call 6;refine HS.out.step ?_)|(go_at_call 7;refine HAW.out.step (w0:=w) (B:=w.heap.size) hb hB ?_;clear hb hB;intro w1 hb hB))
   go_ret
   exact ⟨rfl,hb⟩
end Go.Proofs.Ytopeeokjfaampaa
