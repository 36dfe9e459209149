/- The law FoldBounds of layer 20. -/
import Derived.Test.YtopeeokjfaampaaGCell
import Derived.Test.YtopeeokjfaampaaGZFoldAwake
namespace Go.Proofs.Ytopeeokjfaampaa
open Go Go.RowKit
def someB (c:Int)(l:List Tm):Bool:=l.any fun x=>decide (cellD x.1 c≠eB)
def sameB (c:Int)(s:ByteArray)(l:List Tm):Bool:=l.any fun x=>decide (cellD x.1 c≠eB)&&decide (cellD x.1 c=s)
theorem someB_take (c:Int)(l:List Tm)(k:Nat)(h:k < l.length):someB c (l.take (k+1))=(someB c (l.take k)||decide (cellD l[k].1 c≠eB)):=by
 unfold someB
 rw [take_add l k h,List.any_append]
 simp
theorem sameB_take (c:Int)(s:ByteArray)(l:List Tm)(k:Nat)(h:k < l.length):sameB c s (l.take (k+1))=(sameB c s (l.take k)||(decide (cellD l[k].1 c≠eB)&&decide (cellD l[k].1 c=s))):=by
 unfold sameB
 rw [take_add l k h,List.any_append]
 simp
theorem someB_lo (c:Int)(l:List Tm):someB c l=decide ((talL c l).lo≠eB):=by
 cases hs:someB c l with
 | true =>
  unfold someB at hs
  rw [List.any_eq_true] at hs
  obtain ⟨x,hx,hne⟩:=hs
  rw [decide_eq_true_eq] at hne
  have h1:=(lo_le c l x hx hne).2
  symm
  rw [decide_eq_true_eq]
  intro e
  rw [(tal_none c l).1.1 e,e_lt hne] at h1
  exact absurd h1 (by decide)
 | false =>
  symm
  rw [decide_eq_false_iff_not]
  intro hne
  obtain ⟨⟨x,hx,h1,_⟩,_⟩:=lo_mem c l hne
  unfold someB at hs
  rw [List.any_eq_false] at hs
  exact hs x hx (by simpa using h1)
theorem sameB_lo (c:Int)(l:List Tm):sameB c (talL c l).lo l=someB c l:=by
 rw [someB_lo]
 cases hs:decide ((talL c l).lo≠eB) with
 | true =>
  obtain ⟨⟨x,hx,h1,h2⟩,_⟩:=lo_mem c l (of_decide_eq_true hs)
  unfold sameB
  rw [List.any_eq_true]
  exact ⟨x,hx,by rw [decide_eq_true h1,decide_eq_true h2];rfl⟩
 | false =>
  have e:=someB_lo c l
  rw [hs] at e
  unfold someB at e
  rw [List.any_eq_false] at e
  unfold sameB
  rw [List.any_eq_false]
  intro x hx
  have:=e x hx
  simp at this
  simp [this]
theorem sameB_hi (c:Int)(l:List Tm):sameB c (talL c l).hi l=someB c l:=by
 rw [someB_lo]
 cases hs:decide ((talL c l).lo≠eB) with
 | true =>
  obtain ⟨_,x,hx,h1,h2⟩:=lo_mem c l (of_decide_eq_true hs)
  unfold sameB
  rw [List.any_eq_true]
  exact ⟨x,hx,by rw [decide_eq_true h1,decide_eq_true h2];rfl⟩
 | false =>
  have e:=someB_lo c l
  rw [hs] at e
  unfold someB at e
  rw [List.any_eq_false] at e
  unfold sameB
  rw [List.any_eq_false]
  intro x hx
  have:=e x hx
  simp at this
  simp [this]
theorem hiC_hi (c:Int)(l:List Tm):hiC (talL c l)=(talL c l).hi:=by
 unfold hiC
 split
 ·rename_i h;exact ((tal_none c l).1.1 h).symm
 ·rfl
set_option maxHeartbeats 4000000 in
set_option maxRecDepth 100000 in
theorem foldBounds_calls {w:World}{v:Value}{l:List Tm}(col:Nat)(hcol:col < 256)(h:TimesIn w v l):GivesAt Try.prog 4 #[v,.int .u8 col] w (.bool true):=by
 have HAW:=Lib.hid awake20_calls
 have HS:=Lib.hid (small20_calls h)
 have HT:=Lib.hid h
 obtain ⟨tv,A,cap,rfl,_,hat⟩:=times_at h
 have HAT:=Lib.hid hat
 have HLEN:=Lib.hid h.len
 obtain ⟨hb,hB⟩:=start w
 clear h hat
 unfold GivesAt
 cases hs:small20 l with
 | false =>
  rw [hs] at HS
  clear hs
  go_enter Try.func4,Try.ntmps4
  go_wp2_with (first|(go_at_call 6;refine HS.out.step ?_)|(go_at_call 7;refine HAW.out.step (w0:=w) (B:=w.heap.size) hb hB ?_;clear hb hB;intro w1 hb hB))
  go_ret
  exact ⟨rfl,hb⟩
 | true =>
  have HIN:=Lib.hid (small20_in hs)
  rw [hs] at HS
  clear hs
  obtain ⟨c,hc⟩:∃ c:Nat,c=col % 4:=⟨_,rfl⟩
  have hc4:c < 4:=by omega
  have q1:(col:Int) % 4=(c:Int):=by omega
  clear hc
  have HV1:=Lib.hid fun W (hW:Below w.heap.size w W)=>fvalue_calls (3,(c:Int)) (HT.out.kept hW) HIN.out
  have HV2:=Lib.hid fun W (hW:Below w.heap.size w W)=>fvalue_calls (4,(c:Int)) (HT.out.kept hW) HIN.out
  have HE1:Hid (valP l (3,(c:Int))=some (talL c l).lo):=by
   show valT (talL c l) 3=_
   exact val_loC _
  have HE2:Hid (valP l (4,(c:Int))=some (talL c l).hi):=by
   show valT (talL c l) 4=_
   rw [val_hiC,hiC_hi]
  rw [HE1.out] at HV1
  rw [HE2.out] at HV2
  unfold aggV at HV1 HV2
  dsimp only [errN,gotN] at HV1 HV2
  have HLO:=Lib.hid (sameB_lo c l)
  have HHI:=Lib.hid (sameB_hi c l)
  have HSO:=Lib.hid (someB_lo c l)
  have HLE:=Lib.hid fun x hx hne=>lo_le c l x hx hne
  have HNO:=Lib.hid (tal_none c l).1.1
  clear HE1 HE2
  generalize talL (c:Int) l=t at *
  obtain ⟨tr,ts,lo,hi⟩:=t
  dsimp only at *
  go_enter Try.func4,Try.ntmps4
  go_wp2_with (go_at_call 6;refine HS.out.step ?_)
  refine (HV1.out w (.refl _ _)).mono ?_
  rintro e w1 ⟨rfl,hq1⟩
  go_wp2_with fail
  refine (HV2.out w1 hq1).mono ?_
  rintro e w2 ⟨rfl,hq2⟩
  have HB2:=Lib.hid (hq1.trans (hq2.mono hq1.size))
  clear hq1 hq2 HV1 HV2 HS hb hB
  go_wp2
  go_loop [10,11,12,13] (fun a b d i=>∃ k:Nat,k≤l.length∧i=.int .i64 k∧a=.bool (someB c (l.take k))∧b=.bool (sameB c lo (l.take k))∧d=.bool (sameB c hi (l.take k))) (fun _ _ _ i=>l.length-(intOf i).toNat)
  case atStart=>exact ⟨0,Nat.zero_le _,rfl,rfl,rfl,rfl⟩
  case round =>
   obtain ⟨k,hk,rfl,rfl,rfl,rfl⟩:=hrel
   have hml:=HLEN.out
   unfold maxLen at hml
   by_cases hlt:k < l.length
   ·obtain ⟨bk,off,rfl,hbl,hck⟩:=HAT.out k hlt
    obtain ⟨rv,hs,_,c1,_⟩:=hck k hlt
    have x1:=(HB2.out.cell (p:=⟨bk,off+k*2,none⟩) hbl).trans c1
    have HS1:=Lib.hid (someB_take c l k hlt)
    have HS2:=Lib.hid (sameB_take c lo l k hlt)
    have HS3:=Lib.hid (sameB_take c hi l k hlt)
    have HLK:=Lib.hid (HLE.out l[k] (List.getElem_mem hlt))
    have HK:Hid (k < l.length):=hlt
    have i1:(k:Int) < (l.length:Int):=by omega
    obtain ⟨Ar,pr,rfl,hr⟩:=one_at hs
    have HR:=Lib.hid hr
    clear hck c1 hs hr
    generalize l[k]=x at *
    obtain ⟨row,n⟩:=x
    dsimp only at *
    clear hlt
    obtain ⟨s1,hs1⟩:∃ s,someB c (l.take (k+1))=s:=⟨_,rfl⟩
    rw [hs1] at HS1
    have E1:=Lib.hid hs1
    clear hs1
    obtain ⟨s2,hs2⟩:∃ s,sameB c lo (l.take (k+1))=s:=⟨_,rfl⟩
    rw [hs2] at HS2
    have E2:=Lib.hid hs2
    clear hs2
    obtain ⟨s3,hs3⟩:∃ s,sameB c hi (l.take (k+1))=s:=⟨_,rfl⟩
    rw [hs3] at HS3
    have E3:=Lib.hid hs3
    clear hs3
    generalize someB c (l.take k)=a at *
    generalize sameB c lo (l.take k)=b at *
    generalize sameB c hi (l.take k)=d at *
    by_cases hcl:c < row.length
    ·obtain ⟨b2,off2,rfl,hbl2,hcr⟩:=HR.out c hcl
     have x2:=(HB2.out.cell (p:=⟨b2,off2+c,none⟩) hbl2).trans (hcr c hcl)
     have he:=cellD_in hcl
     rw [he] at HS1 HS2 HS3 HLK
     have i2:(c:Int) < (row.length:Int):=by omega
     have i3:¬(row.length:Int)≤(c:Int):=by omega
     have i4:decide ((row.length:Int)≤(c:Int))=false:=decide_eq_false i3
     clear hcr he HR
     generalize row[c]=s at *
     by_cases hse:s=⟨#[]⟩
     ·subst hse
      have e1:s1=a:=by have:=HS1.out;rw [decide_eq_false (fun h=>h (show (⟨#[]⟩:ByteArray)=eB from rfl)),Bool.or_false] at this;exact this
      have e2:s2=b:=by have:=HS2.out;rw [decide_eq_false (fun h=>h (show (⟨#[]⟩:ByteArray)=eB from rfl)),Bool.false_and,Bool.or_false] at this;exact this
      have e3:s3=d:=by have:=HS3.out;rw [decide_eq_false (fun h=>h (show (⟨#[]⟩:ByteArray)=eB from rfl)),Bool.false_and,Bool.or_false] at this;exact this
      clear HS1 HS2 HS3 HLK
      subst e1 e2 e3
      go_wp2
      go_round
      case rel=>exact ⟨k+1,HK.out,by go_num,by rw [E1.out] <;> rfl,by rw [E2.out] <;> rfl,by rw [E3.out] <;> rfl⟩
      case measure=>have:=HK.out;simp [intOf];omega
     ·have e0:=text_some hse
      have hne:s≠eB:=hse
      obtain ⟨l1,l2⟩:=HLK.out hne
      have e1:s1=true:=by have:=HS1.out;rw [decide_eq_true hne,Bool.or_true] at this;exact this
      have e2:s2=(b||decide (s=lo)):=by have:=HS2.out;rw [decide_eq_true hne,Bool.true_and] at this;exact this
      have e3:s3=(d||decide (s=hi)):=by have:=HS3.out;rw [decide_eq_true hne,Bool.true_and] at this;exact this
      have g1:Op.bytesLess s.toList lo.toList=false:=l1
      have HH:Hid ((Op.bytesLess s.toList hi.toList=false∧(s.toList==hi.toList)=true∧decide (s=hi)=true)∨(Op.bytesLess s.toList hi.toList=true∧(s.toList==hi.toList)=false∧decide (s=hi)=false)):=by
       rcases lt_three s hi with h|h|h
       ·subst h;exact .inl ⟨bl_irrefl _,by simp,by simp⟩
       ·refine .inr ⟨h,?_,decide_eq_false (ltB_ne h)⟩
        rcases str_ne_cases s hi with ⟨e,_⟩ | ⟨_,e,_⟩
        ·exact absurd e (ltB_ne h)
        ·exact e
       ·rw [h] at l2;exact absurd l2 (by decide)
      have HL:Hid (((s.toList==lo.toList)=true∧decide (s=lo)=true)∨((s.toList==lo.toList)=false∧decide (s=lo)=false)):=by
       rcases str_ne_cases s lo with ⟨e,f,_⟩ | ⟨e,f,_⟩
       ·exact .inl ⟨f,decide_eq_true e⟩
       ·exact .inr ⟨f,decide_eq_false e⟩
      clear HS1 HS2 HS3 HLK l1 l2 hne hse
      generalize decide (s=lo)=dl at *
      generalize decide (s=hi)=dh at *
      subst e1 e2 e3
      rcases HH.out with ⟨g2,g3,rfl⟩ | ⟨g2,g3,rfl⟩ <;> rcases HL.out with ⟨g4,rfl⟩ | ⟨g4,rfl⟩ <;> cases b <;> cases d <;> clear HH HL
      all_goals
       go_wp2
       go_round
       case rel=>exact ⟨k+1,HK.out,by go_num,by rw [E1.out] <;> rfl,by rw [E2.out] <;> rfl,by rw [E3.out] <;> rfl⟩
       case measure=>have:=HK.out;simp [intOf];omega
    ·have he:cellD row c=eB:=cellD_out (by unfold hasB;rw [Bool.and_eq_false_iff,decide_eq_false_iff_not,decide_eq_false_iff_not];omega)
     rw [he] at HS1 HS2 HS3
     have e1:s1=a:=by have:=HS1.out;rw [decide_eq_false (fun h=>h rfl),Bool.or_false] at this;exact this
     have e2:s2=b:=by have:=HS2.out;rw [decide_eq_false (fun h=>h rfl),Bool.false_and,Bool.or_false] at this;exact this
     have e3:s3=d:=by have:=HS3.out;rw [decide_eq_false (fun h=>h rfl),Bool.false_and,Bool.or_false] at this;exact this
     have i4:decide ((row.length:Int)≤(c:Int))=true:=by rw [decide_eq_true_eq];omega
     clear HS1 HS2 HS3 HLK he HR
     subst e1 e2 e3
     go_wp2
     go_round
     case rel=>exact ⟨k+1,HK.out,by go_num,by rw [E1.out] <;> rfl,by rw [E2.out] <;> rfl,by rw [E3.out] <;> rfl⟩
     case measure=>have:=HK.out;simp [intOf];omega
   ·obtain rfl:k=l.length:=by omega
    rw [List.take_length,HLO.out,HHI.out]
    have i1:¬(l.length:Int) < (l.length:Int):=by omega
    have hrt:=right_calls ⟨#[]⟩
    rw [show rightB ⟨#[]⟩=true by decide +kernel] at hrt
    have HRT:=Lib.hid hrt
    clear hrt
    cases hsb:someB c l with
    | true =>
     clear HSO HNO HLO HHI HLE HAT
     go_wp2_with (first|(go_at_call 7;refine HAW.out.step (w0:=w) (B:=w.heap.size) HB2.out HB2.out.size ?_;intro w3 hb hB)|(go_at_call 12;refine HRT.out.step (w0:=w) (B:=w.heap.size) hb hB ?_;clear hb hB;intro w4 hb hB))
     go_ret
     exact ⟨rfl,hb⟩
    | false =>
     have e1:lo=⟨#[]⟩:=by
      have:=HSO.out
      rw [hsb] at this
      have h2:=of_decide_eq_false this.symm
      exact Classical.not_not.1 h2
     have e2:hi=⟨#[]⟩:=HNO.out e1
     subst e1 e2
     clear HSO HNO HLO HHI HLE HAT
     go_wp2_with (first|(go_at_call 7;refine HAW.out.step (w0:=w) (B:=w.heap.size) HB2.out HB2.out.size ?_;intro w3 hb hB)|(go_at_call 12;refine HRT.out.step (w0:=w) (B:=w.heap.size) hb hB ?_;clear hb hB;intro w4 hb hB))
     go_ret
     exact ⟨rfl,hb⟩
end Go.Proofs.Ytopeeokjfaampaa
