/- The contracts of layer 15's answer: both, not, kid, Eval. -/
import Derived.Test.YtcofhnedidllpaaGZCalm
import Derived.Test.YtcofhnedidllpaaGZTermBox
namespace Go.Proofs.Ytcofhnedidllpaa
open Go Go.RowKit
theorem ref_not_calls (a:ByteArray):Gives Try.prog 36 #[.string a] (.string (notC a)):=by
 intro w
 obtain ⟨hb,hB⟩:=start w
 rcases no_cases a with ⟨rfl,h1,h2⟩ | ⟨h0,h1,h2⟩
 ·rw [notC_no]
  go_enter Try.func36,Try.ntmps36
  go_wp2
  go_ret
  exact ⟨rfl,hb⟩
 ·have hv:=Lib.hid (notC_some h0)
  have HY:=ref_yes_calls a
  clear h0
  generalize (a.toList==(boolCell true).toList)=y at *
  cases y
  case' false=>have e:(!false)=true:=rfl
  case' true=>have e:(!true)=false:=rfl
  all_goals
   go_enter Try.func36,Try.ntmps36
   go_wp2_with (first|(go_at_call 29;refine HY.step (w0:=w) (B:=w.heap.size) hb hB ?_;clear hb hB;intro w1 hb hB)|(go_at_call 34;refine (ref_bool_calls _).step (w0:=w) (B:=w.heap.size) hb hB ?_;clear hb hB;intro w1 hb hB))
   go_ret
   exact ⟨ret_str hv.out.symm,hb⟩
theorem ref_both_calls (a b:ByteArray):Gives Try.prog 35 #[.string a,.string b] (.string (bothC a b)):=by
 intro w
 obtain ⟨hb,hB⟩:=start w
 have HYA:=Lib.hid (ref_yes_calls a)
 have HYB:=Lib.hid (ref_yes_calls b)
 rcases str_ne_cases a (boolCell false) with ⟨ha,ea,_⟩ | ⟨ha,ea,_⟩
 ·have hv:=Lib.hid (both_no (a:=a) (b:=b) (.inl ha))
  clear ha
  go_enter Try.func35,Try.ntmps35
  go_wp2_with (first|(go_at_call 34;refine (ref_bool_calls _).step (w0:=w) (B:=w.heap.size) hb hB ?_;clear hb hB;intro w1 hb hB))
  go_ret
  exact ⟨ret_str hv.out.symm,hb⟩
 ·rcases str_ne_cases b (boolCell false) with ⟨hbb,eb,_⟩ | ⟨hbb,eb,_⟩
  ·have hv:=Lib.hid (both_no (a:=a) (b:=b) (.inr hbb))
   clear ha hbb
   go_enter Try.func35,Try.ntmps35
   go_wp2_with (first|(go_at_call 34;refine (ref_bool_calls _).step (w0:=w) (B:=w.heap.size) hb hB ?_;clear hb hB;intro w1 hb hB))
   go_ret
   exact ⟨ret_str hv.out.symm,hb⟩
  ·have hn:¬(a=nayC∨b=nayC):=fun h=>h.elim ha hbb
   have hv:Hid (bothC a b=if (a.toList==(boolCell true).toList)=true∧(b.toList==(boolCell true).toList)=true then boolCell true else noC):=by
    show bothC a b=_
    unfold bothC
    rw [if_neg hn,yes_at,yes_at]
    simp only [decide_eq_true_eq]
    rfl
   clear ha hbb hn
   generalize (a.toList==(boolCell true).toList)=ya at *
   generalize (b.toList==(boolCell true).toList)=yb at *
   cases ya
   ·replace hv:Hid (bothC a b=noC):=hv.out.trans (if_neg (by simp))
    go_enter Try.func35,Try.ntmps35
    go_wp2_with (first|(go_at_call_of 29 (a:ByteArray);refine HYA.out.step (w0:=w) (B:=w.heap.size) hb hB ?_;clear hb hB;intro w1 hb hB)|(go_at_call_of 29 (b:ByteArray);refine HYB.out.step (w0:=w) (B:=w.heap.size) hb hB ?_;clear hb hB;intro w1 hb hB)|(go_at_call 34;refine (ref_bool_calls _).step (w0:=w) (B:=w.heap.size) hb hB ?_;clear hb hB;intro w1 hb hB))
    go_ret
    exact ⟨ret_str hv.out.symm,hb⟩
   ·cases yb
    ·replace hv:Hid (bothC a b=noC):=hv.out.trans (if_neg (by simp))
     go_enter Try.func35,Try.ntmps35
     go_wp2_with (first|(go_at_call_of 29 (a:ByteArray);refine HYA.out.step (w0:=w) (B:=w.heap.size) hb hB ?_;clear hb hB;intro w1 hb hB)|(go_at_call_of 29 (b:ByteArray);refine HYB.out.step (w0:=w) (B:=w.heap.size) hb hB ?_;clear hb hB;intro w1 hb hB)|(go_at_call 34;refine (ref_bool_calls _).step (w0:=w) (B:=w.heap.size) hb hB ?_;clear hb hB;intro w1 hb hB))
     go_ret
     exact ⟨ret_str hv.out.symm,hb⟩
    ·replace hv:Hid (bothC a b=boolCell true):=hv.out.trans (if_pos ⟨rfl,rfl⟩)
     go_enter Try.func35,Try.ntmps35
     go_wp2_with (first|(go_at_call_of 29 (a:ByteArray);refine HYA.out.step (w0:=w) (B:=w.heap.size) hb hB ?_;clear hb hB;intro w1 hb hB)|(go_at_call_of 29 (b:ByteArray);refine HYB.out.step (w0:=w) (B:=w.heap.size) hb hB ?_;clear hb hB;intro w1 hb hB)|(go_at_call 34;refine (ref_bool_calls _).step (w0:=w) (B:=w.heap.size) hb hB ?_;clear hb hB;intro w1 hb hB))
     go_ret
     exact ⟨ret_str hv.out.symm,hb⟩
def EvalAt (row:List ByteArray)(k:Trm):Prop:=∀ (w:World)(v rv:Value),TermIn w v k→StrsIn w rv row→GivesAt Try.prog 18 #[v,rv] w (.string (evalT row k))
theorem ref_kid_of {row:List ByteArray}{t:Trm}(ih:∀ k∈t.kids,EvalAt row k)(i:Nat){w:World}{v rv:Value}(ht:TermIn w v t)(hr:StrsIn w rv row) :
  GivesAt Try.prog 33 #[v,.int .i64 i,rv] w (.string (kidC row t i)):=by
 obtain ⟨kv,rfl,ho,hk⟩:=ht
 obtain ⟨A,cap,rfl,hat⟩:=kids_at hk
 have hm:=hk.len
 unfold maxLen at hm
 have hb:Below w.heap.size w (w.alloc (.cells #[.int .u8 t.op,.int .i64 t.col,.string t.cell,.slice A t.kids.length cap] 25)):=Below.alloc (.refl w.heap.size w) (Nat.le_refl _) _
 have hB:=hb.size
 unfold GivesAt
 by_cases hi:i < t.kids.length
 ·obtain ⟨b,off,rfl,hb0,hc⟩:=hat i hi
  obtain ⟨kkv,ok,hkk,c0,c1,c2,c3⟩:=hc i hi
  have x0:=(hb.cell (p:=⟨b,off+i*4,none⟩) hb0).trans c0
  have x1:=(hb.cell (p:=⟨b,off+i*4+1,none⟩) hb0).trans c1
  have x2:=(hb.cell (p:=⟨b,off+i*4+2,none⟩) hb0).trans c2
  have x3:=(hb.cell (p:=⟨b,off+i*4+3,none⟩) hb0).trans c3
  have HIH:=Lib.hid (ih t.kids[i] (List.getElem_mem hi) _ (trmA (kkv,t.kids[i])) _ ⟨kkv,rfl,ok,hkk.kept hb⟩ (hr.kept hb))
  rw [kidC_some hi]
  dsimp only [trmA] at HIH ⊢
  have i0:(0:Int)≤(i:Int):=by omega
  have i1:(i:Int) < (t.kids.length:Int):=by omega
  have i2:decide ((t.kids.length:Int)≤(i:Int))=false:=decide_eq_false (by omega)
  obtain ⟨Ar,pr,rfl,-⟩:=one_at hr
  obtain ⟨Ak,pk,rfl,-⟩:=kids_at hkk
  clear hc c0 c1 c2 c3 hat ih hk hkk hr ho
  generalize t.kids[i].kids.length=nk at *
  generalize t.kids[i].op=ok1 at *
  generalize t.kids[i].col=ok2 at *
  generalize t.kids[i].cell=ok3 at *
  generalize evalT row t.kids[i]=ev at *
  go_enter Try.func33,Try.ntmps33
  go_wp2_with (go_at_call 18;refine HIH.out.step (w0:=w) (B:=w.heap.size) hb hB ?_;clear hb hB;intro w1 hb hB)
  go_ret
  exact ⟨rfl,hb⟩
 ·rw [kidC_none (by omega)]
  have i2:decide ((t.kids.length:Int)≤(i:Int))=true:=decide_eq_true (by omega)
  obtain ⟨Ar,pr,rfl,-⟩:=one_at hr
  dsimp only [trmA]
  go_enter Try.func33,Try.ntmps33
  go_wp2
  go_ret
  exact ⟨rfl,hb⟩
set_option maxHeartbeats 4000000 in
theorem ref_eval_calls {row:List ByteArray}(t:Trm):EvalAt row t:=by
 refine Trm.ind (P:=EvalAt row) (fun t ih=>?_) t
 intro w v rv ht hr
 have HK0:Hid (∀ W,Below w.heap.size w W→GivesAt Try.prog 33 #[v,.int .i64 0,rv] W (.string (kidC row t 0))):=fun W hW=>ref_kid_of ih 0 (ht.kept hW) (hr.kept hW)
 have HK1:Hid (∀ W,Below w.heap.size w W→GivesAt Try.prog 33 #[v,.int .i64 1,rv] W (.string (kidC row t 1))):=fun W hW=>ref_kid_of ih 1 (ht.kept hW) (hr.kept hW)
 rw [eval_eq]
 generalize kidC row t 0=a at *
 generalize kidC row t 1=b at *
 obtain ⟨kv,rfl,ho,hk⟩:=ht
 obtain ⟨A,cap,rfl,-⟩:=kids_at hk
 obtain ⟨Ar,pr,rfl,hat⟩:=one_at hr
 have HAT:=Lib.hid hat
 have hb2:Below w.heap.size w (w.alloc (.cells #[.int .u8 t.op,.int .i64 t.col,.string t.cell,.slice A t.kids.length cap] 25)):=Below.alloc (.refl w.heap.size w) (Nat.le_refl _) _
 have HB2:=Lib.hid hb2
 have HX:=Lib.hid (trmbox_lit w 25 t.op t.col t.cell (.slice A t.kids.length cap))
 dsimp only [trmA] at HK0 HK1 ⊢
 have hm:=hr.len
 unfold maxLen at hm
 clear ho hk hat hr hb2 ih
 generalize t.kids.length=nk at *
 generalize t.op=op at *
 generalize t.col=col at *
 generalize t.cell=cell at *
 unfold GivesAt
 go_enter Try.func18,Try.ntmps18
 go_wp2_with fail
 generalize w.alloc _=w2 at *
 refine wp_region_calm (offC w2) (fun _=>false) (fun _=>false) anyE false (by kernel_rfl) (by kernel_rfl) (by kernel_rfl) (by kernel_rfl) (by intro m hm;revert hm;simp;try omega) (offC_stable _) (offC_start _) ?_
 refine calm_fixA rfl rfl ?_
 apply Exists.intro
 refine ⟨fun a wz hc hk hf K hK=>?_,?_⟩
 ·have hb:Below w2.heap.size w2 wz:=hc rfl
  have h2:=hk 2 (by kernel_rfl)
  clear hk hf hc
  obtain ⟨y0,y1,y2,y3,_⟩:=(HX.out.later hb).cells
  go_simp
  exact hK _ _ (Below.refl _ _) rfl
 refine calm_fixA rfl rfl ?_
 apply Exists.intro
 refine ⟨fun a wz hc hk hf K hK=>?_,?_⟩
 ·have h1:=hk 1 (by kernel_rfl)
  clear hk hf hc
  go_simp
  exact hK _ _ (Below.refl _ _) rfl
 refine calm_fixA rfl rfl ?_
 apply Exists.intro
 refine ⟨fun a wz hc hk hf K hK=>?_,?_⟩
 ·have hb:Below w2.heap.size w2 wz:=hc rfl
  have h7:=held_isV hf 1 rfl (by kernel_rfl)
  have h8:=held_isV hf 0 rfl (by kernel_rfl)
  clear hk hf hc
  go_simp
  refine Calls.mono (HK0.out wz (HB2.out.trans (hb.mono HB2.out.size))) ?_
  rintro e w1 ⟨rfl,hq⟩
  exact hK _ _ hq rfl
 refine calm_fixA rfl rfl ?_
 apply Exists.intro
 refine ⟨fun a wz hc hk hf K hK=>?_,?_⟩
 ·have hb:Below w2.heap.size w2 wz:=hc rfl
  have h2:=hk 2 (by kernel_rfl)
  clear hk hf hc
  obtain ⟨y0,y1,y2,y3,_⟩:=(HX.out.later hb).cells
  go_simp
  exact hK _ _ (Below.refl _ _) rfl
 refine calm_fixA rfl rfl ?_
 apply Exists.intro
 refine ⟨fun a wz hc hk hf K hK=>?_,?_⟩
 ·have h1:=hk 1 (by kernel_rfl)
  clear hk hf hc
  go_simp
  exact hK _ _ (Below.refl _ _) rfl
 refine calm_fixA rfl rfl ?_
 apply Exists.intro
 refine ⟨fun a wz hc hk hf K hK=>?_,?_⟩
 ·have hb:Below w2.heap.size w2 wz:=hc rfl
  have h10:=held_isV hf 1 rfl (by kernel_rfl)
  have h11:=held_isV hf 0 rfl (by kernel_rfl)
  clear hk hf hc
  go_simp
  refine Calls.mono (HK1.out wz (HB2.out.trans (hb.mono HB2.out.size))) ?_
  rintro e w1 ⟨rfl,hq⟩
  exact hK _ _ hq rfl
 refine calm_fixA rfl rfl ?_
 apply Exists.intro
 refine ⟨fun a wz hc hk hf K hK=>?_,?_⟩
 ·have h9:=held_isV hf 3 rfl (by kernel_rfl)
  clear hk hf hc
  go_simp
  exact hK _ _ (Below.refl _ _) rfl
 refine calm_fixA rfl rfl ?_
 apply Exists.intro
 refine ⟨fun a wz hc hk hf K hK=>?_,?_⟩
 ·have h12:=held_isV hf 1 rfl (by kernel_rfl)
  clear hk hf hc
  go_simp
  exact hK _ _ (Below.refl _ _) rfl
 refine calm_nil ?_
 refine ⟨keeps_none,?_⟩
 intro w3 hc
 simp only [lexL,calmEnd]
 rintro _ rfl _ rfl _ rfl _ rfl _ rfl _ rfl _ rfl _ rfl
 have hbx:=HB2.out.trans (Below.mono (show Below w2.heap.size w2 w3 from hc rfl) HB2.out.size)
 have HAT:=Lib.hid fun k hk=>HAT.out k hk
 obtain ⟨x0,x1,x2,x3,_⟩:=(HX.out.later (hc rfl)).cells
 have HRC:Hid (∀ k (hk:k < row.length),∃ b off,Ar=some ⟨b,off,none⟩∧w3.cell? ⟨b,off+k,none⟩=some (.string row[k])):=fun k hk=>by
  obtain ⟨b,off,e,hlt,hcc⟩:=HAT.out k hk
  exact ⟨b,off,e,(hbx.cell (p:=⟨b,off+k,none⟩) hlt).trans (hcc k hk)⟩
 have hb:=hbx
 have hB:=hb.size
 clear hc HK0 HK1 HAT hbx HX HB2
 simp only [Act.put,List.setIfInBounds_toArray,List.set_cons_zero,List.set_cons_succ]
 by_cases h99:op=99
 ·subst h99
  have hv0:opC row 99 col cell a b=atC row col:=if_pos rfl
  have HV0:=Lib.hid hv0
  clear hv0
  by_cases h0:0≤col
  ·obtain ⟨c,rfl⟩:∃ c:Nat,col=c:=⟨col.toNat,by omega⟩
   by_cases h1:c < row.length
   ·obtain ⟨b1,off1,rfl,c1⟩:=HRC.out c h1
    have hv:Hid (atC row c=row[c]):=by
     show atC row c=row[c]
     unfold atC
     rw [if_pos ⟨by omega,by omega⟩,List.getD_eq_getElem?_getD,Int.toNat_natCast,List.getElem?_eq_getElem h1]
     rfl
    have i1:(c:Int) < (row.length:Int):=by omega
    have d1:decide ((c:Int) < (row.length:Int))=true:=decide_eq_true i1
    generalize row[c]=rc at *
    go_wp2_with (first|(go_at_call 34;refine (ref_bool_calls _).step (w0:=w) (B:=w.heap.size) hb hB ?_;clear hb hB;intro w1 hb hB)|(go_at_call 36;refine (ref_not_calls _).step (w0:=w) (B:=w.heap.size) hb hB ?_;clear hb hB;intro w1 hb hB)|(go_at_call 35;refine (ref_both_calls _ _).step (w0:=w) (B:=w.heap.size) hb hB ?_;clear hb hB;intro w1 hb hB))
    go_ret
    exact ⟨ret_str (HV0.out.trans hv.out).symm,hb⟩
   ·have hv:Hid (atC row c=noC):=if_neg (by omega)
    have d1:decide ((c:Int) < (row.length:Int))=false:=decide_eq_false (by omega)
    go_wp2_with (first|(go_at_call 34;refine (ref_bool_calls _).step (w0:=w) (B:=w.heap.size) hb hB ?_;clear hb hB;intro w1 hb hB)|(go_at_call 36;refine (ref_not_calls _).step (w0:=w) (B:=w.heap.size) hb hB ?_;clear hb hB;intro w1 hb hB)|(go_at_call 35;refine (ref_both_calls _ _).step (w0:=w) (B:=w.heap.size) hb hB ?_;clear hb hB;intro w1 hb hB))
    go_ret
    exact ⟨ret_str (HV0.out.trans hv.out).symm,hb⟩
  ·have hv:Hid (atC row col=noC):=if_neg (by omega)
   have d0:decide ((0:Int)≤col)=false:=decide_eq_false h0
   go_wp2_with (first|(go_at_call 34;refine (ref_bool_calls _).step (w0:=w) (B:=w.heap.size) hb hB ?_;clear hb hB;intro w1 hb hB)|(go_at_call 36;refine (ref_not_calls _).step (w0:=w) (B:=w.heap.size) hb hB ?_;clear hb hB;intro w1 hb hB)|(go_at_call 35;refine (ref_both_calls _ _).step (w0:=w) (B:=w.heap.size) hb hB ?_;clear hb hB;intro w1 hb hB))
   go_ret
   exact ⟨ret_str (HV0.out.trans hv.out).symm,hb⟩
 ·have e99:(op==99)=false:=by simp [h99]
  by_cases h107:op=107
  ·subst h107
   have hv:Hid (opC row 107 col cell a b=cell):=Lib.hid (by simp [opC])
   go_wp2_with (first|(go_at_call 34;refine (ref_bool_calls _).step (w0:=w) (B:=w.heap.size) hb hB ?_;clear hb hB;intro w1 hb hB)|(go_at_call 36;refine (ref_not_calls _).step (w0:=w) (B:=w.heap.size) hb hB ?_;clear hb hB;intro w1 hb hB)|(go_at_call 35;refine (ref_both_calls _ _).step (w0:=w) (B:=w.heap.size) hb hB ?_;clear hb hB;intro w1 hb hB))
   go_ret
   exact ⟨ret_str hv.out.symm,hb⟩
  ·have e107:(op==107)=false:=by simp [h107]
   by_cases h61:op=61
   ·subst h61
    have hv0:opC row 61 col cell a b=if a=noC∨b=noC then noC else boolCell (decide (a=b)):=by simp [opC]
    have HV0:=Lib.hid hv0
    clear hv0
    rcases no_cases a with ⟨h0,e0,e1⟩ | ⟨h0,e0,e1⟩
    ·have hv:Hid ((if a=noC∨b=noC then noC else boolCell (decide (a=b)))=noC):=if_pos (.inl h0)
     clear h0
     go_wp2_with (first|(go_at_call 34;refine (ref_bool_calls _).step (w0:=w) (B:=w.heap.size) hb hB ?_;clear hb hB;intro w1 hb hB)|(go_at_call 36;refine (ref_not_calls _).step (w0:=w) (B:=w.heap.size) hb hB ?_;clear hb hB;intro w1 hb hB)|(go_at_call 35;refine (ref_both_calls _ _).step (w0:=w) (B:=w.heap.size) hb hB ?_;clear hb hB;intro w1 hb hB))
     go_ret
     exact ⟨ret_str (HV0.out.trans hv.out).symm,hb⟩
    ·rcases no_cases b with ⟨k0,f0,f1⟩ | ⟨k0,f0,f1⟩
     ·have hv:Hid ((if a=noC∨b=noC then noC else boolCell (decide (a=b)))=noC):=if_pos (.inr k0)
      clear h0 k0
      go_wp2_with (first|(go_at_call 34;refine (ref_bool_calls _).step (w0:=w) (B:=w.heap.size) hb hB ?_;clear hb hB;intro w1 hb hB)|(go_at_call 36;refine (ref_not_calls _).step (w0:=w) (B:=w.heap.size) hb hB ?_;clear hb hB;intro w1 hb hB)|(go_at_call 35;refine (ref_both_calls _ _).step (w0:=w) (B:=w.heap.size) hb hB ?_;clear hb hB;intro w1 hb hB))
      go_ret
      exact ⟨ret_str (HV0.out.trans hv.out).symm,hb⟩
     ·have hv0:(if a=noC∨b=noC then noC else boolCell (decide (a=b)))=boolCell (decide (a=b)):=if_neg (fun h=>h.elim h0 k0)
      have HV1:=Lib.hid hv0
      clear hv0 h0 k0
      rcases str_ne_cases a b with ⟨h1,h2,h3⟩ | ⟨h1,h2,h3⟩
      ·have hv:Hid (boolCell (decide (a=b))=boolCell true):=Lib.hid (by rw [decide_eq_true h1])
       clear h1
       go_wp2_with (first|(go_at_call 34;refine (ref_bool_calls _).step (w0:=w) (B:=w.heap.size) hb hB ?_;clear hb hB;intro w1 hb hB)|(go_at_call 36;refine (ref_not_calls _).step (w0:=w) (B:=w.heap.size) hb hB ?_;clear hb hB;intro w1 hb hB)|(go_at_call 35;refine (ref_both_calls _ _).step (w0:=w) (B:=w.heap.size) hb hB ?_;clear hb hB;intro w1 hb hB))
       go_ret
       exact ⟨ret_str (HV0.out.trans (HV1.out.trans hv.out)).symm,hb⟩
      ·have hv:Hid (boolCell (decide (a=b))=boolCell false):=Lib.hid (by rw [decide_eq_false h1])
       clear h1
       go_wp2_with (first|(go_at_call 34;refine (ref_bool_calls _).step (w0:=w) (B:=w.heap.size) hb hB ?_;clear hb hB;intro w1 hb hB)|(go_at_call 36;refine (ref_not_calls _).step (w0:=w) (B:=w.heap.size) hb hB ?_;clear hb hB;intro w1 hb hB)|(go_at_call 35;refine (ref_both_calls _ _).step (w0:=w) (B:=w.heap.size) hb hB ?_;clear hb hB;intro w1 hb hB))
       go_ret
       exact ⟨ret_str (HV0.out.trans (HV1.out.trans hv.out)).symm,hb⟩
   ·have e61:(op==61)=false:=by simp [h61]
    by_cases h60:op=60
    ·subst h60
     have hv0:opC row 60 col cell a b=if a=noC∨b=noC then noC else boolCell (ltB a b):=by simp [opC]
     have HV0:=Lib.hid hv0
     clear hv0
     rcases no_cases a with ⟨h0,e0,e1⟩ | ⟨h0,e0,e1⟩
     ·have hv:Hid ((if a=noC∨b=noC then noC else boolCell (ltB a b))=noC):=if_pos (.inl h0)
      clear h0
      go_wp2_with (first|(go_at_call 34;refine (ref_bool_calls _).step (w0:=w) (B:=w.heap.size) hb hB ?_;clear hb hB;intro w1 hb hB)|(go_at_call 36;refine (ref_not_calls _).step (w0:=w) (B:=w.heap.size) hb hB ?_;clear hb hB;intro w1 hb hB)|(go_at_call 35;refine (ref_both_calls _ _).step (w0:=w) (B:=w.heap.size) hb hB ?_;clear hb hB;intro w1 hb hB))
      go_ret
      exact ⟨ret_str (HV0.out.trans hv.out).symm,hb⟩
     ·rcases no_cases b with ⟨k0,f0,f1⟩ | ⟨k0,f0,f1⟩
      ·have hv:Hid ((if a=noC∨b=noC then noC else boolCell (ltB a b))=noC):=if_pos (.inr k0)
       clear h0 k0
       go_wp2_with (first|(go_at_call 34;refine (ref_bool_calls _).step (w0:=w) (B:=w.heap.size) hb hB ?_;clear hb hB;intro w1 hb hB)|(go_at_call 36;refine (ref_not_calls _).step (w0:=w) (B:=w.heap.size) hb hB ?_;clear hb hB;intro w1 hb hB)|(go_at_call 35;refine (ref_both_calls _ _).step (w0:=w) (B:=w.heap.size) hb hB ?_;clear hb hB;intro w1 hb hB))
       go_ret
       exact ⟨ret_str (HV0.out.trans hv.out).symm,hb⟩
      ·have hv0:(if a=noC∨b=noC then noC else boolCell (ltB a b))=boolCell (ltB a b):=if_neg (fun h=>h.elim h0 k0)
       have HV1:=Lib.hid hv0
       clear hv0 h0 k0
       have hl:ltB a b=Op.bytesLess a.toList b.toList:=rfl
       cases hx:Op.bytesLess a.toList b.toList with
       | true =>
        have hv:Hid (boolCell (ltB a b)=boolCell true):=Lib.hid (by rw [hl,hx])
        clear hl
        go_wp2_with (first|(go_at_call 34;refine (ref_bool_calls _).step (w0:=w) (B:=w.heap.size) hb hB ?_;clear hb hB;intro w1 hb hB)|(go_at_call 36;refine (ref_not_calls _).step (w0:=w) (B:=w.heap.size) hb hB ?_;clear hb hB;intro w1 hb hB)|(go_at_call 35;refine (ref_both_calls _ _).step (w0:=w) (B:=w.heap.size) hb hB ?_;clear hb hB;intro w1 hb hB))
        go_ret
        exact ⟨ret_str (HV0.out.trans (HV1.out.trans hv.out)).symm,hb⟩
       | false =>
        have hv:Hid (boolCell (ltB a b)=boolCell false):=Lib.hid (by rw [hl,hx])
        clear hl
        go_wp2_with (first|(go_at_call 34;refine (ref_bool_calls _).step (w0:=w) (B:=w.heap.size) hb hB ?_;clear hb hB;intro w1 hb hB)|(go_at_call 36;refine (ref_not_calls _).step (w0:=w) (B:=w.heap.size) hb hB ?_;clear hb hB;intro w1 hb hB)|(go_at_call 35;refine (ref_both_calls _ _).step (w0:=w) (B:=w.heap.size) hb hB ?_;clear hb hB;intro w1 hb hB))
        go_ret
        exact ⟨ret_str (HV0.out.trans (HV1.out.trans hv.out)).symm,hb⟩
    ·have e60:(op==60)=false:=by simp [h60]
     by_cases h38:op=38
     ·subst h38
      have hv:Hid (opC row 38 col cell a b=bothC a b):=Lib.hid (by simp [opC])
      go_wp2_with (first|(go_at_call 34;refine (ref_bool_calls _).step (w0:=w) (B:=w.heap.size) hb hB ?_;clear hb hB;intro w1 hb hB)|(go_at_call 36;refine (ref_not_calls _).step (w0:=w) (B:=w.heap.size) hb hB ?_;clear hb hB;intro w1 hb hB)|(go_at_call 35;refine (ref_both_calls _ _).step (w0:=w) (B:=w.heap.size) hb hB ?_;clear hb hB;intro w1 hb hB))
      go_ret
      exact ⟨ret_str hv.out.symm,hb⟩
     ·have e38:(op==38)=false:=by simp [h38]
      by_cases h124:op=124
      ·subst h124
       have hv:Hid (opC row 124 col cell a b=notC (bothC (notC a) (notC b))):=Lib.hid (by simp [opC])
       go_wp2_with (first|(go_at_call 34;refine (ref_bool_calls _).step (w0:=w) (B:=w.heap.size) hb hB ?_;clear hb hB;intro w1 hb hB)|(go_at_call 36;refine (ref_not_calls _).step (w0:=w) (B:=w.heap.size) hb hB ?_;clear hb hB;intro w1 hb hB)|(go_at_call 35;refine (ref_both_calls _ _).step (w0:=w) (B:=w.heap.size) hb hB ?_;clear hb hB;intro w1 hb hB))
       go_ret
       exact ⟨ret_str hv.out.symm,hb⟩
      ·have e124:(op==124)=false:=by simp [h124]
       by_cases h33:op=33
       ·subst h33
        have hv:Hid (opC row 33 col cell a b=notC a):=Lib.hid (by simp [opC])
        go_wp2_with (first|(go_at_call 34;refine (ref_bool_calls _).step (w0:=w) (B:=w.heap.size) hb hB ?_;clear hb hB;intro w1 hb hB)|(go_at_call 36;refine (ref_not_calls _).step (w0:=w) (B:=w.heap.size) hb hB ?_;clear hb hB;intro w1 hb hB)|(go_at_call 35;refine (ref_both_calls _ _).step (w0:=w) (B:=w.heap.size) hb hB ?_;clear hb hB;intro w1 hb hB))
        go_ret
        exact ⟨ret_str hv.out.symm,hb⟩
       ·have e33:(op==33)=false:=by simp [h33]
        by_cases h63:op=63
        ·subst h63
         have hv0:opC row 63 col cell a b=boolCell (decide (a=noC)):=by simp [opC]
         have HV0:=Lib.hid hv0
         clear hv0
         rcases no_cases a with ⟨h0,e0,e1⟩ | ⟨h0,e0,e1⟩
         ·have hv:Hid (boolCell (decide (a=noC))=boolCell true):=Lib.hid (by rw [decide_eq_true h0])
          clear h0
          go_wp2_with (first|(go_at_call 34;refine (ref_bool_calls _).step (w0:=w) (B:=w.heap.size) hb hB ?_;clear hb hB;intro w1 hb hB)|(go_at_call 36;refine (ref_not_calls _).step (w0:=w) (B:=w.heap.size) hb hB ?_;clear hb hB;intro w1 hb hB)|(go_at_call 35;refine (ref_both_calls _ _).step (w0:=w) (B:=w.heap.size) hb hB ?_;clear hb hB;intro w1 hb hB))
          go_ret
          exact ⟨ret_str (HV0.out.trans hv.out).symm,hb⟩
         ·have hv:Hid (boolCell (decide (a=noC))=boolCell false):=Lib.hid (by rw [decide_eq_false h0])
          clear h0
          go_wp2_with (first|(go_at_call 34;refine (ref_bool_calls _).step (w0:=w) (B:=w.heap.size) hb hB ?_;clear hb hB;intro w1 hb hB)|(go_at_call 36;refine (ref_not_calls _).step (w0:=w) (B:=w.heap.size) hb hB ?_;clear hb hB;intro w1 hb hB)|(go_at_call 35;refine (ref_both_calls _ _).step (w0:=w) (B:=w.heap.size) hb hB ?_;clear hb hB;intro w1 hb hB))
          go_ret
          exact ⟨ret_str (HV0.out.trans hv.out).symm,hb⟩
        ·have e63:(op==63)=false:=by simp [h63]
         have hv:Hid (opC row op col cell a b=noC):=Lib.hid (by simp [opC,h99,h107,h61,h60,h38,h124,h33,h63])
         clear h99 h107 h61 h60 h38 h124 h33 h63
         go_wp2_with (first|(go_at_call 34;refine (ref_bool_calls _).step (w0:=w) (B:=w.heap.size) hb hB ?_;clear hb hB;intro w1 hb hB)|(go_at_call 36;refine (ref_not_calls _).step (w0:=w) (B:=w.heap.size) hb hB ?_;clear hb hB;intro w1 hb hB)|(go_at_call 35;refine (ref_both_calls _ _).step (w0:=w) (B:=w.heap.size) hb hB ?_;clear hb hB;intro w1 hb hB))
         go_ret
         exact ⟨ret_str hv.out.symm,hb⟩
end Go.Proofs.Ytcofhnedidllpaa
