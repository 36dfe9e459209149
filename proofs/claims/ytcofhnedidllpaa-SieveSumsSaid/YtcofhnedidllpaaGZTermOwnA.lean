/- The contracts of layer 15's own none, other, both, known, at, part, Eval, Size. -/
import Derived.Test.YtcofhnedidllpaaGZCalm
import Derived.Test.YtcofhnedidllpaaGZTermBox
import Derived.Test.YtcofhnedidllpaaGZTermRefB
namespace Go.Proofs.Ytcofhnedidllpaa
open Go Go.RowKit
theorem term_none_yes {c:ByteArray}(h:c=noC):Gives Try.prog 50 #[.string c] (.bool true):=by
 intro w
 obtain ⟨hb,hB⟩:=start w
 rcases no_cases c with ⟨h0,e0,e1⟩ | ⟨h0,e0,e1⟩
 ·clear h h0
  go_enter Try.func50,Try.ntmps50
  go_wp2
  go_ret
  exact ⟨rfl,hb⟩
 ·exact absurd h h0
theorem term_none_no {c:ByteArray}(h:c≠noC):Gives Try.prog 50 #[.string c] (.bool false):=by
 intro w
 obtain ⟨hb,hB⟩:=start w
 rcases no_cases c with ⟨h0,e0,e1⟩ | ⟨h0,e0,e1⟩
 ·exact absurd h0 h
 ·clear h h0
  go_enter Try.func50,Try.ntmps50
  go_wp2
  go_ret
  exact ⟨rfl,hb⟩
theorem term_none_calls (c:ByteArray):Gives Try.prog 50 #[.string c] (.bool (decide (c=noC))):=by
 by_cases h:c=noC
 ·rw [decide_eq_true h];exact term_none_yes h
 ·rw [decide_eq_false h];exact term_none_no h
theorem term_other_calls (a:ByteArray):Gives Try.prog 49 #[.string a] (.string (notC a)):=by
 intro w
 obtain ⟨hb,hB⟩:=start w
 by_cases h0:a=noC
 ·have HNA:=Lib.hid (term_none_yes h0)
  have hv:Hid (notC a=noC):=by rw [h0];exact Lib.hid notC_no
  clear h0
  go_enter Try.func49,Try.ntmps49
  go_wp2_with (first|(go_at_call_of 50 (a:ByteArray);refine HNA.out.step (w0:=w) (B:=w.heap.size) hb hB ?_;clear hb hB;intro w1 hb hB))
  go_ret
  exact ⟨ret_str hv.out.symm,hb⟩
 ·have HNA:=Lib.hid (term_none_no h0)
  have hv:=Lib.hid (notC_some h0)
  have HYA:=Lib.hid (yes_calls a)
  clear h0
  generalize (a.toList==(boolCell true).toList)=y at *
  cases y
  case' false=>have e:(!false)=true:=rfl
  case' true=>have e:(!true)=false:=rfl
  all_goals
   go_enter Try.func49,Try.ntmps49
   go_wp2_with (first|(go_at_call_of 50 (a:ByteArray);refine HNA.out.step (w0:=w) (B:=w.heap.size) hb hB ?_;clear hb hB;intro w1 hb hB)|(go_at_call_of 37 (a:ByteArray);refine HYA.out.step (w0:=w) (B:=w.heap.size) hb hB ?_;clear hb hB;intro w1 hb hB)|(go_at_call 19;refine (bool_calls _).step (w0:=w) (B:=w.heap.size) hb hB ?_;clear hb hB;intro w1 hb hB))
   go_ret
   exact ⟨ret_str hv.out.symm,hb⟩
theorem term_both_calls (a b:ByteArray):Gives Try.prog 48 #[.string a,.string b] (.string (bothC a b)):=by
 intro w
 obtain ⟨hb,hB⟩:=start w
 have HYA:=Lib.hid (yes_calls a)
 have HYB:=Lib.hid (yes_calls b)
 rcases str_ne_cases a (boolCell false) with ⟨ha,ea,_⟩ | ⟨ha,ea,_⟩
 ·have hv:=Lib.hid (both_no (a:=a) (b:=b) (.inl ha))
  clear ha
  go_enter Try.func48,Try.ntmps48
  go_wp2_with (first|(go_at_call 19;refine (bool_calls _).step (w0:=w) (B:=w.heap.size) hb hB ?_;clear hb hB;intro w1 hb hB))
  go_ret
  exact ⟨ret_str hv.out.symm,hb⟩
 ·rcases str_ne_cases b (boolCell false) with ⟨hbb,eb,_⟩ | ⟨hbb,eb,_⟩
  ·have hv:=Lib.hid (both_no (a:=a) (b:=b) (.inr hbb))
   clear ha hbb
   go_enter Try.func48,Try.ntmps48
   go_wp2_with (first|(go_at_call 19;refine (bool_calls _).step (w0:=w) (B:=w.heap.size) hb hB ?_;clear hb hB;intro w1 hb hB))
   go_ret
   exact ⟨ret_str hv.out.symm,hb⟩
  ·have hn:¬(a=nayC∨b=nayC):=fun h=>h.elim ha hbb
   have hv:Hid (bothC a b=if (a.toList==(boolCell true).toList)=true∧(b.toList==(boolCell true).toList)=true then boolCell true else noC):=by
    show bothC a b=_
    unfold bothC
    rw [if_neg hn,yes_at,yes_at]
    simp only [decide_eq_true_eq]
    rfl
   clear ha hbb hn
   generalize (a.toList==(boolCell true).toList)=ya at *
   generalize (b.toList==(boolCell true).toList)=yb at *
   cases ya
   ·replace hv:Hid (bothC a b=noC):=hv.out.trans (if_neg (by simp))
    go_enter Try.func48,Try.ntmps48
    go_wp2_with (first|(go_at_call_of 37 (a:ByteArray);refine HYA.out.step (w0:=w) (B:=w.heap.size) hb hB ?_;clear hb hB;intro w1 hb hB)|(go_at_call_of 37 (b:ByteArray);refine HYB.out.step (w0:=w) (B:=w.heap.size) hb hB ?_;clear hb hB;intro w1 hb hB)|(go_at_call 19;refine (bool_calls _).step (w0:=w) (B:=w.heap.size) hb hB ?_;clear hb hB;intro w1 hb hB))
    go_ret
    exact ⟨ret_str hv.out.symm,hb⟩
   ·cases yb
    ·replace hv:Hid (bothC a b=noC):=hv.out.trans (if_neg (by simp))
     go_enter Try.func48,Try.ntmps48
     go_wp2_with (first|(go_at_call_of 37 (a:ByteArray);refine HYA.out.step (w0:=w) (B:=w.heap.size) hb hB ?_;clear hb hB;intro w1 hb hB)|(go_at_call_of 37 (b:ByteArray);refine HYB.out.step (w0:=w) (B:=w.heap.size) hb hB ?_;clear hb hB;intro w1 hb hB)|(go_at_call 19;refine (bool_calls _).step (w0:=w) (B:=w.heap.size) hb hB ?_;clear hb hB;intro w1 hb hB))
     go_ret
     exact ⟨ret_str hv.out.symm,hb⟩
    ·replace hv:Hid (bothC a b=boolCell true):=hv.out.trans (if_pos ⟨rfl,rfl⟩)
     go_enter Try.func48,Try.ntmps48
     go_wp2_with (first|(go_at_call_of 37 (a:ByteArray);refine HYA.out.step (w0:=w) (B:=w.heap.size) hb hB ?_;clear hb hB;intro w1 hb hB)|(go_at_call_of 37 (b:ByteArray);refine HYB.out.step (w0:=w) (B:=w.heap.size) hb hB ?_;clear hb hB;intro w1 hb hB)|(go_at_call 19;refine (bool_calls _).step (w0:=w) (B:=w.heap.size) hb hB ?_;clear hb hB;intro w1 hb hB))
     go_ret
     exact ⟨ret_str hv.out.symm,hb⟩
def knownC (a b:ByteArray)(h:Bool):ByteArray:=if a=noC∨b=noC then noC else boolCell h
theorem term_known_calls (a b:ByteArray)(h:Bool):Gives Try.prog 47 #[.string a,.string b,.bool h] (.string (knownC a b h)):=by
 intro w
 obtain ⟨hb,hB⟩:=start w
 by_cases h0:a=noC
 ·have HNA:=Lib.hid (term_none_yes h0)
  have hv:Hid (knownC a b h=noC):=if_pos (.inl h0)
  clear h0
  go_enter Try.func47,Try.ntmps47
  go_wp2_with (first|(go_at_call_of 50 (a:ByteArray);refine HNA.out.step (w0:=w) (B:=w.heap.size) hb hB ?_;clear hb hB;intro w1 hb hB))
  go_ret
  exact ⟨ret_str hv.out.symm,hb⟩
 ·by_cases h1:b=noC
  ·have HNA:=Lib.hid (term_none_no h0)
   have HNB:=Lib.hid (term_none_yes h1)
   have hv:Hid (knownC a b h=noC):=if_pos (.inr h1)
   clear h0 h1
   go_enter Try.func47,Try.ntmps47
   go_wp2_with (first|(go_at_call_of 50 (a:ByteArray);refine HNA.out.step (w0:=w) (B:=w.heap.size) hb hB ?_;clear hb hB;intro w1 hb hB)|(go_at_call_of 50 (b:ByteArray);refine HNB.out.step (w0:=w) (B:=w.heap.size) hb hB ?_;clear hb hB;intro w1 hb hB))
   go_ret
   exact ⟨ret_str hv.out.symm,hb⟩
  ·have HNA:=Lib.hid (term_none_no h0)
   have HNB:=Lib.hid (term_none_no h1)
   have hv:Hid (knownC a b h=boolCell h):=if_neg (fun e=>e.elim h0 h1)
   clear h0 h1
   go_enter Try.func47,Try.ntmps47
   go_wp2_with (first|(go_at_call_of 50 (a:ByteArray);refine HNA.out.step (w0:=w) (B:=w.heap.size) hb hB ?_;clear hb hB;intro w1 hb hB)|(go_at_call_of 50 (b:ByteArray);refine HNB.out.step (w0:=w) (B:=w.heap.size) hb hB ?_;clear hb hB;intro w1 hb hB)|(go_at_call 19;refine (bool_calls _).step (w0:=w) (B:=w.heap.size) hb hB ?_;clear hb hB;intro w1 hb hB))
   go_ret
   exact ⟨ret_str hv.out.symm,hb⟩
theorem term_at_calls {row:List ByteArray}(col:Int){w:World}{rv:Value}(hr:StrsIn w rv row):GivesAt Try.prog 45 #[rv,.int .i64 col] w (.string (atC row col)):=by
 obtain ⟨hb,hB⟩:=start w
 have hm:=hr.len
 unfold maxLen at hm
 obtain ⟨Ar,pr,rfl,hat⟩:=one_at hr
 have HAT:=Lib.hid hat
 unfold GivesAt
 clear hat hr
 by_cases h0:0≤col
 ·obtain ⟨c,rfl⟩:∃ c:Nat,col=c:=⟨col.toNat,by omega⟩
  have d0:decide ((c:Int) < 0)=false:=decide_eq_false (by omega)
  by_cases h1:c < row.length
  ·obtain ⟨b1,off1,rfl,hlt,c1⟩:=HAT.out c h1
   have x1:=c1 c h1
   have hv:Hid (atC row c=row[c]):=by
    show atC row c=row[c]
    unfold atC
    rw [if_pos ⟨by omega,by omega⟩,List.getD_eq_getElem?_getD,Int.toNat_natCast,List.getElem?_eq_getElem h1]
    rfl
   have i1:(c:Int) < (row.length:Int):=by omega
   have d1:decide ((row.length:Int)≤(c:Int))=false:=decide_eq_false (by omega)
   have d2:decide (row.length≤c)=false:=decide_eq_false (by omega)
   clear c1 HAT
   generalize row[c]=rc at *
   go_enter Try.func45,Try.ntmps45
   go_wp2
   go_ret
   exact ⟨ret_str hv.out.symm,hb⟩
  ·have hv:Hid (atC row c=noC):=if_neg (by omega)
   have d1:decide ((row.length:Int)≤(c:Int))=true:=decide_eq_true (by omega)
   have d2:decide (row.length≤c)=true:=decide_eq_true (by omega)
   clear HAT
   go_enter Try.func45,Try.ntmps45
   go_wp2
   go_ret
   exact ⟨ret_str hv.out.symm,hb⟩
 ·have hv:Hid (atC row col=noC):=if_neg (by omega)
  have d0:decide (col < 0)=true:=decide_eq_true (by omega)
  clear HAT
  go_enter Try.func45,Try.ntmps45
  go_wp2
  go_ret
  exact ⟨ret_str hv.out.symm,hb⟩
def OwnEvalAt (row:List ByteArray)(k:Trm):Prop:=∀ (w:World)(v rv:Value),TermIn w v k→StrsIn w rv row→GivesAt Try.prog 38 #[v,rv] w (.string (evalT row k))
theorem term_part_of {row:List ByteArray}{t:Trm}(ih:∀ k∈t.kids,OwnEvalAt row k)(i:Nat){w:World}{v rv:Value}(ht:TermIn w v t)(hr:StrsIn w rv row) :
  GivesAt Try.prog 46 #[v,.int .i64 i,rv] w (.string (kidC row t i)):=by
 obtain ⟨kv,rfl,ho,hk⟩:=ht
 obtain ⟨A,cap,rfl,hat⟩:=kids_at hk
 have hm:=hk.len
 unfold maxLen at hm
 have hb:Below w.heap.size w (w.alloc (.cells #[.int .u8 t.op,.int .i64 t.col,.string t.cell,.slice A t.kids.length cap] 25)):=Below.alloc (.refl w.heap.size w) (Nat.le_refl _) _
 have hB:=hb.size
 unfold GivesAt
 by_cases hi:i < t.kids.length
 ·obtain ⟨b,off,rfl,hb0,hc⟩:=hat i hi
  obtain ⟨kkv,ok,hkk,c0,c1,c2,c3⟩:=hc i hi
  have x0:=(hb.cell (p:=⟨b,off+i*4,none⟩) hb0).trans c0
  have x1:=(hb.cell (p:=⟨b,off+i*4+1,none⟩) hb0).trans c1
  have x2:=(hb.cell (p:=⟨b,off+i*4+2,none⟩) hb0).trans c2
  have x3:=(hb.cell (p:=⟨b,off+i*4+3,none⟩) hb0).trans c3
  have HIH:=Lib.hid (ih t.kids[i] (List.getElem_mem hi) _ (trmA (kkv,t.kids[i])) _ ⟨kkv,rfl,ok,hkk.kept hb⟩ (hr.kept hb))
  rw [kidC_some hi]
  dsimp only [trmA] at HIH ⊢
  have i0:(0:Int)≤(i:Int):=by omega
  have i1:(i:Int) < (t.kids.length:Int):=by omega
  have i2:decide ((t.kids.length:Int)≤(i:Int))=false:=decide_eq_false (by omega)
  obtain ⟨Ar,pr,rfl,-⟩:=one_at hr
  obtain ⟨Ak,pk,rfl,-⟩:=kids_at hkk
  clear hc c0 c1 c2 c3 hat ih hk hkk hr ho
  generalize t.kids[i].kids.length=nk at *
  generalize t.kids[i].op=ok1 at *
  generalize t.kids[i].col=ok2 at *
  generalize t.kids[i].cell=ok3 at *
  generalize evalT row t.kids[i]=ev at *
  go_enter Try.func46,Try.ntmps46
  go_wp2_with (go_at_call 38;refine HIH.out.step (w0:=w) (B:=w.heap.size) hb hB ?_;clear hb hB;intro w1 hb hB)
  go_ret
  exact ⟨rfl,hb⟩
 ·rw [kidC_none (by omega)]
  have i2:decide ((t.kids.length:Int)≤(i:Int))=true:=decide_eq_true (by omega)
  obtain ⟨Ar,pr,rfl,-⟩:=one_at hr
  dsimp only [trmA]
  go_enter Try.func46,Try.ntmps46
  go_wp2
  go_ret
  exact ⟨rfl,hb⟩
set_option maxHeartbeats 4000000 in
theorem own_eval_calls {row:List ByteArray}(t:Trm):OwnEvalAt row t:=by
 refine Trm.ind (P:=OwnEvalAt row) (fun t ih=>?_) t
 intro w v rv ht hr
 have HK0:Hid (∀ W,Below w.heap.size w W→GivesAt Try.prog 46 #[v,.int .i64 0,rv] W (.string (kidC row t 0))):=fun W hW=>term_part_of ih 0 (ht.kept hW) (hr.kept hW)
 have HK1:Hid (∀ W,Below w.heap.size w W→GivesAt Try.prog 46 #[v,.int .i64 1,rv] W (.string (kidC row t 1))):=fun W hW=>term_part_of ih 1 (ht.kept hW) (hr.kept hW)
 have HA:Hid (∀ c W,Below w.heap.size w W→GivesAt Try.prog 45 #[rv,.int .i64 c] W (.string (atC row c))):=fun c W hW=>term_at_calls c (hr.kept hW)
 rw [eval_eq]
 generalize kidC row t 0=a at *
 generalize kidC row t 1=b at *
 obtain ⟨kv,rfl,ho,hk⟩:=ht
 obtain ⟨A,cap,rfl,-⟩:=kids_at hk
 obtain ⟨Ar,pr,rfl,-⟩:=one_at hr
 have hb:Below w.heap.size w (w.alloc (.cells #[.int .u8 t.op,.int .i64 t.col,.string t.cell,.slice A t.kids.length cap] 25)):=Below.alloc (.refl w.heap.size w) (Nat.le_refl _) _
 have hB:=hb.size
 have HB2:=Lib.hid hb
 have HX:=Lib.hid (trmbox_lit w 25 t.op t.col t.cell (.slice A t.kids.length cap))
 dsimp only [trmA] at HK0 HK1 ⊢
 clear ho hk hr ih
 generalize row.length=nr at *
 generalize t.kids.length=nk at *
 generalize t.op=op at *
 generalize t.col=col at *
 generalize t.cell=cell at *
 unfold GivesAt
 by_cases h99:op=99
 ·subst h99
  have hv:Hid (opC row 99 col cell a b=atC row col):=if_pos rfl
  go_enter Try.func38,Try.ntmps38
  go_wp2_with (go_at_call 45;refine (HA.out _ _ HB2.out).step (w0:=w) (B:=w.heap.size) hb hB ?_;clear hb hB;intro w1 hb hB)
  go_ret
  exact ⟨ret_str hv.out.symm,hb⟩
 ·have e99:(op==99)=false:=by simp [h99]
  by_cases h107:op=107
  ·subst h107
   clear h99
   have hv:Hid (opC row 107 col cell a b=cell):=Lib.hid (by simp [opC])
   go_enter Try.func38,Try.ntmps38
   go_wp2
   go_ret
   exact ⟨ret_str hv.out.symm,hb⟩
  ·have e107:(op==107)=false:=by simp [h107]
   by_cases h61:op=61
   ·subst h61
    clear h99 h107
    have HV0:Hid (opC row 61 col cell a b=if a=noC∨b=noC then noC else boolCell (decide (a=b))):=Lib.hid (by simp [opC])
    have hv:Hid (opC row 61 col cell a b=knownC a b (a.toList==b.toList)):=by
     have e:(a.toList==b.toList)=decide (a=b):=by
      rcases str_ne_cases a b with ⟨h1,h2,_⟩ | ⟨h1,h2,_⟩
      ·rw [h2];exact (decide_eq_true h1).symm
      ·rw [h2];exact (decide_eq_false h1).symm
     rw [e];exact HV0
    clear HV0
    go_enter Try.func38,Try.ntmps38
    go_wp2_with fail
    generalize w.alloc _=w2 at *
    refine wp_region_calm (offC w2) (fun _=>false) (fun _=>false) anyE false (by kernel_rfl) (by kernel_rfl) (by kernel_rfl) (by kernel_rfl) (by intro m hm;revert hm;simp;try omega) (offC_stable _) (offC_start _) ?_
    refine calm_fixA rfl rfl ?_
    apply Exists.intro
    refine ⟨fun a wz hc hk hf K hK=>?_,?_⟩
    ·have hb:Below w2.heap.size w2 wz:=hc rfl
     have h2:=hk 2 (by kernel_rfl)
     clear hk hf hc
     obtain ⟨y0,y1,y2,y3,_⟩:=(HX.out.later hb).cells
     go_simp
     exact hK _ _ (Below.refl _ _) rfl
    refine calm_fixA rfl rfl ?_
    apply Exists.intro
    refine ⟨fun a wz hc hk hf K hK=>?_,?_⟩
    ·have h1:=hk 1 (by kernel_rfl)
     clear hk hf hc
     go_simp
     exact hK _ _ (Below.refl _ _) rfl
    refine calm_fixA rfl rfl ?_
    apply Exists.intro
    refine ⟨fun a wz hc hk hf K hK=>?_,?_⟩
    ·have hb:Below w2.heap.size w2 wz:=hc rfl
     have h23:=held_isV hf 1 rfl (by kernel_rfl)
     have h24:=held_isV hf 0 rfl (by kernel_rfl)
     clear hk hf hc
     go_simp
     refine Calls.mono (HK0.out wz (HB2.out.trans (hb.mono HB2.out.size))) ?_
     rintro e w1 ⟨rfl,hq⟩
     exact hK _ _ hq rfl
    refine calm_fixA rfl rfl ?_
    apply Exists.intro
    refine ⟨fun a wz hc hk hf K hK=>?_,?_⟩
    ·have hb:Below w2.heap.size w2 wz:=hc rfl
     have h2:=hk 2 (by kernel_rfl)
     clear hk hf hc
     obtain ⟨y0,y1,y2,y3,_⟩:=(HX.out.later hb).cells
     go_simp
     exact hK _ _ (Below.refl _ _) rfl
    refine calm_fixA rfl rfl ?_
    apply Exists.intro
    refine ⟨fun a wz hc hk hf K hK=>?_,?_⟩
    ·have h1:=hk 1 (by kernel_rfl)
     clear hk hf hc
     go_simp
     exact hK _ _ (Below.refl _ _) rfl
    refine calm_fixA rfl rfl ?_
    apply Exists.intro
    refine ⟨fun a wz hc hk hf K hK=>?_,?_⟩
    ·have hb:Below w2.heap.size w2 wz:=hc rfl
     have h26:=held_isV hf 1 rfl (by kernel_rfl)
     have h27:=held_isV hf 0 rfl (by kernel_rfl)
     clear hk hf hc
     go_simp
     refine Calls.mono (HK1.out wz (HB2.out.trans (hb.mono HB2.out.size))) ?_
     rintro e w1 ⟨rfl,hq⟩
     exact hK _ _ hq rfl
    refine calm_fixA rfl rfl ?_
    apply Exists.intro
    refine ⟨fun a wz hc hk hf K hK=>?_,?_⟩
    ·have h25:=held_isV hf 3 rfl (by kernel_rfl)
     clear hk hf hc
     go_simp
     exact hK _ _ (Below.refl _ _) rfl
    refine calm_fixA rfl rfl ?_
    apply Exists.intro
    refine ⟨fun a wz hc hk hf K hK=>?_,?_⟩
    ·have h28:=held_isV hf 1 rfl (by kernel_rfl)
     clear hk hf hc
     go_simp
     exact hK _ _ (Below.refl _ _) rfl
    refine calm_nil ?_
    refine ⟨keeps_none,?_⟩
    intro w3 hc
    simp only [lexL,calmEnd]
    rintro _ rfl _ rfl _ rfl _ rfl _ rfl _ rfl _ rfl _ rfl
    simp only [Act.put,List.setIfInBounds_toArray,List.set_cons_zero,List.set_cons_succ]
    have hbx:=HB2.out.trans (Below.mono (show Below w2.heap.size w2 w3 from hc rfl) HB2.out.size)
    have hb:=hbx
    have hB:=hb.size
    clear hc HK0 HK1 HA hbx HX HB2
    go_wp2_with (go_at_call 47;refine (term_known_calls _ _ _).step (w0:=w) (B:=w.heap.size) hb hB ?_;clear hb hB;intro w1 hb hB)
    go_ret
    exact ⟨ret_str hv.out.symm,hb⟩
   ·have e61:(op==61)=false:=by simp [h61]
    by_cases h60:op=60
    ·subst h60
     clear h99 h107 h61
     have hv:Hid (opC row 60 col cell a b=knownC a b (Op.bytesLess a.toList b.toList)):=Lib.hid (by simp [opC,ltB,knownC])
     go_enter Try.func38,Try.ntmps38
     go_wp2_with fail
     generalize w.alloc _=w2 at *
     refine wp_region_calm (offC w2) (fun _=>false) (fun _=>false) anyE false (by kernel_rfl) (by kernel_rfl) (by kernel_rfl) (by kernel_rfl) (by intro m hm;revert hm;simp;try omega) (offC_stable _) (offC_start _) ?_
     refine calm_fixA rfl rfl ?_
     apply Exists.intro
     refine ⟨fun a wz hc hk hf K hK=>?_,?_⟩
     ·have hb:Below w2.heap.size w2 wz:=hc rfl
      have h2:=hk 2 (by kernel_rfl)
      clear hk hf hc
      obtain ⟨y0,y1,y2,y3,_⟩:=(HX.out.later hb).cells
      go_simp
      exact hK _ _ (Below.refl _ _) rfl
     refine calm_fixA rfl rfl ?_
     apply Exists.intro
     refine ⟨fun a wz hc hk hf K hK=>?_,?_⟩
     ·have h1:=hk 1 (by kernel_rfl)
      clear hk hf hc
      go_simp
      exact hK _ _ (Below.refl _ _) rfl
     refine calm_fixA rfl rfl ?_
     apply Exists.intro
     refine ⟨fun a wz hc hk hf K hK=>?_,?_⟩
     ·have hb:Below w2.heap.size w2 wz:=hc rfl
      have h37:=held_isV hf 1 rfl (by kernel_rfl)
      have h38:=held_isV hf 0 rfl (by kernel_rfl)
      clear hk hf hc
      go_simp
      refine Calls.mono (HK0.out wz (HB2.out.trans (hb.mono HB2.out.size))) ?_
      rintro e w1 ⟨rfl,hq⟩
      exact hK _ _ hq rfl
     refine calm_fixA rfl rfl ?_
     apply Exists.intro
     refine ⟨fun a wz hc hk hf K hK=>?_,?_⟩
     ·have hb:Below w2.heap.size w2 wz:=hc rfl
      have h2:=hk 2 (by kernel_rfl)
      clear hk hf hc
      obtain ⟨y0,y1,y2,y3,_⟩:=(HX.out.later hb).cells
      go_simp
      exact hK _ _ (Below.refl _ _) rfl
     refine calm_fixA rfl rfl ?_
     apply Exists.intro
     refine ⟨fun a wz hc hk hf K hK=>?_,?_⟩
     ·have h1:=hk 1 (by kernel_rfl)
      clear hk hf hc
      go_simp
      exact hK _ _ (Below.refl _ _) rfl
     refine calm_fixA rfl rfl ?_
     apply Exists.intro
     refine ⟨fun a wz hc hk hf K hK=>?_,?_⟩
     ·have hb:Below w2.heap.size w2 wz:=hc rfl
      have h40:=held_isV hf 1 rfl (by kernel_rfl)
      have h41:=held_isV hf 0 rfl (by kernel_rfl)
      clear hk hf hc
      go_simp
      refine Calls.mono (HK1.out wz (HB2.out.trans (hb.mono HB2.out.size))) ?_
      rintro e w1 ⟨rfl,hq⟩
      exact hK _ _ hq rfl
     refine calm_fixA rfl rfl ?_
     apply Exists.intro
     refine ⟨fun a wz hc hk hf K hK=>?_,?_⟩
     ·have h39:=held_isV hf 3 rfl (by kernel_rfl)
      clear hk hf hc
      go_simp
      exact hK _ _ (Below.refl _ _) rfl
     refine calm_fixA rfl rfl ?_
     apply Exists.intro
     refine ⟨fun a wz hc hk hf K hK=>?_,?_⟩
     ·have h42:=held_isV hf 1 rfl (by kernel_rfl)
      clear hk hf hc
      go_simp
      exact hK _ _ (Below.refl _ _) rfl
     refine calm_nil ?_
     refine ⟨keeps_none,?_⟩
     intro w3 hc
     simp only [lexL,calmEnd]
     rintro _ rfl _ rfl _ rfl _ rfl _ rfl _ rfl _ rfl _ rfl
     simp only [Act.put,List.setIfInBounds_toArray,List.set_cons_zero,List.set_cons_succ]
     have hbx:=HB2.out.trans (Below.mono (show Below w2.heap.size w2 w3 from hc rfl) HB2.out.size)
     have hb:=hbx
     have hB:=hb.size
     clear hc HK0 HK1 HA hbx HX HB2
     go_wp2_with (go_at_call 47;refine (term_known_calls _ _ _).step (w0:=w) (B:=w.heap.size) hb hB ?_;clear hb hB;intro w1 hb hB)
     go_ret
     exact ⟨ret_str hv.out.symm,hb⟩
    ·have e60:(op==60)=false:=by simp [h60]
     by_cases h38:op=38
     ·subst h38
      clear h99 h107 h61 h60
      have hv:Hid (opC row 38 col cell a b=bothC a b):=Lib.hid (by simp [opC])
      go_enter Try.func38,Try.ntmps38
      go_wp2_with fail
      generalize w.alloc _=w2 at *
      refine wp_region_calm (offC w2) (fun _=>false) (fun _=>false) anyE false (by kernel_rfl) (by kernel_rfl) (by kernel_rfl) (by kernel_rfl) (by intro m hm;revert hm;simp;try omega) (offC_stable _) (offC_start _) ?_
      refine calm_fixA rfl rfl ?_
      apply Exists.intro
      refine ⟨fun a wz hc hk hf K hK=>?_,?_⟩
      ·have hb:Below w2.heap.size w2 wz:=hc rfl
       have h2:=hk 2 (by kernel_rfl)
       clear hk hf hc
       obtain ⟨y0,y1,y2,y3,_⟩:=(HX.out.later hb).cells
       go_simp
       exact hK _ _ (Below.refl _ _) rfl
      refine calm_fixA rfl rfl ?_
      apply Exists.intro
      refine ⟨fun a wz hc hk hf K hK=>?_,?_⟩
      ·have h1:=hk 1 (by kernel_rfl)
       clear hk hf hc
       go_simp
       exact hK _ _ (Below.refl _ _) rfl
      refine calm_fixA rfl rfl ?_
      apply Exists.intro
      refine ⟨fun a wz hc hk hf K hK=>?_,?_⟩
      ·have hb:Below w2.heap.size w2 wz:=hc rfl
       have h51:=held_isV hf 1 rfl (by kernel_rfl)
       have h52:=held_isV hf 0 rfl (by kernel_rfl)
       clear hk hf hc
       go_simp
       refine Calls.mono (HK0.out wz (HB2.out.trans (hb.mono HB2.out.size))) ?_
       rintro e w1 ⟨rfl,hq⟩
       exact hK _ _ hq rfl
      refine calm_fixA rfl rfl ?_
      apply Exists.intro
      refine ⟨fun a wz hc hk hf K hK=>?_,?_⟩
      ·have hb:Below w2.heap.size w2 wz:=hc rfl
       have h2:=hk 2 (by kernel_rfl)
       clear hk hf hc
       obtain ⟨y0,y1,y2,y3,_⟩:=(HX.out.later hb).cells
       go_simp
       exact hK _ _ (Below.refl _ _) rfl
      refine calm_fixA rfl rfl ?_
      apply Exists.intro
      refine ⟨fun a wz hc hk hf K hK=>?_,?_⟩
      ·have h1:=hk 1 (by kernel_rfl)
       clear hk hf hc
       go_simp
       exact hK _ _ (Below.refl _ _) rfl
      refine calm_fixA rfl rfl ?_
      apply Exists.intro
      refine ⟨fun a wz hc hk hf K hK=>?_,?_⟩
      ·have hb:Below w2.heap.size w2 wz:=hc rfl
       have h54:=held_isV hf 1 rfl (by kernel_rfl)
       have h55:=held_isV hf 0 rfl (by kernel_rfl)
       clear hk hf hc
       go_simp
       refine Calls.mono (HK1.out wz (HB2.out.trans (hb.mono HB2.out.size))) ?_
       rintro e w1 ⟨rfl,hq⟩
       exact hK _ _ hq rfl
      refine calm_fixA rfl rfl ?_
      apply Exists.intro
      refine ⟨fun a wz hc hk hf K hK=>?_,?_⟩
      ·have hb:Below w2.heap.size w2 wz:=hc rfl
       have h53:=held_isV hf 3 rfl (by kernel_rfl)
       have h56:=held_isV hf 0 rfl (by kernel_rfl)
       clear hk hf hc
       go_simp
       refine Calls.mono ((term_both_calls _ _) wz) ?_
       rintro e w1 ⟨rfl,hq⟩
       exact hK _ _ hq rfl
      refine calm_fixA rfl rfl ?_
      apply Exists.intro
      refine ⟨fun a wz hc hk hf K hK=>?_,?_⟩
      ·have h57:=held_isV hf 0 rfl (by kernel_rfl)
       clear hk hf hc
       go_simp
       exact hK _ _ (Below.refl _ _) rfl
      refine calm_nil ?_
      refine ⟨keeps_none,?_⟩
      intro w3 hc
      simp only [lexL,calmEnd]
      rintro _ rfl _ rfl _ rfl _ rfl _ rfl _ rfl _ rfl _ rfl
      simp only [Act.put,List.setIfInBounds_toArray,List.set_cons_zero,List.set_cons_succ]
      have hbx:=HB2.out.trans (Below.mono (show Below w2.heap.size w2 w3 from hc rfl) HB2.out.size)
      have hb:=hbx
      have hB:=hb.size
      clear hc HK0 HK1 HA hbx HX HB2
      go_wp2
      go_ret
      exact ⟨ret_str hv.out.symm,hb⟩
     ·have e38:(op==38)=false:=by simp [h38]
      by_cases h124:op=124
      ·subst h124
       clear h99 h107 h61 h60 h38
       have hv:Hid (opC row 124 col cell a b=notC (bothC (notC a) (notC b))):=Lib.hid (by simp [opC])
       go_enter Try.func38,Try.ntmps38
       go_wp2_with fail
       generalize w.alloc _=w2 at *
       refine wp_region_calm (offC w2) (fun _=>false) (fun _=>false) anyE false (by kernel_rfl) (by kernel_rfl) (by kernel_rfl) (by kernel_rfl) (by intro m hm;revert hm;simp;try omega) (offC_stable _) (offC_start _) ?_
       refine calm_fixA rfl rfl ?_
       apply Exists.intro
       refine ⟨fun a wz hc hk hf K hK=>?_,?_⟩
       ·have hb:Below w2.heap.size w2 wz:=hc rfl
        have h2:=hk 2 (by kernel_rfl)
        clear hk hf hc
        obtain ⟨y0,y1,y2,y3,_⟩:=(HX.out.later hb).cells
        go_simp
        exact hK _ _ (Below.refl _ _) rfl
       refine calm_fixA rfl rfl ?_
       apply Exists.intro
       refine ⟨fun a wz hc hk hf K hK=>?_,?_⟩
       ·have h1:=hk 1 (by kernel_rfl)
        clear hk hf hc
        go_simp
        exact hK _ _ (Below.refl _ _) rfl
       refine calm_fixA rfl rfl ?_
       apply Exists.intro
       refine ⟨fun a wz hc hk hf K hK=>?_,?_⟩
       ·have hb:Below w2.heap.size w2 wz:=hc rfl
        have h60:=held_isV hf 1 rfl (by kernel_rfl)
        have h61:=held_isV hf 0 rfl (by kernel_rfl)
        clear hk hf hc
        go_simp
        refine Calls.mono (HK0.out wz (HB2.out.trans (hb.mono HB2.out.size))) ?_
        rintro e w1 ⟨rfl,hq⟩
        exact hK _ _ hq rfl
       refine calm_fixA rfl rfl ?_
       apply Exists.intro
       refine ⟨fun a wz hc hk hf K hK=>?_,?_⟩
       ·have hb:Below w2.heap.size w2 wz:=hc rfl
        have h62:=held_isV hf 0 rfl (by kernel_rfl)
        clear hk hf hc
        go_simp
        refine Calls.mono ((term_other_calls _) wz) ?_
        rintro e w1 ⟨rfl,hq⟩
        exact hK _ _ hq rfl
       refine calm_fixA rfl rfl ?_
       apply Exists.intro
       refine ⟨fun a wz hc hk hf K hK=>?_,?_⟩
       ·have hb:Below w2.heap.size w2 wz:=hc rfl
        have h2:=hk 2 (by kernel_rfl)
        clear hk hf hc
        obtain ⟨y0,y1,y2,y3,_⟩:=(HX.out.later hb).cells
        go_simp
        exact hK _ _ (Below.refl _ _) rfl
       refine calm_fixA rfl rfl ?_
       apply Exists.intro
       refine ⟨fun a wz hc hk hf K hK=>?_,?_⟩
       ·have h1:=hk 1 (by kernel_rfl)
        clear hk hf hc
        go_simp
        exact hK _ _ (Below.refl _ _) rfl
       refine calm_fixA rfl rfl ?_
       apply Exists.intro
       refine ⟨fun a wz hc hk hf K hK=>?_,?_⟩
       ·have hb:Below w2.heap.size w2 wz:=hc rfl
        have h64:=held_isV hf 1 rfl (by kernel_rfl)
        have h65:=held_isV hf 0 rfl (by kernel_rfl)
        clear hk hf hc
        go_simp
        refine Calls.mono (HK1.out wz (HB2.out.trans (hb.mono HB2.out.size))) ?_
        rintro e w1 ⟨rfl,hq⟩
        exact hK _ _ hq rfl
       refine calm_fixA rfl rfl ?_
       apply Exists.intro
       refine ⟨fun a wz hc hk hf K hK=>?_,?_⟩
       ·have hb:Below w2.heap.size w2 wz:=hc rfl
        have h66:=held_isV hf 0 rfl (by kernel_rfl)
        clear hk hf hc
        go_simp
        refine Calls.mono ((term_other_calls _) wz) ?_
        rintro e w1 ⟨rfl,hq⟩
        exact hK _ _ hq rfl
       refine calm_fixA rfl rfl ?_
       apply Exists.intro
       refine ⟨fun a wz hc hk hf K hK=>?_,?_⟩
       ·have hb:Below w2.heap.size w2 wz:=hc rfl
        have h63:=held_isV hf 4 rfl (by kernel_rfl)
        have h67:=held_isV hf 0 rfl (by kernel_rfl)
        clear hk hf hc
        go_simp
        refine Calls.mono ((term_both_calls _ _) wz) ?_
        rintro e w1 ⟨rfl,hq⟩
        exact hK _ _ hq rfl
       refine calm_fixA rfl rfl ?_
       apply Exists.intro
       refine ⟨fun a wz hc hk hf K hK=>?_,?_⟩
       ·have hb:Below w2.heap.size w2 wz:=hc rfl
        have h68:=held_isV hf 0 rfl (by kernel_rfl)
        clear hk hf hc
        go_simp
        refine Calls.mono ((term_other_calls _) wz) ?_
        rintro e w1 ⟨rfl,hq⟩
        exact hK _ _ hq rfl
       refine calm_fixA rfl rfl ?_
       apply Exists.intro
       refine ⟨fun a wz hc hk hf K hK=>?_,?_⟩
       ·have h69:=held_isV hf 0 rfl (by kernel_rfl)
        clear hk hf hc
        go_simp
        exact hK _ _ (Below.refl _ _) rfl
       refine calm_nil ?_
       refine ⟨keeps_none,?_⟩
       intro w3 hc
       simp only [lexL,calmEnd]
       rintro _ rfl _ rfl _ rfl _ rfl _ rfl _ rfl _ rfl _ rfl _ rfl _ rfl _ rfl
       simp only [Act.put,List.setIfInBounds_toArray,List.set_cons_zero,List.set_cons_succ]
       have hbx:=HB2.out.trans (Below.mono (show Below w2.heap.size w2 w3 from hc rfl) HB2.out.size)
       have hb:=hbx
       have hB:=hb.size
       clear hc HK0 HK1 HA hbx HX HB2
       go_wp2
       go_ret
       exact ⟨ret_str hv.out.symm,hb⟩
      ·have e124:(op==124)=false:=by simp [h124]
       by_cases h33:op=33
       ·subst h33
        clear h99 h107 h61 h60 h38 h124
        have hv:Hid (opC row 33 col cell a b=notC a):=Lib.hid (by simp [opC])
        go_enter Try.func38,Try.ntmps38
        go_wp2_with (first|(go_at_call 46;refine (HK0.out _ HB2.out).step (w0:=w) (B:=w.heap.size) hb hB ?_;clear hb hB;intro w1 hb hB)|(go_at_call 49;refine (term_other_calls _).step (w0:=w) (B:=w.heap.size) hb hB ?_;clear hb hB;intro w1 hb hB))
        go_ret
        exact ⟨ret_str hv.out.symm,hb⟩
       ·have e33:(op==33)=false:=by simp [h33]
        by_cases h63:op=63
        ·subst h63
         clear h99 h107 h61 h60 h38 h124 h33
         have hv:Hid (opC row 63 col cell a b=boolCell (decide (a=noC))):=Lib.hid (by simp [opC])
         have HN:=Lib.hid (term_none_calls a)
         generalize decide (a=noC)=y at *
         go_enter Try.func38,Try.ntmps38
         go_wp2_with (first|(go_at_call 46;refine (HK0.out _ HB2.out).step (w0:=w) (B:=w.heap.size) hb hB ?_;clear hb hB;intro w1 hb hB)|(go_at_call 50;refine HN.out.step (w0:=w) (B:=w.heap.size) hb hB ?_;clear hb hB;intro w1 hb hB)|(go_at_call 19;refine (bool_calls _).step (w0:=w) (B:=w.heap.size) hb hB ?_;clear hb hB;intro w1 hb hB))
         go_ret
         exact ⟨ret_str hv.out.symm,hb⟩
        ·have e63:(op==63)=false:=by simp [h63]
         have hv:Hid (opC row op col cell a b=noC):=Lib.hid (by simp [opC,h99,h107,h61,h60,h38,h124,h33,h63])
         clear h99 h107 h61 h60 h38 h124 h33 h63
         go_enter Try.func38,Try.ntmps38
         go_wp2
         go_ret
         exact ⟨ret_str hv.out.symm,hb⟩
end Go.Proofs.Ytcofhnedidllpaa
