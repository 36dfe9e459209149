/- The contracts of layer 16's own agree, asked, column, constant, fit, walk, Of, Where. -/
import Derived.Test.YtegpikfgajoopaaGCell
import Derived.Test.YtegpikfgajoopaaGZKindsRefB
import Derived.Test.YtegpikfgajoopaaGZTermOwnA
namespace Go.Proofs.Ytegpikfgajoopaa
open Go Go.RowKit
theorem own_agree_calls (a b:Int)(w:World):Reads Try.prog 25 #[.int .u8 a,.int .u8 b] w (.bool (fitK a b)):=by
 unfold Reads
 by_cases h1:a=b
 ·have d1:(a==b)=true:=by simp [h1]
  have hv:Hid (fitK a b=true):=Lib.hid (by unfold fitK;rw [decide_eq_true h1];rfl)
  clear h1
  go_enter Try.func25,Try.ntmps25
  go_wp2
  go_ret
  exact ⟨ret_bool hv.out.symm,rfl⟩
 ·have d1:(a==b)=false:=by simp [h1]
  by_cases h2:a=0
  ·have d2:(a==0)=true:=by simp [h2]
   have hv:Hid (fitK a b=true):=Lib.hid (by unfold fitK;rw [decide_eq_true h2];simp)
   clear h1 h2
   go_enter Try.func25,Try.ntmps25
   go_wp2
   go_ret
   exact ⟨ret_bool hv.out.symm,rfl⟩
  ·have d2:(a==0)=false:=by simp [h2]
   by_cases h3:b=0
   ·have d3:(b==0)=true:=by simp [h3]
    have hv:Hid (fitK a b=true):=Lib.hid (by unfold fitK;rw [decide_eq_true h3];simp)
    clear h1 h2 h3
    go_enter Try.func25,Try.ntmps25
    go_wp2
    go_ret
    exact ⟨ret_bool hv.out.symm,rfl⟩
   ·have d3:(b==0)=false:=by simp [h3]
    have hv:Hid (fitK a b=false):=Lib.hid (by unfold fitK;rw [decide_eq_false h1,decide_eq_false h2,decide_eq_false h3];rfl)
    clear h1 h2 h3
    go_enter Try.func25,Try.ntmps25
    go_wp2
    go_ret
    exact ⟨ret_bool hv.out.symm,rfl⟩
theorem own_asked_calls (op:Int)(w:World):Reads Try.prog 33 #[.int .u8 op] w (.int .i64 (manyN op)):=by
 unfold Reads
 by_cases h99:op=99
 ·subst h99
  have hv:Hid (manyN 99=0):=Lib.hid (by decide)
  go_enter Try.func33,Try.ntmps33
  go_wp2
  go_ret
  exact ⟨ret_int hv.out.symm,rfl⟩
 ·have e99:(op==99)=false:=by simp [h99]
  by_cases h107:op=107
  ·subst h107
   have hv:Hid (manyN 107=0):=Lib.hid (by decide)
   go_enter Try.func33,Try.ntmps33
   go_wp2
   go_ret
   exact ⟨ret_int hv.out.symm,rfl⟩
  ·have e107:(op==107)=false:=by simp [h107]
   by_cases h33:op=33
   ·subst h33
    have hv:Hid (manyN 33=1):=Lib.hid (by decide)
    go_enter Try.func33,Try.ntmps33
    go_wp2
    go_ret
    exact ⟨ret_int hv.out.symm,rfl⟩
   ·have e33:(op==33)=false:=by simp [h33]
    by_cases h63:op=63
    ·subst h63
     have hv:Hid (manyN 63=1):=Lib.hid (by decide)
     go_enter Try.func33,Try.ntmps33
     go_wp2
     go_ret
     exact ⟨ret_int hv.out.symm,rfl⟩
    ·have e63:(op==63)=false:=by simp [h63]
     by_cases h61:op=61
     ·subst h61
      have hv:Hid (manyN 61=2):=Lib.hid (by decide)
      go_enter Try.func33,Try.ntmps33
      go_wp2
      go_ret
      exact ⟨ret_int hv.out.symm,rfl⟩
     ·have e61:(op==61)=false:=by simp [h61]
      by_cases h60:op=60
      ·subst h60
       have hv:Hid (manyN 60=2):=Lib.hid (by decide)
       go_enter Try.func33,Try.ntmps33
       go_wp2
       go_ret
       exact ⟨ret_int hv.out.symm,rfl⟩
      ·have e60:(op==60)=false:=by simp [h60]
       by_cases h38:op=38
       ·subst h38
        have hv:Hid (manyN 38=2):=Lib.hid (by decide)
        go_enter Try.func33,Try.ntmps33
        go_wp2
        go_ret
        exact ⟨ret_int hv.out.symm,rfl⟩
       ·have e38:(op==38)=false:=by simp [h38]
        by_cases h124:op=124
        ·subst h124
         have hv:Hid (manyN 124=2):=Lib.hid (by decide)
         go_enter Try.func33,Try.ntmps33
         go_wp2
         go_ret
         exact ⟨ret_int hv.out.symm,rfl⟩
        ·have e124:(op==124)=false:=by simp [h124]
         have hv:Hid (manyN op = -1):=Lib.hid (by unfold manyN;rw [if_neg (by omega),if_neg (by omega),if_neg (by omega)])
         clear h99 h107 h33 h63 h61 h60 h38 h124
         go_enter Try.func33,Try.ntmps33
         go_wp2
         go_ret
         exact ⟨ret_int hv.out.symm,rfl⟩
def colK (cols:List (Int×Bool))(col:Int):Int×Int:=if 0≤col∧col < cols.length then ((cols.getD col.toNat (0,false)).1,0) else (0,1)
def cellK (cell:ByteArray):Int×Int:=if rightB cell=true then (kindI cell,0) else (0,1)
def fitsK (op a b:Int):Bool:=if op=61∨op=60 then fitK a b else if op=38∨op=124∨op=33 then fitK a 98&&fitK b 98 else true
theorem topK_rest {cols:List (Int×Bool)}{op col:Int}{cell:ByteArray}{a b:Int}(h1:¬op=99)(h2:¬op=107)(hb:op=33→b=0):topK cols op col cell a b=if fitsK op a b=true then (98,0) else (0,5):=by
 unfold topK fitsK
 rw [if_neg h1,if_neg h2]
 by_cases h3:op=61∨op=60
 ·rw [if_pos h3,if_pos h3]
 ·rw [if_neg h3,if_neg h3]
  by_cases h4:op=38∨op=124
  ·rw [if_pos h4,if_pos (show op=38∨op=124∨op=33 by omega)]
   simp only [Bool.and_eq_true]
  ·rw [if_neg h4]
   by_cases h5:op=33
   ·rw [if_pos h5,if_pos (show op=38∨op=124∨op=33 by omega),hb h5]
    rw [show fitK 0 98=true from rfl,Bool.and_true]
   ·rw [if_neg h5,if_neg (show ¬(op=38∨op=124∨op=33) by omega),if_pos rfl]
theorem own_column_calls {cols:List (Int×Bool)}(col:Int){w:World}{cv:Value}(hc:ColsIn w cv cols):GivesAt Try.prog 34 #[.int .i64 col,cv] w (.tuple #[.int .u8 (colK cols col).1,.int .i64 (colK cols col).2]):=by
 obtain ⟨hb,hB⟩:=start w
 have hm:=hc.len
 unfold maxLen at hm
 obtain ⟨Ac,pc,rfl,hatc⟩:=cols_at hc
 have HATC:=Lib.hid hatc
 have HR:Hid (∀ r,colK cols col=r→r=colK cols col):=fun r h=>h.symm
 have hv:colK cols col=if 0≤col∧col < cols.length then ((cols.getD col.toNat (0,false)).1,0) else (0,1):=rfl
 unfold GivesAt
 clear hatc hc HR
 by_cases h0:0≤col
 ·obtain ⟨c,rfl⟩:∃ c:Nat,col=c:=⟨col.toNat,by omega⟩
  have dz:decide ((c:Int) < 0)=false:=decide_eq_false (by omega)
  by_cases h1:c < cols.length
  ·rw [if_pos ⟨by omega,by omega⟩,List.getD_eq_getElem?_getD,Int.toNat_natCast,List.getElem?_eq_getElem h1,Option.getD_some] at hv
   obtain ⟨b9,off9,ea,hb9,hc9⟩:=HATC.out c h1
   subst ea
   have k0:=(hb.cell (p:=⟨b9,off9+c*2,none⟩) hb9).trans (hc9 c h1).1
   have d1:decide ((cols.length:Int)≤(c:Int))=false:=decide_eq_false (by omega)
   have dn1:decide (cols.length≤c)=false:=decide_eq_false (by omega)
   have i0:(0:Int)≤(c:Int):=by omega
   have i1:(c:Int) < (cols.length:Int):=by omega
   have HV:=Lib.hid hv
   clear hc9 HATC hv
   generalize cols[c].1=ck at *
   go_enter Try.func34,Try.ntmps34
   go_wp2
   go_ret2
   exact ⟨ret2_of (congrArg Prod.fst HV.out) (congrArg Prod.snd HV.out),hb⟩
  ·rw [if_neg (by omega)] at hv
   have d1:decide ((cols.length:Int)≤(c:Int))=true:=decide_eq_true (by omega)
   have dn1:decide (cols.length≤c)=true:=decide_eq_true (by omega)
   have HV:=Lib.hid hv
   clear HATC hv
   go_enter Try.func34,Try.ntmps34
   go_wp2
   go_ret2
   exact ⟨ret2_of (congrArg Prod.fst HV.out) (congrArg Prod.snd HV.out),hb⟩
 ·rw [if_neg (by omega)] at hv
  have dz:decide (col < 0)=true:=decide_eq_true (by omega)
  have HV:=Lib.hid hv
  clear HATC hv
  go_enter Try.func34,Try.ntmps34
  go_wp2
  go_ret2
  exact ⟨ret2_of (congrArg Prod.fst HV.out) (congrArg Prod.snd HV.out),hb⟩
theorem own_constant_calls (c:ByteArray):Gives Try.prog 35 #[.string c] (.tuple #[.int .u8 (cellK c).1,.int .i64 (cellK c).2]):=by
 intro w
 obtain ⟨hb,hB⟩:=start w
 have hv:cellK c=if rightB c=true then (kindI c,0) else (0,1):=rfl
 have HRB:=right_calls c
 have HKB:=kind_calls c
 cases hrb:rightB c with
 | true =>
  rw [hrb,if_pos rfl] at hv
  rw [hrb] at HRB
  have HV:=Lib.hid hv
  clear hv hrb
  go_enter Try.func35,Try.ntmps35
  go_wp2_with (first|(go_at_call 16;refine HRB.step (w0:=w) (B:=w.heap.size) hb hB ?_;clear hb hB;intro w9 hb hB)|(go_at_call 17;refine HKB.step (w0:=w) (B:=w.heap.size) hb hB ?_;clear hb hB;intro w10 hb hB))
  go_ret2
  exact ⟨ret2_of (congrArg Prod.fst HV.out) (congrArg Prod.snd HV.out),hb⟩
 | false =>
  rw [hrb,if_neg (by decide)] at hv
  rw [hrb] at HRB
  have HV:=Lib.hid hv
  clear hv hrb
  go_enter Try.func35,Try.ntmps35
  go_wp2_with (go_at_call 16;refine HRB.step (w0:=w) (B:=w.heap.size) hb hB ?_;clear hb hB;intro w9 hb hB)
  go_ret2
  exact ⟨ret2_of (congrArg Prod.fst HV.out) (congrArg Prod.snd HV.out),hb⟩
theorem own_fit_calls (op a b:Int)(w:World):Reads Try.prog 36 #[.int .u8 op,.int .u8 a,.int .u8 b] w (.bool (fitsK op a b)):=by
 unfold Reads
 have hv:fitsK op a b=if op=61∨op=60 then fitK a b else if op=38∨op=124∨op=33 then fitK a 98&&fitK b 98 else true:=rfl
 by_cases h61:op=61
 ·subst h61
  rw [if_pos (by decide)] at hv
  have HV:=Lib.hid hv
  clear hv
  go_enter Try.func36,Try.ntmps36
  go_wp2_with (go_at_call 25;refine (own_agree_calls a b _).step ?_)
  go_ret
  exact ⟨ret_bool HV.out.symm,rfl⟩
 ·have e61:(op==61)=false:=by simp [h61]
  by_cases h60:op=60
  ·subst h60
   rw [if_pos (by decide)] at hv
   have HV:=Lib.hid hv
   clear hv
   go_enter Try.func36,Try.ntmps36
   go_wp2_with (go_at_call 25;refine (own_agree_calls a b _).step ?_)
   go_ret
   exact ⟨ret_bool HV.out.symm,rfl⟩
  ·have e60:(op==60)=false:=by simp [h60]
   by_cases h38:op=38
   ·subst h38
    rw [if_neg (by decide),if_pos (by decide)] at hv
    have HFA:=Lib.hid fun (W:World)=>own_agree_calls a 98 W
    have HFB:=Lib.hid fun (W:World)=>own_agree_calls b 98 W
    generalize fitK a 98=f at *
    generalize fitK b 98=g at *
    cases f with
    | true =>
     rw [Bool.true_and] at hv
     have HV:=Lib.hid hv
     clear hv
     go_enter Try.func36,Try.ntmps36
     go_wp2_with (first|(go_at_call_of 25 (Value.int .u8 a);refine (HFA.out _).step ?_;clear HFA)|(go_at_call_of 25 (Value.int .u8 b);refine (HFB.out _).step ?_))
     go_ret
     exact ⟨ret_bool HV.out.symm,rfl⟩
    | false =>
     rw [Bool.false_and] at hv
     have HV:=Lib.hid hv
     clear hv
     go_enter Try.func36,Try.ntmps36
     go_wp2_with (go_at_call_of 25 (Value.int .u8 a);refine (HFA.out _).step ?_)
     go_ret
     exact ⟨ret_bool HV.out.symm,rfl⟩
   ·have e38:(op==38)=false:=by simp [h38]
    by_cases h124:op=124
    ·subst h124
     rw [if_neg (by decide),if_pos (by decide)] at hv
     have HFA:=Lib.hid fun (W:World)=>own_agree_calls a 98 W
     have HFB:=Lib.hid fun (W:World)=>own_agree_calls b 98 W
     generalize fitK a 98=f at *
     generalize fitK b 98=g at *
     cases f with
     | true =>
      rw [Bool.true_and] at hv
      have HV:=Lib.hid hv
      clear hv
      go_enter Try.func36,Try.ntmps36
      go_wp2_with (first|(go_at_call_of 25 (Value.int .u8 a);refine (HFA.out _).step ?_;clear HFA)|(go_at_call_of 25 (Value.int .u8 b);refine (HFB.out _).step ?_))
      go_ret
      exact ⟨ret_bool HV.out.symm,rfl⟩
     | false =>
      rw [Bool.false_and] at hv
      have HV:=Lib.hid hv
      clear hv
      go_enter Try.func36,Try.ntmps36
      go_wp2_with (go_at_call_of 25 (Value.int .u8 a);refine (HFA.out _).step ?_)
      go_ret
      exact ⟨ret_bool HV.out.symm,rfl⟩
    ·have e124:(op==124)=false:=by simp [h124]
     by_cases h33:op=33
     ·subst h33
      rw [if_neg (by decide),if_pos (by decide)] at hv
      have HFA:=Lib.hid fun (W:World)=>own_agree_calls a 98 W
      have HFB:=Lib.hid fun (W:World)=>own_agree_calls b 98 W
      generalize fitK a 98=f at *
      generalize fitK b 98=g at *
      cases f with
      | true =>
       rw [Bool.true_and] at hv
       have HV:=Lib.hid hv
       clear hv
       go_enter Try.func36,Try.ntmps36
       go_wp2_with (first|(go_at_call_of 25 (Value.int .u8 a);refine (HFA.out _).step ?_;clear HFA)|(go_at_call_of 25 (Value.int .u8 b);refine (HFB.out _).step ?_))
       go_ret
       exact ⟨ret_bool HV.out.symm,rfl⟩
      | false =>
       rw [Bool.false_and] at hv
       have HV:=Lib.hid hv
       clear hv
       go_enter Try.func36,Try.ntmps36
       go_wp2_with (go_at_call_of 25 (Value.int .u8 a);refine (HFA.out _).step ?_)
       go_ret
       exact ⟨ret_bool HV.out.symm,rfl⟩
     ·have e33:(op==33)=false:=by simp [h33]
      rw [if_neg (by omega),if_neg (by omega)] at hv
      have HV:=Lib.hid hv
      clear hv h61 h60 h38 h124 h33
      go_enter Try.func36,Try.ntmps36
      go_wp2
      go_ret
      exact ⟨ret_bool HV.out.symm,rfl⟩
def OwnWalkAt (cols:List (Int×Bool))(t:Trm):Prop:=∀ (w:World)(v cv:Value),TermIn w v t→ColsIn w cv cols→GivesAt Try.prog 23 #[v,cv] w (.tuple #[.int .u8 (ofK cols t).1,.int .i64 (ofK cols t).2])
set_option maxHeartbeats 8000000 in
theorem own_walk_calls {cols:List (Int×Bool)}(t:Trm):OwnWalkAt cols t:=by
 refine Trm.ind (P:=OwnWalkAt cols) (fun t ih=>?_) t
 intro w v cv ht hc
 obtain ⟨op,col,cell,ks⟩:=t
 obtain ⟨kv,rfl,ho,hk⟩:=ht
 replace hk:KidsIn w kv ks:=hk
 have hm:=hk.len
 have hmc:=hc.len
 unfold maxLen at hm hmc
 obtain ⟨A,cap,rfl,hat⟩:=kids_at hk
 have HCV:=Lib.hid hc
 obtain ⟨Ac,pc,rfl,hatc⟩:=cols_at hc
 have HAT:=Lib.hid hat
 have HIH:Hid (∀ k∈ks,OwnWalkAt cols k):=fun k hk=>ih k hk
 have ha1:=Below.alloc (.refl w.heap.size w) (Nat.le_refl _) (.cells #[.int .u8 op,.int .i64 col,.string cell,.slice A ks.length cap] 24)
 have HB1:=Lib.hid ha1
 have HX:=Lib.hid (trmbox_lit w 24 op col cell (.slice A ks.length cap))
 have HE:=Lib.hid (ofK_eq cols op col cell ks)
 dsimp only [trmA,Trm.op,Trm.col,Trm.cell]
 unfold GivesAt
 generalize ofK cols (.mk op col cell ks)=res at *
 obtain ⟨rk,re⟩:=res
 clear ho hk hat hc hatc ih ha1
 dsimp only
 by_cases hn:(ks.length:Int)=manyN op
 ·have e1:((ks.length:Int) != manyN op)=false:=by simp [hn]
  have h2:ks.length≤2:=by have:=many_le op;omega
  have H33:Hid (op=33→ks.length=1):=fun h=>by
   have h3:=hn
   rw [h,show manyN 33=1 from by decide] at h3
   omega
  have HE2:Hid (∀ r,ofKs cols ks=r→(match r with
   | .inl e=>(rk=0∧re=e)
   | .inr l=>(rk,re)=topK cols op col cell (l.getD 0 0) (l.getD 1 0))):=fun r hr=>by
    have h:=HE.out
    rw [if_pos hn,hr] at h
    cases r with
    | inl e=>exact ⟨congrArg Prod.fst h,congrArg Prod.snd h⟩
    | inr l=>exact h
  clear HE
  obtain ⟨mn,hmn⟩:∃ m,manyN op=m:=⟨_,rfl⟩
  clear hn hmn
  go_enter Try.func23,Try.ntmps23
  go_wp2_with fail
  generalize w.alloc _=w2 at *
  refine wp_region_calm (offC w2) (fun _=>false) (fun _=>false) anyE false (by kernel_rfl) (by kernel_rfl) (by kernel_rfl) (by kernel_rfl) (by intro m hm;revert hm;simp;try omega) (offC_stable _) (offC_start _) ?_
  refine calm_fixA rfl rfl ?_
  apply Exists.intro
  refine ⟨fun a wz hc hk hf K hK=>?_,?_⟩
  ·have h2:=hk 2 (by kernel_rfl)
   clear hk hf hc
   go_simp
   exact hK _ _ (Below.refl _ _) rfl
  refine calm_fixA rfl rfl ?_
  apply Exists.intro
  refine ⟨fun a wz hc hk hf K hK=>?_,?_⟩
  ·have hb:Below w2.heap.size w2 wz:=hc rfl
   have h11:=held_isV hf 0 rfl (by kernel_rfl)
   clear hk hf hc
   obtain ⟨y0,y1,y2,y3,_⟩:=(HX.out.later hb).cells
   go_simp
   exact hK _ _ (Below.refl _ _) rfl
  refine calm_fixA rfl rfl ?_
  apply Exists.intro
  refine ⟨fun a wz hc hk hf K hK=>?_,?_⟩
  ·have h12:=held_isV hf 0 rfl (by kernel_rfl)
   clear hk hf hc
   go_simp
   exact hK _ _ (Below.refl _ _) rfl
  refine calm_fixA rfl rfl ?_
  apply Exists.intro
  refine ⟨fun a wz hc hk hf K hK=>?_,?_⟩
  ·have h2:=hk 2 (by kernel_rfl)
   clear hk hf hc
   go_simp
   exact hK _ _ (Below.refl _ _) rfl
  refine calm_fixA rfl rfl ?_
  apply Exists.intro
  refine ⟨fun a wz hc hk hf K hK=>?_,?_⟩
  ·have hb:Below w2.heap.size w2 wz:=hc rfl
   have h14:=held_isV hf 0 rfl (by kernel_rfl)
   clear hk hf hc
   obtain ⟨y0,y1,y2,y3,_⟩:=(HX.out.later hb).cells
   go_simp
   exact hK _ _ (Below.refl _ _) rfl
  refine calm_fixA rfl rfl ?_
  apply Exists.intro
  refine ⟨fun a wz hc hk hf K hK=>?_,?_⟩
  ·have hb:Below w2.heap.size w2 wz:=hc rfl
   have h15:=held_isV hf 0 rfl (by kernel_rfl)
   clear hk hf hc
   go_simp
   refine Calls.mono ((own_asked_calls op wz).gives) ?_
   rintro e w1 ⟨rfl,hq⟩
   exact hK _ _ hq rfl
  refine calm_fixA rfl rfl ?_
  apply Exists.intro
  refine ⟨fun a wz hc hk hf K hK=>?_,?_⟩
  ·have h13:=held_isV hf 3 rfl (by kernel_rfl)
   have h16:=held_isV hf 0 rfl (by kernel_rfl)
   clear hk hf hc
   go_simp
   exact hK _ _ (Below.refl _ _) rfl
  refine calm_nil ?_
  refine ⟨keeps_none,?_⟩
  intro w3 hc
  simp only [lexL,calmEnd]
  rintro _ rfl _ rfl _ rfl _ rfl _ rfl _ rfl _ rfl
  have hq:Below w2.heap.size w2 w3:=hc rfl
  have HX3:=Lib.hid (HX.out.later hq)
  have HB3:=Lib.hid (HB1.out.trans (hq.mono HB1.out.size))
  clear hc hq HX HB1
  simp only [Act.put,List.setIfInBounds_toArray,List.set_cons_zero,List.set_cons_succ]
  have ha4:=Below.alloc (.refl w3.heap.size w3) (Nat.le_refl _) (.cells #[.int .u8 0,.int .u8 0] 60)
  have HB4:=Lib.hid (HB3.out.trans (ha4.mono HB3.out.size))
  have HX4:=Lib.hid (HX3.out.later ha4)
  have HA4:=Lib.hid (abox_lit w3 60 0 0)
  have HOX:Hid (w.heap.size < w3.heap.size):=HX3.out.cells.2.2.2.2
  obtain ⟨y0,y1,y2,y3,_⟩:=HX4.out.cells
  clear ha4 HX3 HB3
  go_wp2
  clear y0 y1 y2 y3
  generalize w3.alloc _=w4 at *
  generalize w3.heap.size=O at *
  go_loopw [21] (fun i wr=>∃ (j:Nat) (l:List Int),j≤ks.length∧i=.int .i64 j∧Hid (ofKs cols (ks.take j)=.inr l)∧Hid (ABox wr O (l.getD 0 0) (l.getD 1 0))∧Hid (TrmBox wr w.heap.size op col cell (.slice A ks.length cap))∧Below w.heap.size w wr) (fun i _=>ks.length-(intOf i).toNat)
  case atStart=>exact ⟨0,[],Nat.zero_le _,rfl,by rw [List.take_zero,ofKs];exact Lib.hid rfl,HA4,HX4,HB4.out⟩
  case round =>
   clear HA4 HX4 HB4
   obtain ⟨j,l,hj,rfl,HL,HA,HX,hb⟩:=hrel
   have hB:=hb.size
   by_cases hlt:j < ks.length
   ·obtain ⟨b,off,ea,hb0,hc⟩:=HAT.out j hlt
    subst ea
    obtain ⟨kkv,ok,hkk,c0,c1,c2,c3⟩:=hc j hlt
    have x0:=(hb.cell (p:=⟨b,off+j*4,none⟩) hb0).trans c0
    have x1:=(hb.cell (p:=⟨b,off+j*4+1,none⟩) hb0).trans c1
    have x2:=(hb.cell (p:=⟨b,off+j*4+2,none⟩) hb0).trans c2
    have x3:=(hb.cell (p:=⟨b,off+j*4+3,none⟩) hb0).trans c3
    have i0:(0:Int)≤(j:Int):=by omega
    have i1:(j:Int) < (ks.length:Int):=by omega
    have d1:decide ((j:Int) < (ks.length:Int))=true:=decide_eq_true i1
    obtain ⟨Ak,pk,rfl,-⟩:=kids_at hkk
    have hq0:=Below.alloc (.refl wr.heap.size wr) (Nat.le_refl _) (.cells #[.int .u8 ks[j].op,.int .i64 ks[j].col,.string ks[j].cell,.slice Ak ks[j].kids.length pk] 24)
    have hb2:=hb.trans (hq0.mono hB)
    have hcc:=HIH.out ks[j] (List.getElem_mem hlt) _ (trmA (.slice Ak ks[j].kids.length pk,ks[j])) _ ⟨_,rfl,ok,hkk.kept hb2⟩ (HCV.out.kept hb2)
    dsimp only [trmA] at hcc
    have hll:l.length=j:=by
     have:=ofKs_len HL.out
     rw [List.length_take] at this
     omega
    have HST:Hid ((ofK cols ks[j]).2=0→ofKs cols (ks.take (j+1))=.inr (l++[(ofK cols ks[j]).1])):=fun h=>ofKs_step hlt HL.out h
    have HSP:Hid ((ofK cols ks[j]).2≠0→rk=0∧re=(ofK cols ks[j]).2):=fun h=>HE2.out _ (ofKs_stop hlt HL.out h)
    have HC:=Lib.hid hcc
    have HA2:=Lib.hid (HA.out.later hq0)
    have HX2:=Lib.hid (HX.out.later hq0)
    clear hc c0 c1 c2 c3 hkk ok hcc hb hB hq0 HA HX
    generalize ks[j].kids.length=nk at *
    generalize ks[j].op=ok1 at *
    generalize ks[j].col=ok2 at *
    generalize ks[j].cell=ok3 at *
    generalize ofK cols ks[j]=kr at *
    obtain ⟨ka,ke⟩:=kr
    dsimp only at HC HST HSP
    by_cases hz:ke=0
    ·have HS2:=Lib.hid (HST.out hz)
     subst hz
     clear HST HSP
     have hj2:j < 2:=by omega
     have HB2:=Lib.hid hb2
     clear hb2
     go_wp2_with fail
     refine Calls.mono HC.out ?_
     clear x0 x1 x2 x3
     rintro e w5 ⟨rfl,hq⟩
     have HA:=Lib.hid (HA2.out.later hq)
     have HX:=Lib.hid (HX2.out.later hq)
     have hb:=HB2.out.trans (hq.mono HB2.out.size)
     clear hq HB2 HA2 HX2
     obtain ⟨z0,z1,_⟩:=HA.out.cells
     obtain ⟨f0,f1⟩:=HA.out.free
     have hO:=HOX.out
     obtain rfl|rfl:j=0∨j=1:=by omega
     ·obtain rfl:l=[]:=List.eq_nil_of_length_eq_zero hll
      have HP:=Lib.hid (HA.out.put0 ka)
      have hg:=setCells_grown O [.int .u8 ka] 0 w5
      simp only [World.setCells] at hg
      have HX6:=Lib.hid (HX.out.other hg (by simp only [ne_eq,Option.some.injEq];omega))
      have HB6:=Lib.hid (hb.setCell (p:=⟨O,0,none⟩) (by show w.heap.size≤O;omega) (.int .u8 ka))
      clear hg hb HA HX HC hll
      go_wp2
      go_roundw
      case rel=>exact ⟨1,[ka],by omega,by go_num,HS2,HP,HX6,HB6.out⟩
      case measure=>simp [intOf];omega
     ·obtain ⟨p0,rfl⟩:∃ x,l=[x]:=List.length_eq_one_iff.1 hll
      have HP:=Lib.hid (HA.out.put1 ka)
      have hg:=setCells_grown O [.int .u8 ka] 1 w5
      simp only [World.setCells] at hg
      have HX6:=Lib.hid (HX.out.other hg (by simp only [ne_eq,Option.some.injEq];omega))
      have HB6:=Lib.hid (hb.setCell (p:=⟨O,1,none⟩) (by show w.heap.size≤O;omega) (.int .u8 ka))
      clear hg hb HA HX HC hll
      go_wp2
      go_roundw
      case rel=>exact ⟨2,[p0,ka],by omega,by go_num,HS2,HP,HX6,HB6.out⟩
      case measure=>simp [intOf];omega
    ·have HR2:=Lib.hid (HSP.out hz)
     have dk:(ke != 0)=true:=by simp [hz]
     have hB2:=hb2.size
     clear HST HSP hz
     go_wp2_with (go_at_call 23;refine HC.out.step (w0:=w) (B:=w.heap.size) hb2 hB2 ?_;clear hb2 hB2 x0 x1 x2 x3;intro w5 hb hB)
     go_ret2
     exact ⟨ret2_of HR2.out.1 HR2.out.2,hb⟩
   ·obtain rfl:j=ks.length:=by omega
    rw [List.take_length] at HL
    have HTOP:(rk,re)=topK cols op col cell (l.getD 0 0) (l.getD 1 0):=HE2.out _ HL.out
    have H0:Hid (op=33→l.getD 1 0=0):=fun h=>by
     have h1:=ofKs_len HL.out
     rw [H33.out h] at h1
     obtain ⟨p0,rfl⟩:∃ x,l=[x]:=List.length_eq_one_iff.1 h1
     rfl
    have dl:decide ((ks.length:Int) < (ks.length:Int))=false:=decide_eq_false (by omega)
    generalize l.getD 0 0=x0 at *
    generalize l.getD 1 0=y0 at *
    obtain ⟨z0,z1,_⟩:=HA.out.cells
    obtain ⟨y0',y1',y2',y3',_⟩:=HX.out.cells
    clear HL hj hlt HE2
    by_cases h99:op=99
    ·subst h99
     have HRES:Hid (rk=(colK cols col).1∧re=(colK cols col).2):=⟨congrArg Prod.fst HTOP,congrArg Prod.snd HTOP⟩
     have HCC:=Lib.hid (own_column_calls col (HCV.out.kept hb))
     generalize colK cols col=ck at *
     clear HTOP HCV
     go_wp2_with (go_at_call 34;refine HCC.out.step (w0:=w) (B:=w.heap.size) hb hB ?_;clear hb hB z0 z1 y0' y1' y2' y3';intro w9 hb hB)
     go_ret2
     exact ⟨ret2_of HRES.out.1 HRES.out.2,hb⟩
    ·have e99:(op==99)=false:=by simp [h99]
     by_cases h107:op=107
     ·subst h107
      have e0:topK cols 107 col cell x0 y0=cellK cell:=by simp [topK,cellK]
      rw [e0] at HTOP
      have HRES:Hid (rk=(cellK cell).1∧re=(cellK cell).2):=⟨congrArg Prod.fst HTOP,congrArg Prod.snd HTOP⟩
      have HCC:=Lib.hid (own_constant_calls cell)
      generalize cellK cell=ck at *
      clear HTOP HCV e0
      go_wp2_with (go_at_call 35;refine HCC.out.step (w0:=w) (B:=w.heap.size) hb hB ?_;clear hb hB z0 z1 y0' y1' y2' y3';intro w9 hb hB)
      go_ret2
      exact ⟨ret2_of HRES.out.1 HRES.out.2,hb⟩
     ·have e107:(op==107)=false:=by simp [h107]
      rw [topK_rest h99 h107 H0.out] at HTOP
      cases hf:fitsK op x0 y0 with
      | true =>
       rw [hf,if_pos rfl] at HTOP
       have HRES:Hid (rk=98∧re=0):=⟨congrArg Prod.fst HTOP,congrArg Prod.snd HTOP⟩
       have HFF:=Lib.hid (hf▸own_fit_calls op x0 y0 wr)
       clear HTOP hf h99 h107 HCV
       go_wp2_with (go_at_call 36;refine HFF.out.step ?_)
       go_ret2
       exact ⟨ret2_of HRES.out.1 HRES.out.2,hb⟩
      | false =>
       rw [hf,if_neg (by decide)] at HTOP
       have HRES:Hid (rk=0∧re=5):=⟨congrArg Prod.fst HTOP,congrArg Prod.snd HTOP⟩
       have HFF:=Lib.hid (hf▸own_fit_calls op x0 y0 wr)
       clear HTOP hf h99 h107 HCV
       go_wp2_with (go_at_call 36;refine HFF.out.step ?_)
       go_ret2
       exact ⟨ret2_of HRES.out.1 HRES.out.2,hb⟩
 ·have e1:((ks.length:Int) != manyN op)=true:=by simp [hn]
  have HE2:Hid (rk=0∧re=1):=by
   have h:=HE.out
   rw [if_neg hn] at h
   exact ⟨congrArg Prod.fst h,congrArg Prod.snd h⟩
  clear hn HE
  go_enter Try.func23,Try.ntmps23
  go_wp2_with fail
  generalize w.alloc _=w2 at *
  refine wp_region_calm (offC w2) (fun _=>false) (fun _=>false) anyE false (by kernel_rfl) (by kernel_rfl) (by kernel_rfl) (by kernel_rfl) (by intro m hm;revert hm;simp;try omega) (offC_stable _) (offC_start _) ?_
  refine calm_fixA rfl rfl ?_
  apply Exists.intro
  refine ⟨fun a wz hc hk hf K hK=>?_,?_⟩
  ·have h2:=hk 2 (by kernel_rfl)
   clear hk hf hc
   go_simp
   exact hK _ _ (Below.refl _ _) rfl
  refine calm_fixA rfl rfl ?_
  apply Exists.intro
  refine ⟨fun a wz hc hk hf K hK=>?_,?_⟩
  ·have hb:Below w2.heap.size w2 wz:=hc rfl
   have h11:=held_isV hf 0 rfl (by kernel_rfl)
   clear hk hf hc
   obtain ⟨y0,y1,y2,y3,_⟩:=(HX.out.later hb).cells
   go_simp
   exact hK _ _ (Below.refl _ _) rfl
  refine calm_fixA rfl rfl ?_
  apply Exists.intro
  refine ⟨fun a wz hc hk hf K hK=>?_,?_⟩
  ·have h12:=held_isV hf 0 rfl (by kernel_rfl)
   clear hk hf hc
   go_simp
   exact hK _ _ (Below.refl _ _) rfl
  refine calm_fixA rfl rfl ?_
  apply Exists.intro
  refine ⟨fun a wz hc hk hf K hK=>?_,?_⟩
  ·have h2:=hk 2 (by kernel_rfl)
   clear hk hf hc
   go_simp
   exact hK _ _ (Below.refl _ _) rfl
  refine calm_fixA rfl rfl ?_
  apply Exists.intro
  refine ⟨fun a wz hc hk hf K hK=>?_,?_⟩
  ·have hb:Below w2.heap.size w2 wz:=hc rfl
   have h14:=held_isV hf 0 rfl (by kernel_rfl)
   clear hk hf hc
   obtain ⟨y0,y1,y2,y3,_⟩:=(HX.out.later hb).cells
   go_simp
   exact hK _ _ (Below.refl _ _) rfl
  refine calm_fixA rfl rfl ?_
  apply Exists.intro
  refine ⟨fun a wz hc hk hf K hK=>?_,?_⟩
  ·have hb:Below w2.heap.size w2 wz:=hc rfl
   have h15:=held_isV hf 0 rfl (by kernel_rfl)
   clear hk hf hc
   go_simp
   refine Calls.mono ((own_asked_calls op wz).gives) ?_
   rintro e w1 ⟨rfl,hq⟩
   exact hK _ _ hq rfl
  refine calm_fixA rfl rfl ?_
  apply Exists.intro
  refine ⟨fun a wz hc hk hf K hK=>?_,?_⟩
  ·have h13:=held_isV hf 3 rfl (by kernel_rfl)
   have h16:=held_isV hf 0 rfl (by kernel_rfl)
   clear hk hf hc
   go_simp
   exact hK _ _ (Below.refl _ _) rfl
  refine calm_nil ?_
  refine ⟨keeps_none,?_⟩
  intro w3 hc
  simp only [lexL,calmEnd]
  rintro _ rfl _ rfl _ rfl _ rfl _ rfl _ rfl _ rfl
  have hq:Below w2.heap.size w2 w3:=hc rfl
  have HX3:=Lib.hid (HX.out.later hq)
  have HB3:=Lib.hid (HB1.out.trans (hq.mono HB1.out.size))
  clear hc hq HX HB1
  simp only [Act.put,List.setIfInBounds_toArray,List.set_cons_zero,List.set_cons_succ]
  go_wp2
  go_ret2
  exact ⟨ret2_of HE2.out.1 HE2.out.2,HB3.out⟩
theorem kinds_of_calls {cols:List (Int×Bool)}(t:Trm)(_hs:sizeT t≤1000){w:World}{v cv:Value}(ht:TermIn w v t)(hc:ColsIn w cv cols):GivesAt Try.prog 9 #[v,cv] w (.tuple #[.int .u8 (kindK cols t).1,.int .i64 (kindK cols t).2]):=by
 have HSZ:Hid (∀ W,Below w.heap.size w W→GivesAt Try.prog 22 #[v] W (.int .i64 (wrap64 (sizeT t:Nat)))):=fun W hW=>own_size_calls t W v (ht.kept hW)
 have HOF:Hid (∀ W,Below w.heap.size w W→GivesAt Try.prog 23 #[v,cv] W (.tuple #[.int .u8 (ofK cols t).1,.int .i64 (ofK cols t).2])):=fun W hW=>own_walk_calls t W v cv (ht.kept hW) (hc.kept hW)
 obtain ⟨A,cap,rfl⟩:=ht.parts15
 obtain ⟨Ac,pc,rfl,-⟩:=cols_at hc
 have hb:Below w.heap.size w (w.alloc (.cells #[.int .u8 t.op,.int .i64 t.col,.string t.cell,.slice A t.kids.length cap] 24)):=Below.alloc (.refl w.heap.size w) (Nat.le_refl _) _
 have hB:=hb.size
 have HX:=Lib.hid (trmbox_lit w 24 t.op t.col t.cell (.slice A t.kids.length cap))
 unfold GivesAt
 have hv:kindK cols t=if 30 < wrap64 (sizeT t:Nat) then (0,8) else ofK cols t:=rfl
 have HV:=Lib.hid hv
 clear ht hc hv
 generalize kindK cols t=r at *
 generalize wrap64 (sizeT t:Nat)=sz at *
 generalize ofK cols t=q at *
 by_cases h:30 < sz
 ·have HR:Hid (r=(0,8)):=Lib.hid (by rw [HV.out,if_pos h])
  have d1:decide (30 < sz)=true:=decide_eq_true h
  clear h HV
  go_enter Try.func9,Try.ntmps9
  go_wp2_with (go_at_call 22;refine (HSZ.out _ hb).step (w0:=w) (B:=w.heap.size) hb hB ?_;clear hb hB;intro w1 hb hB)
  go_ret2
  exact ⟨ret2_of (congrArg Prod.fst HR.out) (congrArg Prod.snd HR.out),hb⟩
 ·have HR:Hid (r=q):=Lib.hid (by rw [HV.out,if_neg h])
  have d1:decide (30 < sz)=false:=decide_eq_false h
  clear h HV
  go_enter Try.func9,Try.ntmps9
  go_wp2_with fail
  refine (HSZ.out _ hb).stepB (w0:=w) (B:=w.heap.size) hb hB ?_
  clear hb hB
  intro w1 hb hB hq
  obtain ⟨y0,y1,y2,y3,_⟩:=(HX.out.later hq).cells
  clear hq
  go_wp2_with (go_at_call 23;refine (HOF.out _ hb).step (w0:=w) (B:=w.heap.size) hb hB ?_;clear hb hB y0 y1 y2 y3;intro w2 hb hB)
  go_ret2
  exact ⟨ret2_of (congrArg Prod.fst HR.out) (congrArg Prod.snd HR.out),hb⟩
theorem kinds_where_calls {cols:List (Int×Bool)}(t:Trm)(hs:sizeT t≤1000){w:World}{v cv:Value}(ht:TermIn w v t)(hc:ColsIn w cv cols):GivesAt Try.prog 11 #[v,cv] w (.int .i64 (whereK cols t)):=by
 have HOF:Hid (∀ W,Below w.heap.size w W→GivesAt Try.prog 9 #[v,cv] W (.tuple #[.int .u8 (kindK cols t).1,.int .i64 (kindK cols t).2])):=fun W hW=>kinds_of_calls t hs (ht.kept hW) (hc.kept hW)
 obtain ⟨A,cap,rfl⟩:=ht.parts15
 obtain ⟨Ac,pc,rfl,-⟩:=cols_at hc
 have hb:Below w.heap.size w (w.alloc (.cells #[.int .u8 t.op,.int .i64 t.col,.string t.cell,.slice A t.kids.length cap] 24)):=Below.alloc (.refl w.heap.size w) (Nat.le_refl _) _
 have hB:=hb.size
 unfold GivesAt
 have hv:whereK cols t=if (kindK cols t).2=0 then (if fitK (kindK cols t).1 98=true then 0 else 5) else (kindK cols t).2:=rfl
 have HV:=Lib.hid hv
 clear ht hc hv
 generalize whereK cols t=r at *
 generalize kindK cols t=q at *
 obtain ⟨qk,qe⟩:=q
 dsimp only at HV HOF
 by_cases h:qe=0
 ·subst h
  cases hf:fitK qk 98 with
  | true =>
   have HF:=Lib.hid fun (W:World)=>hf▸own_agree_calls qk 98 W
   have HR:Hid (r=0):=Lib.hid (by rw [HV.out,if_pos rfl,hf,if_pos rfl])
   clear hf HV
   go_enter Try.func11,Try.ntmps11
   go_wp2_with (first|(go_at_call 9;refine (HOF.out _ hb).step (w0:=w) (B:=w.heap.size) hb hB ?_;clear hb hB;intro w1 hb hB)|(go_at_call 25;refine (HF.out _).step ?_))
   go_ret
   exact ⟨ret_int HR.out.symm,hb⟩
  | false =>
   have HF:=Lib.hid fun (W:World)=>hf▸own_agree_calls qk 98 W
   have HR:Hid (r=5):=Lib.hid (by rw [HV.out,if_pos rfl,hf,if_neg (by decide)])
   clear hf HV
   go_enter Try.func11,Try.ntmps11
   go_wp2_with (first|(go_at_call 9;refine (HOF.out _ hb).step (w0:=w) (B:=w.heap.size) hb hB ?_;clear hb hB;intro w1 hb hB)|(go_at_call 25;refine (HF.out _).step ?_))
   go_ret
   exact ⟨ret_int HR.out.symm,hb⟩
 ·have d1:(qe==0)=false:=by simp [h]
  have HR:Hid (r=qe):=Lib.hid (by rw [HV.out,if_neg h])
  clear h HV
  go_enter Try.func11,Try.ntmps11
  go_wp2_with (go_at_call 9;refine (HOF.out _ hb).step (w0:=w) (B:=w.heap.size) hb hB ?_;clear hb hB;intro w1 hb hB)
  go_ret
  exact ⟨ret_int HR.out.symm,hb⟩
end Go.Proofs.Ytegpikfgajoopaa
