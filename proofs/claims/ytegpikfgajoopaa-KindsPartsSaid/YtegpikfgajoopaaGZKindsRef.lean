/- The contracts of layer 16's answer: fit, many, of, Of, Where. -/
import Derived.Test.YtegpikfgajoopaaGBlockUnder
import Derived.Test.YtegpikfgajoopaaGZKindsPure
import Derived.Test.YtegpikfgajoopaaGZTermRefB
namespace Go.Proofs.Ytegpikfgajoopaa
open Go Go.RowKit
theorem ref_fit16_calls (a b:Int)(w:World):Reads Try.prog 26 #[.int .u8 a,.int .u8 b] w (.bool (fitK a b)):=by
 unfold Reads
 by_cases h1:a=b
 ·have d1:(a==b)=true:=by simp [h1]
  have hv:Hid (fitK a b=true):=Lib.hid (by unfold fitK;rw [decide_eq_true h1];rfl)
  clear h1
  go_enter Try.func26,Try.ntmps26
  go_wp2
  go_ret
  exact ⟨ret_bool hv.out.symm,rfl⟩
 ·have d1:(a==b)=false:=by simp [h1]
  by_cases h2:a=0
  ·have d2:(a==0)=true:=by simp [h2]
   have hv:Hid (fitK a b=true):=Lib.hid (by unfold fitK;rw [decide_eq_true h2];simp)
   clear h1 h2
   go_enter Try.func26,Try.ntmps26
   go_wp2
   go_ret
   exact ⟨ret_bool hv.out.symm,rfl⟩
  ·have d2:(a==0)=false:=by simp [h2]
   by_cases h3:b=0
   ·have d3:(b==0)=true:=by simp [h3]
    have hv:Hid (fitK a b=true):=Lib.hid (by unfold fitK;rw [decide_eq_true h3];simp)
    clear h1 h2 h3
    go_enter Try.func26,Try.ntmps26
    go_wp2
    go_ret
    exact ⟨ret_bool hv.out.symm,rfl⟩
   ·have d3:(b==0)=false:=by simp [h3]
    have hv:Hid (fitK a b=false):=Lib.hid (by unfold fitK;rw [decide_eq_false h1,decide_eq_false h2,decide_eq_false h3];rfl)
    clear h1 h2 h3
    go_enter Try.func26,Try.ntmps26
    go_wp2
    go_ret
    exact ⟨ret_bool hv.out.symm,rfl⟩
theorem ref_many_calls (op:Int)(w:World):Reads Try.prog 37 #[.int .u8 op] w (.int .i64 (manyN op)):=by
 unfold Reads
 by_cases h99:op=99
 ·subst h99
  have hv:Hid (manyN 99=0):=Lib.hid (by decide)
  go_enter Try.func37,Try.ntmps37
  go_wp2
  go_ret
  exact ⟨ret_int hv.out.symm,rfl⟩
 ·have e99:(op==99)=false:=by simp [h99]
  by_cases h107:op=107
  ·subst h107
   have hv:Hid (manyN 107=0):=Lib.hid (by decide)
   go_enter Try.func37,Try.ntmps37
   go_wp2
   go_ret
   exact ⟨ret_int hv.out.symm,rfl⟩
  ·have e107:(op==107)=false:=by simp [h107]
   by_cases h33:op=33
   ·subst h33
    have hv:Hid (manyN 33=1):=Lib.hid (by decide)
    go_enter Try.func37,Try.ntmps37
    go_wp2
    go_ret
    exact ⟨ret_int hv.out.symm,rfl⟩
   ·have e33:(op==33)=false:=by simp [h33]
    by_cases h63:op=63
    ·subst h63
     have hv:Hid (manyN 63=1):=Lib.hid (by decide)
     go_enter Try.func37,Try.ntmps37
     go_wp2
     go_ret
     exact ⟨ret_int hv.out.symm,rfl⟩
    ·have e63:(op==63)=false:=by simp [h63]
     by_cases h61:op=61
     ·subst h61
      have hv:Hid (manyN 61=2):=Lib.hid (by decide)
      go_enter Try.func37,Try.ntmps37
      go_wp2
      go_ret
      exact ⟨ret_int hv.out.symm,rfl⟩
     ·have e61:(op==61)=false:=by simp [h61]
      by_cases h60:op=60
      ·subst h60
       have hv:Hid (manyN 60=2):=Lib.hid (by decide)
       go_enter Try.func37,Try.ntmps37
       go_wp2
       go_ret
       exact ⟨ret_int hv.out.symm,rfl⟩
      ·have e60:(op==60)=false:=by simp [h60]
       by_cases h38:op=38
       ·subst h38
        have hv:Hid (manyN 38=2):=Lib.hid (by decide)
        go_enter Try.func37,Try.ntmps37
        go_wp2
        go_ret
        exact ⟨ret_int hv.out.symm,rfl⟩
       ·have e38:(op==38)=false:=by simp [h38]
        by_cases h124:op=124
        ·subst h124
         have hv:Hid (manyN 124=2):=Lib.hid (by decide)
         go_enter Try.func37,Try.ntmps37
         go_wp2
         go_ret
         exact ⟨ret_int hv.out.symm,rfl⟩
        ·have e124:(op==124)=false:=by simp [h124]
         have hv:Hid (manyN op = -1):=Lib.hid (by unfold manyN;rw [if_neg (by omega),if_neg (by omega),if_neg (by omega)])
         clear h99 h107 h33 h63 h61 h60 h38 h124
         go_enter Try.func37,Try.ntmps37
         go_wp2
         go_ret
         exact ⟨ret_int hv.out.symm,rfl⟩
theorem ret2_of {rk re a b:Int}(h1:rk=a)(h2:re=b):Ending.returned (.tuple #[.int .u8 a,.int .i64 b])=.returned (.tuple #[.int .u8 rk,.int .i64 re]):=by rw [h1,h2]
def ABox (w:World)(B:Nat)(x y:Int):Prop:=Own w B 2 (.slice (some ⟨B,0,none⟩) 1 1) 1 [.int .u8 x,.int .u8 y]
section
variable {w w':World}{B:Nat}{x y:Int}
theorem ABox.cells (h:ABox w B x y):w.cell? ⟨B,0,none⟩=some (.int .u8 x)∧w.cell? ⟨B,1,none⟩=some (.int .u8 y)∧B < w.heap.size:=by
 obtain ⟨_,h2,_,hc,_⟩:=Own.parts h
 have e0:=hc 0 _ rfl
 have e1:=hc 1 _ rfl
 rw [Nat.zero_add] at e0 e1
 exact ⟨e0,e1,h2⟩
theorem ABox.free (h:ABox w B x y):w.frozen? ⟨B,0,none⟩=false∧w.frozen? ⟨B,1,none⟩=false:=by
 obtain ⟨_,_,_,_,hr⟩:=Own.parts h
 have e0:=(hr 0 (by decide)).2
 have e1:=(hr 1 (by decide)).2
 rw [Nat.zero_add] at e0 e1
 exact ⟨e0,e1⟩
theorem ABox.later (h:ABox w B x y)(hb:Below w.heap.size w w'):ABox w' B x y:=Own.later h hb
theorem ABox.put0 (h:ABox w B x y)(z:Int):ABox (w.setCell ⟨B,0,none⟩ (.int .u8 z)) B z y:=by
 have:=Own.stored h 0 (by decide) (.int .u8 z)
 simp only [Nat.zero_add] at this
 exact this
theorem ABox.put1 (h:ABox w B x y)(z:Int):ABox (w.setCell ⟨B,1,none⟩ (.int .u8 z)) B x z:=by
 have:=Own.stored h 1 (by decide) (.int .u8 z)
 simp only [Nat.zero_add] at this
 exact this
theorem abox_lit (w:World)(T:TypeId)(x y:Int):ABox (w.alloc (.cells #[.int .u8 x,.int .u8 y] T)) w.heap.size x y :=
 Own.lit (size:=2) w #[.int .u8 x,.int .u8 y] T 1 (Nat.le_refl _) (by unfold maxLen;omega) rfl
end
def RefOfAt (cols:List (Int×Bool))(t:Trm):Prop:=∀ (w:World)(v cv:Value),TermIn w v t→ColsIn w cv cols→GivesAt Try.prog 24 #[v,cv] w (.tuple #[.int .u8 (ofK cols t).1,.int .i64 (ofK cols t).2])
theorem many_le (op:Int):manyN op≤2:=by
 unfold manyN
 split
 ·decide
 ·split
  ·decide
  ·split <;> decide
set_option maxHeartbeats 8000000 in
theorem ref_of16_calls {cols:List (Int×Bool)}(t:Trm):RefOfAt cols t:=by
 refine Trm.ind (P:=RefOfAt cols) (fun t ih=>?_) t
 intro w v cv ht hc
 obtain ⟨op,col,cell,ks⟩:=t
 obtain ⟨kv,rfl,ho,hk⟩:=ht
 replace hk:KidsIn w kv ks:=hk
 have hm:=hk.len
 have hmc:=hc.len
 unfold maxLen at hm hmc
 obtain ⟨A,cap,rfl,hat⟩:=kids_at hk
 obtain ⟨Ac,pc,rfl,hatc⟩:=cols_at hc
 have HAT:=Lib.hid hat
 have HATC:=Lib.hid hatc
 have HCV:=Lib.hid hc
 have HIH:Hid (∀ k∈ks,RefOfAt cols k):=fun k hk=>ih k hk
 have ha1:=Below.alloc (.refl w.heap.size w) (Nat.le_refl _) (.cells #[.int .u8 op,.int .i64 col,.string cell,.slice A ks.length cap] 24)
 have HB1:=Lib.hid ha1
 have HX:=Lib.hid (trmbox_lit w 24 op col cell (.slice A ks.length cap))
 have HE:=Lib.hid (ofK_eq cols op col cell ks)
 dsimp only [trmA,Trm.op,Trm.col,Trm.cell]
 unfold GivesAt
 generalize ofK cols (.mk op col cell ks)=res at *
 obtain ⟨rk,re⟩:=res
 clear ho hk hat hc hatc ih ha1
 dsimp only
 by_cases hn:(ks.length:Int)=manyN op
 ·have e1:((ks.length:Int) != manyN op)=false:=by simp [hn]
  have h2:ks.length≤2:=by have:=many_le op;omega
  have HE2:Hid (∀ r,ofKs cols ks=r→(match r with
   | .inl e=>(rk=0∧re=e)
   | .inr l=>(rk,re)=topK cols op col cell (l.getD 0 0) (l.getD 1 0))):=fun r hr=>by
    have h:=HE.out
    rw [if_pos hn,hr] at h
    cases r with
    | inl e=>exact ⟨congrArg Prod.fst h,congrArg Prod.snd h⟩
    | inr l=>exact h
  clear HE
  obtain ⟨mn,hmn⟩:∃ m,manyN op=m:=⟨_,rfl⟩
  clear hn hmn
  go_enter Try.func24,Try.ntmps24
  go_wp2_with fail
  generalize w.alloc _=w2 at *
  refine wp_region_calm (offC w2) (fun _=>false) (fun _=>false) anyE false (by kernel_rfl) (by kernel_rfl) (by kernel_rfl) (by kernel_rfl) (by intro m hm;revert hm;simp;try omega) (offC_stable _) (offC_start _) ?_
  refine calm_fixA rfl rfl ?_
  apply Exists.intro
  refine ⟨fun a wz hc hk hf K hK=>?_,?_⟩
  ·have h2:=hk 2 (by kernel_rfl)
   clear hk hf hc
   go_simp
   exact hK _ _ (Below.refl _ _) rfl
  refine calm_fixA rfl rfl ?_
  apply Exists.intro
  refine ⟨fun a wz hc hk hf K hK=>?_,?_⟩
  ·have hb:Below w2.heap.size w2 wz:=hc rfl
   have h10:=held_isV hf 0 rfl (by kernel_rfl)
   clear hk hf hc
   obtain ⟨y0,y1,y2,y3,_⟩:=(HX.out.later hb).cells
   go_simp
   exact hK _ _ (Below.refl _ _) rfl
  refine calm_fixA rfl rfl ?_
  apply Exists.intro
  refine ⟨fun a wz hc hk hf K hK=>?_,?_⟩
  ·have h11:=held_isV hf 0 rfl (by kernel_rfl)
   clear hk hf hc
   go_simp
   exact hK _ _ (Below.refl _ _) rfl
  refine calm_fixA rfl rfl ?_
  apply Exists.intro
  refine ⟨fun a wz hc hk hf K hK=>?_,?_⟩
  ·have h2:=hk 2 (by kernel_rfl)
   clear hk hf hc
   go_simp
   exact hK _ _ (Below.refl _ _) rfl
  refine calm_fixA rfl rfl ?_
  apply Exists.intro
  refine ⟨fun a wz hc hk hf K hK=>?_,?_⟩
  ·have hb:Below w2.heap.size w2 wz:=hc rfl
   have h13:=held_isV hf 0 rfl (by kernel_rfl)
   clear hk hf hc
   obtain ⟨y0,y1,y2,y3,_⟩:=(HX.out.later hb).cells
   go_simp
   exact hK _ _ (Below.refl _ _) rfl
  refine calm_fixA rfl rfl ?_
  apply Exists.intro
  refine ⟨fun a wz hc hk hf K hK=>?_,?_⟩
  ·have hb:Below w2.heap.size w2 wz:=hc rfl
   have h14:=held_isV hf 0 rfl (by kernel_rfl)
   clear hk hf hc
   go_simp
   refine Calls.mono ((ref_many_calls op wz).gives) ?_
   rintro e w1 ⟨rfl,hq⟩
   exact hK _ _ hq rfl
  refine calm_fixA rfl rfl ?_
  apply Exists.intro
  refine ⟨fun a wz hc hk hf K hK=>?_,?_⟩
  ·have h12:=held_isV hf 3 rfl (by kernel_rfl)
   have h15:=held_isV hf 0 rfl (by kernel_rfl)
   clear hk hf hc
   go_simp
   exact hK _ _ (Below.refl _ _) rfl
  refine calm_nil ?_
  refine ⟨keeps_none,?_⟩
  intro w3 hc
  simp only [lexL,calmEnd]
  rintro _ rfl _ rfl _ rfl _ rfl _ rfl _ rfl _ rfl
  have hq:Below w2.heap.size w2 w3:=hc rfl
  have HX3:=Lib.hid (HX.out.later hq)
  have HB3:=Lib.hid (HB1.out.trans (hq.mono HB1.out.size))
  clear hc hq HX HB1
  simp only [Act.put,List.setIfInBounds_toArray,List.set_cons_zero,List.set_cons_succ]
  have ha4:=Below.alloc (.refl w3.heap.size w3) (Nat.le_refl _) (.cells #[.int .u8 0,.int .u8 0] 60)
  have HB4:=Lib.hid (HB3.out.trans (ha4.mono HB3.out.size))
  have HX4:=Lib.hid (HX3.out.later ha4)
  have HA4:=Lib.hid (abox_lit w3 60 0 0)
  have HOX:Hid (w.heap.size < w3.heap.size):=HX3.out.cells.2.2.2.2
  clear ha4 HX3 HB3
  go_wp2
  generalize w3.alloc _=w4 at *
  generalize w3.heap.size=O at *
  go_loopw [7] (fun i wr=>∃ (j:Nat) (l:List Int),j≤ks.length∧i=.int .i64 j∧Hid (ofKs cols (ks.take j)=.inr l)∧Hid (ABox wr O (l.getD 0 0) (l.getD 1 0))∧Hid (TrmBox wr w.heap.size op col cell (.slice A ks.length cap))∧Below w.heap.size w wr) (fun i _=>ks.length-(intOf i).toNat)
  case atStart=>exact ⟨0,[],Nat.zero_le _,rfl,by rw [List.take_zero,ofKs];exact Lib.hid rfl,HA4,HX4,HB4.out⟩
  case round =>
   clear HA4 HX4 HB4
   obtain ⟨j,l,hj,rfl,HL,HA,HX,hb⟩:=hrel
   have hB:=hb.size
   obtain ⟨y0',y1',y2',y3',_⟩:=HX.out.cells
   by_cases hlt:j < ks.length
   ·obtain ⟨b,off,ea,hb0,hc⟩:=HAT.out j hlt
    subst ea
    obtain ⟨kkv,ok,hkk,c0,c1,c2,c3⟩:=hc j hlt
    have x0:=(hb.cell (p:=⟨b,off+j*4,none⟩) hb0).trans c0
    have x1:=(hb.cell (p:=⟨b,off+j*4+1,none⟩) hb0).trans c1
    have x2:=(hb.cell (p:=⟨b,off+j*4+2,none⟩) hb0).trans c2
    have x3:=(hb.cell (p:=⟨b,off+j*4+3,none⟩) hb0).trans c3
    have i0:(0:Int)≤(j:Int):=by omega
    have i1:(j:Int) < (ks.length:Int):=by omega
    have hcc:=HIH.out ks[j] (List.getElem_mem hlt) wr (trmA (kkv,ks[j])) _ ⟨kkv,rfl,ok,hkk.kept hb⟩ (HCV.out.kept hb)
    dsimp only [trmA] at hcc
    have hll:l.length=j:=by
     have:=ofKs_len HL.out
     rw [List.length_take] at this
     omega
    have HST:Hid ((ofK cols ks[j]).2=0→ofKs cols (ks.take (j+1))=.inr (l++[(ofK cols ks[j]).1])):=fun h=>ofKs_step hlt HL.out h
    have HSP:Hid ((ofK cols ks[j]).2≠0→rk=0∧re=(ofK cols ks[j]).2):=fun h=>HE2.out _ (ofKs_stop hlt HL.out h)
    obtain ⟨Ak,pk,rfl,-⟩:=kids_at hkk
    have HC:=Lib.hid hcc
    clear hc c0 c1 c2 c3 hkk ok hcc
    generalize ks[j].kids.length=nk at *
    generalize ks[j].op=ok1 at *
    generalize ks[j].col=ok2 at *
    generalize ks[j].cell=ok3 at *
    generalize ofK cols ks[j]=kr at *
    obtain ⟨ka,ke⟩:=kr
    dsimp only at HC HST HSP
    by_cases hz:ke=0
    ·have HS2:=Lib.hid (HST.out hz)
     subst hz
     clear HST HSP
     have hj2:j < 2:=by omega
     go_wp2_with fail
     refine Calls.mono HC.out ?_
     clear x0 x1 x2 x3 y0' y1' y2' y3'
     rintro e w5 ⟨rfl,hq⟩
     replace HA:=Lib.hid (HA.out.later hq)
     replace HX:=Lib.hid (HX.out.later hq)
     replace hb:=hb.trans (hq.mono hb.size)
     clear hq hB
     obtain ⟨z0,z1,_⟩:=HA.out.cells
     obtain ⟨f0,f1⟩:=HA.out.free
     have hO:=HOX.out
     obtain rfl|rfl:j=0∨j=1:=by omega
     ·obtain rfl:l=[]:=List.eq_nil_of_length_eq_zero hll
      have HP:=Lib.hid (HA.out.put0 ka)
      have hg:=setCells_grown O [.int .u8 ka] 0 w5
      simp only [World.setCells] at hg
      have HX6:=Lib.hid (HX.out.other hg (by simp only [ne_eq,Option.some.injEq];omega))
      have HB6:=Lib.hid (hb.setCell (p:=⟨O,0,none⟩) (by show w.heap.size≤O;omega) (.int .u8 ka))
      clear hg hb HA HX HC hll
      go_wp2
      go_roundw
      case rel=>exact ⟨1,[ka],by omega,by go_num,HS2,HP,HX6,HB6.out⟩
      case measure=>simp [intOf];omega
     ·obtain ⟨p0,rfl⟩:∃ x,l=[x]:=List.length_eq_one_iff.1 hll
      have HP:=Lib.hid (HA.out.put1 ka)
      have hg:=setCells_grown O [.int .u8 ka] 1 w5
      simp only [World.setCells] at hg
      have HX6:=Lib.hid (HX.out.other hg (by simp only [ne_eq,Option.some.injEq];omega))
      have HB6:=Lib.hid (hb.setCell (p:=⟨O,1,none⟩) (by show w.heap.size≤O;omega) (.int .u8 ka))
      clear hg hb HA HX HC hll
      go_wp2
      go_roundw
      case rel=>exact ⟨2,[p0,ka],by omega,by go_num,HS2,HP,HX6,HB6.out⟩
      case measure=>simp [intOf];omega
    ·have HR2:=Lib.hid (HSP.out hz)
     have dk:(ke != 0)=true:=by simp [hz]
     clear HST HSP hz
     go_wp2_with (go_at_call 24;refine HC.out.step (w0:=w) (B:=w.heap.size) hb hB ?_;clear hb hB x0 x1 x2 x3 y0' y1' y2' y3';intro w5 hb hB)
     go_ret2
     exact ⟨ret2_of HR2.out.1 HR2.out.2,hb⟩
   ·obtain rfl:j=ks.length:=by omega
    rw [List.take_length] at HL
    have HTOP:(rk,re)=topK cols op col cell (l.getD 0 0) (l.getD 1 0):=HE2.out _ HL.out
    generalize l.getD 0 0=x0 at *
    generalize l.getD 1 0=y0 at *
    obtain ⟨z0,z1,_⟩:=HA.out.cells
    have HXR:=HX
    clear HL hj hlt HE2
    by_cases h99:op=99
    ·subst h99
     have e0:topK cols 99 col cell x0 y0=if 0≤col∧col < cols.length then ((cols.getD col.toNat (0,false)).1,0) else (0,1):=if_pos rfl
     rw [e0] at HTOP
     clear e0
     by_cases h0:0≤col
     ·obtain ⟨c,rfl⟩:∃ c:Nat,col=c:=⟨col.toNat,by omega⟩
      have dz:decide ((c:Int) < 0)=false:=decide_eq_false (by omega)
      by_cases h1:c < cols.length
      ·rw [if_pos ⟨by omega,by omega⟩,List.getD_eq_getElem?_getD,Int.toNat_natCast,List.getElem?_eq_getElem h1,Option.getD_some] at HTOP
       obtain ⟨b9,off9,ea,hb9,hc9⟩:=HATC.out c h1
       subst ea
       have k0:=(hb.cell (p:=⟨b9,off9+c*2,none⟩) hb9).trans (hc9 c h1).1
       have d1:decide ((cols.length:Int)≤(c:Int))=false:=decide_eq_false (by omega)
       have dn1:decide (cols.length≤c)=false:=decide_eq_false (by omega)
       have i1:(c:Int) < (cols.length:Int):=by omega
       clear hc9
       generalize cols[c].1=ck at *
       have HRES:Hid (rk=ck∧re=0):=⟨congrArg Prod.fst HTOP,congrArg Prod.snd HTOP⟩
       clear HTOP
       go_wp2
       go_ret2
       exact ⟨ret2_of HRES.out.1 HRES.out.2,hb⟩
      ·rw [if_neg (by omega)] at HTOP
       have d1:decide ((cols.length:Int)≤(c:Int))=true:=decide_eq_true (by omega)
       have dn1:decide (cols.length≤c)=true:=decide_eq_true (by omega)
       have HRES:Hid (rk=0∧re=1):=⟨congrArg Prod.fst HTOP,congrArg Prod.snd HTOP⟩
       clear HTOP
       go_wp2
       go_ret2
       exact ⟨ret2_of HRES.out.1 HRES.out.2,hb⟩
     ·rw [if_neg (by omega)] at HTOP
      have dz:decide (col < 0)=true:=decide_eq_true (by omega)
      have HRES:Hid (rk=0∧re=1):=⟨congrArg Prod.fst HTOP,congrArg Prod.snd HTOP⟩
      clear HTOP
      go_wp2
      go_ret2
      exact ⟨ret2_of HRES.out.1 HRES.out.2,hb⟩
    ·have e99:(op==99)=false:=by simp [h99]
     by_cases h107:op=107
     ·subst h107
      have e0:topK cols 107 col cell x0 y0=if rightB cell=true then (kindI cell,0) else (0,1):=by simp [topK]
      rw [e0] at HTOP
      clear e0
      cases hrb:rightB cell with
      | true =>
       rw [hrb,if_pos rfl] at HTOP
       have HRES:Hid (rk=kindI cell∧re=0):=⟨congrArg Prod.fst HTOP,congrArg Prod.snd HTOP⟩
       have HRB:=ref_right_calls cell
       rw [hrb] at HRB
       clear HTOP hrb
       go_wp2_with fail
       refine (HRB.at_ _).stepB (w0:=w) (B:=w.heap.size) hb hB ?_
       clear hb hB
       intro w9 hb hB hq9
       obtain ⟨u0,u1,u2,u3,_⟩:=(HXR.out.later hq9).cells
       clear hq9
       go_wp2_with (go_at_call 39;refine Gives.step (ref_kind_calls cell) (w0:=w) (B:=w.heap.size) hb hB ?_;clear hb hB;intro w10 hb hB)
       go_ret2
       exact ⟨ret2_of HRES.out.1 HRES.out.2,hb⟩
      | false =>
       rw [hrb,if_neg (by decide)] at HTOP
       have HRES:Hid (rk=0∧re=1):=⟨congrArg Prod.fst HTOP,congrArg Prod.snd HTOP⟩
       have HRB:=ref_right_calls cell
       rw [hrb] at HRB
       clear HTOP hrb
       go_wp2_with (go_at_call 38;refine Gives.step HRB (w0:=w) (B:=w.heap.size) hb hB ?_;clear hb hB;intro w9 hb hB)
       go_ret2
       exact ⟨ret2_of HRES.out.1 HRES.out.2,hb⟩
     ·have e107:(op==107)=false:=by simp [h107]
      by_cases h61:op=61
      ·subst h61
       have e0:topK cols 61 col cell x0 y0=if fitK x0 y0=true then (98,0) else (0,5):=by simp [topK]
       rw [e0] at HTOP
       clear e0
       generalize hf:fitK x0 y0=f at *
       have HFF:=Lib.hid fun (W:World)=>hf▸ref_fit16_calls x0 y0 W
       clear hf
       cases f with
       | true =>
        rw [if_pos rfl] at HTOP
        have HRES:Hid (rk=98∧re=0):=⟨congrArg Prod.fst HTOP,congrArg Prod.snd HTOP⟩
        clear HTOP
        go_wp2_with (go_at_call 26;refine (HFF.out _).step ?_)
        go_ret2
        exact ⟨ret2_of HRES.out.1 HRES.out.2,hb⟩
       | false =>
        rw [if_neg (by decide)] at HTOP
        have HRES:Hid (rk=0∧re=5):=⟨congrArg Prod.fst HTOP,congrArg Prod.snd HTOP⟩
        clear HTOP
        go_wp2_with (go_at_call 26;refine (HFF.out _).step ?_)
        go_ret2
        exact ⟨ret2_of HRES.out.1 HRES.out.2,hb⟩
      ·have e61:(op==61)=false:=by simp [h61]
       by_cases h60:op=60
       ·subst h60
        have e0:topK cols 60 col cell x0 y0=if fitK x0 y0=true then (98,0) else (0,5):=by simp [topK]
        rw [e0] at HTOP
        clear e0
        generalize hf:fitK x0 y0=f at *
        have HFF:=Lib.hid fun (W:World)=>hf▸ref_fit16_calls x0 y0 W
        clear hf
        cases f with
        | true =>
         rw [if_pos rfl] at HTOP
         have HRES:Hid (rk=98∧re=0):=⟨congrArg Prod.fst HTOP,congrArg Prod.snd HTOP⟩
         clear HTOP
         go_wp2_with (go_at_call 26;refine (HFF.out _).step ?_)
         go_ret2
         exact ⟨ret2_of HRES.out.1 HRES.out.2,hb⟩
        | false =>
         rw [if_neg (by decide)] at HTOP
         have HRES:Hid (rk=0∧re=5):=⟨congrArg Prod.fst HTOP,congrArg Prod.snd HTOP⟩
         clear HTOP
         go_wp2_with (go_at_call 26;refine (HFF.out _).step ?_)
         go_ret2
         exact ⟨ret2_of HRES.out.1 HRES.out.2,hb⟩
       ·have e60:(op==60)=false:=by simp [h60]
        by_cases h38:op=38
        ·subst h38
         have e0:topK cols 38 col cell x0 y0=if fitK x0 98=true∧fitK y0 98=true then (98,0) else (0,5):=by simp [topK]
         rw [e0] at HTOP
         clear e0
         generalize hf:fitK x0 98=f at *
         generalize hg:fitK y0 98=g at *
         have HFF:=Lib.hid fun (W:World)=>hf▸ref_fit16_calls x0 98 W
         have HGG:=Lib.hid fun (W:World)=>hg▸ref_fit16_calls y0 98 W
         clear hf hg
         cases f with
         | true =>
          cases g with
          | true =>
           rw [if_pos ⟨rfl,rfl⟩] at HTOP
           have HRES:Hid (rk=98∧re=0):=⟨congrArg Prod.fst HTOP,congrArg Prod.snd HTOP⟩
           clear HTOP
           go_wp2_with (first|(go_at_call_of 26 (Value.int .u8 x0);refine (HFF.out _).step ?_)|(go_at_call_of 26 (Value.int .u8 y0);refine (HGG.out _).step ?_))
           go_ret2
           exact ⟨ret2_of HRES.out.1 HRES.out.2,hb⟩
          | false =>
           rw [if_neg (by simp)] at HTOP
           have HRES:Hid (rk=0∧re=5):=⟨congrArg Prod.fst HTOP,congrArg Prod.snd HTOP⟩
           clear HTOP
           go_wp2_with (first|(go_at_call_of 26 (Value.int .u8 x0);refine (HFF.out _).step ?_)|(go_at_call_of 26 (Value.int .u8 y0);refine (HGG.out _).step ?_))
           go_ret2
           exact ⟨ret2_of HRES.out.1 HRES.out.2,hb⟩
         | false =>
          rw [if_neg (by simp)] at HTOP
          have HRES:Hid (rk=0∧re=5):=⟨congrArg Prod.fst HTOP,congrArg Prod.snd HTOP⟩
          clear HTOP
          go_wp2_with (go_at_call 26;refine (HFF.out _).step ?_)
          go_ret2
          exact ⟨ret2_of HRES.out.1 HRES.out.2,hb⟩
        ·have e38:(op==38)=false:=by simp [h38]
         by_cases h124:op=124
         ·subst h124
          have e0:topK cols 124 col cell x0 y0=if fitK x0 98=true∧fitK y0 98=true then (98,0) else (0,5):=by simp [topK]
          rw [e0] at HTOP
          clear e0
          generalize hf:fitK x0 98=f at *
          generalize hg:fitK y0 98=g at *
          have HFF:=Lib.hid fun (W:World)=>hf▸ref_fit16_calls x0 98 W
          have HGG:=Lib.hid fun (W:World)=>hg▸ref_fit16_calls y0 98 W
          clear hf hg
          cases f with
          | true =>
           cases g with
           | true =>
            rw [if_pos ⟨rfl,rfl⟩] at HTOP
            have HRES:Hid (rk=98∧re=0):=⟨congrArg Prod.fst HTOP,congrArg Prod.snd HTOP⟩
            clear HTOP
            go_wp2_with (first|(go_at_call_of 26 (Value.int .u8 x0);refine (HFF.out _).step ?_)|(go_at_call_of 26 (Value.int .u8 y0);refine (HGG.out _).step ?_))
            go_ret2
            exact ⟨ret2_of HRES.out.1 HRES.out.2,hb⟩
           | false =>
            rw [if_neg (by simp)] at HTOP
            have HRES:Hid (rk=0∧re=5):=⟨congrArg Prod.fst HTOP,congrArg Prod.snd HTOP⟩
            clear HTOP
            go_wp2_with (first|(go_at_call_of 26 (Value.int .u8 x0);refine (HFF.out _).step ?_)|(go_at_call_of 26 (Value.int .u8 y0);refine (HGG.out _).step ?_))
            go_ret2
            exact ⟨ret2_of HRES.out.1 HRES.out.2,hb⟩
          | false =>
           rw [if_neg (by simp)] at HTOP
           have HRES:Hid (rk=0∧re=5):=⟨congrArg Prod.fst HTOP,congrArg Prod.snd HTOP⟩
           clear HTOP
           go_wp2_with (go_at_call 26;refine (HFF.out _).step ?_)
           go_ret2
           exact ⟨ret2_of HRES.out.1 HRES.out.2,hb⟩
         ·have e124:(op==124)=false:=by simp [h124]
          by_cases h33:op=33
          ·subst h33
           have e0:topK cols 33 col cell x0 y0=if fitK x0 98=true then (98,0) else (0,5):=by simp [topK]
           rw [e0] at HTOP
           clear e0
           generalize hf:fitK x0 98=f at *
           have HFF:=Lib.hid fun (W:World)=>hf▸ref_fit16_calls x0 98 W
           clear hf
           cases f with
           | true =>
            rw [if_pos rfl] at HTOP
            have HRES:Hid (rk=98∧re=0):=⟨congrArg Prod.fst HTOP,congrArg Prod.snd HTOP⟩
            clear HTOP
            go_wp2_with (go_at_call 26;refine (HFF.out _).step ?_)
            go_ret2
            exact ⟨ret2_of HRES.out.1 HRES.out.2,hb⟩
           | false =>
            rw [if_neg (by decide)] at HTOP
            have HRES:Hid (rk=0∧re=5):=⟨congrArg Prod.fst HTOP,congrArg Prod.snd HTOP⟩
            clear HTOP
            go_wp2_with (go_at_call 26;refine (HFF.out _).step ?_)
            go_ret2
            exact ⟨ret2_of HRES.out.1 HRES.out.2,hb⟩
          ·have e33:(op==33)=false:=by simp [h33]
           have e0:topK cols op col cell x0 y0=(98,0):=by simp [topK,h99,h107,h61,h60,h38,h124,h33]
           rw [e0] at HTOP
           have HRES:Hid (rk=98∧re=0):=⟨congrArg Prod.fst HTOP,congrArg Prod.snd HTOP⟩
           clear HTOP e0 h99 h107 h61 h60 h38 h124 h33
           go_wp2
           go_ret2
           exact ⟨ret2_of HRES.out.1 HRES.out.2,hb⟩
 ·have e1:((ks.length:Int) != manyN op)=true:=by simp [hn]
  have HE2:Hid (rk=0∧re=1):=by
   have h:=HE.out
   rw [if_neg hn] at h
   exact ⟨congrArg Prod.fst h,congrArg Prod.snd h⟩
  clear hn HE
  go_enter Try.func24,Try.ntmps24
  go_wp2_with fail
  generalize w.alloc _=w2 at *
  refine wp_region_calm (offC w2) (fun _=>false) (fun _=>false) anyE false (by kernel_rfl) (by kernel_rfl) (by kernel_rfl) (by kernel_rfl) (by intro m hm;revert hm;simp;try omega) (offC_stable _) (offC_start _) ?_
  refine calm_fixA rfl rfl ?_
  apply Exists.intro
  refine ⟨fun a wz hc hk hf K hK=>?_,?_⟩
  ·have h2:=hk 2 (by kernel_rfl)
   clear hk hf hc
   go_simp
   exact hK _ _ (Below.refl _ _) rfl
  refine calm_fixA rfl rfl ?_
  apply Exists.intro
  refine ⟨fun a wz hc hk hf K hK=>?_,?_⟩
  ·have hb:Below w2.heap.size w2 wz:=hc rfl
   have h10:=held_isV hf 0 rfl (by kernel_rfl)
   clear hk hf hc
   obtain ⟨y0,y1,y2,y3,_⟩:=(HX.out.later hb).cells
   go_simp
   exact hK _ _ (Below.refl _ _) rfl
  refine calm_fixA rfl rfl ?_
  apply Exists.intro
  refine ⟨fun a wz hc hk hf K hK=>?_,?_⟩
  ·have h11:=held_isV hf 0 rfl (by kernel_rfl)
   clear hk hf hc
   go_simp
   exact hK _ _ (Below.refl _ _) rfl
  refine calm_fixA rfl rfl ?_
  apply Exists.intro
  refine ⟨fun a wz hc hk hf K hK=>?_,?_⟩
  ·have h2:=hk 2 (by kernel_rfl)
   clear hk hf hc
   go_simp
   exact hK _ _ (Below.refl _ _) rfl
  refine calm_fixA rfl rfl ?_
  apply Exists.intro
  refine ⟨fun a wz hc hk hf K hK=>?_,?_⟩
  ·have hb:Below w2.heap.size w2 wz:=hc rfl
   have h13:=held_isV hf 0 rfl (by kernel_rfl)
   clear hk hf hc
   obtain ⟨y0,y1,y2,y3,_⟩:=(HX.out.later hb).cells
   go_simp
   exact hK _ _ (Below.refl _ _) rfl
  refine calm_fixA rfl rfl ?_
  apply Exists.intro
  refine ⟨fun a wz hc hk hf K hK=>?_,?_⟩
  ·have hb:Below w2.heap.size w2 wz:=hc rfl
   have h14:=held_isV hf 0 rfl (by kernel_rfl)
   clear hk hf hc
   go_simp
   refine Calls.mono ((ref_many_calls op wz).gives) ?_
   rintro e w1 ⟨rfl,hq⟩
   exact hK _ _ hq rfl
  refine calm_fixA rfl rfl ?_
  apply Exists.intro
  refine ⟨fun a wz hc hk hf K hK=>?_,?_⟩
  ·have h12:=held_isV hf 3 rfl (by kernel_rfl)
   have h15:=held_isV hf 0 rfl (by kernel_rfl)
   clear hk hf hc
   go_simp
   exact hK _ _ (Below.refl _ _) rfl
  refine calm_nil ?_
  refine ⟨keeps_none,?_⟩
  intro w3 hc
  simp only [lexL,calmEnd]
  rintro _ rfl _ rfl _ rfl _ rfl _ rfl _ rfl _ rfl
  have hq:Below w2.heap.size w2 w3:=hc rfl
  have HX3:=Lib.hid (HX.out.later hq)
  have HB3:=Lib.hid (HB1.out.trans (hq.mono HB1.out.size))
  clear hc hq HX HB1
  simp only [Act.put,List.setIfInBounds_toArray,List.set_cons_zero,List.set_cons_succ]
  go_wp2
  go_ret2
  exact ⟨ret2_of HE2.out.1 HE2.out.2,HB3.out⟩
end Go.Proofs.Ytegpikfgajoopaa
