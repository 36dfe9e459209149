/- slices.SortFunc at two terms that the call owns, by layer 17's own compare. -/
import Derived.Test.YtnkhkkdmjabhnaaGZNormCmp
namespace Go.Proofs.Ytnkhkkdmjabhnaa
open Go Go.RowKit
theorem enters_ncompare:∀ (args:Array Value)(w:World),(callFunc 45 args).run Try.prog w=.ok (.enter 45 args) w:=enters_of Try.func45 (by kernel_rfl) rfl
theorem below_grown {w w':World}{row:Option Nat}(h:Below w.heap.size w w'):w.grownBy w' row:=⟨h.os,h.tape,h.output,h.size,fun k hk _=>h.block k hk⟩
theorem below_drew1 (w:World):Below w.heap.size w w.drew:=⟨rfl,rfl,rfl,Nat.le_refl _,fun _ _=>rfl⟩
theorem grown_tr2 {a b c:World}{row:Option Nat}(h:a.grownBy b row)(k:b.grownBy c row):a.grownBy c row:=⟨k.os.trans h.os,k.tape.trans h.tape,k.output.trans h.output,Nat.le_trans h.size k.size,fun i hi hr=>(k.block i (Nat.lt_of_lt_of_le hi h.size) hr).trans (h.block i hi hr)⟩
def Free4 (w:World)(g o:Nat):Prop:=w.frozen? ⟨g,o,none⟩=false∧w.frozen? ⟨g,o+1,none⟩=false∧w.frozen? ⟨g,o+2,none⟩=false∧w.frozen? ⟨g,o+3,none⟩=false
def inOrder (b:Bool)(x y:Value×Trm):List (Value×Trm):=if b then [y,x] else [x,y]
def Two17 (w:World)(B g off cap:Nat)(b:Bool)(x y:Value×Trm)(w':World):Prop:=w.grownBy w' (some g)∧Own w' B 4 (.slice (some ⟨g,off,none⟩) 2 cap) 2 (trmsV (inOrder b x y))
set_option maxHeartbeats 4000000 in
set_option maxRecDepth 100000 in
theorem ins_two_calls {w:World}{B g off cap:Nat}{x y:Value×Trm}{xA yA:Option Addr}{xn yn xp yp:Nat}(hx:x.1=.slice xA xn xp)(hy:y.1=.slice yA yn yp)(hO:Own w B 4 (.slice (some ⟨g,off,none⟩) 2 cap) 2 (trmsV [x,y])){z:Int}
  (hC:∀ W,Below w.heap.size w W→GivesAt Try.prog 45 #[.agg #[.int .u8 y.2.op,.int .i64 y.2.col,.string y.2.cell,.slice yA yn yp],.agg #[.int .u8 x.2.op,.int .i64 x.2.col,.string x.2.cell,.slice xA xn xp]] W (.int .i64 z)) :
  Calls Try.prog 56 #[.slice (some ⟨g,off,none⟩) 2 cap,.int .i64 0,.int .i64 2,.func (.func 45) #[] #[]] w fun e w'=>e=.returned (.tuple #[])∧Two17 w B g off cap (decide (z < 0)) x y w':=by
 have mixed:Try.prog.follows Departure.mixedOrders=true:=by kernel_rfl
 have eg:=enters_ncompare
 have q0:IntKind.i64.wrap 0=0:=by decide
 have HC:=Lib.hid hC
 have HO:=Lib.hid hO
 have hg:B≤g∧g < w.heap.size:=hO.lt g rfl
 have HG:=Lib.hid hg
 have AT:Hid (∀ W,Below w.heap.size w W→(Cells4 W g (off+4) y.2.op y.2.col y.2.cell (.slice yA yn yp)∧Cells4 W g off x.2.op x.2.col x.2.cell (.slice xA xn xp))∧(Free4 W g off∧Free4 W g (off+4))):=fun W hW=>by
  obtain ⟨-,-,-,hc,hr⟩:=(hO.later hW).parts
  have e:trmsV [x,y]=[.int .u8 x.2.op,.int .i64 x.2.col,.string x.2.cell,x.1,.int .u8 y.2.op,.int .i64 y.2.col,.string y.2.cell,y.1]:=rfl
  rw [e,hx,hy] at hc
  have hcap:2≤cap:=by
   obtain ⟨_,_,h⟩:=hO
   rcases h with ⟨h,_⟩ | ⟨_,_,_,h,_,_,k,_⟩
   ·cases h
   ·injection h with _ _ h3;omega
  refine ⟨⟨⟨hc 4 _ rfl,?_,?_,?_⟩,⟨hc 0 _ rfl,hc 1 _ rfl,hc 2 _ rfl,hc 3 _ rfl⟩⟩,⟨(hr 0 (by omega)).2,(hr 1 (by omega)).2,(hr 2 (by omega)).2,(hr 3 (by omega)).2⟩,(hr 4 (by omega)).2,?_,?_,?_⟩
  ·rw [Nat.add_assoc];exact hc 5 _ rfl
  ·rw [Nat.add_assoc];exact hc 6 _ rfl
  ·rw [Nat.add_assoc];exact hc 7 _ rfl
  ·rw [Nat.add_assoc];exact (hr 5 (by omega)).2
  ·rw [Nat.add_assoc];exact (hr 6 (by omega)).2
  ·rw [Nat.add_assoc];exact (hr 7 (by omega)).2
 have SW:Hid (∀ W,Below w.heap.size w W→w.grownBy ((((((((W.setCell ⟨g,off+4,none⟩ (.int .u8 x.2.op)).setCell ⟨g,off+4+1,none⟩ (.int .i64 x.2.col)).setCell ⟨g,off+4+2,none⟩ (.string x.2.cell)).setCell ⟨g,off+4+3,none⟩ (.slice xA xn xp)).setCell ⟨g,off,none⟩ (.int .u8 y.2.op)).setCell ⟨g,off+1,none⟩ (.int .i64 y.2.col)).setCell ⟨g,off+2,none⟩ (.string y.2.cell)).setCell ⟨g,off+3,none⟩ (.slice yA yn yp)) (some g)∧Own ((((((((W.setCell ⟨g,off+4,none⟩ (.int .u8 x.2.op)).setCell ⟨g,off+4+1,none⟩ (.int .i64 x.2.col)).setCell ⟨g,off+4+2,none⟩ (.string x.2.cell)).setCell ⟨g,off+4+3,none⟩ (.slice xA xn xp)).setCell ⟨g,off,none⟩ (.int .u8 y.2.op)).setCell ⟨g,off+1,none⟩ (.int .i64 y.2.col)).setCell ⟨g,off+2,none⟩ (.string y.2.cell)).setCell ⟨g,off+3,none⟩ (.slice yA yn yp)) B 4 (.slice (some ⟨g,off,none⟩) 2 cap) 2 (trmsV [y,x])):=fun W hW=>by
  have h0:=hO.later hW
  have s1:=Own.stored (Own.stored (Own.stored (Own.stored h0 4 (by decide) (.int .u8 x.2.op)) 5 (by decide) (.int .i64 x.2.col)) 6 (by decide) (.string x.2.cell)) 7 (by decide) (.slice xA xn xp)
  have s2:=Own.stored (Own.stored (Own.stored (Own.stored s1 0 (by decide) (.int .u8 y.2.op)) 1 (by decide) (.int .i64 y.2.col)) 2 (by decide) (.string y.2.cell)) 3 (by decide) (.slice yA yn yp)
  refine ⟨?_,?_⟩
  ·have g1:=set4_grown W g (off+4) (.int .u8 x.2.op) (.int .i64 x.2.col) (.string x.2.cell) (.slice xA xn xp)
   have g2:=set4_grown ((((W.setCell ⟨g,off+4,none⟩ (.int .u8 x.2.op)).setCell ⟨g,off+4+1,none⟩ (.int .i64 x.2.col)).setCell ⟨g,off+4+2,none⟩ (.string x.2.cell)).setCell ⟨g,off+4+3,none⟩ (.slice xA xn xp)) g off (.int .u8 y.2.op) (.int .i64 y.2.col) (.string y.2.cell) (.slice yA yn yp)
   exact grown_tr2 (below_grown hW) (grown_tr2 g1 g2)
  ·have e:trmsV [y,x]=[.int .u8 y.2.op,.int .i64 y.2.col,.string y.2.cell,y.1,.int .u8 x.2.op,.int .i64 x.2.col,.string x.2.cell,x.1]:=rfl
   rw [e,hx,hy]
   exact s2
 obtain ⟨o1,ho1⟩:∃ o,off+4=o:=⟨_,rfl⟩
 rw [ho1] at AT SW
 have n00:¬off=o1:=by omega
 have n01:¬off=o1+1:=by omega
 have n02:¬off=o1+2:=by omega
 have n03:¬off=o1+3:=by omega
 have n10:¬off+1=o1:=by omega
 have n11:¬off+1=o1+1:=by omega
 have n12:¬off+1=o1+2:=by omega
 have n13:¬off+1=o1+3:=by omega
 have n20:¬off+2=o1:=by omega
 have n21:¬off+2=o1+1:=by omega
 have n22:¬off+2=o1+2:=by omega
 have n23:¬off+2=o1+3:=by omega
 have n30:¬off+3=o1:=by omega
 have n31:¬off+3=o1+1:=by omega
 have n32:¬off+3=o1+2:=by omega
 have n33:¬off+3=o1+3:=by omega
 clear hC hO hg hx hy
 unfold Two17
 by_cases hz:z < 0
 ·have HR:Hid (inOrder (decide (z < 0)) x y=[y,x]):=by show inOrder _ x y=_;unfold inOrder;rw [decide_eq_true hz];rfl
  have dz:decide (z < 0)=true:=decide_eq_true hz
  rw [HR.out]
  go_enter Try.func56,Try.ntmps56
  go_wp2
  go_loopw [8] (fun i wr=>((i=.int .i64 1∧Hid (Below w.heap.size w wr))∨(i=.int .i64 2∧Hid (w.grownBy wr (some g)∧Own wr B 4 (.slice (some ⟨g,off,none⟩) 2 cap) 2 (trmsV [y,x]))))) (fun i _=>2-(intOf i).toNat)
  case atStart=>exact .inl ⟨by go_num,Lib.hid (.refl _ _)⟩
  case round =>
   rcases hrel with ⟨rfl,HB⟩ | ⟨rfl,HF⟩
   ·go_wp2
    go_loopw [9] (fun j wr=>((j=.int .i64 1∧Hid (Below w.heap.size w wr))∨(j=.int .i64 0∧Hid (w.grownBy wr (some g)∧Own wr B 4 (.slice (some ⟨g,off,none⟩) 2 cap) 2 (trmsV [y,x]))))) (fun j _=>(intOf j).toNat)
    case atStart=>exact .inl ⟨rfl,HB⟩
    case round =>
     clear HB
     rcases hrel with ⟨rfl,HB⟩ | ⟨rfl,HF⟩
     ·go_wp2_with fail
      refine wp_region_calm (offC wr) (fun _=>false) (fun _=>false) anyE false (by kernel_rfl) (by kernel_rfl) (by kernel_rfl) (by kernel_rfl) (by intro m hm;revert hm;simp;try omega) (offC_stable _) (offC_start _) ?_
      refine calm_fixA rfl rfl ?_
      apply Exists.intro
      refine ⟨fun a wz hc hk hf K hK=>?_,?_⟩
      ·have h9:=hk 9 (by kernel_rfl)
       clear hk hf hc
       go_simp
       exact hK _ _ (Below.refl _ _) rfl
      refine calm_fixA rfl rfl ?_
      apply Exists.intro
      refine ⟨fun a wz hc hk hf K hK=>?_,?_⟩
      ·have h1:=hk 1 (by kernel_rfl)
       clear hk hf hc
       go_simp
       exact hK _ _ (Below.refl _ _) rfl
      refine calm_fixA rfl rfl ?_
      apply Exists.intro
      refine ⟨fun a wz hc hk hf K hK=>?_,?_⟩
      ·have h18:=held_isV hf 1 rfl (by kernel_rfl)
       have h19:=held_isV hf 0 rfl (by kernel_rfl)
       clear hk hf hc
       go_simp
       exact hK _ _ (Below.refl _ _) rfl
      refine calm_fixA rfl rfl ?_
      apply Exists.intro
      refine ⟨fun a wz hc hk hf K hK=>?_,?_⟩
      ·have h20:=held_isV hf 0 rfl (by kernel_rfl)
       clear hk hf hc
       go_simp
       exact hK _ _ (Below.refl _ _) rfl
      refine calm_fixA rfl rfl ?_
      apply Exists.intro
      refine ⟨fun a wz hc hk hf K hK=>?_,?_⟩
      ·have h3:=hk 3 (by kernel_rfl)
       have h21:=held_isV hf 0 rfl (by kernel_rfl)
       clear hk hf hc
       go_simp
       exact hK _ _ (Below.refl _ _) rfl
      refine calm_fixA rfl rfl ?_
      apply Exists.intro
      refine ⟨fun a wz hc hk hf K hK=>?_,?_⟩
      ·have h0:=hk 0 (by kernel_rfl)
       have h21:=held_isV hf 1 rfl (by kernel_rfl)
       clear hk hf hc
       go_simp
       exact hK _ _ (Below.refl _ _) rfl
      refine calm_fixA rfl rfl ?_
      apply Exists.intro
      refine ⟨fun a wz hc hk hf K hK=>?_,?_⟩
      ·have h9:=hk 9 (by kernel_rfl)
       have h21:=held_isV hf 2 rfl (by kernel_rfl)
       clear hk hf hc
       go_simp
       exact hK _ _ (Below.refl _ _) rfl
      refine calm_fixA rfl rfl ?_
      apply Exists.intro
      refine ⟨fun a wz hc hk hf K hK=>?_,?_⟩
      ·have h23:=held_isV hf 1 rfl (by kernel_rfl)
       have h24:=held_isV hf 0 rfl (by kernel_rfl)
       have h21:=held_isV hf 3 rfl (by kernel_rfl)
       clear hk hf hc
       go_simp
       exact hK _ _ (Below.refl _ _) rfl
      refine calm_fixA rfl rfl ?_
      apply Exists.intro
      refine ⟨fun a wz hc hk hf K hK=>?_,?_⟩
      ·have hb:Below wr.heap.size wr wz:=hc rfl
       have h25:=held_isV hf 0 rfl (by kernel_rfl)
       have h21:=held_isV hf 4 rfl (by kernel_rfl)
       clear hk hf hc
       have hbw:Below w.heap.size w wz:=HB.out.trans (hb.mono HB.out.size)
       obtain ⟨⟨⟨y0,y1,y2,y3⟩,⟨x0,x1,x2,x3⟩⟩,-⟩:=AT.out wz hbw
       go_simp
       exact hK _ _ (Below.refl _ _) rfl
      refine calm_fixA rfl rfl ?_
      apply Exists.intro
      refine ⟨fun a wz hc hk hf K hK=>?_,?_⟩
      ·have h0:=hk 0 (by kernel_rfl)
       have h21:=held_isV hf 5 rfl (by kernel_rfl)
       clear hk hf hc
       go_simp
       exact hK _ _ (Below.refl _ _) rfl
      refine calm_fixA rfl rfl ?_
      apply Exists.intro
      refine ⟨fun a wz hc hk hf K hK=>?_,?_⟩
      ·have h9:=hk 9 (by kernel_rfl)
       have h21:=held_isV hf 6 rfl (by kernel_rfl)
       clear hk hf hc
       go_simp
       exact hK _ _ (Below.refl _ _) rfl
      refine calm_fixA rfl rfl ?_
      apply Exists.intro
      refine ⟨fun a wz hc hk hf K hK=>?_,?_⟩
      ·have h28:=held_isV hf 0 rfl (by kernel_rfl)
       have h21:=held_isV hf 7 rfl (by kernel_rfl)
       clear hk hf hc
       go_simp
       exact hK _ _ (Below.refl _ _) rfl
      refine calm_fixA rfl rfl ?_
      apply Exists.intro
      refine ⟨fun a wz hc hk hf K hK=>?_,?_⟩
      ·have h27:=held_isV hf 2 rfl (by kernel_rfl)
       have h29:=held_isV hf 0 rfl (by kernel_rfl)
       have h21:=held_isV hf 8 rfl (by kernel_rfl)
       clear hk hf hc
       go_simp
       exact hK _ _ (Below.refl _ _) rfl
      refine calm_fixA rfl rfl ?_
      apply Exists.intro
      refine ⟨fun a wz hc hk hf K hK=>?_,?_⟩
      ·have hb:Below wr.heap.size wr wz:=hc rfl
       have h30:=held_isV hf 0 rfl (by kernel_rfl)
       have h21:=held_isV hf 9 rfl (by kernel_rfl)
       clear hk hf hc
       have hbw:Below w.heap.size w wz:=HB.out.trans (hb.mono HB.out.size)
       obtain ⟨⟨⟨y0,y1,y2,y3⟩,⟨x0,x1,x2,x3⟩⟩,-⟩:=AT.out wz hbw
       go_simp
       exact hK _ _ (Below.refl _ _) rfl
      refine calm_fixA rfl rfl ?_
      apply Exists.intro
      refine ⟨fun a wz hc hk hf K hK=>?_,?_⟩
      ·have hb:Below wr.heap.size wr wz:=hc rfl
       have h22:=held_isV hf 9 rfl (by kernel_rfl)
       have h26:=held_isV hf 5 rfl (by kernel_rfl)
       have h31:=held_isV hf 0 rfl (by kernel_rfl)
       have h21:=held_isV hf 10 rfl (by kernel_rfl)
       clear hk hf hc
       go_simp
       refine Calls.mono (HC.out wz (HB.out.trans (hb.mono HB.out.size))) ?_
       rintro e w1 ⟨rfl,hq⟩
       exact hK _ _ hq rfl
      refine calm_fixA rfl rfl ?_
      apply Exists.intro
      refine ⟨fun a wz hc hk hf K hK=>?_,?_⟩
      ·have h32:=held_isV hf 0 rfl (by kernel_rfl)
       have h21:=held_isV hf 11 rfl (by kernel_rfl)
       clear hk hf hc
       go_simp
       exact hK _ _ (Below.refl _ _) rfl
      refine calm_fixA rfl rfl ?_
      apply Exists.intro
      refine ⟨fun a wz hc hk hf K hK=>?_,?_⟩
      ·have h21:=held_isV hf 12 rfl (by kernel_rfl)
       have h33:=held_isV hf 0 rfl (by kernel_rfl)
       clear hk hf hc
       go_simp
       exact hK _ _ (Below.refl _ _) rfl
      refine calm_nil ?_
      refine ⟨keeps_none,?_⟩
      intro w3 hc
      simp only [lexL,calmEnd]
      rintro _ rfl _ rfl _ rfl _ rfl _ rfl _ rfl _ rfl _ rfl _ rfl _ rfl _ rfl _ rfl _ rfl _ rfl _ rfl _ rfl _ rfl
      have hq:Below wr.heap.size wr w3:=hc rfl
      have HBn:=Lib.hid (HB.out.trans (hq.mono HB.out.size))
      clear hc hq HB
      have HB:=HBn
      clear HBn
      simp only [Act.put,List.setIfInBounds_toArray,List.set_cons_zero,List.set_cons_succ]
      go_wp2_with fail
      obtain ⟨⟨⟨y0,y1,y2,y3⟩,⟨x0,x1,x2,x3⟩⟩,⟨f0,f1,f2,f3⟩,⟨f4,f5,f6,f7⟩⟩:=AT.out w3 HB.out
      have e0:∀ a,w3.drew.cell? a=w3.cell? a:=fun _=>rfl
      have dy0:=(e0 _).trans y0
      have dy1:=(e0 _).trans y1
      have dy2:=(e0 _).trans y2
      have dy3:=(e0 _).trans y3
      have dx0:=(e0 _).trans x0
      have dx1:=(e0 _).trans x1
      have dx2:=(e0 _).trans x2
      have dx3:=(e0 _).trans x3
      clear e0
      go_big_region_o
      have HSWP:=SW.out w3 HB.out
      have HSW:Hid (_∧_):=⟨grown_tr2 HSWP.1 (below_grown (below_drew1 _)),HSWP.2.later (below_drew1 _)⟩
      go_wp2
      go_roundw
      case rel=>exact .inr ⟨by go_num,HSW⟩
      case measure=>simp [intOf]
     ·go_wp2_with fail
      go_big_region_o
      have HF2:Hid (w.grownBy wr.drew (some g)∧Own wr.drew B 4 (.slice (some ⟨g,off,none⟩) 2 cap) 2 (trmsV [y,x])):=⟨grown_tr2 HF.out.1 (below_grown (below_drew1 wr)),HF.out.2.later (below_drew1 wr)⟩
      go_wp2
      go_roundw
      case rel=>exact .inr ⟨by go_num,HF2⟩
      case measure=>simp [intOf]
   ·go_wp2
    go_end0
    exact ⟨rfl,HF.out⟩
 ·have HR:Hid (inOrder (decide (z < 0)) x y=[x,y]):=by show inOrder _ x y=_;unfold inOrder;rw [decide_eq_false hz];rfl
  have dz:decide (z < 0)=false:=decide_eq_false hz
  rw [HR.out]
  go_enter Try.func56,Try.ntmps56
  go_wp2
  go_loopw [8] (fun i wr=>(∃ k:Nat,i=.int .i64 k∧1≤k∧k≤2)∧Hid (Below w.heap.size w wr)) (fun i _=>2-(intOf i).toNat)
  case atStart=>exact ⟨⟨1,by go_num,by omega,by omega⟩,Lib.hid (.refl _ _)⟩
  case round =>
   obtain ⟨⟨k,rfl,hk1,hk2⟩,HB⟩:=hrel
   by_cases hk:k=1
   ·subst hk
    go_wp2
    go_loopw [9] (fun j wr=>j=.int .i64 1∧Hid (Below w.heap.size w wr)) (fun j _=>(intOf j).toNat)
    case atStart=>exact ⟨by go_num,HB⟩
    case round =>
     clear HB
     obtain ⟨rfl,HB⟩:=hrel
     go_wp2_with fail
     refine wp_region_calm (offC wr) (fun _=>false) (fun _=>false) anyE false (by kernel_rfl) (by kernel_rfl) (by kernel_rfl) (by kernel_rfl) (by intro m hm;revert hm;simp;try omega) (offC_stable _) (offC_start _) ?_
     refine calm_fixA rfl rfl ?_
     apply Exists.intro
     refine ⟨fun a wz hc hk hf K hK=>?_,?_⟩
     ·have h9:=hk 9 (by kernel_rfl)
      clear hk hf hc
      go_simp
      exact hK _ _ (Below.refl _ _) rfl
     refine calm_fixA rfl rfl ?_
     apply Exists.intro
     refine ⟨fun a wz hc hk hf K hK=>?_,?_⟩
     ·have h1:=hk 1 (by kernel_rfl)
      clear hk hf hc
      go_simp
      exact hK _ _ (Below.refl _ _) rfl
     refine calm_fixA rfl rfl ?_
     apply Exists.intro
     refine ⟨fun a wz hc hk hf K hK=>?_,?_⟩
     ·have h18:=held_isV hf 1 rfl (by kernel_rfl)
      have h19:=held_isV hf 0 rfl (by kernel_rfl)
      clear hk hf hc
      go_simp
      exact hK _ _ (Below.refl _ _) rfl
     refine calm_fixA rfl rfl ?_
     apply Exists.intro
     refine ⟨fun a wz hc hk hf K hK=>?_,?_⟩
     ·have h20:=held_isV hf 0 rfl (by kernel_rfl)
      clear hk hf hc
      go_simp
      exact hK _ _ (Below.refl _ _) rfl
     refine calm_fixA rfl rfl ?_
     apply Exists.intro
     refine ⟨fun a wz hc hk hf K hK=>?_,?_⟩
     ·have h3:=hk 3 (by kernel_rfl)
      have h21:=held_isV hf 0 rfl (by kernel_rfl)
      clear hk hf hc
      go_simp
      exact hK _ _ (Below.refl _ _) rfl
     refine calm_fixA rfl rfl ?_
     apply Exists.intro
     refine ⟨fun a wz hc hk hf K hK=>?_,?_⟩
     ·have h0:=hk 0 (by kernel_rfl)
      have h21:=held_isV hf 1 rfl (by kernel_rfl)
      clear hk hf hc
      go_simp
      exact hK _ _ (Below.refl _ _) rfl
     refine calm_fixA rfl rfl ?_
     apply Exists.intro
     refine ⟨fun a wz hc hk hf K hK=>?_,?_⟩
     ·have h9:=hk 9 (by kernel_rfl)
      have h21:=held_isV hf 2 rfl (by kernel_rfl)
      clear hk hf hc
      go_simp
      exact hK _ _ (Below.refl _ _) rfl
     refine calm_fixA rfl rfl ?_
     apply Exists.intro
     refine ⟨fun a wz hc hk hf K hK=>?_,?_⟩
     ·have h23:=held_isV hf 1 rfl (by kernel_rfl)
      have h24:=held_isV hf 0 rfl (by kernel_rfl)
      have h21:=held_isV hf 3 rfl (by kernel_rfl)
      clear hk hf hc
      go_simp
      exact hK _ _ (Below.refl _ _) rfl
     refine calm_fixA rfl rfl ?_
     apply Exists.intro
     refine ⟨fun a wz hc hk hf K hK=>?_,?_⟩
     ·have hb:Below wr.heap.size wr wz:=hc rfl
      have h25:=held_isV hf 0 rfl (by kernel_rfl)
      have h21:=held_isV hf 4 rfl (by kernel_rfl)
      clear hk hf hc
      have hbw:Below w.heap.size w wz:=HB.out.trans (hb.mono HB.out.size)
      obtain ⟨⟨⟨y0,y1,y2,y3⟩,⟨x0,x1,x2,x3⟩⟩,-⟩:=AT.out wz hbw
      go_simp
      exact hK _ _ (Below.refl _ _) rfl
     refine calm_fixA rfl rfl ?_
     apply Exists.intro
     refine ⟨fun a wz hc hk hf K hK=>?_,?_⟩
     ·have h0:=hk 0 (by kernel_rfl)
      have h21:=held_isV hf 5 rfl (by kernel_rfl)
      clear hk hf hc
      go_simp
      exact hK _ _ (Below.refl _ _) rfl
     refine calm_fixA rfl rfl ?_
     apply Exists.intro
     refine ⟨fun a wz hc hk hf K hK=>?_,?_⟩
     ·have h9:=hk 9 (by kernel_rfl)
      have h21:=held_isV hf 6 rfl (by kernel_rfl)
      clear hk hf hc
      go_simp
      exact hK _ _ (Below.refl _ _) rfl
     refine calm_fixA rfl rfl ?_
     apply Exists.intro
     refine ⟨fun a wz hc hk hf K hK=>?_,?_⟩
     ·have h28:=held_isV hf 0 rfl (by kernel_rfl)
      have h21:=held_isV hf 7 rfl (by kernel_rfl)
      clear hk hf hc
      go_simp
      exact hK _ _ (Below.refl _ _) rfl
     refine calm_fixA rfl rfl ?_
     apply Exists.intro
     refine ⟨fun a wz hc hk hf K hK=>?_,?_⟩
     ·have h27:=held_isV hf 2 rfl (by kernel_rfl)
      have h29:=held_isV hf 0 rfl (by kernel_rfl)
      have h21:=held_isV hf 8 rfl (by kernel_rfl)
      clear hk hf hc
      go_simp
      exact hK _ _ (Below.refl _ _) rfl
     refine calm_fixA rfl rfl ?_
     apply Exists.intro
     refine ⟨fun a wz hc hk hf K hK=>?_,?_⟩
     ·have hb:Below wr.heap.size wr wz:=hc rfl
      have h30:=held_isV hf 0 rfl (by kernel_rfl)
      have h21:=held_isV hf 9 rfl (by kernel_rfl)
      clear hk hf hc
      have hbw:Below w.heap.size w wz:=HB.out.trans (hb.mono HB.out.size)
      obtain ⟨⟨⟨y0,y1,y2,y3⟩,⟨x0,x1,x2,x3⟩⟩,-⟩:=AT.out wz hbw
      go_simp
      exact hK _ _ (Below.refl _ _) rfl
     refine calm_fixA rfl rfl ?_
     apply Exists.intro
     refine ⟨fun a wz hc hk hf K hK=>?_,?_⟩
     ·have hb:Below wr.heap.size wr wz:=hc rfl
      have h22:=held_isV hf 9 rfl (by kernel_rfl)
      have h26:=held_isV hf 5 rfl (by kernel_rfl)
      have h31:=held_isV hf 0 rfl (by kernel_rfl)
      have h21:=held_isV hf 10 rfl (by kernel_rfl)
      clear hk hf hc
      go_simp
      refine Calls.mono (HC.out wz (HB.out.trans (hb.mono HB.out.size))) ?_
      rintro e w1 ⟨rfl,hq⟩
      exact hK _ _ hq rfl
     refine calm_fixA rfl rfl ?_
     apply Exists.intro
     refine ⟨fun a wz hc hk hf K hK=>?_,?_⟩
     ·have h32:=held_isV hf 0 rfl (by kernel_rfl)
      have h21:=held_isV hf 11 rfl (by kernel_rfl)
      clear hk hf hc
      go_simp
      exact hK _ _ (Below.refl _ _) rfl
     refine calm_fixA rfl rfl ?_
     apply Exists.intro
     refine ⟨fun a wz hc hk hf K hK=>?_,?_⟩
     ·have h21:=held_isV hf 12 rfl (by kernel_rfl)
      have h33:=held_isV hf 0 rfl (by kernel_rfl)
      clear hk hf hc
      go_simp
      exact hK _ _ (Below.refl _ _) rfl
     refine calm_nil ?_
     refine ⟨keeps_none,?_⟩
     intro w3 hc
     simp only [lexL,calmEnd]
     rintro _ rfl _ rfl _ rfl _ rfl _ rfl _ rfl _ rfl _ rfl _ rfl _ rfl _ rfl _ rfl _ rfl _ rfl _ rfl _ rfl _ rfl
     have hq:Below wr.heap.size wr w3:=hc rfl
     have HBn:=Lib.hid (HB.out.trans (hq.mono HB.out.size))
     clear hc hq HB
     have HB:=HBn
     clear HBn
     simp only [Act.put,List.setIfInBounds_toArray,List.set_cons_zero,List.set_cons_succ]
     go_wp2
     go_roundw
     case rel=>exact ⟨⟨2,by go_num,by omega,by omega⟩,HB⟩
     case measure=>simp [intOf]
   ·obtain rfl:k=2:=by omega
    go_wp2
    go_end0
    exact ⟨rfl,below_grown HB.out,HO.out.later HB.out⟩
set_option maxHeartbeats 4000000 in
set_option maxRecDepth 100000 in
theorem sort_two_calls {w:World}{B g off cap:Nat}{x y:Value×Trm}{xA yA:Option Addr}{xn yn xp yp:Nat}(hx:x.1=.slice xA xn xp)(hy:y.1=.slice yA yn yp)(hO:Own w B 4 (.slice (some ⟨g,off,none⟩) 2 cap) 2 (trmsV [x,y])){z:Int}
  (hC:∀ W,Below w.heap.size w W→GivesAt Try.prog 45 #[.agg #[.int .u8 y.2.op,.int .i64 y.2.col,.string y.2.cell,.slice yA yn yp],.agg #[.int .u8 x.2.op,.int .i64 x.2.col,.string x.2.cell,.slice xA xn xp]] W (.int .i64 z)) :
  Calls Try.prog 44 #[.slice (some ⟨g,off,none⟩) 2 cap,.func (.func 45) #[] #[]] w fun e w'=>e=.returned (.tuple #[])∧Two17 w B g off cap (decide (z < 0)) x y w':=by
 have HI:=Lib.hid (ins_two_calls hx hy hO hC)
 have HP:Hid (∀ lim:Int,Calls Try.prog 51 #[.slice (some ⟨g,off,none⟩) 2 cap,.int .i64 0,.int .i64 2,.int .i64 lim,.func (.func 45) #[] #[]] w fun e w'=>e=.returned (.tuple #[])∧Two17 w B g off cap (decide (z < 0)) x y w'):=fun lim=>by
  clear hx hy hO hC
  go_enter Try.func51,Try.ntmps51
  go_wp2
  refine wp_loop_rounds 1 ?_
  rw [rounds_succ]
  go_wp2_with fail
  refine HI.out.mono ?_
  rintro e w2 ⟨rfl,h⟩
  have H:=Lib.hid h
  clear h
  go_wp2
  (try simp only [Exit.inBlock,Exit.then])
  refine bodyPost_ret (results_none rfl _ _ _) rfl ?_
  exact ⟨rfl,H.out⟩
 have HL:=Lib.hid (Try.bits_Len 2 w (by decide) (by decide))
 clear hx hy hO hC
 go_enter Try.func44,Try.ntmps44
 go_wp2_with fail
 refine HL.out.mono ?_
 rintro e w2 ⟨rfl,rfl⟩
 go_wp2_with fail
 refine (HP.out _).mono ?_
 rintro e w2 ⟨rfl,h⟩
 have H:=Lib.hid h
 clear h
 go_wp2
 go_end0
 exact ⟨rfl,H.out⟩
end Go.Proofs.Ytnkhkkdmjabhnaa
