/- The contract of the answer's Meets of layer 19. -/
import Derived.Test.YtaoeikeobfllkaaGZPairAt
import Derived.Test.YtaoeikeobfllkaaGZCalm
import Derived.Test.YtaoeikeobfllkaaGZShapePickRef
namespace Go.Proofs.Ytaoeikeobfllkaa
open Go Go.RowKit
theorem pick_one_ok {row:List ByteArray}{c:Int}(h:pickOk row [c]=true):pickF row [c]=[atF row c]:=by
 unfold pickOk at h
 simp only [List.all_cons,List.all_nil,Bool.and_true,Bool.and_eq_true,decide_eq_true_eq] at h
 unfold pickF atF
 rw [if_pos h]
 rfl
theorem pick_one_no {row:List ByteArray}{c:Int}(h:pickOk row [c]=false):atF row c=⟨#[]⟩:=by
 unfold atF
 rw [if_neg]
 intro h'
 unfold pickOk at h
 simp [h'.1,h'.2] at h
theorem pick_one {w w':World}{row:List ByteArray}{c:Int}{e:Ending}(h:PickNew w row [c] e w') :
  (∃ b off p,e=.returned (.tuple #[.slice (some ⟨b,off,none⟩) 1 p,.bool true])∧w'.cell? ⟨b,off,none⟩=some (.string (atF row c))∧Below w.heap.size w w') ∨
  (atF row c=⟨#[]⟩∧∃ A p,e=.returned (.tuple #[.slice A 0 p,.bool false])∧Below w.heap.size w w'):=by
 obtain ⟨v,rfl,hs,_,hb⟩:=h
 cases hy:pickOk row [c] with
 | true =>
  rw [pickL_yes hy,pick_one_ok hy] at hs
  obtain ⟨A,p,rfl,hat⟩:=one_at hs
  obtain ⟨b,off,rfl,_,hc⟩:=hat 0 (by simp)
  exact .inl ⟨b,off,p,rfl,hc 0 (by simp),hb⟩
 | false =>
  rw [pickL_no hy] at hs
  obtain ⟨A,p,rfl,_⟩:=one_at hs
  exact .inr ⟨pick_one_no hy,A,p,rfl,hb⟩
theorem lit_col (w:World)(T:TypeId)(c:Int):IntsIn (w.alloc (.cells #[.int .i64 c] T)) (.slice (some ⟨w.heap.size,0,none⟩) 1 1) [c]:=lit_ones (Value.int .i64) w T [c] (by simp)
set_option maxHeartbeats 4000000 in
set_option maxRecDepth 100000 in
theorem ref_meets_calls {w:World}{va vb vo:Value}{xs ys:List ByteArray}{on:List Cl}(ha:StrsIn w va xs)(hb':StrsIn w vb ys)(ho:OnIn w vo on):GivesAt Try.prog 10 #[va,vb,vo] w (.bool (meetsB xs ys on)):=by
 obtain ⟨hb,hB⟩:=start w
 obtain ⟨Ao,co,rfl,_,hato⟩:=on_at ho
 obtain ⟨Aa,ca,rfl,_⟩:=one_at ha
 obtain ⟨Ab,cb,rfl,_⟩:=one_at hb'
 have HA:=Lib.hid ha
 have HBB:=Lib.hid hb'
 have HAT:=Lib.hid hato
 have HON:=Lib.hid ho.len
 clear ha hb' ho hato
 unfold GivesAt
 go_enter Try.func10,Try.ntmps10
 go_wp2
 go_loopw [7] (fun i wr=>∃ k:Nat,k≤on.length∧i=.int .i64 k∧Hid (meetsB xs ys (on.take k)=true)∧Hid (Below w.heap.size w wr)) (fun i _=>on.length-(intOf i).toNat)
 case atStart=>exact ⟨0,Nat.zero_le _,rfl,Lib.hid rfl,Lib.hid hb⟩
 case round =>
  clear hb hB
  obtain ⟨k,hk,rfl,HM,HB⟩:=hrel
  by_cases hlt:k < on.length
  ·obtain ⟨bo,off,rfl,hbl,hc⟩:=HAT.out k hlt
   obtain ⟨c1,c2⟩:=hc k hlt
   have x1:=(HB.out.cell (p:=⟨bo,off+k*2,none⟩) hbl).trans c1
   have HX2:=Lib.hid ((HB.out.cell (p:=⟨bo,off+k*2+1,none⟩) hbl).trans c2)
   have HT:=Lib.hid (meets_take xs ys on k hlt)
   rw [HM.out,Bool.true_and] at HT
   have HN:=Lib.hid (fun h=>meets_not (a:=xs) (b:=ys) (List.getElem_mem hlt) h)
   have HLK:Hid (k < on.length):=hlt
   have i1:(k:Int) < (on.length:Int):=by omega
   clear hc c1 c2
   generalize on[k]=cc at *
   obtain ⟨c0,c1⟩:=cc
   dsimp only at *
   rw [meet1_eq] at HT HN
   dsimp only at HT HN
   have hqa:=Below.alloc (.refl wr.heap.size wr) (Nat.le_refl _) (.cells #[.int .i64 c0] 3)
   have HB1:=Lib.hid (HB.out.trans (hqa.mono HB.out.size))
   have hp:=ref_shape_pick_new (StrsIn.kept HA.out HB1.out) (lit_col wr 3 c0) (by simp)
   have HQ2:=Lib.hid (fun W (hW:Below w.heap.size w W)=>ref_shape_pick_new (StrsIn.kept HBB.out (hW.trans ((Below.alloc (.refl W.heap.size W) (Nat.le_refl _) (.cells #[.int .i64 c1] 3)).mono hW.size))) (lit_col W 3 c1) (by simp))
   have z2:=cell_kept HX2.out hqa
   have HZ2:=Lib.hid z2
   clear hqa HX2 z2 HB
   go_wp2_with fail
   refine hp.mono ?_
   clear hp
   intro e w3 he3
   rcases pick_one he3 with ⟨b3,o3,p3,rfl,k3,hq3⟩ | ⟨k3,A3,p3,rfl,hq3⟩
   ·have HX1:=Lib.hid k3
    have z2:=cell_kept HZ2.out hq3
    have HB3:=Lib.hid (HB1.out.trans (hq3.mono HB1.out.size))
    have hp:=HQ2.out _ HB3.out
    have hqa:=Below.alloc (.refl w3.heap.size w3) (Nat.le_refl _) (.cells #[.int .i64 c1] 3)
    replace HX1:=Lib.hid (cell_kept HX1.out hqa)
    replace HB3:=Lib.hid (HB3.out.trans (hqa.mono HB3.out.size))
    clear HQ2 k3 HZ2 hq3 he3 x1 hqa HB1
    go_wp2_with fail
    refine hp.mono ?_
    clear hp
    intro e w4 he4
    rcases pick_one he4 with ⟨b4,o4,p4,rfl,k4,hq4⟩ | ⟨k4,A4,p4,rfl,hq4⟩
    ·have HY1:=Lib.hid k4
     replace HX1:=Lib.hid (cell_kept HX1.out hq4)
     have HB4:=Lib.hid (HB3.out.trans (hq4.mono HB3.out.size))
     clear k4 hq4 he4 z2 HB3
     generalize atF xs c0=s at *
     generalize atF ys c1=t at *
     by_cases he:s=⟨#[]⟩
     ·have HF:=Lib.hid (HN.out (by rw [decide_eq_false (by simp [he])];rfl))
      clear HT HN HM
      subst he
      go_wp2_with fail
      refine wp_region_calm (offC w4) (fun _=>false) (fun _=>false) anyE false (by kernel_rfl) (by kernel_rfl) (by kernel_rfl) (by kernel_rfl) (by intro m hm;revert hm;simp;try omega) (offC_stable _) (offC_start _) ?_
      refine calm_fixA rfl rfl ?_
      apply Exists.intro
      refine ⟨fun a wz hc hk hf K hK=>?_,?_⟩
      ·have h9:=hk 9 (by kernel_rfl)
       clear hk hf hc
       go_simp
       exact hK _ _ (Below.refl _ _) rfl
      refine calm_fixA rfl rfl ?_
      apply Exists.intro
      refine ⟨fun a wz hc hk hf K hK=>?_,?_⟩
      ·have h40:=held_isV hf 0 rfl (by kernel_rfl)
       clear hk hf hc
       go_simp
       exact hK _ _ (Below.refl _ _) rfl
      refine calm_fixA rfl rfl ?_
      apply Exists.intro
      refine ⟨fun a wz hc hk hf K hK=>?_,?_⟩
      ·have h41:=held_isV hf 0 rfl (by kernel_rfl)
       clear hk hf hc
       go_simp
       exact hK _ _ (Below.refl _ _) rfl
      refine calm_fixA rfl rfl ?_
      apply Exists.intro
      refine ⟨fun a wz hc hk hf K hK=>?_,?_⟩
      ·have h11:=hk 11 (by kernel_rfl)
       have h42:=held_isV hf 0 rfl (by kernel_rfl)
       clear hk hf hc
       go_simp
       exact hK _ _ (Below.refl _ _) rfl
      refine calm_fixA rfl rfl ?_
      apply Exists.intro
      refine ⟨fun a wz hc hk hf K hK=>?_,?_⟩
      ·have h43:=held_isV hf 0 rfl (by kernel_rfl)
       have h42:=held_isV hf 1 rfl (by kernel_rfl)
       clear hk hf hc
       go_simp
       exact hK _ _ (Below.refl _ _) rfl
      refine calm_fixA rfl rfl ?_
      apply Exists.intro
      refine ⟨fun a wz hc hk hf K hK=>?_,?_⟩
      ·have h42:=held_isV hf 2 rfl (by kernel_rfl)
       have h44:=held_isV hf 0 rfl (by kernel_rfl)
       clear hk hf hc
       go_simp
       exact hK _ _ (Below.refl _ _) rfl
      refine calm_fixA rfl rfl ?_
      apply Exists.intro
      refine ⟨fun a wz hc hk hf K hK=>?_,?_⟩
      ·have h45:=held_isV hf 0 rfl (by kernel_rfl)
       clear hk hf hc
       go_simp
       exact hK _ _ (Below.refl _ _) rfl
      refine calm_fixA rfl rfl ?_
      apply Exists.intro
      refine ⟨fun a wz hc hk hf K hK=>?_,?_⟩
      ·have h8:=hk 8 (by kernel_rfl)
       have h46:=held_isV hf 0 rfl (by kernel_rfl)
       clear hk hf hc
       go_simp
       exact hK _ _ (Below.refl _ _) rfl
      refine calm_fixA rfl rfl ?_
      apply Exists.intro
      refine ⟨fun a wz hc hk hf K hK=>?_,?_⟩
      ·have h47:=held_isV hf 0 rfl (by kernel_rfl)
       have h46:=held_isV hf 1 rfl (by kernel_rfl)
       clear hk hf hc
       go_simp
       exact hK _ _ (Below.refl _ _) rfl
      refine calm_fixA rfl rfl ?_
      apply Exists.intro
      refine ⟨fun a wz hc hk hf K hK=>?_,?_⟩
      ·have hb:Below w4.heap.size w4 wz:=hc rfl
       have h48:=held_isV hf 0 rfl (by kernel_rfl)
       have h46:=held_isV hf 2 rfl (by kernel_rfl)
       clear hk hf hc
       have x1:=cell_kept HX1.out hb
       go_simp
       exact hK _ _ (Below.refl _ _) rfl
      refine calm_fixA rfl rfl ?_
      apply Exists.intro
      refine ⟨fun a wz hc hk hf K hK=>?_,?_⟩
      ·have h49:=held_isV hf 0 rfl (by kernel_rfl)
       have h46:=held_isV hf 3 rfl (by kernel_rfl)
       clear hk hf hc
       go_simp
       exact hK _ _ (Below.refl _ _) rfl
      refine calm_fixA rfl rfl ?_
      apply Exists.intro
      refine ⟨fun a wz hc hk hf K hK=>?_,?_⟩
      ·have h46:=held_isV hf 4 rfl (by kernel_rfl)
       have h50:=held_isV hf 0 rfl (by kernel_rfl)
       clear hk hf hc
       go_simp
       exact hK _ _ (Below.refl _ _) rfl
      refine calm_fixA rfl rfl ?_
      apply Exists.intro
      refine ⟨fun a wz hc hk hf K hK=>?_,?_⟩
      ·have h51:=held_isV hf 0 rfl (by kernel_rfl)
       clear hk hf hc
       go_simp
       exact hK _ _ (Below.refl _ _) rfl
      refine calm_fixA rfl rfl ?_
      apply Exists.intro
      refine ⟨fun a wz hc hk hf K hK=>?_,?_⟩
      ·have h8:=hk 8 (by kernel_rfl)
       have h52:=held_isV hf 0 rfl (by kernel_rfl)
       clear hk hf hc
       go_simp
       exact hK _ _ (Below.refl _ _) rfl
      refine calm_fixA rfl rfl ?_
      apply Exists.intro
      refine ⟨fun a wz hc hk hf K hK=>?_,?_⟩
      ·have h53:=held_isV hf 0 rfl (by kernel_rfl)
       have h52:=held_isV hf 1 rfl (by kernel_rfl)
       clear hk hf hc
       go_simp
       exact hK _ _ (Below.refl _ _) rfl
      refine calm_fixA rfl rfl ?_
      apply Exists.intro
      refine ⟨fun a wz hc hk hf K hK=>?_,?_⟩
      ·have hb:Below w4.heap.size w4 wz:=hc rfl
       have h54:=held_isV hf 0 rfl (by kernel_rfl)
       have h52:=held_isV hf 2 rfl (by kernel_rfl)
       clear hk hf hc
       have x1:=cell_kept HX1.out hb
       go_simp
       exact hK _ _ (Below.refl _ _) rfl
      refine calm_fixA rfl rfl ?_
      apply Exists.intro
      refine ⟨fun a wz hc hk hf K hK=>?_,?_⟩
      ·have h10:=hk 10 (by kernel_rfl)
       have h52:=held_isV hf 3 rfl (by kernel_rfl)
       clear hk hf hc
       go_simp
       exact hK _ _ (Below.refl _ _) rfl
      refine calm_fixA rfl rfl ?_
      apply Exists.intro
      refine ⟨fun a wz hc hk hf K hK=>?_,?_⟩
      ·have h56:=held_isV hf 0 rfl (by kernel_rfl)
       have h52:=held_isV hf 4 rfl (by kernel_rfl)
       clear hk hf hc
       go_simp
       exact hK _ _ (Below.refl _ _) rfl
      refine calm_fixA rfl rfl ?_
      apply Exists.intro
      refine ⟨fun a wz hc hk hf K hK=>?_,?_⟩
      ·have hb:Below w4.heap.size w4 wz:=hc rfl
       have h57:=held_isV hf 0 rfl (by kernel_rfl)
       have h52:=held_isV hf 5 rfl (by kernel_rfl)
       clear hk hf hc
       have x1:=cell_kept HX1.out hb
       go_simp
       exact hK _ _ (Below.refl _ _) rfl
      refine calm_fixA rfl rfl ?_
      apply Exists.intro
      refine ⟨fun a wz hc hk hf K hK=>?_,?_⟩
      ·have h55:=held_isV hf 3 rfl (by kernel_rfl)
       have h58:=held_isV hf 0 rfl (by kernel_rfl)
       have h52:=held_isV hf 6 rfl (by kernel_rfl)
       clear hk hf hc
       go_simp
       exact hK _ _ (Below.refl _ _) rfl
      refine calm_fixA rfl rfl ?_
      apply Exists.intro
      refine ⟨fun a wz hc hk hf K hK=>?_,?_⟩
      ·have h52:=held_isV hf 7 rfl (by kernel_rfl)
       have h59:=held_isV hf 0 rfl (by kernel_rfl)
       clear hk hf hc
       go_simp
       exact hK _ _ (Below.refl _ _) rfl
      refine calm_nil ?_
      refine ⟨keeps_none,?_⟩
      intro w5 hc
      simp only [lexL,calmEnd]
      rintro _ rfl _ rfl _ rfl _ rfl _ rfl _ rfl _ rfl _ rfl _ rfl _ rfl _ rfl _ rfl _ rfl _ rfl _ rfl _ rfl _ rfl _ rfl _ rfl _ rfl _ rfl
      have hq:Below w4.heap.size w4 w5:=hc rfl
      have HB5:=Lib.hid (HB4.out.trans (hq.mono HB4.out.size))
      clear hq hc HB4 HX1
      simp only [Act.put,List.setIfInBounds_toArray,List.set_cons_zero,List.set_cons_succ]
      go_wp2
      go_ret
      exact ⟨ret_bool HF.out.symm,HB5.out⟩
     ·have HD:Hid (decide (s≠⟨#[]⟩)=true):=decide_eq_true he
      rw [HD.out,Bool.true_and] at HT HN
      have e0:=text_some he
      clear HM HD he
      rcases str_ne_cases s t with ⟨he,e2,-⟩ | ⟨he,e2,-⟩
      ·have HX:=Lib.hid (HT.out.trans (decide_eq_true he))
       clear he HT HN
       go_wp2_with fail
       refine wp_region_calm (offC w4) (fun _=>false) (fun _=>false) anyE false (by kernel_rfl) (by kernel_rfl) (by kernel_rfl) (by kernel_rfl) (by intro m hm;revert hm;simp;try omega) (offC_stable _) (offC_start _) ?_
       refine calm_fixA rfl rfl ?_
       apply Exists.intro
       refine ⟨fun a wz hc hk hf K hK=>?_,?_⟩
       ·have h9:=hk 9 (by kernel_rfl)
        clear hk hf hc
        go_simp
        exact hK _ _ (Below.refl _ _) rfl
       refine calm_fixA rfl rfl ?_
       apply Exists.intro
       refine ⟨fun a wz hc hk hf K hK=>?_,?_⟩
       ·have h40:=held_isV hf 0 rfl (by kernel_rfl)
        clear hk hf hc
        go_simp
        exact hK _ _ (Below.refl _ _) rfl
       refine calm_fixA rfl rfl ?_
       apply Exists.intro
       refine ⟨fun a wz hc hk hf K hK=>?_,?_⟩
       ·have h41:=held_isV hf 0 rfl (by kernel_rfl)
        clear hk hf hc
        go_simp
        exact hK _ _ (Below.refl _ _) rfl
       refine calm_fixA rfl rfl ?_
       apply Exists.intro
       refine ⟨fun a wz hc hk hf K hK=>?_,?_⟩
       ·have h11:=hk 11 (by kernel_rfl)
        have h42:=held_isV hf 0 rfl (by kernel_rfl)
        clear hk hf hc
        go_simp
        exact hK _ _ (Below.refl _ _) rfl
       refine calm_fixA rfl rfl ?_
       apply Exists.intro
       refine ⟨fun a wz hc hk hf K hK=>?_,?_⟩
       ·have h43:=held_isV hf 0 rfl (by kernel_rfl)
        have h42:=held_isV hf 1 rfl (by kernel_rfl)
        clear hk hf hc
        go_simp
        exact hK _ _ (Below.refl _ _) rfl
       refine calm_fixA rfl rfl ?_
       apply Exists.intro
       refine ⟨fun a wz hc hk hf K hK=>?_,?_⟩
       ·have h42:=held_isV hf 2 rfl (by kernel_rfl)
        have h44:=held_isV hf 0 rfl (by kernel_rfl)
        clear hk hf hc
        go_simp
        exact hK _ _ (Below.refl _ _) rfl
       refine calm_fixA rfl rfl ?_
       apply Exists.intro
       refine ⟨fun a wz hc hk hf K hK=>?_,?_⟩
       ·have h45:=held_isV hf 0 rfl (by kernel_rfl)
        clear hk hf hc
        go_simp
        exact hK _ _ (Below.refl _ _) rfl
       refine calm_fixA rfl rfl ?_
       apply Exists.intro
       refine ⟨fun a wz hc hk hf K hK=>?_,?_⟩
       ·have h8:=hk 8 (by kernel_rfl)
        have h46:=held_isV hf 0 rfl (by kernel_rfl)
        clear hk hf hc
        go_simp
        exact hK _ _ (Below.refl _ _) rfl
       refine calm_fixA rfl rfl ?_
       apply Exists.intro
       refine ⟨fun a wz hc hk hf K hK=>?_,?_⟩
       ·have h47:=held_isV hf 0 rfl (by kernel_rfl)
        have h46:=held_isV hf 1 rfl (by kernel_rfl)
        clear hk hf hc
        go_simp
        exact hK _ _ (Below.refl _ _) rfl
       refine calm_fixA rfl rfl ?_
       apply Exists.intro
       refine ⟨fun a wz hc hk hf K hK=>?_,?_⟩
       ·have hb:Below w4.heap.size w4 wz:=hc rfl
        have h48:=held_isV hf 0 rfl (by kernel_rfl)
        have h46:=held_isV hf 2 rfl (by kernel_rfl)
        clear hk hf hc
        have x1:=cell_kept HX1.out hb
        have y1:=cell_kept HY1.out hb
        go_simp
        exact hK _ _ (Below.refl _ _) rfl
       refine calm_fixA rfl rfl ?_
       apply Exists.intro
       refine ⟨fun a wz hc hk hf K hK=>?_,?_⟩
       ·have h49:=held_isV hf 0 rfl (by kernel_rfl)
        have h46:=held_isV hf 3 rfl (by kernel_rfl)
        clear hk hf hc
        go_simp
        exact hK _ _ (Below.refl _ _) rfl
       refine calm_fixA rfl rfl ?_
       apply Exists.intro
       refine ⟨fun a wz hc hk hf K hK=>?_,?_⟩
       ·have h46:=held_isV hf 4 rfl (by kernel_rfl)
        have h50:=held_isV hf 0 rfl (by kernel_rfl)
        clear hk hf hc
        go_simp
        exact hK _ _ (Below.refl _ _) rfl
       refine calm_fixA rfl rfl ?_
       apply Exists.intro
       refine ⟨fun a wz hc hk hf K hK=>?_,?_⟩
       ·have h51:=held_isV hf 0 rfl (by kernel_rfl)
        clear hk hf hc
        go_simp
        exact hK _ _ (Below.refl _ _) rfl
       refine calm_fixA rfl rfl ?_
       apply Exists.intro
       refine ⟨fun a wz hc hk hf K hK=>?_,?_⟩
       ·have h8:=hk 8 (by kernel_rfl)
        have h52:=held_isV hf 0 rfl (by kernel_rfl)
        clear hk hf hc
        go_simp
        exact hK _ _ (Below.refl _ _) rfl
       refine calm_fixA rfl rfl ?_
       apply Exists.intro
       refine ⟨fun a wz hc hk hf K hK=>?_,?_⟩
       ·have h53:=held_isV hf 0 rfl (by kernel_rfl)
        have h52:=held_isV hf 1 rfl (by kernel_rfl)
        clear hk hf hc
        go_simp
        exact hK _ _ (Below.refl _ _) rfl
       refine calm_fixA rfl rfl ?_
       apply Exists.intro
       refine ⟨fun a wz hc hk hf K hK=>?_,?_⟩
       ·have hb:Below w4.heap.size w4 wz:=hc rfl
        have h54:=held_isV hf 0 rfl (by kernel_rfl)
        have h52:=held_isV hf 2 rfl (by kernel_rfl)
        clear hk hf hc
        have x1:=cell_kept HX1.out hb
        have y1:=cell_kept HY1.out hb
        go_simp
        exact hK _ _ (Below.refl _ _) rfl
       refine calm_fixA rfl rfl ?_
       apply Exists.intro
       refine ⟨fun a wz hc hk hf K hK=>?_,?_⟩
       ·have h10:=hk 10 (by kernel_rfl)
        have h52:=held_isV hf 3 rfl (by kernel_rfl)
        clear hk hf hc
        go_simp
        exact hK _ _ (Below.refl _ _) rfl
       refine calm_fixA rfl rfl ?_
       apply Exists.intro
       refine ⟨fun a wz hc hk hf K hK=>?_,?_⟩
       ·have h56:=held_isV hf 0 rfl (by kernel_rfl)
        have h52:=held_isV hf 4 rfl (by kernel_rfl)
        clear hk hf hc
        go_simp
        exact hK _ _ (Below.refl _ _) rfl
       refine calm_fixA rfl rfl ?_
       apply Exists.intro
       refine ⟨fun a wz hc hk hf K hK=>?_,?_⟩
       ·have hb:Below w4.heap.size w4 wz:=hc rfl
        have h57:=held_isV hf 0 rfl (by kernel_rfl)
        have h52:=held_isV hf 5 rfl (by kernel_rfl)
        clear hk hf hc
        have x1:=cell_kept HX1.out hb
        have y1:=cell_kept HY1.out hb
        go_simp
        exact hK _ _ (Below.refl _ _) rfl
       refine calm_fixA rfl rfl ?_
       apply Exists.intro
       refine ⟨fun a wz hc hk hf K hK=>?_,?_⟩
       ·have h55:=held_isV hf 3 rfl (by kernel_rfl)
        have h58:=held_isV hf 0 rfl (by kernel_rfl)
        have h52:=held_isV hf 6 rfl (by kernel_rfl)
        clear hk hf hc
        go_simp
        exact hK _ _ (Below.refl _ _) rfl
       refine calm_fixA rfl rfl ?_
       apply Exists.intro
       refine ⟨fun a wz hc hk hf K hK=>?_,?_⟩
       ·have h52:=held_isV hf 7 rfl (by kernel_rfl)
        have h59:=held_isV hf 0 rfl (by kernel_rfl)
        clear hk hf hc
        go_simp
        exact hK _ _ (Below.refl _ _) rfl
       refine calm_nil ?_
       refine ⟨keeps_none,?_⟩
       intro w5 hc
       simp only [lexL,calmEnd]
       rintro _ rfl _ rfl _ rfl _ rfl _ rfl _ rfl _ rfl _ rfl _ rfl _ rfl _ rfl _ rfl _ rfl _ rfl _ rfl _ rfl _ rfl _ rfl _ rfl _ rfl _ rfl
       have hq:Below w4.heap.size w4 w5:=hc rfl
       have HB5:=Lib.hid (HB4.out.trans (hq.mono HB4.out.size))
       clear hq hc HB4 HX1
       simp only [Act.put,List.setIfInBounds_toArray,List.set_cons_zero,List.set_cons_succ]
       have hml:=HON.out
       unfold maxLen at hml
       go_wp2
       go_roundw
       case rel=>exact ⟨k+1,HLK.out,by go_num,HX,HB5⟩
       case measure=>have:=HLK.out;simp [intOf];omega
      ·have HF:=Lib.hid (HN.out (decide_eq_false he))
       clear he HT HN
       go_wp2_with fail
       refine wp_region_calm (offC w4) (fun _=>false) (fun _=>false) anyE false (by kernel_rfl) (by kernel_rfl) (by kernel_rfl) (by kernel_rfl) (by intro m hm;revert hm;simp;try omega) (offC_stable _) (offC_start _) ?_
       refine calm_fixA rfl rfl ?_
       apply Exists.intro
       refine ⟨fun a wz hc hk hf K hK=>?_,?_⟩
       ·have h9:=hk 9 (by kernel_rfl)
        clear hk hf hc
        go_simp
        exact hK _ _ (Below.refl _ _) rfl
       refine calm_fixA rfl rfl ?_
       apply Exists.intro
       refine ⟨fun a wz hc hk hf K hK=>?_,?_⟩
       ·have h40:=held_isV hf 0 rfl (by kernel_rfl)
        clear hk hf hc
        go_simp
        exact hK _ _ (Below.refl _ _) rfl
       refine calm_fixA rfl rfl ?_
       apply Exists.intro
       refine ⟨fun a wz hc hk hf K hK=>?_,?_⟩
       ·have h41:=held_isV hf 0 rfl (by kernel_rfl)
        clear hk hf hc
        go_simp
        exact hK _ _ (Below.refl _ _) rfl
       refine calm_fixA rfl rfl ?_
       apply Exists.intro
       refine ⟨fun a wz hc hk hf K hK=>?_,?_⟩
       ·have h11:=hk 11 (by kernel_rfl)
        have h42:=held_isV hf 0 rfl (by kernel_rfl)
        clear hk hf hc
        go_simp
        exact hK _ _ (Below.refl _ _) rfl
       refine calm_fixA rfl rfl ?_
       apply Exists.intro
       refine ⟨fun a wz hc hk hf K hK=>?_,?_⟩
       ·have h43:=held_isV hf 0 rfl (by kernel_rfl)
        have h42:=held_isV hf 1 rfl (by kernel_rfl)
        clear hk hf hc
        go_simp
        exact hK _ _ (Below.refl _ _) rfl
       refine calm_fixA rfl rfl ?_
       apply Exists.intro
       refine ⟨fun a wz hc hk hf K hK=>?_,?_⟩
       ·have h42:=held_isV hf 2 rfl (by kernel_rfl)
        have h44:=held_isV hf 0 rfl (by kernel_rfl)
        clear hk hf hc
        go_simp
        exact hK _ _ (Below.refl _ _) rfl
       refine calm_fixA rfl rfl ?_
       apply Exists.intro
       refine ⟨fun a wz hc hk hf K hK=>?_,?_⟩
       ·have h45:=held_isV hf 0 rfl (by kernel_rfl)
        clear hk hf hc
        go_simp
        exact hK _ _ (Below.refl _ _) rfl
       refine calm_fixA rfl rfl ?_
       apply Exists.intro
       refine ⟨fun a wz hc hk hf K hK=>?_,?_⟩
       ·have h8:=hk 8 (by kernel_rfl)
        have h46:=held_isV hf 0 rfl (by kernel_rfl)
        clear hk hf hc
        go_simp
        exact hK _ _ (Below.refl _ _) rfl
       refine calm_fixA rfl rfl ?_
       apply Exists.intro
       refine ⟨fun a wz hc hk hf K hK=>?_,?_⟩
       ·have h47:=held_isV hf 0 rfl (by kernel_rfl)
        have h46:=held_isV hf 1 rfl (by kernel_rfl)
        clear hk hf hc
        go_simp
        exact hK _ _ (Below.refl _ _) rfl
       refine calm_fixA rfl rfl ?_
       apply Exists.intro
       refine ⟨fun a wz hc hk hf K hK=>?_,?_⟩
       ·have hb:Below w4.heap.size w4 wz:=hc rfl
        have h48:=held_isV hf 0 rfl (by kernel_rfl)
        have h46:=held_isV hf 2 rfl (by kernel_rfl)
        clear hk hf hc
        have x1:=cell_kept HX1.out hb
        have y1:=cell_kept HY1.out hb
        go_simp
        exact hK _ _ (Below.refl _ _) rfl
       refine calm_fixA rfl rfl ?_
       apply Exists.intro
       refine ⟨fun a wz hc hk hf K hK=>?_,?_⟩
       ·have h49:=held_isV hf 0 rfl (by kernel_rfl)
        have h46:=held_isV hf 3 rfl (by kernel_rfl)
        clear hk hf hc
        go_simp
        exact hK _ _ (Below.refl _ _) rfl
       refine calm_fixA rfl rfl ?_
       apply Exists.intro
       refine ⟨fun a wz hc hk hf K hK=>?_,?_⟩
       ·have h46:=held_isV hf 4 rfl (by kernel_rfl)
        have h50:=held_isV hf 0 rfl (by kernel_rfl)
        clear hk hf hc
        go_simp
        exact hK _ _ (Below.refl _ _) rfl
       refine calm_fixA rfl rfl ?_
       apply Exists.intro
       refine ⟨fun a wz hc hk hf K hK=>?_,?_⟩
       ·have h51:=held_isV hf 0 rfl (by kernel_rfl)
        clear hk hf hc
        go_simp
        exact hK _ _ (Below.refl _ _) rfl
       refine calm_fixA rfl rfl ?_
       apply Exists.intro
       refine ⟨fun a wz hc hk hf K hK=>?_,?_⟩
       ·have h8:=hk 8 (by kernel_rfl)
        have h52:=held_isV hf 0 rfl (by kernel_rfl)
        clear hk hf hc
        go_simp
        exact hK _ _ (Below.refl _ _) rfl
       refine calm_fixA rfl rfl ?_
       apply Exists.intro
       refine ⟨fun a wz hc hk hf K hK=>?_,?_⟩
       ·have h53:=held_isV hf 0 rfl (by kernel_rfl)
        have h52:=held_isV hf 1 rfl (by kernel_rfl)
        clear hk hf hc
        go_simp
        exact hK _ _ (Below.refl _ _) rfl
       refine calm_fixA rfl rfl ?_
       apply Exists.intro
       refine ⟨fun a wz hc hk hf K hK=>?_,?_⟩
       ·have hb:Below w4.heap.size w4 wz:=hc rfl
        have h54:=held_isV hf 0 rfl (by kernel_rfl)
        have h52:=held_isV hf 2 rfl (by kernel_rfl)
        clear hk hf hc
        have x1:=cell_kept HX1.out hb
        have y1:=cell_kept HY1.out hb
        go_simp
        exact hK _ _ (Below.refl _ _) rfl
       refine calm_fixA rfl rfl ?_
       apply Exists.intro
       refine ⟨fun a wz hc hk hf K hK=>?_,?_⟩
       ·have h10:=hk 10 (by kernel_rfl)
        have h52:=held_isV hf 3 rfl (by kernel_rfl)
        clear hk hf hc
        go_simp
        exact hK _ _ (Below.refl _ _) rfl
       refine calm_fixA rfl rfl ?_
       apply Exists.intro
       refine ⟨fun a wz hc hk hf K hK=>?_,?_⟩
       ·have h56:=held_isV hf 0 rfl (by kernel_rfl)
        have h52:=held_isV hf 4 rfl (by kernel_rfl)
        clear hk hf hc
        go_simp
        exact hK _ _ (Below.refl _ _) rfl
       refine calm_fixA rfl rfl ?_
       apply Exists.intro
       refine ⟨fun a wz hc hk hf K hK=>?_,?_⟩
       ·have hb:Below w4.heap.size w4 wz:=hc rfl
        have h57:=held_isV hf 0 rfl (by kernel_rfl)
        have h52:=held_isV hf 5 rfl (by kernel_rfl)
        clear hk hf hc
        have x1:=cell_kept HX1.out hb
        have y1:=cell_kept HY1.out hb
        go_simp
        exact hK _ _ (Below.refl _ _) rfl
       refine calm_fixA rfl rfl ?_
       apply Exists.intro
       refine ⟨fun a wz hc hk hf K hK=>?_,?_⟩
       ·have h55:=held_isV hf 3 rfl (by kernel_rfl)
        have h58:=held_isV hf 0 rfl (by kernel_rfl)
        have h52:=held_isV hf 6 rfl (by kernel_rfl)
        clear hk hf hc
        go_simp
        exact hK _ _ (Below.refl _ _) rfl
       refine calm_fixA rfl rfl ?_
       apply Exists.intro
       refine ⟨fun a wz hc hk hf K hK=>?_,?_⟩
       ·have h52:=held_isV hf 7 rfl (by kernel_rfl)
        have h59:=held_isV hf 0 rfl (by kernel_rfl)
        clear hk hf hc
        go_simp
        exact hK _ _ (Below.refl _ _) rfl
       refine calm_nil ?_
       refine ⟨keeps_none,?_⟩
       intro w5 hc
       simp only [lexL,calmEnd]
       rintro _ rfl _ rfl _ rfl _ rfl _ rfl _ rfl _ rfl _ rfl _ rfl _ rfl _ rfl _ rfl _ rfl _ rfl _ rfl _ rfl _ rfl _ rfl _ rfl _ rfl _ rfl
       have hq:Below w4.heap.size w4 w5:=hc rfl
       have HB5:=Lib.hid (HB4.out.trans (hq.mono HB4.out.size))
       clear hq hc HB4 HX1
       simp only [Act.put,List.setIfInBounds_toArray,List.set_cons_zero,List.set_cons_succ]
       go_wp2
       go_ret
       exact ⟨ret_bool HF.out.symm,HB5.out⟩
    ·have HF:=Lib.hid (HN.out (by rw [k4];cases hd:decide (atF xs c0=⟨#[]⟩) <;> simp_all))
     have HB4:=Lib.hid (HB3.out.trans (hq4.mono HB3.out.size))
     clear k4 hq4 he4 z2 HB3 HT HN HM HX1
     go_wp2_with fail
     refine wp_region_calm (offC w4) (fun _=>false) (fun _=>false) anyE false (by kernel_rfl) (by kernel_rfl) (by kernel_rfl) (by kernel_rfl) (by intro m hm;revert hm;simp;try omega) (offC_stable _) (offC_start _) ?_
     refine calm_fixA rfl rfl ?_
     apply Exists.intro
     refine ⟨fun a wz hc hk hf K hK=>?_,?_⟩
     ·have h9:=hk 9 (by kernel_rfl)
      clear hk hf hc
      go_simp
      exact hK _ _ (Below.refl _ _) rfl
     refine calm_fixA rfl rfl ?_
     apply Exists.intro
     refine ⟨fun a wz hc hk hf K hK=>?_,?_⟩
     ·have h40:=held_isV hf 0 rfl (by kernel_rfl)
      clear hk hf hc
      go_simp
      exact hK _ _ (Below.refl _ _) rfl
     refine calm_fixA rfl rfl ?_
     apply Exists.intro
     refine ⟨fun a wz hc hk hf K hK=>?_,?_⟩
     ·have h41:=held_isV hf 0 rfl (by kernel_rfl)
      clear hk hf hc
      go_simp
      exact hK _ _ (Below.refl _ _) rfl
     refine calm_fixA rfl rfl ?_
     apply Exists.intro
     refine ⟨fun a wz hc hk hf K hK=>?_,?_⟩
     ·have h11:=hk 11 (by kernel_rfl)
      have h42:=held_isV hf 0 rfl (by kernel_rfl)
      clear hk hf hc
      go_simp
      exact hK _ _ (Below.refl _ _) rfl
     refine calm_fixA rfl rfl ?_
     apply Exists.intro
     refine ⟨fun a wz hc hk hf K hK=>?_,?_⟩
     ·have h43:=held_isV hf 0 rfl (by kernel_rfl)
      have h42:=held_isV hf 1 rfl (by kernel_rfl)
      clear hk hf hc
      go_simp
      exact hK _ _ (Below.refl _ _) rfl
     refine calm_fixA rfl rfl ?_
     apply Exists.intro
     refine ⟨fun a wz hc hk hf K hK=>?_,?_⟩
     ·have h42:=held_isV hf 2 rfl (by kernel_rfl)
      have h44:=held_isV hf 0 rfl (by kernel_rfl)
      clear hk hf hc
      go_simp
      exact hK _ _ (Below.refl _ _) rfl
     refine calm_fixA rfl rfl ?_
     apply Exists.intro
     refine ⟨fun a wz hc hk hf K hK=>?_,?_⟩
     ·have h45:=held_isV hf 0 rfl (by kernel_rfl)
      clear hk hf hc
      go_simp
      exact hK _ _ (Below.refl _ _) rfl
     refine calm_fixA rfl rfl ?_
     apply Exists.intro
     refine ⟨fun a wz hc hk hf K hK=>?_,?_⟩
     ·have h8:=hk 8 (by kernel_rfl)
      have h46:=held_isV hf 0 rfl (by kernel_rfl)
      clear hk hf hc
      go_simp
      exact hK _ _ (Below.refl _ _) rfl
     refine calm_fixA rfl rfl ?_
     apply Exists.intro
     refine ⟨fun a wz hc hk hf K hK=>?_,?_⟩
     ·have h47:=held_isV hf 0 rfl (by kernel_rfl)
      have h46:=held_isV hf 1 rfl (by kernel_rfl)
      clear hk hf hc
      go_simp
      exact hK _ _ (Below.refl _ _) rfl
     refine calm_fixA rfl rfl ?_
     apply Exists.intro
     refine ⟨fun a wz hc hk hf K hK=>?_,?_⟩
     ·have hb:Below w4.heap.size w4 wz:=hc rfl
      have h48:=held_isV hf 0 rfl (by kernel_rfl)
      have h46:=held_isV hf 2 rfl (by kernel_rfl)
      clear hk hf hc
      go_simp
      exact hK _ _ (Below.refl _ _) rfl
     refine calm_fixA rfl rfl ?_
     apply Exists.intro
     refine ⟨fun a wz hc hk hf K hK=>?_,?_⟩
     ·have h49:=held_isV hf 0 rfl (by kernel_rfl)
      have h46:=held_isV hf 3 rfl (by kernel_rfl)
      clear hk hf hc
      go_simp
      exact hK _ _ (Below.refl _ _) rfl
     refine calm_fixA rfl rfl ?_
     apply Exists.intro
     refine ⟨fun a wz hc hk hf K hK=>?_,?_⟩
     ·have h46:=held_isV hf 4 rfl (by kernel_rfl)
      have h50:=held_isV hf 0 rfl (by kernel_rfl)
      clear hk hf hc
      go_simp
      exact hK _ _ (Below.refl _ _) rfl
     refine calm_fixA rfl rfl ?_
     apply Exists.intro
     refine ⟨fun a wz hc hk hf K hK=>?_,?_⟩
     ·have h51:=held_isV hf 0 rfl (by kernel_rfl)
      clear hk hf hc
      go_simp
      exact hK _ _ (Below.refl _ _) rfl
     refine calm_fixA rfl rfl ?_
     apply Exists.intro
     refine ⟨fun a wz hc hk hf K hK=>?_,?_⟩
     ·have h8:=hk 8 (by kernel_rfl)
      have h52:=held_isV hf 0 rfl (by kernel_rfl)
      clear hk hf hc
      go_simp
      exact hK _ _ (Below.refl _ _) rfl
     refine calm_fixA rfl rfl ?_
     apply Exists.intro
     refine ⟨fun a wz hc hk hf K hK=>?_,?_⟩
     ·have h53:=held_isV hf 0 rfl (by kernel_rfl)
      have h52:=held_isV hf 1 rfl (by kernel_rfl)
      clear hk hf hc
      go_simp
      exact hK _ _ (Below.refl _ _) rfl
     refine calm_fixA rfl rfl ?_
     apply Exists.intro
     refine ⟨fun a wz hc hk hf K hK=>?_,?_⟩
     ·have hb:Below w4.heap.size w4 wz:=hc rfl
      have h54:=held_isV hf 0 rfl (by kernel_rfl)
      have h52:=held_isV hf 2 rfl (by kernel_rfl)
      clear hk hf hc
      go_simp
      exact hK _ _ (Below.refl _ _) rfl
     refine calm_fixA rfl rfl ?_
     apply Exists.intro
     refine ⟨fun a wz hc hk hf K hK=>?_,?_⟩
     ·have h10:=hk 10 (by kernel_rfl)
      have h52:=held_isV hf 3 rfl (by kernel_rfl)
      clear hk hf hc
      go_simp
      exact hK _ _ (Below.refl _ _) rfl
     refine calm_fixA rfl rfl ?_
     apply Exists.intro
     refine ⟨fun a wz hc hk hf K hK=>?_,?_⟩
     ·have h56:=held_isV hf 0 rfl (by kernel_rfl)
      have h52:=held_isV hf 4 rfl (by kernel_rfl)
      clear hk hf hc
      go_simp
      exact hK _ _ (Below.refl _ _) rfl
     refine calm_fixA rfl rfl ?_
     apply Exists.intro
     refine ⟨fun a wz hc hk hf K hK=>?_,?_⟩
     ·have hb:Below w4.heap.size w4 wz:=hc rfl
      have h57:=held_isV hf 0 rfl (by kernel_rfl)
      have h52:=held_isV hf 5 rfl (by kernel_rfl)
      clear hk hf hc
      go_simp
      exact hK _ _ (Below.refl _ _) rfl
     refine calm_fixA rfl rfl ?_
     apply Exists.intro
     refine ⟨fun a wz hc hk hf K hK=>?_,?_⟩
     ·have h55:=held_isV hf 3 rfl (by kernel_rfl)
      have h58:=held_isV hf 0 rfl (by kernel_rfl)
      have h52:=held_isV hf 6 rfl (by kernel_rfl)
      clear hk hf hc
      go_simp
      exact hK _ _ (Below.refl _ _) rfl
     refine calm_fixA rfl rfl ?_
     apply Exists.intro
     refine ⟨fun a wz hc hk hf K hK=>?_,?_⟩
     ·have h52:=held_isV hf 7 rfl (by kernel_rfl)
      have h59:=held_isV hf 0 rfl (by kernel_rfl)
      clear hk hf hc
      go_simp
      exact hK _ _ (Below.refl _ _) rfl
     refine calm_nil ?_
     refine ⟨keeps_none,?_⟩
     intro w5 hc
     simp only [lexL,calmEnd]
     rintro _ rfl _ rfl _ rfl _ rfl _ rfl _ rfl _ rfl _ rfl _ rfl _ rfl _ rfl _ rfl _ rfl _ rfl _ rfl _ rfl _ rfl _ rfl _ rfl _ rfl _ rfl
     have hq:Below w4.heap.size w4 w5:=hc rfl
     have HB5:=Lib.hid (HB4.out.trans (hq.mono HB4.out.size))
     clear hq hc HB4
     simp only [Act.put,List.setIfInBounds_toArray,List.set_cons_zero,List.set_cons_succ]
     go_wp2
     go_ret
     exact ⟨ret_bool HF.out.symm,HB5.out⟩
   ·have HF:=Lib.hid (HN.out (by rw [k3];rfl))
    have z2:=cell_kept HZ2.out hq3
    have HB3:=Lib.hid (HB1.out.trans (hq3.mono HB1.out.size))
    have hp:=HQ2.out _ HB3.out
    have hqa:=Below.alloc (.refl w3.heap.size w3) (Nat.le_refl _) (.cells #[.int .i64 c1] 3)
    replace HB3:=Lib.hid (HB3.out.trans (hqa.mono HB3.out.size))
    clear HQ2 k3 HZ2 hq3 he3 x1 hqa HB1 HT HN HM
    go_wp2_with fail
    refine hp.mono ?_
    clear hp
    intro e w4 he4
    obtain ⟨v4,g4,rfl,hq4⟩:∃ v4 g4,e=.returned (.tuple #[v4,.bool g4])∧Below _ _ w4:=by
     rcases pick_one he4 with ⟨b4,o4,p4,rfl,_,hq4⟩ | ⟨_,A4,p4,rfl,hq4⟩
     ·exact ⟨_,_,rfl,hq4⟩
     ·exact ⟨_,_,rfl,hq4⟩
    have HB4:=Lib.hid (HB3.out.trans (hq4.mono HB3.out.size))
    clear hq4 he4 z2 HB3
    go_wp2_with fail
    refine wp_region_calm (offC w4) (fun _=>false) (fun _=>false) anyE false (by kernel_rfl) (by kernel_rfl) (by kernel_rfl) (by kernel_rfl) (by intro m hm;revert hm;simp;try omega) (offC_stable _) (offC_start _) ?_
    refine calm_fixA rfl rfl ?_
    apply Exists.intro
    refine ⟨fun a wz hc hk hf K hK=>?_,?_⟩
    ·have h9:=hk 9 (by kernel_rfl)
     clear hk hf hc
     go_simp
     exact hK _ _ (Below.refl _ _) rfl
    refine calm_fixA rfl rfl ?_
    apply Exists.intro
    refine ⟨fun a wz hc hk hf K hK=>?_,?_⟩
    ·have h40:=held_isV hf 0 rfl (by kernel_rfl)
     clear hk hf hc
     go_simp
     exact hK _ _ (Below.refl _ _) rfl
    refine calm_fixA rfl rfl ?_
    apply Exists.intro
    refine ⟨fun a wz hc hk hf K hK=>?_,?_⟩
    ·have h41:=held_isV hf 0 rfl (by kernel_rfl)
     clear hk hf hc
     go_simp
     exact hK _ _ (Below.refl _ _) rfl
    refine calm_fixA rfl rfl ?_
    apply Exists.intro
    refine ⟨fun a wz hc hk hf K hK=>?_,?_⟩
    ·have h11:=hk 11 (by kernel_rfl)
     have h42:=held_isV hf 0 rfl (by kernel_rfl)
     clear hk hf hc
     go_simp
     exact hK _ _ (Below.refl _ _) rfl
    refine calm_fixA rfl rfl ?_
    apply Exists.intro
    refine ⟨fun a wz hc hk hf K hK=>?_,?_⟩
    ·have h43:=held_isV hf 0 rfl (by kernel_rfl)
     have h42:=held_isV hf 1 rfl (by kernel_rfl)
     clear hk hf hc
     go_simp
     exact hK _ _ (Below.refl _ _) rfl
    refine calm_fixA rfl rfl ?_
    apply Exists.intro
    refine ⟨fun a wz hc hk hf K hK=>?_,?_⟩
    ·have h42:=held_isV hf 2 rfl (by kernel_rfl)
     have h44:=held_isV hf 0 rfl (by kernel_rfl)
     clear hk hf hc
     go_simp
     exact hK _ _ (Below.refl _ _) rfl
    refine calm_fixA rfl rfl ?_
    apply Exists.intro
    refine ⟨fun a wz hc hk hf K hK=>?_,?_⟩
    ·have h45:=held_isV hf 0 rfl (by kernel_rfl)
     clear hk hf hc
     go_simp
     exact hK _ _ (Below.refl _ _) rfl
    refine calm_fixA rfl rfl ?_
    apply Exists.intro
    refine ⟨fun a wz hc hk hf K hK=>?_,?_⟩
    ·have h8:=hk 8 (by kernel_rfl)
     have h46:=held_isV hf 0 rfl (by kernel_rfl)
     clear hk hf hc
     go_simp
     exact hK _ _ (Below.refl _ _) rfl
    refine calm_fixA rfl rfl ?_
    apply Exists.intro
    refine ⟨fun a wz hc hk hf K hK=>?_,?_⟩
    ·have h47:=held_isV hf 0 rfl (by kernel_rfl)
     have h46:=held_isV hf 1 rfl (by kernel_rfl)
     clear hk hf hc
     go_simp
     exact hK _ _ (Below.refl _ _) rfl
    refine calm_fixA rfl rfl ?_
    apply Exists.intro
    refine ⟨fun a wz hc hk hf K hK=>?_,?_⟩
    ·have hb:Below w4.heap.size w4 wz:=hc rfl
     have h48:=held_isV hf 0 rfl (by kernel_rfl)
     have h46:=held_isV hf 2 rfl (by kernel_rfl)
     clear hk hf hc
     go_simp
     exact hK _ _ (Below.refl _ _) rfl
    refine calm_fixA rfl rfl ?_
    apply Exists.intro
    refine ⟨fun a wz hc hk hf K hK=>?_,?_⟩
    ·have h49:=held_isV hf 0 rfl (by kernel_rfl)
     have h46:=held_isV hf 3 rfl (by kernel_rfl)
     clear hk hf hc
     go_simp
     exact hK _ _ (Below.refl _ _) rfl
    refine calm_fixA rfl rfl ?_
    apply Exists.intro
    refine ⟨fun a wz hc hk hf K hK=>?_,?_⟩
    ·have h46:=held_isV hf 4 rfl (by kernel_rfl)
     have h50:=held_isV hf 0 rfl (by kernel_rfl)
     clear hk hf hc
     go_simp
     exact hK _ _ (Below.refl _ _) rfl
    refine calm_fixA rfl rfl ?_
    apply Exists.intro
    refine ⟨fun a wz hc hk hf K hK=>?_,?_⟩
    ·have h51:=held_isV hf 0 rfl (by kernel_rfl)
     clear hk hf hc
     go_simp
     exact hK _ _ (Below.refl _ _) rfl
    refine calm_fixA rfl rfl ?_
    apply Exists.intro
    refine ⟨fun a wz hc hk hf K hK=>?_,?_⟩
    ·have h8:=hk 8 (by kernel_rfl)
     have h52:=held_isV hf 0 rfl (by kernel_rfl)
     clear hk hf hc
     go_simp
     exact hK _ _ (Below.refl _ _) rfl
    refine calm_fixA rfl rfl ?_
    apply Exists.intro
    refine ⟨fun a wz hc hk hf K hK=>?_,?_⟩
    ·have h53:=held_isV hf 0 rfl (by kernel_rfl)
     have h52:=held_isV hf 1 rfl (by kernel_rfl)
     clear hk hf hc
     go_simp
     exact hK _ _ (Below.refl _ _) rfl
    refine calm_fixA rfl rfl ?_
    apply Exists.intro
    refine ⟨fun a wz hc hk hf K hK=>?_,?_⟩
    ·have hb:Below w4.heap.size w4 wz:=hc rfl
     have h54:=held_isV hf 0 rfl (by kernel_rfl)
     have h52:=held_isV hf 2 rfl (by kernel_rfl)
     clear hk hf hc
     go_simp
     exact hK _ _ (Below.refl _ _) rfl
    refine calm_fixA rfl rfl ?_
    apply Exists.intro
    refine ⟨fun a wz hc hk hf K hK=>?_,?_⟩
    ·have h10:=hk 10 (by kernel_rfl)
     have h52:=held_isV hf 3 rfl (by kernel_rfl)
     clear hk hf hc
     go_simp
     exact hK _ _ (Below.refl _ _) rfl
    refine calm_fixA rfl rfl ?_
    apply Exists.intro
    refine ⟨fun a wz hc hk hf K hK=>?_,?_⟩
    ·have h56:=held_isV hf 0 rfl (by kernel_rfl)
     have h52:=held_isV hf 4 rfl (by kernel_rfl)
     clear hk hf hc
     go_simp
     exact hK _ _ (Below.refl _ _) rfl
    refine calm_fixA rfl rfl ?_
    apply Exists.intro
    refine ⟨fun a wz hc hk hf K hK=>?_,?_⟩
    ·have hb:Below w4.heap.size w4 wz:=hc rfl
     have h57:=held_isV hf 0 rfl (by kernel_rfl)
     have h52:=held_isV hf 5 rfl (by kernel_rfl)
     clear hk hf hc
     go_simp
     exact hK _ _ (Below.refl _ _) rfl
    refine calm_fixA rfl rfl ?_
    apply Exists.intro
    refine ⟨fun a wz hc hk hf K hK=>?_,?_⟩
    ·have h55:=held_isV hf 3 rfl (by kernel_rfl)
     have h58:=held_isV hf 0 rfl (by kernel_rfl)
     have h52:=held_isV hf 6 rfl (by kernel_rfl)
     clear hk hf hc
     go_simp
     exact hK _ _ (Below.refl _ _) rfl
    refine calm_fixA rfl rfl ?_
    apply Exists.intro
    refine ⟨fun a wz hc hk hf K hK=>?_,?_⟩
    ·have h52:=held_isV hf 7 rfl (by kernel_rfl)
     have h59:=held_isV hf 0 rfl (by kernel_rfl)
     clear hk hf hc
     go_simp
     exact hK _ _ (Below.refl _ _) rfl
    refine calm_nil ?_
    refine ⟨keeps_none,?_⟩
    intro w5 hc
    simp only [lexL,calmEnd]
    rintro _ rfl _ rfl _ rfl _ rfl _ rfl _ rfl _ rfl _ rfl _ rfl _ rfl _ rfl _ rfl _ rfl _ rfl _ rfl _ rfl _ rfl _ rfl _ rfl _ rfl _ rfl
    have hq:Below w4.heap.size w4 w5:=hc rfl
    have HB5:=Lib.hid (HB4.out.trans (hq.mono HB4.out.size))
    clear hq hc HB4
    simp only [Act.put,List.setIfInBounds_toArray,List.set_cons_zero,List.set_cons_succ]
    go_wp2
    go_ret
    exact ⟨ret_bool HF.out.symm,HB5.out⟩
  ·obtain rfl:k=on.length:=by omega
   rw [List.take_length] at HM
   go_wp2
   go_ret
   exact ⟨ret_bool HM.out.symm,HB.out⟩
end Go.Proofs.Ytaoeikeobfllkaa
