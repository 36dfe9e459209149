/- Layer 20's laws: the document's examples. -/
import Derived.Test.YtopeeokjfaampaaGBlocks
import Derived.Test.YtopeeokjfaampaaGWeighSmall
import Derived.Test.YtopeeokjfaampaaGZCalm
import Derived.Test.YtopeeokjfaampaaGZFoldLawsPure
import Derived.Test.YtopeeokjfaampaaGZFoldSmall
namespace Go.Proofs.Ytopeeokjfaampaa
open Go Go.RowKit
def rowsF20:List Tm:=[([⟨#[116,97]⟩,cellInt 5],2),([⟨#[116,97]⟩,⟨#[]⟩],1),([⟨#[116,98]⟩,cellInt 9223372036854775807],1)]
def aggsF20:List (Int×Int):=[(1,0),(2,1),(3,1),(4,0)]
def groupsF20:List Tm:=[([⟨#[116,97]⟩,cellInt 3,cellInt 10,cellInt 5,⟨#[116,97]⟩],1),([⟨#[116,98]⟩,cellInt 1,cellInt 9223372036854775807,cellInt 9223372036854775807,⟨#[116,98]⟩],1)]
theorem groups20:groupsP rowsF20 [0] aggsF20=some groupsF20:=by decide +kernel
theorem over20:valP rowsF20 (2,1)=none:=by decide +kernel
theorem none20:valP [([⟨#[116,97]⟩,⟨#[]⟩],1)] (2,1)=some eB:=by decide +kernel
theorem in20:∀ x∈rowsF20,-9223372036854775808≤x.2∧x.2≤9223372036854775807:=by decide +kernel
theorem in20b:∀ x∈([([⟨#[116,97]⟩,⟨#[]⟩],1)]:List Tm),-9223372036854775808≤x.2∧x.2≤9223372036854775807:=by decide +kernel
theorem nin20:∀ x∈([]:List Tm),-9223372036854775808≤x.2∧x.2≤9223372036854775807:=fun x hx=>absurd hx (by simp)
theorem rows_one (W:World)(b:Nat):(Instr.sliceAt 22 (.slice (some ⟨b,0,none⟩) 3 3) (some (.int .i64 1)) (some (.int .i64 2)) none).run Try.prog W=.ok (.slice (some ⟨b,2,none⟩) 1 2) W:=by
 rw [run_sliceAt_slice _ _ _ _ _ _ foldr_under,run_slice_lh _ _ _ _ _ foldr_under _ _ _ _ (by decide) (by decide) (by decide),foldr_elem,Try.sizeOf27]
 simp [Result.andThen,sliced,Addr.add]
theorem one20 {w:World}{b:Nat}(h:TimesIn w (.slice (some ⟨b,0,none⟩) 3 3) rowsF20):TimesIn w (.slice (some ⟨b,2,none⟩) 1 2) [([⟨#[116,97]⟩,⟨#[]⟩],1)]:=by
 have h1:=rows_back (l:=rowsF20) h (by decide) 1 (by decide) (by decide)
 have e:(if (3:Nat)=1 then (some ⟨b,0,none⟩:Option Addr) else (some (⟨b,0,none⟩:Addr)).map (·.add (1*2)))=some ⟨b,2,none⟩:=by
  rw [if_neg (by decide)];simp [Addr.add]
 rw [e] at h1
 exact rows_front (l:=rowsF20.drop 1) h1 1 (by decide)
set_option maxHeartbeats 8000000 in
set_option maxRecDepth 100000 in
theorem awake20_calls:Gives Try.prog 7 #[] (.bool true):=by
 intro w
 obtain ⟨hb,hB⟩:=start w
 clear hB
 go_enter Try.func7,Try.ntmps7
 go_wp2_with fail
 refine Calls.mono ((int_calls 5 (by decide) (by decide)) w) ?_
 rintro e w1 ⟨rfl,hq⟩
 replace hb:=hb.trans (hq.mono hb.size)
 clear hq
 go_wp2_with fail
 have HZ:Hid (w1.heap.size=w1.heap.size):=Lib.hid rfl
 have hq:Below w1.heap.size w1 (w1.alloc (.cells #[.string ⟨#[116,97]⟩,.string (cellInt 5)] 9)):=Below.alloc (.refl _ _) (Nat.le_refl _) _
 have h:=lit_strs w1 9 [⟨#[116,97]⟩,(cellInt 5)] (by show 2≤1000;decide)
 rw [HZ.out] at h
 have HR1:Hid (StrsIn (w1.alloc (.cells #[.string ⟨#[116,97]⟩,.string (cellInt 5)] 9)) (.slice (some ⟨w1.heap.size,0,none⟩) 2 2) [⟨#[116,97]⟩,(cellInt 5)]):=h
 replace HZ:Hid ((w1.alloc (.cells #[.string ⟨#[116,97]⟩,.string (cellInt 5)] 9)).heap.size=w1.heap.size+1):=by show _=_;rw [←HZ.out];simp
 clear h
 replace hb:=hb.trans (hq.mono hb.size)
 clear hq
 generalize World.alloc w1 _=w2 at *
 have hq:Below w2.heap.size w2 (w2.alloc (.cells #[.string ⟨#[116,97]⟩,.string ⟨#[]⟩] 9)):=Below.alloc (.refl _ _) (Nat.le_refl _) _
 have h:=lit_strs w2 9 [⟨#[116,97]⟩,⟨#[]⟩] (by show 2≤1000;decide)
 rw [HZ.out] at h
 have HR2:Hid (StrsIn (w2.alloc (.cells #[.string ⟨#[116,97]⟩,.string ⟨#[]⟩] 9)) (.slice (some ⟨w1.heap.size+1,0,none⟩) 2 2) [⟨#[116,97]⟩,⟨#[]⟩]):=h
 replace HZ:Hid ((w2.alloc (.cells #[.string ⟨#[116,97]⟩,.string ⟨#[]⟩] 9)).heap.size=w1.heap.size+1+1):=by show _=_;rw [←HZ.out];simp
 clear h
 replace HR1:=Lib.hid (StrsIn.kept HR1.out hq)
 replace hb:=hb.trans (hq.mono hb.size)
 clear hq
 generalize World.alloc w2 _=w3 at *
 clear HZ
 have hc:=int_calls 9223372036854775807 (by decide) (by decide) w3
 refine hc.mono ?_
 clear hc
 rintro e w4 ⟨rfl,hq⟩
 replace HR1:=Lib.hid (StrsIn.kept HR1.out hq)
 replace HR2:=Lib.hid (StrsIn.kept HR2.out hq)
 replace hb:=hb.trans (hq.mono hb.size)
 clear hq
 go_wp2_with fail
 have HZ:Hid (w4.heap.size=w4.heap.size):=Lib.hid rfl
 have hq:Below w4.heap.size w4 (w4.alloc (.cells #[.string ⟨#[116,98]⟩,.string (cellInt 9223372036854775807)] 9)):=Below.alloc (.refl _ _) (Nat.le_refl _) _
 have h:=lit_strs w4 9 [⟨#[116,98]⟩,(cellInt 9223372036854775807)] (by show 2≤1000;decide)
 rw [HZ.out] at h
 have HR3:Hid (StrsIn (w4.alloc (.cells #[.string ⟨#[116,98]⟩,.string (cellInt 9223372036854775807)] 9)) (.slice (some ⟨w4.heap.size,0,none⟩) 2 2) [⟨#[116,98]⟩,(cellInt 9223372036854775807)]):=h
 replace HZ:Hid ((w4.alloc (.cells #[.string ⟨#[116,98]⟩,.string (cellInt 9223372036854775807)] 9)).heap.size=w4.heap.size+1):=by show _=_;rw [←HZ.out];simp
 clear h
 replace HR1:=Lib.hid (StrsIn.kept HR1.out hq)
 replace HR2:=Lib.hid (StrsIn.kept HR2.out hq)
 replace hb:=hb.trans (hq.mono hb.size)
 clear hq
 generalize World.alloc w4 _=w5 at *
 have hq:Below w5.heap.size w5 (w5.alloc (.cells #[.slice (some ⟨w1.heap.size,0,none⟩) 2 2,.int .i64 2,.slice (some ⟨w1.heap.size+1,0,none⟩) 2 2,.int .i64 1,.slice (some ⟨w4.heap.size,0,none⟩) 2 2,.int .i64 1] 27)):=Below.alloc (.refl _ _) (Nat.le_refl _) _
 have h:=lit_times w5 27 [((.slice (some ⟨w1.heap.size,0,none⟩) 2 2),2),((.slice (some ⟨w1.heap.size+1,0,none⟩) 2 2),1),((.slice (some ⟨w4.heap.size,0,none⟩) 2 2),1)] rowsF20 ⟨⟨HR1.out,rfl⟩,⟨⟨HR2.out,rfl⟩,⟨⟨HR3.out,rfl⟩,trivial⟩⟩⟩ (by show 3≤1000;decide)
 rw [HZ.out] at h
 have HL:Hid (TimesIn (w5.alloc (.cells #[.slice (some ⟨w1.heap.size,0,none⟩) 2 2,.int .i64 2,.slice (some ⟨w1.heap.size+1,0,none⟩) 2 2,.int .i64 1,.slice (some ⟨w4.heap.size,0,none⟩) 2 2,.int .i64 1] 27)) (.slice (some ⟨w4.heap.size+1,0,none⟩) 3 3) rowsF20):=h
 replace HZ:Hid ((w5.alloc (.cells #[.slice (some ⟨w1.heap.size,0,none⟩) 2 2,.int .i64 2,.slice (some ⟨w1.heap.size+1,0,none⟩) 2 2,.int .i64 1,.slice (some ⟨w4.heap.size,0,none⟩) 2 2,.int .i64 1] 27)).heap.size=w4.heap.size+1+1):=by show _=_;rw [←HZ.out];simp
 clear h
 replace HR1:=Lib.hid (StrsIn.kept HR1.out hq)
 replace HR2:=Lib.hid (StrsIn.kept HR2.out hq)
 replace HR3:=Lib.hid (StrsIn.kept HR3.out hq)
 replace hb:=hb.trans (hq.mono hb.size)
 clear hq
 generalize World.alloc w5 _=w6 at *
 clear HR1 HR2 HR3
 have hq:Below w6.heap.size w6 (w6.alloc (.cells #[.int .i64 1,.int .i64 0,.int .i64 2,.int .i64 1,.int .i64 3,.int .i64 1,.int .i64 4,.int .i64 0] 31)):=Below.alloc (.refl _ _) (Nat.le_refl _) _
 have h:=lit_on w6 31 aggsF20 (by show 4≤1000;decide)
 rw [HZ.out] at h
 have HO:Hid (OnIn (w6.alloc (.cells #[.int .i64 1,.int .i64 0,.int .i64 2,.int .i64 1,.int .i64 3,.int .i64 1,.int .i64 4,.int .i64 0] 31)) (.slice (some ⟨w4.heap.size+1+1,0,none⟩) 4 4) aggsF20):=h
 replace HZ:Hid ((w6.alloc (.cells #[.int .i64 1,.int .i64 0,.int .i64 2,.int .i64 1,.int .i64 3,.int .i64 1,.int .i64 4,.int .i64 0] 31)).heap.size=w4.heap.size+1+1+1):=by show _=_;rw [←HZ.out];simp
 clear h
 replace HL:=Lib.hid (HL.out.kept hq)
 replace hb:=hb.trans (hq.mono hb.size)
 clear hq
 generalize World.alloc w6 _=w7 at *
 have hq:Below w7.heap.size w7 (w7.alloc (.cells #[.int .i64 0] 3)):=Below.alloc (.refl _ _) (Nat.le_refl _) _
 have h:=lit_ones (Value.int .i64) w7 3 [0] (by show 1≤1000;decide)
 rw [HZ.out] at h
 have HI:Hid (IntsIn (w7.alloc (.cells #[.int .i64 0] 3)) (.slice (some ⟨w4.heap.size+1+1+1,0,none⟩) 1 1) [0]):=h
 replace HZ:Hid ((w7.alloc (.cells #[.int .i64 0] 3)).heap.size=w4.heap.size+1+1+1+1):=by show _=_;rw [←HZ.out];simp
 clear h
 replace HL:=Lib.hid (HL.out.kept hq)
 replace HO:=Lib.hid (HO.out.kept hq)
 replace hb:=hb.trans (hq.mono hb.size)
 clear hq
 generalize World.alloc w7 _=w8 at *
 have hg:=fgroups_calls HL.out HI.out HO.out in20 (by decide) (by decide) (by decide)
 rw [groups20] at hg
 clear HI HZ
 refine hg.mono ?_
 clear hg
 rintro e w9 ⟨vg,rfl,hT,hq⟩
 have HG:Hid (TimesIn w9 vg groupsF20):=hT.times
 clear hT
 replace HL:=Lib.hid (HL.out.kept hq)
 replace HO:=Lib.hid (HO.out.kept hq)
 replace hb:=hb.trans (hq.mono hb.size)
 clear hq
 obtain ⟨bg,og,cg,eg⟩:=times_some HG.out (by decide)
 have eg2:vg=.slice (some ⟨bg,og,none⟩) 2 cg:=eg
 subst eg2
 clear eg
 go_wp2_with fail
 have hv:=fvalue_calls (2,1) HL.out in20
 rw [over20] at hv
 replace hv:GivesAt _ _ _ _ (.tuple #[.string ⟨#[]⟩,.int .i64 7]):=hv
 refine hv.mono ?_
 clear hv
 rintro e w10 ⟨rfl,hq⟩
 replace HL:=Lib.hid (HL.out.kept hq)
 replace HO:=Lib.hid (HO.out.kept hq)
 replace HG:=Lib.hid (HG.out.kept hq)
 replace hb:=hb.trans (hq.mono hb.size)
 clear hq
 have hsM:=fun W=>rows_one W (w4.heap.size+1)
 have hrm:=one20 HL.out
 go_wp2_with fail
 clear hsM
 have hv:=fvalue_calls (2,1) hrm in20b
 rw [none20] at hv
 replace hv:GivesAt _ _ _ _ (.tuple #[.string ⟨#[]⟩,.int .i64 0]):=hv
 refine hv.mono ?_
 clear hv
 rintro e w11 ⟨rfl,hq⟩
 replace HL:=Lib.hid (HL.out.kept hq)
 replace HO:=Lib.hid (HO.out.kept hq)
 replace HG:=Lib.hid (HG.out.kept hq)
 replace hb:=hb.trans (hq.mono hb.size)
 clear hq
 clear hrm
 go_wp2_with fail
 have hg:=fgroups_calls (TimesIn.nil_ w11 none 0) (show IntsIn w11 (.slice none 0 0) [] from SliceOf.nil_ w11 1 none 0) HO.out nin20 (by decide) (by decide) (by decide)
 rw [groups_nil] at hg
 clear HO HL
 refine hg.mono ?_
 clear hg
 rintro e w12 ⟨vn,rfl,hT,hq⟩
 obtain ⟨An,pn,en⟩:=times_slice hT.times
 have en2:vn=.slice An 0 pn:=en
 subst en2
 clear en hT
 replace HG:=Lib.hid (HG.out.kept hq)
 replace hb:=hb.trans (hq.mono hb.size)
 clear hq
 obtain ⟨rg,hrg,xg0,xg1⟩:=times_cellAt HG.out 0 (by decide)
 rw [Nat.zero_mul,Nat.add_zero] at xg0 xg1
 obtain ⟨Ag,pg,rfl,hag⟩:=one_at hrg
 obtain ⟨bq,oq,rfl,_,hcq⟩:=hag 0 (by decide)
 have Y0:Hid (w12.cell? ⟨bg,og,none⟩=some (.slice (some ⟨bq,oq,none⟩) 5 pg)):=xg0
 have Y1:Hid (w12.cell? ⟨bg,og+1,none⟩=some (.int .i64 1)):=xg1
 have Z1:Hid (w12.cell? ⟨bq,oq+1,none⟩=some (.string (cellInt 3))):=Lib.hid (hcq 1 (by decide))
 have Z2:Hid (w12.cell? ⟨bq,oq+2,none⟩=some (.string (cellInt 10))):=Lib.hid (hcq 2 (by decide))
 have Z3:Hid (w12.cell? ⟨bq,oq+3,none⟩=some (.string (cellInt 5))):=Lib.hid (hcq 3 (by decide))
 have Z4:Hid (w12.cell? ⟨bq,oq+4,none⟩=some (.string ⟨#[116,97]⟩)):=Lib.hid (hcq 4 (by decide))
 clear xg0 xg1 hag hcq hrg HG
 have y0:=Y0.out
 have y1:=Y1.out
 have z1:=Z1.out
 have z2:=Z2.out
 have z3:=Z3.out
 have z4:=Z4.out
 go_wp2_with fail
 clear y0 y1 z1 z2 z3 z4
 have HBB:=Lib.hid hb
 clear hb
 refine wp_region_calm (offC w12) (fun _=>false) (fun _=>false) anyE false (by kernel_rfl) (by kernel_rfl) (by kernel_rfl) (by kernel_rfl) (by intro m hm;revert hm;simp;try omega) (offC_stable _) (offC_start _) ?_
 simp only [List.append_eq,List.cons_append,List.nil_append]
 refine calm_fixA rfl rfl ?_
 apply Exists.intro
 refine ⟨fun a wz hc hk hf K hK=>?_,?_⟩
 ·have h4:=hk 4 (by kernel_rfl)
  clear hk hf hc
  go_simp
  exact hK _ _ (Below.refl _ _) rfl
 refine calm_fixA rfl rfl ?_
 apply Exists.intro
 refine ⟨fun a wz hc hk hf K hK=>?_,?_⟩
 ·have h61:=held_isV hf 0 rfl (by kernel_rfl)
  clear hk hf hc
  go_simp
  exact hK _ _ (Below.refl _ _) rfl
 refine calm_fixA rfl rfl ?_
 apply Exists.intro
 refine ⟨fun a wz hc hk hf K hK=>?_,?_⟩
 ·have h62:=held_isV hf 0 rfl (by kernel_rfl)
  clear hk hf hc
  go_simp
  exact hK _ _ (Below.refl _ _) rfl
 refine calm_fixA rfl rfl ?_
 apply Exists.intro
 refine ⟨fun a wz hc hk hf K hK=>?_,?_⟩
 ·have h3:=hk 3 (by kernel_rfl)
  have h63:=held_isV hf 0 rfl (by kernel_rfl)
  clear hk hf hc
  go_simp
  exact hK _ _ (Below.refl _ _) rfl
 refine calm_fixA rfl rfl ?_
 apply Exists.intro
 refine ⟨fun a wz hc hk hf K hK=>?_,?_⟩
 ·have h64:=held_isV hf 0 rfl (by kernel_rfl)
  have h63:=held_isV hf 1 rfl (by kernel_rfl)
  clear hk hf hc
  go_simp
  exact hK _ _ (Below.refl _ _) rfl
 refine calm_fixA rfl rfl ?_
 apply Exists.intro
 refine ⟨fun a wz hc hk hf K hK=>?_,?_⟩
 ·have h65:=held_isV hf 0 rfl (by kernel_rfl)
  have h63:=held_isV hf 2 rfl (by kernel_rfl)
  clear hk hf hc
  go_simp
  exact hK _ _ (Below.refl _ _) rfl
 refine calm_fixA rfl rfl ?_
 apply Exists.intro
 refine ⟨fun a wz hc hk hf K hK=>?_,?_⟩
 ·have hb:Below w12.heap.size w12 wz:=hc rfl
  have h66:=held_isV hf 0 rfl (by kernel_rfl)
  have h63:=held_isV hf 3 rfl (by kernel_rfl)
  clear hk hf hc
  have y0:=cell_kept Y0.out hb
  have y1:=cell_kept Y1.out hb
  have z1:=cell_kept Z1.out hb
  have z2:=cell_kept Z2.out hb
  have z3:=cell_kept Z3.out hb
  have z4:=cell_kept Z4.out hb
  go_simp
  exact hK _ _ (Below.refl _ _) rfl
 refine calm_fixA rfl rfl ?_
 apply Exists.intro
 refine ⟨fun a wz hc hk hf K hK=>?_,?_⟩
 ·have h67:=held_isV hf 0 rfl (by kernel_rfl)
  have h63:=held_isV hf 4 rfl (by kernel_rfl)
  clear hk hf hc
  go_simp
  exact hK _ _ (Below.refl _ _) rfl
 refine calm_fixA rfl rfl ?_
 apply Exists.intro
 refine ⟨fun a wz hc hk hf K hK=>?_,?_⟩
 ·have h63:=held_isV hf 5 rfl (by kernel_rfl)
  have h68:=held_isV hf 0 rfl (by kernel_rfl)
  clear hk hf hc
  go_simp
  exact hK _ _ (Below.refl _ _) rfl
 refine calm_fixA rfl rfl ?_
 apply Exists.intro
 refine ⟨fun a wz hc hk hf K hK=>?_,?_⟩
 ·have h69:=held_isV hf 0 rfl (by kernel_rfl)
  clear hk hf hc
  go_simp
  exact hK _ _ (Below.refl _ _) rfl
 refine calm_fixA rfl rfl ?_
 apply Exists.intro
 refine ⟨fun a wz hc hk hf K hK=>?_,?_⟩
 ·have h3:=hk 3 (by kernel_rfl)
  have h70:=held_isV hf 0 rfl (by kernel_rfl)
  clear hk hf hc
  go_simp
  exact hK _ _ (Below.refl _ _) rfl
 refine calm_fixA rfl rfl ?_
 apply Exists.intro
 refine ⟨fun a wz hc hk hf K hK=>?_,?_⟩
 ·have h71:=held_isV hf 0 rfl (by kernel_rfl)
  have h70:=held_isV hf 1 rfl (by kernel_rfl)
  clear hk hf hc
  go_simp
  exact hK _ _ (Below.refl _ _) rfl
 refine calm_fixA rfl rfl ?_
 apply Exists.intro
 refine ⟨fun a wz hc hk hf K hK=>?_,?_⟩
 ·have h72:=held_isV hf 0 rfl (by kernel_rfl)
  have h70:=held_isV hf 2 rfl (by kernel_rfl)
  clear hk hf hc
  go_simp
  exact hK _ _ (Below.refl _ _) rfl
 refine calm_fixA rfl rfl ?_
 apply Exists.intro
 refine ⟨fun a wz hc hk hf K hK=>?_,?_⟩
 ·have hb:Below w12.heap.size w12 wz:=hc rfl
  have h73:=held_isV hf 0 rfl (by kernel_rfl)
  have h70:=held_isV hf 3 rfl (by kernel_rfl)
  clear hk hf hc
  have y0:=cell_kept Y0.out hb
  have y1:=cell_kept Y1.out hb
  have z1:=cell_kept Z1.out hb
  have z2:=cell_kept Z2.out hb
  have z3:=cell_kept Z3.out hb
  have z4:=cell_kept Z4.out hb
  go_simp
  exact hK _ _ (Below.refl _ _) rfl
 refine calm_fixA rfl rfl ?_
 apply Exists.intro
 refine ⟨fun a wz hc hk hf K hK=>?_,?_⟩
 ·have h74:=held_isV hf 0 rfl (by kernel_rfl)
  have h70:=held_isV hf 4 rfl (by kernel_rfl)
  clear hk hf hc
  go_simp
  exact hK _ _ (Below.refl _ _) rfl
 refine calm_fixA rfl rfl ?_
 apply Exists.intro
 refine ⟨fun a wz hc hk hf K hK=>?_,?_⟩
 ·have hb:Below w12.heap.size w12 wz:=hc rfl
  have h75:=held_isV hf 0 rfl (by kernel_rfl)
  have h70:=held_isV hf 5 rfl (by kernel_rfl)
  clear hk hf hc
  have y0:=cell_kept Y0.out hb
  have y1:=cell_kept Y1.out hb
  have z1:=cell_kept Z1.out hb
  have z2:=cell_kept Z2.out hb
  have z3:=cell_kept Z3.out hb
  have z4:=cell_kept Z4.out hb
  go_simp
  exact hK _ _ (Below.refl _ _) rfl
 refine calm_fixA rfl rfl ?_
 apply Exists.intro
 refine ⟨fun a wz hc hk hf K hK=>?_,?_⟩
 ·have hb:Below w12.heap.size w12 wz:=hc rfl
  have h70:=held_isV hf 6 rfl (by kernel_rfl)
  clear hk hf hc
  go_simp
  refine Calls.mono (int_calls 3 (by decide) (by decide) wz) ?_
  rintro e w1 ⟨rfl,hq⟩
  exact hK _ _ hq rfl
 refine calm_fixA rfl rfl ?_
 apply Exists.intro
 refine ⟨fun a wz hc hk hf K hK=>?_,?_⟩
 ·have h76:=held_isV hf 1 rfl (by kernel_rfl)
  have h77:=held_isV hf 0 rfl (by kernel_rfl)
  have h70:=held_isV hf 7 rfl (by kernel_rfl)
  clear hk hf hc
  go_simp
  exact hK _ _ (Below.refl _ _) rfl
 refine calm_fixA rfl rfl ?_
 apply Exists.intro
 refine ⟨fun a wz hc hk hf K hK=>?_,?_⟩
 ·have h70:=held_isV hf 8 rfl (by kernel_rfl)
  have h78:=held_isV hf 0 rfl (by kernel_rfl)
  clear hk hf hc
  go_simp
  exact hK _ _ (Below.refl _ _) rfl
 refine calm_fixA rfl rfl ?_
 apply Exists.intro
 refine ⟨fun a wz hc hk hf K hK=>?_,?_⟩
 ·have h79:=held_isV hf 0 rfl (by kernel_rfl)
  clear hk hf hc
  go_simp
  exact hK _ _ (Below.refl _ _) rfl
 refine calm_fixA rfl rfl ?_
 apply Exists.intro
 refine ⟨fun a wz hc hk hf K hK=>?_,?_⟩
 ·have h3:=hk 3 (by kernel_rfl)
  have h80:=held_isV hf 0 rfl (by kernel_rfl)
  clear hk hf hc
  go_simp
  exact hK _ _ (Below.refl _ _) rfl
 refine calm_fixA rfl rfl ?_
 apply Exists.intro
 refine ⟨fun a wz hc hk hf K hK=>?_,?_⟩
 ·have h81:=held_isV hf 0 rfl (by kernel_rfl)
  have h80:=held_isV hf 1 rfl (by kernel_rfl)
  clear hk hf hc
  go_simp
  exact hK _ _ (Below.refl _ _) rfl
 refine calm_fixA rfl rfl ?_
 apply Exists.intro
 refine ⟨fun a wz hc hk hf K hK=>?_,?_⟩
 ·have h82:=held_isV hf 0 rfl (by kernel_rfl)
  have h80:=held_isV hf 2 rfl (by kernel_rfl)
  clear hk hf hc
  go_simp
  exact hK _ _ (Below.refl _ _) rfl
 refine calm_fixA rfl rfl ?_
 apply Exists.intro
 refine ⟨fun a wz hc hk hf K hK=>?_,?_⟩
 ·have hb:Below w12.heap.size w12 wz:=hc rfl
  have h83:=held_isV hf 0 rfl (by kernel_rfl)
  have h80:=held_isV hf 3 rfl (by kernel_rfl)
  clear hk hf hc
  have y0:=cell_kept Y0.out hb
  have y1:=cell_kept Y1.out hb
  have z1:=cell_kept Z1.out hb
  have z2:=cell_kept Z2.out hb
  have z3:=cell_kept Z3.out hb
  have z4:=cell_kept Z4.out hb
  go_simp
  exact hK _ _ (Below.refl _ _) rfl
 refine calm_fixA rfl rfl ?_
 apply Exists.intro
 refine ⟨fun a wz hc hk hf K hK=>?_,?_⟩
 ·have h84:=held_isV hf 0 rfl (by kernel_rfl)
  have h80:=held_isV hf 4 rfl (by kernel_rfl)
  clear hk hf hc
  go_simp
  exact hK _ _ (Below.refl _ _) rfl
 refine calm_fixA rfl rfl ?_
 apply Exists.intro
 refine ⟨fun a wz hc hk hf K hK=>?_,?_⟩
 ·have hb:Below w12.heap.size w12 wz:=hc rfl
  have h85:=held_isV hf 0 rfl (by kernel_rfl)
  have h80:=held_isV hf 5 rfl (by kernel_rfl)
  clear hk hf hc
  have y0:=cell_kept Y0.out hb
  have y1:=cell_kept Y1.out hb
  have z1:=cell_kept Z1.out hb
  have z2:=cell_kept Z2.out hb
  have z3:=cell_kept Z3.out hb
  have z4:=cell_kept Z4.out hb
  go_simp
  exact hK _ _ (Below.refl _ _) rfl
 refine calm_fixA rfl rfl ?_
 apply Exists.intro
 refine ⟨fun a wz hc hk hf K hK=>?_,?_⟩
 ·have hb:Below w12.heap.size w12 wz:=hc rfl
  have h80:=held_isV hf 6 rfl (by kernel_rfl)
  clear hk hf hc
  go_simp
  refine Calls.mono (int_calls 10 (by decide) (by decide) wz) ?_
  rintro e w1 ⟨rfl,hq⟩
  exact hK _ _ hq rfl
 refine calm_fixA rfl rfl ?_
 apply Exists.intro
 refine ⟨fun a wz hc hk hf K hK=>?_,?_⟩
 ·have h86:=held_isV hf 1 rfl (by kernel_rfl)
  have h87:=held_isV hf 0 rfl (by kernel_rfl)
  have h80:=held_isV hf 7 rfl (by kernel_rfl)
  clear hk hf hc
  go_simp
  exact hK _ _ (Below.refl _ _) rfl
 refine calm_fixA rfl rfl ?_
 apply Exists.intro
 refine ⟨fun a wz hc hk hf K hK=>?_,?_⟩
 ·have h80:=held_isV hf 8 rfl (by kernel_rfl)
  have h88:=held_isV hf 0 rfl (by kernel_rfl)
  clear hk hf hc
  go_simp
  exact hK _ _ (Below.refl _ _) rfl
 refine calm_fixA rfl rfl ?_
 apply Exists.intro
 refine ⟨fun a wz hc hk hf K hK=>?_,?_⟩
 ·have h89:=held_isV hf 0 rfl (by kernel_rfl)
  clear hk hf hc
  go_simp
  exact hK _ _ (Below.refl _ _) rfl
 refine calm_fixA rfl rfl ?_
 apply Exists.intro
 refine ⟨fun a wz hc hk hf K hK=>?_,?_⟩
 ·have h3:=hk 3 (by kernel_rfl)
  have h90:=held_isV hf 0 rfl (by kernel_rfl)
  clear hk hf hc
  go_simp
  exact hK _ _ (Below.refl _ _) rfl
 refine calm_fixA rfl rfl ?_
 apply Exists.intro
 refine ⟨fun a wz hc hk hf K hK=>?_,?_⟩
 ·have h91:=held_isV hf 0 rfl (by kernel_rfl)
  have h90:=held_isV hf 1 rfl (by kernel_rfl)
  clear hk hf hc
  go_simp
  exact hK _ _ (Below.refl _ _) rfl
 refine calm_fixA rfl rfl ?_
 apply Exists.intro
 refine ⟨fun a wz hc hk hf K hK=>?_,?_⟩
 ·have h92:=held_isV hf 0 rfl (by kernel_rfl)
  have h90:=held_isV hf 2 rfl (by kernel_rfl)
  clear hk hf hc
  go_simp
  exact hK _ _ (Below.refl _ _) rfl
 refine calm_fixA rfl rfl ?_
 apply Exists.intro
 refine ⟨fun a wz hc hk hf K hK=>?_,?_⟩
 ·have hb:Below w12.heap.size w12 wz:=hc rfl
  have h93:=held_isV hf 0 rfl (by kernel_rfl)
  have h90:=held_isV hf 3 rfl (by kernel_rfl)
  clear hk hf hc
  have y0:=cell_kept Y0.out hb
  have y1:=cell_kept Y1.out hb
  have z1:=cell_kept Z1.out hb
  have z2:=cell_kept Z2.out hb
  have z3:=cell_kept Z3.out hb
  have z4:=cell_kept Z4.out hb
  go_simp
  exact hK _ _ (Below.refl _ _) rfl
 refine calm_fixA rfl rfl ?_
 apply Exists.intro
 refine ⟨fun a wz hc hk hf K hK=>?_,?_⟩
 ·have h94:=held_isV hf 0 rfl (by kernel_rfl)
  have h90:=held_isV hf 4 rfl (by kernel_rfl)
  clear hk hf hc
  go_simp
  exact hK _ _ (Below.refl _ _) rfl
 refine calm_fixA rfl rfl ?_
 apply Exists.intro
 refine ⟨fun a wz hc hk hf K hK=>?_,?_⟩
 ·have hb:Below w12.heap.size w12 wz:=hc rfl
  have h95:=held_isV hf 0 rfl (by kernel_rfl)
  have h90:=held_isV hf 5 rfl (by kernel_rfl)
  clear hk hf hc
  have y0:=cell_kept Y0.out hb
  have y1:=cell_kept Y1.out hb
  have z1:=cell_kept Z1.out hb
  have z2:=cell_kept Z2.out hb
  have z3:=cell_kept Z3.out hb
  have z4:=cell_kept Z4.out hb
  go_simp
  exact hK _ _ (Below.refl _ _) rfl
 refine calm_fixA rfl rfl ?_
 apply Exists.intro
 refine ⟨fun a wz hc hk hf K hK=>?_,?_⟩
 ·have hb:Below w12.heap.size w12 wz:=hc rfl
  have h90:=held_isV hf 6 rfl (by kernel_rfl)
  clear hk hf hc
  go_simp
  refine Calls.mono (int_calls 5 (by decide) (by decide) wz) ?_
  rintro e w1 ⟨rfl,hq⟩
  exact hK _ _ hq rfl
 refine calm_fixA rfl rfl ?_
 apply Exists.intro
 refine ⟨fun a wz hc hk hf K hK=>?_,?_⟩
 ·have h96:=held_isV hf 1 rfl (by kernel_rfl)
  have h97:=held_isV hf 0 rfl (by kernel_rfl)
  have h90:=held_isV hf 7 rfl (by kernel_rfl)
  clear hk hf hc
  go_simp
  exact hK _ _ (Below.refl _ _) rfl
 refine calm_fixA rfl rfl ?_
 apply Exists.intro
 refine ⟨fun a wz hc hk hf K hK=>?_,?_⟩
 ·have h90:=held_isV hf 8 rfl (by kernel_rfl)
  have h98:=held_isV hf 0 rfl (by kernel_rfl)
  clear hk hf hc
  go_simp
  exact hK _ _ (Below.refl _ _) rfl
 refine calm_fixA rfl rfl ?_
 apply Exists.intro
 refine ⟨fun a wz hc hk hf K hK=>?_,?_⟩
 ·have h99:=held_isV hf 0 rfl (by kernel_rfl)
  clear hk hf hc
  go_simp
  exact hK _ _ (Below.refl _ _) rfl
 refine calm_fixA rfl rfl ?_
 apply Exists.intro
 refine ⟨fun a wz hc hk hf K hK=>?_,?_⟩
 ·have h3:=hk 3 (by kernel_rfl)
  have h100:=held_isV hf 0 rfl (by kernel_rfl)
  clear hk hf hc
  go_simp
  exact hK _ _ (Below.refl _ _) rfl
 refine calm_fixA rfl rfl ?_
 apply Exists.intro
 refine ⟨fun a wz hc hk hf K hK=>?_,?_⟩
 ·have h101:=held_isV hf 0 rfl (by kernel_rfl)
  have h100:=held_isV hf 1 rfl (by kernel_rfl)
  clear hk hf hc
  go_simp
  exact hK _ _ (Below.refl _ _) rfl
 refine calm_fixA rfl rfl ?_
 apply Exists.intro
 refine ⟨fun a wz hc hk hf K hK=>?_,?_⟩
 ·have h102:=held_isV hf 0 rfl (by kernel_rfl)
  have h100:=held_isV hf 2 rfl (by kernel_rfl)
  clear hk hf hc
  go_simp
  exact hK _ _ (Below.refl _ _) rfl
 refine calm_fixA rfl rfl ?_
 apply Exists.intro
 refine ⟨fun a wz hc hk hf K hK=>?_,?_⟩
 ·have hb:Below w12.heap.size w12 wz:=hc rfl
  have h103:=held_isV hf 0 rfl (by kernel_rfl)
  have h100:=held_isV hf 3 rfl (by kernel_rfl)
  clear hk hf hc
  have y0:=cell_kept Y0.out hb
  have y1:=cell_kept Y1.out hb
  have z1:=cell_kept Z1.out hb
  have z2:=cell_kept Z2.out hb
  have z3:=cell_kept Z3.out hb
  have z4:=cell_kept Z4.out hb
  go_simp
  exact hK _ _ (Below.refl _ _) rfl
 refine calm_fixA rfl rfl ?_
 apply Exists.intro
 refine ⟨fun a wz hc hk hf K hK=>?_,?_⟩
 ·have h104:=held_isV hf 0 rfl (by kernel_rfl)
  have h100:=held_isV hf 4 rfl (by kernel_rfl)
  clear hk hf hc
  go_simp
  exact hK _ _ (Below.refl _ _) rfl
 refine calm_fixA rfl rfl ?_
 apply Exists.intro
 refine ⟨fun a wz hc hk hf K hK=>?_,?_⟩
 ·have hb:Below w12.heap.size w12 wz:=hc rfl
  have h105:=held_isV hf 0 rfl (by kernel_rfl)
  have h100:=held_isV hf 5 rfl (by kernel_rfl)
  clear hk hf hc
  have y0:=cell_kept Y0.out hb
  have y1:=cell_kept Y1.out hb
  have z1:=cell_kept Z1.out hb
  have z2:=cell_kept Z2.out hb
  have z3:=cell_kept Z3.out hb
  have z4:=cell_kept Z4.out hb
  go_simp
  exact hK _ _ (Below.refl _ _) rfl
 refine calm_fixA rfl rfl ?_
 apply Exists.intro
 refine ⟨fun a wz hc hk hf K hK=>?_,?_⟩
 ·have h106:=held_isV hf 0 rfl (by kernel_rfl)
  have h100:=held_isV hf 6 rfl (by kernel_rfl)
  clear hk hf hc
  go_simp
  exact hK _ _ (Below.refl _ _) rfl
 refine calm_fixA rfl rfl ?_
 apply Exists.intro
 refine ⟨fun a wz hc hk hf K hK=>?_,?_⟩
 ·have h100:=held_isV hf 7 rfl (by kernel_rfl)
  have h107:=held_isV hf 0 rfl (by kernel_rfl)
  clear hk hf hc
  go_simp
  exact hK _ _ (Below.refl _ _) rfl
 refine calm_fixA rfl rfl ?_
 apply Exists.intro
 refine ⟨fun a wz hc hk hf K hK=>?_,?_⟩
 ·have h108:=held_isV hf 0 rfl (by kernel_rfl)
  clear hk hf hc
  go_simp
  exact hK _ _ (Below.refl _ _) rfl
 refine calm_fixA rfl rfl ?_
 apply Exists.intro
 refine ⟨fun a wz hc hk hf K hK=>?_,?_⟩
 ·have h6:=hk 6 (by kernel_rfl)
  have h109:=held_isV hf 0 rfl (by kernel_rfl)
  clear hk hf hc
  go_simp
  exact hK _ _ (Below.refl _ _) rfl
 refine calm_fixA rfl rfl ?_
 apply Exists.intro
 refine ⟨fun a wz hc hk hf K hK=>?_,?_⟩
 ·have h110:=held_isV hf 0 rfl (by kernel_rfl)
  have h109:=held_isV hf 1 rfl (by kernel_rfl)
  clear hk hf hc
  go_simp
  exact hK _ _ (Below.refl _ _) rfl
 refine calm_fixA rfl rfl ?_
 apply Exists.intro
 refine ⟨fun a wz hc hk hf K hK=>?_,?_⟩
 ·have h109:=held_isV hf 2 rfl (by kernel_rfl)
  have h111:=held_isV hf 0 rfl (by kernel_rfl)
  clear hk hf hc
  go_simp
  exact hK _ _ (Below.refl _ _) rfl
 refine calm_fixA rfl rfl ?_
 apply Exists.intro
 refine ⟨fun a wz hc hk hf K hK=>?_,?_⟩
 ·have h112:=held_isV hf 0 rfl (by kernel_rfl)
  clear hk hf hc
  go_simp
  exact hK _ _ (Below.refl _ _) rfl
 refine calm_fixA rfl rfl ?_
 apply Exists.intro
 refine ⟨fun a wz hc hk hf K hK=>?_,?_⟩
 ·have h5:=hk 5 (by kernel_rfl)
  have h113:=held_isV hf 0 rfl (by kernel_rfl)
  clear hk hf hc
  go_simp
  exact hK _ _ (Below.refl _ _) rfl
 refine calm_fixA rfl rfl ?_
 apply Exists.intro
 refine ⟨fun a wz hc hk hf K hK=>?_,?_⟩
 ·have h114:=held_isV hf 0 rfl (by kernel_rfl)
  have h113:=held_isV hf 1 rfl (by kernel_rfl)
  clear hk hf hc
  go_simp
  exact hK _ _ (Below.refl _ _) rfl
 refine calm_fixA rfl rfl ?_
 apply Exists.intro
 refine ⟨fun a wz hc hk hf K hK=>?_,?_⟩
 ·have h113:=held_isV hf 2 rfl (by kernel_rfl)
  have h115:=held_isV hf 0 rfl (by kernel_rfl)
  clear hk hf hc
  go_simp
  exact hK _ _ (Below.refl _ _) rfl
 refine calm_fixA rfl rfl ?_
 apply Exists.intro
 refine ⟨fun a wz hc hk hf K hK=>?_,?_⟩
 ·have h116:=held_isV hf 0 rfl (by kernel_rfl)
  clear hk hf hc
  go_simp
  exact hK _ _ (Below.refl _ _) rfl
 refine calm_fixA rfl rfl ?_
 apply Exists.intro
 refine ⟨fun a wz hc hk hf K hK=>?_,?_⟩
 ·have h8:=hk 8 (by kernel_rfl)
  have h117:=held_isV hf 0 rfl (by kernel_rfl)
  clear hk hf hc
  go_simp
  exact hK _ _ (Below.refl _ _) rfl
 refine calm_fixA rfl rfl ?_
 apply Exists.intro
 refine ⟨fun a wz hc hk hf K hK=>?_,?_⟩
 ·have h118:=held_isV hf 0 rfl (by kernel_rfl)
  have h117:=held_isV hf 1 rfl (by kernel_rfl)
  clear hk hf hc
  go_simp
  exact hK _ _ (Below.refl _ _) rfl
 refine calm_fixA rfl rfl ?_
 apply Exists.intro
 refine ⟨fun a wz hc hk hf K hK=>?_,?_⟩
 ·have h117:=held_isV hf 2 rfl (by kernel_rfl)
  have h119:=held_isV hf 0 rfl (by kernel_rfl)
  clear hk hf hc
  go_simp
  exact hK _ _ (Below.refl _ _) rfl
 refine calm_fixA rfl rfl ?_
 apply Exists.intro
 refine ⟨fun a wz hc hk hf K hK=>?_,?_⟩
 ·have h120:=held_isV hf 0 rfl (by kernel_rfl)
  clear hk hf hc
  go_simp
  exact hK _ _ (Below.refl _ _) rfl
 refine calm_fixA rfl rfl ?_
 apply Exists.intro
 refine ⟨fun a wz hc hk hf K hK=>?_,?_⟩
 ·have h7:=hk 7 (by kernel_rfl)
  have h121:=held_isV hf 0 rfl (by kernel_rfl)
  clear hk hf hc
  go_simp
  exact hK _ _ (Below.refl _ _) rfl
 refine calm_fixA rfl rfl ?_
 apply Exists.intro
 refine ⟨fun a wz hc hk hf K hK=>?_,?_⟩
 ·have h122:=held_isV hf 0 rfl (by kernel_rfl)
  have h121:=held_isV hf 1 rfl (by kernel_rfl)
  clear hk hf hc
  go_simp
  exact hK _ _ (Below.refl _ _) rfl
 refine calm_fixA rfl rfl ?_
 apply Exists.intro
 refine ⟨fun a wz hc hk hf K hK=>?_,?_⟩
 ·have h121:=held_isV hf 2 rfl (by kernel_rfl)
  have h123:=held_isV hf 0 rfl (by kernel_rfl)
  clear hk hf hc
  go_simp
  exact hK _ _ (Below.refl _ _) rfl
 refine calm_fixA rfl rfl ?_
 apply Exists.intro
 refine ⟨fun a wz hc hk hf K hK=>?_,?_⟩
 ·have h124:=held_isV hf 0 rfl (by kernel_rfl)
  clear hk hf hc
  go_simp
  exact hK _ _ (Below.refl _ _) rfl
 refine calm_fixA rfl rfl ?_
 apply Exists.intro
 refine ⟨fun a wz hc hk hf K hK=>?_,?_⟩
 ·have h10:=hk 10 (by kernel_rfl)
  have h125:=held_isV hf 0 rfl (by kernel_rfl)
  clear hk hf hc
  go_simp
  exact hK _ _ (Below.refl _ _) rfl
 refine calm_fixA rfl rfl ?_
 apply Exists.intro
 refine ⟨fun a wz hc hk hf K hK=>?_,?_⟩
 ·have h126:=held_isV hf 0 rfl (by kernel_rfl)
  have h125:=held_isV hf 1 rfl (by kernel_rfl)
  clear hk hf hc
  go_simp
  exact hK _ _ (Below.refl _ _) rfl
 refine calm_fixA rfl rfl ?_
 apply Exists.intro
 refine ⟨fun a wz hc hk hf K hK=>?_,?_⟩
 ·have h125:=held_isV hf 2 rfl (by kernel_rfl)
  have h127:=held_isV hf 0 rfl (by kernel_rfl)
  clear hk hf hc
  go_simp
  exact hK _ _ (Below.refl _ _) rfl
 refine calm_fixA rfl rfl ?_
 apply Exists.intro
 refine ⟨fun a wz hc hk hf K hK=>?_,?_⟩
 ·have h128:=held_isV hf 0 rfl (by kernel_rfl)
  clear hk hf hc
  go_simp
  exact hK _ _ (Below.refl _ _) rfl
 refine calm_fixA rfl rfl ?_
 apply Exists.intro
 refine ⟨fun a wz hc hk hf K hK=>?_,?_⟩
 ·have h9:=hk 9 (by kernel_rfl)
  have h129:=held_isV hf 0 rfl (by kernel_rfl)
  clear hk hf hc
  go_simp
  exact hK _ _ (Below.refl _ _) rfl
 refine calm_fixA rfl rfl ?_
 apply Exists.intro
 refine ⟨fun a wz hc hk hf K hK=>?_,?_⟩
 ·have h130:=held_isV hf 0 rfl (by kernel_rfl)
  have h129:=held_isV hf 1 rfl (by kernel_rfl)
  clear hk hf hc
  go_simp
  exact hK _ _ (Below.refl _ _) rfl
 refine calm_fixA rfl rfl ?_
 apply Exists.intro
 refine ⟨fun a wz hc hk hf K hK=>?_,?_⟩
 ·have h131:=held_isV hf 0 rfl (by kernel_rfl)
  have h129:=held_isV hf 2 rfl (by kernel_rfl)
  clear hk hf hc
  go_simp
  exact hK _ _ (Below.refl _ _) rfl
 refine calm_fixA rfl rfl ?_
 apply Exists.intro
 refine ⟨fun a wz hc hk hf K hK=>?_,?_⟩
 ·have h129:=held_isV hf 3 rfl (by kernel_rfl)
  have h132:=held_isV hf 0 rfl (by kernel_rfl)
  clear hk hf hc
  go_simp
  exact hK _ _ (Below.refl _ _) rfl
 refine calm_fixA rfl rfl ?_
 apply Exists.intro
 refine ⟨fun a wz hc hk hf K hK=>?_,?_⟩
 ·have h133:=held_isV hf 0 rfl (by kernel_rfl)
  clear hk hf hc
  go_simp
  exact hK _ _ (Below.refl _ _) rfl
 refine calm_nil ?_
 refine ⟨keeps_none,?_⟩
 intro w20 hc
 simp only [lexL,calmEnd]
 rintro _ rfl _ rfl _ rfl _ rfl _ rfl _ rfl _ rfl _ rfl _ rfl _ rfl _ rfl _ rfl _ rfl _ rfl _ rfl _ rfl _ rfl _ rfl _ rfl _ rfl _ rfl _ rfl _ rfl _ rfl _ rfl _ rfl _ rfl _ rfl _ rfl _ rfl _ rfl _ rfl _ rfl _ rfl _ rfl _ rfl _ rfl _ rfl _ rfl _ rfl _ rfl _ rfl _ rfl _ rfl _ rfl _ rfl _ rfl _ rfl _ rfl _ rfl _ rfl _ rfl _ rfl _ rfl _ rfl _ rfl _ rfl _ rfl _ rfl _ rfl _ rfl _ rfl _ rfl _ rfl _ rfl _ rfl _ rfl _ rfl _ rfl _ rfl _ rfl _ rfl _ rfl _ rfl
 have HB9:=Lib.hid (HBB.out.trans ((show Below w12.heap.size w12 w20 from hc rfl).mono HBB.out.size))
 clear hc
 simp only [Act.put,List.setIfInBounds_toArray,List.set_cons_zero,List.set_cons_succ]
 go_simp
 go_wp2
 go_ret
 exact ⟨rfl,HB9.out⟩
end Go.Proofs.Ytopeeokjfaampaa
