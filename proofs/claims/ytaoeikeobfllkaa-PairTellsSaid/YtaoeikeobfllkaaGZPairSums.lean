/- The law PairSums of layer 19. -/
import Derived.Test.YtaoeikeobfllkaaGZPairAwake
namespace Go.Proofs.Ytaoeikeobfllkaa
open Go Go.RowKit
set_option maxHeartbeats 16000000 in
set_option maxRecDepth 100000 in
theorem pairSums_calls {w:World}{vl vm vo:Value}{ll:List Tm}{lm:List Tm}{lo:List Tm}(hl:TimesIn w vl ll)(hm:TimesIn w vm lm)(ho:TimesIn w vo lo):GivesAt Try.prog 4 #[vl,vm,vo] w (.bool true):=by
 have HAW:=Lib.hid awake19_calls
 have HSL:Hid (∀ W,Below w.heap.size w W→GivesAt Try.prog 7 #[vl,.int .i64 15] W (.bool (small19 ll 15))):=fun W hW=>(small19_calls 15 (hl.kept hW)).gives
 have HNL:=Lib.hid fun (h:small19 ll 15=true)=>fine19 h
 have HLL:=Lib.hid hl
 obtain ⟨Al,cl,rfl⟩:=times_slice hl
 have HSM:Hid (∀ W,Below w.heap.size w W→GivesAt Try.prog 7 #[vm,.int .i64 15] W (.bool (small19 lm 15))):=fun W hW=>(small19_calls 15 (hm.kept hW)).gives
 have HNM:=Lib.hid fun (h:small19 lm 15=true)=>fine19 h
 have HLM:=Lib.hid hm
 obtain ⟨Am,cm,rfl⟩:=times_slice hm
 have HSO:Hid (∀ W,Below w.heap.size w W→GivesAt Try.prog 7 #[vo,.int .i64 15] W (.bool (small19 lo 15))):=fun W hW=>(small19_calls 15 (ho.kept hW)).gives
 have HNO:=Lib.hid fun (h:small19 lo 15=true)=>fine19 h
 have HLO:=Lib.hid ho
 obtain ⟨Ao,co,rfl⟩:=times_slice ho
 have HB:Hid (Below w.heap.size w w):=Lib.hid (.refl _ _)
 clear hl hm ho
 unfold GivesAt
 go_enter Try.func4,Try.ntmps4
 cases hsl:small19 ll 15 with
 | false =>
  rw [hsl] at HSL
  clear hsl
  go_wp2_with fail
  refine Calls.mono (HSL.out w HB.out) ?_
  rintro e wn1 ⟨rfl,hq⟩
  replace HB:=Lib.hid (HB.out.trans (hq.mono HB.out.size))
  clear hq
  go_wp2_with fail
  refine Calls.mono (HAW.out wn1) ?_
  rintro e wn2 ⟨rfl,hq⟩
  replace HB:=Lib.hid (HB.out.trans (hq.mono HB.out.size))
  clear hq
  go_wp2
  go_ret
  exact ⟨rfl,HB.out⟩
 | true =>
  rw [hsl] at HSL
  replace HNL:=Lib.hid (HNL.out hsl)
  clear hsl
  go_wp2_with fail
  refine Calls.mono (HSL.out w HB.out) ?_
  rintro e wn1 ⟨rfl,hq⟩
  replace HB:=Lib.hid (HB.out.trans (hq.mono HB.out.size))
  clear hq
  cases hsm:small19 lm 15 with
  | false =>
   rw [hsm] at HSM
   clear hsm
   go_wp2_with fail
   refine Calls.mono (HSM.out wn1 HB.out) ?_
   rintro e wn2 ⟨rfl,hq⟩
   replace HB:=Lib.hid (HB.out.trans (hq.mono HB.out.size))
   clear hq
   go_wp2_with fail
   refine Calls.mono (HAW.out wn2) ?_
   rintro e wn3 ⟨rfl,hq⟩
   replace HB:=Lib.hid (HB.out.trans (hq.mono HB.out.size))
   clear hq
   go_wp2
   go_ret
   exact ⟨rfl,HB.out⟩
  | true =>
   rw [hsm] at HSM
   replace HNM:=Lib.hid (HNM.out hsm)
   clear hsm
   go_wp2_with fail
   refine Calls.mono (HSM.out wn1 HB.out) ?_
   rintro e wn2 ⟨rfl,hq⟩
   replace HB:=Lib.hid (HB.out.trans (hq.mono HB.out.size))
   clear hq
   cases hso:small19 lo 15 with
   | false =>
    rw [hso] at HSO
    clear hso
    go_wp2_with fail
    refine Calls.mono (HSO.out wn2 HB.out) ?_
    rintro e wn3 ⟨rfl,hq⟩
    replace HB:=Lib.hid (HB.out.trans (hq.mono HB.out.size))
    clear hq
    go_wp2_with fail
    refine Calls.mono (HAW.out wn3) ?_
    rintro e wn4 ⟨rfl,hq⟩
    replace HB:=Lib.hid (HB.out.trans (hq.mono HB.out.size))
    clear hq
    go_wp2
    go_ret
    exact ⟨rfl,HB.out⟩
   | true =>
    rw [hso] at HSO
    replace HNO:=Lib.hid (HNO.out hso)
    clear hso
    go_wp2_with fail
    refine Calls.mono (HSO.out wn2 HB.out) ?_
    rintro e wn3 ⟨rfl,hq⟩
    replace HB:=Lib.hid (HB.out.trans (hq.mono HB.out.size))
    clear hq
    have HFL:Hid (Fine 15 503316480 10 ll):=HNL.out
    have HFM:Hid (Fine 15 503316480 10 lm):=HNM.out
    have HFO:Hid (Fine 15 503316480 10 lo):=HNO.out
    clear HNL HNM HNO HSL HSM HSO
    go_wp2_with fail
    have hq:=Below.alloc (.refl wn3.heap.size wn3) (Nat.le_refl _) (.cells #[.int .i64 0,.int .i64 0] 33)
    have HON:Hid (OnIn (wn3.alloc (.cells #[.int .i64 0,.int .i64 0] 33)) (.slice (some ⟨wn3.heap.size,0,none⟩) 1 1) [(0,0)]):=lit_on wn3 33 [(0,0)] (by show 1≤1000;decide)
    replace HB:=Lib.hid (HB.out.trans (hq.mono HB.out.size))
    clear hq
    generalize World.alloc wn3 _=wn4 at *
    go_wp2_with fail
    refine Calls.mono (sum19 (HLL.out.kept HB.out) (HLM.out.kept HB.out) HFL.out HFM.out (by decide)) ?_
    rintro e wn5 ⟨vs,rfl,hk,hq⟩
    have Hs:Hid (TimesIn wn5 vs (sumW ll lm)):=hk
    clear hk
    replace HB:=Lib.hid (HB.out.trans (hq.mono HB.out.size))
    replace HON:=Lib.hid (HON.out.kept hq)
    clear hq
    go_wp2_with fail
    refine Calls.mono (pjoin_calls Hs.out (HLO.out.kept HB.out) HON.out (HFL.out.sum HFM.out) HFO.out (by decide)) ?_
    rintro e wn6 ⟨va,rfl,hk,hq⟩
    have Ha:Hid (TimesIn wn6 va (joinS (sumW ll lm) lo [(0,0)])):=hk
    clear hk
    replace HB:=Lib.hid (HB.out.trans (hq.mono HB.out.size))
    replace HON:=Lib.hid (HON.out.kept hq)
    replace Hs:=Lib.hid (Hs.out.kept hq)
    clear hq
    clear Hs
    go_wp2_with fail
    refine Calls.mono (pjoin_calls (HLL.out.kept HB.out) (HLO.out.kept HB.out) HON.out HFL.out HFO.out (by decide)) ?_
    rintro e wn7 ⟨vx,rfl,hk,hq⟩
    have Hx:Hid (TimesIn wn7 vx (joinS ll lo [(0,0)])):=hk
    clear hk
    replace HB:=Lib.hid (HB.out.trans (hq.mono HB.out.size))
    replace HON:=Lib.hid (HON.out.kept hq)
    replace Ha:=Lib.hid (Ha.out.kept hq)
    clear hq
    go_wp2_with fail
    refine Calls.mono (pjoin_calls (HLM.out.kept HB.out) (HLO.out.kept HB.out) HON.out HFM.out HFO.out (by decide)) ?_
    rintro e wn8 ⟨vy,rfl,hk,hq⟩
    have Hy:Hid (TimesIn wn8 vy (joinS lm lo [(0,0)])):=hk
    clear hk
    replace HB:=Lib.hid (HB.out.trans (hq.mono HB.out.size))
    replace HON:=Lib.hid (HON.out.kept hq)
    replace Ha:=Lib.hid (Ha.out.kept hq)
    replace Hx:=Lib.hid (Hx.out.kept hq)
    clear hq
    go_wp2_with fail
    refine Calls.mono (sum19 Hx.out Hy.out (HFL.out.join HFO.out _) (HFM.out.join HFO.out _) (by decide)) ?_
    rintro e wn9 ⟨vb,rfl,hk,hq⟩
    have Hb:Hid (TimesIn wn9 vb (sumW (joinS ll lo [(0,0)]) (joinS lm lo [(0,0)]))):=hk
    clear hk
    replace HB:=Lib.hid (HB.out.trans (hq.mono HB.out.size))
    replace HON:=Lib.hid (HON.out.kept hq)
    replace Ha:=Lib.hid (Ha.out.kept hq)
    replace Hx:=Lib.hid (Hx.out.kept hq)
    replace Hy:=Lib.hid (Hy.out.kept hq)
    clear hq
    rw [←join_sumL] at Hb
    clear Hx Hy
    go_wp2_with fail
    refine Calls.mono (sum19 (HLL.out.kept HB.out) (HLM.out.kept HB.out) HFL.out HFM.out (by decide)) ?_
    rintro e wn10 ⟨vs,rfl,hk,hq⟩
    have Hs:Hid (TimesIn wn10 vs (sumW ll lm)):=hk
    clear hk
    replace HB:=Lib.hid (HB.out.trans (hq.mono HB.out.size))
    replace HON:=Lib.hid (HON.out.kept hq)
    replace Ha:=Lib.hid (Ha.out.kept hq)
    replace Hb:=Lib.hid (Hb.out.kept hq)
    clear hq
    go_wp2_with fail
    refine Calls.mono (pjoin_calls (HLO.out.kept HB.out) Hs.out HON.out HFO.out (HFL.out.sum HFM.out) (by decide)) ?_
    rintro e wn11 ⟨vc,rfl,hk,hq⟩
    have Hc:Hid (TimesIn wn11 vc (joinS lo (sumW ll lm) [(0,0)])):=hk
    clear hk
    replace HB:=Lib.hid (HB.out.trans (hq.mono HB.out.size))
    replace HON:=Lib.hid (HON.out.kept hq)
    replace Ha:=Lib.hid (Ha.out.kept hq)
    replace Hb:=Lib.hid (Hb.out.kept hq)
    replace Hs:=Lib.hid (Hs.out.kept hq)
    clear hq
    clear Hs
    go_wp2_with fail
    refine Calls.mono (pjoin_calls (HLO.out.kept HB.out) (HLL.out.kept HB.out) HON.out HFO.out HFL.out (by decide)) ?_
    rintro e wn12 ⟨vx,rfl,hk,hq⟩
    have Hx:Hid (TimesIn wn12 vx (joinS lo ll [(0,0)])):=hk
    clear hk
    replace HB:=Lib.hid (HB.out.trans (hq.mono HB.out.size))
    replace HON:=Lib.hid (HON.out.kept hq)
    replace Ha:=Lib.hid (Ha.out.kept hq)
    replace Hb:=Lib.hid (Hb.out.kept hq)
    replace Hc:=Lib.hid (Hc.out.kept hq)
    clear hq
    go_wp2_with fail
    refine Calls.mono (pjoin_calls (HLO.out.kept HB.out) (HLM.out.kept HB.out) HON.out HFO.out HFM.out (by decide)) ?_
    rintro e wn13 ⟨vy,rfl,hk,hq⟩
    have Hy:Hid (TimesIn wn13 vy (joinS lo lm [(0,0)])):=hk
    clear hk
    replace HB:=Lib.hid (HB.out.trans (hq.mono HB.out.size))
    replace HON:=Lib.hid (HON.out.kept hq)
    replace Ha:=Lib.hid (Ha.out.kept hq)
    replace Hb:=Lib.hid (Hb.out.kept hq)
    replace Hc:=Lib.hid (Hc.out.kept hq)
    replace Hx:=Lib.hid (Hx.out.kept hq)
    clear hq
    go_wp2_with fail
    refine Calls.mono (sum19 Hx.out Hy.out (HFO.out.join HFL.out _) (HFO.out.join HFM.out _) (by decide)) ?_
    rintro e wn14 ⟨vd,rfl,hk,hq⟩
    have Hd:Hid (TimesIn wn14 vd (sumW (joinS lo ll [(0,0)]) (joinS lo lm [(0,0)]))):=hk
    clear hk
    replace HB:=Lib.hid (HB.out.trans (hq.mono HB.out.size))
    replace HON:=Lib.hid (HON.out.kept hq)
    replace Ha:=Lib.hid (Ha.out.kept hq)
    replace Hb:=Lib.hid (Hb.out.kept hq)
    replace Hc:=Lib.hid (Hc.out.kept hq)
    replace Hx:=Lib.hid (Hx.out.kept hq)
    replace Hy:=Lib.hid (Hy.out.kept hq)
    clear hq
    rw [←join_sumR] at Hd
    clear Hx Hy
    go_wp2_with fail
    refine Calls.mono (HAW.out wn14) ?_
    rintro e wn15 ⟨rfl,hq⟩
    replace HB:=Lib.hid (HB.out.trans (hq.mono HB.out.size))
    replace HON:=Lib.hid (HON.out.kept hq)
    replace Ha:=Lib.hid (Ha.out.kept hq)
    replace Hb:=Lib.hid (Hb.out.kept hq)
    replace Hc:=Lib.hid (Hc.out.kept hq)
    replace Hd:=Lib.hid (Hd.out.kept hq)
    clear hq
    go_wp2_with fail
    refine Calls.mono (same19F Ha.out Hb.out ((HFL.out.sum HFM.out).join HFO.out _) (by decide)) ?_
    rintro e wn16 ⟨rfl,hq⟩
    replace HB:=Lib.hid (HB.out.trans (hq.mono HB.out.size))
    replace HON:=Lib.hid (HON.out.kept hq)
    replace Ha:=Lib.hid (Ha.out.kept hq)
    replace Hb:=Lib.hid (Hb.out.kept hq)
    replace Hc:=Lib.hid (Hc.out.kept hq)
    replace Hd:=Lib.hid (Hd.out.kept hq)
    clear hq
    go_wp2_with fail
    refine Calls.mono (same19F Hc.out Hd.out (HFO.out.join (HFL.out.sum HFM.out) _) (by decide)) ?_
    rintro e wn17 ⟨rfl,hq⟩
    replace HB:=Lib.hid (HB.out.trans (hq.mono HB.out.size))
    replace HON:=Lib.hid (HON.out.kept hq)
    replace Ha:=Lib.hid (Ha.out.kept hq)
    replace Hb:=Lib.hid (Hb.out.kept hq)
    replace Hc:=Lib.hid (Hc.out.kept hq)
    replace Hd:=Lib.hid (Hd.out.kept hq)
    clear hq
    go_wp2_with fail
    refine Calls.mono (pjoin_calls (HLL.out.kept HB.out) (TimesIn.nil_ wn17 none 0) HON.out HFL.out (Fine.nil_ 0 0 0) (by decide)) ?_
    rintro e wn18 ⟨vz,rfl,hk,hq⟩
    have Hz:Hid (TimesIn wn18 vz (joinS ll [] [(0,0)])):=hk
    clear hk
    replace HB:=Lib.hid (HB.out.trans (hq.mono HB.out.size))
    replace HON:=Lib.hid (HON.out.kept hq)
    replace Ha:=Lib.hid (Ha.out.kept hq)
    replace Hb:=Lib.hid (Hb.out.kept hq)
    replace Hc:=Lib.hid (Hc.out.kept hq)
    replace Hd:=Lib.hid (Hd.out.kept hq)
    clear hq
    rw [join_nil] at Hz
    obtain ⟨Az,cz,ez⟩:=times_slice Hz.out
    have ez2:vz=.slice Az 0 cz:=ez
    subst ez2
    clear ez
    go_wp2_with fail
    refine Calls.mono (right19 Ha.out (join_right ..)) ?_
    rintro e wn19 ⟨rfl,hq⟩
    replace HB:=Lib.hid (HB.out.trans (hq.mono HB.out.size))
    replace HON:=Lib.hid (HON.out.kept hq)
    replace Ha:=Lib.hid (Ha.out.kept hq)
    replace Hb:=Lib.hid (Hb.out.kept hq)
    replace Hc:=Lib.hid (Hc.out.kept hq)
    replace Hd:=Lib.hid (Hd.out.kept hq)
    replace Hz:=Lib.hid (Hz.out.kept hq)
    clear hq
    go_wp2
    go_ret
    exact ⟨rfl,HB.out⟩
end Go.Proofs.Ytaoeikeobfllkaa
