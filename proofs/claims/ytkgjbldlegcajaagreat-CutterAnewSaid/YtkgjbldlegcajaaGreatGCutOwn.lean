/- The contract of layer 13's own Change. -/
import Derived.Test.YtkgjbldlegcajaaGreatGStrs
import Derived.Test.YtkgjbldlegcajaaGreatGTimes
import Derived.Test.YtkgjbldlegcajaaGreatGBlocks
import Derived.Test.YtkgjbldlegcajaaGreatGBlockRef
import Derived.Test.YtkgjbldlegcajaaGreatGWeighRef
import Derived.Test.YtkgjbldlegcajaaGreatGWeighFns
import Derived.Test.YtkgjbldlegcajaaGreatGWeighLib
import Derived.Test.YtkgjbldlegcajaaGreatGWeighOwn
import Derived.Test.YtkgjbldlegcajaaGreatGBlockOwn
import Derived.Test.YtkgjbldlegcajaaGreatGCutRef
import Derived.Test.YtkgjbldlegcajaaGreatGCutBlocks
import Derived.Test.YtkgjbldlegcajaaGreatGCutChange
import Derived.Test.YtkgjbldlegcajaaGreatGCutOwnA
import Derived.Test.YtkgjbldlegcajaaGreatGCutParts
import Derived.Laws.MakeOwn
import Derived.Shelf.Abstract
import Derived.Lib.QuietBelow
import Derived.Deep.RegionLaw
namespace Go.Proofs.YtkgjbldlegcajaaGreat
open Go Go.RowKit
theorem Tryz.infoCp69 : (Tryz.prog.info? 69).map (fun i => (i.zero, i.size, i.bytes)) = some (some (.agg #[.slice none 0 0, .slice none 0 0, .bool false]), 3, 56) := by kernel_rfl
theorem good_read {p : List Tm} {cols : List (Int × Bool)} (h : GoodP p cols) : readB p cols.length cols = true := by
 have hk : kindsB p cols = true := by
  unfold kindsB
  rw [List.all_eq_true]
  intro c hc
  have hc' := List.mem_range.1 hc
  rw [List.getD_eq_getElem?_getD, List.getElem?_eq_getElem hc']
  exact h.2.2.1 c hc'
 unfold readB
 rw [hk, decide_eq_true rfl, Bool.true_and, Bool.true_and]
 exact h.1
def PartsEnd (w : World) (P : List (List Tm)) (e : Ending) (w' : World) : Prop :=
 ∃ pv : List PartV, e = .returned (.tuple #[.slice (some ⟨w.heap.size, 0, none⟩) P.length P.length, .bool true]) ∧ Own w' w.heap.size 3 (.slice (some ⟨w.heap.size, 0, none⟩) P.length P.length) P.length (partsV pv) ∧ Plain w' w.heap.size ∧ pv.length = P.length ∧
  (∀ j (h1 : j < pv.length) (h2 : j < P.length), TimesIn w' pv[j].1 P[j]) ∧ (∀ j (h1 : j < pv.length), pv[j].2 = (.slice none 0 0, false)) ∧ Below w.heap.size w w'
set_option maxHeartbeats 4000000 in
set_option maxRecDepth 100000 in
theorem cut_read_calls {w : World} {vb vc : Value} {P : List (List Tm)} {cols : List (Int × Bool)} (hvb : BlksIn w vb (blksL P cols.length)) (hvc : ColsIn w vc cols) (hP : ∀ p ∈ P, GoodP p cols) (hPl : P.length ≤ 4096) (hcK : cols.length ≤ 1000000) :
  Calls Tryz.prog 36 #[vb, vc] w (PartsEnd w P) := by
 obtain ⟨j0, hj, jz0, jz1, jz2⟩ := info_parts Tryz.infoCp69
 obtain ⟨hb, hB⟩ := start w
 obtain ⟨A1, p1, rfl, hat⟩ := blksL_at hvb
 obtain ⟨A2, p2, rfl, hone2⟩ := cols_at hvc
 have HAT := Lib.hid hat
 have HVC := Lib.hid hvc
 have HPG := Lib.hid hP
 clear hvb hat hvc hP hone2
 unfold PartsEnd
 go_enter Tryz.func36, Tryz.ntmps36
 go_wp2_with (at_make; refine wpList_make_full _ rfl _ _ 65 rfl w.heap.size 69 j0 (.agg #[.slice none 0 0, .slice none 0 0, .bool false]) 3 Tryz.underlying65 hj jz0 jz1 .i64 .i64 _ _ P.length rfl rfl rfl rfl (by rw [jz2]; omega) (by unfold maxLen; omega) hB ?_)
 intro w1 hrow hg1
 have hrow' : w1.ownsRow w.heap.size 69 3 (.slice (some ⟨w.heap.size, 0, none⟩) P.length P.length) P.length (partsV (List.replicate P.length (.slice none 0 0, .slice none 0 0, false))) := (made_parts P.length) ▸ hrow
 have hO : Own w1 w.heap.size 3 (.slice (some ⟨w.heap.size, 0, none⟩) P.length P.length) P.length (partsV (List.replicate P.length (.slice none 0 0, .slice none 0 0, false))) := Own.of_row (B := w.heap.size) hrow' (by unfold maxLen; omega) (Nat.le_refl _)
 have hp1 : Plain w1 w.heap.size := Plain.made hrow' (by
  intro x hx
  unfold partsV at hx
  rw [List.mem_flatMap] at hx
  obtain ⟨t, ht, hx⟩ := hx
  rw [List.mem_replicate] at ht
  rw [ht.2] at hx
  unfold partC at hx
  simp only [List.mem_cons, List.not_mem_nil, or_false] at hx
  rcases hx with rfl | rfl | rfl
  ·exact plain_slice _ _ _
  ·exact plain_slice _ _ _
  ·exact plain_bool _)
 have hb1 : Below w.heap.size w w1 := hb.grown hg1 hB (fun k hk => by cases hk)
 clear hrow hrow' hg1 hb hB
 go_wp2
 go_loopw [7, 8, 16] (fun _ _ i wr => ∃ k : Nat, k ≤ P.length ∧ i = .int .i64 k ∧ (∃ pv : List PartV, pv.length = P.length ∧ Own wr w.heap.size 3 (.slice (some ⟨w.heap.size, 0, none⟩) P.length P.length) P.length (partsV pv) ∧ Plain wr w.heap.size ∧ Hid (∀ j (h1 : j < pv.length) (h2 : j < P.length), j < k → TimesIn wr pv[j].1 P[j]) ∧ Hid (∀ j (h1 : j < pv.length), pv[j].2 = (.slice none 0 0, false))) ∧ Below w.heap.size w wr) (fun _ _ i _ => P.length - (intOf i).toNat)
 case atStart => exact ⟨0, Nat.zero_le _, rfl, ⟨_, List.length_replicate, hO, hp1, fun j _ _ h => absurd h (by omega), fun j h => by rw [List.getElem_replicate]⟩, hb1⟩
 case round =>
  clear hO hp1 hb1
  obtain ⟨k, hk, rfl, ⟨pv, hpl, hO, hpn, HT, HZ⟩, hb⟩ := hrel
  have hB := hb.size
  by_cases hlt : k < P.length
  ·obtain ⟨b, off, rfl, hbl, rv, hrs, c0, c1, c2⟩ := HAT.out k hlt
   have x0 := (hb.cell (p := ⟨b, off + k * 3, none⟩) hbl).trans c0
   have x1 := (hb.cell (p := ⟨b, off + k * 3 + 1, none⟩) hbl).trans c1
   have x2 := (hb.cell (p := ⟨b, off + k * 3 + 2, none⟩) hbl).trans c2
   have hg := HPG.out P[k] (List.getElem_mem hlt)
   have HGR := Lib.hid (good_read hg)
   obtain ⟨hg1, hg2, hg3, hg4, hg5⟩ := hg
   have hrs1 := StrsIn.kept hrs hb
   obtain ⟨Ar, pr, e, hone⟩ := one_at hrs
   have hsl : (colsT P[k] cols.length).length = cols.length := colsT_length _ _
   rw [hsl] at e
   subst e
   have hq0 : Below wr.heap.size wr (wr.alloc (.cells #[.int .i64 P[k].length, .slice Ar cols.length pr, .string (shelfB (P[k].map Prod.snd))] 50)) := Below.alloc (.refl _ _) (Nat.le_refl _) _
   have HRW := Lib.hid (block_rows_new (w := wr.alloc (.cells #[.int .i64 P[k].length, .slice Ar cols.length pr, .string (shelfB (P[k].map Prod.snd))] 50)) (vb := .agg #[.int .i64 P[k].length, .slice Ar cols.length pr, .string (shelfB (P[k].map Prod.snd))]) (l := P[k]) cols.length ⟨_, rfl, StrsIn.kept hrs1 hq0⟩ ((HVC.out.kept hb).kept hq0) hg2 hg4 hg5 hcK hcK)
   rw [HGR.out] at HRW
   have HPK : Hid (∀ {u : Value} {W : World}, TimesIn W u P[k] → TimesIn W u P[k]) := fun h => h
   have hpk : k < pv.length := by omega
   have HOW := Lib.hid hO
   have HPN := Lib.hid hpn
   obtain ⟨z0, z1, z2, _⟩ := (bbox_lit wr 50 P[k].length (.slice Ar cols.length pr) (shelfB (P[k].map Prod.snd))).cells
   have HQ0 := Lib.hid hq0
   have HPV : Hid (∃ pk, pk = P[k]) := ⟨_, rfl⟩
   have HTK : Hid (∀ (v3 : Value) (W : World), TimesIn W v3 P[k] → (∀ j (h1 : j < pv.length) (h2 : j < P.length), j < k → TimesIn W pv[j].1 P[j]) → ∀ j (h1 : j < (pv.set k (v3, pv[k].2.1, pv[k].2.2)).length) (h2 : j < P.length), j < k + 1 → TimesIn W ((pv.set k (v3, pv[k].2.1, pv[k].2.2))[j]).1 P[j]) := fun v3 W h3 h4 j h1 h2 h5 => by
    rw [List.length_set] at h1
    rw [List.getElem_set]
    split
    ·rename_i e; subst e; exact h3
    ·exact h4 j h1 h2 (by omega)
   clear c0 c1 c2 hrs hrs1 hone hg1 hg2 hg3 hg4 hg5 hO hpn hsl HGR HPK HPV hq0
   generalize shelfB (P[k].map Prod.snd) = s at *
   generalize P[k] = p at *
   generalize p.length = pl at *
   go_wp2_with fail
   refine HRW.out.mono ?_
   rintro e w3 ⟨v3, he, hN, hq⟩
   rw [if_pos rfl] at he hN
   subst he
   have hT3 := hN.times
   obtain ⟨tv3, A3, p3, rfl, _, _⟩ := times_at hT3
   have hqq := HQ0.out.trans (hq.mono HQ0.out.size)
   have hO3 := HOW.out.later hqq
   have hp3 := HPN.out.later (HOW.out.lt _ rfl).2 hqq
   have hb3 := hb.trans (hqq.mono hB)
   obtain ⟨_, _, _, hcc, hff⟩ := hO3.parts
   have y0 := hcc _ _ (partsV_get pv k hpk).1
   have f0 := (hff (k * 3) (by omega)).2
   rw [Nat.zero_add] at y0 f0
   have hgg := setCells_grown w.heap.size [Value.slice A3 p.length p3] (k * 3) w3
   simp only [World.setCells] at hgg
   have hkb : KeptBut w3 (.slice (some ⟨w.heap.size, 0, none⟩) P.length P.length) (w3.setCell ⟨w.heap.size, k * 3, none⟩ (.slice A3 p.length p3)) := KeptBut.of hgg
   have hpa : ∀ O, (Value.slice (some ⟨w.heap.size, 0, none⟩) P.length P.length).ownBlock = some O → Plain w3 O := fun O hO => by simp only [Value.ownBlock, Option.some.injEq] at hO; subst hO; exact hp3
   have HO4 : Hid (Own (w3.setCell ⟨w.heap.size, k * 3, none⟩ (.slice A3 p.length p3)) w.heap.size 3 (.slice (some ⟨w.heap.size, 0, none⟩) P.length P.length) P.length (partsV (pv.set k (.slice A3 p.length p3, pv[k].2.1, pv[k].2.2)))) := by
    have := hO3.stored (k * 3) (by omega) (.slice A3 p.length p3)
    rw [partsV_set0 pv k hpk, Nat.zero_add] at this
    exact this
   have HP4 := Lib.hid (hp3.set y0 (plain_slice A3 p.length p3))
   have HT4 := Lib.hid (HTK.out _ _ (hT3.but hpa hkb) (fun j h1 h2 h3 => ((HT.out j h1 h2 h3).kept hqq).but hpa hkb))
   have HZ4 : Hid (∀ j (h1 : j < (pv.set k (.slice A3 p.length p3, pv[k].2.1, pv[k].2.2)).length), ((pv.set k (.slice A3 p.length p3, pv[k].2.1, pv[k].2.2))[j]).2 = (.slice none 0 0, false)) := fun j h1 => by
    rw [List.length_set] at h1
    rw [List.getElem_set]
    split
    ·rename_i e; subst e; exact HZ.out k hpk
    ·exact HZ.out j h1
   have hb4 := hb3.setCell (p := ⟨w.heap.size, k * 3, none⟩) (Nat.le_refl _) (.slice A3 p.length p3)
   clear hN hT3 hq hqq hO3 hp3 hb3 hcc hff hgg hkb hpa HRW z0 z1 z2 x0 x1 x2 HTK hb hB
   go_wp2
   go_roundw
   case rel => exact ⟨k + 1, by omega, by go_num, ⟨_, by rw [List.length_set]; exact hpl, HO4.out, HP4.out, HT4.out, HZ4.out⟩, hb4⟩
   case measure => simp [intOf]; omega
  ·obtain rfl : k = P.length := by omega
   have HOE := Lib.hid hO
   have HPE := Lib.hid hpn
   have HPL := Lib.hid hpl
   clear hO hpn hpl
   go_wp2
   go_ret2
   exact ⟨pv, rfl, HOE.out, HPE.out, HPL.out, fun j h1 h2 => HT.out j h1 h2 h2, HZ.out, hb⟩
set_option maxHeartbeats 4000000 in
set_option maxRecDepth 100000 in
theorem cut_all_calls {w : World} {vb vc : Value} {P : List (List Tm)} {cols : List (Int × Bool)} (hvb : BlksIn w vb (blksL P cols.length)) (hvc : ColsIn w vc cols) (hP : ∀ p ∈ P, GoodP p cols) (hl : P.flatten.length ≤ 4096) (hPl : P.length ≤ 4096) (hcK : cols.length ≤ 1000000) :
  Calls Tryz.prog 24 #[vb, vc] w (AllEnd w P) := by
 obtain ⟨m0, hm, mz0, mz1, mz2⟩ := info_parts Tryz.infoCb30
 obtain ⟨hb, hB⟩ := start w
 have HRD := Lib.hid (cut_read_calls hvb hvc hP hPl hcK)
 obtain ⟨A1, p1, rfl, _⟩ := blksL_at hvb
 obtain ⟨A2, p2, rfl, _⟩ := cols_at hvc
 have HFL : Hid (∀ k, k < P.length → ((P.take k).flatten).length + P[k]!.length ≤ 4096) := fun k hk => by
  have := congrArg List.length (flatten_at P k hk)
  rw [List.length_append, List.length_append] at this
  rw [getElem!_pos P k hk]
  omega
 clear hvb hvc hP
 go_enter Tryz.func24, Tryz.ntmps24
 go_wp2_with fail
 refine HRD.out.mono ?_
 rintro e w1 ⟨pv, rfl, hO, _, hpl, hT, hZ, hq⟩
 have hH : HeadsIn w1 (.slice (some ⟨w.heap.size, 0, none⟩) P.length P.length) P := ⟨pv, hO.slice, hpl, hT, fun j h1 => ⟨none, 0, 0, by rw [hZ j h1]⟩⟩
 obtain ⟨A3, c3, e3, _, hat⟩ := heads_at hH
 simp only [Value.slice.injEq, true_and] at e3
 obtain ⟨rfl, rfl⟩ := e3
 have HAT := Lib.hid hat
 have HB := Lib.hid (hb.trans (hq.mono hB))
 clear hO hpl hT hZ hq hH hat HRD hb hB
 go_wp2
 go_loopw [8, 10, 21] (fun x _ i wr => ∃ k : Nat, k ≤ P.length ∧ i = .int .i64 k ∧ (∃ tv, TimesOwn wr w1.heap.size x tv (P.take k).flatten) ∧ Below w1.heap.size w1 wr) (fun _ _ i _ => P.length - (intOf i).toNat)
 case atStart => exact ⟨0, Nat.zero_le _, rfl, ⟨[], TimesOwn.nil_ _ _⟩, .refl _ _⟩
 case round =>
  obtain ⟨k, hk, rfl, ⟨tv, hT⟩, hb⟩ := hrel
  have hB := hb.size
  by_cases hlt : k < P.length
  ·obtain ⟨b, off, eb, hbl, hc⟩ := HAT.out k hlt
   simp only [Option.some.injEq, Addr.mk.injEq, and_true] at eb
   obtain ⟨rfl, rfl⟩ := eb
   obtain ⟨rv, Am, nm, cm, fl, hrT, c0, c1, c2⟩ := hc k hlt
   rw [Nat.zero_add] at c0 c1 c2
   have x0 := (hb.cell (p := ⟨w.heap.size, k * 3, none⟩) hbl).trans c0
   have x1 := (hb.cell (p := ⟨w.heap.size, k * 3 + 1, none⟩) hbl).trans c1
   have x2 := (hb.cell (p := ⟨w.heap.size, k * 3 + 2, none⟩) hbl).trans c2
   have HTF := Lib.hid (take_flatten P k hlt)
   have hlen := HFL.out k hlt
   rw [getElem!_pos P k hlt] at hlen
   obtain ⟨tv2, hs2, hr2⟩ := hrT
   have HOFF : Hid (∀ v, (∀ j, v.ownBlock = some j → w1.heap.size ≤ j) → RowsOff v tv2) := fun v hv t ht => by
    obtain ⟨y, _, hy, _⟩ := hr2.mem t ht
    exact RowOff.below hy (Nat.le_refl _) hv
   obtain ⟨A5, p5, rfl, _⟩ := hs2.at_
   have hq0 : Below wr.heap.size wr (wr.alloc (.cells #[.slice A5 P[k].length p5, .slice Am nm cm, .bool fl] 69)) := Below.alloc (.refl _ _) (Nat.le_refl _) _
   have HS2 := Lib.hid (SliceOf.later (SliceOf.later hs2 hb) hq0)
   have HR2 := Lib.hid ((hr2.kept hb).kept hq0)
   have HT1 := Lib.hid (hT.later hq0)
   have HB1 := Lib.hid (hb.trans (hq0.mono hB))
   obtain ⟨A9, p9, rfl⟩ := hT.slice
   clear c0 c1 c2 hs2 hr2 hT hq0 hc
   generalize (P.take k).flatten = a at *
   generalize P[k] = p at *
   have HPL : Hid (a.length + p.length ≤ 4096) := hlen
   generalize hal : a.length = al at *
   generalize hpl : p.length = pl at *
   have HO1 : Hid (Own (wr.alloc (.cells #[.slice A5 pl p5, .slice Am nm cm, .bool fl] 69)) w1.heap.size 2 (.slice A9 al p9) al (timesV tv)) := hal ▸ HT1.out.own
   have HAL := Lib.hid hal
   have HPLE := Lib.hid hpl
   clear hal hpl
   go_wp2_with (at_builtin; refine wpList_append_src rfl (.tmp 25) (.tmp 27) 23 rfl 30 m0 (.agg #[.slice none 0 0, .int .i64 0]) 2 32 Tryz.underlying23 hm mz0 mz1 mz2 rfl (by decide) (B := w1.heap.size) (.slice A9 al p9) al (timesV tv) rfl HO1.out _ pl (timesV tv2) rfl HS2.out (RowsOf.one_cell HR2.out) (by unfold maxLen; omega) (by omega) HB1.out.size ?_)
   intro v7 w7 hO7 hg7 ha7
   have HT7 : Hid (∃ tv, TimesOwn w7 w1.heap.size v7 tv (P.take (k + 1)).flatten) := by
    refine ⟨tv ++ tv2, ?_⟩
    rw [HTF.out]
    exact HT1.out.adds HR2.out (HOFF.out _ (fun j hj => (HO1.out.lt j hj).1)) hg7 (by simpa using ha7) (by rw [HAL.out, HPLE.out]; exact hO7)
   have hbn := HB1.out.grown hg7 HB1.out.size (fun q hq => (HO1.out.lt q hq).1)
   clear hO7 hg7 ha7 HO1 HT1 HS2 HR2 HOFF x0 x1 x2
   go_wp2
   go_roundw
   case rel => exact ⟨k + 1, by omega, by go_num, HT7.out, hbn⟩
   case measure => simp [intOf]; omega
  ·obtain rfl : k = P.length := by omega
   rw [List.take_length] at hT
   have HRR := Lib.hid (weigh_right_calls hT.times)
   have HTI := Lib.hid hT.times
   obtain ⟨A9, p9, rfl⟩ := hT.slice
   clear hT
   cases hr : rightW P.flatten with
   | true =>
    rw [hr] at HRR
    have HYES := Lib.hid hr
    clear hr
    generalize P.flatten.length = pf at *
    go_wp2_with fail
    refine HRR.out.stepB (w0 := wr) (B := wr.heap.size) (.refl _ _) (Nat.le_refl _) ?_
    intro w5 _ _ hq5
    have HT5 := Lib.hid (HTI.out.kept hq5)
    have hbe := HB.out.trans ((hb.trans (hq5.mono hB)).mono HB.out.size)
    clear hq5 HRR
    go_wp2
    go_ret2
    exact all_yes HYES.out HT5.out hbe
   | false =>
    rw [hr] at HRR
    have HNO := Lib.hid hr
    clear hr
    generalize P.flatten.length = pf at *
    go_wp2_with fail
    refine HRR.out.stepB (w0 := wr) (B := wr.heap.size) (.refl _ _) (Nat.le_refl _) ?_
    intro w5 _ _ hq5
    have hbe := HB.out.trans ((hb.trans (hq5.mono hB)).mono HB.out.size)
    clear hq5 HRR
    go_wp2
    go_ret2
    exact all_no HNO.out hbe
set_option maxHeartbeats 1000000 in
theorem cut_search_calls (g : FuncId) (cb : Array Value) (n : Nat) (p : Nat → Bool) {w : World} (eg : ∀ args w, (callFunc g args).run Tryz.prog w = .ok (.enter g args) w) (hn : n ≤ 1000000)
  (hf : ∀ w' i, i < n → Below w.heap.size w w' → GivesAt Tryz.prog g (#[.int .i64 (i : Int)] ++ cb) w' (.bool (p i))) :
  Calls Tryz.prog 90 #[.int .i64 n, .func (.func g) #[] cb] w fun e w' => ∃ z : Nat, e = .returned (.int .i64 z) ∧ z ≤ n ∧ (0 < z → p (z - 1) = false) ∧ (z < n → p z = true) ∧ Below w.heap.size w w' := by
 have HF := Lib.hid hf
 obtain ⟨hb, hB⟩ := start w
 clear hf
 go_enter Tryz.func90, Tryz.ntmps90
 go_wp2
 go_loopw [5, 6] (fun i j wr => ∃ I J : Nat, i = .int .i64 I ∧ j = .int .i64 J ∧ I ≤ J ∧ J ≤ n ∧ Hid (0 < I → p (I - 1) = false) ∧ Hid (J < n → p J = true) ∧ Below w.heap.size w wr) (fun i j _ => (intOf j).toNat - (intOf i).toNat)
 case atStart => exact ⟨0, n, rfl, rfl, Nat.zero_le _, Nat.le_refl _, fun h => absurd h (by omega), fun h => absurd h (by omega), hb⟩
 case round =>
  clear hb hB
  obtain ⟨I, J, rfl, rfl, hIJ, hJ, HI, HJ, hb⟩ := hrel
  have hB := hb.size
  by_cases hlt : I < J
  ·have hh1 : I ≤ (I + J) / 2 := by omega
   have hh2 : (I + J) / 2 < J := by omega
   obtain ⟨K, hK⟩ : ∃ K, K = (I + J) / 2 := ⟨_, rfl⟩
   rw [← hK] at hh1 hh2
   have q1 : IntKind.i64.wrap ((I : Int) + (J : Int)) = (I : Int) + (J : Int) := IntWalk.i64_in _ (by omega)
   have q2 : IntKind.u64.wrap ((I : Int) + (J : Int)) = (I : Int) + (J : Int) := by rw [IntKind.wrap_u64]; omega
   have q3 : ((I : Int) + (J : Int)) / 2 = (K : Int) := by omega
   have d1 : decide ((I : Int) < (J : Int)) = true := by rw [decide_eq_true_eq]; omega
   clear hK
   have HC := Lib.hid (HF.out wr K (by omega) hb)
   cases hp : p K with
   | true =>
    have HN : Hid (K < n → p K = true) := fun _ => hp
    rw [hp] at HC
    clear hp
    go_wp2_with (go_at_fn g; refine HC.out.step (w0 := w) (B := w.heap.size) hb hB ?_; clear hb hB; intro w2 hb hB)
    go_roundw
    case rel => exact ⟨I, K, rfl, by go_num, hh1, by omega, HI.out, HN.out, hb⟩
    case measure => simp [intOf]; omega
   | false =>
    have HN : Hid (0 < K + 1 → p (K + 1 - 1) = false) := fun _ => hp
    rw [hp] at HC
    clear hp
    go_wp2_with (go_at_fn g; refine HC.out.step (w0 := w) (B := w.heap.size) hb hB ?_; clear hb hB; intro w2 hb hB)
    go_roundw
    case rel => exact ⟨K + 1, J, by go_num, rfl, hh2, hJ, HN.out, HJ.out, hb⟩
    case measure => simp [intOf]; omega
  ·obtain rfl : I = J := by omega
   have d1 : decide ((I : Int) < (I : Int)) = false := by rw [decide_eq_false_iff_not]; omega
   go_wp2
   go_ret
   exact ⟨I, rfl, hJ, HI.out, HJ.out, hb⟩
theorem parts_back (W : World) (A : Option Addr) (n cap : Nat) (hk : 1 ≤ n) : (Instr.sliceAt 65 (.slice A n cap) (some (.int .i64 1)) none none).run Tryz.prog W = .ok (.slice (if cap = 1 then A else A.map (·.add 3)) (n - 1) (cap - 1)) W := by
 have hu : Tryz.prog.underlying 65 = some (.slice (Tryz.prog.elem 65)) := by kernel_rfl
 have he : Tryz.prog.elem 65 = 69 := by kernel_rfl
 rw [run_sliceAt_slice _ _ _ _ _ _ hu, run_slice_l _ _ _ _ _ hu _ _ (by omega) (by omega), he, Tryz.sizeOf69]
 simp [Result.andThen, sliced]
theorem HeadsIn.back {w : World} {A : Option Addr} {cap : Nat} {P : List (List Tm)} (h : HeadsIn w (.slice A P.length cap) P) (h0 : 0 < P.length) : HeadsIn w (.slice (if cap = 1 then A else A.map (·.add 3)) (P.length - 1) (cap - 1)) (P.drop 1) := by
 obtain ⟨A', c', e, hle, hat⟩ := heads_at h
 cases e
 obtain ⟨b, off, rfl, _, _⟩ := hat 0 h0
 by_cases hc : cap = 1
 ·have h1 : P.length = 1 := by omega
  have hd : P.drop 1 = [] := List.drop_eq_nil_of_le (by omega)
  rw [if_pos hc, hd, h1]
  exact ⟨[], SliceOf.nil_ _ _ _ _, rfl, fun j h => absurd h (by simp), fun j h => absurd h (by simp)⟩
 ·rw [if_neg hc]
  exact h.tail h0
def aboveB (P1 : List (List Tm)) (r : List ByteArray) (i : Nat) : Bool := decide (0 < cmpL (headR (P1.getD i [])) r)
theorem enters_above : ∀ args w, (callFunc 91 args).run Tryz.prog w = .ok (.enter 91 args) w := enters_of Tryz.func91 (by kernel_rfl) rfl
set_option maxHeartbeats 1000000 in
theorem cut_above_calls {w : World} {P1 : List (List Tm)} {B3 Ar : Option Addr} {q3 pr b5 b3 : Nat} {r : List ByteArray} (hH : HeadsIn w (.slice B3 P1.length q3) P1) (x5 : w.cell? ⟨b5, 0, none⟩ = some (.slice B3 P1.length q3)) (x3 : w.cell? ⟨b3, 0, none⟩ = some (.slice Ar r.length pr))
  (hr : StrsIn w (.slice Ar r.length pr) r) (i : Nat) (hi : i < P1.length) (hp : 0 < P1[i].length) : GivesAt Tryz.prog 91 #[.int .i64 i, .pointer (some ⟨b5, 0, none⟩), .pointer (some ⟨b3, 0, none⟩)] w (.bool (aboveB P1 r i)) := by
 obtain ⟨A', c', e, hle, hat⟩ := heads_at hH
 simp only [Value.slice.injEq, true_and] at e
 obtain ⟨rfl, rfl⟩ := e
 obtain ⟨b, off, rfl, hbl, hc⟩ := hat i hi
 obtain ⟨rv, Am, nm, cm, fl, hT, c0, c1, c2⟩ := hc i hi
 obtain ⟨tv, A6, p6, rfl, hro, hat6⟩ := times_at hT
 clear hro
 obtain ⟨b6, off6, rfl, hbl6, hc6⟩ := hat6 0 hp
 obtain ⟨r0, hs0, htv, z0, z1⟩ := hc6 0 hp
 have hh : headR P1[i] = P1[i][0].1 := rowAt_get hp
 rw [← hh] at hs0
 have HA : Hid (decide (0 < cmpL (headR P1[i]) r) = aboveB P1 r i) := by
  show _ = _
  unfold aboveB
  rw [List.getD_eq_getElem?_getD, List.getElem?_eq_getElem hi]; rfl
 have HCMP : Hid (∀ W, Below w.heap.size w W → GivesAt Tryz.prog 57 #[r0, .slice Ar r.length pr] W (.int .i64 (cmpL (headR P1[i]) r))) := fun W hW => (compare_calls (StrsIn.kept hs0 hW) (StrsIn.kept hr hW)).gives
 obtain ⟨A0, p0, ea0, hq0⟩ := one_at hs0
 subst ea0
 clear hq0 htv
 rw [Nat.zero_mul, Nat.add_zero] at z0
 have i0 : (0 : Int) ≤ (i : Int) := by omega
 have i1 : (i : Int) < (P1.length : Int) := by omega
 have i2 : (0 : Int) < (P1[i].length : Int) := by omega
 clear hc hat hat6 hc6 hs0 hr hT hh hle z1
 generalize cmpL (headR P1[i]) r = z at *
 generalize aboveB P1 r i = zb at *
 generalize (headR P1[i]).length = hl at *
 generalize P1[i].length = pl at *
 generalize P1.length = ml at *
 generalize r.length = rl at *
 have e5 := fun d os => cell_regrown x5 d os
 have e3 := fun d os => cell_regrown x3 d os
 have e0 := fun d os => cell_regrown c0 d os
 have e6 := fun d os => cell_regrown z0 d os
 unfold GivesAt
 go_enter Tryz.func91, Tryz.ntmps91
 go_wp2_with fail
 refine wp_region_quiet_below (by kernel_rfl) (by kernel_rfl) ?_
 repeat (first | go_big_quiet_skip | (go_big_quiet_want; go_big_quiet_op; first | go_big_quiet_on | (apply Exists.intro; refine ⟨fun _ => ?_, ?_⟩; (first | (go_at_call 57; exact Calls.regrown_of (HCMP.out _ (below_regrown w _ _)))); go_big_quiet_on)))
 refine wpQuiet_nil ?_
 rintro w3 ⟨p, hw3⟩
 have hb : Below w.heap.size w w3 := hw3 ▸ below_regrown w p.d p.os
 clear hw3 e5 e3 e0 e6
 go_wp2
 go_ret
 exact ⟨ret_bool HA.out, hb⟩
set_option maxHeartbeats 1000000 in
theorem cut_place_calls {w : World} {v vr : Value} {P : List (List Tm)} {r : List ByteArray} (hv : HeadsIn w v P) (hr : StrsIn w vr r) (h0 : 0 < P.length) (hPl : P.length ≤ 1000000) (hne : ∀ j (h : j < P.length), 1 ≤ j → 0 < P[j].length)
  (hup : ∀ i j (h : i < j) (hj : j < P.length), 1 ≤ i → cmpL (headR (P[i]'(by omega))) (headR P[j]) = -1) : GivesAt Tryz.prog 56 #[v, vr] w (.int .i64 (homeN P r)) := by
 obtain ⟨A, cap, rfl, _, _⟩ := heads_at hv
 have hH := hv.back h0
 have hsb := fun W => parts_back W A P.length cap h0
 obtain ⟨Ar, pr, rfl, _⟩ := one_at hr
 generalize (if cap = 1 then A else A.map (·.add 3)) = B3 at *
 generalize cap - 1 = q3 at *
 have hl1 : (P.drop 1).length = P.length - 1 := by rw [List.length_drop]
 have hP1 : ∀ i (h : i < (P.drop 1).length), (P.drop 1)[i] = P[i + 1]'(by omega) := fun i h => by
  rw [List.getElem_drop]; congr 1; omega
 have hend : ∀ z, z ≤ (P.drop 1).length → (0 < z → aboveB (P.drop 1) r (z - 1) = false) → (z < (P.drop 1).length → aboveB (P.drop 1) r z = true) → z = homeN P r := by
  intro z hz ha hc
  have ab : ∀ i (h : i < (P.drop 1).length), aboveB (P.drop 1) r i = decide (0 < cmpL (headR (P[i + 1]'(by omega))) r) := fun i h => by
   unfold aboveB
   rw [List.getD_eq_getElem?_getD, List.getElem?_eq_getElem h, Option.getD_some, hP1 i h]
  have getD_at : ∀ i (hi : i < P.length), P.getD i [] = P[i] := fun i hi => by rw [List.getD_eq_getElem?_getD, List.getElem?_eq_getElem hi]; rfl
  obtain ⟨s1, s2⟩ := homeTo_spec P r P.length
  have hlt := homeTo_lt P r P.length h0
  unfold homeN
  generalize homeTo P r P.length = h at *
  rcases Nat.lt_trichotomy z h with hlt2 | e | hgt
  ·exfalso
   have h1 := hc (by omega)
   rw [ab z (by omega), decide_eq_true_eq] at h1
   have h2 : cmpL (headR P[h]) r ≤ 0 := by
    rcases s1 with e | ⟨_, _, e⟩
    ·omega
    ·rwa [getD_at h hlt] at e
   by_cases e : z + 1 = h
   ·subst e; omega
   ·have h3 := hup (z + 1) h (by omega) hlt (by omega)
    have h4 : cmpL (headR P[z + 1]) r = -1 := cmpL_below h3 h2
    omega
  ·exact e
  ·exfalso
   have h1 := ha (by omega)
   rw [ab (z - 1) (by omega), decide_eq_false_iff_not] at h1
   have h2 := s2 z hgt (by omega) (by omega)
   rw [getD_at z (by omega)] at h2
   have e : z - 1 + 1 = z := by omega
   simp only [e] at h1
   omega
 have HEND := Lib.hid hend
 have HH := Lib.hid hH
 have HR := Lib.hid hr
 have HNE : Hid (∀ i (h : i < (P.drop 1).length), 0 < ((P.drop 1)[i]).length) := fun i h => by rw [hP1 i h]; exact hne _ _ (by omega)
 clear hv hr hne hup hend hP1 hH
 rw [← hl1] at HH hsb
 have hn1 : (P.drop 1).length ≤ 1000000 := by omega
 clear hl1
 generalize P.drop 1 = P1 at *
 have hW : Below w.heap.size w ((w.alloc (.cells #[.slice Ar r.length pr] 28)).alloc (.cells #[.slice B3 P1.length q3] 65)) := ((Below.refl _ w).alloc (Nat.le_refl _) _).alloc (by simp) _
 have y3 : ((w.alloc (.cells #[.slice Ar r.length pr] 28)).alloc (.cells #[.slice B3 P1.length q3] 65)).cell? ⟨w.heap.size, 0, none⟩ = some (.slice Ar r.length pr) := by
  rw [World.cell?_alloc_old _ _ _ (by simp)]; exact World.cell?_alloc_new _ _ _ _
 have y5 : ((w.alloc (.cells #[.slice Ar r.length pr] 28)).alloc (.cells #[.slice B3 P1.length q3] 65)).cell? ⟨w.heap.size + 1, 0, none⟩ = some (.slice B3 P1.length q3) := by
  have := World.cell?_alloc_new (w.alloc (.cells #[.slice Ar r.length pr] 28)) #[.slice B3 P1.length q3] 65 0
  rwa [show (w.alloc (.cells #[.slice Ar r.length pr] 28)).heap.size = w.heap.size + 1 by simp] at this
 have HSR : Hid (Calls Tryz.prog 90 #[.int .i64 P1.length, .func (.func 91) #[] #[.pointer (some ⟨w.heap.size + 1, 0, none⟩), .pointer (some ⟨w.heap.size, 0, none⟩)]] ((w.alloc (.cells #[.slice Ar r.length pr] 28)).alloc (.cells #[.slice B3 P1.length q3] 65)) _) :=
  cut_search_calls 91 #[.pointer (some ⟨w.heap.size + 1, 0, none⟩), .pointer (some ⟨w.heap.size, 0, none⟩)] P1.length (aboveB P1 r) enters_above hn1 fun w' i hi hb => cut_above_calls ((HH.out.kept hW).kept hb) (cell_kept y5 hb) (cell_kept y3 hb) (StrsIn.kept (StrsIn.kept HR.out hW) hb) i hi (HNE.out i hi)
 have HW := Lib.hid hW
 clear hW y3 y5 hn1 HH HNE
 generalize P1.length = n1 at *
 unfold GivesAt
 go_enter Tryz.func56, Tryz.ntmps56
 go_wp2_with (go_at_call 90; refine HSR.out.mono ?_; rintro e w2 ⟨z, rfl, h1, h2, h3, hq⟩; have HZ := Lib.hid (HEND.out z h1 h2 h3); have hb := HW.out.trans (hq.mono HW.out.size); clear hq h1 h2 h3)
 go_ret
 exact ⟨ret_int (by rw [HZ.out]), hb⟩
theorem share_take (P : List (List Tm)) (more : List Tm) (k : Nat) (h : k < more.length) (hh : homeN P more[k].1 < (sharesL P (more.take k)).length) : sharesL P (more.take (k + 1)) = (sharesL P (more.take k)).set (homeN P more[k].1) ((sharesL P (more.take k))[homeN P more[k].1] ++ [more[k]]) := by
 rw [take_add more k h, sharesL_snoc P (more.take k) more[k] hh]
theorem share_len (P : List (List Tm)) (more : List Tm) (k j : Nat) (h : j < (sharesL P (more.take k)).length) : (sharesL P (more.take k))[j].length ≤ k := by
 rw [sharesL_get]
 refine Nat.le_trans (List.length_filter_le _ _) ?_
 rw [List.length_take]; omega
def ShareEnd (w0 ws : World) (v : Value) (P : List (List Tm)) (a0 : Bool) (more : List Tm) (e : Ending) (w' : World) : Prop :=
 e = .returned (.tuple #[]) ∧ (∃ pv, Sharing w0 ws w' v pv P (sharesL P more) (flagsL P a0 more)) ∧ Below w0.heap.size w0 w'
set_option maxHeartbeats 4000000 in
set_option maxRecDepth 100000 in
theorem cut_share_calls {w0 w : World} {v vm : Value} {P : List (List Tm)} {more : List Tm} {a0 : Bool} {pv0 : List PartV} (hS : Sharing w0 w w v pv0 P (List.replicate P.length []) (List.replicate P.length a0)) (hm : TimesIn w0 vm more) (hb0 : Below w0.heap.size w0 w) (h0 : 0 < P.length) (hPl : P.length ≤ 4097) (hml : more.length ≤ 4096)
  (hne : ∀ j (h : j < P.length), 1 ≤ j → 0 < P[j].length) (hup : ∀ i j (h : i < j) (hj : j < P.length), 1 ≤ i → cmpL (headR (P[i]'(by omega))) (headR P[j]) = -1) :
  Calls Tryz.prog 37 #[v, vm] w (ShareEnd w0 w v P a0 more) := by
 obtain ⟨m0, hm0, mz0, mz1, mz2⟩ := info_parts Tryz.infoCb30
 obtain ⟨tvm, A, cap, rfl, _, hat⟩ := times_at hm
 obtain ⟨g, off, capg, rfl⟩ : ∃ g off cap, v = .slice (some ⟨g, off, none⟩) P.length cap := by
  rcases hS.own.2.2 with ⟨_, hn⟩ | ⟨g, off, cap, e, _⟩
  ·omega
  ·exact ⟨g, off, cap, e⟩
 have HAT := Lib.hid hat
 have HNE := Lib.hid hne
 have HUP := Lib.hid hup
 have HGB : Hid (w0.heap.size ≤ g ∧ g < w.heap.size) := hS.own.lt g rfl
 clear hm hat hne hup
 unfold ShareEnd
 go_enter Tryz.func37, Tryz.ntmps37
 go_wp2
 go_loopw [5, 9] (fun _ i wr => ∃ k : Nat, k ≤ more.length ∧ i = .int .i64 k ∧ (∃ pv, Sharing w0 w wr (.slice (some ⟨g, off, none⟩) P.length capg) pv P (sharesL P (more.take k)) (flagsL P a0 (more.take k))) ∧ Below w0.heap.size w0 wr) (fun _ i _ => more.length - (intOf i).toNat)
 case atStart => exact ⟨0, Nat.zero_le _, rfl, ⟨pv0, by rw [List.take_zero, sharesL_none, flagsL_none]; exact hS⟩, hb0⟩
 case round =>
  clear hS hb0
  obtain ⟨k, hk, rfl, ⟨pv, hS⟩, hb⟩ := hrel
  have hB := hb.size
  by_cases hlt : k < more.length
  ·obtain ⟨b, o, rfl, hbl, hc⟩ := HAT.out k hlt
   obtain ⟨rv, hrs, htv, c1, c2⟩ := hc k hlt
   have x1 := (hb.cell (p := ⟨b, o + k * 2, none⟩) hbl).trans c1
   have x2 := (hb.cell (p := ⟨b, o + k * 2 + 1, none⟩) hbl).trans c2
   have hhl : homeN P more[k].1 < P.length := homeN_lt P _ h0
   have hh1 : homeN P more[k].1 < (sharesL P (more.take k)).length := by rw [sharesL_length]; exact hhl
   have HSN := Lib.hid (share_take P more k hlt hh1)
   have HYL := Lib.hid (share_len P more k _ hh1)
   have HF1 : Hid (bothX P more[k].1 = false → flagsL P a0 (more.take (k + 1)) = (flagsL P a0 (more.take k)).set (homeN P more[k].1) true) := fun h => by rw [take_add more k hlt, flagsL_one P a0 _ _ h]
   have HF2 : Hid (bothX P more[k].1 = true → flagsL P a0 (more.take (k + 1)) = ((flagsL P a0 (more.take k)).set (homeN P more[k].1) true).set (homeN P more[k].1 - 1) true) := fun h => by rw [take_add more k hlt, flagsL_two P a0 _ _ h]
   have HBX : Hid (bothX P more[k].1 = (decide (0 < homeN P more[k].1) && (cmpL (headR (P.getD (homeN P more[k].1) [])) more[k].1 == 0))) := rfl
   have hrs1 := StrsIn.kept hrs hb
   have hq0 : Below wr.heap.size wr (wr.alloc (.cells #[rv, .int .i64 more[k].2] 30)) := Below.alloc (.refl _ _) (Nat.le_refl _) _
   have HPLC := Lib.hid (cut_place_calls ((hS.later hq0).heads) (StrsIn.kept hrs1 hq0) h0 (by omega) HNE.out HUP.out)
   obtain ⟨Ar, pr, ear, hone⟩ := one_at hrs
   subst ear
   have HX0 := Lib.hid hrs
   have hbx0 : BoxOf (wr.alloc (.cells #[.slice Ar more[k].1.length pr, .int .i64 more[k].2] 30)) wr.heap.size (.slice Ar more[k].1.length pr) more[k].2 := box_tm _ _ _ _
   have HSX := Lib.hid (hS.later hq0)
   have HOV : Hid (∀ j (hj : j < pv.length) q, pv[j].2.1.ownBlock = some q → q < wr.heap.size) := fun j hj q hq => by
    obtain ⟨tv, h1, _⟩ := hS.more j hj (by have := hS.l1; have := hS.l2; omega)
    exact (h1.lt q hq).2
   have HBX0 := Lib.hid hbx0
   have HB0 := Lib.hid (hb.trans (hq0.mono hB))
   have HWR : Hid (w.heap.size ≤ wr.heap.size) := hS.but.1
   clear c1 c2 hc htv hrs hrs1 hone hbx0 hS hq0
   generalize hsl : sharesL P (more.take k) = SL at *
   generalize hfl : flagsL P a0 (more.take k) = FL at *
   generalize hhn : homeN P more[k].1 = h at *
   have HHN := Lib.hid hhn
   generalize more[k] = t at *
   obtain ⟨row, n⟩ := t
   dsimp only at *
   clear hsl hfl hhn
   go_wp2_with (go_at_call 56; refine HPLC.out.stepB (w0 := w0) (B := w0.heap.size) HB0.out HB0.out.size ?_; clear x1 x2; intro w2 hb2 hB2 hq2; have HS2 := Lib.hid (HSX.out.later hq2); have HBX2 := Lib.hid (HBX0.out.later hq2); clear hq2)
   have hS2 := HS2.out
   have hpvl : h < pv.length := by rw [hS2.l1]; exact hhl
   have hsll : h < SL.length := by rw [hS2.l2]; exact hhl
   obtain ⟨tv, hOm, hRm⟩ := hS2.more h hpvl hsll
   obtain ⟨Au, pu, eu⟩ := hOm.len
   have HOV1 := Lib.hid (HOV.out h hpvl)
   rw [eu] at hOm HOV1
   obtain ⟨c0, c1, c2, f0, f1, f2⟩ := hS2.cells h hpvl
   rw [eu] at c1
   have HEU := Lib.hid eu
   have HRM := Lib.hid hRm
   have hyl := HYL.out
   generalize hy : SL[h].length = yl at *
   have HY := Lib.hid hy
   have HU := Lib.hid ((Own.alloc hOm (.cells #[.slice Ar row.length pr, .int .i64 n] 30)).drew)
   have hqa : Below w2.heap.size w2 ((w2.alloc (.cells #[.slice Ar row.length pr, .int .i64 n] 30)).drew) := (Below.alloc (.refl _ _) (Nat.le_refl _) _).drew
   have HSA := Lib.hid (hS2.later hqa)
   have HBA := Lib.hid (hb2.trans (hqa.mono hB2))
   have HBXA := Lib.hid (HBX2.out.later hqa)
   have HLIT := Lib.hid ((lit_tm w2 30 (.slice Ar row.length pr) n).drew)
   have HONE := Lib.hid (one_tm HX0.out n)
   have c11 := cell_kept c1 (Below.alloc (.refl w2.heap.size w2) (Nat.le_refl _) (.cells #[.slice Ar row.length pr, .int .i64 n] 30))
   obtain ⟨z0, z1, _, _⟩ := HBX2.out.cells
   have HWS : Hid (w.heap.size ≤ w2.heap.size) := hS2.but.1
   have HWX : Hid (wr.heap.size < w2.heap.size) := by have := HBX2.out.cells.2.2.2; exact this
   have i0 : (0 : Int) ≤ (h : Int) := by omega
   have i1 : (h : Int) < (P.length : Int) := by omega
   clear hS2 hOm hRm eu hqa hy HSX HBX0 HB0 HPLC hb2 hB2 HS2 HBX2 c0 c2 f0 f2 HYL
   go_wp2_with fail
   go_region_law (refine step_append_src rfl (.tmp 23) (.tmp 25) 23 rfl 30 m0 (.agg #[.slice none 0 0, .int .i64 0]) 2 32 Tryz.underlying23 hm0 mz0 mz1 mz2 rfl (by decide) (.slice Au yl pu) yl (timesV tv) ?_ HU.out (.slice (some ⟨w2.heap.size, 0, none⟩) 1 1) 1 [.slice Ar row.length pr, .int .i64 n] ?_ HLIT.out HONE.out ?_ ?_ ?_ ?_; rfl; rfl; (focus (unfold maxLen; omega)); omega; (focus (have h1 := HWS.out; simp; omega)); intro v7 w7 hO7 hg7 ha7; obtain ⟨A7, p7, rfl⟩ := hO7.len; obtain ⟨s7, f7⟩ := HSA.out.slot h hpvl (by rw [HEU.out]; exact hg7))
   all_goals
    have hgr := HSA.out.grew h hpvl hsll (by rw [HEU.out]; exact hg7) (u' := .slice A7 (yl + 1) p7) (rv := .slice Ar row.length pr) (row := row) (c := n) (tv := tv) (by rw [HEU.out]; simpa using ha7) (by rw [HY.out]; exact hO7) HRM.out HX0.out
    have hbx7 : BoxOf w7 wr.heap.size (.slice Ar row.length pr) n := Own.other HBXA.out hg7 (fun j hj e => by
     have h1 := HOV1.out j e.symm
     simp only [Value.ownBlock, Option.some.injEq] at hj
     omega)
    have hgg := setCells_grown g [Value.slice A7 (yl + 1) p7] (off + h * 3 + 1) w7
    simp only [World.setCells] at hgg
    have hbx8 := Own.other hbx7 hgg (fun j hj e => by
     simp only [Value.ownBlock, Option.some.injEq] at hj e
     have h1 := HGB.out.2
     have h2 := HWR.out
     omega)
    have hb8 := (HBA.out.grown hg7 HBA.out.size (fun j hj => by have h1 := (HU.out.lt j hj).1; have h2 := HGB.out; omega)).setCell (p := ⟨g, off + h * 3 + 1, none⟩) HGB.out.1 (.slice A7 (yl + 1) p7)
    clear s7 f7 hg7 ha7 hO7 hgg hbx7 c1 c11 f1 HSA HBXA HBA HU HLIT z0 z1
    generalize w7.setCell ⟨g, off + h * 3 + 1, none⟩ (.slice A7 (yl + 1) p7) = w8 at *
    rw [← HSN.out] at hgr
    have hp8 : h < (pv.set h (pv[h].1, Value.slice A7 (yl + 1) p7, pv[h].2.2)).length := by rw [List.length_set]; exact hpvl
    generalize pv.set h (pv[h].1, Value.slice A7 (yl + 1) p7, pv[h].2.2) = pv8 at *
    obtain ⟨k0, k1, d2, k2, k3, f2⟩ := hgr.cells h hp8
    clear k0 k1 k2 k3
    have hfl := hgr.flagged h hp8
    have hgg := setCells_grown g [Value.bool true] (off + h * 3 + 2) w8
    simp only [World.setCells] at hgg
    have hbx9 : BoxOf (w8.setCell ⟨g, off + h * 3 + 2, none⟩ (.bool true)) wr.heap.size (.slice Ar row.length pr) n := Own.other hbx8 hgg (fun j hj e => by
     simp only [Value.ownBlock, Option.some.injEq] at hj e
     have h1 := HGB.out.2
     have h2 := HWR.out
     omega)
    have hb9 := hb8.setCell (p := ⟨g, off + h * 3 + 2, none⟩) HGB.out.1 (.bool true)
    clear hgr hbx8 hb8 hgg
    go_wp2_with fail
    generalize w8.setCell ⟨g, off + h * 3 + 2, none⟩ (.bool true) = w9 at *
    generalize pv8.set h (pv8[h].1, pv8[h].2.1, true) = pv9 at *
    clear d2 f2 hp8
    have HFL := Lib.hid hfl
    have HB9 := Lib.hid hb9
    by_cases hh0 : h = 0
    ·have d1 : decide (0 < h) = false := by rw [decide_eq_false_iff_not]; omega
     have e1 : decide ((0 : Int) < (h : Int)) = false := by rw [decide_eq_false_iff_not]; omega
     have hbo : bothX P row = false := by rw [HBX.out, d1, Bool.false_and]
     have HFF := Lib.hid (HF1.out hbo)
     clear hh0 hbo hfl hb9
     refine wp_region_quiet_below (by kernel_rfl) (by kernel_rfl) ?_
     repeat (first | go_big_quiet_skip | (go_big_quiet_want; go_big_quiet_op; go_big_quiet_on))
     refine wpQuiet_nil ?_
     rintro w10 ⟨p, hw10⟩
     have hq10 : Below w9.heap.size w9 w10 := hw10 ▸ below_regrown w9 p.d p.os
     have HFE : Hid (∃ pv, Sharing w0 w w10 (.slice (some ⟨g, off, none⟩) P.length capg) pv P (sharesL P (more.take (k + 1))) (flagsL P a0 (more.take (k + 1)))) := by
      rw [HFF.out]; exact ⟨_, HFL.out.later hq10⟩
     have hbe := HB9.out.trans (hq10.mono HB9.out.size)
     clear hw10 hq10
     go_wp2
     go_roundw
     case rel => exact ⟨k + 1, by omega, by go_num, HFE.out, hbe⟩
     case measure => simp [intOf]; omega
    ·have d1 : decide (0 < h) = true := decide_eq_true (by omega)
     have e1 : decide ((0 : Int) < (h : Int)) = true := decide_eq_true (by omega)
     obtain ⟨d, hd⟩ : ∃ d, d = h - 1 := ⟨_, rfl⟩
     have hph : 0 < (P[h]'hhl).length := HNE.out h hhl (by omega)
     obtain ⟨A', c', ev, _, hat9⟩ := heads_at hfl.heads
     cases ev
     obtain ⟨b', o', eb, hbl9, hc9⟩ := hat9 h hhl
     cases eb
     obtain ⟨rv9, Am, nm, cm, fl9, hT9, y0, y1, y2⟩ := hc9 h hhl
     obtain ⟨tv9, A6, p6, ea6, hro, hat6⟩ := times_at hT9
     subst ea6
     obtain ⟨b6, off6, ea6, hbl6, hc6⟩ := hat6 0 hph
     subst ea6
     obtain ⟨r0, hs0, htv9, u0, u1⟩ := hc6 0 hph
     have hhd : headR P[h] = P[h][0].1 := rowAt_get hph
     rw [← hhd] at hs0
     have hgd : P.getD h [] = P[h] := by rw [List.getD_eq_getElem?_getD, List.getElem?_eq_getElem hhl]; rfl
     have hrow9 : StrsIn w9 (.slice Ar row.length pr) row := StrsIn.kept HX0.out hb9
     have HCMP : Hid (∀ W, Below w9.heap.size w9 W → GivesAt Tryz.prog 57 #[r0, .slice Ar row.length pr] W (.int .i64 (cmpL (headR P[h]) row))) := fun W hW => (compare_calls (StrsIn.kept hs0 hW) (StrsIn.kept hrow9 hW)).gives
     obtain ⟨A0, p0, ea0, hqz⟩ := one_at hs0
     subst ea0
     rw [Nat.zero_mul, Nat.add_zero] at u0
     have HBO : Hid (bothX P row = (cmpL (headR P[h]) row == 0)) := by show _ = _; rw [HBX.out, d1, Bool.true_and, hgd]
     have i2 : (0 : Int) < (P[h].length : Int) := by omega
     obtain ⟨z0, z1, _, _⟩ := hbx9.cells
     have HD : Hid (d = h - 1 ∧ 0 < h ∧ d < P.length) := ⟨hd, by omega, by omega⟩
     have q7 : IntKind.i64.wrap ((h : Int) - 1) = (d : Int) := by rw [IntKind.wrap_i64]; omega
     clear hd hT9 hro hat6 hc6 htv9 hs0 hhd hgd hrow9 hqz hc9 hat9 hfl hb9 hbx9 u1 y1 y2 hh0
     generalize cmpL (headR P[h]) row = cm0 at *
     generalize (headR P[h]).length = hl at *
     generalize P[h].length = phl at *
     have e5 := fun d os => cell_regrown y0 d os
     have e3 := fun d os => cell_regrown u0 d os
     have e0 := fun d os => cell_regrown z0 d os
     have e6 := fun d os => cell_regrown z1 d os
     cases hcm : (cm0 == 0) with
     | false =>
      rw [hcm] at HBO
      have HFF := Lib.hid (HF1.out HBO.out)
      refine wp_region_quiet_below (by kernel_rfl) (by kernel_rfl) ?_
      repeat (first | go_big_quiet_skip | (go_big_quiet_want; go_big_quiet_op; first | go_big_quiet_on | (apply Exists.intro; refine ⟨fun _ => ?_, ?_⟩; (first | (go_at_call 57; exact Calls.regrown_of (HCMP.out _ (below_regrown w9 _ _)))); go_big_quiet_on)))
      refine wpQuiet_nil ?_
      rintro w10 ⟨p, hw10⟩
      have hq10 : Below w9.heap.size w9 w10 := hw10 ▸ below_regrown w9 p.d p.os
      have HF10 := Lib.hid (HFL.out.later hq10)
      have hb10 := HB9.out.trans (hq10.mono HB9.out.size)
      clear hw10 hq10 e5 e3 e0 e6 y0 u0 z0 z1 HCMP
      have HFE : Hid (∃ pv, Sharing w0 w w10 (.slice (some ⟨g, off, none⟩) P.length capg) pv P (sharesL P (more.take (k + 1))) (flagsL P a0 (more.take (k + 1)))) := by
       rw [HFF.out]; exact ⟨_, HF10.out⟩
      go_wp2
      go_roundw
      case rel => exact ⟨k + 1, by omega, by go_num, HFE.out, hb10⟩
      case measure => simp [intOf]; omega
     | true =>
      rw [hcm] at HBO
      have HFF := Lib.hid (HF2.out HBO.out)
      refine wp_region_quiet_below (by kernel_rfl) (by kernel_rfl) ?_
      repeat (first | go_big_quiet_skip | (go_big_quiet_want; go_big_quiet_op; first | go_big_quiet_on | (apply Exists.intro; refine ⟨fun _ => ?_, ?_⟩; (first | (go_at_call 57; exact Calls.regrown_of (HCMP.out _ (below_regrown w9 _ _)))); go_big_quiet_on)))
      refine wpQuiet_nil ?_
      rintro w10 ⟨p, hw10⟩
      have hq10 : Below w9.heap.size w9 w10 := hw10 ▸ below_regrown w9 p.d p.os
      have HF10 := Lib.hid (HFL.out.later hq10)
      have hb10 := HB9.out.trans (hq10.mono HB9.out.size)
      clear hw10 hq10 e5 e3 e0 e6 y0 u0 z0 z1 HCMP
      have hdl : d < pv9.length := by rw [HF10.out.l1]; exact HD.out.2.2
      obtain ⟨k0, k1, d2, k2, k3, f2⟩ := HF10.out.cells d hdl
      clear k0 k1 k2 k3
      have HFE : Hid (∃ pv, Sharing w0 w (w10.setCell ⟨g, off + d * 3 + 2, none⟩ (.bool true)) (.slice (some ⟨g, off, none⟩) P.length capg) pv P (sharesL P (more.take (k + 1))) (flagsL P a0 (more.take (k + 1)))) := by
       rw [HFF.out, ← HD.out.1]; exact ⟨_, HF10.out.flagged d hdl⟩
      have hbe := hb10.setCell (p := ⟨g, off + d * 3 + 2, none⟩) HGB.out.1 (.bool true)
      have j0 : (0 : Int) ≤ (d : Int) := by omega
      have j1 : (d : Int) < (P.length : Int) := by have := HD.out.2.2; omega
      clear hb10
      go_wp2
      go_roundw
      case rel => exact ⟨k + 1, by omega, by go_num, HFE.out, hbe⟩
      case measure => simp [intOf]; omega
  ·obtain rfl : k = more.length := by omega
   rw [List.take_length] at hS
   have HSE := Lib.hid hS
   clear hS
   go_wp2
   go_end0
   exact ⟨rfl, ⟨_, HSE.out⟩, hb⟩
def anewAt (L : List PartT) (i : Nat) : Prop := ∃ h : i < L.length, L[i].2.2 = true
def stillAt (L : List PartT) (i : Nat) : Prop := ∀ h : i < L.length, L[i].2.2 = false
def StretchEnd (w : World) (L : List PartT) (i : Nat) (e : Ending) (w' : World) : Prop :=
 w = w' ∧ ∃ z : Nat, e = .returned (.int .i64 z) ∧ i ≤ z ∧ z ≤ L.length ∧ (anewAt L i → i < z) ∧ stillAt L z
set_option maxHeartbeats 1000000 in
theorem cut_stretch_calls {w : World} {v : Value} {L : List PartT} (hv : PartsIn w v L) (i : Nat) (hi : i ≤ L.length) (hl : L.length ≤ 1000000) : Calls Tryz.prog 59 #[v, .int .i64 i] w (StretchEnd w L i) := by
 obtain ⟨A, cap, rfl, hle, hat⟩ := parts_at hv
 have HAT := Lib.hid hat
 clear hv hat hle
 unfold StretchEnd
 go_enter Tryz.func59, Tryz.ntmps59
 go_wp2
 go_loop [1] (fun x => ∃ k : Nat, i ≤ k ∧ k ≤ L.length ∧ x = .int .i64 k ∧ Hid (k = i ∨ i < k)) (fun x => L.length - (intOf x).toNat)
 case atStart => exact ⟨i, Nat.le_refl _, hi, rfl, .inl rfl⟩
 case round =>
  obtain ⟨k, hik, hk, rfl, HI⟩ := hrel
  by_cases hlt : k < L.length
  ·obtain ⟨b, off, rfl, hbl, hc⟩ := HAT.out k hlt
   obtain ⟨rv, mv, _, _, c0, c1, c2⟩ := hc k hlt
   have d1 : decide ((k : Int) < (L.length : Int)) = true := decide_eq_true (by omega)
   have i0 : (0 : Int) ≤ (k : Int) := by omega
   have i1 : (k : Int) < (L.length : Int) := by omega
   have HE : Hid (L[k].2.2 = false → (anewAt L i → i < k) ∧ stillAt L k) := fun hf => ⟨fun ⟨h2, h3⟩ => by
    by_cases e : i = k
    ·subst e; rw [hf] at h3; exact absurd h3 (by decide)
    ·omega, fun _ => hf⟩
   clear hc c0 c1
   cases hf : L[k].2.2 with
   | true =>
    rw [hf] at c2
    clear HE hf
    go_wp2
    go_round
    case rel => exact ⟨k + 1, by omega, by omega, by go_num, .inr (by omega)⟩
    case measure => simp [intOf]; omega
   | false =>
    rw [hf] at c2
    have HE1 := Lib.hid (HE.out hf)
    clear HE hf
    go_wp2
    go_ret
    exact ⟨rfl, k, rfl, hik, hk, HE1.out.1, HE1.out.2⟩
  ·obtain rfl : k = L.length := by omega
   have d1 : decide ((L.length : Int) < (L.length : Int)) = false := by rw [decide_eq_false_iff_not]; omega
   go_wp2
   go_ret
   exact ⟨rfl, L.length, rfl, hik, hk, fun h => h.1, fun h => absurd h (by omega)⟩
def contsL (L : List PartT) (k : Nat) : List Tm := (L.take k).flatMap contT
theorem contsL_next (L : List PartT) (k : Nat) (h : k < L.length) : contsL L (k + 1) = contsL L k ++ (L[k].1 ++ L[k].2.1) := by
 unfold contsL
 rw [take_add L k h, List.flatMap_append, List.flatMap_cons, List.flatMap_nil, List.append_nil]; rfl
theorem contsL_all (L : List PartT) : contsL L L.length = L.flatMap contT := by unfold contsL; rw [List.take_length]
theorem contsL_le (L : List PartT) : ∀ k, k ≤ L.length → (contsL L k).length ≤ (L.flatMap contT).length := by
 intro k _
 have e : L.flatMap contT = contsL L k ++ (L.drop k).flatMap contT := by
  unfold contsL
  rw [← List.flatMap_append, List.take_append_drop]
 rw [e, List.length_append]; omega
set_option maxHeartbeats 4000000 in
set_option maxRecDepth 100000 in
theorem cut_together_calls {w : World} {v : Value} {L : List PartT} (hv : PartsIn w v L) (hl : (L.flatMap contT).length ≤ 4096) (hw : wtW (L.flatMap contT) ≤ 4611686018427387904) (hS : ShortR (L.flatMap contT)) (hLl : L.length ≤ 1000000) : GivesTimes Tryz.prog 60 #[v] w (ofW (L.flatMap contT)) := by
 obtain ⟨m0, hm, mz0, mz1, mz2⟩ := info_parts Tryz.infoCb30
 obtain ⟨hb, hB⟩ := start w
 obtain ⟨A, cap, rfl, _, hat⟩ := parts_at hv
 have HAT := Lib.hid hat
 have HLE : Hid (∀ k (h : k < L.length), (contsL L k).length + (L[k].1.length + L[k].2.1.length) ≤ 4096) := fun k h => by
  have h1 := contsL_le L (k + 1) h
  rw [contsL_next L k h, List.length_append, List.length_append] at h1
  omega
 have HWT := Lib.hid hw
 have HSS := Lib.hid hS
 clear hv hat hw hS
 unfold GivesTimes
 go_enter Tryz.func60, Tryz.ntmps60
 go_wp2
 go_loopw [3, 5, 8] (fun x _ i wr => ∃ k : Nat, k ≤ L.length ∧ i = .int .i64 k ∧ (∃ tv, TimesOwn wr w.heap.size x tv (contsL L k)) ∧ Below w.heap.size w wr) (fun _ _ i _ => L.length - (intOf i).toNat)
 case atStart => exact ⟨0, Nat.zero_le _, rfl, ⟨[], TimesOwn.nil_ _ _⟩, hb⟩
 case round =>
  clear hb hB
  obtain ⟨k, hk, rfl, ⟨tv, hT⟩, hb⟩ := hrel
  have hB := hb.size
  by_cases hlt : k < L.length
  ·obtain ⟨b, off, rfl, hbl, hc⟩ := HAT.out k hlt
   obtain ⟨rv, mv, hrT, hmT, c0, c1, c2⟩ := hc k hlt
   have x0 := (hb.cell (p := ⟨b, off + k * 3, none⟩) hbl).trans c0
   have x1 := (hb.cell (p := ⟨b, off + k * 3 + 1, none⟩) hbl).trans c1
   have x2 := (hb.cell (p := ⟨b, off + k * 3 + 2, none⟩) hbl).trans c2
   have HN := Lib.hid (contsL_next L k hlt)
   have hlen := HLE.out k hlt
   obtain ⟨tv1, hs1, hr1⟩ := hrT
   obtain ⟨tv2, hs2, hr2⟩ := hmT
   have HO1 : Hid (∀ v, (∀ j, v.ownBlock = some j → w.heap.size ≤ j) → RowsOff v tv1) := fun v hv t ht => by
    obtain ⟨y, _, hy, _⟩ := hr1.mem t ht
    exact RowOff.below hy (Nat.le_refl _) hv
   have HO2 : Hid (∀ v, (∀ j, v.ownBlock = some j → w.heap.size ≤ j) → RowsOff v tv2) := fun v hv t ht => by
    obtain ⟨y, _, hy, _⟩ := hr2.mem t ht
    exact RowOff.below hy (Nat.le_refl _) hv
   have HS1 := Lib.hid hs1
   have HS2 := Lib.hid hs2
   have HR1 := Lib.hid hr1
   have HR2 := Lib.hid hr2
   obtain ⟨A1, p1, ea1, _⟩ := hs1.at_
   obtain ⟨A2, p2, ea2, _⟩ := hs2.at_
   subst ea1
   subst ea2
   obtain ⟨A9, p9, rfl⟩ := hT.slice
   have HXV : Hid (∀ j, (Value.slice A9 (contsL L k).length p9).ownBlock = some j → j < wr.heap.size) := fun j hj => (hT.own.lt j hj).2
   have HT0 := Lib.hid hT
   clear c0 c1 c2 hs1 hs2 hr1 hr2 hT hc
   generalize contsL L k = a at *
   generalize L[k] = pt at *
   obtain ⟨q1, q2, fl⟩ := pt
   dsimp only at *
   have hq0 : Below wr.heap.size wr (wr.alloc (.cells #[.slice A1 q1.length p1, .slice A2 q2.length p2, .bool fl] 69)) := Below.alloc (.refl _ _) (Nat.le_refl _) _
   have HT1 := Lib.hid (HT0.out.later hq0)
   have HB1 := Lib.hid (hb.trans (hq0.mono hB))
   have HZ1 : Hid ((wr.alloc (.cells #[.slice A1 q1.length p1, .slice A2 q2.length p2, .bool fl] 69)).cell? ⟨wr.heap.size, 1, none⟩ = some (.slice A2 q2.length p2)) := World.cell?_alloc_new _ _ _ _
   clear HT0 hq0
   generalize hal : a.length = al at *
   generalize hq1 : q1.length = n1 at *
   generalize hq2 : q2.length = n2 at *
   have HAL := Lib.hid hal
   have HN1 := Lib.hid hq1
   have HN2 := Lib.hid hq2
   have HOW : Hid (Own (wr.alloc (.cells #[.slice A1 n1 p1, .slice A2 n2 p2, .bool fl] 69)) w.heap.size 2 (.slice A9 al p9) al (timesV tv)) := hal ▸ HT1.out.own
   have HSL1 := Lib.hid (SliceOf.later HS1.out HB1.out)
   clear hal hq1 hq2
   go_wp2_with (at_builtin; refine wpList_append_src rfl (.tmp 12) (.tmp 14) 23 rfl 30 m0 (.agg #[.slice none 0 0, .int .i64 0]) 2 32 Tryz.underlying23 hm mz0 mz1 mz2 rfl (by decide) (B := w.heap.size) (.slice A9 al p9) al (timesV tv) rfl HOW.out _ n1 (timesV tv1) rfl HSL1.out (RowsOf.one_cell HR1.out) (by unfold maxLen; omega) (by omega) HB1.out.size ?_)
   intro v7 w7 hO7 hg7 ha7
   have hT7 := HT1.out.adds (HR1.out.kept HB1.out) (HO1.out _ (fun j hj => (HOW.out.lt j hj).1)) hg7 (by simpa using ha7) (by rw [HAL.out, HN1.out]; exact hO7)
   have hb7 := HB1.out.grown hg7 HB1.out.size (fun q hq => (HOW.out.lt q hq).1)
   have z7 := cell_beside hg7 HZ1.out (fun e => by have := HXV.out _ e; omega)
   obtain ⟨A7, p7, rfl⟩ := hO7.len
   have HO7 := Lib.hid hO7
   have HT7 := Lib.hid hT7
   have HB7 := Lib.hid hb7
   have HSL2 := Lib.hid (SliceOf.later HS2.out hb7)
   clear hO7 hg7 ha7 hT7 hb7 HOW HT1 x0 x1 x2 hb hB HZ1
   go_wp2_with (at_builtin; refine wpList_append_src rfl (.tmp 16) (.tmp 18) 23 rfl 30 m0 (.agg #[.slice none 0 0, .int .i64 0]) 2 32 Tryz.underlying23 hm mz0 mz1 mz2 rfl (by decide) (B := w.heap.size) (.slice A7 (al + n1) p7) (al + n1) (timesV tv ++ timesV tv1) rfl HO7.out _ n2 (timesV tv2) rfl HSL2.out (RowsOf.one_cell HR2.out) (by unfold maxLen; omega) (by omega) HB7.out.size ?_)
   intro v8 w8 hO8 hg8 ha8
   have HT8 : Hid (∃ tv, TimesOwn w8 w.heap.size v8 tv (contsL L (k + 1))) := by
    refine ⟨(tv ++ tv1) ++ tv2, ?_⟩
    rw [HN.out, ← List.append_assoc]
    exact HT7.out.adds (HR2.out.kept HB7.out) (HO2.out _ (fun j hj => (HO7.out.lt j hj).1)) hg8 ha8 (by rw [List.length_append, HAL.out, HN1.out, HN2.out, timesV_append]; first | exact hO8 | (rw [List.append_assoc]; exact hO8))
   have hbn := HB7.out.grown hg8 HB7.out.size (fun q hq => (HO7.out.lt q hq).1)
   clear hO8 hg8 ha8 HT7 HO7 HB7 z7
   go_wp2
   go_roundw
   case rel => exact ⟨k + 1, by omega, by go_num, HT8.out, hbn⟩
   case measure => simp [intOf]; omega
  ·obtain rfl : k = L.length := by omega
   rw [contsL_all] at hT
   have HOF := Lib.hid (weigh_of_calls hT.times (by omega) HWT.out HSS.out)
   obtain ⟨A9, p9, rfl⟩ := hT.slice
   clear hT
   generalize (L.flatMap contT).length = fl at *
   go_wp2_with fail
   refine HOF.out.stepB (w0 := w) (B := w.heap.size) hb hB ?_
   intro v5 w5 hT5 hb5 _ _
   obtain ⟨A5, p5, ea5⟩ := times_slice hT5
   generalize hz : ofW (L.flatMap contT) = z at hT5 ea5
   have HZ := Lib.hid hz
   have HT5 := Lib.hid hT5
   subst ea5
   clear hT5 hb hB HOF hz
   go_wp2
   go_ret
   exact ⟨_, rfl, by rw [HZ.out]; exact HT5.out, hb5⟩
def CopiedEnd (w : World) (b : Blk) (e : Ending) (w' : World) : Prop :=
 ∃ A p, e = .returned (.agg #[.int .i64 b.1, .slice A b.2.1.length p, .string b.2.2]) ∧ StrsIn w' (.slice A b.2.1.length p) b.2.1 ∧ Fresh w.heap.size (.slice A b.2.1.length p) ∧ Below w.heap.size w w'
set_option maxHeartbeats 1000000 in
theorem cut_copied_calls {w : World} {cv : Value} {b : Blk} (h : StrsIn w cv b.2.1) (hl : b.2.1.length ≤ 1000000) : Calls Tryz.prog 58 #[.agg #[.int .i64 b.1, cv, .string b.2.2]] w (CopiedEnd w b) := by
 obtain ⟨n, c, s⟩ := b
 dsimp only at *
 obtain ⟨Ac, pc, ea, _⟩ := one_at h
 subst ea
 have q : ∀ (w : World) (o : Obj), Below w.heap.size w (w.alloc o) := fun w o => Below.alloc (.refl _ _) (Nat.le_refl _) o
 have hx := (bbox_lit w 50 n (.slice Ac c.length pc) s).later (q _ (.cells #[.int .i64 0, .slice none 0 0, .string ⟨#[]⟩] 50))
 have hz := bbox_lit (w.alloc (.cells #[.int .i64 n, .slice Ac c.length pc, .string s] 50)) 50 0 (.slice none 0 0) ⟨#[]⟩
 have hsz : (w.alloc (.cells #[.int .i64 n, .slice Ac c.length pc, .string s] 50)).heap.size = w.heap.size + 1 := by simp
 rw [hsz] at hz
 have hb2 : Below w.heap.size w ((w.alloc (.cells #[.int .i64 n, .slice Ac c.length pc, .string s] 50)).alloc (.cells #[.int .i64 0, .slice none 0 0, .string ⟨#[]⟩] 50)) := (q _ _).trans ((q _ _).mono (by simp))
 have hsz2 : ((w.alloc (.cells #[.int .i64 n, .slice Ac c.length pc, .string s] 50)).alloc (.cells #[.int .i64 0, .slice none 0 0, .string ⟨#[]⟩] 50)).heap.size = w.heap.size + 2 := by simp
 have hs2 := StrsIn.kept h hb2
 clear h hsz q
 unfold CopiedEnd
 go_enter Tryz.func58, Tryz.ntmps58
 obtain ⟨x0, x1, x2, _⟩ := hx.cells
 go_wp2_with fail
 generalize (w.alloc (.cells #[.int .i64 n, .slice Ac c.length pc, .string s] 50)).alloc (.cells #[.int .i64 0, .slice none 0 0, .string ⟨#[]⟩] 50) = w2 at *
 clear x0 x1 x2
 refine (show GivesOwnRow Tryz.prog 31 #[.slice Ac c.length pc] w2 c from clone_row_calls hs2 hl).mono ?_
 rintro e w3 ⟨A5, p5, rfl, hs5, hf5, hq⟩
 have hx3 := hx.later hq
 have hz3 := hz.later hq
 have hb3 := hb2.trans (hq.mono hb2.size)
 have hx4 := hx3.put1 (.slice A5 c.length p5)
 have hg4 := setCells_grown w.heap.size [Value.slice A5 c.length p5] 1 w3
 simp only [World.setCells] at hg4
 have hz4 := hz3.other hg4 (by simp)
 have hs4 : StrsIn (w3.setCell ⟨w.heap.size, 1, none⟩ (.slice A5 c.length p5)) (.slice A5 c.length p5) c := SliceOf.fresh hs5 hf5 hg4 (by omega)
 have hb4 := hb3.setCell (p := ⟨w.heap.size, 1, none⟩) (Nat.le_refl _) (.slice A5 c.length p5)
 obtain ⟨_, x1, _, _, f1, _, _⟩ := hx3.cells
 obtain ⟨y0, y1, y2, _⟩ := hx4.cells
 obtain ⟨u0, u1, u2, g0, g1, g2, _⟩ := hz4.cells
 have HF5 : Hid (Fresh (w.heap.size + 2) (.slice A5 c.length p5)) := by have := hf5; rwa [hsz2] at this
 have hz5 := hz4.putAll n (.slice A5 c.length p5) s
 have hg5 := setCells_grown (w.heap.size + 1) [Value.int .i64 n, .slice A5 c.length p5, .string s] 0 (w3.setCell ⟨w.heap.size, 1, none⟩ (.slice A5 c.length p5))
 simp only [World.setCells, Nat.zero_add, Nat.reduceAdd] at hg5
 have HS5 := Lib.hid (SliceOf.fresh hs4 HF5.out hg5 (by omega))
 have hb5 := ((hb4.setCell (p := ⟨w.heap.size + 1, 0, none⟩) (Nat.le_succ _) (.int .i64 n)).setCell (p := ⟨w.heap.size + 1, 1, none⟩) (Nat.le_succ _) (.slice A5 c.length p5)).setCell (p := ⟨w.heap.size + 1, 2, none⟩) (Nat.le_succ _) (.string s)
 clear hx hz hb2 hs2 hs5 hf5 hq hx3 hz3 hb3 hg4 hs4 hb4 hg5 hz4 hx4
 go_wp2
 obtain ⟨v0, v1, v2, _⟩ := hz5.cells
 refine ⟨rfl, .agg #[.int .i64 n, .slice A5 c.length p5, .string s], ?_, A5, p5, rfl, HS5.out, HF5.out.mono (by omega), hb5⟩
 simp [results, Tryz.results58, go_sem, v0, v1, v2]
theorem oldTo_le (L : List PartT) (hL : (L.flatMap contT).length ≤ 1000000) : ∀ k, k ≤ L.length → oldTo L k ≤ 1000000 := by
 have h : ∀ k, k ≤ L.length → oldTo L k ≤ (contsL L k).length := by
  intro k
  induction k with
  | zero => intro _; exact Nat.zero_le _
  | succ k ih =>
   intro hk
   rw [oldTo_next L k (by omega), contsL_next L k (by omega), List.length_append, List.length_append]
   have := ih (by omega)
   split <;> omega
 intro k hk
 have := h k hk
 have := contsL_le L k hk
 omega
set_option maxHeartbeats 1000000 in
theorem cut_old_calls {w : World} {v : Value} {L : List PartT} (hv : PartsIn w v L) (hl : (L.flatMap contT).length ≤ 1000000) (hLl : L.length ≤ 1000000) : GivesAt Tryz.prog 39 #[v] w (.int .i64 (oldTo L L.length)) := by
 obtain ⟨hb, hB⟩ := start w
 obtain ⟨A, cap, rfl, _, hat⟩ := parts_at hv
 have HAT := Lib.hid hat
 have HOL := Lib.hid (oldTo_le L hl)
 clear hv hat hl
 unfold GivesAt
 go_enter Tryz.func39, Tryz.ntmps39
 go_wp2
 go_loopw [3, 5, 8] (fun x _ i wr => ∃ k : Nat, k ≤ L.length ∧ i = .int .i64 k ∧ x = .int .i64 (oldTo L k) ∧ Below w.heap.size w wr) (fun _ _ i _ => L.length - (intOf i).toNat)
 case atStart => exact ⟨0, Nat.zero_le _, rfl, rfl, hb⟩
 case round =>
  clear hb hB
  obtain ⟨k, hk, rfl, rfl, hb⟩ := hrel
  have hB := hb.size
  by_cases hlt : k < L.length
  ·obtain ⟨b, off, rfl, hbl, hc⟩ := HAT.out k hlt
   obtain ⟨rv, mv, hrT, hmT, c0, c1, c2⟩ := hc k hlt
   have x0 := (hb.cell (p := ⟨b, off + k * 3, none⟩) hbl).trans c0
   have x1 := (hb.cell (p := ⟨b, off + k * 3 + 1, none⟩) hbl).trans c1
   have x2 := (hb.cell (p := ⟨b, off + k * 3 + 2, none⟩) hbl).trans c2
   have HNX := Lib.hid (oldTo_next L k hlt)
   have h1 := HOL.out k hk
   have h2 := HOL.out (k + 1) hlt
   rw [HNX.out] at h2
   obtain ⟨A1, p1, ea1⟩ := times_slice hrT
   obtain ⟨A2, p2, ea2⟩ := times_slice hmT
   subst ea1
   subst ea2
   clear c0 c1 c2 hrT hmT hc
   generalize L[k] = pt at *
   obtain ⟨q1, q2, fl⟩ := pt
   dsimp only at *
   have hbn := hb.alloc hB (.cells #[.slice A1 q1.length p1, .slice A2 q2.length p2, .bool fl] 69)
   generalize q1.length = n1 at *
   generalize q2.length = n2 at *
   generalize oldTo L k = m at *
   cases fl with
   | true =>
    rw [if_pos rfl] at HNX h2
    go_wp2
    go_roundw
    case rel => exact ⟨k + 1, by omega, by go_num, by rw [HNX.out]; go_num, hbn⟩
    case measure => simp [intOf]; omega
   | false =>
    rw [if_neg (by decide)] at HNX h2
    go_wp2
    go_roundw
    case rel => exact ⟨k + 1, by omega, by go_num, by rw [HNX.out]; rfl, hbn⟩
    case measure => simp [intOf]; omega
  ·obtain rfl : k = L.length := by omega
   have h1 := HOL.out L.length (Nat.le_refl _)
   go_wp2
   go_ret
   exact ⟨rfl, hb⟩
theorem parts_mid (W : World) (b off n cap i e : Nat) (h : i < e) (he : e ≤ cap) : (Instr.sliceAt 65 (.slice (some ⟨b, off, none⟩) n cap) (some (.int .i64 i)) (some (.int .i64 e)) none).run Tryz.prog W = .ok (.slice (some ⟨b, off + i * 3, none⟩) (e - i) (cap - i)) W := by
 have hu : Tryz.prog.underlying 65 = some (.slice (Tryz.prog.elem 65)) := by kernel_rfl
 have hel : Tryz.prog.elem 65 = 69 := by kernel_rfl
 rw [run_sliceAt_slice _ _ _ _ _ _ hu, run_slice_lh _ _ _ _ _ hu _ _ _ _ (by omega) (by omega) (by omega), hel, Tryz.sizeOf69]
 have e1 : ((e : Nat) : Int).toNat = e := by omega
 have e2 : ¬ cap = i := by omega
 simp [Result.andThen, sliced, e2, Addr.add]
def WriteEnd (w : World) (S : List Tm) (K : Nat) (e : Ending) (w' : World) : Prop :=
 ∃ v, e = .returned (.tuple #[v, .bool (wholeW S)]) ∧ (wholeW S = true → BlksIn w' v (blksL (cutL S) K)) ∧ Below w.heap.size w w'
theorem write_no {w w' : World} {S : List Tm} {K : Nat} (h : wholeW S = false) (hb : Below w.heap.size w w') : WriteEnd w S K (.returned (.tuple #[.slice none 0 0, .bool false])) w' :=
 ⟨_, by rw [h], fun h2 => absurd (h.symm.trans h2) (by decide), hb⟩
theorem write_yes {w w' : World} {S : List Tm} {K : Nat} {v : Value} (h : wholeW S = true) (hv : BlksIn w' v (blksL (cutL S) K)) (hb : Below w.heap.size w w') : WriteEnd w S K (.returned (.tuple #[v, .bool true])) w' :=
 ⟨v, by rw [h], fun _ => hv, hb⟩
section
variable {L : List PartT} {P : List (List Tm)} {S : List Tm}
theorem okAt_still {k : Nat} (h : k < L.length) (hs : L[k].2.2 = false) : okAt L (k + 1) := .inr fun _ => .inr hs
theorem okAt_stop {z : Nat} (h : stillAt L z) : okAt L z := .inr fun h2 => .inl (h h2)
theorem Parted.cutAt (h : Parted L P S) {i e : Nat} (hi : i < e) (he : e ≤ L.length) (ho : okAt L i) : cutL (ofW (segL L 0 e)) = cutL (ofW (segL L 0 i)) ++ cutL (ofW (segL L i e)) :=
 h.cut hi he (ho.imp id fun f => f (by omega))
theorem Parted.wholeAt (h : Parted L P S) {i e : Nat} (hi : i ≤ e) (he : e ≤ L.length) : wholeW (ofW (segL L 0 e)) = (wholeW (ofW (segL L 0 i)) && wholeW (ofW (segL L i e))) := by rw [h.glue hi he, whole_glue]
end
set_option maxHeartbeats 4000000 in
set_option maxRecDepth 100000 in
theorem cut_write_calls {w : World} {vl vp : Value} {L : List PartT} {P : List (List Tm)} {S : List Tm} {K : Nat} (hvl : BlksIn w vl (blksL P K)) (hvp : PartsIn w vp L) (hW : Writing L P S K) :
  Calls Tryz.prog 38 #[vl, vp, .int .i64 K] w (WriteEnd w S K) := by
 obtain ⟨b0, hi, bz0, bz1, bz2⟩ := info_parts Tryz.infoCc50
 obtain ⟨hb, hB⟩ := start w
 obtain ⟨A1, p1, rfl, hat1⟩ := blksL_at hvl
 obtain ⟨A2, p2, rfl, hle2, hat2⟩ := parts_at hvp
 have HAT1 := Lib.hid hat1
 have HAT2 := Lib.hid hat2
 have HVP := Lib.hid hvp
 have HW := Lib.hid hW
 have hfew := hW.few
 have HLE2 := Lib.hid hle2
 clear hvl hvp hat1 hat2 hW hle2
 go_enter Tryz.func38, Tryz.ntmps38
 go_wp2
 go_loopw [8, 9] (fun x i wr => ∃ k : Nat, k ≤ L.length ∧ i = .int .i64 k ∧ (∃ tv, BlksOwn wr w.heap.size x tv ∧ Hid (tv.map Prod.snd = blksL (cutL (ofW (segL L 0 k))) K)) ∧ Hid (wholeW (ofW (segL L 0 k)) = true) ∧ Hid (okAt L k) ∧ Below w.heap.size w wr) (fun _ i _ => L.length - (intOf i).toNat)
 case atStart => exact ⟨0, Nat.zero_le _, rfl, ⟨[], BlksOwn.nil_ _ _, by show _ = _; rw [segL_none]; rfl⟩, by show _ = _; rw [segL_none]; rfl, .inl rfl, hb⟩
 case round =>
  clear hb hB
  obtain ⟨k, hk, rfl, ⟨tv, hO, HE⟩, HWH, HOK, hb⟩ := hrel
  have hB := hb.size
  have hlen : tv.length = (cutL (ofW (segL L 0 k))).length := by
   have := congrArg List.length HE.out
   rw [List.length_map] at this
   rw [this]; unfold blksL; rw [List.length_map]
  by_cases hlt : k < L.length
  ·obtain ⟨b2, off2, rfl, hbl2, hc2⟩ := HAT2.out k hlt
   obtain ⟨rv2, mv2, _, _, _, _, c2⟩ := hc2 k hlt
   have x2 := (hb.cell (p := ⟨b2, off2 + k * 3 + 2, none⟩) hbl2).trans c2
   have i0 : (0 : Int) ≤ (k : Int) := by omega
   have i1 : (k : Int) < (L.length : Int) := by omega
   have HOWN := Lib.hid hO
   have HTL : Hid (tv.length ≤ 4096) := by
    have := HW.out.nowLen (Nat.zero_le k) hk
    have h2 := HW.out.nowLen (Nat.le_refl k) hk
    show _ ≤ _
    omega
   obtain ⟨A9, p9, rfl⟩ := hO.own.len
   cases hf : L[k].2.2 with
   | false =>
    rw [hf] at x2
    obtain ⟨hkp, hn1, hn2⟩ := HW.out.parted.next hlt hf
    obtain ⟨b, off, rfl, hbl, rv, hrs, c0, c1, c2'⟩ := HAT1.out k hkp
    have y0 := (hb.cell (p := ⟨b, off + k * 3, none⟩) hbl).trans c0
    have y1 := (hb.cell (p := ⟨b, off + k * 3 + 1, none⟩) hbl).trans c1
    have y2 := (hb.cell (p := ⟨b, off + k * 3 + 2, none⟩) hbl).trans c2'
    have HNX : Hid (blksL (cutL (ofW (segL L 0 (k + 1)))) K = blksL (cutL (ofW (segL L 0 k))) K ++ [blockOf P[k] K]) := by show _ = _; rw [hn1, blksL_append]; rfl
    have HWN : Hid (wholeW (ofW (segL L 0 (k + 1))) = true) := hn2.trans HWH.out
    have HOKN : Hid (okAt L (k + 1)) := okAt_still hlt hf
    have HCP := Lib.hid (cut_copied_calls (b := blockOf P[k] K) (StrsIn.kept hrs hb) (by rw [show (blockOf P[k] K).2.1 = colsT P[k] K from rfl, colsT_length]; exact HW.out.wide))
    have i2 : (k : Int) < (P.length : Int) := by omega
    obtain ⟨Ar, pr, ear, hone⟩ := one_at hrs
    subst ear
    clear c0 c1 c2 c2' hrs hone hc2 hn1 hn2 hf hO hlen
    unfold CopiedEnd at HCP
    rw [blockOf_eq] at HCP HNX
    dsimp only at HCP HNX
    generalize P[k].length = pl at *
    generalize shelfB (P[k].map Prod.snd) = sb at *
    generalize colsT P[k] K = cs at *
    have i3 : (k : Int) < (P.length : Int) := i2
    go_wp2_with fail
    refine HCP.out.mono ?_
    rintro e w3 ⟨Ac, pc, rfl, hcs, hfr, hq⟩
    have hO3 := HOWN.out.later hq
    have hb3 := hb.trans (hq.mono hB)
    have hqa : Below w3.heap.size w3 (w3.alloc (.cells #[.int .i64 pl, .slice Ac cs.length pc, .string sb] 50)) := Below.alloc (.refl _ _) (Nat.le_refl _) _
    have HO4 := Lib.hid (hO3.later hqa)
    have HB4 := Lib.hid (hb3.trans (hqa.mono hb3.size))
    have HS4 : Hid (StrsIn (w3.alloc (.cells #[.int .i64 pl, .slice Ac cs.length pc, .string sb] 50)) (.slice Ac cs.length pc) cs) := StrsIn.kept hcs hqa
    have HLIT := Lib.hid (lit_blk w3 50 (.slice Ac cs.length pc, ((pl : Int), cs, sb)))
    have HONE := Lib.hid (one_blk (w := w3) (t := (.slice Ac cs.length pc, ((pl : Int), cs, sb))) hcs)
    have HOFF := Lib.hid (RowOff.of_fresh (v := .slice A9 tv.length p9) hfr (fun j hj => (HOWN.out.own.lt j hj).2))
    clear hcs hfr hq hO3 hb3 hqa HOWN x2 y0 y1 y2 hb hB HCP
    unfold blkC at HLIT HONE
    dsimp only at HLIT HONE
    have HCS : Hid (∃ cl, cl = cs.length) := ⟨_, rfl⟩
    go_wp2_with (at_builtin; refine wpList_append_src rfl (.tmp 22) (.tmp 28) 36 rfl 50 b0 (.agg #[.int .i64 0, .slice none 0 0, .string ⟨#[]⟩]) 3 48 Tryz.underlying36 hi bz0 bz1 bz2 rfl (by decide) (B := w.heap.size) (.slice A9 tv.length p9) tv.length (blksV tv) rfl HO4.out.own (.slice (some ⟨w3.heap.size, 0, none⟩) 1 1) 1 [.int .i64 pl, .slice Ac cs.length pc, .string sb] rfl HLIT.out HONE.out (by unfold maxLen; have := HTL.out; omega) (by have := HTL.out; omega) HB4.out.size ?_)
    intro v7 w7 hO7 hg7 ha7
    have HN := Lib.hid (HO4.out.add (t := (.slice Ac cs.length pc, ((pl : Int), cs, sb))) HS4.out HOFF.out hg7 (by simpa using ha7) hO7)
    have hbn := HB4.out.grown hg7 HB4.out.size (fun q hq => (HO4.out.own.lt q hq).1)
    have HE2 : Hid ((tv ++ [(Value.slice Ac cs.length pc, ((pl : Int), cs, sb))]).map Prod.snd = blksL (cutL (ofW (segL L 0 (k + 1)))) K) := by
     show _ = _
     rw [HNX.out, List.map_append, HE.out]; rfl
    clear hO7 hg7 ha7 HO4 HLIT HONE HOFF HS4 HB4
    go_wp2
    go_roundw
    case rel => exact ⟨k + 1, by omega, by go_num, ⟨_, HN.out, HE2⟩, HWN.out, HOKN.out, hbn⟩
    case measure => simp [intOf]; omega
   | true =>
    rw [hf] at x2
    have HAN : Hid (anewAt L k) := ⟨hlt, hf⟩
    have HST := Lib.hid (cut_stretch_calls (HVP.out.kept hb) k hk (by omega))
    unfold StretchEnd at HST
    clear c2 hc2 hf hO hlen
    go_wp2_with fail
    refine HST.out.mono ?_
    rintro e w3 ⟨rfl, z, rfl, hkz, hz, hza, hzs⟩
    have hkz2 := hza HAN.out
    have HZS := Lib.hid hzs
    have hsm := fun W => parts_mid W b2 off2 L.length p2 k z hkz2 (by have := HLE2.out; omega)
    have hmid := (HVP.out.kept hb).mid hkz hz
    have HTG : Hid (GivesTimes Tryz.prog 60 #[.slice (some ⟨b2, off2 + k * 3, none⟩) (z - k) (p2 - k)] wr (ofW (segL L k z))) := cut_together_calls hmid (by have := HW.out.segLen hkz hz; show (segL L k z).length ≤ 4096; omega) (HW.out.segWt hkz hz) (HW.out.short hkz hz) (by rw [List.length_drop, List.length_take]; omega)
    have HCUT := Lib.hid (HW.out.parted.cutAt hkz2 hz HOK.out)
    have HWA := Lib.hid (HW.out.parted.wholeAt hkz hz)
    rw [HWH.out, Bool.true_and] at HWA
    have HNO := Lib.hid (fun h => HW.out.parted.no hz h)
    have HNL := Lib.hid (HW.out.nowLen hkz hz)
    have HBKS : Hid (∀ (w' : World) v', TimesIn w' v' (ofW (segL L k z)) → Calls Tryz.prog 19 #[v', .int .i64 K] w' (BlocksNew w' (blksL (cutL (ofW (segL L k z))) K))) := fun w' v' h => cut_blocks_new h K (HW.out.ofRows hkz hz) HW.out.wide (by have h1 := HW.out.segLen hkz hz; have h2 := of_length (segL L k z); omega) (HW.out.ofRange hkz hz) (HW.out.short hkz hz).of
    have j0 : (0 : Int) ≤ (z : Int) := by omega
    have j1 : (z : Int) ≤ (p2 : Int) := by have := HLE2.out; omega
    have j2 : (k : Int) ≤ (z : Int) := by omega
    clear HST hza hzs hmid
    generalize segL L k z = sg at *
    go_wp2_with fail
    refine HTG.out.stepB (w0 := wr) (B := wr.heap.size) (.refl _ _) (Nat.le_refl _) ?_
    intro v4 w4 hT4 _ _ hq4
    have HT4 := Lib.hid hT4
    have HWHO := Lib.hid (weigh_whole_calls hT4)
    have HB4 := Lib.hid (hb.trans (hq4.mono hB))
    have HO4 := Lib.hid (HOWN.out.later hq4)
    obtain ⟨A4, p4, ea4⟩ := times_slice hT4
    subst ea4
    clear hT4 hq4 HTG hsm x2 hb hB HOWN
    cases hwh : wholeW (ofW sg) with
    | false =>
     rw [hwh] at HWHO HWA
     have HNO2 := Lib.hid (HNO.out HWA.out)
     clear hwh HNO
     generalize (ofW sg).length = ol at *
     go_wp2_with fail
     refine HWHO.out.stepB (w0 := w4) (B := w4.heap.size) (.refl _ _) (Nat.le_refl _) ?_
     intro w5 _ _ hq5
     have hbe := HB4.out.trans (hq5.mono HB4.out.size)
     clear hq5 HWHO
     go_wp2
     go_ret2
     exact write_no HNO2.out hbe
    | true =>
     rw [hwh] at HWHO HWA
     clear hwh HNO
     generalize (ofW sg).length = ol at *
     go_wp2_with fail
     refine HWHO.out.stepB (w0 := w4) (B := w4.heap.size) (.refl _ _) (Nat.le_refl _) ?_
     intro w5 _ _ hq5
     have HB5 := Lib.hid (HB4.out.trans (hq5.mono HB4.out.size))
     have HO5 := Lib.hid (HO4.out.later hq5)
     have HT5 := Lib.hid (HT4.out.kept hq5)
     have HBK := Lib.hid (HBKS.out _ _ HT5.out)
     clear hq5 HWHO HO4 HT4 HB4 HBKS
     go_wp2_with fail
     refine HBK.out.mono ?_
     rintro e w6 ⟨v6, tv6, rfl, he6, hs6, hc6, hf6, hq6⟩
     have hm6 : (blksL (cutL (ofW sg)) K).length = tv6.length := by rw [← he6, List.length_map]
     rw [hm6] at hs6
     have hl6 : tv.length + tv6.length ≤ 4096 := by
      have h1 := HNL.out
      have h2 : (blksL (cutL (ofW sg)) K).length = (cutL (ofW sg)).length := List.length_map _
      have h3 := congrArg List.length HE.out
      have h4 : (blksL (cutL (ofW (segL L 0 k))) K).length = (cutL (ofW (segL L 0 k))).length := List.length_map _
      rw [List.length_map] at h3
      omega
     have HL6 := Lib.hid hl6
     have HE6 := Lib.hid he6
     have HS6 := Lib.hid hs6
     have HC6 := Lib.hid hc6
     have HOFF : Hid (∀ t ∈ tv6, RowOff (.slice A9 tv.length p9) t.1) := fun t ht => RowOff.of_fresh (hf6 t ht) (fun j hj => (HO5.out.own.lt j hj).2)
     have HO6 := Lib.hid (HO5.out.later hq6)
     have HB6 := Lib.hid (HB5.out.trans (hq6.mono HB5.out.size))
     obtain ⟨A6, p6, ea6, hc66⟩ := hs6.at_
     subst ea6
     clear he6 hs6 hc6 hf6 hq6 hm6 hc66 HBK HO5 HB5 HT5 hl6
     generalize hm6 : tv6.length = m6 at *
     have HM6 := Lib.hid hm6
     clear hm6
     go_wp2_with (at_builtin; refine wpList_append_src rfl (.tmp 43) (.tmp 46) 36 rfl 50 b0 (.agg #[.int .i64 0, .slice none 0 0, .string ⟨#[]⟩]) 3 48 Tryz.underlying36 hi bz0 bz1 bz2 rfl (by decide) (B := w.heap.size) (.slice A9 tv.length p9) tv.length (blksV tv) rfl HO6.out.own (.slice A6 m6 p6) m6 (blksV tv6) rfl HS6.out (one_blks HC6.out) (by unfold maxLen; have := HL6.out; omega) (by have := HL6.out; omega) HB6.out.size ?_)
     intro v7 w7 hO7 hg7 ha7
     have HN := Lib.hid (HO6.out.adds HC6.out HOFF.out hg7 ha7 (by rw [HM6.out]; exact hO7))
     have hbn := HB6.out.grown hg7 HB6.out.size (fun q hq => (HO6.out.own.lt q hq).1)
     have HE2 : Hid ((tv ++ tv6).map Prod.snd = blksL (cutL (ofW (segL L 0 z))) K) := by
      show _ = _
      rw [HCUT.out, blksL_append, List.map_append, HE.out, HE6.out]
     have HOKN := Lib.hid (okAt_stop HZS.out)
     clear hO7 hg7 ha7 HO6 HOFF HB6 HS6 HC6
     go_wp2
     go_roundw
     case rel => exact ⟨z, hz, rfl, ⟨_, HN.out, HE2⟩, HWA.out, HOKN.out, hbn⟩
     case measure => simp [intOf]; omega
  ·obtain rfl : k = L.length := by omega
   have hall := HW.out.parted.all
   rw [hall] at HE HWH
   have HBI := Lib.hid (HE.out ▸ hO.blks)
   clear hO hlen hall
   go_wp2
   go_ret2
   exact write_yes HWH.out HBI.out hb
theorem seg_whole (L : List PartT) : segL L 0 L.length = L.flatMap contT := by unfold segL; rw [List.take_length, List.drop_zero]
theorem changing_writing {Q P : List (List Tm)} {a0 : Bool} {cols : List (Int × Bool)} {more S : List Tm} (hC : Changing P cols more) (hQ : Q.flatten = P.flatten) (h0 : 0 < Q.length) (hl : Q.length ≤ 4097) (hp : Parted (sharedL Q a0 more) P S) : Writing (sharedL Q a0 more) P S cols.length := by
 have hpm := shared_all Q a0 more h0
 rw [hQ] at hpm
 have hlen := hC.len
 refine ⟨hp, ?_, ?_, fun t ht => ?_, by rw [sharedL_length]; exact hl, hC.wide⟩
 ·rw [hpm.length_eq, List.length_append]; exact hlen
 ·rw [wt_perm hpm, wtW_append]; exact hC.wt
 ·have hm := hpm.mem_iff.1 ht
  rcases List.mem_append.1 hm with hm | hm
  ·obtain ⟨h1, h2⟩ := hC.old hm
   exact ⟨h1, right_size h2⟩
  ·obtain ⟨h1, h2⟩ := hC.newer t hm
   exact ⟨h1, right_size h2⟩
theorem shared_parts {w0 ws w : World} {v : Value} {pv : List PartV} {Q : List (List Tm)} {a0 : Bool} {more : List Tm} (h : Sharing w0 ws w v pv Q (sharesL Q more) (flagsL Q a0 more)) (hb : Below w0.heap.size w0 w) : PartsIn w v (sharedL Q a0 more) :=
 h.parts hb (sharedL_length _ _ _) fun j h0 h1 h2 h3 => by rw [sharedL_get, sharesL_get, flagsL_get]
theorem old_first (more : List Tm) : oldTo (sharedL [[]] true more) (sharedL [[]] true more).length = 0 := by
 rw [sharedL_length]
 rfl
set_option maxHeartbeats 4000000 in
set_option maxRecDepth 100000 in
theorem cut_change_calls {w : World} {vb vc vm : Value} {P : List (List Tm)} {cols : List (Int × Bool)} {more : List Tm} (hvb : BlksIn w vb (blksL P cols.length)) (hvc : ColsIn w vc cols) (hvm : TimesIn w vm more) (hC : Changing P cols more) (hcut : cutL P.flatten = P) :
  Calls Tryz.prog 22 #[vb, vc, vm] w (ChangeEnd w P more cols.length) := by
 obtain ⟨hb, hB⟩ := start w
 have hRP : RightP P.flatten := of_decide_eq_true hC.right
 have hml : more.length ≤ 4096 := by have := hC.len; omega
 have HRD := Lib.hid (cut_read_calls hvb hvc hC.good hC.few hC.wide)
 have HVB := Lib.hid hvb
 have HVM := Lib.hid hvm
 have HC := Lib.hid hC
 have HCUT := Lib.hid hcut
 have HRP := Lib.hid hRP
 have hPl := hC.few
 have hcw := hC.wide
 obtain ⟨A1, p1, rfl, ha1⟩ := blksL_at hvb
 obtain ⟨A2, p2, rfl, ha2⟩ := cols_at hvc
 obtain ⟨A3, p3, ea3⟩ := times_slice hvm
 subst ea3
 clear hvb hvc hvm hC hcut hRP ha1 ha2
 go_enter Tryz.func22, Tryz.ntmps22
 go_wp2_with fail
 refine HRD.out.mono ?_
 rintro e w1 ⟨pv, rfl, hO, hpn, hpl, hT, hZ, hq⟩
 replace hb := hb.trans (hq.mono hB)
 clear hq HRD hB
 by_cases hn0 : P.length = 0
 case' pos =>
  have hPn : P = [] := List.eq_nil_of_length_eq_zero hn0
  have d0 : ((P.length : Int) == 0) = true := by rw [beq_iff_eq]; omega
  have hlit := Own.lit (B := w.heap.size) (size := 3) w1 #[.slice none 0 0, .slice none 0 0, .bool true] 69 1 hb.size (by unfold maxLen; omega) rfl
  have hba := hb.alloc hb.size (.cells #[.slice none 0 0, .slice none 0 0, .bool true] 69)
  have hst : Sharing w (w1.alloc (.cells #[.slice none 0 0, .slice none 0 0, .bool true] 69)) (w1.alloc (.cells #[.slice none 0 0, .slice none 0 0, .bool true] 69)) (.slice (some ⟨w1.heap.size, 0, none⟩) 1 1) [(.slice none 0 0, .slice none 0 0, true)] [[]] (List.replicate 1 []) (List.replicate 1 true) :=
   Sharing.start (P := [[]]) hlit (fun O hO => by
    simp only [Value.ownBlock, Option.some.injEq] at hO
    subst hO
    exact Plain.lit _ _ _ (fun u hu => by
     simp only [List.mem_cons, List.not_mem_nil, or_false] at hu
     rcases hu with rfl | rfl | rfl
     ·exact plain_slice _ _ _
     ·exact plain_slice _ _ _
     ·exact plain_bool _)) rfl (fun j h1 h2 => by
    obtain rfl : j = 0 := by simpa using h1
    exact TimesIn.nil_ _ _ _) (fun j h1 => by
    obtain rfl : j = 0 := by simpa using h1
    rfl)
  have HSH := Lib.hid (cut_share_calls hst HVM.out hba (by simp) (by simp) hml (fun j h hj => by simp at h; omega) (fun i j h hj hi => by simp at hj; omega))
  have HWR : Hid (Writing (sharedL [[]] true more) P (sumW P.flatten more) cols.length) := changing_writing HC.out (by rw [hPn]; rfl) (by simp) (by simp) (by rw [hPn]; exact shared_first more)
  have HOLD : Hid (oldTo (sharedL [[]] true more) (sharedL [[]] true more).length + more.length = wroteN P more) := by
   show _ = _
   rw [old_first, hPn]
   rfl
  have HPT : Hid (∀ w' pv, Sharing w (w1.alloc (.cells #[.slice none 0 0, .slice none 0 0, .bool true] 69)) w' (.slice (some ⟨w1.heap.size, 0, none⟩) 1 1) pv [[]] (sharesL [[]] more) (flagsL [[]] true more) → Below w.heap.size w w' → PartsIn w' (.slice (some ⟨w1.heap.size, 0, none⟩) 1 1) (sharedL [[]] true more)) := fun w' pv h h2 => shared_parts h h2
  clear hlit hba hst hO hpn hpl hT hZ hPn hn0 hb
  generalize hL : sharedL [[]] true more = L at *
  go_wp2_with fail
 case' neg =>
  have d0 : ((P.length : Int) == 0) = false := by rw [beq_eq_false_iff_ne]; omega
  have hst := Sharing.start (w0 := w) hO (fun O hO => by
   simp only [Value.ownBlock, Option.some.injEq] at hO
   subst hO
   exact hpn) hpl hT hZ
  have hgood := cutL_good P.flatten
  rw [HCUT.out] at hgood
  have HSH := Lib.hid (cut_share_calls hst HVM.out hb (by omega) (by omega) hml (fun j h hj => List.length_pos_iff.2 (hgood.1 _ (List.getElem_mem h)).1) (fun i j h hj hi => by
   have hord := pieces_order HRP.out (i := i) (j := j) h (by rw [HCUT.out]; exact hj)
   have h1 := piece_head (R := P.flatten) (i := i) (by rw [HCUT.out]; omega)
   have h2 := piece_head (R := P.flatten) (i := j) (by rw [HCUT.out]; exact hj)
   simp only [HCUT.out] at hord h1 h2
   obtain ⟨t, r, e1, eh1⟩ := h1
   obtain ⟨t2, r2, e2, eh2⟩ := h2
   rw [eh1, eh2]
   exact hord t (by rw [e1]; simp) t2 (by rw [e2]; simp)))
  have HWR : Hid (Writing (sharedL P false more) P (sumW P.flatten more) cols.length) := changing_writing HC.out rfl (by omega) (by omega) (by
   have := shared_parted (cols := cols) HRP.out (by rw [HCUT.out]; omega) (by rw [HCUT.out]; exact HC.out.good) more
   rw [HCUT.out] at this
   exact this)
  have HOLD : Hid (oldTo (sharedL P false more) (sharedL P false more).length + more.length = wroteN P more) := by
   show _ = _
   rw [sharedL_length, old_shared P more P.length (Nat.le_refl _)]
   rfl
  have HPT : Hid (∀ w' pv, Sharing w w1 w' (.slice (some ⟨w.heap.size, 0, none⟩) P.length P.length) pv P (sharesL P more) (flagsL P false more) → Below w.heap.size w w' → PartsIn w' (.slice (some ⟨w.heap.size, 0, none⟩) P.length P.length) (sharedL P false more)) := fun w' pv h h2 => shared_parts h h2
  clear hst hO hpn hpl hT hZ hn0 hb hgood
  generalize hL : sharedL P false more = L at *
  go_wp2_with fail
 all_goals
  refine HSH.out.mono ?_
  rintro e w2 ⟨rfl, ⟨pv2, hs2⟩, hb2⟩
  have HP2 := Lib.hid (HPT.out _ _ hs2 hb2)
  have HWC := Lib.hid (cut_write_calls (HVB.out.kept hb2) HP2.out HWR.out)
  have HB2 := Lib.hid hb2
  have HOK : Hid (okC P more = wholeW (sumW P.flatten more)) := rfl
  clear hs2 hb2 HSH HPT hL
  go_wp2_with fail
  refine HWC.out.mono ?_
  rintro e w3 ⟨v3, rfl, hv3, hq3⟩
  have HB3 := Lib.hid (HB2.out.trans (hq3.mono HB2.out.size))
  have HP3 := Lib.hid (HP2.out.kept hq3)
  have HV3 := Lib.hid hv3
  clear hv3 hq3 HWC
  cases hwh : wholeW (sumW P.flatten more) with
  | false =>
   rw [hwh] at HOK
   have HVE := Lib.hid (HVB.out.kept HB3.out)
   clear hwh HV3
   go_wp2
   go_ret3
   exact change_no HOK.out HVE.out HB3.out
  | true =>
   rw [hwh] at HOK
   have HV4 := Lib.hid (HV3.out hwh)
   have hll := HWR.out.len
   have hfw := HWR.out.few
   rw [seg_whole] at hll
   have HOC := Lib.hid (cut_old_calls HP3.out (by omega) (by omega))
   have hol := oldTo_le L (by omega) L.length (Nat.le_refl _)
   have HQ : Hid ((more.length : Int) + ((oldTo L L.length : Nat) : Int) = ((wroteN P more : Nat) : Int)) := by
    have := HOLD.out
    show _ = _
    omega
   clear hwh HV3 HWR hll hfw HOLD
   generalize oldTo L L.length = ol at *
   go_wp2_with fail
   refine HOC.out.stepB (w0 := w3) (B := w3.heap.size) (.refl _ _) (Nat.le_refl _) ?_
   intro w5 _ _ hq5
   have hbe := HB3.out.trans (hq5.mono HB3.out.size)
   have HV5 := Lib.hid (HV4.out.kept hq5)
   clear hq5 HOC
   go_wp2
   go_ret3
   have hce := change_yes HOK.out HV5.out hbe
   rw [← HQ.out] at hce
   exact hce
end Go.Proofs.YtkgjbldlegcajaaGreat
