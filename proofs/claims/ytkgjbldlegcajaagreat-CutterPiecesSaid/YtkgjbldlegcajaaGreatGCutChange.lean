/- The contract of the answer's Change of layer 13. -/
import Derived.Test.YtkgjbldlegcajaaGreatGStrs
import Derived.Test.YtkgjbldlegcajaaGreatGWeighRef
import Derived.Test.YtkgjbldlegcajaaGreatGCutBlocks
import Derived.Deep.RegionHeld3
import Derived.Handy
namespace Go.Proofs.YtkgjbldlegcajaaGreat
open Go Go.RowKit
def bothX (P : List (List Tm)) (r : List ByteArray) : Bool := decide (0 < homeN P r) && (cmpL (headR (P.getD (homeN P r) [])) r == 0)
def touchX (P : List (List Tm)) (r : List ByteArray) (i : Nat) : Bool := decide (i = homeN P r) || (bothX P r && decide (i = homeN P r - 1))
def touchB (P : List (List Tm)) (more : List Tm) (i : Nat) : Bool := more.any fun x => touchX P x.1 i
def touchL (P : List (List Tm)) (more : List Tm) : List Bool := (List.range P.length).map (touchB P more)
theorem touchL_length (P : List (List Tm)) (more : List Tm) : (touchL P more).length = P.length := by unfold touchL; rw [List.length_map, List.length_range]
theorem touchL_get (P : List (List Tm)) (more : List Tm) (i : Nat) (h : i < (touchL P more).length) : (touchL P more)[i] = touchB P more i := by simp [touchL]
theorem touchL_none (P : List (List Tm)) : touchL P [] = List.replicate P.length false := by
 refine List.ext_getElem (by rw [touchL_length, List.length_replicate]) fun i h1 h2 => ?_
 rw [touchL_get, List.getElem_replicate]; rfl
theorem touchB_snoc (P : List (List Tm)) (more : List Tm) (x : Tm) (i : Nat) : touchB P (more ++ [x]) i = (touchB P more i || touchX P x.1 i) := by
 unfold touchB
 rw [List.any_append, List.any_cons, List.any_nil, Bool.or_false]
theorem touchL_one (P : List (List Tm)) (more : List Tm) (x : Tm) (h : bothX P x.1 = false) : touchL P (more ++ [x]) = (touchL P more).set (homeN P x.1) true := by
 refine List.ext_getElem (by rw [touchL_length, List.length_set, touchL_length]) fun i h1 h2 => ?_
 rw [touchL_get, touchB_snoc, List.getElem_set]
 unfold touchX
 rw [h, Bool.false_and, Bool.or_false]
 split
 ·rename_i e
  rw [decide_eq_true e.symm, Bool.or_true]
 ·rename_i e
  rw [decide_eq_false (fun e2 => e e2.symm), Bool.or_false, touchL_get]
theorem touchL_two (P : List (List Tm)) (more : List Tm) (x : Tm) (h : bothX P x.1 = true) : touchL P (more ++ [x]) = ((touchL P more).set (homeN P x.1) true).set (homeN P x.1 - 1) true := by
 refine List.ext_getElem (by rw [touchL_length, List.length_set, List.length_set, touchL_length]) fun i h1 h2 => ?_
 rw [touchL_get, touchB_snoc, List.getElem_set]
 unfold touchX
 rw [h, Bool.true_and]
 split
 ·rename_i e
  rw [decide_eq_true e.symm, Bool.or_true, Bool.or_true]
 ·rename_i e
  rw [decide_eq_false (show ¬ i = homeN P x.1 - 1 from fun e2 => e e2.symm), Bool.or_false, List.getElem_set]
  split
  ·rename_i e2
   rw [decide_eq_true e2.symm, Bool.or_true]
  ·rename_i e2
   rw [decide_eq_false (show ¬ i = homeN P x.1 from fun e3 => e2 e3.symm), Bool.or_false, touchL_get]
def wroteTo (P : List (List Tm)) (more : List Tm) (k : Nat) : Nat := ((List.range k).map fun i => if touchB P more i = true then (P.getD i []).length else 0).sum
theorem wroteTo_next (P : List (List Tm)) (more : List Tm) (k : Nat) (h : k < P.length) : wroteTo P more (k + 1) = wroteTo P more k + (if touchB P more k = true then P[k].length else 0) := by
 unfold wroteTo
 rw [List.range_succ, List.map_append, List.sum_append, List.map_cons, List.map_nil, List.sum_cons, List.sum_nil, Nat.add_zero, List.getD_eq_getElem?_getD, List.getElem?_eq_getElem h, Option.getD_some]
theorem wroteTo_le (P : List (List Tm)) (more : List Tm) : ∀ k, k ≤ P.length → wroteTo P more k ≤ (P.take k).flatten.length
 | 0, _ => Nat.zero_le _
 | k + 1, h => by
  have ih := wroteTo_le P more k (by omega)
  rw [wroteTo_next P more k (by omega), take_flatten P k (by omega), List.length_append]
  split <;> omega
def wroteN (P : List (List Tm)) (more : List Tm) : Nat := wroteTo P more P.length + more.length
def okC (P : List (List Tm)) (more : List Tm) : Bool := wholeW (sumW P.flatten more)
def changeP (P : List (List Tm)) (more : List Tm) : List (List Tm) := if okC P more = true then cutL (sumW P.flatten more) else P
def changeN (P : List (List Tm)) (more : List Tm) : Nat := if okC P more = true then wroteN P more else 0
def changeC (P : List (List Tm)) (more : List Tm) : Int := if okC P more = true then 0 else 6
def ChangeEnd (w : World) (P : List (List Tm)) (more : List Tm) (K : Nat) (e : Ending) (w' : World) : Prop :=
 ∃ v, e = .returned (.tuple #[v, .int .i64 (changeN P more), .int .i64 (changeC P more)]) ∧ BlksIn w' v (blksL (changeP P more) K) ∧ Below w.heap.size w w'
theorem Tryz.infoCd4 : (Tryz.prog.info? 4).map (fun i => (i.zero, i.size, i.bytes)) = some (some (.bool false), 1, 1) := by kernel_rfl
theorem mem_sum {a b : List Tm} {x : Tm} (h : x ∈ sumW a b) : (∃ u ∈ a, u.1 = x.1) ∨ ∃ u ∈ b, u.1 = x.1 := by
 rw [sum_of_append] at h
 obtain ⟨u, hu, e⟩ := mem_of h
 rcases List.mem_append.1 hu with hu | hu
 ·exact .inl ⟨u, hu, e⟩
 ·exact .inr ⟨u, hu, e⟩
structure Changing (P : List (List Tm)) (cols : List (Int × Bool)) (more : List Tm) : Prop where
 good : ∀ p ∈ P, GoodP p cols
 right : rightW P.flatten = true
 newer : ∀ t ∈ more, t.1.length = cols.length ∧ ∀ c ∈ t.1, rightB c = true
 len : P.flatten.length + more.length ≤ 4096
 wt : wtW P.flatten + wtW more ≤ 4611686018427387904
 few : P.length ≤ 4096
 wide : cols.length ≤ 1000000
section
variable {P : List (List Tm)} {cols : List (Int × Bool)} {more : List Tm}
theorem Changing.old (h : Changing P cols more) {t : Tm} (ht : t ∈ P.flatten) : t.1.length = cols.length ∧ ∀ c ∈ t.1, rightB c = true := by
 obtain ⟨p, hp, ht⟩ := List.mem_flatten.1 ht
 exact (h.good p hp).2.1 t ht
theorem Changing.sum (h : Changing P cols more) {t : Tm} (ht : t ∈ sumW P.flatten more) : t.1.length = cols.length ∧ ∀ c ∈ t.1, rightB c = true := by
 rcases mem_sum ht with ⟨u, hu, e⟩ | ⟨u, hu, e⟩
 ·rw [← e]; exact h.old hu
 ·rw [← e]; exact h.newer u hu
theorem Changing.range (h : Changing P cols more) : InR ((sumW P.flatten more).map Prod.snd) := fun n hn => by
 obtain ⟨t, ht, rfl⟩ := List.mem_map.1 hn
 have h1 := wt_mem ht
 have h2 := wt_sum P.flatten more
 have h3 := h.wt
 constructor <;> omega
end
theorem change_no {w w' : World} {P : List (List Tm)} {more : List Tm} {K : Nat} {v : Value} (h : okC P more = false) (hv : BlksIn w' v (blksL P K)) (hb : Below w.heap.size w w') : ChangeEnd w P more K (.returned (.tuple #[v, .int .i64 0, .int .i64 6])) w' := by
 refine ⟨v, ?_, ?_, hb⟩
 ·unfold changeN changeC
  rw [h]; rfl
 ·unfold changeP
  rw [h]; exact hv
theorem change_yes {w w' : World} {P : List (List Tm)} {more : List Tm} {K : Nat} {v : Value} (h : okC P more = true) (hv : BlksIn w' v (blksL (cutL (sumW P.flatten more)) K)) (hb : Below w.heap.size w w') : ChangeEnd w P more K (.returned (.tuple #[v, .int .i64 (wroteN P more), .int .i64 0])) w' := by
 refine ⟨v, ?_, ?_, hb⟩
 ·unfold changeN changeC
  rw [h]; rfl
 ·unfold changeP
  rw [if_pos h]; exact hv
set_option maxHeartbeats 8000000 in
set_option maxRecDepth 100000 in
theorem ref_change_calls {w : World} {vb vc vm : Value} {P : List (List Tm)} {cols : List (Int × Bool)} {more : List Tm} (hvb : BlksIn w vb (blksL P cols.length)) (hvc : ColsIn w vc cols) (hvm : TimesIn w vm more) (hC : Changing P cols more) :
  Calls Tryz.prog 23 #[vb, vc, vm] w (ChangeEnd w P more cols.length) := by
 obtain ⟨i0, hi, iz0, iz1, iz2⟩ := info_parts Tryz.infoCd4
 obtain ⟨hb, hB⟩ := start w
 have hPl := hC.few
 have hMl := hC.len
 have hcK := hC.wide
 have HCH := Lib.hid hC
 obtain ⟨A1, p1, rfl, hat1⟩ := blksL_at hvb
 obtain ⟨nP, hnP⟩ : ∃ nP, P.length = nP := ⟨_, rfl⟩
 rw [hnP] at hvb hPl ⊢
 have HNP := Lib.hid hnP
 have HHOME : Hid (∀ w' vr r, Below w.heap.size w w' → StrsIn w' vr r → GivesAt Tryz.prog 40 #[.slice A1 nP p1, vc, vr] w' (.int .i64 (homeN P r))) := fun w' vr r hq hr => ref_home_calls (hvb.kept hq) (hvc.kept hq) hr hC.good (by omega) hcK
 have HFIRST : Hid (∀ w' k rv (hk : k < P.length), Below w.heap.size w w' → StrsIn w' rv (colsT P[k] cols.length) → GivesStrs Tryz.prog 42 #[.agg #[.int .i64 P[k].length, rv, .string (shelfB (P[k].map Prod.snd))], vc] w' (headR P[k])) := fun w' k rv hk hq hr =>
  ref_firstrow_calls hr (hvc.kept hq) (hC.good P[k] (List.getElem_mem hk)) hcK
 have HALL : Hid (∀ w', Below w.heap.size w w' → Calls Tryz.prog 25 #[.slice A1 nP p1, vc] w' (AllEnd w' P)) := fun w' hq => ref_all_calls (hvb.kept hq) (hvc.kept hq) hC.good (by omega) (by omega) hcK
 have HVB := Lib.hid hvb
 obtain ⟨A2, p2, rfl, hone2⟩ := cols_at hvc
 obtain ⟨tvm, A3, p3, rfl, hone3, hat3⟩ := times_at hvm
 have HAT1 := Lib.hid hat1
 have HAT3 := Lib.hid hat3
 have HVM := Lib.hid hvm
 clear hvb hvc hvm hC hat1 hat3 hone2 hone3 hnP
 go_enter Tryz.func23, Tryz.ntmps23
 go_wp2_with (at_make; refine wpList_make_full _ rfl _ _ 74 rfl w.heap.size 4 i0 (.bool false) 1 Tryz.underlying74 hi iz0 iz1 .i64 .i64 _ _ nP rfl rfl rfl rfl (by rw [iz2]; omega) (by unfold maxLen; omega) hB ?_)
 intro w1 hrow hg1
 rw [toList_madeCells_one] at hrow
 have hO : Own w1 w.heap.size 1 (.slice (some ⟨w.heap.size, 0, none⟩) nP nP) nP ((touchL P (more.take 0)).map Value.bool) := by
  rw [List.take_zero, touchL_none, List.map_replicate, HNP.out]
  exact Own.of_row (B := w.heap.size) hrow (by unfold maxLen; omega) (Nat.le_refl _)
 have hb1 : Below w.heap.size w w1 := hb.grown hg1 hB (fun k hk => by cases hk)
 clear hrow hg1 hb hB
 go_wp2_with fail
 go_loopw [10] (fun i wr => ∃ k : Nat, k ≤ more.length ∧ i = .int .i64 k ∧ Own wr w.heap.size 1 (.slice (some ⟨w.heap.size, 0, none⟩) nP nP) nP ((touchL P (more.take k)).map Value.bool) ∧ Below w.heap.size w wr) (fun i _ => more.length - (intOf i).toNat)
 case atStart => exact ⟨0, Nat.zero_le _, rfl, hO, hb1⟩
 case round =>
  clear hO hb1
  obtain ⟨k, hk, rfl, hO, hb⟩ := hrel
  have hB := hb.size
  by_cases hlt : k < more.length
  ·obtain ⟨b, off, rfl, hbl, hc⟩ := HAT3.out k hlt
   obtain ⟨rv, hrs, htv, c1, c2⟩ := hc k hlt
   have HMT := Lib.hid (take_add more k hlt)
   have HC1 := Lib.hid c1
   have HRS := Lib.hid hrs
   obtain ⟨Ar, pr, rfl, hone⟩ := one_at hrs
   have x1 := (hb.cell (p := ⟨b, off + k * 2, none⟩) hbl).trans c1
   have i0' : (0 : Int) ≤ (k : Int) := by omega
   have i1 : (k : Int) < (more.length : Int) := by omega
   clear hc htv c1 c2 hone hrs
   generalize more[k] = t at *
   obtain ⟨row, n⟩ := t
   dsimp only at *
   by_cases h0 : nP = 0
   ·have HT0 : Hid (touchL P (more.take (k + 1)) = touchL P (more.take k)) := by
     show _ = _
     refine List.ext_getElem (by rw [touchL_length, touchL_length]) fun i h1 h2 => ?_
     rw [touchL_length, HNP.out] at h1
     omega
    have g0 : decide (0 < nP) = false := by rw [decide_eq_false_iff_not]; omega
    clear h0
    go_wp2
    go_roundw
    case rel => exact ⟨k + 1, by omega, by go_num, by rw [HT0.out]; exact hO, hb⟩
    case measure => simp [intOf]; omega
   ·have g0 : decide (0 < nP) = true := by rw [decide_eq_true_eq]; omega
    have hh : homeN P row < nP := by have := homeTo_lt P row P.length (by have := HNP.out; omega); have e := HNP.out; unfold homeN; omega
    have HHM := Lib.hid (HHOME.out wr _ row hb (StrsIn.kept HRS.out hb))
    have HONE : Hid (bothX P row = false → touchL P (more.take (k + 1)) = (touchL P (more.take k)).set (homeN P row) true) := fun h => by rw [HMT.out]; exact touchL_one P _ (row, n) h
    have HTWO : Hid (bothX P row = true → touchL P (more.take (k + 1)) = ((touchL P (more.take k)).set (homeN P row) true).set (homeN P row - 1) true) := fun h => by rw [HMT.out]; exact touchL_two P _ (row, n) h
    have HBX : Hid (bothX P row = (decide (0 < homeN P row) && (cmpL (headR (P.getD (homeN P row) [])) row == 0))) := rfl
    have HTL : Hid ((touchL P (more.take k)).length = nP) := (touchL_length _ _).trans HNP.out
    generalize homeN P row = h at *
    generalize hbx : bothX P row = bx at *
    generalize touchL P (more.take k) = T at *
    clear hbx h0
    go_wp2_with fail
    refine HHM.out.stepB (w0 := wr) (B := wr.heap.size) (.refl _ _) (Nat.le_refl _) ?_
    intro w2 g1 g2 hq2
    have hO2 := hO.later hq2
    have hb2 := hb.trans (hq2.mono hB)
    have hTh : (T.map Value.bool)[h]? = some (.bool (T[h]'(by rw [HTL.out]; exact hh))) := by rw [List.getElem?_map, List.getElem?_eq_getElem (by rw [HTL.out]; exact hh)]; rfl
    obtain ⟨_, hgl, _, hcc, hrr⟩ := Own.parts hO2
    have z0 := hcc h _ hTh
    have z1 := (hrr h (by omega)).2
    rw [Nat.zero_add] at z0 z1
    have hO3 := hO2.stored h (by omega) (.bool true)
    rw [Nat.zero_add, ← List.map_set] at hO3
    have hb3 := hb2.setCell (p := ⟨w.heap.size, h, none⟩) (Nat.le_refl _) (.bool true)
    have HO3 := Lib.hid hO3
    have i2 : (h : Int) < (nP : Int) := by omega
    have i3 : (0 : Int) ≤ (h : Int) := by omega
    clear hO hb hB g1 g2 hq2 hO2 hb2 hTh hcc hrr hO3 x1 HHM hgl
    go_wp2_with fail
    clear z0 z1
    generalize w2.setCell ⟨w.heap.size, h, none⟩ (.bool true) = wq at *
    have hB3 := hb3.size
    by_cases hh0 : h = 0
    case' pos =>
     have g2 : decide (0 < h) = false := by rw [decide_eq_false_iff_not]; omega
     have HX : Hid (bx = false) := HBX.out.trans (by rw [g2, Bool.false_and])
     clear hh0
     refine wp_region_quiet_below (by kernel_rfl) (by kernel_rfl) ?_
     repeat (first | go_big_quiet_skip | (go_big_quiet_want; go_big_quiet_op; go_big_quiet_on))
     refine wpQuiet_nil ?_
     rintro w6 ⟨p6, hw6⟩
     have hq6 : Below wq.heap.size wq w6 := hw6 ▸ below_regrown wq p6.d p6.os
     have HB6 := Lib.hid (hb3.trans (hq6.mono hB3))
     have HO6 : Hid (Own w6 w.heap.size 1 (.slice (some ⟨w.heap.size, 0, none⟩) nP nP) nP ((touchL P (more.take (k + 1))).map Value.bool)) := by
      show Own _ _ _ _ _ _
      rw [HONE.out HX.out]; exact HO3.out.later hq6
     clear hw6 hq6 hb3 hB3
     go_wp2
     go_roundw
     case rel => exact ⟨k + 1, by omega, by go_num, HO6.out, HB6.out⟩
     case measure => simp [intOf]; omega
    case' neg =>
     have g2 : decide (0 < h) = true := by rw [decide_eq_true_eq]; omega
     have HPOS : Hid (0 < h) := by show 0 < h; omega
     have hhP : h < P.length := by rw [HNP.out]; exact hh
     obtain ⟨b1, off1, rfl, hbl1, rv1, hrs1, d0, d1, d2⟩ := HAT1.out h hhP
     have y0 := (hb3.cell (p := ⟨b1, off1 + h * 3, none⟩) hbl1).trans d0
     have y1 := (hb3.cell (p := ⟨b1, off1 + h * 3 + 1, none⟩) hbl1).trans d1
     have y2 := (hb3.cell (p := ⟨b1, off1 + h * 3 + 2, none⟩) hbl1).trans d2
     have y3 := (hb3.cell (p := ⟨b, off + k * 2, none⟩) hbl).trans HC1.out
     have HF1 : Hid (∀ w', Below wq.heap.size wq w' → GivesStrs Tryz.prog 42 #[.agg #[.int .i64 P[h].length, rv1, .string (shelfB (P[h].map Prod.snd))], .slice A2 cols.length p2] w' (headR P[h])) := fun w' hq => HFIRST.out w' h rv1 hhP (hb3.trans (hq.mono hB3)) (StrsIn.kept hrs1 (hb3.trans (hq.mono hB3)))
     have HCM : Hid (∀ w' v3, Below wq.heap.size wq w' → StrsIn w' v3 (headR P[h]) → GivesAt Tryz.prog 41 #[v3, .slice Ar row.length pr] w' (.int .i64 (cmpL (headR P[h]) row))) := fun w' v3 hq h3 => ref_compare_calls h3 (StrsIn.kept HRS.out (hb3.trans (hq.mono hB3)))
     have HX : Hid (bx = (cmpL (headR P[h]) row == 0)) := HBX.out.trans (by rw [g2, Bool.true_and, List.getD_eq_getElem?_getD, List.getElem?_eq_getElem hhP, Option.getD_some])
     obtain ⟨Ar1, pr1, rfl, hone1⟩ := one_at hrs1
     clear d0 d1 d2 hrs1 hone1
     generalize (colsT P[h] cols.length).length = rl at *
     generalize shelfB (P[h].map Prod.snd) = s at *
     generalize P[h] = p at *
     generalize cmpL (headR p) row = cm at *
     generalize headR p = hr at *
     have hb0 := Below.refl wq.heap.size wq
     have HQ0 := Lib.hid (Below.drew (.refl wq.heap.size wq))
     have HE2 : Hid (∀ w', Below wq.heap.size wq w' → w'.cell? ⟨b1, off1 + h * 3, none⟩ = some (.int .i64 p.length) ∧ w'.cell? ⟨b1, off1 + h * 3 + 1, none⟩ = some (.slice Ar1 rl pr1) ∧ w'.cell? ⟨b1, off1 + h * 3 + 2, none⟩ = some (.string s) ∧ w'.cell? ⟨b, off + k * 2, none⟩ = some (.slice Ar row.length pr) ∧ Hid (Below wq.heap.size wq w')) :=
      fun w' h => ⟨cell_kept y0 h, cell_kept y1 h, cell_kept y2 h, cell_kept y3 h, h⟩
     clear HBX hh0
     go_region_held3 (fun w' => w'.cell? ⟨b1, off1 + h * 3, none⟩ = some (.int .i64 p.length) ∧ w'.cell? ⟨b1, off1 + h * 3 + 1, none⟩ = some (.slice Ar1 rl pr1) ∧ w'.cell? ⟨b1, off1 + h * 3 + 2, none⟩ = some (.string s) ∧ w'.cell? ⟨b, off + k * 2, none⟩ = some (.slice Ar row.length pr) ∧ Hid (Below wq.heap.size wq w'))
      (first | exact HE2.out _ hb0 | exact HE2.out _ hb0.drew)
      (first
      | (go_at_call 42; refine (HF1.out _ HQ0.out).mono ?_; rintro e w5 ⟨v5, rfl, h5, hq5⟩; have H5 := Lib.hid h5; have HQ5 := Lib.hid (HQ0.out.trans hq5); clear hb0; have hb0 := HQ5.out)
      | (go_at_call 41; refine (HCM.out _ _ HQ5.out H5.out).mono ?_; rintro e w6 ⟨rfl, hq6⟩; clear hb0; have hb0 := HQ5.out.trans (hq6.mono HQ5.out.size)))
     all_goals
      have hq := HQ5.out.trans (hq6.mono HQ5.out.size)
      have HB6 := Lib.hid (hb3.trans (hq.mono hB3))
      have HO6 := Lib.hid (HO3.out.later hq)
      clear hq hq6 hb0 h5 hq5 HE2 HF1 HCM HQ5 H5 HQ0 y0 y1 y2 y3 hb3 hB3 HO3
      cases hcm : (cm == 0)
      ·have HO7 : Hid (Own w6 w.heap.size 1 (.slice (some ⟨w.heap.size, 0, none⟩) nP nP) nP ((touchL P (more.take (k + 1))).map Value.bool)) := by
        show Own _ _ _ _ _ _
        rw [HONE.out (HX.out.trans hcm)]; exact HO6.out
       go_wp2
       go_roundw
       case rel => exact ⟨k + 1, by omega, by go_num, HO7.out, HB6.out⟩
       case measure => simp [intOf]; omega
      ·have hpos := HPOS.out
       have hh1 : h - 1 < nP := by omega
       have hTh : ((T.set h true).map Value.bool)[h - 1]? = some (.bool ((T.set h true)[h - 1]'(by rw [List.length_set, HTL.out]; exact hh1))) := by rw [List.getElem?_map, List.getElem?_eq_getElem (by rw [List.length_set, HTL.out]; exact hh1)]; rfl
       obtain ⟨_, _, _, hcc, hrr⟩ := Own.parts HO6.out
       have z0 := hcc (h - 1) _ hTh
       have z1 := (hrr (h - 1) (by omega)).2
       rw [Nat.zero_add] at z0 z1
       have hO7 := HO6.out.stored (h - 1) (by omega) (.bool true)
       rw [Nat.zero_add, ← List.map_set] at hO7
       have HO7 : Hid (Own (w6.setCell ⟨w.heap.size, h - 1, none⟩ (.bool true)) w.heap.size 1 (.slice (some ⟨w.heap.size, 0, none⟩) nP nP) nP ((touchL P (more.take (k + 1))).map Value.bool)) := by
        show Own _ _ _ _ _ _
        rw [HTWO.out (HX.out.trans hcm)]; exact hO7
       have hb7 := HB6.out.setCell (p := ⟨w.heap.size, h - 1, none⟩) (Nat.le_refl _) (.bool true)
       have q1 : IntKind.i64.wrap ((h : Int) - 1) = ((h - 1 : Nat) : Int) := by rw [IntKind.wrap_i64]; omega
       have q2 : (0 : Int) ≤ ((h - 1 : Nat) : Int) := by omega
       have q3 : ((h - 1 : Nat) : Int) < (nP : Int) := by omega
       have q4 : (((h - 1 : Nat) : Int)).toNat = h - 1 := by omega
       clear hTh hcc hrr hO7 HO6 HB6 hpos
       go_wp2
       go_roundw
       case rel => exact ⟨k + 1, by omega, by go_num, HO7.out, hb7⟩
       case measure => simp [intOf]; omega
  ·obtain rfl : k = more.length := by omega
   rw [List.take_length] at hO
   have HO := Lib.hid hO
   have HB := Lib.hid hb
   clear hO hb hB
   go_wp2_with fail
   refine (HALL.out wr HB.out).mono ?_
   rintro e w4 ⟨v4, he, hT4, hq4⟩
   rw [HCH.out.right] at he hT4
   rw [if_pos rfl] at he hT4
   subst he
   have HB4 := Lib.hid (HB.out.trans (hq4.mono HB.out.size))
   have HO4 := Lib.hid (HO.out.later hq4)
   have HSUM := Lib.hid (ref_weigh_sum_calls hT4 (HVM.out.kept HB4.out) (by omega) HCH.out.wt)
   obtain ⟨tv4, A4, p4, rfl, hx1, hx2⟩ := times_at hT4
   clear hT4 hq4 HO HB hx1 hx2
   have hMl2 : P.flatten.length ≤ 4096 := by omega
   have HML := Lib.hid hMl
   have HML2 := Lib.hid hMl2
   clear hMl hMl2
   generalize hfl : P.flatten.length = fl at HSUM ⊢
   clear hfl
   go_wp2_with fail
   refine HSUM.out.stepB (w0 := w4) (B := w4.heap.size) (.refl _ _) (Nat.le_refl _) ?_
   intro v5 w5 hT5 g1 g2 hq5
   have HB5 := Lib.hid (HB4.out.trans (hq5.mono HB4.out.size))
   have HO5 := Lib.hid (HO4.out.later hq5)
   have HW := Lib.hid (ref_weigh_whole_calls hT5)
   have HT5 := Lib.hid hT5
   have HWO : Hid (wholeW (sumW P.flatten more) = okC P more) := rfl
   have HSL : Hid ((sumW P.flatten more).length ≤ 4096) := by have := sum_length P.flatten more; have := HML.out; show _ ≤ _; omega
   obtain ⟨tv5, A5, p5, rfl, hx1, hx2⟩ := times_at hT5
   clear hx1 hx2 hT5 hq5 g1 g2 HB4 HO4 HSUM
   generalize (sumW P.flatten more).length = sl at *
   cases hok : wholeW (sumW P.flatten more) with
   | false =>
    rw [hok] at HW HWO
    have HOK := Lib.hid HWO.out.symm
    clear hok HWO
    go_wp2_with fail
    refine HW.out.stepB (w0 := w5) (B := w5.heap.size) (.refl _ _) (Nat.le_refl _) ?_
    intro w6 g1 g2 hq6
    have hb6 := HB5.out.trans (hq6.mono HB5.out.size)
    have HVB6 := Lib.hid (HVB.out.kept hb6)
    clear hq6 g1 g2
    go_wp2
    go_ret3
    exact change_no HOK.out HVB6.out hb6
   | true =>
    rw [hok] at HW HWO
    have HOK := Lib.hid HWO.out.symm
    clear hok HWO
    go_wp2_with fail
    refine HW.out.stepB (w0 := w5) (B := w5.heap.size) (.refl _ _) (Nat.le_refl _) ?_
    intro w6 g1 g2 hq6
    have HB6 := Lib.hid (HB5.out.trans (hq6.mono HB5.out.size))
    have HO6 := Lib.hid (HO5.out.later hq6)
    have HT6 := Lib.hid (HT5.out.kept hq6)
    clear hq6 g1 g2 HB5 HO5 HT5 HW
    go_wp2_with fail
    go_loop [15, 16] (fun n i => ∃ k : Nat, k ≤ nP ∧ i = .int .i64 k ∧ n = .int .i64 (wroteTo P more k)) (fun _ i => nP - (intOf i).toNat)
    case atStart => exact ⟨0, Nat.zero_le _, rfl, rfl⟩
    case round =>
     obtain ⟨k, hk, rfl, rfl⟩ := hrel
     by_cases hlt : k < nP
     ·have hkP : k < P.length := by rw [HNP.out]; exact hlt
      obtain ⟨b1, off1, rfl, hbl1, rv1, hrs1, d0, d1, d2⟩ := HAT1.out k hkP
      have y0 := (HB6.out.cell (p := ⟨b1, off1 + k * 3, none⟩) hbl1).trans d0
      obtain ⟨_, _, _, hcc, hrr⟩ := Own.parts HO6.out
      have z0 := hcc k (.bool (touchB P more k)) (by rw [List.getElem?_map, List.getElem?_eq_getElem (by rw [touchL_length, HNP.out]; exact hlt), touchL_get]; rfl)
      rw [Nat.zero_add] at z0
      have HNX := Lib.hid (wroteTo_next P more k hkP)
      have hle := wroteTo_le P more (k + 1) (by omega)
      have hfl : ((P.take (k + 1)).flatten).length ≤ P.flatten.length := by
       have := congrArg List.length (List.take_append_drop (k + 1) P)
       have e2 := congrArg List.flatten (List.take_append_drop (k + 1) P)
       have e3 := congrArg List.length e2
       rw [List.flatten_append, List.length_append] at e3
       omega
      have hml := HML.out
      clear d0 d1 d2 hrs1 hcc hrr
      have hnx := HNX.out
      generalize hnxe : wroteTo P more (k + 1) = nx at *
      have HNXE := Lib.hid hnxe
      clear hnxe
      generalize wroteTo P more k = nn at *
      generalize P[k].length = pl at *
      have i2 : (k : Int) < (nP : Int) := by omega
      cases htb : touchB P more k
      ·rw [htb] at z0 hnx HNX
       rw [if_neg (by decide)] at hnx
       have HE : Hid (wroteTo P more (k + 1) = nn) := HNXE.out.trans hnx
       clear hnx htb
       go_wp2
       go_round
       case rel => exact ⟨k + 1, by omega, by go_num, by rw [HE.out]⟩
       case measure => simp [intOf]; omega
      ·rw [htb] at z0 hnx HNX
       rw [if_pos rfl] at hnx
       have HE : Hid (wroteTo P more (k + 1) = nn + pl) := HNXE.out.trans hnx
       have q1 : IntKind.i64.wrap ((nn : Int) + (pl : Int)) = ((nn + pl : Nat) : Int) := by rw [IntKind.wrap_i64]; omega
       clear hnx htb
       go_wp2
       go_round
       case rel => exact ⟨k + 1, by omega, by go_num, by rw [HE.out, Int.natCast_add]⟩
       case measure => simp [intOf]; omega
     ·obtain rfl : k = nP := by omega
      have HBLK := Lib.hid (ref_blocks_calls HT6.out cols.length (fun t ht => by
       obtain ⟨e, hr⟩ := HCH.out.sum ht
       exact ⟨by omega, fun c hc => Nat.le_trans (rightB_size (hr c hc)) (by decide)⟩) hcK (by have := sum_length P.flatten more; have := HML.out; omega) HCH.out.range)
      have hle := wroteTo_le P more P.length (Nat.le_refl _)
      rw [List.take_length] at hle
      have hml := HML.out
      have HWN : Hid (wroteTo P more k + more.length = wroteN P more) := by show _ = _; unfold wroteN; rw [HNP.out]
      rw [HNP.out] at hle
      generalize wroteTo P more k = nn at *
      have q1 : IntKind.i64.wrap ((nn : Int) + (more.length : Int)) = ((nn + more.length : Nat) : Int) := by rw [IntKind.wrap_i64]; omega
      go_wp2_with fail
      refine HBLK.out.mono ?_
      rintro e w7 ⟨v7, rfl, hv7, hq7⟩
      have hb7 := HB6.out.trans (hq7.mono HB6.out.size)
      have HV7 := Lib.hid hv7
      obtain ⟨A7, p7, rfl⟩ := blks_slice hv7
      clear hv7 hq7 HBLK
      go_wp2
      go_ret3
      have := change_yes HOK.out HV7.out hb7
      rw [← HWN.out] at this
      exact this
end Go.Proofs.YtkgjbldlegcajaaGreat
