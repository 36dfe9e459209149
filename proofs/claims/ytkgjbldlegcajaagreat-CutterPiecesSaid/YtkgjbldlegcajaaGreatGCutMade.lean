/- The contract of layer 13's law: made. -/
import Derived.Test.YtkgjbldlegcajaaGreatGBlockUnder
import Derived.Test.YtkgjbldlegcajaaGreatGCutChange
namespace Go.Proofs.YtkgjbldlegcajaaGreat
open Go Go.RowKit
def underM (l : List Tm) (cols : List (Int × Bool)) (most : Nat) : Bool := l.all (underT cols) && (decide (l.length ≤ most) && decide (cols.length ≤ 6))
theorem underM_no {l : List Tm} {cols : List (Int × Bool)} {most : Nat} {t : Tm} (h : t ∈ l) (hn : underT cols t = false) : underM l cols most = false := by
 unfold underM
 rw [Bool.and_eq_false_iff]
 left
 rw [List.all_eq_false]
 exact ⟨t, h, by rw [hn]; decide⟩
set_option maxHeartbeats 2000000 in
theorem underM_calls {w : World} {v vc : Value} {l : List Tm} {cols : List (Int × Bool)} (most : Nat) (h : TimesIn w v l) (hc : ColsIn w vc cols) : GivesAt Tryz.prog 9 #[v, vc, .int .i64 most] w (.bool (underM l cols most)) := by
 have hm := h.len
 unfold maxLen at hm
 obtain ⟨hb, hB⟩ := start w
 obtain ⟨tv, A1, cap1, rfl, _, hat1⟩ := times_at h
 have HAT1 := Lib.hid hat1
 have HCC := Lib.hid hc
 obtain ⟨A2, p2, rfl, hone2⟩ := cols_at hc
 clear h hat1 hc hone2
 unfold GivesAt
 go_enter Tryz.func9, Tryz.ntmps9
 go_wp2
 go_loopw [7] (fun i wr => ∃ k : Nat, k ≤ l.length ∧ i = .int .i64 k ∧ Hid (∀ t ∈ l.take k, underT cols t = true) ∧ Below w.heap.size w wr) (fun i _ => l.length - (intOf i).toNat)
 case atStart => exact ⟨0, Nat.zero_le _, rfl, fun t ht => absurd ht (by simp), hb⟩
 case round =>
  clear hb hB
  obtain ⟨k, hk, rfl, HS, hb⟩ := hrel
  have hB := hb.size
  by_cases hlt : k < l.length
  ·obtain ⟨b, off, rfl, hbl, hcc⟩ := HAT1.out k hlt
   obtain ⟨rv, s1, _, c1, c2⟩ := hcc k hlt
   have x1 := (hb.cell (p := ⟨b, off + k * 2, none⟩) hbl).trans c1
   have HX2 := Lib.hid c2
   have HBL := Lib.hid hbl
   have HC := Lib.hid (ref_row_calls (HCC.out.kept hb) (StrsIn.kept s1 hb))
   have HM := Lib.hid (List.getElem_mem hlt)
   have HT := Lib.hid (take_add l k hlt)
   clear hcc c1 c2 s1 hbl
   generalize l[k] = t at *
   obtain ⟨row, n⟩ := t
   dsimp only at *
   have HU : Hid (underT cols (row, n) = (decide (rowN cols row = 0) && decide (n ≤ 1099511627776) && decide (-1099511627776 ≤ n))) := rfl
   generalize rowN cols row = rn at *
   by_cases hr : rn = 0
   ·have d1 : (rn != 0) = false := by simp [hr]
    by_cases h1 : 1099511627776 < n
    ·have d2 : decide (1099511627776 < n) = true := decide_eq_true h1
     have HD : Hid (underM l cols most = false) := underM_no HM.out (by rw [HU.out, decide_eq_false (show ¬ n ≤ 1099511627776 by omega), Bool.and_false, Bool.false_and])
     clear hr h1
     go_wp2_with (go_at_call 28; refine HC.out.step (w0 := w) (B := w.heap.size) hb hB ?_; clear hb hB; intro w2 hb hB; have x2 := (hb.cell (p := ⟨b, off + k * 2 + 1, none⟩) HBL.out).trans HX2.out)
     go_ret
     exact ⟨ret_bool HD.out.symm, hb⟩
    ·have d2 : decide (1099511627776 < n) = false := decide_eq_false h1
     by_cases h2 : n < -1099511627776
     ·have d3 : decide (n < -1099511627776) = true := decide_eq_true h2
      have HD : Hid (underM l cols most = false) := underM_no HM.out (by rw [HU.out, decide_eq_false (show ¬ -1099511627776 ≤ n by omega), Bool.and_false])
      clear hr h1 h2
      go_wp2_with (go_at_call 28; refine HC.out.step (w0 := w) (B := w.heap.size) hb hB ?_; clear hb hB; intro w2 hb hB; have x2 := (hb.cell (p := ⟨b, off + k * 2 + 1, none⟩) HBL.out).trans HX2.out)
      go_ret
      exact ⟨ret_bool HD.out.symm, hb⟩
     ·have d3 : decide (n < -1099511627776) = false := decide_eq_false h2
      have HY : Hid (∀ t ∈ l.take (k + 1), underT cols t = true) := fun t ht => by
       rw [HT.out] at ht
       rcases List.mem_append.1 ht with ht | ht
       ·exact HS.out t ht
       ·rw [List.mem_singleton.1 ht, HU.out, decide_eq_true hr, decide_eq_true (show n ≤ 1099511627776 by omega), decide_eq_true (show -1099511627776 ≤ n by omega)]; rfl
      clear hr h1 h2
      go_wp2_with (go_at_call 28; refine HC.out.step (w0 := w) (B := w.heap.size) hb hB ?_; clear hb hB; intro w2 hb hB; have x2 := (hb.cell (p := ⟨b, off + k * 2 + 1, none⟩) HBL.out).trans HX2.out)
      go_roundw
      case rel => exact ⟨k + 1, by omega, by go_num, HY, hb⟩
      case measure => simp [intOf]; omega
   ·have d1 : (rn != 0) = true := by rw [bne_iff_ne]; exact hr
    have HD : Hid (underM l cols most = false) := underM_no HM.out (by rw [HU.out, decide_eq_false hr, Bool.false_and, Bool.false_and])
    clear hr
    go_wp2_with (go_at_call 28; refine HC.out.step (w0 := w) (B := w.heap.size) hb hB ?_; clear hb hB; intro w2 hb hB; have x2 := (hb.cell (p := ⟨b, off + k * 2 + 1, none⟩) HBL.out).trans HX2.out)
    go_ret
    exact ⟨ret_bool HD.out.symm, hb⟩
  ·obtain rfl : k = l.length := by omega
   rw [List.take_length] at HS
   have HD : Hid (underM l cols most = (decide (l.length ≤ most) && decide (cols.length ≤ 6))) := by
    show _ = _
    unfold underM
    rw [show l.all (underT cols) = true from List.all_eq_true.2 HS.out, Bool.true_and]
   clear hlt hk HAT1 HCC
   generalize l.length = nl at *
   generalize cols.length = nc at *
   by_cases h1 : nl ≤ most
   ·have d1 : decide (nl ≤ most) = true := decide_eq_true h1
    have e1 : decide ((nl : Int) ≤ (most : Int)) = true := by rw [decide_eq_true_eq]; omega
    by_cases h2 : nc ≤ 6
    ·have d2 : decide (nc ≤ 6) = true := decide_eq_true h2
     have e2 : decide ((nc : Int) ≤ 6) = true := by rw [decide_eq_true_eq]; omega
     rw [d1, d2] at HD
     clear h1 h2
     go_wp2
     go_ret
     exact ⟨ret_bool (by rw [HD.out]; rfl), hb⟩
    ·have d2 : decide (nc ≤ 6) = false := decide_eq_false h2
     have e2 : decide ((nc : Int) ≤ 6) = false := by rw [decide_eq_false_iff_not]; omega
     rw [d1, d2] at HD
     clear h1 h2
     go_wp2
     go_ret
     exact ⟨ret_bool (by rw [HD.out]; rfl), hb⟩
   ·have d1 : decide (nl ≤ most) = false := decide_eq_false h1
    have e1 : decide ((nl : Int) ≤ (most : Int)) = false := by rw [decide_eq_false_iff_not]; omega
    rw [d1] at HD
    clear h1
    go_wp2
    go_ret
    exact ⟨ret_bool (by rw [HD.out]; rfl), hb⟩
theorem fit_row {cols : List (Int × Bool)} {r : List ByteArray} (h : rowN cols r = 0) : r.length = cols.length ∧ ∀ s ∈ r, rightB s = true := by
 obtain ⟨e, hf⟩ := row_fits h
 refine ⟨e, fun s hs => ?_⟩
 obtain ⟨j, hj, rfl⟩ := List.mem_iff_getElem.1 hs
 exact (fits_both _ _ (hf j (by omega) hj)).2
theorem fit_kind {cols : List (Int × Bool)} {p : List Tm} (h : ∀ t ∈ p, rowN cols t.1 = 0) (c : Nat) (hc : c < cols.length) : kindL (downL p c) cols[c].1 cols[c].2 = true := by
 unfold kindL
 rw [List.all_eq_true]
 intro s hs
 obtain ⟨t, ht, rfl⟩ := List.mem_map.1 hs
 obtain ⟨e, hf⟩ := row_fits (h t ht)
 rw [List.getD_eq_getElem?_getD, List.getElem?_eq_getElem (by omega)]
 exact (fits_both _ _ (hf c hc (by omega))).1
structure Rows0 (R : List Tm) (cols : List (Int × Bool)) (n m : Nat) : Prop where
 right : RightP R
 there : ∀ t ∈ R, 1 ≤ t.2
 fits : ∀ t ∈ R, rowN cols t.1 = 0
 len : R.length ≤ n
 wt : wtW R ≤ m
section
variable {R : List Tm} {cols : List (Int × Bool)} {n m : Nat}
theorem piece_sub {p : List Tm} (h : p ∈ cutL R) : p.Sublist R := by
 have := cutL_flatten R
 have h2 : p.Sublist (cutL R).flatten := List.sublist_flatten_of_mem h
 rwa [this] at h2
theorem wt_range {l : List Tm} (h : wtW l ≤ 4611686018427387904) : InR (l.map Prod.snd) := fun x hx => by
 obtain ⟨t, ht, rfl⟩ := List.mem_map.1 hx
 have := wt_mem ht
 constructor <;> omega
theorem Rows0.good (h : Rows0 R cols n m) (hn : n ≤ 4096) (hm : m ≤ 4611686018427387904) : ∀ p ∈ cutL R, GoodP p cols := by
 intro p hp
 have hne := (cutL_good R).1 p hp
 have hsub := piece_sub hp
 refine ⟨good_of hne.1 ⟨h.right.1.sublist hsub, fun t ht => h.right.2 t (piece_mem hp ht)⟩ (fun t ht => h.there t (piece_mem hp ht)), fun t ht => fit_row (h.fits t (piece_mem hp ht)), fun c hc => fit_kind (fun t ht => h.fits t (piece_mem hp ht)) c hc, ?_, ?_⟩
 ·have := piece_small hp; have := h.len; omega
 ·exact piece_inr hp (wt_range (by have := h.wt; omega))
theorem Rows0.changing (h : Rows0 R cols n m) {more : List Tm} (hf : ∀ t ∈ more, rowN cols t.1 = 0) (hl : n + more.length ≤ 4096) (hw : m + wtW more ≤ 4611686018427387904) (hc : cols.length ≤ 1000000) : Changing (cutL R) cols more := by
 have hlen := h.len
 have hwt := h.wt
 have h1 := cutL_length_le R
 refine ⟨h.good (by omega) (by omega), ?_, fun t ht => fit_row (hf t ht), ?_, ?_, by omega, hc⟩
 ·rw [cutL_flatten]; exact decide_eq_true h.right
 ·rw [cutL_flatten]; omega
 ·rw [cutL_flatten]; omega
theorem Rows0.sum (h : Rows0 R cols n m) {more : List Tm} (hf : ∀ t ∈ more, rowN cols t.1 = 0) (hw : wholeW (sumW R more) = true) : Rows0 (sumW R more) cols (n + more.length) (m + wtW more) := by
 refine ⟨sum_right _ _, fun t ht => ?_, fun t ht => ?_, ?_, ?_⟩
 ·have h0 := (sum_right R more).2 t ht
  unfold wholeW at hw
  rw [List.all_eq_true] at hw
  have := hw t ht
  rw [decide_eq_true_eq] at this
  omega
 ·rcases mem_sum ht with ⟨u, hu, e⟩ | ⟨u, hu, e⟩
  ·rw [← e]; exact h.fits u hu
  ·rw [← e]; exact hf u hu
 ·have := sum_length R more; have := h.len; omega
 ·have := wt_sum R more; have := h.wt; omega
end
def madeT (cols : List (Int × Bool)) (t : Tm) : Bool := decide (rowN cols t.1 = 0) && decide (0 < t.2) && decide (t.2 < 1073741824)
def madeTo (cols : List (Int × Bool)) (l : List Tm) : List Tm := l.foldl (fun a t => if madeT cols t = true then putW a t else a) []
def madeL (cols : List (Int × Bool)) (l : List Tm) : List Tm := madeTo cols (l.take 60)
theorem madeTo_snoc (cols : List (Int × Bool)) (l : List Tm) (t : Tm) : madeTo cols (l ++ [t]) = if madeT cols t = true then putW (madeTo cols l) t else madeTo cols l := by unfold madeTo; rw [List.foldl_append]; rfl
theorem put_there : ∀ {l : List Tm} {x : Tm}, (∀ t ∈ l, 1 ≤ t.2) → 1 ≤ x.2 → ∀ t ∈ putW l x, 1 ≤ t.2
 | [], x, _, hx, t, ht => by
  unfold putW at ht
  rw [if_neg (by omega)] at ht
  rw [List.mem_singleton.1 ht]; exact hx
 | u :: l, x, h, hx, t, ht => by
  unfold putW at ht
  split at ht
  ·rcases List.mem_cons.1 ht with rfl | ht
   ·exact h _ (List.mem_cons_self ..)
   ·exact put_there (fun t ht => h t (List.mem_cons_of_mem _ ht)) hx t ht
  ·split at ht
   ·have hu := h u (List.mem_cons_self ..)
    rw [if_neg (by omega)] at ht
    rcases List.mem_cons.1 ht with rfl | ht
    ·show 1 ≤ x.2 + u.2; omega
    ·exact h t (List.mem_cons_of_mem _ ht)
   ·rw [if_neg (by omega)] at ht
    rcases List.mem_cons.1 ht with rfl | ht
    ·exact hx
    ·exact h t ht
theorem madeTo_rows (cols : List (Int × Bool)) : ∀ l : List Tm, Rows0 (madeTo cols l) cols l.length (l.length * 1073741824) := by
 refine cutL_ind ⟨.nil, fun t ht => absurd ht (by simp [madeTo]), fun t ht => absurd ht (by simp [madeTo]), by simp [madeTo], by simp [madeTo, wtW]⟩ fun l t ih => ?_
 rw [madeTo_snoc, List.length_append, List.length_singleton]
 split
 ·rename_i hm
  unfold madeT at hm
  rw [Bool.and_eq_true, Bool.and_eq_true, decide_eq_true_eq, decide_eq_true_eq, decide_eq_true_eq] at hm
  obtain ⟨⟨h1, h2⟩, h3⟩ := hm
  refine ⟨ih.right.put t, put_there ih.there (by omega), fun u hu => ?_, ?_, ?_⟩
  ·rcases mem_put hu with hu | hu
   ·exact ih.fits u hu
   ·rw [hu]; exact h1
  ·have := put_length (madeTo cols l) t; have := ih.len; omega
  ·have := wtW_put (madeTo cols l) t; have := ih.wt; omega
 ·exact ⟨ih.right, ih.there, ih.fits, Nat.le_trans ih.len (Nat.le_succ _), Nat.le_trans ih.wt (Nat.mul_le_mul_right _ (Nat.le_succ _))⟩
theorem madeL_rows (cols : List (Int × Bool)) (l : List Tm) : Rows0 (madeL cols l) cols 60 64424509440 := by
 have h := madeTo_rows cols (l.take 60)
 have hl : (l.take 60).length ≤ 60 := by rw [List.length_take]; omega
 exact ⟨h.right, h.there, h.fits, Nat.le_trans h.len hl, Nat.le_trans h.wt (by omega)⟩
theorem underM_facts {l : List Tm} {cols : List (Int × Bool)} {most : Nat} (h : underM l cols most = true) : (∀ t ∈ l, rowN cols t.1 = 0) ∧ l.length ≤ most ∧ cols.length ≤ 6 ∧ wtW l ≤ l.length * 1099511627776 := by
 unfold underM at h
 rw [Bool.and_eq_true, Bool.and_eq_true, List.all_eq_true, decide_eq_true_eq, decide_eq_true_eq] at h
 have each : ∀ t ∈ l, rowN cols t.1 = 0 ∧ t.2 ≤ 1099511627776 ∧ -1099511627776 ≤ t.2 := fun t ht => by
  have := h.1 t ht
  unfold underT at this
  rw [Bool.and_eq_true, Bool.and_eq_true, decide_eq_true_eq, decide_eq_true_eq, decide_eq_true_eq] at this
  exact ⟨this.1.1, this.1.2, this.2⟩
 exact ⟨fun t ht => (each t ht).1, h.2.1, h.2.2, wt_each fun t ht => by have := each t ht; omega⟩
theorem blksL_few {P : List (List Tm)} {K : Nat} (hK : K ≤ 1000000) : ∀ t ∈ blksL P K, t.2.1.length ≤ 1000000 := fun t ht => by
 obtain ⟨p, _, rfl⟩ := List.mem_map.1 ht
 show (colsT p K).length ≤ _
 rw [colsT_length]; exact hK
theorem Changing.after {P : List (List Tm)} {cols : List (Int × Bool)} {more : List Tm} (h : Changing P cols more) : (changeP P more).length ≤ 4096 := by
 unfold changeP
 split
 ·have := cutL_length_le (sumW P.flatten more)
  have := sum_length P.flatten more
  have := h.len
  omega
 ·exact h.few
theorem Changing.wrote {P : List (List Tm)} {cols : List (Int × Bool)} {more : List Tm} (h : Changing P cols more) : changeN P more ≤ 8192 := by
 unfold changeN
 split
 ·have := wroteTo_le P more P.length (Nat.le_refl _)
  rw [List.take_length] at this
  have := h.len
  unfold wroteN
  omega
 ·omega
theorem Rows0.sizes {R : List Tm} {cols : List (Int × Bool)} {n m : Nat} (h : Rows0 R cols n m) : ∀ t ∈ R, cols.length ≤ t.1.length ∧ ∀ c ∈ t.1, c.size ≤ 1000000 := fun t ht => by
 obtain ⟨e, hr⟩ := fit_row (h.fits t ht)
 exact ⟨by omega, fun c hc => Nat.le_trans (rightB_size (hr c hc)) (by decide)⟩
theorem Rows0.short {R : List Tm} {cols : List (Int × Bool)} {n m : Nat} (h : Rows0 R cols n m) (hc : cols.length ≤ 6) : ∀ t ∈ R, t.1.length ≤ 1000000 := fun t ht => by have := (fit_row (h.fits t ht)).1; omega
theorem cut_cut (R : List Tm) : cutL (cutL R).flatten = cutL R := congrArg cutL (cutL_flatten R)
theorem blks_few {R : List Tm} {cols : List (Int × Bool)} {n m : Nat} (h : Rows0 R cols n m) (hn : n ≤ 4096) (K : Nat) : (blksL (cutL R) K).length ≤ 1000000 := by
 rw [blksL_length]; have := cutL_length_le R; have := h.len; omega
theorem madeL_next (cols : List (Int × Bool)) (l : List Tm) (k : Nat) (h : k < l.length) : madeTo cols (l.take (k + 1)) = if madeT cols l[k] = true then putW (madeTo cols (l.take k)) l[k] else madeTo cols (l.take k) := by rw [take_add l k h, madeTo_snoc]
set_option maxHeartbeats 2000000 in
set_option maxRecDepth 100000 in
theorem made_calls {w : World} {v vc : Value} {l : List Tm} {cols : List (Int × Bool)} (h : TimesIn w v l) (hc : ColsIn w vc cols) : GivesTimes Tryz.prog 21 #[v, vc] w (madeL cols l) := by
 have hm := h.len
 unfold maxLen at hm
 obtain ⟨hb, hB⟩ := start w
 obtain ⟨tv, A1, cap1, rfl, hone1, hat1⟩ := times_at h
 have HAT1 := Lib.hid hat1
 have HCC := Lib.hid hc
 obtain ⟨A2, p2, rfl, hone2⟩ := cols_at hc
 clear h hat1 hc hone1 hone2
 unfold GivesTimes
 go_enter Tryz.func21, Tryz.ntmps21
 go_wp2
 go_loopw [5, 6] (fun x i wr => ∃ k : Nat, k ≤ l.length ∧ k ≤ 60 ∧ i = .int .i64 k ∧ TimesIn wr x (madeTo cols (l.take k)) ∧ Below w.heap.size w wr) (fun _ i _ => 60 - (intOf i).toNat)
 case atStart => exact ⟨0, Nat.zero_le _, Nat.zero_le _, rfl, TimesIn.nil_ _ _ _, hb⟩
 case round =>
  clear hb hB
  obtain ⟨k, hk, hk60, rfl, hT, hb⟩ := hrel
  have hB := hb.size
  by_cases hlt : k < l.length
  ·have d1 : decide (k < l.length) = true := decide_eq_true hlt
   by_cases h60 : k < 60
   ·have d2 : decide (k < 60) = true := decide_eq_true h60
    have d3 : decide ((k : Int) < 60) = true := by rw [decide_eq_true_eq]; omega
    obtain ⟨b, off, rfl, hbl, hcc⟩ := HAT1.out k hlt
    obtain ⟨rv, s1, htv, c1, c2⟩ := hcc k hlt
    have x1 := (hb.cell (p := ⟨b, off + k * 2, none⟩) hbl).trans c1
    have HC1 := Lib.hid c1
    have HC2 := Lib.hid c2
    have HS1 := Lib.hid s1
    have HROW := Lib.hid (ref_row_calls (HCC.out.kept hb) (StrsIn.kept s1 hb))
    have HNX := Lib.hid (madeL_next cols l k hlt)
    have hrows := madeTo_rows cols (l.take k)
    have hml := hrows.len
    have hmw := hrows.wt
    rw [List.length_take, Nat.min_eq_left (by omega)] at hml hmw
    have hml2 : (madeTo cols (l.take k)).length ≤ 60 := by omega
    have hmw2 : wtW (madeTo cols (l.take k)) ≤ 64424509440 := by omega
    obtain ⟨Ar, pr, rfl, hone⟩ := one_at s1
    clear hcc c1 c2 s1 htv hone hrows hml hmw
    generalize l[k] = t at *
    obtain ⟨row, n⟩ := t
    dsimp only at *
    have HMT : Hid (madeT cols (row, n) = (decide (rowN cols row = 0) && decide (0 < n) && decide (n < 1073741824))) := rfl
    generalize madeTo cols (l.take k) = a at *
    have HT := Lib.hid hT
    obtain ⟨tva, A9, p9, rfl, hx1, hx2⟩ := times_at hT
    generalize rowN cols row = rn at *
    clear hT hx1 hx2
    by_cases hr : rn = 0
    case' neg =>
     have e1 : (rn == 0) = false := by rw [beq_eq_false_iff_ne]; exact hr
     have HE : Hid (madeTo cols (l.take (k + 1)) = a) := HNX.out.trans (if_neg (by rw [HMT.out, decide_eq_false hr]; simp))
     clear hr
    case' pos =>
     have e1 : (rn == 0) = true := by rw [beq_iff_eq]; exact hr
     by_cases h1 : 0 < n
     case' neg =>
      have e2 : decide (0 < n) = false := decide_eq_false h1
      have HE : Hid (madeTo cols (l.take (k + 1)) = a) := HNX.out.trans (if_neg (by rw [HMT.out, e2]; simp))
      clear hr h1
     case' pos =>
      have e2 : decide (0 < n) = true := decide_eq_true h1
      by_cases h2 : n < 1073741824
      case' neg =>
       have e3 : decide (n < 1073741824) = false := decide_eq_false h2
       have HE : Hid (madeTo cols (l.take (k + 1)) = a) := HNX.out.trans (if_neg (by rw [HMT.out, e3]; simp))
       clear hr h1 h2
      case' pos =>
       have e3 : decide (n < 1073741824) = true := decide_eq_true h2
       have HE : Hid (madeTo cols (l.take (k + 1)) = putW a (row, n)) := HNX.out.trans (if_pos (by rw [HMT.out, decide_eq_true hr, e2, e3]; rfl))
       have HPUT : Hid (∀ w', Below w.heap.size w w' → TimesIn w' (.slice A9 a.length p9) a → GivesTimes Tryz.prog 35 #[.slice A9 a.length p9, .agg #[.slice Ar row.length pr, .int .i64 n]] w' (putW a (row, n))) := fun w' hq ha => ref_weigh_put_calls ha (StrsIn.kept HS1.out hq) (by omega) (by omega)
       clear hr h1 h2
       go_wp2_with fail
       refine HROW.out.stepB (w0 := wr) (B := wr.heap.size) (.refl _ _) (Nat.le_refl _) ?_
       intro w2 g1 g2 hq2
       have hb2 := hb.trans (hq2.mono hB)
       have y1 := (hb2.cell (p := ⟨b, off + k * 2, none⟩) hbl).trans HC1.out
       have y2 := (hb2.cell (p := ⟨b, off + k * 2 + 1, none⟩) hbl).trans HC2.out
       have HP := Lib.hid (HPUT.out w2 hb2 (HT.out.kept hq2))
       clear g1 g2 hq2 HPUT HT x1
       go_wp2_with fail
       refine HP.out.stepB (w0 := w2) (B := w2.heap.size) (.refl _ _) (Nat.le_refl _) ?_
       intro v3 w3 hT3 g1 g2 hq3
       have hb3 := hb2.trans (hq3.mono hb2.size)
       have HT3 := Lib.hid hT3
       clear g1 g2 hq3 hb2 y1 y2 HP hT3
       go_wp2
       go_roundw
       case rel => exact ⟨k + 1, by omega, by omega, by go_num, by rw [HE.out]; exact HT3.out, hb3⟩
       case measure => simp [intOf]; omega
    all_goals
     go_wp2_with fail
     refine HROW.out.stepB (w0 := wr) (B := wr.heap.size) (.refl _ _) (Nat.le_refl _) ?_
     intro w2 g1 g2 hq2
     have hb2 := hb.trans (hq2.mono hB)
     have y2 := (hb2.cell (p := ⟨b, off + k * 2 + 1, none⟩) hbl).trans HC2.out
     have HT2 := Lib.hid (HT.out.kept hq2)
     clear g1 g2 hq2 HT x1
     go_wp2
     go_roundw
     case rel => exact ⟨k + 1, by omega, by omega, by go_num, by rw [HE.out]; exact HT2.out, hb2⟩
     case measure => simp [intOf]; omega
   ·obtain rfl : k = 60 := by omega
    have HE : Hid (madeTo cols (l.take 60) = madeL cols l) := rfl
    have HT := Lib.hid hT
    obtain ⟨tva, A9, p9, rfl, hx1, hx2⟩ := times_at hT
    clear hT hx1 hx2
    generalize (madeTo cols (l.take 60)).length = al at *
    go_wp2
    go_ret
    exact ⟨_, rfl, by rw [← HE.out]; exact HT.out, hb⟩
  ·have HE : Hid (madeTo cols (l.take k) = madeL cols l) := by
    show _ = _
    unfold madeL
    rw [List.take_of_length_le (by omega), List.take_of_length_le (by omega)]
   have d1 : decide (k < l.length) = false := decide_eq_false hlt
   have HT := Lib.hid hT
   obtain ⟨tva, A9, p9, rfl, hx1, hx2⟩ := times_at hT
   clear hT hx1 hx2
   generalize (madeTo cols (l.take k)).length = al at *
   go_wp2
   go_ret
   exact ⟨_, rfl, by rw [← HE.out]; exact HT.out, hb⟩
end Go.Proofs.YtkgjbldlegcajaaGreat
