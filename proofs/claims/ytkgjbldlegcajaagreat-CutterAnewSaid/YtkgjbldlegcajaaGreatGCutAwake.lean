/- The walk of layer 13's awake. -/
import Derived.Test.YtkgjbldlegcajaaGreatGWeighRef
import Derived.Test.YtkgjbldlegcajaaGreatGCutMade
import Derived.Test.YtkgjbldlegcajaaGreatGCutOwn
import Derived.Test.YtkgjbldlegcajaaGreatGZBlockSame
import Derived.Deep.RegionHeld3
namespace Go.Proofs.YtkgjbldlegcajaaGreat
open Go Go.RowKit
def tA13 : ByteArray := ⟨#[116, 97]⟩
def tB13 : ByteArray := ⟨#[116, 98]⟩
def tC13 : ByteArray := ⟨#[116, 99]⟩
def tD13 : ByteArray := ⟨#[116, 100]⟩
def rows13 : List Tm := [([tA13], 1), ([tB13], 2), ([tC13], 1)]
def cols13 : List (Int × Bool) := [(116, false)]
def less13 : List Tm := [([tB13], -2)]
def bad13 : List Tm := [([tD13], -1)]
theorem rows13_0 : Rows0 rows13 cols13 3 4 := by
 refine ⟨of_decide_eq_true (by decide +kernel), fun t ht => ?_, fun t ht => ?_, by decide, by decide⟩
 ·simp only [rows13, List.mem_cons, List.not_mem_nil, or_false] at ht
  rcases ht with rfl | rfl | rfl <;> decide
 ·simp only [rows13, List.mem_cons, List.not_mem_nil, or_false] at ht
  rcases ht with rfl | rfl | rfl <;> decide +kernel
theorem less13_fit : ∀ t ∈ less13, rowN cols13 t.1 = 0 := by
 intro t ht
 simp only [less13, List.mem_cons, List.not_mem_nil, or_false] at ht
 rcases ht with rfl
 decide +kernel
theorem bad13_fit : ∀ t ∈ bad13, rowN cols13 t.1 = 0 := by
 intro t ht
 simp only [bad13, List.mem_cons, List.not_mem_nil, or_false] at ht
 rcases ht with rfl
 decide +kernel
theorem chg_less : Changing (cutL rows13) cols13 less13 := rows13_0.changing less13_fit (by decide) (by decide) (by decide)
theorem chg_bad : Changing (cutL rows13) cols13 bad13 := rows13_0.changing bad13_fit (by decide) (by decide) (by decide)
theorem none_0 : Rows0 [] cols13 0 0 := ⟨RightP.nil, fun t ht => absurd ht (by simp), fun t ht => absurd ht (by simp), Nat.le_refl _, Nat.le_refl _⟩
theorem chg_none : Changing (cutL []) cols13 rows13 := none_0.changing rows13_0.fits (by decide) (by decide) (by decide)
def left13 : List Tm := [([tA13], 1), ([tC13], 1)]
theorem less_ok : okC (cutL rows13) less13 = true := by decide +kernel
theorem less_sum : sumW rows13 less13 = left13 := by decide +kernel
theorem less_P : changeP (cutL rows13) less13 = cutL left13 := by unfold changeP; rw [if_pos less_ok, cutL_flatten, less_sum]
theorem less_C : changeC (cutL rows13) less13 = 0 := by unfold changeC; rw [if_pos less_ok]
theorem less_N : 2 ≤ changeN (cutL rows13) less13 := by decide +kernel
theorem bad_ok : okC (cutL rows13) bad13 = false := by decide +kernel
theorem bad_C : changeC (cutL rows13) bad13 = 6 := by unfold changeC; rw [if_neg (by rw [bad_ok]; decide)]
theorem left_0 : Rows0 left13 cols13 4 8 := by
 have h := rows13_0.sum less13_fit (by decide +kernel)
 rw [less_sum] at h
 exact ⟨h.right, h.there, h.fits, by decide, by decide⟩
theorem none_ok : okC (cutL []) rows13 = true := by decide +kernel
theorem none_sum : sumW [] rows13 = rows13 := by decide +kernel
theorem none_P : changeP (cutL []) rows13 = cutL rows13 := by unfold changeP; rw [if_pos none_ok, cutL_flatten, none_sum]
theorem none_C : changeC (cutL []) rows13 = 0 := by unfold changeC; rw [if_pos none_ok]
theorem none_N : changeN (cutL []) rows13 = 3 := by decide +kernel
theorem cut_some : 0 < (cutL rows13).length := by decide +kernel
theorem twice_D : rightW ((cutL rows13).getD 0 [] ++ (cutL rows13).getD 0 []) = false := by decide +kernel
theorem twice_at {P : List (List Tm)} (h0 : 0 < P.length) (h : rightW (P.getD 0 [] ++ P.getD 0 []) = false) : rightW [P[0], P[0]].flatten = false := by
 rw [List.getD_eq_getElem?_getD, List.getElem?_eq_getElem h0, Option.getD_some] at h
 rw [List.flatten_cons, List.flatten_cons, List.flatten_nil, List.append_nil]
 exact h
theorem num_empty : ((numN [] : Nat) : Int) = 1469598103739305011 := by decide +kernel
theorem right_of0 {R : List Tm} {n m : Nat} (h : Rows0 R cols13 n m) : rightW (cutL R).flatten = true := by rw [cutL_flatten]; exact decide_eq_true h.right
set_option maxHeartbeats 1000000 in
set_option maxRecDepth 100000 in
theorem at_calls (s : ByteArray) (n : Int) (w : World) : Calls Tryz.prog 29 #[.string s, .int .i64 n] w fun e w' => ∃ A p, e = .returned (.agg #[.slice A 1 p, .int .i64 n]) ∧ StrsIn w' (.slice A 1 p) [s] ∧ Below w.heap.size w w' := by
 have q : ∀ (w : World) (o : Obj), Below w.heap.size w (w.alloc o) := fun w o => Below.alloc (.refl _ _) (Nat.le_refl _) o
 obtain ⟨u0, u1, _, _⟩ := ((box_tm w 30 (.slice (some ⟨w.heap.size + 1, 0, none⟩) 1 1) n).later (q _ (.cells #[.string s] 9))).cells
 have hb := (q w (.cells #[.slice (some ⟨w.heap.size + 1, 0, none⟩) 1 1, .int .i64 n] 30)).alloc (by simp) (.cells #[.string s] 9)
 have hs : StrsIn ((w.alloc (.cells #[.slice (some ⟨w.heap.size + 1, 0, none⟩) 1 1, .int .i64 n] 30)).alloc (.cells #[.string s] 9)) (.slice (some ⟨w.heap.size + 1, 0, none⟩) 1 1) [s] := by
  have := lit_strs (w.alloc (.cells #[.slice (some ⟨w.heap.size + 1, 0, none⟩) 1 1, .int .i64 n] 30)) 9 [s] (by show 1 ≤ 1000; decide)
  rw [show (w.alloc (.cells #[.slice (some ⟨w.heap.size + 1, 0, none⟩) 1 1, .int .i64 n] 30)).heap.size = w.heap.size + 1 by simp] at this
  exact this
 have HS := Lib.hid hs
 have hbb := hb
 clear hs hb q
 go_enter Tryz.func29, Tryz.ntmps29
 go_wp2
 refine ⟨rfl, .agg #[.slice (some ⟨w.heap.size + 1, 0, none⟩) 1 1, .int .i64 n], ?_, _, _, rfl, HS.out, hbb⟩
 simp [results, Tryz.results29, go_sem, u0, u1]
set_option maxHeartbeats 8000000 in
set_option maxRecDepth 100000 in
theorem awake_calls : Gives Tryz.prog 10 #[] (.bool true) := by
 intro w
 obtain ⟨P, hP⟩ : ∃ P, cutL rows13 = P := ⟨_, rfl⟩
 have HGOOD : Hid (∀ p ∈ P, GoodP p cols13) := hP ▸ rows13_0.good (by decide) (by decide)
 have HLESS : Hid (Changing P cols13 less13) := hP ▸ chg_less
 have HBAD : Hid (Changing P cols13 bad13) := hP ▸ chg_bad
 have HCUT : Hid (cutL P.flatten = P) := by show _ = _; rw [← hP, cutL_flatten]
 have HFLAT : Hid (P.flatten = rows13) := by show _ = _; rw [← hP, cutL_flatten]
 have HRIGHT : Hid (rightW P.flatten = true) := hP ▸ right_of0 rows13_0
 have hp0 : 0 < P.length := hP ▸ cut_some
 have HTWICE : Hid (rightW [P[0], P[0]].flatten = false) := twice_at hp0 (by rw [← hP]; exact twice_D)
 have hp4 : P.length ≤ 3 := hP ▸ cutL_length_le rows13
 have HLP : Hid (changeP P less13 = cutL left13) := hP ▸ less_P
 have HLC : Hid (changeC P less13 = 0) := hP ▸ less_C
 have hln : 2 ≤ changeN P less13 := hP ▸ less_N
 have HBC : Hid (changeC P bad13 = 6) := hP ▸ bad_C
 have HNP : Hid (changeP (cutL []) rows13 = P) := hP ▸ none_P
 have HCA : Hid (∀ (w' : World) v, TimesIn w' v rows13 → Calls Tryz.prog 15 #[v] w' (CutEnd w' P)) := fun w' v h => hP ▸ cut_cut_calls h (by decide) (fun t ht => (rows13_0.sizes t ht).2) (rows13_0.short (by decide))
 have HBL : Hid (∀ (w' : World) v, TimesIn w' v rows13 → Calls Tryz.prog 19 #[v, .int .i64 (1 : Nat)] w' (BlocksEnd w' (blksL P 1))) := fun w' v h => hP ▸ cut_blocks_calls h 1 (rows13_0.sizes) (by decide) (by decide) (wt_range (by decide)) (rows13_0.short (by decide))
 clear hP
 have hcols : ColsIn (w.alloc (.cells #[.int .u8 116, .bool false] 56)) (.slice (some ⟨w.heap.size, 0, none⟩) 1 1) cols13 := lit_cols w 56 cols13 (by decide)
 have hb := Below.alloc (.refl w.heap.size w) (Nat.le_refl _) (.cells #[.int .u8 116, .bool false] 56)
 go_enter Tryz.func10, Tryz.ntmps10
 go_wp2_with fail
 generalize w.alloc (.cells #[.int .u8 116, .bool false] 56) = w0 at *
 have HC := Lib.hid hcols
 clear hcols
 generalize w.heap.size = Bc at HC ⊢
 refine (at_calls ⟨#[116, 97]⟩ 1 w0).mono ?_
 rintro e w1 ⟨A1, p1, rfl, hs1, hk⟩
 have hb1 := hb.trans (hk.mono hb.size)
 have HC1 := Lib.hid (HC.out.kept hk)
 clear hk hb HC
 go_wp2_with fail
 refine (at_calls ⟨#[116, 98]⟩ 2 w1).mono ?_
 rintro e w2 ⟨A2, p2, rfl, hs2, hk⟩
 have hb2 := hb1.trans (hk.mono hb1.size)
 replace hs1 := StrsIn.kept hs1 hk
 have HC2 := Lib.hid (HC1.out.kept hk)
 clear hk hb1 HC1
 go_wp2_with fail
 refine (at_calls ⟨#[116, 99]⟩ 1 w2).mono ?_
 rintro e w3 ⟨A3, p3, rfl, hs3, hk⟩
 have hb3 := hb2.trans (hk.mono hb2.size)
 replace hs1 := StrsIn.kept hs1 hk
 replace hs2 := StrsIn.kept hs2 hk
 have hq3 := Below.alloc (.refl w3.heap.size w3) (Nat.le_refl _) (.cells #[.slice A1 1 p1, .int .i64 1, .slice A2 1 p2, .int .i64 2, .slice A3 1 p3, .int .i64 1] 30)
 have HC4 := Lib.hid ((HC2.out.kept hk).kept hq3)
 have hl4 : TimesIn (w3.alloc (.cells #[.slice A1 1 p1, .int .i64 1, .slice A2 1 p2, .int .i64 2, .slice A3 1 p3, .int .i64 1] 30)) (.slice (some ⟨w3.heap.size, 0, none⟩) 3 3) rows13 :=
  lit_times w3 30 [(.slice A1 1 p1, 1), (.slice A2 1 p2, 2), (.slice A3 1 p3, 1)] rows13 ⟨⟨hs1, rfl⟩, ⟨hs2, rfl⟩, ⟨hs3, rfl⟩, trivial⟩ (by decide)
 have HL4 := Lib.hid hl4
 have hb4 := hb3.trans (hq3.mono hb3.size)
 clear hk hb2 HC2 hb3 hq3 hs1 hs2 hs3 hl4
 go_wp2_with fail
 generalize w3.alloc (.cells #[.slice A1 1 p1, .int .i64 1, .slice A2 1 p2, .int .i64 2, .slice A3 1 p3, .int .i64 1] 30) = w4 at *
 generalize w3.heap.size = Bl at *
 refine (HBL.out w4 _ HL4.out).mono ?_
 rintro e w5 ⟨v5, rfl, hv5, hk⟩
 obtain ⟨pn, hpn⟩ : ∃ pn, P.length = pn := ⟨_, rfl⟩
 have HPN := Lib.hid hpn
 obtain ⟨B5, q5, e5⟩ := blks_slice hv5
 rw [blksL_length, hpn] at e5
 subst e5
 have HB5 := Lib.hid hv5
 have HC5 := Lib.hid (HC4.out.kept hk)
 have HL5 := Lib.hid (HL4.out.kept hk)
 have hb5 := hb4.trans (hk.mono hb4.size)
 have hpn0 : 0 < pn := hpn ▸ hp0
 clear hk hb4 HC4 HL4 hv5 hpn HBL
 go_wp2_with fail
 refine (cut_all_calls HB5.out HC5.out HGOOD.out (by rw [HFLAT.out]; decide) (by omega) (by decide)).mono ?_
 rintro e w6 ⟨v6, he, hT6, hk⟩
 rw [HRIGHT.out] at he hT6
 rw [if_pos rfl] at he hT6
 rw [HFLAT.out] at hT6
 subst he
 obtain ⟨t6, B6, q6, e6, hx1, hx2⟩ := times_at hT6
 rw [show rows13.length = 3 from rfl] at e6
 subst e6
 have HM6 := Lib.hid hT6
 have HB6 := Lib.hid (HB5.out.kept hk)
 have HC6 := Lib.hid (HC5.out.kept hk)
 have HL6 := Lib.hid (HL5.out.kept hk)
 have hb6 := hb5.trans (hk.mono hb5.size)
 clear hk hb5 HC5 HL5 HB5 hT6 hx1 hx2
 go_wp2_with fail
 refine (at_calls ⟨#[116, 98]⟩ (-2) w6).mono ?_
 rintro e w7 ⟨A7, p7, rfl, hs7, hk⟩
 have hq7 := Below.alloc (.refl w7.heap.size w7) (Nat.le_refl _) (.cells #[.slice A7 1 p7, .int .i64 (-2)] 30)
 have HX8 : Hid (TimesIn (w7.alloc (.cells #[.slice A7 1 p7, .int .i64 (-2)] 30)) (.slice (some ⟨w7.heap.size, 0, none⟩) 1 1) less13) :=
  lit_times w7 30 [(.slice A7 1 p7, -2)] less13 ⟨⟨hs7, rfl⟩, trivial⟩ (by decide)
 have hkk := hk.trans (hq7.mono hk.size)
 have HM8 := Lib.hid (HM6.out.kept hkk)
 have HB8 := Lib.hid (HB6.out.kept hkk)
 have HC8 := Lib.hid (HC6.out.kept hkk)
 have HL8 := Lib.hid (HL6.out.kept hkk)
 have hb8 := hb6.trans (hkk.mono hb6.size)
 clear hk hkk hq7 hs7 hb6 HC6 HL6 HB6 HM6
 go_wp2_with fail
 generalize w7.alloc (.cells #[.slice A7 1 p7, .int .i64 (-2)] 30) = w8 at *
 generalize w7.heap.size = B7 at *
 refine (cut_change_calls HB8.out HC8.out HX8.out HLESS.out HCUT.out).mono ?_
 rintro e w9 ⟨v9, rfl, hv9, hk⟩
 rw [HLP.out] at hv9
 rw [HLC.out]
 obtain ⟨B9, q9, rfl⟩ := blks_slice hv9
 have HX9 := Lib.hid hv9
 have HM9 := Lib.hid (HM8.out.kept hk)
 have HB9 := Lib.hid (HB8.out.kept hk)
 have HC9 := Lib.hid (HC8.out.kept hk)
 have HL9 := Lib.hid (HL8.out.kept hk)
 have hb9 := hb8.trans (hk.mono hb8.size)
 clear hk hv9 hb8 HC8 HL8 HB8 HM8 HX8
 generalize (blksL (cutL left13) cols13.length).length = xn at HX9 ⊢
 generalize changeN P less13 = nL at *
 go_wp2_with fail
 refine (at_calls ⟨#[116, 100]⟩ (-1) w9).mono ?_
 rintro e w10 ⟨A10, p10, rfl, hs10, hk⟩
 have hq10 := Below.alloc (.refl w10.heap.size w10) (Nat.le_refl _) (.cells #[.slice A10 1 p10, .int .i64 (-1)] 30)
 have HX11 : Hid (TimesIn (w10.alloc (.cells #[.slice A10 1 p10, .int .i64 (-1)] 30)) (.slice (some ⟨w10.heap.size, 0, none⟩) 1 1) bad13) :=
  lit_times w10 30 [(.slice A10 1 p10, -1)] bad13 ⟨⟨hs10, rfl⟩, trivial⟩ (by decide)
 have hkk := hk.trans (hq10.mono hk.size)
 have HM11 := Lib.hid (HM9.out.kept hkk)
 have HB11 := Lib.hid (HB9.out.kept hkk)
 have HC11 := Lib.hid (HC9.out.kept hkk)
 have HL11 := Lib.hid (HL9.out.kept hkk)
 have HY11 := Lib.hid (HX9.out.kept hkk)
 have hb11 := hb9.trans (hkk.mono hb9.size)
 clear hk hkk hq10 hs10 hb9 HC9 HL9 HB9 HM9 HX9
 go_wp2_with fail
 generalize w10.alloc (.cells #[.slice A10 1 p10, .int .i64 (-1)] 30) = w11 at *
 generalize w10.heap.size = B10 at *
 refine (cut_change_calls HB11.out HC11.out HX11.out HBAD.out HCUT.out).mono ?_
 rintro e w12 ⟨v12, rfl, hv12, hk⟩
 rw [HBC.out]
 obtain ⟨B12, q12, rfl⟩ := blks_slice hv12
 have HM12 := Lib.hid (HM11.out.kept hk)
 have HB12 := Lib.hid (HB11.out.kept hk)
 have HC12 := Lib.hid (HC11.out.kept hk)
 have HL12 := Lib.hid (HL11.out.kept hk)
 have HY12 := Lib.hid (HY11.out.kept hk)
 have hb12 := hb11.trans (hk.mono hb11.size)
 clear hk hv12 hb11 HC11 HL11 HB11 HM11 HX11 HY11
 generalize (blksL (changeP P bad13) cols13.length).length = bn at *
 generalize changeN P bad13 = nB at *
 go_wp2_with fail
 refine (cut_all_calls HY12.out HC12.out (left_0.good (by decide) (by decide)) (by rw [cutL_flatten]; decide) (by have := cutL_length_le left13; have e : left13.length = 2 := rfl; omega) (by decide)).mono ?_
 rintro e w13 ⟨v13, he, hT13, hk⟩
 rw [right_of0 left_0] at he hT13
 rw [if_pos rfl] at he hT13
 rw [cutL_flatten] at hT13
 subst he
 obtain ⟨t13, B13, q13, e13, hx1, hx2⟩ := times_at hT13
 rw [show left13.length = 2 from rfl] at e13
 subst e13
 have HM13 := Lib.hid (HM12.out.kept hk)
 have HB13 := Lib.hid (HB12.out.kept hk)
 have HC13 := Lib.hid (HC12.out.kept hk)
 have HL13 := Lib.hid (HL12.out.kept hk)
 have hb13 := hb12.trans (hk.mono hb12.size)
 clear hk hT13 hx1 hx2 hb12 HC12 HL12 HB12 HM12 HY12
 go_wp2_with fail
 refine (cut_change_calls (P := cutL []) (vb := .slice none 0 0) (BlksIn.nil_ w13 none 0) HC13.out HL13.out chg_none rfl).mono ?_
 rintro e w14 ⟨v14, he, hv14, hk⟩
 rw [HNP.out] at hv14
 rw [none_C, none_N] at he
 subst he
 obtain ⟨B14, q14, e14⟩ := blks_slice hv14
 rw [blksL_length, HPN.out] at e14
 subst e14
 have HZ14 := Lib.hid hv14
 have HM14 := Lib.hid (HM13.out.kept hk)
 have HB14 := Lib.hid (HB13.out.kept hk)
 have HC14 := Lib.hid (HC13.out.kept hk)
 have HL14 := Lib.hid (HL13.out.kept hk)
 have hb14 := hb13.trans (hk.mono hb13.size)
 have d9 : ((pn : Int) == 0) = false := by rw [beq_eq_false_iff_ne]; omega
 clear hk hv14 hb13 HC13 HL13 HB13 HM13
 go_wp2_with fail
 obtain ⟨Ab, cb, eb, hat⟩ := blksL_at HB14.out
 rw [HPN.out] at eb
 simp only [Value.slice.injEq, true_and] at eb
 obtain ⟨rfl, rfl⟩ := eb
 obtain ⟨b, off, rfl, hbl, rv, hrs, y0, y1, y2⟩ := hat 0 hp0
 simp only [Nat.zero_mul, Nat.add_zero] at y0 y1 y2
 obtain ⟨Ar, pr, e1, hone⟩ := one_at hrs
 rw [colsT_length] at e1
 subst e1
 have hlit : BlksIn (w14.alloc (.cells #[.int .i64 (P[0].length : Nat), .slice Ar 1 pr, .string (shelfB (P[0].map Prod.snd)), .int .i64 (P[0].length : Nat), .slice Ar 1 pr, .string (shelfB (P[0].map Prod.snd))] 50)) (.slice (some ⟨w14.heap.size, 0, none⟩) 2 2) (blksL [P[0], P[0]] 1) :=
  lit_blks w14 50 [(.slice Ar 1 pr, blockOf P[0] 1), (.slice Ar 1 pr, blockOf P[0] 1)] (fun t ht => by
   simp only [List.mem_cons, List.not_mem_nil, or_false, or_self] at ht
   subst ht
   exact hrs) (by show 2 ≤ 1000; decide)
 have hg0 := HGOOD.out P[0] (List.getElem_mem hp0)
 have hg4 := hg0.2.2.2.1
 have HG2 : Hid (∀ p ∈ [P[0], P[0]], GoodP p cols13) := fun p hp => by
  simp only [List.mem_cons, List.not_mem_nil, or_false, or_self] at hp
  subst hp; exact hg0
 have HL2 : Hid ([P[0], P[0]].flatten.length ≤ 4096) := by
  show _ ≤ _
  have h1 : P[0].length ≤ 3 := by
   have h2 := piece_le (List.getElem_mem hp0)
   rw [HFLAT.out] at h2
   exact h2
  simp; omega
 generalize hpl : ((P[0].length : Nat) : Int) = pl at *
 generalize hss : shelfB (P[0].map Prod.snd) = s at *
 have HLI := Lib.hid hlit
 have hq15 := Below.drew (Below.alloc (.refl w14.heap.size w14) (Nat.le_refl _) (.cells #[.int .i64 pl, .slice Ar 1 pr, .string s, .int .i64 pl, .slice Ar 1 pr, .string s] 50))
 have HQ15 := Lib.hid hq15
 have HAL : Hid (Calls Tryz.prog 24 #[.slice (some ⟨w14.heap.size, 0, none⟩) 2 2, .slice (some ⟨Bc, 0, none⟩) 1 1] ((w14.alloc (.cells #[.int .i64 pl, .slice Ar 1 pr, .string s, .int .i64 pl, .slice Ar 1 pr, .string s] 50)).drew) fun e w' => ∃ A p, e = .returned (.tuple #[.slice A 0 p, .int .i64 2]) ∧ Below w14.heap.size w14 w') := by
  refine (cut_all_calls (P := [P[0], P[0]]) (HLI.out.kept (Below.drew (.refl _ _))) (HC14.out.kept hq15) HG2.out HL2.out (by show 2 ≤ 4096; decide) (by decide)).mono ?_
  rintro e w' ⟨v, he, hv, hk⟩
  rw [HTWICE.out] at he hv
  rw [if_neg (by decide)] at he hv
  obtain ⟨tv, A, p, rfl, _, _⟩ := times_at hv
  exact ⟨A, p, he, hq15.trans (hk.mono hq15.size)⟩
 have HCU : Hid (∀ w', Below w14.heap.size w14 w' → Calls Tryz.prog 15 #[.slice (some ⟨Bl, 0, none⟩) 3 3] w' fun e w'' => ∃ A p, e = .returned (.slice A pn p) ∧ Below w'.heap.size w' w'') := fun w' hq => by
  refine (HCA.out w' _ (HL14.out.kept hq)).mono ?_
  rintro e w'' ⟨v, rfl, hv, hk⟩
  obtain ⟨A, p, e2, _⟩ := pieces_at hv
  rw [HPN.out] at e2
  exact ⟨A, p, by rw [e2], hk⟩
 have HS1 : Hid (∀ w', Below w14.heap.size w14 w' → GivesAt Tryz.prog 17 #[.slice B6 3 q6, .slice (some ⟨Bl, 0, none⟩) 3 3] w' (.bool true)) := fun w' hq => by
  have := same_times (HM14.out.kept hq) (HL14.out.kept hq) (by decide) (rows13_0.short (by decide)) (rows13_0.short (by decide))
  rwa [decide_eq_true rfl] at this
 have HS2 : Hid (∀ w', Below w14.heap.size w14 w' → GivesAt Tryz.prog 18 #[.slice B14 pn q14, .slice (some ⟨b, off, none⟩) pn q5] w' (.bool true)) := fun w' hq => by
  have := same_blks (a := blksL P 1) (b := blksL P 1) (HZ14.out.kept hq) (HB14.out.kept hq) (by rw [blksL_length]; omega) (blksL_few (by decide)) (blksL_few (by decide))
  rwa [decide_eq_true rfl] at this
 have HNU : Hid (∀ w', GivesAt Tryz.prog 11 #[.slice none 0 0] w' (.int .u64 1469598103739305011)) := fun w' => by
  have := cut_number_calls (w := w') (v := .slice none 0 0) (r := []) (SliceOf.nil_ _ _ _ _) (fun c hc => absurd hc (by simp))
  rwa [num_empty] at this
 have HFI : Hid (∀ w' v', StrsIn w' v' [⟨#[116, 97]⟩] → GivesAt Tryz.prog 13 #[v'] w' (.bool (begR [⟨#[116, 97]⟩]))) := fun w' v' h => cut_begins_calls h (fun c hc => by rw [List.mem_singleton.1 hc]; decide)
 have HNM : Hid (∀ w' v', StrsIn w' v' [⟨#[116, 97]⟩] → GivesAt Tryz.prog 11 #[v'] w' (.int .u64 (numN [⟨#[116, 97]⟩]))) := fun w' v' h => cut_number_calls h (fun c hc => by rw [List.mem_singleton.1 hc]; decide)
 have hbv := beg_val [⟨#[116, 97]⟩]
 have hnl := numN_lt [⟨#[116, 97]⟩]
 generalize begR [⟨#[116, 97]⟩] = bg at *
 have hn0 : (0 : Int) ≤ ((numN [⟨#[116, 97]⟩] : Nat) : Int) := by omega
 have hn1 : ((numN [⟨#[116, 97]⟩] : Nat) : Int) < 18446744073709551616 := by omega
 generalize ((numN [⟨#[116, 97]⟩] : Nat) : Int) = nm at *
 have u1 : nm.tmod 8 = nm % 8 := by rw [Int.tmod_eq_emod_of_nonneg hn0]
 have u2 : IntKind.u64.wrap (nm % 8) = nm % 8 := by rw [IntKind.wrap_u64]; omega
 have u3 : (bg == bg) = true := by simp
 have u4 : ((pn : Int) == (pn : Int)) = true := by simp
 have u5 : decide (2 ≤ nL) = true := decide_eq_true hln
 have u6 : decide ((2 : Int) ≤ (nL : Int)) = true := by rw [decide_eq_true_eq]; omega
 have HBE := Lib.hid hb14
 have HE2 : Hid (∀ w', Below w14.heap.size w14 w' → w'.cell? ⟨b, off, none⟩ = some (.int .i64 pl) ∧ w'.cell? ⟨b, off + 1, none⟩ = some (.slice Ar 1 pr) ∧ w'.cell? ⟨b, off + 2, none⟩ = some (.string s) ∧ Hid (Below w14.heap.size w14 w')) := fun w' h => ⟨cell_kept y0 h, cell_kept y1 h, cell_kept y2 h, h⟩
 have hb0 := Below.refl w14.heap.size w14
 clear hat hrs hone hlit hg0 hg4 hpl hss hb14 hln hnl HLP HLC HBC HNP HGOOD HLESS HBAD HCUT HFLAT HRIGHT hq15
 go_region_held3 (fun w' => w'.cell? ⟨b, off, none⟩ = some (.int .i64 pl) ∧ w'.cell? ⟨b, off + 1, none⟩ = some (.slice Ar 1 pr) ∧ w'.cell? ⟨b, off + 2, none⟩ = some (.string s) ∧ Hid (Below w14.heap.size w14 w'))
  (first | exact HE2.out _ hb0 | exact HE2.out _ hb0.drew | exact HE2.out _ (hb0.alloc hb0.size _) | exact HE2.out _ (hb0.alloc hb0.size _).drew | exact HE2.out _ (hb0.drew.alloc hb0.size _))
  (first
  | (go_at_call 24; refine HAL.out.mono ?_; rintro e w20 ⟨A20, p20, rfl, hq20⟩; clear hb0; have hb0 := hq20))
 all_goals
  clear HE2 HAL HQ15 HLI HG2 HL2 HTWICE y0 y1 y2
  go_wp2_with fail
  refine (HCU.out _ hb0).mono ?_
  rintro e w21 ⟨A21, p21, rfl, hq21⟩
  have hb21 := hb0.trans (hq21.mono hb0.size)
  clear hq21 hb0 hq20 HCU
  go_wp2_with fail
  refine (HS1.out _ hb21).mono ?_
  rintro e w22 ⟨rfl, hq22⟩
  have hb22 := hb21.trans (hq22.mono hb21.size)
  clear hq22 hb21 HS1
  go_wp2_with fail
  refine (HS2.out _ hb22).mono ?_
  rintro e w23 ⟨rfl, hq23⟩
  have hb23 := hb22.trans (hq23.mono hb22.size)
  clear hq23 hb22 HS2
  go_wp2_with fail
  refine (HNU.out _).mono ?_
  rintro e w24 ⟨rfl, hq24⟩
  have hb24 := hb23.trans (hq24.mono hb23.size)
  have hb24' := hb24.alloc hb24.size (.cells #[.string ⟨#[116, 97]⟩] 9)
  clear hq24 hb23 HNU
  go_wp2_with fail
  refine (HFI.out _ _ (lit_strs w24 9 [⟨#[116, 97]⟩] (by show 1 ≤ 1000; decide))).mono ?_
  rintro e w25 ⟨rfl, hq25⟩
  have hb25 := hb24'.trans (hq25.mono hb24'.size)
  have hb25' := hb25.alloc hb25.size (.cells #[.string ⟨#[116, 97]⟩] 9)
  clear hq25 hb24 hb24' HFI
  go_wp2_with fail
  refine (HNM.out _ _ (lit_strs w25 9 [⟨#[116, 97]⟩] (by show 1 ≤ 1000; decide))).mono ?_
  rintro e w26 ⟨rfl, hq26⟩
  have hb26 := hb25'.trans (hq26.mono hb25'.size)
  have hbe := HBE.out.trans (hb26.mono HBE.out.size)
  clear hq26 hb25 hb25' hb26 HNM
  go_wp2
  go_ret
  exact ⟨rfl, hbe⟩
end Go.Proofs.YtkgjbldlegcajaaGreat
