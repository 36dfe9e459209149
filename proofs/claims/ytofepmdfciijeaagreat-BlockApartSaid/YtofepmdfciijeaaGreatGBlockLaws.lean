/- The law BlockApart. -/
import Derived.Test.YtofepmdfciijeaaGreatGCell
import Derived.Test.YtofepmdfciijeaaGreatGBlockRef
import Derived.Test.YtofepmdfciijeaaGreatGBlockUnder
import Derived.Test.YtofepmdfciijeaaGreatGWeighRef
import Derived.Test.YtofepmdfciijeaaGreatGBlockOwn
import Derived.Test.YtofepmdfciijeaaGreatGZBlockSame
import Derived.Deep.RegionHeld3
/- The walk of layer 12's awake. -/
namespace Go.Proofs.YtofepmdfciijeaaGreat
open Go Go.RowKit

/-- A block that isn't one under columns, and one that is. -/
theorem rows_none_calls {w : World} {vb vc : Value} {l : List Tm} {cols : List (Int × Bool)} (h : BlkIn w vb (blockOf l 2)) (hc : ColsIn w vc cols) (hR : RowsK l 2) (hl : l.length ≤ 4096) (hN : InR (l.map Prod.snd)) (hcK : cols.length ≤ 1000000) (hn : readB l 2 cols = false) :
    Calls Tryz.prog 9 #[vb, vc] w fun e w' => ∃ A p, e = .returned (.tuple #[.slice A 0 p, .int .i64 2]) ∧ Below w.heap.size w w' := by
  refine (block_rows_calls 2 h hc hR hl hN hcK (by decide)).mono ?_
  rintro e w' ⟨v, rfl, ht, hq⟩
  rw [hn] at ht ⊢
  have ht' : TimesIn w' v [] := ht
  obtain ⟨tv, A, p, rfl, _, _⟩ := times_at ht'
  exact ⟨A, p, rfl, hq⟩
theorem rows_some_calls {w : World} {vb vc : Value} {l : List Tm} {cols : List (Int × Bool)} (h : BlkIn w vb (blockOf l 2)) (hc : ColsIn w vc cols) (hR : RowsK l 2) (hl : l.length ≤ 4096) (hN : InR (l.map Prod.snd)) (hcK : cols.length ≤ 1000000) (hn : readB l 2 cols = true) :
    Calls Tryz.prog 9 #[vb, vc] w fun e w' => ∃ A p, e = .returned (.tuple #[.slice A l.length p, .int .i64 0]) ∧ TimesIn w' (.slice A l.length p) l ∧ Below w.heap.size w w' := by
  refine (block_rows_calls 2 h hc hR hl hN hcK (by decide)).mono ?_
  rintro e w' ⟨v, rfl, ht, hq⟩
  rw [hn] at ht ⊢
  have ht' : TimesIn w' v l := ht
  obtain ⟨tv, A, p, rfl, _, _⟩ := times_at ht'
  exact ⟨A, p, rfl, ht', hq⟩

set_option maxHeartbeats 4000000 in
set_option maxRecDepth 100000 in
theorem awake_calls : Gives Tryz.prog 6 #[] (.bool true) := by
  intro w
  have HI1 := Lib.hid (int_calls 1 (by decide) (by decide))
  have HI2 := Lib.hid (int_calls 2 (by decide) (by decide))
  go_enter Tryz.func6, Tryz.ntmps6
  go_wp2_with fail
  have hcols : ColsIn (w.alloc (.cells #[.int .u8 105, .bool false, .int .u8 116, .bool true] 42)) (.slice (some ⟨w.heap.size, 0, none⟩) 2 2) colsE := lit_cols w 42 colsE (by decide)
  have hb := Below.alloc (.refl w.heap.size w) (Nat.le_refl _) (.cells #[.int .u8 105, .bool false, .int .u8 116, .bool true] 42)
  generalize w.alloc (.cells #[.int .u8 105, .bool false, .int .u8 116, .bool true] 42) = w0 at *
  refine HI1.out.stepB (w0 := w) (B := w.heap.size) hb hb.size ?_
  intro w1 hb1 _ hq1
  replace hcols := hcols.kept hq1
  clear hb hq1
  have hr1 : StrsIn (w1.alloc (.cells #[.string (cellInt 1), .string ⟨#[]⟩] 9)) (.slice (some ⟨w1.heap.size, 0, none⟩) 2 2) [cellInt 1, ⟨#[]⟩] := lit_strs w1 9 [cellInt 1, ⟨#[]⟩] (by show 2 ≤ 1000; decide)
  have hq := Below.alloc (.refl w1.heap.size w1) (Nat.le_refl _) (.cells #[.string (cellInt 1), .string ⟨#[]⟩] 9)
  replace hcols := hcols.kept hq
  have hb := hb1.trans (hq.mono hb1.size)
  clear hq hb1
  go_wp2_with fail
  generalize w1.alloc (.cells #[.string (cellInt 1), .string ⟨#[]⟩] 9) = w2 at *
  refine HI2.out.stepB (w0 := w) (B := w.heap.size) hb hb.size ?_
  intro w3 hb3 _ hq3
  replace hcols := hcols.kept hq3
  replace hr1 := StrsIn.kept hr1 hq3
  clear hb hq3
  have hr2 : StrsIn (w3.alloc (.cells #[.string (cellInt 2), .string ⟨#[116, 97]⟩] 9)) (.slice (some ⟨w3.heap.size, 0, none⟩) 2 2) [cellInt 2, tA12] := lit_strs w3 9 [cellInt 2, tA12] (by show 2 ≤ 1000; decide)
  have hq := Below.alloc (.refl w3.heap.size w3) (Nat.le_refl _) (.cells #[.string (cellInt 2), .string ⟨#[116, 97]⟩] 9)
  replace hcols := hcols.kept hq
  replace hr1 := StrsIn.kept hr1 hq
  have hb := hb3.trans (hq.mono hb3.size)
  clear hq hb3
  have hl : TimesIn ((w3.alloc (.cells #[.string (cellInt 2), .string ⟨#[116, 97]⟩] 9)).alloc (.cells #[.slice (some ⟨w1.heap.size, 0, none⟩) 2 2, .int .i64 2, .slice (some ⟨w3.heap.size, 0, none⟩) 2 2, .int .i64 1] 40)) (.slice (some ⟨w3.heap.size + 1, 0, none⟩) 2 2) rowsE := by
    have := lit_times (w3.alloc (.cells #[.string (cellInt 2), .string ⟨#[116, 97]⟩] 9)) 40 [(.slice (some ⟨w1.heap.size, 0, none⟩) 2 2, 2), (.slice (some ⟨w3.heap.size, 0, none⟩) 2 2, 1)] rowsE ⟨⟨hr1, rfl⟩, ⟨hr2, rfl⟩, trivial⟩ (by decide)
    rw [show (w3.alloc (.cells #[.string (cellInt 2), .string ⟨#[116, 97]⟩] 9)).heap.size = w3.heap.size + 1 by simp] at this
    exact this
  have hq := Below.alloc (.refl (w3.alloc (.cells #[.string (cellInt 2), .string ⟨#[116, 97]⟩] 9)).heap.size (w3.alloc (.cells #[.string (cellInt 2), .string ⟨#[116, 97]⟩] 9))) (Nat.le_refl _) (.cells #[.slice (some ⟨w1.heap.size, 0, none⟩) 2 2, .int .i64 2, .slice (some ⟨w3.heap.size, 0, none⟩) 2 2, .int .i64 1] 40)
  replace hcols := hcols.kept hq
  replace hb := hb.trans (hq.mono hb.size)
  clear hq hr1 hr2
  go_wp2_with fail
  generalize (w3.alloc (.cells #[.string (cellInt 2), .string ⟨#[116, 97]⟩] 9)).alloc (.cells #[.slice (some ⟨w1.heap.size, 0, none⟩) 2 2, .int .i64 2, .slice (some ⟨w3.heap.size, 0, none⟩) 2 2, .int .i64 1] 40) = w4 at *
  refine (block_of_calls hl 2 (sizes_of rows_E) (by decide) (by decide) in_E).mono ?_
  rintro e w5 ⟨v5, rfl, ⟨cv5, rfl, hc5⟩, hq5⟩
  obtain ⟨A5, p5, hv5, _⟩ := one_at hc5
  rw [show (blockOf rowsE 2).2.1.length = 2 from colsT_length _ _] at hv5
  subst hv5
  replace hcols := hcols.kept hq5
  replace hl := hl.kept hq5
  replace hb := hb.trans (hq5.mono hb.size)
  have hc5 : StrsIn w5 (.slice A5 2 p5) (colsT rowsE 2) := hc5
  clear hq5
  unfold blkA
  rw [blockOf_eq, show ((rowsE.length : Nat) : Int) = 2 from rfl]
  dsimp only
  have HBE := Lib.hid (blockOf_eq rowsE 2)
  rw [show ((rowsE.length : Nat) : Int) = 2 from rfl] at HBE
  generalize shelfB (rowsE.map Prod.snd) = s at *
  go_wp2_with fail
  have hx := bbox_lit w5 28 2 (.slice A5 2 p5) s
  have hq6 := Below.alloc (.refl w5.heap.size w5) (Nat.le_refl _) (.cells #[.int .i64 2, .slice A5 2 p5, .string s] 28)
  obtain ⟨B, hB⟩ : ∃ B, w5.heap.size = B := ⟨_, rfl⟩
  rw [hB] at hx ⊢
  replace hcols := hcols.kept hq6
  replace hl := hl.kept hq6
  replace hc5 := StrsIn.kept hc5 hq6
  replace hb := hb.trans (hq6.mono hb.size)
  clear hq6
  generalize w5.alloc (.cells #[.int .i64 2, .slice A5 2 p5, .string s] 28) = w6 at *
  clear hB
  have HBK : Hid (∀ w' : World, StrsIn w' (.slice A5 2 p5) (colsT rowsE 2) → BlkIn w' (.agg #[.int .i64 2, .slice A5 2 p5, .string s]) (blockOf rowsE 2)) := fun w' h => ⟨.slice A5 2 p5, by rw [HBE.out]; rfl, by rw [HBE.out]; exact h⟩
  refine (rows_some_calls (HBK.out w6 hc5) hcols rows_E (by decide) in_E (by decide) read_E).mono ?_
  rintro e w7 ⟨A7, p7, rfl, ht7, hq7⟩
  replace hcols := hcols.kept hq7
  replace hl := hl.kept hq7
  replace hc5 := StrsIn.kept hc5 hq7
  replace hx := hx.later hq7
  replace hb := hb.trans (hq7.mono hb.size)
  clear hq7
  rw [show rowsE.length = 2 from rfl] at ht7 ⊢
  obtain ⟨x0, x1, x2, _⟩ := hx.cells
  go_wp2_with fail
  have hcol1 : ColsIn w7 (.slice (some ⟨w.heap.size, 0, none⟩) 1 2) [(105, false)] := SliceOf.frontN (m := 1) hcols (by decide)
  have HR2 := Lib.hid (rows_none_calls ((HBK.out w7 hc5).kept (Below.drew (.refl _ _))) (hcol1.kept (Below.drew (.refl w7.heap.size w7))) rows_E (by decide) in_E (by decide) read_1)
  have HCO := Lib.hid hcols
  have HL := Lib.hid hl
  have HC5 := Lib.hid hc5
  have HX := Lib.hid hx
  have HB := Lib.hid hb
  have HT7 := Lib.hid ht7
  clear hcol1 hcols hl hc5 hx hb ht7
  go_region_with (go_at_call 9; refine HR2.out.mono ?_; rintro e w8 ⟨A8, p8, rfl, hq8⟩)
  all_goals
    have hq := (Below.drew (.refl w7.heap.size w7)).trans hq8
    have hcols := HCO.out.kept hq
    have hl := HL.out.kept hq
    have hc5 := StrsIn.kept HC5.out hq
    have hx := HX.out.later hq
    have hb := HB.out.trans (hq.mono HB.out.size)
    have ht7 := HT7.out.kept hq
    clear HCO HL HC5 HX HB HT7 hq hq8 HR2 x0 x1 x2
    obtain ⟨tv, Al, cl, hel, hrw, hat⟩ := times_at hl
    simp only [Value.slice.injEq] at hel
    obtain ⟨rfl, hz1, hz2⟩ := hel
    clear hz1 hz2
    obtain ⟨bl, ol, hbl, hbw, hcl⟩ := hat 0 (by decide)
    simp only [Option.some.injEq, Addr.mk.injEq, and_true] at hbl
    obtain ⟨rfl, rfl⟩ := hbl
    obtain ⟨r0, s0, _, c0, c1⟩ := hcl 0 (by decide)
    obtain ⟨r1, s1, _, c2, c3⟩ := hcl 1 (by decide)
    have s0' : StrsIn w8 r0 [cellInt 1, ⟨#[]⟩] := s0
    have s1' : StrsIn w8 r1 [cellInt 2, tA12] := s1
    obtain ⟨B0, q0, rfl, _⟩ := one_at s0'
    obtain ⟨B1, q1, rfl, _⟩ := one_at s1'
    have s0' : StrsIn w8 (.slice B0 2 q0) [cellInt 1, ⟨#[]⟩] := s0'
    have s1' : StrsIn w8 (.slice B1 2 q1) [cellInt 2, tA12] := s1'
    have e0 : w8.cell? ⟨w3.heap.size + 1, 0, none⟩ = some (.slice B0 2 q0) := c0
    have e1 : w8.cell? ⟨w3.heap.size + 1, 1, none⟩ = some (.int .i64 2) := c1
    have e2 : w8.cell? ⟨w3.heap.size + 1, 2, none⟩ = some (.slice B1 2 q1) := c2
    have e3 : w8.cell? ⟨w3.heap.size + 1, 3, none⟩ = some (.int .i64 1) := c3
    clear c0 c1 c2 c3 s0 s1 hat hcl hrw hbw
    have hlx : TimesIn (w8.alloc (.cells #[.slice B1 2 q1, .int .i64 1, .slice B0 2 q0, .int .i64 2] 40)) (.slice (some ⟨w8.heap.size, 0, none⟩) 2 2) rowsX :=
      lit_times w8 40 [(.slice B1 2 q1, 1), (.slice B0 2 q0, 2)] rowsX ⟨⟨s1', rfl⟩, ⟨s0', rfl⟩, trivial⟩ (by decide)
    have hqx := Below.drew (Below.alloc (.refl w8.heap.size w8) (Nat.le_refl _) (.cells #[.slice B1 2 q1, .int .i64 1, .slice B0 2 q0, .int .i64 2] 40))
    have HLX := Lib.hid (hlx.kept (Below.drew (.refl _ _)))
    have HQX := Lib.hid hqx
    have HCO := Lib.hid hcols
    have HL := Lib.hid hl
    have HC5 := Lib.hid hc5
    have HX := Lib.hid hx
    have HB := Lib.hid hb
    have HT7 := Lib.hid ht7
    clear hlx hqx hcols hl hc5 hx hb ht7 s0' s1'
    go_wp2_with fail
    go_simp
    have HE2 : Hid (∀ w', Below w8.heap.size w8 w' → w'.cell? ⟨w3.heap.size + 1, 0, none⟩ = some (.slice B0 2 q0) ∧ w'.cell? ⟨w3.heap.size + 1, 1, none⟩ = some (.int .i64 2) ∧ w'.cell? ⟨w3.heap.size + 1, 2, none⟩ = some (.slice B1 2 q1) ∧ w'.cell? ⟨w3.heap.size + 1, 3, none⟩ = some (.int .i64 1) ∧ Hid (Below w8.heap.size w8 w')) :=
      fun w' h => ⟨cell_kept e0 h, cell_kept e1 h, cell_kept e2 h, cell_kept e3 h, h⟩
    have hb0 := Below.refl w8.heap.size w8
    go_region_held3 (fun w' => w'.cell? ⟨w3.heap.size + 1, 0, none⟩ = some (.slice B0 2 q0) ∧ w'.cell? ⟨w3.heap.size + 1, 1, none⟩ = some (.int .i64 2) ∧ w'.cell? ⟨w3.heap.size + 1, 2, none⟩ = some (.slice B1 2 q1) ∧ w'.cell? ⟨w3.heap.size + 1, 3, none⟩ = some (.int .i64 1) ∧ Hid (Below w8.heap.size w8 w'))
      (first | exact HE2.out _ hb0 | exact HE2.out _ hb0.drew | exact HE2.out _ (hb0.alloc (Nat.le_refl _) _).drew | exact HE2.out _ (hb0.drew.alloc (Nat.le_refl _) _))
      (first
      | (go_at_call 7; refine (block_of_calls HLX.out 2 (sizes_of rows_X) (by decide) (by decide) in_X).mono ?_; rintro e w9 ⟨v9, rfl, ⟨cv9, rfl, hc9⟩, hq9⟩; have HC9 := Lib.hid hc9; have HQ9 := Lib.hid hq9; clear hb0; have hb0 := HQX.out.trans (hq9.mono HQX.out.size))
      | (go_at_call 9; refine (rows_none_calls ⟨cv9, rfl, HC9.out⟩ (HCO.out.kept (HQX.out.trans (HQ9.out.mono HQX.out.size))) rows_X (by decide) in_X (by decide) read_X).mono ?_; rintro e w10 ⟨A10, p10, rfl, hq10⟩; clear hb0; have hb0 := HQX.out.trans ((HQ9.out.trans (hq10.mono HQ9.out.size)).mono HQX.out.size)))
    all_goals
      have hq := HQX.out.trans ((HQ9.out.trans (hq10.mono HQ9.out.size)).mono HQX.out.size)
      have hcols := HCO.out.kept hq
      have hl := HL.out.kept hq
      have hc5 := StrsIn.kept HC5.out hq
      have hx := HX.out.later hq
      have hb := HB.out.trans (hq.mono HB.out.size)
      have ht7 := HT7.out.kept hq
      clear HCO HL HC5 HX HB HT7 hq hq9 hq10 hc9 HQ9 HC9 HQX HLX e0 e1 e2 e3
      go_wp2_with fail
      refine (block_of_calls (l := []) (TimesIn.nil_ w10 none 0) 2 (sizes_of rows_0) (by decide) (by decide) (fun n hn => absurd hn (by simp))).mono ?_
      rintro e w11 ⟨v11, rfl, ⟨cv11, rfl, hc11⟩, hq11⟩
      replace hcols := hcols.kept hq11
      replace hl := hl.kept hq11
      replace hc5 := StrsIn.kept hc5 hq11
      replace hx := hx.later hq11
      replace ht7 := ht7.kept hq11
      replace hb := hb.trans (hq11.mono hb.size)
      clear hq11
      go_wp2_with fail
      refine (rows_none_calls (l := []) ⟨cv11, rfl, hc11⟩ hcols rows_0 (by decide) (fun n hn => absurd hn (by simp)) (by decide) read_0).mono ?_
      rintro e w12 ⟨A12, p12, rfl, hq12⟩
      replace hl := hl.kept hq12
      replace hc5 := StrsIn.kept hc5 hq12
      replace hx := hx.later hq12
      replace ht7 := ht7.kept hq12
      replace hb := hb.trans (hq12.mono hb.size)
      clear hq12 hcols hc11
      obtain ⟨x0, x1, x2, _⟩ := hx.cells
      go_wp2_with fail
      have hcolN : ColsIn (w12.alloc (.cells #[.int .u8 105, .bool false, .int .u8 116, .bool false] 42)) (.slice (some ⟨w12.heap.size, 0, none⟩) 2 2) colsN := lit_cols w12 42 colsN (by decide)
      have hq13 := Below.alloc (.refl w12.heap.size w12) (Nat.le_refl _) (.cells #[.int .u8 105, .bool false, .int .u8 116, .bool false] 42)
      refine (rows_none_calls (HBK.out _ (StrsIn.kept hc5 hq13)) hcolN rows_E (by decide) in_E (by decide) read_N).mono ?_
      rintro e w14 ⟨A14, p14, rfl, hq14⟩
      have hq := hq13.trans (hq14.mono hq13.size)
      replace hl := hl.kept hq
      replace hx := hx.later hq
      replace ht7 := ht7.kept hq
      replace hb := hb.trans (hq.mono hb.size)
      clear hq hq13 hq14 hcolN hc5 x0 x1 x2
      obtain ⟨x0, x1, x2, _⟩ := hx.cells
      have HS := same_times ht7 hl (by decide) (fun t ht => by have := (rows_E t ht).1; omega) (fun t ht => by have := (rows_E t ht).1; omega)
      rw [decide_eq_true rfl] at HS
      have HSS := Lib.hid HS
      clear HS hl ht7 hx
      go_wp2_with fail
      refine HSS.out.step (w0 := w) (B := w.heap.size) hb hb.size ?_
      clear hb
      intro w15 hb _
      go_wp2
      go_ret
      exact ⟨rfl, hb⟩
end Go.Proofs.YtofepmdfciijeaaGreat
/- The law BlockTells. -/
namespace Go.Proofs.YtofepmdfciijeaaGreat
open Go Go.RowKit

theorem bbox_of {w : World} {T : TypeId} {n : Int} {cv : Value} {s : ByteArray} : BBox (w.alloc (.cells #[.int .i64 n, cv, .string s] T)) w.heap.size n cv s := bbox_lit w T n cv s

set_option maxHeartbeats 4000000 in
set_option maxRecDepth 100000 in
theorem blockTells_calls {w : World} {vc v : Value} {cols : List (Int × Bool)} {l : List Tm} (hc : ColsIn w vc cols) (h : TimesIn w v l) : GivesAt Tryz.prog 3 #[vc, v] w (.bool true) := by
  have hcm := hc.len
  unfold maxLen at hcm
  obtain ⟨hb, hB⟩ := start w
  have HU := under_calls h hc
  obtain ⟨tv, A1, cap1, rfl, _, _⟩ := times_at h
  obtain ⟨A2, p2, rfl, _⟩ := cols_at hc
  unfold GivesAt
  by_cases hl : 10 < cols.length
  · have d1 : decide (10 < (cols.length : Int)) = true := by rw [decide_eq_true_eq]; omega
    clear h hc HU hl
    go_enter Tryz.func3, Tryz.ntmps3
    go_wp2_with (go_at_call 6; refine awake_calls.step (w0 := w) (B := w.heap.size) hb hB ?_; clear hb hB; intro w' hb hB)
    go_ret
    exact ⟨rfl, hb⟩
  · have d1 : decide (10 < (cols.length : Int)) = false := by rw [decide_eq_false_iff_not]; omega
    cases hu : underB l cols with
    | false =>
      rw [hu] at HU
      have HUU := Lib.hid HU
      clear h hc HU hl hu
      go_enter Tryz.func3, Tryz.ntmps3
      go_wp2_with (first | (go_at_call 5; refine HUU.out.step (w0 := w) (B := w.heap.size) hb hB ?_; clear hb hB; intro w' hb hB) | (go_at_call 6; refine awake_calls.step (w0 := w) (B := w.heap.size) hb hB ?_; clear hb hB; intro w' hb hB))
      go_ret
      exact ⟨rfl, hb⟩
    | true =>
      rw [hu] at HU
      have HUU := Lib.hid HU
      obtain ⟨hlen, hR, hN, hkd⟩ := under_facts hu
      have HRD := Lib.hid (under_read hu)
      have HR := Lib.hid hR
      have HN := Lib.hid hN
      have HKD := Lib.hid hkd
      have HH := Lib.hid h
      have HCC := Lib.hid hc
      have HSZ : Hid (∀ t ∈ l, cols.length ≤ t.1.length ∧ ∀ c ∈ t.1, c.size ≤ 1000000) := fun t ht => by
        obtain ⟨e, hr⟩ := hR t ht
        exact ⟨by omega, fun c hc => Nat.le_trans (rightB_size (hr c hc)) (by decide)⟩
      have HRP : Hid (∀ (w' : World) (vb vc : Value), BlkIn w' vb (blockOf l cols.length) → ColsIn w' vc cols → Calls Tryz.prog 9 #[vb, vc] w' (ReadEnd w' (goodB l) l)) := fun w' vb vc h1 h2 => by
        have := block_rows_calls cols.length h1 h2 hR (by omega) hN (by omega) (by omega)
        rwa [under_read hu] at this
      have HRW : Hid (∀ (w' : World) (vb vc : Value), BlkIn w' vb (blockOf l cols.length) → ColsIn w' vc cols → Calls Tryz.prog 10 #[vb, vc] w' (ReadEnd w' (goodB l) l)) := fun w' vb vc h1 h2 =>
        ref_block_rows_calls h1 h2 hR hkd (by omega) hN (by omega)
      have HLL : Hid ((if goodB l = true then l else []).length ≤ 1000000 ∧ ∀ t ∈ (if goodB l = true then l else []), t.1.length ≤ 1000000) := by
        show _ ∧ _
        split
        · exact ⟨by omega, fun t ht => by have := (hR t ht).1; omega⟩
        · exact ⟨by simp, fun t ht => absurd ht (by simp)⟩
      unfold ReadEnd at HRP HRW
      generalize (if goodB l = true then (0 : Int) else 2) = E at *
      generalize (if goodB l = true then l else []) = L at *
      clear h hc HU hu hR hN hkd HRD HKD
      go_enter Tryz.func3, Tryz.ntmps3
      go_wp2_with (go_at_call 5; refine HUU.out.stepB (w0 := w) (B := w.heap.size) hb hB ?_; clear hb hB; intro w1 hb hB hq1)
      have hH1 := HH.out.kept hq1
      clear hq1
      refine (block_of_calls hH1 cols.length HSZ.out (by omega) (by omega) HN.out).mono ?_
      rintro e w2 ⟨v2, rfl, ⟨cv2, rfl, hc2⟩, hq2⟩
      have hH2 := hH1.kept hq2
      replace hb := hb.trans (hq2.mono hB)
      replace hB := hb.size
      clear hH1 hq2
      obtain ⟨A3, p3, hv3, _⟩ := one_at hc2
      rw [show (blockOf l cols.length).2.1.length = cols.length from colsT_length _ _] at hv3
      subst hv3
      have HC2 : Hid (StrsIn w2 (.slice A3 cols.length p3) (colsT l cols.length)) := hc2
      clear hc2
      unfold blkA
      rw [blockOf_eq]
      dsimp only
      go_wp2_with fail
      refine (ref_block_of_calls hH2 cols.length HSZ.out (by omega) (by omega) HN.out).mono ?_
      rintro e w3 ⟨v3, rfl, ⟨cv3, rfl, hc3⟩, hq3⟩
      have HH3 := Lib.hid (hH2.kept hq3)
      have HC2b := Lib.hid (StrsIn.kept HC2.out hq3)
      replace hb := hb.trans (hq3.mono hB)
      replace hB := hb.size
      clear hH2 hq3 HC2
      obtain ⟨A4, p4, hv4, _⟩ := one_at hc3
      rw [show (blockOf l cols.length).2.1.length = cols.length from colsT_length _ _] at hv4
      subst hv4
      have HC3 : Hid (StrsIn w3 (.slice A4 cols.length p4) (colsT l cols.length)) := hc3
      clear hc3
      unfold blkA
      rw [blockOf_eq]
      dsimp only
      go_wp2_with fail
      have q : ∀ (w : World) (o : Obj), Below w.heap.size w (w.alloc o) := fun w o => Below.alloc (.refl _ _) (Nat.le_refl _) o
      have HBE := Lib.hid (blockOf_eq l cols.length)
      generalize shelfB (l.map Prod.snd) = s at *
      have hx3 := (bbox_lit w3 28 l.length (.slice A3 cols.length p3) s).later (q _ (.cells #[.int .i64 l.length, .slice A4 cols.length p4, .string s] 28))
      have hx4 := bbox_lit (w3.alloc (.cells #[.int .i64 l.length, .slice A3 cols.length p3, .string s] 28)) 28 l.length (.slice A4 cols.length p4) s
      rw [show (w3.alloc (.cells #[.int .i64 l.length, .slice A3 cols.length p3, .string s] 28)).heap.size = w3.heap.size + 1 by simp] at hx4
      have hq4 := (q w3 (.cells #[.int .i64 l.length, .slice A3 cols.length p3, .string s] 28)).alloc (by simp) (.cells #[.int .i64 l.length, .slice A4 cols.length p4, .string s] 28)
      generalize (w3.alloc (.cells #[.int .i64 l.length, .slice A3 cols.length p3, .string s] 28)).alloc (.cells #[.int .i64 l.length, .slice A4 cols.length p4, .string s] 28) = w4 at *
      have hc2 := StrsIn.kept HC2b.out hq4
      have hc3 := StrsIn.kept HC3.out hq4
      replace hb := hb.trans (hq4.mono hB)
      replace hB := hb.size
      clear hq4 HC2b HC3 q
      refine (HRP.out w4 _ _ ⟨.slice A4 cols.length p4, by rw [HBE.out]; rfl, by rw [HBE.out]; exact hc3⟩ (HCC.out.kept hb)).mono ?_
      rintro e w5 ⟨v5, rfl, ht5, hq5⟩
      replace hc2 := StrsIn.kept hc2 hq5
      replace hc3 := StrsIn.kept hc3 hq5
      replace hx3 := hx3.later hq5
      replace hx4 := hx4.later hq5
      replace hb := hb.trans (hq5.mono hB)
      replace hB := hb.size
      clear hq5
      obtain ⟨tv5, A5, p5, rfl, _, _⟩ := times_at ht5
      obtain ⟨x0, x1, x2, _⟩ := hx4.cells
      go_wp2_with fail
      refine (HRW.out w5 _ _ ⟨.slice A4 cols.length p4, by rw [HBE.out]; rfl, by rw [HBE.out]; exact hc3⟩ (HCC.out.kept hb)).mono ?_
      rintro e w6 ⟨v6, rfl, ht6, hq6⟩
      replace hc2 := StrsIn.kept hc2 hq6
      replace hc3 := StrsIn.kept hc3 hq6
      replace hx3 := hx3.later hq6
      replace hx4 := hx4.later hq6
      replace ht5 := ht5.kept hq6
      replace hb := hb.trans (hq6.mono hB)
      replace hB := hb.size
      clear hq6 x0 x1 x2
      obtain ⟨tv6, A6, p6, rfl, _, _⟩ := times_at ht6
      go_wp2_with fail
      refine awake_calls.stepB (w0 := w) (B := w.heap.size) hb hB ?_
      clear hb hB
      intro w7 hb hB hq7
      replace hc2 := StrsIn.kept hc2 hq7
      replace hc3 := StrsIn.kept hc3 hq7
      replace hx3 := hx3.later hq7
      replace hx4 := hx4.later hq7
      replace ht5 := ht5.kept hq7
      replace ht6 := ht6.kept hq7
      clear hq7
      obtain ⟨x0, x1, x2, _⟩ := hx3.cells
      obtain ⟨y0, y1, y2, _⟩ := (hx4.later ((Below.alloc (.refl w7.heap.size w7) (Nat.le_refl _) (.cells #[.int .i64 l.length, .slice A3 cols.length p3, .string s] 28)))).cells
      go_wp2_with fail
      have h1 : BlksIn (w7.alloc (.cells #[.int .i64 l.length, .slice A3 cols.length p3, .string s] 28)) (.slice (some ⟨w7.heap.size, 0, none⟩) 1 1) [((l.length : Int), colsT l cols.length, s)] :=
        lit_blks w7 28 [(.slice A3 cols.length p3, ((l.length : Int), colsT l cols.length, s))] (fun t ht => by rw [List.mem_singleton.1 ht]; exact hc2) (by show 1 ≤ 1000; decide)
      have hqa := Below.alloc (.refl w7.heap.size w7) (Nat.le_refl _) (.cells #[.int .i64 l.length, .slice A3 cols.length p3, .string s] 28)
      have h2 : BlksIn ((w7.alloc (.cells #[.int .i64 l.length, .slice A3 cols.length p3, .string s] 28)).alloc (.cells #[.int .i64 l.length, .slice A4 cols.length p4, .string s] 28)) (.slice (some ⟨w7.heap.size + 1, 0, none⟩) 1 1) [((l.length : Int), colsT l cols.length, s)] := by
        have := lit_blks (w7.alloc (.cells #[.int .i64 l.length, .slice A3 cols.length p3, .string s] 28)) 28 [(.slice A4 cols.length p4, ((l.length : Int), colsT l cols.length, s))] (fun t ht => by rw [List.mem_singleton.1 ht]; exact StrsIn.kept hc3 hqa) (by show 1 ≤ 1000; decide)
        rw [show (w7.alloc (.cells #[.int .i64 l.length, .slice A3 cols.length p3, .string s] 28)).heap.size = w7.heap.size + 1 by simp] at this
        exact this
      replace h1 := h1.kept (Below.alloc (.refl _ _) (Nat.le_refl _) (.cells #[.int .i64 l.length, .slice A4 cols.length p4, .string s] 28))
      have hqb := hqa.alloc (by simp) (.cells #[.int .i64 l.length, .slice A4 cols.length p4, .string s] 28)
      have hlc : ∀ t ∈ [((l.length : Int), colsT l cols.length, s)], t.2.1.length ≤ 1000000 := fun t ht => by rw [List.mem_singleton.1 ht]; show (colsT l cols.length).length ≤ _; rw [colsT_length]; omega
      have HSB := same_blks h1 h2 (by show 1 ≤ 1000000; decide) hlc hlc
      rw [decide_eq_true rfl] at HSB
      have ht5b := ht5.kept hqb
      have ht6b := ht6.kept hqb
      replace hb := hb.trans (hqb.mono hB)
      replace hB := hb.size
      clear h1 h2 hqa hqb hlc x0 x1 x2 y0 y1 y2 hx3 hx4 hc2 hc3 ht5 ht6
      refine HSB.stepB (w0 := w) (B := w.heap.size) hb hB ?_
      clear hb hB HSB
      intro w8 hb hB hq8
      have HST := same_times (ht5b.kept hq8) (ht6b.kept hq8) HLL.out.1 HLL.out.2 HLL.out.2
      rw [decide_eq_true rfl] at HST
      clear hq8 ht5b ht6b
      go_wp2_with fail
      refine HST.stepB (w0 := w) (B := w.heap.size) hb hB ?_
      clear hb hB HST
      intro w9 hb hB _
      go_wp2
      go_ret
      exact ⟨ret_bool (by simp), hb⟩
end Go.Proofs.YtofepmdfciijeaaGreat
namespace Go.Proofs.YtofepmdfciijeaaGreat
open Go Go.RowKit

theorem blocks_alike {l m : List Tm} {k : Nat} (hl : RowsK l k) (hm : RowsK m k) (h1 : l.length ≤ 4096) (rl : InR (l.map Prod.snd)) (rm : InR (m.map Prod.snd)) :
    decide ([((l.length : Int), colsT l k, shelfB (l.map Prod.snd))] = [((m.length : Int), colsT m k, shelfB (m.map Prod.snd))]) = decide (l = m) := by
  have h := blockOf_same hl hm h1 rl rm
  rw [blockOf_eq, blockOf_eq] at h
  refine decide_eq_decide.2 ⟨fun e => h.1 (List.cons.inj e).1, fun e => by rw [h.2 e]⟩

set_option maxHeartbeats 4000000 in
set_option maxRecDepth 100000 in
theorem blockApart_calls {w : World} {vc v u : Value} {cols : List (Int × Bool)} {l m : List Tm} (hc : ColsIn w vc cols) (h : TimesIn w v l) (k : TimesIn w u m) : GivesAt Tryz.prog 4 #[vc, v, u] w (.bool true) := by
  have hcm := hc.len
  unfold maxLen at hcm
  obtain ⟨hb, hB⟩ := start w
  have hU1 := under_calls h hc
  have HU2 : Hid (∀ w', Below w.heap.size w w' → GivesAt Tryz.prog 5 #[u, vc] w' (.bool (underB m cols))) := fun w' hq => under_calls (k.kept hq) (hc.kept hq)
  obtain ⟨tv, A1, cap1, rfl, _, _⟩ := times_at h
  obtain ⟨tu, A5, cap5, rfl, _, _⟩ := times_at k
  obtain ⟨A2, p2, rfl, _⟩ := cols_at hc
  unfold GivesAt
  by_cases hl : 10 < cols.length
  · have d1 : decide (10 < (cols.length : Int)) = true := by rw [decide_eq_true_eq]; omega
    clear h k hc hU1 HU2 hl
    go_enter Tryz.func4, Tryz.ntmps4
    go_wp2_with fail
    refine awake_calls.step (w0 := w) (B := w.heap.size) hb hB ?_
    clear hb hB
    intro w' hb hB
    go_wp2
    go_ret
    exact ⟨rfl, hb⟩
  · have d1 : decide (10 < (cols.length : Int)) = false := by rw [decide_eq_false_iff_not]; omega
    cases hu : underB l cols with
    | false =>
      rw [hu] at hU1
      have HU1 := Lib.hid hU1
      clear h k hc hU1 HU2 hl hu
      go_enter Tryz.func4, Tryz.ntmps4
      go_wp2_with fail
      refine HU1.out.stepB (w0 := w) (B := w.heap.size) hb hB ?_
      clear hb hB
      intro w1 hb hB hq1
      go_wp2_with fail
      refine awake_calls.step (w0 := w) (B := w.heap.size) hb hB ?_
      clear hb hB
      intro w' hb hB
      go_wp2
      go_ret
      exact ⟨rfl, hb⟩
    | true =>
      rw [hu] at hU1
      have HU1 := Lib.hid hU1
      obtain ⟨hlen, hR, hN, _⟩ := under_facts hu
      cases hv : underB m cols with
      | false =>
        rw [hv] at HU2
        clear h k hc hU1 hl hu hv hR hN
        go_enter Tryz.func4, Tryz.ntmps4
        go_wp2_with fail
        refine HU1.out.stepB (w0 := w) (B := w.heap.size) hb hB ?_
        clear hb hB
        intro w1 hb hB hq1
        go_wp2_with fail
        refine (HU2.out w1 hq1).stepB (w0 := w) (B := w.heap.size) hb hB ?_
        clear hb hB
        intro w2 hb hB hq2
        go_wp2_with fail
        refine awake_calls.step (w0 := w) (B := w.heap.size) hb hB ?_
        clear hb hB
        intro w' hb hB
        go_wp2
        go_ret
        exact ⟨rfl, hb⟩
      | true =>
        rw [hv] at HU2
        obtain ⟨hlen2, hR2, hN2, _⟩ := under_facts hv
        by_cases h0 : l.length = 0
        · have d2 : ((l.length : Int) == 0) = true := by rw [beq_iff_eq]; omega
          clear h k hc hU1 hl hu hv hR hN hR2 hN2 h0
          go_enter Tryz.func4, Tryz.ntmps4
          go_wp2_with fail
          refine HU1.out.stepB (w0 := w) (B := w.heap.size) hb hB ?_
          clear hb hB
          intro w1 hb hB hq1
          go_wp2_with fail
          refine (HU2.out w1 hq1).stepB (w0 := w) (B := w.heap.size) hb hB ?_
          clear hb hB
          intro w2 hb hB hq2
          go_wp2_with fail
          refine awake_calls.step (w0 := w) (B := w.heap.size) hb hB ?_
          clear hb hB
          intro w' hb hB
          go_wp2
          go_ret
          exact ⟨rfl, hb⟩
        · have d2 : ((l.length : Int) == 0) = false := by rw [beq_eq_false_iff_ne]; omega
          by_cases h02 : m.length = 0
          · have d3 : ((m.length : Int) == 0) = true := by rw [beq_iff_eq]; omega
            clear h k hc hU1 hl hu hv hR hN hR2 hN2 h0 h02
            go_enter Tryz.func4, Tryz.ntmps4
            go_wp2_with fail
            refine HU1.out.stepB (w0 := w) (B := w.heap.size) hb hB ?_
            clear hb hB
            intro w1 hb hB hq1
            go_wp2_with fail
            refine (HU2.out w1 hq1).stepB (w0 := w) (B := w.heap.size) hb hB ?_
            clear hb hB
            intro w2 hb hB hq2
            go_wp2_with fail
            refine awake_calls.step (w0 := w) (B := w.heap.size) hb hB ?_
            clear hb hB
            intro w' hb hB
            go_wp2
            go_ret
            exact ⟨rfl, hb⟩
          · have d3 : ((m.length : Int) == 0) = false := by rw [beq_eq_false_iff_ne]; omega
            have HBS := Lib.hid (blocks_alike hR hR2 (by omega) hN hN2)
            have HNl := Lib.hid hN
            have HNm := Lib.hid hN2
            have HSZl : Hid (∀ t ∈ l, cols.length ≤ t.1.length ∧ ∀ c ∈ t.1, c.size ≤ 1000000) := fun t ht => by
              obtain ⟨e, hr⟩ := hR t ht
              exact ⟨by omega, fun c hc => Nat.le_trans (rightB_size (hr c hc)) (by decide)⟩
            have HSZm : Hid (∀ t ∈ m, cols.length ≤ t.1.length ∧ ∀ c ∈ t.1, c.size ≤ 1000000) := fun t ht => by
              obtain ⟨e, hr⟩ := hR2 t ht
              exact ⟨by omega, fun c hc => Nat.le_trans (rightB_size (hr c hc)) (by decide)⟩
            have HLl : Hid (∀ t ∈ l, t.1.length ≤ 1000000) := fun t ht => by have := (hR t ht).1; omega
            have HLm : Hid (∀ t ∈ m, t.1.length ≤ 1000000) := fun t ht => by have := (hR2 t ht).1; omega
            have HH := Lib.hid h
            have HK := Lib.hid k
            clear h k hc hU1 hu hv hR hN hR2 hN2 h0 h02
            go_enter Tryz.func4, Tryz.ntmps4
            go_wp2_with fail
            refine HU1.out.stepB (w0 := w) (B := w.heap.size) hb hB ?_
            clear hb hB
            intro w1 hb hB hq1
            go_wp2_with fail
            refine (HU2.out w1 hq1).stepB (w0 := w) (B := w.heap.size) hb hB ?_
            clear hb hB
            intro w2 hb hB hq2
            have hH2 := HH.out.kept hb
            clear hq1 hq2
            go_wp2_with fail
            refine (block_of_calls hH2 cols.length HSZl.out (by omega) (by omega) HNl.out).mono ?_
            rintro e w3 ⟨v3, rfl, ⟨cv3, rfl, hc3⟩, hq3⟩
            replace hb := hb.trans (hq3.mono hB)
            replace hB := hb.size
            obtain ⟨A3, p3, hv3, _⟩ := one_at hc3
            rw [show (blockOf l cols.length).2.1.length = cols.length from colsT_length _ _] at hv3
            subst hv3
            have HC3 : Hid (StrsIn w3 (.slice A3 cols.length p3) (colsT l cols.length)) := hc3
            clear hc3
            unfold blkA
            rw [blockOf_eq]
            dsimp only
            have hK3 := HK.out.kept hb
            clear hH2 hq3
            go_wp2_with fail
            refine (block_of_calls hK3 cols.length HSZm.out (by omega) (by omega) HNm.out).mono ?_
            rintro e w4 ⟨v4, rfl, ⟨cv4, rfl, hc4⟩, hq4⟩
            replace hb := hb.trans (hq4.mono hB)
            replace hB := hb.size
            obtain ⟨A4, p4, hv4, _⟩ := one_at hc4
            rw [show (blockOf m cols.length).2.1.length = cols.length from colsT_length _ _] at hv4
            subst hv4
            have HC4 : Hid (StrsIn w4 (.slice A4 cols.length p4) (colsT m cols.length)) := hc4
            clear hc4
            unfold blkA
            rw [blockOf_eq]
            dsimp only
            have hH4 := HH.out.kept hb
            have hK4 := HK.out.kept hb
            have hc3 := StrsIn.kept HC3.out hq4
            have hc4 := HC4.out
            clear hK3 hq4 HC3 HC4
            generalize shelfB (l.map Prod.snd) = s at *
            generalize shelfB (m.map Prod.snd) = t at *
            go_wp2_with fail
            have q : ∀ (w : World) (o : Obj), Below w.heap.size w (w.alloc o) := fun w o => Below.alloc (.refl _ _) (Nat.le_refl _) o
            have hx3 := (bbox_lit w4 28 l.length (.slice A3 cols.length p3) s).later (q _ (.cells #[.int .i64 m.length, .slice A4 cols.length p4, .string t] 28))
            have hx4 := bbox_lit (w4.alloc (.cells #[.int .i64 l.length, .slice A3 cols.length p3, .string s] 28)) 28 m.length (.slice A4 cols.length p4) t
            rw [show (w4.alloc (.cells #[.int .i64 l.length, .slice A3 cols.length p3, .string s] 28)).heap.size = w4.heap.size + 1 by simp] at hx4
            have hq5 := (q w4 (.cells #[.int .i64 l.length, .slice A3 cols.length p3, .string s] 28)).alloc (by simp) (.cells #[.int .i64 m.length, .slice A4 cols.length p4, .string t] 28)
            generalize (w4.alloc (.cells #[.int .i64 l.length, .slice A3 cols.length p3, .string s] 28)).alloc (.cells #[.int .i64 m.length, .slice A4 cols.length p4, .string t] 28) = w5 at *
            replace hc3 := StrsIn.kept hc3 hq5
            replace hc4 := StrsIn.kept hc4 hq5
            replace hH4 := hH4.kept hq5
            replace hK4 := hK4.kept hq5
            replace hb := hb.trans (hq5.mono hB)
            replace hB := hb.size
            clear hq5 q
            refine awake_calls.stepB (w0 := w) (B := w.heap.size) hb hB ?_
            clear hb hB
            intro w7 hb hB hq7
            replace hc3 := StrsIn.kept hc3 hq7
            replace hc4 := StrsIn.kept hc4 hq7
            replace hx3 := hx3.later hq7
            replace hx4 := hx4.later hq7
            replace hH4 := hH4.kept hq7
            replace hK4 := hK4.kept hq7
            clear hq7
            obtain ⟨x0, x1, x2, _⟩ := hx3.cells
            obtain ⟨y0, y1, y2, _⟩ := (hx4.later ((Below.alloc (.refl w7.heap.size w7) (Nat.le_refl _) (.cells #[.int .i64 l.length, .slice A3 cols.length p3, .string s] 28)))).cells
            go_wp2_with fail
            have h1 : BlksIn (w7.alloc (.cells #[.int .i64 l.length, .slice A3 cols.length p3, .string s] 28)) (.slice (some ⟨w7.heap.size, 0, none⟩) 1 1) [((l.length : Int), colsT l cols.length, s)] :=
              lit_blks w7 28 [(.slice A3 cols.length p3, ((l.length : Int), colsT l cols.length, s))] (fun x hx => by rw [List.mem_singleton.1 hx]; exact hc3) (by show 1 ≤ 1000; decide)
            have hqa := Below.alloc (.refl w7.heap.size w7) (Nat.le_refl _) (.cells #[.int .i64 l.length, .slice A3 cols.length p3, .string s] 28)
            have h2 : BlksIn ((w7.alloc (.cells #[.int .i64 l.length, .slice A3 cols.length p3, .string s] 28)).alloc (.cells #[.int .i64 m.length, .slice A4 cols.length p4, .string t] 28)) (.slice (some ⟨w7.heap.size + 1, 0, none⟩) 1 1) [((m.length : Int), colsT m cols.length, t)] := by
              have := lit_blks (w7.alloc (.cells #[.int .i64 l.length, .slice A3 cols.length p3, .string s] 28)) 28 [(.slice A4 cols.length p4, ((m.length : Int), colsT m cols.length, t))] (fun x hx => by rw [List.mem_singleton.1 hx]; exact StrsIn.kept hc4 hqa) (by show 1 ≤ 1000; decide)
              rw [show (w7.alloc (.cells #[.int .i64 l.length, .slice A3 cols.length p3, .string s] 28)).heap.size = w7.heap.size + 1 by simp] at this
              exact this
            replace h1 := h1.kept (Below.alloc (.refl _ _) (Nat.le_refl _) (.cells #[.int .i64 m.length, .slice A4 cols.length p4, .string t] 28))
            have hqb := hqa.alloc (by simp) (.cells #[.int .i64 m.length, .slice A4 cols.length p4, .string t] 28)
            have hlc : ∀ x ∈ [((l.length : Int), colsT l cols.length, s)], x.2.1.length ≤ 1000000 := fun x hx => by rw [List.mem_singleton.1 hx]; show (colsT l cols.length).length ≤ _; rw [colsT_length]; omega
            have hld : ∀ x ∈ [((m.length : Int), colsT m cols.length, t)], x.2.1.length ≤ 1000000 := fun x hx => by rw [List.mem_singleton.1 hx]; show (colsT m cols.length).length ≤ _; rw [colsT_length]; omega
            have HSB := same_blks h1 h2 (by show 1 ≤ 1000000; decide) hlc hld
            rw [HBS.out] at HSB
            have HST0 := same_times (hH4.kept hqb) (hK4.kept hqb) (by omega) HLl.out HLm.out
            replace hH4 := hH4.kept hqb
            replace hK4 := hK4.kept hqb
            replace hb := hb.trans (hqb.mono hB)
            replace hB := hb.size
            clear h1 h2 hqa hqb hlc hld x0 x1 x2 y0 y1 y2 hx3 hx4 hc3 hc4 HST0
            generalize hD : decide (l = m) = d at *
            have HDD := Lib.hid hD
            clear hD
            refine HSB.stepB (w0 := w) (B := w.heap.size) hb hB ?_
            clear hb hB HSB
            intro w8 hb hB hq8
            have HST := same_times (hH4.kept hq8) (hK4.kept hq8) (by omega) HLl.out HLm.out
            rw [HDD.out] at HST
            clear hq8 hH4 hK4
            go_wp2_with fail
            refine HST.stepB (w0 := w) (B := w.heap.size) hb hB ?_
            clear hb hB HST
            intro w9 hb hB _
            cases d with
            | true =>
              go_wp2
              go_ret
              exact ⟨ret_bool (by simp), hb⟩
            | false =>
              go_wp2
              go_ret
              exact ⟨ret_bool (by simp), hb⟩
end Go.Proofs.YtofepmdfciijeaaGreat
