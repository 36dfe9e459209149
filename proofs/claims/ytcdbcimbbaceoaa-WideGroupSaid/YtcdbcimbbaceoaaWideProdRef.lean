/- The contract of the answer's Product of layer 11. -/
import Derived.Test.YtcdbcimbbaceoaaWideBits
import Derived.Test.YtcdbcimbbaceoaaWideRefC
namespace Go.Proofs.Ytcdbcimbbaceoaa
open Go Go.RowKit

set_option maxHeartbeats 4000000 in
theorem ref_wide_product_calls {a b : Int} (h0 : -9223372036854775808 ≤ a) (h1 : a ≤ 9223372036854775807) (g0 : -9223372036854775808 ≤ b) (g1 : b ≤ 9223372036854775807) :
    Gives Try.prog 17 #[.int .i64 a, .int .i64 b] (wV (prodD a b)) := by
  intro w
  obtain ⟨U, hU⟩ : ∃ U : Nat, IntKind.u64.wrap b = (U : Int) := ⟨(IntKind.u64.wrap b).toNat, by rw [IntKind.wrap_u64]; omega⟩
  have hUl : U < 18446744073709551616 := by rw [IntKind.wrap_u64] at hU; omega
  have HU := Lib.hid hU
  have HL := Lib.hid hUl
  have HB0 := Lib.hid g0
  have HB1 := Lib.hid g1
  have HD := Lib.hid (dblS_start a)
  have H1 := Lib.hid (ref_wide_of_calls a h0 h1)
  have q : ∀ (w : World) (o : Obj), Below w.heap.size w (w.alloc o) := fun w o => Below.alloc (.refl _ _) (Nat.le_refl _) o
  have hz := (wbox_zero w 24).later (q _ (.cells #[.int .i64 0, .int .u64 0] 24))
  have ho := wbox_zero (w.alloc (.cells #[.int .i64 0, .int .u64 0] 24)) 24
  have hb := (q w (.cells #[.int .i64 0, .int .u64 0] 24)).alloc (by simp) (.cells #[.int .i64 0, .int .u64 0] 24)
  have hsz : ((w.alloc (.cells #[.int .i64 0, .int .u64 0] 24)).alloc (.cells #[.int .i64 0, .int .u64 0] 24)).heap.size = w.heap.size + 2 := by simp
  rw [show (w.alloc (.cells #[.int .i64 0, .int .u64 0] 24)).heap.size = w.heap.size + 1 by simp] at ho
  clear h0 h1 g0 g1 hU hUl q
  have HA := Lib.hid ((congrArg InW (dblS_start a)).mp (dblS_in a 0))
  unfold wV at H1
  go_enter Try.func17, Try.ntmps17
  go_wp2_with fail
  generalize (w.alloc (.cells #[.int .i64 0, .int .u64 0] 24)).alloc (.cells #[.int .i64 0, .int .u64 0] 24) = w2 at *
  refine H1.out.step (w0 := w2) (B := w2.heap.size) (.refl _ _) (Nat.le_refl _) ?_
  intro w3 hq hB
  replace hb := hb.trans (hq.mono hb.size)
  replace hz := hz.later hq
  replace ho := ho.later hq
  rw [hsz] at hB
  clear hq hsz H1
  have hx := wbox_lit w3 24 (ofD a)
  have q : Below w3.heap.size w3 (w3.alloc (.cells #[.int .i64 (ofD a).1, .int .u64 (ofD a).2] 24)) := Below.alloc (.refl _ _) (Nat.le_refl _) _
  replace hz := hz.later q
  replace ho := ho.later q
  replace hb := hb.trans (q.mono hb.size)
  clear q
  rw [← HD.out] at hx hb hz ho ⊢
  rw [← outS_start a U, ← atS_less (b := b) (k := 0) (by decide)] at ho
  obtain ⟨B, hBx⟩ : ∃ B, w3.heap.size = B := ⟨_, rfl⟩
  have hBB : w.heap.size + 2 ≤ B := by omega
  rw [hBx] at hx
  clear hB
  go_wp2_with fail
  generalize w3.alloc (.cells #[.int .i64 (dblS a 0).1, .int .u64 (dblS a 0).2] 24) = w4 at *
  clear hBx HA HD
  have HBB := Lib.hid hBB
  clear hBB
  go_loopw [7] (fun i wr => ∃ k : Nat, k ≤ 64 ∧ i = .int .i64 k ∧ WBox wr w.heap.size (0, 0) ∧ WBox wr (w.heap.size + 1) (atS a b U k) ∧ WBox wr B (dblS a k) ∧ Below w.heap.size w wr) (fun i _ => 64 - (intOf i).toNat)
  case atStart => exact ⟨0, by omega, rfl, hz, ho, hx, hb⟩
  case round =>
    clear hz ho hx hb
    obtain ⟨k, hk, rfl, hz, ho, hx, hb⟩ := hrel
    by_cases hlt : k < 64
    · have hu := HU.out
      have hw : IntKind.u64.wrap (k : Int) = (k : Int) := by rw [IntKind.wrap_u64]; omega
      have hBB := HBB.out
      have S0 := ref_wide_sum_calls (dblS_in a k) (dblS_in a k)
      rw [dblS_next] at S0
      unfold wV at S0
      have S := Lib.hid S0
      clear S0
      by_cases hbit : U / 2 ^ k % 2 = 1
      · have g1 : (bits .and .u64 ((U : Int) / 2 ^ k) 1 == 1) = true := by rw [bit_at U k HL.out, hbit]; rfl
        by_cases h63 : k = 63
        · have g2 : ((k : Int) == 63) = true := by rw [h63]; rfl
          have e1 : sumD (atS a b U k) (minusD (dblS a k)) = atS a b U (k + 1) := by subst h63; exact atS_last HB0.out HB1.out hu hbit
          clear h63
          have M0 := ref_wide_minus_calls (dblS_in a k)
          have S1 := ref_wide_sum_calls (atS_in a b U k) (minusD_in (dblS a k))
          rw [e1] at S1
          unfold wV at M0 S1
          have M := Lib.hid M0
          have S2 := Lib.hid S1
          clear M0 S1 e1
          obtain ⟨x0, x1, xf0, xf1, _⟩ := hx.cells
          obtain ⟨y0, y1, yf0, yf1, _⟩ := ho.cells
          have HX0 := Lib.hid x0
          have HX1 := Lib.hid x1
          have HO := Lib.hid ho
          have HZ := Lib.hid hz
          have HX := Lib.hid hx
          have HB := Lib.hid hb
          clear hz ho hx hb xf0 xf1 yf0 yf1
          go_wp2_with fail
          go_region_with (first | (go_at_call 15; refine M.out.step (w0 := wr) (B := wr.heap.size) ?_ ?_ ?_; exact Below.drew (.refl _ _); exact Nat.le_refl _; intro w7 hq hqB; obtain ⟨y0, y1, yf0, yf1, _⟩ := (HO.out.later hq).cells) | (go_at_call 13; refine S2.out.step (w0 := wr) (B := wr.heap.size) hq hqB ?_; clear hq hqB y0 y1 yf0 yf1; intro w8 hq hqB; obtain ⟨y0, y1, yf0, yf1, _⟩ := (HO.out.later hq).cells))
          all_goals
            have hz := HZ.out.later hq
            have ho := HO.out.later hq
            have hx := HX.out.later hq
            have hb := HB.out.trans (hq.mono HB.out.size)
            replace hz := hz.beside (C := w.heap.size + 1) (by omega) (atS a b U (k + 1))
            replace hx := hx.beside (C := w.heap.size + 1) (by omega) (atS a b U (k + 1))
            replace ho := ho.put (atS a b U (k + 1))
            replace hb := put_below hb (B := w.heap.size + 1) (by omega) (atS a b U (k + 1))
            clear hq hqB x0 x1 y0 y1 yf0 yf1 HX0 HX1 HO HZ HX HB M S2
            unfold putW2 at hz hx ho hb
            generalize (w8.setCell ⟨w.heap.size + 1, 0, none⟩ (.int .i64 (atS a b U (k + 1)).1)).setCell ⟨w.heap.size + 1, 1, none⟩ (.int .u64 (atS a b U (k + 1)).2) = w6 at *
            obtain ⟨x0, x1, xf0, xf1, _⟩ := hx.cells
            go_wp2_with fail
            refine S.out.step (w0 := w6) (B := w6.heap.size) (.refl _ _) (Nat.le_refl _) ?_
            clear x0 x1 xf0 xf1
            intro w8 hq _
            replace hz := hz.later hq
            replace ho := ho.later hq
            replace hx := hx.later hq
            replace hb := hb.trans (hq.mono hb.size)
            clear hq
            obtain ⟨x0, x1, xf0, xf1, _⟩ := hx.cells
            have hz9 := hz.beside (C := B) (by omega) (dblS a (k + 1))
            have ho9 := ho.beside (C := B) (by omega) (dblS a (k + 1))
            have hx9 := hx.put (dblS a (k + 1))
            have hb9 := put_below hb (B := B) (by omega) (dblS a (k + 1))
            clear hz ho hx hb
            go_wp2
            go_roundw
            case rel => exact ⟨k + 1, by omega, by go_num, hz9, ho9, hx9, hb9⟩
            case measure => simp [intOf]; omega
        · have g2 : ((k : Int) == 63) = false := by rw [beq_eq_false_iff_ne]; omega
          have S1 := ref_wide_sum_calls (atS_in a b U k) (dblS_in a k)
          rw [atS_some (by omega) hbit] at S1
          unfold wV at S1
          have S2 := Lib.hid S1
          clear S1
          obtain ⟨x0, x1, xf0, xf1, _⟩ := hx.cells
          obtain ⟨y0, y1, yf0, yf1, _⟩ := ho.cells
          go_wp2_with fail
          refine S2.out.step (w0 := wr) (B := wr.heap.size) (.refl _ _) (Nat.le_refl _) ?_
          clear x0 x1 xf0 xf1 y0 y1 yf0 yf1
          intro w7 hq _
          replace hz := hz.later hq
          replace ho := ho.later hq
          replace hx := hx.later hq
          replace hb := hb.trans (hq.mono hb.size)
          clear hq
          obtain ⟨y0, y1, yf0, yf1, _⟩ := ho.cells
          replace hz := hz.beside (C := w.heap.size + 1) (by omega) (atS a b U (k + 1))
          replace hx := hx.beside (C := w.heap.size + 1) (by omega) (atS a b U (k + 1))
          replace ho := ho.put (atS a b U (k + 1))
          replace hb := put_below hb (B := w.heap.size + 1) (by omega) (atS a b U (k + 1))
          obtain ⟨x0, x1, xf0, xf1, _⟩ := hx.cells
          go_wp2_with fail
          clear y0 y1 yf0 yf1
          unfold putW2 at hz hx ho hb x0 x1 xf0 xf1
          generalize (w7.setCell ⟨w.heap.size + 1, 0, none⟩ (.int .i64 (atS a b U (k + 1)).1)).setCell ⟨w.heap.size + 1, 1, none⟩ (.int .u64 (atS a b U (k + 1)).2) = w6 at *
          refine S.out.step (w0 := w6) (B := w6.heap.size) (.refl _ _) (Nat.le_refl _) ?_
          clear x0 x1 xf0 xf1
          intro w8 hq _
          replace hz := hz.later hq
          replace ho := ho.later hq
          replace hx := hx.later hq
          replace hb := hb.trans (hq.mono hb.size)
          clear hq
          obtain ⟨x0, x1, xf0, xf1, _⟩ := hx.cells
          have hz9 := hz.beside (C := B) (by omega) (dblS a (k + 1))
          have ho9 := ho.beside (C := B) (by omega) (dblS a (k + 1))
          have hx9 := hx.put (dblS a (k + 1))
          have hb9 := put_below hb (B := B) (by omega) (dblS a (k + 1))
          clear hz ho hx hb
          go_wp2
          go_roundw
          case rel => exact ⟨k + 1, by omega, by go_num, hz9, ho9, hx9, hb9⟩
          case measure => simp [intOf]; omega
      · have g1 : (bits .and .u64 ((U : Int) / 2 ^ k) 1 == 1) = false := by
          rw [bit_at U k HL.out, show U / 2 ^ k % 2 = 0 by omega]; rfl
        rw [← atS_none HB0.out HB1.out hu hlt (by omega)] at ho
        obtain ⟨x0, x1, xf0, xf1, _⟩ := hx.cells
        go_wp2_with fail
        refine S.out.step (w0 := wr) (B := wr.heap.size) (.refl _ _) (Nat.le_refl _) ?_
        clear x0 x1 xf0 xf1
        intro w8 hq _
        replace hz := hz.later hq
        replace ho := ho.later hq
        replace hx := hx.later hq
        replace hb := hb.trans (hq.mono hb.size)
        clear hq
        obtain ⟨x0, x1, xf0, xf1, _⟩ := hx.cells
        have hz9 := hz.beside (C := B) (by omega) (dblS a (k + 1))
        have ho9 := ho.beside (C := B) (by omega) (dblS a (k + 1))
        have hx9 := hx.put (dblS a (k + 1))
        have hb9 := put_below hb (B := B) (by omega) (dblS a (k + 1))
        clear hz ho hx hb
        go_wp2
        go_roundw
        case rel => exact ⟨k + 1, by omega, by go_num, hz9, ho9, hx9, hb9⟩
        case measure => simp [intOf]; omega
    · obtain rfl : k = 64 := by omega
      obtain ⟨y0, y1, yf0, yf1, _⟩ := ho.cells
      obtain ⟨z0, z1, zf0, zf1, _⟩ := hz.cells
      have hz9 := hz.put (prodD a b)
      have hb9 := put_below hb (B := w.heap.size) (Nat.le_refl _) (prodD a b)
      rw [show atS a b U 64 = prodD a b from if_pos rfl] at y0 y1
      clear hz ho hx hb
      go_wp2
      obtain ⟨z0, z1, _⟩ := hz9.cells
      refine ⟨rfl, wV (prodD a b), ?_, rfl, hb9⟩
      simp [results, Try.results17, go_sem, z0, z1, wV]
end Go.Proofs.Ytcdbcimbbaceoaa
