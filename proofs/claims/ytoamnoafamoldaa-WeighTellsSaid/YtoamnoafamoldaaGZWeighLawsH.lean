/- The law WeighTwice, all cases. -/
import Derived.Test.YtoamnoafamoldaaGZWeighLawsG
namespace Go.Proofs.Ytoamnoafamoldaa
open Go Go.RowKit

set_option maxHeartbeats 4000000 in
theorem weighTwice_calls {w : World} {v1 rv : Value} {l : List Tm} {row : List ByteArray} {n : Int} (hl : TimesIn w v1 l) (hx : StrsIn w rv row) : GivesAt Try.prog 7 #[v1, .agg #[rv, .int .i64 n]] w (.bool true) := by
  obtain ⟨Ar, pr, rfl, _⟩ := one_at hx
  cases sl : smallW l with
  | true =>
    cases sx : smallW [(row, n)] with
    | true => exact weighTwice_short hl hx sl sx
    | false =>
      obtain ⟨hb, hB⟩ := start w
      have hq0 := (Below.refl w.heap.size w).alloc (Nat.le_refl _) (.cells #[.slice Ar row.length pr, .int .i64 n] 26)
      have hbox := box_tm w 26 (.slice Ar row.length pr) n
      replace hl := hl.kept hq0
      replace hx := hx.kept hq0
      have hb1 := hb.trans hq0
      obtain ⟨A0, p0, rfl⟩ := times_slice hl
      clear hq0 hb hB
      unfold GivesAt
      go_enter Try.func7, Try.ntmps7
      go_wp2_with fail
      generalize w.alloc (.cells #[.slice Ar row.length pr, .int .i64 n] 26) = w1 at *
      have hb := hb1
      have hB := hb.size
      clear hb1
      obtain ⟨y0, y1, _, _⟩ := BoxOf.cells hbox
      have hsl := small_calls hl
      rw [sl] at hsl
      have hsx := small_calls (lit_one' w1 26 n hx)
      rw [sx] at hsx
      clear hl hx hbox sl sx
      refine hsl.step ?_
      clear hsl
      go_wp2_with fail
      refine hsx.step ?_
      clear hsx
      go_wp2_with (go_at_call 9; refine awake_calls.step (w0 := w) (B := w.heap.size) (below_alloc hb hB _).1 (below_alloc hb hB _).2 ?_; clear hb hB; intro w' hb hB)
      go_ret
      exact ⟨rfl, hb⟩
  | false =>
    obtain ⟨hb, hB⟩ := start w
    have hq0 := (Below.refl w.heap.size w).alloc (Nat.le_refl _) (.cells #[.slice Ar row.length pr, .int .i64 n] 26)
    have hbox := box_tm w 26 (.slice Ar row.length pr) n
    replace hl := hl.kept hq0
    replace hx := hx.kept hq0
    have hb1 := hb.trans hq0
    obtain ⟨A0, p0, rfl⟩ := times_slice hl
    clear hq0 hb hB
    unfold GivesAt
    go_enter Try.func7, Try.ntmps7
    go_wp2_with fail
    generalize w.alloc (.cells #[.slice Ar row.length pr, .int .i64 n] 26) = w1 at *
    have hb := hb1
    have hB := hb.size
    clear hb1
    obtain ⟨y0, y1, _, _⟩ := BoxOf.cells hbox
    have hsl := small_calls hl
    rw [sl] at hsl
    clear hl hx hbox sl
    refine hsl.step ?_
    clear hsl
    go_wp2_with (go_at_call 9; refine awake_calls.step (w0 := w) (B := w.heap.size) hb hB ?_; clear hb hB; intro w' hb hB)
    go_ret
    exact ⟨rfl, hb⟩
end Go.Proofs.Ytoamnoafamoldaa
