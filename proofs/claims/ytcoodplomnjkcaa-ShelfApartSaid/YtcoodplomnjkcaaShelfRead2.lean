/- The contract of layer 3's Read. -/
import Derived.Test.YtcoodplomnjkcaaShelfRead
import Derived.Deep.Cut
import Derived.Deep.CutRange
namespace Go.Proofs.Ytcoodplomnjkcaa
open Go Go.RowKit

theorem take_calls (b : Nat) (s : ByteArray) (bad : Bool) (many : Int) (hs : s.size ≤ 9223372036854775807) (w : World) (hT : TapeIn 29 w b s bad) :
    Calls Try.prog 27 #[.pointer (some ⟨b, 0, none⟩), .int .i64 many] w fun e w' => ∃ v, e = .returned v ∧ IntsIn w' v (takeT s bad many).1 ∧ Fresh w.heap.size v ∧ TapeIn 29 w' b (takeT s bad many).2.1 (takeT s bad many).2.2 ∧ w.grownBy w' (some b) := by
  by_cases h : many < 0 ∨ 4096 < many
  · unfold takeT
    rw [if_pos h]
    exact (take_over b s bad many h w hT).mono fun _ _ ⟨he, h1, h2⟩ => ⟨_, he, SliceOf.nil_ _ _ _ _, fresh_nil _, h1, h2⟩
  · obtain ⟨M, rfl⟩ : ∃ M : Nat, many = (M : Int) := ⟨many.toNat, by omega⟩
    have T1 := tint_calls b s bad
    have T2 := tnum_calls b (numT s bad maxU).2.1 (numT s bad maxU).2.2 8
    have hz1 := numT_size s bad maxU
    have hz2 := numT_size (numT s bad maxU).2.1 (numT s bad maxU).2.2 8
    have hn := numT_le (numT s bad maxU).2.1 (numT s bad maxU).2.2 8 (by decide)
    have T3 := ttext_calls b (numT (numT s bad maxU).2.1 (numT s bad maxU).2.2 8).2.1 (numT (numT s bad maxU).2.1 (numT s bad maxU).2.2 8).2.2 (M * (numT (numT s bad maxU).2.1 (numT s bad maxU).2.2 8).1) (by omega)
    unfold takeT
    rw [if_neg h, Int.toNat_natCast]
    cases h3 : (textT (numT (numT s bad maxU).2.1 (numT s bad maxU).2.2 8).2.1 (numT (numT s bad maxU).2.1 (numT s bad maxU).2.2 8).2.2 (M * (numT (numT s bad maxU).2.1 (numT s bad maxU).2.2 8).1)).2.2 with
    | true =>
      rw [h3] at T3
      rw [if_pos rfl]
      exact (take_bad b s _ _ _ _ bad _ _ _ _ M (by omega) (by omega) w hT T1 T2 T3).mono fun _ _ ⟨he, h1, h2⟩ => ⟨_, he, SliceOf.nil_ _ _ _ _, fresh_nil _, h1, h2⟩
    | false =>
      rw [h3] at T3
      rw [if_neg (by decide)]
      exact take_good b s _ _ _ _ bad _ _ _ _ M (by omega) (by omega) (textT_good h3) w hT T1 T2 T3

theorem rowsOf_range (m : Int) (n M : Nat) (t : List UInt8) : InR (rowsOf m n M t) := by
  intro x hx
  obtain ⟨i, _, rfl⟩ := List.mem_map.1 hx
  unfold wrap64
  omega
theorem takeT_range (s : ByteArray) (bad : Bool) (many : Int) : InR (takeT s bad many).1 := by
  unfold takeT
  split
  · intro x hx; simp at hx
  · split
    · intro x hx; simp at hx
    · exact rowsOf_range _ _ _ _
theorem takeT_length (s : ByteArray) (bad : Bool) (many : Int) : (takeT s bad many).1.length ≤ 4096 ∧ ((takeT s bad many).2.2 = false → 0 ≤ many ∧ many ≤ 4096 ∧ ((takeT s bad many).1.length : Int) = many) := by
  unfold takeT
  split
  · simp
  · split
    · simp
    · rw [rowsOf_length]; exact ⟨by omega, fun _ => by omega⟩
theorem takeT_size (s : ByteArray) (bad : Bool) (many : Int) : (takeT s bad many).2.1.size ≤ s.size := by
  have hz1 := numT_size s bad maxU
  have hz2 := numT_size (numT s bad maxU).2.1 (numT s bad maxU).2.2 8
  unfold takeT
  split
  · exact Nat.le_refl _
  · have := textT_size (numT (numT s bad maxU).2.1 (numT s bad maxU).2.2 8).2.1 (numT (numT s bad maxU).2.1 (numT s bad maxU).2.2 8).2.2 (many.toNat * (numT (numT s bad maxU).2.1 (numT s bad maxU).2.2 8).1)
    split
    · exact Nat.le_trans this (Nat.le_trans hz2 hz1)
    · exact Nat.le_trans this (Nat.le_trans hz2 hz1)

theorem str_ne_cases (a b : ByteArray) : (a = b ∧ (a.toList == b.toList) = true ∧ (a.toList != b.toList) = false) ∨ (a ≠ b ∧ (a.toList == b.toList) = false ∧ (a.toList != b.toList) = true) := by
  by_cases h : a = b
  · left; subst h; simp
  · right
    have hn : ¬ a.toList = b.toList := fun e => h (bytes_ext (by rwa [ByteArray.toList_eq, ByteArray.toList_eq] at e))
    exact ⟨h, by simpa using hn, by simpa using hn⟩

set_option maxHeartbeats 1000000 in
set_option maxRecDepth 100000 in
theorem read_bad (b : Nat) (s : ByteArray) (bad : Bool) (many : Int) (hs : s.size ≤ 9223372036854775807) (l : List Int) (r : ByteArray) (hrs : r.size ≤ s.size)
    (hk : ∀ b' w, TapeIn 29 w b' s bad → Calls Try.prog 27 #[.pointer (some ⟨b', 0, none⟩), .int .i64 many] w fun e w' => ∃ v, e = .returned v ∧ IntsIn w' v l ∧ Fresh w.heap.size v ∧ TapeIn 29 w' b' r true ∧ w.grownBy w' (some b'))
    (w : World) (hT : TapeIn 29 w b s bad) :
    Calls Try.prog 13 #[.pointer (some ⟨b, 0, none⟩), .int .i64 many] w fun e w' => e = .returned (.slice none 0 0) ∧ TapeIn 29 w' b s true ∧ w.grownBy w' (some b) := by
  have hc0 := hT.c0
  have hc1 := hT.c1
  have HK := Lib.hid hk
  clear hk
  have hsz : (s.extract 0 (s.size - r.size)).size = s.size - r.size := by rw [ByteArray.size_extract]; omega
  have q1 : IntKind.i64.wrap ((s.size : Int) - (r.size : Int)) = (s.size : Int) - (r.size : Int) := IntWalk.i64_in _ (by omega)
  have q2 : (0 : Int) ≤ (s.size : Int) - (r.size : Int) := by omega
  have q3 : ((s.size : Int) - (r.size : Int)).toNat = s.size - r.size := by omega
  have q4 : (s.size : Int) - (r.size : Int) ≤ (s.size : Int) := by omega
  have q5 : s.size - r.size ≤ s.size := by omega
  go_enter Try.func13, Try.ntmps13
  go_wp2_with fail
  refine (HK.out _ _ (box_tape w s bad _)).mono ?_
  rintro e w1 ⟨v, rfl, hi, hfr, hA, hg⟩
  have hb1 : Below w.heap.size w w1 := (Below.alloc (.refl _ w) (Nat.le_refl _) (.cells #[.string s, .bool bad] 29)).grown hg (by simp) (fun k hk => by cases hk; exact Nat.le_refl _)
  have hT1 := hT.kept hb1
  have hB1 := hb1.size
  have hbw := hT.lt
  clear hT hc0 hc1 hg
  obtain ⟨A, cap, rfl, _⟩ := one_at hi
  have c0 := hT1.c0
  have c1 := hT1.c1
  have a0 := hA.c0
  have a1 := hA.c1
  have f0 := hT1.f0 0
  have f1 := hT1.f0 1
  go_wp2
  go_quiet (fail)
  go_wp2
  go_ret
  exact ⟨rfl, (hT1.drewN _).set1 _, grown_set (grown_below (below_drewN hb1 _) _) _ _⟩

theorem GivesAt.drewN {P : Program} {f : FuncId} {args : Array Value} {w : World} {n : Nat} {v : Value} (h : GivesAt P f args (w.drewN n) v) {B : Nat} {w0 : World} (hb : Below B w0 w) (hB : B ≤ w.heap.size)
    {R : Ending → World → Prop} (k : ∀ w', Below B w0 w' → Below w.heap.size w w' → R (.returned v) w') : Calls P f args (w.drewN n) R :=
  Calls.mono h fun _ _ ⟨he, hw⟩ => he ▸ k _ ((below_drewN hb n).trans (hw.mono hB)) ((below_drewN (.refl _ w) n).trans hw)

set_option maxHeartbeats 1000000 in
set_option maxRecDepth 100000 in
theorem read_no (b : Nat) (s : ByteArray) (bad : Bool) (many : Int) (hs : s.size ≤ 9223372036854775807) (l : List Int) (r : ByteArray) (hl : l.length ≤ 4096) (hr : InR l) (hrs : r.size ≤ s.size)
    (h1 : ((shelfB l).toList == (s.extract 0 (s.size - r.size)).toList) = false) (_h2 : ((shelfB l).toList != (s.extract 0 (s.size - r.size)).toList) = true)
    (hk : ∀ b' w, TapeIn 29 w b' s bad → Calls Try.prog 27 #[.pointer (some ⟨b', 0, none⟩), .int .i64 many] w fun e w' => ∃ v, e = .returned v ∧ IntsIn w' v l ∧ Fresh w.heap.size v ∧ TapeIn 29 w' b' r false ∧ w.grownBy w' (some b'))
    (w : World) (hT : TapeIn 29 w b s bad) :
    Calls Try.prog 13 #[.pointer (some ⟨b, 0, none⟩), .int .i64 many] w fun e w' => e = .returned (.slice none 0 0) ∧ TapeIn 29 w' b s true ∧ w.grownBy w' (some b) := by
  have hc0 := hT.c0
  have hc1 := hT.c1
  have HK := Lib.hid hk
  clear hk
  have hsz : (s.extract 0 (s.size - r.size)).size = s.size - r.size := by rw [ByteArray.size_extract]; omega
  have q1 : IntKind.i64.wrap ((s.size : Int) - (r.size : Int)) = (s.size : Int) - (r.size : Int) := IntWalk.i64_in _ (by omega)
  have q2 : (0 : Int) ≤ (s.size : Int) - (r.size : Int) := by omega
  have q3 : ((s.size : Int) - (r.size : Int)).toNat = s.size - r.size := by omega
  have q4 : (s.size : Int) - (r.size : Int) ≤ (s.size : Int) := by omega
  have q5 : s.size - r.size ≤ s.size := by omega
  go_enter Try.func13, Try.ntmps13
  go_wp2_with fail
  refine (HK.out _ _ (box_tape w s bad _)).mono ?_
  rintro e w1 ⟨v, rfl, hi, hfr, hA, hg⟩
  have hb1 : Below w.heap.size w w1 := (Below.alloc (.refl _ w) (Nat.le_refl _) (.cells #[.string s, .bool bad] 29)).grown hg (by simp) (fun k hk => by cases hk; exact Nat.le_refl _)
  have hT1 := hT.kept hb1
  have hB1 := hb1.size
  have hbw := hT.lt
  clear hT hc0 hc1 hg
  obtain ⟨A, cap, rfl, _⟩ := one_at hi
  have c0 := hT1.c0
  have c1 := hT1.c1
  have a0 := hA.c0
  have a1 := hA.c1
  have f0 := hT1.f0 0
  have f1 := hT1.f0 1
  go_wp2
  go_quiet (fail)
  go_wp2_with (go_at_call 9; refine (shelf_print_calls (hi.drewN _) hr hl).drewN hb1 hB1 ?_)
  intro w2 hb2 hk2
  have hT2 := hT1.kept hk2
  clear c0 c1 a0 a1 f0 f1 hT1 hA hi
  have c1 := hT2.c1
  have f1 := hT2.f0 1
  go_wp2
  go_ret
  exact ⟨rfl, hT2.set1 _, grown_set (grown_below hb2 _) _ _⟩

set_option maxHeartbeats 1000000 in
set_option maxRecDepth 100000 in
theorem read_yes (b : Nat) (s : ByteArray) (bad : Bool) (many : Int) (hs : s.size ≤ 9223372036854775807) (l : List Int) (r : ByteArray) (hl : l.length ≤ 4096) (hr : InR l) (hrs : r.size ≤ s.size)
    (h1 : ((shelfB l).toList == (s.extract 0 (s.size - r.size)).toList) = true) (_h2 : ((shelfB l).toList != (s.extract 0 (s.size - r.size)).toList) = false)
    (hk : ∀ b' w, TapeIn 29 w b' s bad → Calls Try.prog 27 #[.pointer (some ⟨b', 0, none⟩), .int .i64 many] w fun e w' => ∃ v, e = .returned v ∧ IntsIn w' v l ∧ Fresh w.heap.size v ∧ TapeIn 29 w' b' r false ∧ w.grownBy w' (some b'))
    (w : World) (hT : TapeIn 29 w b s bad) :
    Calls Try.prog 13 #[.pointer (some ⟨b, 0, none⟩), .int .i64 many] w fun e w' => ∃ v, e = .returned v ∧ IntsIn w' v l ∧ Fresh w.heap.size v ∧ TapeIn 29 w' b r false ∧ w.grownBy w' (some b) := by
  have hc0 := hT.c0
  have hc1 := hT.c1
  have HK := Lib.hid hk
  clear hk
  have hsz : (s.extract 0 (s.size - r.size)).size = s.size - r.size := by rw [ByteArray.size_extract]; omega
  have q1 : IntKind.i64.wrap ((s.size : Int) - (r.size : Int)) = (s.size : Int) - (r.size : Int) := IntWalk.i64_in _ (by omega)
  have q2 : (0 : Int) ≤ (s.size : Int) - (r.size : Int) := by omega
  have q3 : ((s.size : Int) - (r.size : Int)).toNat = s.size - r.size := by omega
  have q4 : (s.size : Int) - (r.size : Int) ≤ (s.size : Int) := by omega
  have q5 : s.size - r.size ≤ s.size := by omega
  go_enter Try.func13, Try.ntmps13
  go_wp2_with fail
  refine (HK.out _ _ (box_tape w s bad _)).mono ?_
  rintro e w1 ⟨v, rfl, hi, hfr, hA, hg⟩
  have hb1 : Below w.heap.size w w1 := (Below.alloc (.refl _ w) (Nat.le_refl _) (.cells #[.string s, .bool bad] 29)).grown hg (by simp) (fun k hk => by cases hk; exact Nat.le_refl _)
  have hT1 := hT.kept hb1
  have hB1 := hb1.size
  have hbw := hT.lt
  clear hT hc0 hc1 hg
  obtain ⟨A, cap, rfl, _⟩ := one_at hi
  have c0 := hT1.c0
  have c1 := hT1.c1
  have a0 := hA.c0
  have a1 := hA.c1
  have f0 := hT1.f0 0
  have f1 := hT1.f0 1
  go_wp2
  go_quiet (fail)
  go_wp2_with (go_at_call 9; refine (shelf_print_calls (hi.drewN _) hr hl).drewN hb1 hB1 ?_)
  intro w2 hb2 hk2
  have hT2 := hT1.kept hk2
  have hA2 := hA.kept hk2
  have hi2 := IntsIn.kept hi hk2
  clear c0 c1 a0 a1 f0 f1 hT1 hA hi
  have c0 := hT2.c0
  have c1 := hT2.c1
  have a0 := hA2.c0
  have a1 := hA2.c1
  have f0 := hT2.f0 0
  have f1 := hT2.f0 1
  go_wp2
  go_ret
  have hfr' : Fresh (w.heap.size + 1) (.slice A l.length cap) := by simpa using hfr
  refine ⟨_, rfl, ?_, hfr'.mono (by omega), (hT2.set0 _).set1 _, grown_set (grown_set (grown_below hb2 _) _ _) _ _⟩
  exact SliceOf.fresh hi2 hfr' (grown_set (grown_set (grown_refl w2 (some b)) 0 (.string r)) 1 (.bool false)) (by omega)
end Go.Proofs.Ytcoodplomnjkcaa
