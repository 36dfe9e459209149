/- The contract of layer 4's Read. -/
import Derived.Test.YtbegkiffpcedbaaGZRunsTakeWalk
namespace Go.Proofs.Ytbegkiffpcedbaa
open Go Go.RowKit

set_option maxHeartbeats 1000000 in
set_option maxRecDepth 100000 in
theorem runsRead_no (b : Nat) (s : ByteArray) (bad : Bool) (many : Int)
    (hk : ∀ b' w, TapeIn 40 w b' s bad → Calls Try.prog 46 #[.pointer (some ⟨b', 0, none⟩), .int .i64 many] w fun e w' => ∃ s', e = .returned (.slice none 0 0) ∧ TapeIn 40 w' b' s' true ∧ w.grownBy w' (some b')) :
    Takes Try.prog 40 34 [.int .i64 many] b s bad (.slice none 0 0) s true := by
  intro w hT
  have hc0 := hT.c0
  have hc1 := hT.c1
  have HK := Lib.hid hk
  clear hk
  go_enter Try.func34, Try.ntmps34
  go_wp2_with fail
  refine (HK.out _ _ (box_tape w s bad _)).mono ?_
  rintro e w1 ⟨s', rfl, hA, hg⟩
  have hb1 := boxed_below hg
  have hT1 := hT.kept hb1
  clear hT hc0 hc1 hg
  have c0 := hT1.c0
  have c1 := hT1.c1
  have a0 := hA.c0
  have a1 := hA.c1
  have f0 := hT1.f0 0
  have f1 := hT1.f0 1
  go_wp2
  go_ret
  exact ⟨rfl, hT1.set1 _, grown_set (grown_below hb1 _) _ _⟩

set_option maxHeartbeats 1000000 in
set_option maxRecDepth 100000 in
theorem runsRead_yes (b : Nat) (s : ByteArray) (many : Int) (l : List ByteArray) (r : ByteArray)
    (hk : ∀ b' w, TapeIn 40 w b' s false → Calls Try.prog 46 #[.pointer (some ⟨b', 0, none⟩), .int .i64 many] w fun e w' => ∃ v, e = .returned v ∧ StrsIn w' v l ∧ Fresh w.heap.size v ∧ TapeIn 40 w' b' r false ∧ w.grownBy w' (some b')) :
    TakesStrs Try.prog 40 34 [.int .i64 many] b s l r := by
  intro w hT
  have hc0 := hT.c0
  have hc1 := hT.c1
  have hbw := hT.lt
  have HK := Lib.hid hk
  clear hk
  go_enter Try.func34, Try.ntmps34
  go_wp2_with fail
  refine (HK.out _ _ (box_tape w s false _)).mono ?_
  rintro e w1 ⟨v, rfl, hi, hf, hA, hg⟩
  have hb1 := boxed_below hg
  have hT1 := hT.kept hb1
  obtain ⟨A, cap, rfl, _⟩ := one_at hi
  clear hT hc0 hc1 hg
  have c0 := hT1.c0
  have c1 := hT1.c1
  have a0 := hA.c0
  have a1 := hA.c1
  have f0 := hT1.f0 0
  have f1 := hT1.f0 1
  have hf' : Fresh (w.heap.size + 1) (.slice A l.length cap) := by simpa using hf
  clear hf
  go_wp2
  go_ret
  refine ⟨_, rfl, ?_, hf'.mono (by omega), (hT1.set0 _).set1 _, grown_set (grown_set (grown_below hb1 _) _ _) _ _⟩
  exact SliceOf.fresh hi hf' (grown_set (grown_set (grown_refl w1 (some b)) 0 (.string r)) 1 (.bool false)) (by omega)

theorem runs_read_some (b : Nat) (s : ByteArray) (hs : s.size ≤ 9223372036854775807) {many : Int} {l : List ByteArray} {r : List UInt8} (h : RunsAt s.data.toList many l r) :
    TakesStrs Try.prog 40 34 [.int .i64 many] b s l (mkB r) := by
  obtain ⟨M, rfl⟩ : ∃ M : Nat, many = (M : Int) := ⟨many.toNat, by have := h.1; omega⟩
  refine runsRead_yes b s M l (mkB r) fun b' w hT => (runs_take_in b' s M (by have := h.2.1; omega) hs w hT).mono ?_
  rintro e w' ⟨v, l', s', bad', he, hi, hf, hT', hg, _, hend⟩
  rcases hend with ⟨rfl, hR⟩ | ⟨_, _, _, hn⟩
  · obtain ⟨rfl, rfl⟩ := h.same hR
    rw [mkB_of]
    exact ⟨v, he, hi, hf, hT', hg⟩
  · exact absurd ⟨l, r, h⟩ hn
theorem runs_read_none (b : Nat) (s : ByteArray) (hs : s.size ≤ 9223372036854775807) (many : Int) (h : ¬ ∃ l r, RunsAt s.data.toList many l r) :
    Takes Try.prog 40 34 [.int .i64 many] b s false (.slice none 0 0) s true := by
  refine runsRead_no b s false many fun b' w hT => ?_
  by_cases hm : many < 0 ∨ 4096 < many
  · exact (runs_take_over b' s false many hm w hT).mono fun _ _ ⟨h1, h2, h3⟩ => ⟨s, h1, h2, h3⟩
  · obtain ⟨M, rfl⟩ : ∃ M : Nat, many = (M : Int) := ⟨many.toNat, by omega⟩
    refine (runs_take_in b' s M (by omega) hs w hT).mono ?_
    rintro e w' ⟨v, l', s', bad', he, hi, hf, hT', hg, _, hend⟩
    rcases hend with ⟨rfl, hR⟩ | ⟨rfl, _, rfl, _⟩
    · exact absurd ⟨l', _, hR⟩ h
    · exact ⟨s', he, hT', hg⟩

set_option maxHeartbeats 1000000 in
set_option maxRecDepth 100000 in
theorem runs_take_badtape (b : Nat) (s : ByteArray) (M : Nat) (hM : M ≤ 4096) (hs : s.size ≤ 9223372036854775807) (w : World) (hT : TapeIn 40 w b s true) :
    Calls Try.prog 46 #[.pointer (some ⟨b, 0, none⟩), .int .i64 M] w fun e w' => ∃ s', e = .returned (.slice none 0 0) ∧ TapeIn 40 w' b s' true ∧ w.grownBy w' (some b) := by
  have hg := grown_refl w (some b)
  by_cases h0 : M = 0
  · subst h0
    go_enter Try.func46, Try.ntmps46
    go_wp2
    go_loopw [5] (fun v wr => v = .slice none 0 0 ∧ TapeIn 40 wr b s true ∧ w.grownBy wr (some b)) (fun _ _ => 0)
    case atStart => exact ⟨rfl, hT, hg⟩
    case round =>
      obtain ⟨rfl, hT, hg⟩ := hrel
      go_wp2
      go_ret
      exact ⟨s, rfl, hT, hg⟩
  · have H1 : Hid (Takes Try.prog 40 58 [] b s true (.string ⟨#[]⟩) s true) := readCell_calls b s true hs
    have H2 : Hid (∀ m : Int, Takes Try.prog 40 33 [.int .u64 m] b s true (.int .u64 0) s true) := fun m => tnum_calls b s true m
    have hM0 : (0 : Int) < (M : Int) := by omega
    have q2 : IntKind.u64.wrap (M : Int) = (M : Int) := wrap_lt _ (by omega)
    go_enter Try.func46, Try.ntmps46
    go_wp2
    go_loopw [5] (fun v wr => v = .slice none 0 0 ∧ TapeIn 40 wr b s true ∧ w.grownBy wr (some b)) (fun _ _ => 0)
    case atStart => exact ⟨rfl, hT, hg⟩
    case round =>
      clear hT hg
      obtain ⟨rfl, hT, hg⟩ := hrel
      go_wp2_with (first | (go_at_call 58; refine H1.out.stepG hT hg ?_; clear hT hg; intro w1 hT hg _) | (go_at_call 33; refine (H2.out _).stepG hT hg ?_; clear hT hg; intro w2 hT hg _; have c1 := hT.c1; have f1 := hT.f0 1))
      go_ret
      exact ⟨s, rfl, hT.set1 true, grown_set hg _ _⟩
theorem runs_read_badtape (b : Nat) (s : ByteArray) (hs : s.size ≤ 9223372036854775807) (many : Int) :
    Takes Try.prog 40 34 [.int .i64 many] b s true (.slice none 0 0) s true := by
  refine runsRead_no b s true many fun b' w hT => ?_
  by_cases hm : many < 0 ∨ 4096 < many
  · exact (runs_take_over b' s true many hm w hT).mono fun _ _ ⟨h1, h2, h3⟩ => ⟨s, h1, h2, h3⟩
  · obtain ⟨M, rfl⟩ : ∃ M : Nat, many = (M : Int) := ⟨many.toNat, by omega⟩
    exact runs_take_badtape b' s M (by omega) hs w hT
end Go.Proofs.Ytbegkiffpcedbaa
