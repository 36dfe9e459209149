/- Layer 15's laws put terms together: col, num, one, two. -/
import Derived.Test.YtppmmkmlngmafaaTermEnd
namespace Go.Proofs.Ytppmmkmlngmafaa
open Go Go.RowKit

theorem col15_calls (c : Int) (h1 : -9223372036854775808 ≤ c) (h2 : c ≤ 9223372036854775807) (w : World) : Calls Try.prog 22 #[.int .i64 c] w (TermEnd w (colT15 c)) := by
  have ho : okT (colT15 c) := ⟨by show (0 : Int) ≤ 99; decide, by show (99 : Int) ≤ 255; decide, h1, h2⟩
  have HO := Lib.hid ho
  clear ho h1 h2
  obtain ⟨hb, hB⟩ := start w
  unfold TermEnd TermEndQ
  go_enter Try.func22, Try.ntmps22
  go_wp2
  refine ⟨rfl, trmA (.slice none 0 0, colT15 c), ?_, _, rfl, ⟨_, rfl, HO.out, KidsIn.nil_ _ _ _⟩, hb.alloc hB _⟩
  simp [results, Try.results22, go_sem, trmA, colT15, Trm.op, Trm.col, Trm.cell, noC]
theorem one15_calls (op : Int) (h1 : 0 ≤ op) (h2 : op ≤ 255) {a : Trm} {w : World} {va : Value} (ha : TermIn w va a) : Calls Try.prog 18 #[.int .u8 op, va] w (TermEnd w (oneT15 op a)) := by
  have ho : okT (oneT15 op a) := ⟨h1, h2, by show (-9223372036854775808 : Int) ≤ 0; decide, by show (0 : Int) ≤ 9223372036854775807; decide⟩
  have HO := Lib.hid ho
  obtain ⟨kv, rfl, hoa, hk⟩ := ha
  have HK := Lib.hid hk
  have HOA := Lib.hid hoa
  obtain ⟨A, cap, rfl, -⟩ := kids_at hk
  clear ho h1 h2 hk hoa
  obtain ⟨hb, hB⟩ := start w
  have hb1 := hb.alloc hB (.cells #[.int .u8 a.op, .int .i64 a.col, .string a.cell, .slice A a.kids.length cap] 24)
  have hb2 := hb1.alloc hb1.size (.cells #[.int .u8 op, .int .i64 0, .string ⟨#[]⟩, .slice (some ⟨w.heap.size + 1 + 1, 0, none⟩) 1 1] 24)
  have HKK := Lib.hid (kids_lit 24 [(.slice A a.kids.length cap, a)] (fun t ht => by rw [List.mem_singleton.1 ht]; exact ⟨HOA.out, HK.out.kept hb2⟩) (by show 1 ≤ 1000; decide) rfl (N := w.heap.size + 1 + 1) (by simp) rfl #[.int .u8 a.op, .int .i64 a.col, .string a.cell, .slice A a.kids.length cap] rfl)
  have HB3 := Lib.hid (hb2.alloc hb2.size (.cells #[.int .u8 a.op, .int .i64 a.col, .string a.cell, .slice A a.kids.length cap] 24))
  clear hb1 hb2
  dsimp only [trmA]
  unfold TermEnd TermEndQ
  go_enter Try.func18, Try.ntmps18
  go_wp2
  refine ⟨rfl, trmA (.slice (some ⟨w.heap.size + 1 + 1, 0, none⟩) 1 1, oneT15 op a), ?_, _, rfl, ⟨_, rfl, HO.out, HKK.out⟩, HB3.out⟩
  simp [results, Try.results18, go_sem, trmA, oneT15, Trm.op, Trm.col, Trm.cell, noC]
theorem two15_q (Q : Value → Prop) (op : Int) (h1 : 0 ≤ op) (h2 : op ≤ 255) {a b : Trm} {w : World} {va vb : Value} (ha : TermQ Q w va a) (hbt : TermQ Q w vb b) (hQ : ∀ u, Fresh w.heap.size u → Q u) : Calls Try.prog 20 #[.int .u8 op, va, vb] w (TermEndQ Q w (twoT15 op a b)) := by
  have ho : okT (twoT15 op a b) := ⟨h1, h2, by show (-9223372036854775808 : Int) ≤ 0; decide, by show (0 : Int) ≤ 9223372036854775807; decide⟩
  have HO := Lib.hid ho
  obtain ⟨kv, rfl, hoa, hk⟩ := ha
  obtain ⟨ku, rfl, hob, hku⟩ := hbt
  have HK := Lib.hid hk
  have HOA := Lib.hid hoa
  have HU := Lib.hid hku
  have HOB := Lib.hid hob
  obtain ⟨A, cap, rfl, -⟩ := kids_at hk
  obtain ⟨D, dap, rfl, -⟩ := kids_at hku
  clear ho h1 h2 hk hoa hku hob
  obtain ⟨hb, hB⟩ := start w
  have hb0 := hb.alloc hB (.cells #[.int .u8 a.op, .int .i64 a.col, .string a.cell, .slice A a.kids.length cap] 24)
  have hb1 := hb0.alloc hb0.size (.cells #[.int .u8 b.op, .int .i64 b.col, .string b.cell, .slice D b.kids.length dap] 24)
  have hb2 := hb1.alloc hb1.size (.cells #[.int .u8 op, .int .i64 0, .string ⟨#[]⟩, .slice (some ⟨w.heap.size + 1 + 1 + 1, 0, none⟩) 2 2] 24)
  have HKK := Lib.hid (kids_litQ (Q := Q) 24 [(.slice A a.kids.length cap, a), (.slice D b.kids.length dap, b)] (fun t ht => by
    rcases List.mem_cons.1 ht with rfl | ht
    · exact ⟨HOA.out, HK.out.kept hb2⟩
    · rw [List.mem_singleton.1 ht]; exact ⟨HOB.out, HU.out.kept hb2⟩) (by show 2 ≤ 1000; decide) rfl (N := w.heap.size + 1 + 1 + 1) (by simp) rfl #[.int .u8 a.op, .int .i64 a.col, .string a.cell, .slice A a.kids.length cap, .int .u8 b.op, .int .i64 b.col, .string b.cell, .slice D b.kids.length dap] rfl (hQ _ fun k hk => by simp only [Value.ownBlock, Option.some.injEq] at hk; omega))
  have HB3 := Lib.hid (hb2.alloc hb2.size (.cells #[.int .u8 a.op, .int .i64 a.col, .string a.cell, .slice A a.kids.length cap, .int .u8 b.op, .int .i64 b.col, .string b.cell, .slice D b.kids.length dap] 24))
  clear hb0 hb1 hb2
  dsimp only [trmA]
  unfold TermEndQ
  go_enter Try.func20, Try.ntmps20
  go_wp2
  refine ⟨rfl, trmA (.slice (some ⟨w.heap.size + 1 + 1 + 1, 0, none⟩) 2 2, twoT15 op a b), ?_, _, rfl, ⟨_, rfl, HO.out, HKK.out⟩, HB3.out⟩
  simp [results, Try.results20, go_sem, trmA, twoT15, Trm.op, Trm.col, Trm.cell, noC]
theorem two15_calls (op : Int) (h1 : 0 ≤ op) (h2 : op ≤ 255) {a b : Trm} {w : World} {va vb : Value} (ha : TermIn w va a) (hbt : TermIn w vb b) : Calls Try.prog 20 #[.int .u8 op, va, vb] w (TermEnd w (twoT15 op a b)) :=
  two15_q (fun _ => True) op h1 h2 ha hbt fun _ _ => trivial
theorem num15_calls (n : Int) (h1 : -9223372036854775808 ≤ n) (h2 : n ≤ 9223372036854775807) (w : World) : Calls Try.prog 23 #[.int .i64 n] w (TermEnd w (numT15 n)) := by
  have ho : okT (numT15 n) := ⟨by show (0 : Int) ≤ 107; decide, by show (107 : Int) ≤ 255; decide, by show (-9223372036854775808 : Int) ≤ 0; decide, by show (0 : Int) ≤ 9223372036854775807; decide⟩
  have HO := Lib.hid ho
  have HI := Lib.hid (int_calls n h1 h2)
  have HB := Lib.hid (Below.alloc (.refl w.heap.size w) (Nat.le_refl _) (.cells #[.int .u8 0, .int .i64 0, .string ⟨#[]⟩, .slice none 0 0] 24))
  have HX := Lib.hid (trmbox_lit w 24 0 0 ⟨#[]⟩ (.slice none 0 0))
  clear ho h1 h2
  unfold TermEnd TermEndQ
  go_enter Try.func23, Try.ntmps23
  go_wp2_with fail
  generalize w.alloc _ = w1 at *
  refine HI.out.stepB (w0 := w1) (B := w1.heap.size) (.refl _ _) (Nat.le_refl _) ?_
  intro w2 hb2 _ _
  have hx := HX.out.later hb2
  obtain ⟨e0, e1, e2, e3, _⟩ := hx.cells
  obtain ⟨f0, f1, f2, f3⟩ := hx.free
  have hp := hx.putAll 107 0 (cellInt n) (.slice none 0 0)
  have hbe := ((((HB.out.trans (hb2.mono HB.out.size)).setCell (p := ⟨w.heap.size, 0, none⟩) (Nat.le_refl _) (.int .u8 107)).setCell (p := ⟨w.heap.size, 1, none⟩) (Nat.le_refl _) (.int .i64 0)).setCell (p := ⟨w.heap.size, 2, none⟩) (Nat.le_refl _) (.string (cellInt n))).setCell (p := ⟨w.heap.size, 3, none⟩) (Nat.le_refl _) (.slice none 0 0)
  have HP := Lib.hid hp
  have HBE := Lib.hid hbe
  clear hx hp hbe hb2
  go_wp2
  obtain ⟨g0, g1, g2, g3, _⟩ := HP.out.cells
  refine ⟨rfl, trmA (.slice none 0 0, numT15 n), ?_, _, rfl, ⟨_, rfl, HO.out, KidsIn.nil_ _ _ _⟩, HBE.out⟩
  simp [results, Try.results23, go_sem, trmA, numT15, Trm.op, Trm.col, Trm.cell, g0, g1, g2, g3]
end Go.Proofs.Ytppmmkmlngmafaa
