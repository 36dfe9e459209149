/- The contract of layer 10's own Put. -/
import Derived.Test.YtoamnoafamoldaaGWeighLib
import Derived.Test.YtoamnoafamoldaaGWeighOwn
import Derived.StillTailTactics
import Derived.Deep.RegionWith
namespace Go.Proofs.Ytoamnoafamoldaa
open Go Go.RowKit

theorem under_elem : Try.prog.underlying 22 = some (.slice (Try.prog.elem 22)) := by kernel_rfl
theorem elem_times : Try.prog.elem 22 = 26 := by kernel_rfl
theorem slice_back (W : World) (A : Option Addr) (n cap k : Nat) (hk : k ≤ n) : (Instr.sliceAt 22 (.slice A n cap) (some (.int .i64 k)) none none).run Try.prog W = .ok (.slice (if cap = k then A else A.map (·.add (k * 2))) (n - k) (cap - k)) W := by
  rw [run_sliceAt_slice _ _ _ _ _ _ under_elem, run_slice_l _ _ _ _ _ under_elem _ _ (by omega) (by omega), elem_times, Try.sizeOf26]
  simp [Result.andThen, sliced]
theorem slice_front (W : World) (A : Option Addr) (n cap k : Nat) (hk : k ≤ cap) : (Instr.sliceAt 22 (.slice A n cap) none (some (.int .i64 k)) none).run Try.prog W = .ok (.slice A k cap) W := by
  rw [run_sliceAt_slice _ _ _ _ _ _ under_elem, run_slice_h _ _ _ _ _ under_elem _ _ (by omega) (by omega), elem_times, Try.sizeOf26]
  have e : ∀ a : Addr, a.add 0 = a := fun a => by unfold Addr.add; simp
  cases A <;> simp [Result.andThen, sliced, e]
theorem put_place {l : List Tm} {row : List ByteArray} {n : Int} {k : Nat} (h : PlaceAt l row k k) (hn : ¬ ∃ hk : k < l.length, (l[k]'hk).1 = row) : putW l (row, n) = l.take k ++ (if n = 0 then [] else [(row, n)]) ++ l.drop k := by
  by_cases hk : k < l.length
  · exact put_here l (row, n) k hk (fun j hj hjk => h.ahead j hj hjk) (h.behind k hk (Nat.le_refl _)) (fun e => hn ⟨hk, e⟩)
  · have e : k = l.length := by have := h.len; omega
    subst e
    rw [put_end l (row, n) (fun j hj _ => h.ahead j hj hj), List.take_length, List.drop_length, List.append_nil]
theorem put_there {l : List Tm} {row : List ByteArray} {n : Int} {k : Nat} (h : PlaceAt l row k k) (hk : k < l.length) (he : l[k].1 = row) : putW l (row, n) = l.take k ++ (if n + l[k].2 = 0 then [] else [(row, n + l[k].2)]) ++ l.drop (k + 1) :=
  put_same l (row, n) k hk (fun j hj hjk => h.ahead j hj hjk) he
theorem BoxOf.kept {w w' : World} {B : Nat} {rv : Value} {n : Int} {to : Value} (h : BoxOf w B rv n) (hk : KeptBut w to w') (hto : to.ownBlock ≠ some B) : BoxOf w' B rv n :=
  Own.keep h hk.1 fun k hk2 => by
    simp only [Value.ownBlock, Option.some.injEq] at hk2
    subst hk2
    exact hk.2 B h.cells.2.2.2 hto
theorem times_front {w : World} {A : Option Addr} {cap : Nat} {l : List Tm} (h : TimesIn w (.slice A l.length cap) l) (k : Nat) (hk : k ≤ l.length) : TimesIn w (.slice A k cap) (l.take k) := by
  obtain ⟨tv, h1, h2⟩ := h
  have h3 := SliceOf.frontN h1 hk
  rw [take_timesV] at h3
  exact TimesIn.of h3 (h2.take k) (by rw [List.length_take]; omega)
theorem times_back {w : World} {b off cap : Nat} {l : List Tm} (h : TimesIn w (.slice (some ⟨b, off, none⟩) l.length cap) l) (k : Nat) (hk : k ≤ l.length) (A : Option Addr) (c : Nat) (hc : l.length - k ≤ c) (hA : k < l.length → A = some ⟨b, off + k * 2, none⟩) : TimesIn w (.slice A (l.length - k) c) (l.drop k) := by
  obtain ⟨tv, h1, h2⟩ := h
  have h3 := SliceOf.backN h1 hk hA
  rw [drop_timesV] at h3
  obtain ⟨q1, q2, A', c', e, q3, q4⟩ := h3
  cases e
  exact TimesIn.of ⟨q1, q2, A, c, rfl, hc, q4⟩ (h2.drop k) (by rw [List.length_drop])
theorem short_take {l : List Tm} (h : ShortR l) (k : Nat) : ShortR (l.take k) := fun t ht => h t (List.mem_of_mem_take ht)
theorem short_drop {l : List Tm} (h : ShortR l) (k : Nat) : ShortR (l.drop k) := fun t ht => h t (List.mem_of_mem_drop ht)

set_option maxHeartbeats 8000000 in
set_option maxRecDepth 100000 in
theorem weigh_put_calls {w : World} {v rv : Value} {l : List Tm} {row : List ByteArray} {n : Int} (h : TimesIn w v l) (hr : RightP l) (hx : StrsIn w rv row) (hl : l.length ≤ 1000000) (hw : wtW l + n.natAbs ≤ 4611686018427387904) (hS : ShortR l) (hrow : row.length ≤ 1000000) :
    GivesTimes Try.prog 21 #[v, timesA (rv, n)] w (putW l (row, n)) := by
  obtain ⟨i0, hi, hz0, hz1, hz2⟩ := info_parts Try.infoM26
  obtain ⟨hb, hB⟩ := start w
  obtain ⟨Ax, px, rfl, _⟩ := one_at hx
  have hroom := h
  obtain ⟨tv0, hsl0, _⟩ := hroom
  obtain ⟨A, cap, rfl, hnc⟩ := hsl0.room
  have HAT0 := Lib.hid (fun (j : Nat) (hj : j < l.length) => times_some h (by omega))
  clear hsl0
  have HNC := Lib.hid hnc
  have hbx := box_tm w 26 (.slice Ax row.length px) n
  have hq0 := Below.alloc (.refl _ w) (Nat.le_refl _) (.cells #[.slice Ax row.length px, .int .i64 n] 26)
  have hse := search_calls n (h.kept hq0) hr (StrsIn.kept hx hq0) hl
  obtain ⟨z0, z1, _, _⟩ := hbx.cells
  have hs1 : (w.alloc (.cells #[.slice Ax row.length px, .int .i64 n] 26)).heap.size = w.heap.size + 1 := by simp
  have HT := Lib.hid h
  have HX := Lib.hid hx
  have HSH := Lib.hid hS
  have hmk := fun W => run_make (P := Try.prog) W 22 26 i0 (.agg #[.slice none 0 0, .int .i64 0]) Try.underlying22 hi hz0 .i64 .i64 0 ((l.length : Int) + 1) (by omega) (by omega) (by rw [hz2]; omega) (by omega)
  rw [show ((l.length : Int) + 1).toNat = l.length + 1 by omega, hz1] at hmk
  have hcs : (madeCells (Value.agg #[.slice none 0 0, .int .i64 0]).cells ((l.length + 1) * 2)).size = (l.length + 1) * 2 := size_madeCells _ _
  generalize madeCells (Value.agg #[.slice none 0 0, .int .i64 0]).cells ((l.length + 1) * 2) = cs at *
  have HCS := Lib.hid hcs
  simp only [Int.toNat_zero] at hmk
  have HROW := Lib.hid hrow
  have q0 : IntKind.i64.wrap ((l.length : Int) + 1) = (l.length : Int) + 1 := IntWalk.i64_in _ (by omega)
  clear h hx hS hr hcs hrow
  unfold GivesTimes timesA
  unfold timesA at hse
  go_enter Try.func21, Try.ntmps21
  go_wp2_with fail
  refine hse.mono ?_
  clear hse
  have hb1 := hb.trans hq0
  have hbx1 := hbx
  clear hbx z0 z1
  generalize w.alloc (.cells #[.slice Ax row.length px, .int .i64 n] 26) = w1 at *
  rintro e w2 ⟨k, z, rfl, hpl, hzz, hb2⟩
  have hkl := hpl.len
  have hBX := hbx1.later hb2
  have hb12 : Below w.heap.size w w2 := hb1.trans (hb2.mono hb1.size)
  have hsz2 : w.heap.size + 1 ≤ w2.heap.size := by rw [← hs1]; exact hb2.size
  clear hbx1 hb2 hb1 hb hB hq0 hs1
  have HFR := Lib.hid (times_front HT.out k hkl)
  cases z with
  | true =>
    obtain ⟨hk, he⟩ := hzz.1 rfl
    obtain ⟨b, off, cap', e0⟩ := HAT0.out k hk
    obtain ⟨rfl, rfl⟩ : A = some ⟨b, off, none⟩ ∧ cap = cap' := by injection e0 with e1 _ e2; exact ⟨e1, e2⟩
    clear e0
    have HP := Lib.hid (put_there (n := n) hpl hk he)
    obtain ⟨re, _, _, y2⟩ := times_cellAt HT.out k hk
    have hbl : b < w.heap.size := by
      obtain ⟨_, _, _, e2, _, hat⟩ := times_at HT.out
      cases e2
      obtain ⟨b', off', e1, hb', _⟩ := hat k hk
      cases e1; exact hb'
    have y3 := (hb12.cell (p := ⟨b, off + k * 2 + 1, none⟩) hbl).trans y2
    have hwk := wt_mem (List.getElem_mem hk)
    have HBK : Hid (∀ (A' : Option Addr) (c : Nat), l.length - (k + 1) ≤ c → (k + 1 < l.length → A' = some ⟨b, off + (k + 1) * 2, none⟩) → TimesIn w (.slice A' (l.length - k - 1) c) (l.drop (k + 1))) := fun A' c h1 h2 => by
      rw [Nat.sub_sub]; exact times_back HT.out (k + 1) hk A' c h1 h2
    have HSD := Lib.hid (short_drop HSH.out (k + 1))
    clear hpl hzz he y2
    generalize l[k].2 = m at *
    have q1 : IntKind.i64.wrap (n + m) = n + m := IntWalk.i64_in _ (by omega)
    obtain ⟨z0, z1, zf, _⟩ := hBX.cells
    have hne : ¬ cap = k := by omega
    have hne0 : ¬ cap = 0 := by omega
    have hsB := fun W => slice_front W (some ⟨b, off, none⟩) l.length cap k (by omega)
    clear hnc
    have hBXs := hBX.stored (n + m)
    have hb3 : Below w.heap.size w (w2.setCell ⟨w.heap.size, 1, none⟩ (.int .i64 (n + m))).drew := (hb12.setCell (p := ⟨w.heap.size, 1, none⟩) (Nat.le_refl _) _).drew
    have hsz3 : w.heap.size + 1 ≤ (w2.setCell ⟨w.heap.size, 1, none⟩ (.int .i64 (n + m))).drew.heap.size := by simpa using hsz2
    have HBX := Lib.hid (show BoxOf (w2.setCell ⟨w.heap.size, 1, none⟩ (.int .i64 (n + m))).drew w.heap.size (.slice Ax row.length px) (n + m) from hBXs)
    have HSZ3 := Lib.hid hsz3
    have HB3 := Lib.hid hb3
    clear hBXs hBX hb3 hsz3 hsz2 hb12
    go_wp2
    go_region
    generalize (w2.setCell ⟨w.heap.size, 1, none⟩ (.int .i64 (n + m))).drew = w3 at *
    generalize hM : n + m = M at *
    have HP2 := HP
    clear z0 z1 zf y3 q1 HP
    have hmade : TimesOwn (w3.drew.alloc (.cells cs 26)) w.heap.size (.slice (some ⟨w3.heap.size, 0, none⟩) 0 (l.length + 1)) [] [] :=
      ⟨Own.of_row (World.ownsRow_made w3.drew cs (l.length + 1) (Nat.le_trans (Nat.le_succ _) HSZ3.out) (by unfold maxLen; omega) HCS.out) (Nat.zero_le _) (Nat.le_refl _), trivial, fun _ h => absurd h (by simp)⟩
    have hbm : Below w.heap.size w (w3.drew.alloc (.cells cs 26)) := HB3.out.drew.alloc (Nat.le_trans (Nat.le_succ _) HSZ3.out) _
    have hbxm : BoxOf (w3.drew.alloc (.cells cs 26)) w.heap.size (.slice Ax row.length px) M := HBX.out.later ((Below.drew (.refl _ w3)).alloc (Nat.le_refl _) _)
    have HMADE := Lib.hid hmade
    have HBM := Lib.hid hbm
    have HBXM := Lib.hid hbxm
    have HNE : Hid ((Value.slice (some ⟨w3.heap.size, 0, none⟩) 0 (l.length + 1)).ownBlock ≠ some w.heap.size) := by
      intro e
      simp only [Value.ownBlock, Option.some.injEq] at e
      have := HSZ3.out
      omega
    have HLK := Lib.hid (show (l.take k).length = k by rw [List.length_take]; omega)
    have HST := Lib.hid (short_take HSH.out k)
    clear hmade hbm hbxm
    go_wp2
    all_goals
      go_region_with (go_at_call 34; refine (append_copies_calls (w0 := w) HFR.out HMADE.out HBM.out (by simp only [List.length_nil, List.length_take]; omega) HST.out).mono ?_; rintro e w6 ⟨v6, tv6, rfl, hT6, hb6, hk6⟩; have HBX6 := Lib.hid (HBXM.out.kept hk6 HNE.out); obtain ⟨z0, z1, _, _⟩ := HBX6.out.cells; have HT6 := Lib.hid hT6; rw [List.nil_append] at HT6; obtain ⟨A6, p6, e6⟩ := hT6.slice; rw [List.nil_append, HLK.out] at e6; subst e6; have HB6 := Lib.hid hb6; clear hT6 hb6 hk6)
      all_goals
        by_cases hz : M = 0
        · have d5 : (M == 0) = true := by rw [beq_iff_eq]; exact hz
          have d6 : (M != 0) = false := by rw [bne, d5]; rfl
          have HP := HP2
          rw [if_pos hz, List.append_nil] at HP
          clear hz
          go_wp2_with fail
          refine (append_copies_calls (w0 := w) (HBK.out _ _ (by have := HNC.out; omega) (fun h => by first | (have := HNC.out; omega) | rfl | (simp only [Option.some.injEq, Addr.mk.injEq, and_true, true_and]; omega))) HT6.out HB6.out (by rw [HLK.out]; simp only [List.length_drop]; omega) HSD.out).mono ?_
          rintro e w9 ⟨v9, tv9, rfl, hT9, hb9, _⟩
          have HE9 := Lib.hid (show TimesIn w9 v9 (putW l (row, n)) by rw [HP.out]; have := hT9.times; first | exact this | simpa using this)
          obtain ⟨A9, p9, e9⟩ := hT9.slice
          obtain ⟨N9, hN9⟩ : ∃ N9, v9 = .slice A9 N9 p9 := ⟨_, e9⟩
          subst hN9
          clear hT9 e9
          go_wp2
          go_ret
          exact ⟨_, rfl, HE9.out, hb9⟩
        · have d5 : (M == 0) = false := by rw [beq_eq_false_iff_ne]; exact hz
          have d6 : (M != 0) = true := by rw [bne, d5]; rfl
          have HP := HP2
          rw [if_neg hz] at HP
          clear hz
          have hcp := copied_calls M (StrsIn.kept HX.out HB6.out) HROW.out
          unfold timesA CopyEnd at hcp
          have HCP := Lib.hid hcp
          have HLT6 := Lib.hid (show ∀ q, (Value.slice A6 k p6).ownBlock = some q → q < w6.heap.size from fun q hq => (HT6.out.own.lt q hq).2)
          clear hcp
          go_wp2_with fail
          refine HCP.out.mono ?_
          rintro e w7 ⟨A5, p5, rfl, hs7, hf7, hq7⟩
          have HOFF := Lib.hid (RowOff.of_fresh (v := .slice A6 k p6) hf7 HLT6.out)
          have HT7 := Lib.hid ((HT6.out.later hq7).later (Below.alloc (.refl _ w7) (Nat.le_refl _) (.cells #[.slice A5 row.length p5, .int .i64 M] 26)))
          have hs8 : StrsIn (w7.alloc (.cells #[.slice A5 row.length p5, .int .i64 M] 26)) (.slice A5 row.length p5) row := SliceOf.alloc hs7 _
          have hb7 := HB6.out.trans (hq7.mono HB6.out.size)
          have hb8 := hb7.alloc hb7.size (.cells #[.slice A5 row.length p5, .int .i64 M] 26)
          have HO7 := Lib.hid HT7.out.own
          rw [HLK.out] at HO7
          have HS8 := Lib.hid hs8
          have HB8 := Lib.hid hb8
          have HLIT := Lib.hid (lit_tm w7 26 (.slice A5 row.length p5) M)
          have H1 := Lib.hid (one_tm hs7 M)
          clear hs7 hf7 hq7 hs8 hb7 hb8 z0 z1 HCP
          go_wp2_with (at_builtin; refine wpList_append_src rfl (.tmp 40) (.tmp 43) 22 rfl 26 i0 (.agg #[.slice none 0 0, .int .i64 0]) 2 32 Try.underlying22 hi hz0 hz1 hz2 rfl (by decide) (B := w.heap.size) (.slice A6 k p6) k (timesV tv6) rfl HO7.out (.slice (some ⟨w7.heap.size, 0, none⟩) 1 1) 1 [.slice A5 row.length p5, .int .i64 M] rfl HLIT.out H1.out (by unfold maxLen; omega) (by omega) HB8.out.size ?_)
          intro v8 w8 hO8 hg8 ha8
          have HT8 := Lib.hid (HT7.out.add HS8.out HOFF.out hg8 (by simpa using ha8) hO8 (by rw [HLK.out]))
          have HB9 := Lib.hid (HB8.out.grown hg8 HB8.out.size (fun q hq => (HT7.out.own.lt q hq).1))
          obtain ⟨A8, p8, e8⟩ := HT8.out.slice
          rw [List.length_append, HLK.out] at e8
          subst e8
          clear hO8 hg8 ha8
          go_wp2_with fail
          refine (append_copies_calls (w0 := w) (HBK.out _ _ (by have := HNC.out; omega) (fun h => by first | (have := HNC.out; omega) | rfl | (simp only [Option.some.injEq, Addr.mk.injEq, and_true, true_and]; omega))) HT8.out HB9.out (by rw [List.length_append, HLK.out]; simp only [List.length_drop, List.length_cons, List.length_nil]; omega) HSD.out).mono ?_
          rintro e w9 ⟨v9, tv9, rfl, hT9, hb9, _⟩
          have HE9 := Lib.hid (show TimesIn w9 v9 (putW l (row, n)) by rw [HP.out]; have := hT9.times; first | exact this | simpa using this)
          obtain ⟨A9, p9, e9⟩ := hT9.slice
          obtain ⟨N9, hN9⟩ : ∃ N9, v9 = .slice A9 N9 p9 := ⟨_, e9⟩
          subst hN9
          clear hT9 e9
          go_wp2
          go_ret
          exact ⟨_, rfl, HE9.out, hb9⟩
  | false =>
    have HP := Lib.hid (put_place (n := n) hpl (fun e => absurd (hzz.2 e) (by decide)))
    clear hpl hzz
    have HP2 := HP
    have HBX := Lib.hid hBX
    have HSZ3 := Lib.hid hsz2
    have HB3 := Lib.hid hb12
    obtain ⟨z0, z1, _, _⟩ := hBX.cells
    have HSD := Lib.hid (short_drop HSH.out k)
    clear HP hBX hsz2 hb12
    have hsA := fun W => slice_back W A l.length cap k hkl
    have hsB := fun W => slice_front W A l.length cap k (by omega)
    have hbk : TimesIn w (.slice (if cap = k then A else A.map (·.add (k * 2))) (l.length - k) (cap - k)) (l.drop k) := by
      by_cases hk : k < l.length
      · obtain ⟨b, off, cap', e0⟩ := HAT0.out k hk
        obtain ⟨rfl, rfl⟩ : A = some ⟨b, off, none⟩ ∧ cap = cap' := by injection e0 with e1 _ e2; exact ⟨e1, e2⟩
        exact times_back HT.out k hkl _ _ (by omega) (fun h => by rw [if_neg (by omega), Option.map_some, Addr.add_lit])
      · rw [List.drop_eq_nil_of_le (by omega), show l.length - k = 0 by omega]
        exact TimesIn.nil_ _ _ _
    generalize (if cap = k then A else A.map (·.add (k * 2))) = A2 at *
    generalize cap - k = c2 at *
    have HBK := Lib.hid hbk
    clear hbk hnc
    have hmade : TimesOwn (w2.drew.alloc (.cells cs 26)) w.heap.size (.slice (some ⟨w2.heap.size, 0, none⟩) 0 (l.length + 1)) [] [] :=
      ⟨Own.of_row (World.ownsRow_made w2.drew cs (l.length + 1) (Nat.le_trans (Nat.le_succ _) HSZ3.out) (by unfold maxLen; omega) HCS.out) (Nat.zero_le _) (Nat.le_refl _), trivial, fun _ h => absurd h (by simp)⟩
    have hbm : Below w.heap.size w (w2.drew.alloc (.cells cs 26)) := HB3.out.drew.alloc (Nat.le_trans (Nat.le_succ _) HSZ3.out) _
    have hbxm : BoxOf (w2.drew.alloc (.cells cs 26)) w.heap.size (.slice Ax row.length px) n := HBX.out.later ((Below.drew (.refl _ w2)).alloc (Nat.le_refl _) _)
    have HMADE := Lib.hid hmade
    have HBM := Lib.hid hbm
    have HBXM := Lib.hid hbxm
    have HNE : Hid ((Value.slice (some ⟨w2.heap.size, 0, none⟩) 0 (l.length + 1)).ownBlock ≠ some w.heap.size) := by
      intro e
      simp only [Value.ownBlock, Option.some.injEq] at e
      have := HSZ3.out
      omega
    have HLK := Lib.hid (show (l.take k).length = k by rw [List.length_take]; omega)
    have HST := Lib.hid (short_take HSH.out k)
    clear hmade hbm hbxm
    go_wp2
    all_goals
      go_region_with (go_at_call 34; refine (append_copies_calls (w0 := w) HFR.out HMADE.out HBM.out (by simp only [List.length_nil, List.length_take]; omega) HST.out).mono ?_; rintro e w6 ⟨v6, tv6, rfl, hT6, hb6, hk6⟩; have HBX6 := Lib.hid (HBXM.out.kept hk6 HNE.out); obtain ⟨z0, z1, _, _⟩ := HBX6.out.cells; have HT6 := Lib.hid hT6; rw [List.nil_append] at HT6; obtain ⟨A6, p6, e6⟩ := hT6.slice; rw [List.nil_append, HLK.out] at e6; subst e6; have HB6 := Lib.hid hb6; clear hT6 hb6 hk6)
      all_goals
        by_cases hz : n = 0
        · have d5 : (n == 0) = true := by rw [beq_iff_eq]; exact hz
          have d6 : (n != 0) = false := by rw [bne, d5]; rfl
          have HP := HP2
          rw [if_pos hz, List.append_nil] at HP
          clear hz
          go_wp2_with fail
          refine (append_copies_calls (w0 := w) HBK.out HT6.out HB6.out (by rw [HLK.out]; simp only [List.length_drop]; omega) HSD.out).mono ?_
          rintro e w9 ⟨v9, tv9, rfl, hT9, hb9, _⟩
          have HE9 := Lib.hid (show TimesIn w9 v9 (putW l (row, n)) by rw [HP.out]; have := hT9.times; first | exact this | simpa using this)
          obtain ⟨A9, p9, e9⟩ := hT9.slice
          obtain ⟨N9, hN9⟩ : ∃ N9, v9 = .slice A9 N9 p9 := ⟨_, e9⟩
          subst hN9
          clear hT9 e9
          go_wp2
          go_ret
          exact ⟨_, rfl, HE9.out, hb9⟩
        · have d5 : (n == 0) = false := by rw [beq_eq_false_iff_ne]; exact hz
          have d6 : (n != 0) = true := by rw [bne, d5]; rfl
          have HP := HP2
          rw [if_neg hz] at HP
          clear hz
          have hcp := copied_calls n (StrsIn.kept HX.out HB6.out) HROW.out
          unfold timesA CopyEnd at hcp
          have HCP := Lib.hid hcp
          have HLT6 := Lib.hid (show ∀ q, (Value.slice A6 k p6).ownBlock = some q → q < w6.heap.size from fun q hq => (HT6.out.own.lt q hq).2)
          clear hcp
          go_wp2_with fail
          refine HCP.out.mono ?_
          rintro e w7 ⟨A5, p5, rfl, hs7, hf7, hq7⟩
          have HOFF := Lib.hid (RowOff.of_fresh (v := .slice A6 k p6) hf7 HLT6.out)
          have HT7 := Lib.hid ((HT6.out.later hq7).later (Below.alloc (.refl _ w7) (Nat.le_refl _) (.cells #[.slice A5 row.length p5, .int .i64 n] 26)))
          have hs8 : StrsIn (w7.alloc (.cells #[.slice A5 row.length p5, .int .i64 n] 26)) (.slice A5 row.length p5) row := SliceOf.alloc hs7 _
          have hb7 := HB6.out.trans (hq7.mono HB6.out.size)
          have hb8 := hb7.alloc hb7.size (.cells #[.slice A5 row.length p5, .int .i64 n] 26)
          have HO7 := Lib.hid HT7.out.own
          rw [HLK.out] at HO7
          have HS8 := Lib.hid hs8
          have HB8 := Lib.hid hb8
          have HLIT := Lib.hid (lit_tm w7 26 (.slice A5 row.length p5) n)
          have H1 := Lib.hid (one_tm hs7 n)
          clear hs7 hf7 hq7 hs8 hb7 hb8 z0 z1 HCP
          go_wp2_with (at_builtin; refine wpList_append_src rfl (.tmp 40) (.tmp 43) 22 rfl 26 i0 (.agg #[.slice none 0 0, .int .i64 0]) 2 32 Try.underlying22 hi hz0 hz1 hz2 rfl (by decide) (B := w.heap.size) (.slice A6 k p6) k (timesV tv6) rfl HO7.out (.slice (some ⟨w7.heap.size, 0, none⟩) 1 1) 1 [.slice A5 row.length p5, .int .i64 n] rfl HLIT.out H1.out (by unfold maxLen; omega) (by omega) HB8.out.size ?_)
          intro v8 w8 hO8 hg8 ha8
          have HT8 := Lib.hid (HT7.out.add HS8.out HOFF.out hg8 (by simpa using ha8) hO8 (by rw [HLK.out]))
          have HB9 := Lib.hid (HB8.out.grown hg8 HB8.out.size (fun q hq => (HT7.out.own.lt q hq).1))
          obtain ⟨A8, p8, e8⟩ := HT8.out.slice
          rw [List.length_append, HLK.out] at e8
          subst e8
          clear hO8 hg8 ha8
          go_wp2_with fail
          refine (append_copies_calls (w0 := w) HBK.out HT8.out HB9.out (by rw [List.length_append, HLK.out]; simp only [List.length_drop, List.length_cons, List.length_nil]; omega) HSD.out).mono ?_
          rintro e w9 ⟨v9, tv9, rfl, hT9, hb9, _⟩
          have HE9 := Lib.hid (show TimesIn w9 v9 (putW l (row, n)) by rw [HP.out]; have := hT9.times; first | exact this | simpa using this)
          obtain ⟨A9, p9, e9⟩ := hT9.slice
          obtain ⟨N9, hN9⟩ : ∃ N9, v9 = .slice A9 N9 p9 := ⟨_, e9⟩
          subst hN9
          clear hT9 e9
          go_wp2
          go_ret
          exact ⟨_, rfl, HE9.out, hb9⟩
end Go.Proofs.Ytoamnoafamoldaa
