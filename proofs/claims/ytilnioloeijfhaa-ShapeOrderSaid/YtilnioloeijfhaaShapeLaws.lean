/- The walk of the document's examples of layer 9, and of 'small'. -/
import Derived.Test.YtilnioloeijfhaaShapeCmp
import Derived.Test.YtilnioloeijfhaaShapeFits
import Derived.Test.YtilnioloeijfhaaShapeName
import Derived.Test.YtilnioloeijfhaaShapePickRef
import Derived.Test.YtilnioloeijfhaaCellNum
import Derived.Test.YtilnioloeijfhaaSame
namespace Go.Proofs.Ytilnioloeijfhaa
open Go Go.RowKit

/-- The front of a slice. -/
theorem SliceOf.front {w : World} {A : Option Addr} {n cap m : Nat} {xs : List Value} (h : SliceOf w 1 (.slice A n cap) n xs) (hm : m ≤ n) : SliceOf w 1 (.slice A m cap) m (xs.take m) := by
  obtain ⟨h1, h2, A', cap', e, hr, h4⟩ := h
  cases e
  refine ⟨by rw [List.length_take]; omega, by omega, A, cap, rfl, by omega, fun h0 => ?_⟩
  obtain ⟨b, off, e1, hb, hc⟩ := h4 (by omega)
  refine ⟨b, off, e1, hb, fun j u hu => hc j u ?_⟩
  rw [List.getElem?_take] at hu
  split at hu
  · exact hu
  · exact absurd hu (by simp)
theorem strs_front {w : World} {A : Option Addr} {n cap m : Nat} {l : List ByteArray} (h : StrsIn w (.slice A n cap) l) (hn : n = l.length) (hm : m ≤ n) : StrsIn w (.slice A m cap) (l.take m) := by
  subst hn
  have := SliceOf.front h hm
  unfold StrsIn
  rw [List.length_take, Nat.min_eq_left hm, List.map_take]
  exact this

/-- Are cells few, and short? -/
def smallL (l : List ByteArray) : Bool := l.all (fun c => decide (c.size ≤ 200)) && decide (l.length ≤ 30)
theorem smallL_of {l : List ByteArray} (h : smallL l = true) : l.length ≤ 30 ∧ ∀ c ∈ l, c.size ≤ 200 := by
  unfold smallL at h
  rw [Bool.and_eq_true, List.all_eq_true, decide_eq_true_eq] at h
  exact ⟨h.2, fun c hc => by have := h.1 c hc; rwa [decide_eq_true_eq] at this⟩

set_option maxHeartbeats 400000 in
theorem small_calls {w : World} {v : Value} {l : List ByteArray} (h : StrsIn w v l) : Reads Try.prog 6 #[v] w (.bool (smallL l)) := by
  have hm := h.len
  unfold maxLen at hm
  obtain ⟨A, cap, rfl, hat⟩ := one_at h
  have HAT := Lib.hid hat
  clear h hat
  unfold Reads
  go_enter Try.func6, Try.ntmps6
  go_wp2
  go_loop [3] (fun i => ∃ k : Nat, k ≤ l.length ∧ i = .int .i64 k ∧ Hid (∀ c ∈ l.take k, c.size ≤ 200)) (fun i => l.length - (intOf i).toNat)
  case atStart => exact ⟨0, Nat.zero_le _, rfl, fun c hc => absurd hc (by simp)⟩
  case round =>
    obtain ⟨k, hk, rfl, HS⟩ := hrel
    by_cases hlt : k < l.length
    · obtain ⟨b, off, rfl, hbl, hc⟩ := HAT.out k hlt
      have hx := hc k hlt
      have HT := Lib.hid (take_add l k hlt)
      have HM := Lib.hid (List.getElem_mem hlt)
      clear hc
      by_cases hz : l[k].size ≤ 200
      · have d1 : decide (200 < (l[k].size : Int)) = false := by rw [decide_eq_false_iff_not]; omega
        go_wp2
        go_round
        case rel => exact ⟨k + 1, by omega, by go_num, fun c hc => by
          rw [HT.out] at hc
          rcases List.mem_append.1 hc with hc | hc
          · exact HS.out c hc
          · rw [List.mem_singleton] at hc; rw [hc]; exact hz⟩
        case measure => simp [intOf]; omega
      · have d1 : decide (200 < (l[k].size : Int)) = true := by rw [decide_eq_true_eq]; omega
        have HD : Hid (smallL l = false) := by
          show _ = _
          cases hs : smallL l with
          | false => rfl
          | true => exact absurd ((smallL_of hs).2 _ HM.out) hz
        go_wp2
        go_ret
        exact ⟨ret_bool HD.out.symm, rfl⟩
    · obtain rfl : k = l.length := by omega
      have HD : Hid (decide ((l.length : Int) ≤ 30) = smallL l) := by
        show _ = _
        have h1 : l.all (fun c => decide (c.size ≤ 200)) = true := by
          rw [List.all_eq_true]
          intro c hc
          rw [decide_eq_true_eq]
          exact HS.out c (by rw [List.take_length]; exact hc)
        unfold smallL
        rw [h1, Bool.true_and]
        congr 1
        rw [eq_iff_iff]
        omega
      go_wp2
      go_ret
      exact ⟨ret_bool HD.out, rfl⟩

theorem SliceOf.cellAt {w : World} {size b off n cap : Nat} {xs : List Value} (h : SliceOf w size (.slice (some ⟨b, off, none⟩) n cap) n xs) (hn : 0 < n) (j : Nat) (u : Value) (hu : xs[j]? = some u) : w.cell? ⟨b, off + j, none⟩ = some u := by
  obtain ⟨A, c, e, h4⟩ := h.at_
  cases e
  obtain ⟨b', off', e1, _, hc⟩ := h4 hn
  cases e1
  exact hc j u hu
theorem strs_some {w : World} {v : Value} {l : List ByteArray} (h : StrsIn w v l) (h0 : 0 < l.length) : ∃ b off cap, v = .slice (some ⟨b, off, none⟩) l.length cap := by
  rcases StrsIn.parts h with ⟨e, _⟩ | ⟨_, b, off, cap, e, _⟩
  · rw [e] at h0; exact absurd h0 (by simp)
  · exact ⟨b, off, cap, e⟩
theorem lit_ints (w : World) (T : TypeId) (l : List Int) (h : l.length ≤ 1000) : IntsIn (w.alloc (.cells (l.map (Value.int .i64)).toArray T)) (.slice (some ⟨w.heap.size, 0, none⟩) l.length l.length) l := lit_ones (Value.int .i64) w T l h
abbrev tA : ByteArray := ⟨#[116, 97]⟩
theorem lit_toList (l : List UInt8) : (⟨l.toArray⟩ : ByteArray).toList = l := by rw [ByteArray.toList_eq]
theorem cellInt_some (n : Int) : (cellInt n).toList.isEmpty = false := by rw [ByteArray.toList_eq]; rfl
theorem tA_some : tA.toList.isEmpty = false := by rw [lit_toList]; rfl
theorem aw_fits1 : fitsC (105, false) (cellInt 1) = true := by
  unfold fitsC
  rw [cellInt_some, kind_cellInt]
  unfold rightB
  rw [cellInt_some, kind_cellInt, size_cellInt]; rfl
theorem aw_fits2 : fitsC (116, true) tA = true := by
  unfold fitsC
  rw [tA_some]
  unfold rightB
  rw [tA_some]; rfl
theorem empty_is : (⟨#[]⟩ : ByteArray).toList.isEmpty = true := by rw [show (⟨#[]⟩ : ByteArray).toList = [] from lit_toList []]; rfl
theorem aw_fits0 : fitsC (105, false) ⟨#[]⟩ = false := by unfold fitsC; rw [empty_is]; rfl
theorem aw_fits3 : fitsC (116, true) ⟨#[]⟩ = true := by unfold fitsC; rw [empty_is]; rfl
theorem aw_row0 : rowN [(105, false), (116, true)] [cellInt 1, tA] = 0 := by
  unfold rowN fitsL
  refine (if_pos (by rfl)).trans ?_
  rw [List.zip_cons_cons, List.zip_cons_cons, List.all_cons, List.all_cons]
  dsimp only
  rw [aw_fits1, aw_fits2]; rfl
theorem aw_row1 (c : ByteArray) : rowN [(105, false), (116, true)] [c] = 1 := rfl
theorem aw_row5 : rowN [(105, false), (116, true)] [⟨#[]⟩, ⟨#[]⟩] = 5 := by
  unfold rowN fitsL
  refine (if_pos (by rfl)).trans ?_
  rw [List.zip_cons_cons, List.zip_cons_cons, List.all_cons, List.all_cons]
  dsimp only
  rw [aw_fits0]; rfl
theorem name_of (l : List UInt8) : nameB ⟨l.toArray⟩ = (!l.isEmpty && decide (l.length ≤ 12) && l.all letterB) := by
  unfold nameB
  rw [lit_toList]; rfl
theorem aw_name1 : nameB ⟨#[97, 98, 99]⟩ = true := (name_of [97, 98, 99]).trans rfl
theorem aw_name2 : nameB ⟨#[]⟩ = false := (name_of []).trans rfl
theorem aw_name3 : nameB ⟨#[65]⟩ = false := (name_of [65]).trans rfl
theorem aw_name4 : nameB ⟨#[97, 98, 99, 100, 101, 102, 103, 104, 105, 106, 107, 108, 109]⟩ = false := (name_of [97, 98, 99, 100, 101, 102, 103, 104, 105, 106, 107, 108, 109]).trans rfl
theorem aw_right1 : rightC [(105, false), (116, true)] = true := rfl
theorem aw_right2 : rightC [] = false := rfl
theorem aw_right3 : rightC [(120, false)] = false := rfl
theorem aw_pick1 (c d : ByteArray) : pickOk [c, d] [1, 0, 1] = true ∧ pickL [c, d] [1, 0, 1] = [d, c, d] := ⟨rfl, rfl⟩
theorem aw_pick2 (c d : ByteArray) : pickOk [c, d] [2] = false := rfl
theorem aw_cmp (c d : ByteArray) : cmpL [c] [c, d] = -1 := by rw [cmpL_front]; rfl

set_option maxHeartbeats 4000000 in
set_option maxRecDepth 100000 in
theorem awake_calls : Gives Try.prog 7 #[] (.bool true) := by
  intro w
  obtain ⟨hb, hB⟩ := start w
  have I1 := Lib.hid (int_calls 1 (by decide) (by decide))
  have HR0 := Lib.hid aw_row0
  have HF1 := Lib.hid aw_fits1
  generalize cellInt 1 = c1 at *
  go_enter Try.func7, Try.ntmps7
  go_wp2_with fail
  refine I1.out.stepB (w0 := w) (B := w.heap.size) (below_alloc hb hB _).1 (below_alloc hb hB _).2 ?_
  have hcs := lit_cols w 35 [(105, false), (116, true)] (by show 2 ≤ 1000; decide)
  clear hb hB I1
  intro w1 hb hB hk
  replace hcs := ColsIn.kept hcs hk
  clear hk
  go_wp2_with fail
  -- Pick(row, 1 0 1)
  have hr : StrsIn (w1.alloc (.cells #[.string c1, .string ⟨#[116, 97]⟩] 9)) (.slice (some ⟨w1.heap.size, 0, none⟩) 2 2) [c1, tA] := lit_strs w1 9 [c1, tA] (by show 2 ≤ 1000; decide)
  replace hcs := ColsIn.kept hcs ((Below.refl _ w1).alloc (Nat.le_refl _) (.cells #[.string c1, .string ⟨#[116, 97]⟩] 9))
  replace hb := (below_alloc hb hB (.cells #[.string c1, .string ⟨#[116, 97]⟩] 9)).1
  replace hB := hb.size
  have hsz : w1.heap.size + 1 = (w1.alloc (.cells #[.string c1, .string ⟨#[116, 97]⟩] 9)).heap.size := by simp
  rw [hsz]
  clear hsz
  generalize w1.alloc (.cells #[.string c1, .string ⟨#[116, 97]⟩] 9) = w2 at *
  generalize w1.heap.size = br at *
  have hpk := shape_pick_calls (StrsIn.kept hr ((Below.refl _ w2).alloc (Nat.le_refl _) (.cells #[.int .i64 1, .int .i64 0, .int .i64 1] 3))) (lit_ints w2 3 [1, 0, 1] (by decide)) (by decide)
  refine hpk.mono ?_
  clear hpk
  rintro e w3 ⟨vp, he, hp, hk⟩
  rw [(aw_pick1 c1 tA).1] at he
  rw [(aw_pick1 c1 tA).2] at hp
  subst he
  replace hk := lit_below hk
  replace hb := hb.trans (hk.mono hB)
  replace hB := hb.size
  replace hcs := ColsIn.kept hcs hk
  replace hr := StrsIn.kept hr hk
  clear hk
  obtain ⟨bp, op, cp, rfl⟩ := strs_some hp (by show 0 < 3; decide)
  go_wp2_with fail
  -- Pick(row, 2)
  have hpk := shape_pick_calls (StrsIn.kept hr ((Below.refl _ w3).alloc (Nat.le_refl _) (.cells #[.int .i64 2] 3))) (lit_ints w3 3 [2] (by decide)) (by decide)
  refine hpk.mono ?_
  clear hpk
  rintro e w4 ⟨vq, he, _, hk⟩
  rw [aw_pick2] at he
  subst he
  replace hk := lit_below hk
  replace hb := hb.trans (hk.mono hB)
  replace hB := hb.size
  replace hcs := ColsIn.kept hcs hk
  replace hr := StrsIn.kept hr hk
  replace hp := StrsIn.kept hp hk
  clear hk
  go_wp2_with fail
  -- Right(cols)
  have hq := shape_right_calls hcs
  rw [aw_right1] at hq
  refine hq.stepB (w0 := w) (B := w.heap.size) hb hB ?_
  clear hb hB hq
  intro w5 hb hB hk
  replace hcs := ColsIn.kept hcs hk
  replace hr := StrsIn.kept hr hk
  replace hp := StrsIn.kept hp hk
  clear hk
  go_wp2_with fail
  -- Right(nil)
  have hq := shape_right_calls (nil_cols w5 none 0)
  rw [aw_right2] at hq
  refine hq.stepB (w0 := w) (B := w.heap.size) hb hB ?_
  clear hb hB hq
  intro w6 hb hB hk
  replace hcs := ColsIn.kept hcs hk
  replace hr := StrsIn.kept hr hk
  replace hp := StrsIn.kept hp hk
  clear hk
  go_wp2_with fail
  -- Right(x)
  have hq := shape_right_calls (lit_cols w6 35 [(120, false)] (by decide))
  rw [aw_right3] at hq
  refine hq.stepB (w0 := w) (B := w.heap.size) (below_alloc hb hB _).1 (below_alloc hb hB _).2 ?_
  clear hb hB hq
  intro w7 hb hB hk
  replace hk := lit_below hk
  replace hcs := ColsIn.kept hcs hk
  replace hr := StrsIn.kept hr hk
  replace hp := StrsIn.kept hp hk
  clear hk
  go_wp2_with fail
  -- Name 1
  have hq := shape_name_calls ⟨#[97, 98, 99]⟩
  rw [aw_name1] at hq
  refine hq.stepB (w0 := w) (B := w.heap.size) hb hB ?_
  clear hb hB hq
  intro w8 hb hB hk
  replace hcs := ColsIn.kept hcs hk
  replace hr := StrsIn.kept hr hk
  replace hp := StrsIn.kept hp hk
  clear hk
  go_wp2_with fail
  -- Name 2
  have hq := shape_name_calls ⟨#[]⟩
  rw [aw_name2] at hq
  refine hq.stepB (w0 := w) (B := w.heap.size) hb hB ?_
  clear hb hB hq
  intro w9 hb hB hk
  replace hcs := ColsIn.kept hcs hk
  replace hr := StrsIn.kept hr hk
  replace hp := StrsIn.kept hp hk
  clear hk
  go_wp2_with fail
  -- Name 3
  have hq := shape_name_calls ⟨#[65]⟩
  rw [aw_name3] at hq
  refine hq.stepB (w0 := w) (B := w.heap.size) hb hB ?_
  clear hb hB hq
  intro w10 hb hB hk
  replace hcs := ColsIn.kept hcs hk
  replace hr := StrsIn.kept hr hk
  replace hp := StrsIn.kept hp hk
  clear hk
  go_wp2_with fail
  -- Name 4
  have hq := shape_name_calls ⟨#[97, 98, 99, 100, 101, 102, 103, 104, 105, 106, 107, 108, 109]⟩
  rw [aw_name4] at hq
  refine hq.stepB (w0 := w) (B := w.heap.size) hb hB ?_
  clear hb hB hq
  intro w11 hb hB hk
  replace hcs := ColsIn.kept hcs hk
  replace hr := StrsIn.kept hr hk
  replace hp := StrsIn.kept hp hk
  clear hk
  go_wp2_with fail
  -- Row(cols, row)
  have hq := shape_row_calls hcs hr
  rw [HR0.out] at hq
  refine hq.stepB (w0 := w) (B := w.heap.size) hb hB ?_
  clear hb hB hq
  intro w12 hb hB hk
  replace hcs := ColsIn.kept hcs hk
  replace hr := StrsIn.kept hr hk
  replace hp := StrsIn.kept hp hk
  clear hk
  go_wp2_with fail
  -- Row(cols, row[:1])
  have hq := shape_row_calls hcs (strs_front (m := 1) hr rfl (by decide))
  rw [show List.take 1 [c1, tA] = [c1] from rfl, aw_row1] at hq
  refine hq.stepB (w0 := w) (B := w.heap.size) hb hB ?_
  clear hb hB hq
  intro w13 hb hB hk
  replace hcs := ColsIn.kept hcs hk
  replace hr := StrsIn.kept hr hk
  replace hp := StrsIn.kept hp hk
  clear hk
  go_wp2_with fail
  -- Row(cols, two of nothing)
  have hq := shape_row_calls (ColsIn.kept hcs ((Below.refl _ w13).alloc (Nat.le_refl _) (.cells #[.string ⟨#[]⟩, .string ⟨#[]⟩] 9))) (lit_strs w13 9 [⟨#[]⟩, ⟨#[]⟩] (by decide))
  rw [aw_row5] at hq
  refine hq.stepB (w0 := w) (B := w.heap.size) (below_alloc hb hB _).1 (below_alloc hb hB _).2 ?_
  clear hb hB hq
  intro w14 hb hB hk
  replace hk := lit_below hk
  replace hcs := ColsIn.kept hcs hk
  replace hr := StrsIn.kept hr hk
  replace hp := StrsIn.kept hp hk
  clear hk
  have x2 : w14.cell? ⟨w.heap.size, 2, none⟩ = some (.int .u8 116) := SliceOf.cellAt hcs (by decide) 2 _ rfl
  have x3 : w14.cell? ⟨w.heap.size, 3, none⟩ = some (.bool true) := SliceOf.cellAt hcs (by decide) 3 _ rfl
  clear hcs
  go_wp2_with fail
  clear x2 x3
  -- Fits
  have hq := (shape_fits_calls (116, true) ⟨#[]⟩).at_ w14
  rw [aw_fits3] at hq
  refine hq.stepB (w0 := w) (B := w.heap.size) hb hB ?_
  clear hb hB hq
  intro w15 hb hB hk
  replace hr := StrsIn.kept hr hk
  replace hp := StrsIn.kept hp hk
  clear hk
  go_wp2_with fail
  -- Compare(row, row)
  have hq := compare_calls hr hr
  rw [cmpL_self] at hq
  refine hq.step ?_
  clear hq
  go_wp2_with fail
  -- Compare(row[:1], row)
  have hq := compare_calls (strs_front (m := 1) hr rfl (by decide)) hr
  rw [show List.take 1 [c1, tA] = [c1] from rfl, aw_cmp] at hq
  refine hq.step ?_
  clear hq
  have xp : w15.cell? ⟨bp, op, none⟩ = some (.string ⟨#[116, 97]⟩) := SliceOf.cellAt hp (by show 0 < 3; decide) 0 _ rfl
  clear hr hp
  go_wp2_with fail
  -- Kind
  have hq := shape_kind_calls 98 w15
  refine hq.step ?_
  clear hq
  go_wp2
  go_ret
  exact ⟨rfl, hb⟩
end Go.Proofs.Ytilnioloeijfhaa
