/- The walk of the document's examples of layer 3. -/
import Derived.Test.YtcoodplomnjkcaaShelfRead3
namespace Go.Proofs.Ytcoodplomnjkcaa
open Go Go.RowKit

theorem nb_1 : nb 1 = 1 := by rw [nb_pos (by decide), show 1 / 256 = 0 from rfl, nb_zero]
theorem nb_3 : nb 3 = 1 := by rw [nb_pos (by decide), show 3 / 256 = 0 from rfl, nb_zero]
theorem nb_303 : nb 303 = 2 := by rw [nb_pos (by decide), show 303 / 256 = 1 from rfl, nb_1]
theorem vp_10 : vp 10 = [10] := by rw [vp_small (by decide)]; rfl
theorem vp_2 : vp 2 = [2] := by rw [vp_small (by decide)]; rfl
theorem sh_1 : shelfP [-3, 300, 0] = [5, 2, 0, 0, 47, 1, 3, 0] := by
  have e1 : leastI [-3, 300, 0] = -3 := rfl
  have d1 : dist (-3) (-3) = 0 := rfl
  have d2 : dist 300 (-3) = 303 := rfl
  have d3 : dist 0 (-3) = 3 := rfl
  have e2 : bytesL [-3, 300, 0] = 2 := by
    unfold bytesL bytesFrom
    rw [e1]
    simp only [List.foldl_cons, List.foldl_nil, d1, d2, d3, nb_zero, nb_303, nb_3]
    rfl
  have e3 : (foldI (-3)).toNat = 5 := rfl
  unfold shelfP
  rw [e1, e2, e3, vp_5, vp_2]
  unfold rowsP
  simp only [List.flatMap_cons, List.flatMap_nil, d1, d2, d3]
  rfl
theorem sh_2 : shelfP [5, 5] = [10, 0] := by
  have e1 : leastI [5, 5] = 5 := rfl
  have d1 : dist 5 5 = 0 := rfl
  have e2 : bytesL [5, 5] = 0 := by
    unfold bytesL bytesFrom
    rw [e1]
    simp only [List.foldl_cons, List.foldl_nil, d1, nb_zero]
    rfl
  have e3 : (foldI 5).toNat = 10 := rfl
  unfold shelfP
  rw [e1, e2, e3, vp_10, vp_0]
  unfold rowsP
  simp only [List.flatMap_cons, List.flatMap_nil, d1]
  rfl
theorem sh_3 : shelfP [] = [0, 0] := by
  have e2 : bytesL [] = 0 := rfl
  have e3 : (foldI (leastI [])).toNat = 0 := rfl
  unfold shelfP
  rw [e2, e3, vp_0]
  rfl
theorem sh_4 : bytesL [-9223372036854775808, 9223372036854775807] = 8 := by
  refine Nat.le_antisymm (bytesFrom_le_8 _ _) ?_
  have h : ¬ bytesL [-9223372036854775808, 9223372036854775807] ≤ 7 := by
    unfold bytesL
    rw [bytesFrom_spec]
    intro h
    have := h 9223372036854775807 (by simp)
    exact absurd this (by decide)
  omega
theorem sh_none : ¬ ∃ l r, ShelfAt [0, 2, 1, 0] 1 l r := by
  rintro ⟨l, r, _, _, hl, hr, hs⟩
  match l, hl with
  | [x], _ =>
    have d1 : dist x x = 0 := by unfold dist; simp
    have e1 : leastI [x] = x := rfl
    have e2 : bytesL [x] = 0 := by
      unfold bytesL bytesFrom
      rw [e1]
      simp only [List.foldl_cons, List.foldl_nil, d1, nb_zero]
      rfl
    have hF := foldI_nat [x] hr
    unfold shelfP at hs
    rw [e2, List.append_assoc, List.append_assoc] at hs
    have hs' : vp 0 ++ (vp 2 ++ [1, 0]) = vp (foldI (leastI [x])).toNat ++ (vp 0 ++ (rowsP (leastI [x]) 0 [x] ++ r)) := by rw [← hs, vp_0, vp_2]; rfl
    obtain ⟨_, h2⟩ := vp_prefix (by decide) hF hs'
    obtain ⟨h3, _⟩ := vp_prefix (by decide) (by decide) h2
    exact absurd h3 (by decide)

theorem ints_lit (w : World) (T : TypeId) (l : List Int) (h : l.length ≤ 1000) : IntsIn (w.alloc (.cells (l.map (Value.int .i64)).toArray T)) (.slice (some ⟨w.heap.size, 0, none⟩) l.length l.length) l := by
  have := (Own.lit (B := 0) (size := 1) w (l.map (Value.int .i64)).toArray T l.length (Nat.zero_le _) (by unfold maxLen; omega) (by simp)).slice
  exact this
theorem TakesInts.stepB {P : Program} {T : TypeId} {f : FuncId} {more : List Value} {b : Nat} {s s' : ByteArray} {l : List Int} (h : TakesInts P T f more b s l s')
    {w0 w : World} {B : Nat} (hT : TapeIn T w b s false) (hb : Below B w0 w) (hB : B ≤ w.heap.size) (hr : B ≤ b) {R : Ending → World → Prop}
    (k : ∀ v w', IntsIn w' v l → Fresh w.heap.size v → TapeIn T w' b s' false → Below B w0 w' → B ≤ w'.heap.size → w.grownBy w' (some b) → R (.returned v) w') :
    Calls P f (Value.pointer (some ⟨b, 0, none⟩) :: more).toArray w R :=
  (h w hT).mono fun _ _ ⟨_, he, hi, hf, hT', hw⟩ => he ▸ k _ _ hi hf hT' (hb.grown hw hB (fun k hk => by cases hk; exact hr)) (Nat.le_trans hB hw.size) hw

theorem boxed_below {w w' : World} {o : Obj} (hg : (w.alloc o).grownBy w' (some w.heap.size)) : Below w.heap.size w w' :=
  (Below.alloc (.refl _ w) (Nat.le_refl _) o).grown hg (by simp) (fun k hk => by cases hk; exact Nat.le_refl _)
theorem lit_below {w w' : World} {o : Obj} (hk : Below (w.alloc o).heap.size (w.alloc o) w') : Below w.heap.size w w' :=
  (Below.alloc (.refl _ w) (Nat.le_refl _) o).trans (hk.mono (by simp))
theorem small_range (l : List Int) (h : (l.all fun x => decide (-9223372036854775808 ≤ x) && decide (x ≤ 9223372036854775807)) = true) : InR l := by
  intro x hx
  have := List.all_eq_true.1 h x hx
  simpa using this
theorem aw1 (w : World) : GivesAt Try.prog 9 #[.slice (some ⟨w.heap.size, 0, none⟩) 3 3] (w.alloc (.cells #[.int .i64 (-3), .int .i64 300, .int .i64 0] 3)) (.string ⟨#[5, 2, 0, 0, 47, 1, 3, 0]⟩) := by
  have h := shelf_print_calls (ints_lit w 3 [-3, 300, 0] (by decide)) (small_range _ (by decide)) (by decide)
  unfold shelfB at h
  rw [sh_1] at h
  exact h
theorem aw2 (w : World) : GivesAt Try.prog 9 #[.slice (some ⟨w.heap.size, 0, none⟩) 2 2] (w.alloc (.cells #[.int .i64 5, .int .i64 5] 3)) (.string ⟨#[10, 0]⟩) := by
  have h := shelf_print_calls (ints_lit w 3 [5, 5] (by decide)) (small_range _ (by decide)) (by decide)
  unfold shelfB at h
  rw [sh_2] at h
  exact h
theorem aw3 (w : World) : GivesAt Try.prog 9 #[.slice none 0 0] w (.string ⟨#[0, 0]⟩) := by
  have h := shelf_print_calls (w := w) (v := .slice none 0 0) (l := []) (SliceOf.nil_ _ _ _ _) (small_range _ (by decide)) (by decide)
  unfold shelfB at h
  rw [sh_3] at h
  exact h
def minI : Int := -9223372036854775808
def maxI : Int := 9223372036854775807
theorem aw4 (w : World) : Reads Try.prog 11 #[.slice (some ⟨w.heap.size, 0, none⟩) 2 2] (w.alloc (.cells #[.int .i64 minI, .int .i64 maxI] 3)) (.int .i64 8) := by
  have h := bytes_calls (ints_lit w 3 [-9223372036854775808, 9223372036854775807] (by decide)) (small_range _ (by decide))
  rw [sh_4] at h
  exact h
theorem aw5 (b : Nat) : TakesInts Try.prog 29 13 [.int .i64 3] b ⟨#[5, 2, 0, 0, 47, 1, 3, 0, 120]⟩ [-3, 300, 0] ⟨#[120]⟩ :=
  shelf_read_some b _ (by decide) (r := [120]) ⟨by decide, by decide, rfl, small_range _ (by decide), by rw [sh_1]; rfl⟩
theorem aw6 (b : Nat) : TakesInts Try.prog 29 13 [.int .i64 0] b ⟨#[0, 0]⟩ [] ⟨#[]⟩ :=
  shelf_read_some b _ (by decide) (r := []) ⟨by decide, by decide, rfl, small_range _ (by decide), by rw [sh_3]; rfl⟩
theorem aw7 (b : Nat) : Takes Try.prog 29 13 [.int .i64 1] b ⟨#[0, 2, 1, 0]⟩ false (.slice none 0 0) ⟨#[0, 2, 1, 0]⟩ true :=
  shelf_read_none b _ (by decide) 1 sh_none

theorem ab_1 : (⟨#[10, 0]⟩ : ByteArray).toList = [10, 0] := by rw [ByteArray.toList_eq]
theorem ab_2 : (⟨#[5, 2, 0, 0, 47, 1, 3, 0]⟩ : ByteArray).toList = [5, 2, 0, 0, 47, 1, 3, 0] := by rw [ByteArray.toList_eq]
theorem ab_3 : (⟨#[120]⟩ : ByteArray).toList = [120] := by rw [ByteArray.toList_eq]

set_option maxHeartbeats 2000000 in
set_option maxRecDepth 100000 in
theorem awake_calls : Gives Try.prog 8 #[] (.bool true) := by
  intro w
  obtain ⟨hb, hB⟩ := start w
  have e0 : (⟨#[5, 2, 0, 0, 47, 1, 3, 0]⟩ : ByteArray) ++ ⟨#[120]⟩ = ⟨#[5, 2, 0, 0, 47, 1, 3, 0, 120]⟩ := bytes_ext (by rw [data_append]; rfl)
  have e1 := ab_1
  have e2 := ab_2
  have e3 := ab_3
  go_enter Try.func8, Try.ntmps8
  go_wp2_with (go_at_call 9; refine (aw1 _).step (w0 := w) (B := w.heap.size) (below_alloc hb hB _).1 (below_alloc hb hB _).2 ?_; clear hb hB; intro w1 hb hB)
  go_wp2_with (go_at_call 13; refine (aw5 _).stepB (w0 := w) (B := w.heap.size) (box_tape w1 _ _ _) (below_alloc hb hB _).1 (below_alloc hb hB _).2 (by go_size) ?_)
  clear hb hB
  intro v1 w2 hi1 hf1 hT1 hb hB _
  go_wp2_with (go_at_call 9; refine (aw3 _).stepB (w0 := w) (B := w.heap.size) hb hB ?_)
  clear hb hB
  intro w3 hb hB hk
  have hi2 := IntsIn.kept hi1 hk
  have hT2 := hT1.kept hk
  clear hi1 hf1 hT1 hk
  go_wp2_with (go_at_call 13; refine (aw6 _).stepB (w0 := w) (B := w.heap.size) (box_tape w3 _ _ _) (below_alloc hb hB _).1 (below_alloc hb hB _).2 hB ?_)
  clear hb hB
  intro v4 w4 hi4 hf4 hT4 hb hB hg4
  have hk := boxed_below hg4
  have hi3 := IntsIn.kept hi2 hk
  have hT3 := hT2.kept hk
  clear hi2 hT2 hf4 hg4 hk
  go_wp2_with (go_at_call 13; refine (aw7 _).stepB (w0 := w) (B := w.heap.size) (box_tape w4 _ _ _) (below_alloc hb hB _).1 (below_alloc hb hB _).2 hB ?_)
  clear hb hB
  intro w5 hT5 hb hB hg5
  have hk := boxed_below hg5
  have hi5 := IntsIn.kept hi3 hk
  have hT6 := hT3.kept hk
  have hT7 := hT4.kept hk
  obtain ⟨A4, c4, rfl, _⟩ := one_at hi4
  clear hi3 hT3 hT4 hi4 hg5 hk
  go_wp2_with (go_at_call 9; refine (aw2 _).stepB (w0 := w) (B := w.heap.size) (below_alloc hb hB _).1 (below_alloc hb hB _).2 ?_)
  clear hb hB
  intro w6 hb hB hk0
  have hk := lit_below (w := w5) (w' := w6) (o := .cells #[.int .i64 5, .int .i64 5] 3) (by simpa using hk0)
  have hi6 := IntsIn.kept hi5 hk
  have hT8 := hT6.kept hk
  have hT9 := hT7.kept hk
  have hT10 := hT5.kept hk
  clear hi5 hT6 hT7 hT5 hk hk0
  go_wp2_with (go_at_call 9; refine (aw1 _).stepB (w0 := w) (B := w.heap.size) (below_alloc hb hB _).1 (below_alloc hb hB _).2 ?_)
  clear hb hB
  intro w7 hb hB hk0
  have hk := lit_below (w := w6) (w' := w7) (o := .cells #[.int .i64 (-3), .int .i64 300, .int .i64 0] 3) (by simpa using hk0)
  have hi7 := IntsIn.kept hi6 hk
  have t1 := (hT8.kept hk).c0
  have t2 := (hT9.kept hk).c1
  have t3 := (hT10.kept hk).c1
  clear hi6 hT8 hT9 hT10 hk hk0
  rcases IntsIn.parts hi7 with ⟨h0, _⟩ | ⟨_, g, off, cap, rfl, hgl, hcell⟩
  · exact absurd h0 (by simp)
  have k0 : w7.cell? ⟨g, off, none⟩ = some (.int .i64 (-3)) := hcell 0 (by simp)
  have k1 : w7.cell? ⟨g, off + 1, none⟩ = some (.int .i64 300) := hcell 1 (by simp)
  have k2 : w7.cell? ⟨g, off + 2, none⟩ = some (.int .i64 0) := hcell 2 (by simp)
  clear hcell hi7
  go_wp2_with (go_at_call 11; refine (aw4 _).step ?_)
  go_ret
  exact ⟨rfl, by go_grown⟩
end Go.Proofs.Ytcoodplomnjkcaa
