/- The walk of the document's examples of layer 4, and of 'small'. -/
import Derived.Test.YtkmmjdjckedghaaRunsRead
import Derived.Test.YtkmmjdjckedghaaRunsReadRef2
import Derived.Test.YtkmmjdjckedghaaRunsPrintRef
namespace Go.Proofs.Ytkmmjdjckedghaa
open Go Go.RowKit

def cB : ByteArray := ⟨#[98, 1]⟩
def cA : ByteArray := ⟨#[116, 97]⟩
def cZ : ByteArray := ⟨#[122, 122]⟩
theorem cB_eq : boolCell true = cB := rfl
theorem cA_eq : textCell ⟨#[97]⟩ = cA := by unfold textCell; exact bytes_ext (by rw [data_append]; rfl)
theorem aw_bool : Gives Try.prog 21 #[.bool true] (.string cB) := bool_calls true
theorem aw_text : Gives Try.prog 22 #[.string ⟨#[97]⟩] (.string cA) := by
  have h := text_calls ⟨#[97]⟩ (by decide)
  rwa [cA_eq] at h
theorem cBA : cB ≠ cA := by
  intro h
  have := congrArg (fun x => x.data.toList) h
  exact absurd this (by decide)
theorem aw_runs : runsOf [cB, cB, cA] = [(cB, 2), (cA, 1)] :=
  runsOf_spread [(cB, 2), (cA, 1)] ⟨by decide, cBA, (by decide : 1 ≤ 1)⟩
theorem vp_1 : vp 1 = [1] := by rw [vp_small (by decide)]; rfl
theorem vp_2 : vp 2 = [2] := by rw [vp_small (by decide)]; rfl
theorem aw_print : runsP [cB, cB, cA] = [2, 98, 1, 2, 2, 116, 97, 1] := by
  unfold runsP
  rw [aw_runs, runB_cons, runB_cons]
  unfold cellP
  rw [show cB.size = 2 from rfl, show cA.size = 2 from rfl, vp_1, vp_2]
  rfl
theorem right_cB : rightB cB = true := by unfold rightB; rw [ByteArray.toList_eq]; rfl
theorem right_cA : rightB cA = true := by unfold rightB; rw [ByteArray.toList_eq]; rfl
theorem right_cZ : rightB cZ = false := by unfold rightB; rw [ByteArray.toList_eq]; rfl
theorem cell_cA : cellP cA = [2, 116, 97] := by unfold cellP; rw [show cA.size = 2 from rfl, vp_2]; rfl
theorem cell_cZ : cellP cZ = [2, 122, 122] := by unfold cellP; rw [show cZ.size = 2 from rfl, vp_2]; rfl
theorem cell_c0 : cellP ⟨#[]⟩ = [0] := by unfold cellP; rw [show (⟨#[]⟩ : ByteArray).size = 0 from rfl, vp_0]; rfl
theorem aw_none : ¬ ∃ l r, RunsAt [2, 116, 97, 1, 2, 116, 97, 1] 2 l r := by
  have k1 := cellT_at cA (by decide) (mkB [2, 116, 97, 1]) [1] (by rw [cell_cA]; rfl)
  have hok : cellOk (mkB [2, 116, 97, 1]) false = true := by unfold cellOk; rw [k1]; simp [right_cA]
  have hX : (readT (mkB [2, 116, 97, 1]) false).1 = cA := by unfold readT; rw [if_pos hok, k1]
  have hs : Stage (mkB [2, 116, 97, 1, 2, 116, 97, 1]) 2 [(cA, 1)] (mkB [2, 116, 97, 1]) := by
    refine ⟨(by decide : 1 ≤ 1), ?_, by decide, ?_, by decide⟩
    · intro x hx; rw [List.mem_singleton] at hx; rw [hx]; exact right_cA
    · rw [runB_cons, cell_cA, vp_1]; rfl
  exact hs.none (readT_as _) (by decide) (.inr ⟨(cA, 1), rfl, hX.symm⟩)
theorem aw_cell (c : ByteArray) (l : List UInt8) (h : cellP c = l) (hc : c.size ≤ 100) : Gives Try.prog 12 #[.string c] (.string (mkB l)) := by
  subst h
  exact runs_cell_calls c (by omega)
theorem aw_read1 (b : Nat) : TakesStrs Try.prog 33 16 [.int .i64 3] b ⟨#[2, 98, 1, 2, 2, 116, 97, 1, 120]⟩ [cB, cB, cA] ⟨#[120]⟩ :=
  runs_read_some b _ (by decide) (r := [120]) ⟨by decide, by decide, rfl, by
    intro c hc
    simp only [List.mem_cons, List.not_mem_nil, or_false] at hc
    rcases hc with rfl | rfl | rfl
    · exact right_cB
    · exact right_cB
    · exact right_cA, by rw [aw_print]; rfl⟩
theorem aw_read2 (b : Nat) : Takes Try.prog 33 16 [.int .i64 2] b ⟨#[2, 116, 97, 1, 2, 116, 97, 1]⟩ false (.slice none 0 0) ⟨#[2, 116, 97, 1, 2, 116, 97, 1]⟩ true :=
  runs_read_none b _ (by decide) 2 aw_none
theorem aw_read3 (b : Nat) : Takes Try.prog 33 18 [] b ⟨#[2, 122, 122]⟩ false (.string ⟨#[]⟩) ⟨#[2, 122, 122]⟩ true := by
  have h := readCell_calls b ⟨#[2, 122, 122]⟩ false (by decide)
  have k1 := cellT_at cZ (by decide) ⟨#[2, 122, 122]⟩ [] (by rw [cell_cZ]; rfl)
  have hok : cellOk ⟨#[2, 122, 122]⟩ false = false := by unfold cellOk; rw [k1]; simp [right_cZ]
  unfold readT at h
  rw [hok] at h
  exact h
theorem lit_strs (w : World) (T : TypeId) (l : List ByteArray) (h : l.length ≤ 1000) : StrsIn (w.alloc (.cells (l.map Value.string).toArray T)) (.slice (some ⟨w.heap.size, 0, none⟩) l.length l.length) l := lit_ones Value.string w T l h
theorem aw_size (c : ByteArray) (h : c ∈ [cB, cB, cA]) : c.size ≤ 1000000 := by
  simp only [List.mem_cons, List.not_mem_nil, or_false] at h
  rcases h with rfl | rfl | rfl <;> decide

/-- Are cells few, and short? -/
def smallL (l : List ByteArray) : Bool := l.all (fun c => decide (c.size ≤ 200)) && decide (l.length ≤ 300)
theorem smallL_of {l : List ByteArray} (h : smallL l = true) : l.length ≤ 300 ∧ ∀ c ∈ l, c.size ≤ 200 := by
  unfold smallL at h
  rw [Bool.and_eq_true, List.all_eq_true, decide_eq_true_eq] at h
  exact ⟨h.2, fun c hc => by have := h.1 c hc; rwa [decide_eq_true_eq] at this⟩

set_option maxHeartbeats 400000 in
theorem small_calls {w : World} {v : Value} {l : List ByteArray} (h : StrsIn w v l) : Reads Try.prog 7 #[v] w (.bool (smallL l)) := by
  have hm := h.len
  unfold maxLen at hm
  obtain ⟨A, cap, rfl, hat⟩ := one_at h
  have HAT := Lib.hid hat
  clear h hat
  unfold Reads
  go_enter Try.func7, Try.ntmps7
  go_wp2
  go_loop [3] (fun i => ∃ k : Nat, k ≤ l.length ∧ i = .int .i64 k ∧ Hid (∀ c ∈ l.take k, c.size ≤ 200)) (fun i => l.length - (intOf i).toNat)
  case atStart => exact ⟨0, Nat.zero_le _, rfl, fun c hc => absurd hc (by simp)⟩
  case round =>
    obtain ⟨k, hk, rfl, HS⟩ := hrel
    by_cases hlt : k < l.length
    · obtain ⟨b, off, rfl, hbl, hc⟩ := HAT.out k hlt
      have hx := hc k hlt
      have HT := Lib.hid (take_add l k hlt)
      have HM := Lib.hid (List.getElem_mem hlt)
      clear hc
      by_cases hz : l[k].size ≤ 200
      · have d1 : decide (200 < (l[k].size : Int)) = false := by rw [decide_eq_false_iff_not]; omega
        go_wp2
        go_round
        case rel => exact ⟨k + 1, by omega, by go_num, fun c hc => by
          rw [HT.out] at hc
          rcases List.mem_append.1 hc with hc | hc
          · exact HS.out c hc
          · rw [List.mem_singleton] at hc; rw [hc]; exact hz⟩
        case measure => simp [intOf]; omega
      · have d1 : decide (200 < (l[k].size : Int)) = true := by rw [decide_eq_true_eq]; omega
        have HD : Hid (smallL l = false) := by
          show _ = _
          cases hs : smallL l with
          | false => rfl
          | true => exact absurd ((smallL_of hs).2 _ HM.out) hz
        go_wp2
        go_ret
        exact ⟨ret_bool HD.out.symm, rfl⟩
    · obtain rfl : k = l.length := by omega
      have HD : Hid (decide ((l.length : Int) ≤ 300) = smallL l) := by
        show _ = _
        have h1 : l.all (fun c => decide (c.size ≤ 200)) = true := by
          rw [List.all_eq_true]
          intro c hc
          rw [decide_eq_true_eq]
          exact HS.out c (by rw [List.take_length]; exact hc)
        unfold smallL
        rw [h1, Bool.true_and]
        congr 1
        rw [eq_iff_iff]
        omega
      go_wp2
      go_ret
      exact ⟨ret_bool HD.out, rfl⟩

theorem ab_1 : (⟨#[2, 98, 1, 2, 2, 116, 97, 1]⟩ : ByteArray).toList = [2, 98, 1, 2, 2, 116, 97, 1] := by rw [ByteArray.toList_eq]
theorem ab_2 : (⟨#[116, 97]⟩ : ByteArray).toList = [116, 97] := by rw [ByteArray.toList_eq]
theorem ab_3 : (⟨#[120]⟩ : ByteArray).toList = [120] := by rw [ByteArray.toList_eq]
theorem ab_4 : (⟨#[0]⟩ : ByteArray).toList = [0] := by rw [ByteArray.toList_eq]
theorem ab_5 : (⟨#[]⟩ : ByteArray).toList = [] := by rw [ByteArray.toList_eq]
theorem aw_print1 {w : World} {v : Value} (h : StrsIn w v [cB, cB, cA]) : GivesAt Try.prog 14 #[v] w (.string ⟨#[2, 98, 1, 2, 2, 116, 97, 1]⟩) := by
  have k := runs_print_calls h (by decide) aw_size
  rw [aw_print] at k
  exact k
theorem cell_kept {w w' : World} {a : Addr} {v : Value} (h : w.cell? a = some v) (hb : Below w.heap.size w w') : w'.cell? a = some v := (hb.cell (block_lt_of_cell h)).trans h
theorem aw_runs1 {w : World} {v : Value} (h : StrsIn w v [cB, cB, cA]) : Calls Try.prog 9 #[v] w fun e w' => ∃ g1 o1 c1 g2 o2 c2, e = .returned (.tuple #[.slice (some ⟨g1, o1, none⟩) 2 c1, .slice (some ⟨g2, o2, none⟩) 2 c2]) ∧
    w'.cell? ⟨g1, o1 + 1, none⟩ = some (.string cA) ∧ w'.cell? ⟨g2, o2, none⟩ = some (.int .i64 2) ∧ Below w.heap.size w w' := by
  refine (runs_calls h (by decide)).mono ?_
  rintro e w' ⟨c, n, rfl, ⟨h1, h2, _⟩, hb⟩
  rw [aw_runs] at h1 h2
  obtain ⟨g1, o1, c1, rfl⟩ := h1.some_ (by decide)
  obtain ⟨g2, o2, c2, rfl⟩ := h2.some_ (by decide)
  exact ⟨g1, o1, c1, g2, o2, c2, rfl, h1.parts.2.2.2.1 1 _ rfl, h2.parts.2.2.2.1 0 _ rfl, hb⟩
theorem box_lit {w wb w' : World} {o : Obj} {B : Nat} (h : Below B wb w) (hB : B ≤ w.heap.size) (hk : Below (w.alloc o).heap.size (w.alloc o) w') : Below B wb w' := h.trans ((lit_below hk).mono hB)

set_option maxHeartbeats 4000000 in
set_option maxRecDepth 100000 in
theorem awake_calls : Gives Try.prog 8 #[] (.bool true) := by
  intro w
  obtain ⟨hb, hB⟩ := start w
  have e0 : (⟨#[2, 98, 1, 2, 2, 116, 97, 1]⟩ : ByteArray) ++ ⟨#[120]⟩ = ⟨#[2, 98, 1, 2, 2, 116, 97, 1, 120]⟩ := bytes_ext (by rw [data_append]; rfl)
  have e1 := ab_1
  have e2 := ab_2
  have e3 := ab_3
  have e4 := ab_4
  have e5 := ab_5
  have p1 : Hid (Gives Try.prog 12 #[.string ⟨#[116, 97]⟩] (.string ⟨#[2, 116, 97]⟩)) := aw_cell cA _ cell_cA (by decide)
  have p2 : Hid (Gives Try.prog 12 #[.string ⟨#[122, 122]⟩] (.string ⟨#[2, 122, 122]⟩)) := aw_cell cZ _ cell_cZ (by decide)
  have p3 : Hid (Gives Try.prog 12 #[.string ⟨#[]⟩] (.string ⟨#[0]⟩)) := aw_cell ⟨#[]⟩ _ cell_c0 (by decide)
  have e6 : (⟨#[2, 116, 97]⟩ : ByteArray) ++ ⟨#[1]⟩ = ⟨#[2, 116, 97, 1]⟩ := bytes_ext (by rw [data_append]; rfl)
  have e7 : (⟨#[2, 116, 97, 1]⟩ : ByteArray) ++ ⟨#[2, 116, 97]⟩ = ⟨#[2, 116, 97, 1, 2, 116, 97]⟩ := bytes_ext (by rw [data_append]; rfl)
  have e8 : (⟨#[2, 116, 97, 1, 2, 116, 97]⟩ : ByteArray) ++ ⟨#[1]⟩ = ⟨#[2, 116, 97, 1, 2, 116, 97, 1]⟩ := bytes_ext (by rw [data_append]; rfl)
  go_enter Try.func8, Try.ntmps8
  go_wp2_with (first | (go_at_call 21; refine aw_bool.step (w0 := w) (B := w.heap.size) hb hB ?_; clear hb hB; intro w1 hb hB) | (go_at_call 22; refine aw_text.step (w0 := w) (B := w.heap.size) hb hB ?_; clear hb hB; intro w1 hb hB))
  have hm : StrsIn (w1.alloc (.cells #[.string cB, .string cB, .string cA] 9)) (.slice (some ⟨w1.heap.size, 0, none⟩) 3 3) [cB, cB, cA] := lit_strs w1 9 [cB, cB, cA] (by decide)
  refine (aw_runs1 hm).mono ?_
  rintro e w2 ⟨g1, o1, c1, g2, o2, c2, rfl, k1, k2, hk⟩
  replace hm := StrsIn.kept hm hk
  replace hb := box_lit hb hB hk
  replace hB := hb.size
  clear hk
  generalize Value.slice (some ⟨w1.heap.size, 0, none⟩) 3 3 = vm at *
  go_wp2_with (go_at_call 14; refine (aw_print1 hm).stepB (w0 := w) (B := w.heap.size) hb hB ?_)
  clear hb hB
  intro w3 hb hB hk
  replace hm := StrsIn.kept hm hk
  replace k1 := cell_kept k1 hk
  replace k2 := cell_kept k2 hk
  clear hk
  go_wp2_with (go_at_call 16; refine (aw_read1 _).stepB (w0 := w) (B := w.heap.size) (box_tape w3 _ _ _) (below_alloc hb hB _).1 (below_alloc hb hB _).2 (by go_size) ?_)
  clear hb hB
  intro v1 w4 hi1 _ hT1 hb hB hg
  have hk := boxed_below hg
  replace hm := StrsIn.kept hm hk
  replace k1 := cell_kept k1 hk
  replace k2 := cell_kept k2 hk
  clear hk hg
  obtain ⟨A1, d1, rfl, _⟩ := one_at hi1
  go_wp2_with (go_at_call_of 12 (Value.string ⟨#[116, 97]⟩); refine p1.out.stepB (w0 := w) (B := w.heap.size) hb hB ?_; clear hb hB; intro w5 hb hB hk; replace hm := StrsIn.kept hm hk; replace k1 := cell_kept k1 hk; replace k2 := cell_kept k2 hk; replace hi1 := StrsIn.kept hi1 hk; replace hT1 := hT1.kept hk; clear hk)
  refine (aw_read2 _).stepB (w0 := w) (B := w.heap.size) (box_tape w5 _ _ _) (below_alloc hb hB _).1 (below_alloc hb hB _).2 (by go_size) ?_
  clear hb hB
  intro w6 hT2 hb hB hg
  have hk := boxed_below hg
  replace hm := StrsIn.kept hm hk
  replace k1 := cell_kept k1 hk
  replace k2 := cell_kept k2 hk
  replace hi1 := StrsIn.kept hi1 hk
  replace hT1 := hT1.kept hk
  clear hk hg
  go_wp2_with (go_at_call_of 12 (Value.string ⟨#[122, 122]⟩); refine p2.out.stepB (w0 := w) (B := w.heap.size) hb hB ?_; clear hb hB; intro w7 hb hB hk; replace hm := StrsIn.kept hm hk; replace k1 := cell_kept k1 hk; replace k2 := cell_kept k2 hk; replace hi1 := StrsIn.kept hi1 hk; replace hT1 := hT1.kept hk; replace hT2 := hT2.kept hk; clear hk)
  refine (aw_read3 _).stepB (w0 := w) (B := w.heap.size) (box_tape w7 _ _ _) (below_alloc hb hB _).1 (below_alloc hb hB _).2 (by go_size) ?_
  clear hb hB
  intro w8 hT3 hb hB hg
  have hk := boxed_below hg
  replace hm := StrsIn.kept hm hk
  replace k1 := cell_kept k1 hk
  replace k2 := cell_kept k2 hk
  replace hi1 := StrsIn.kept hi1 hk
  replace hT1 := hT1.kept hk
  replace hT2 := hT2.kept hk
  clear hk hg
  go_wp2_with (go_at_call 14; refine (aw_print1 hm).stepB (w0 := w) (B := w.heap.size) hb hB ?_)
  clear hb hB
  intro w9 hb hB hk
  replace hm := StrsIn.kept hm hk
  replace hi1 := StrsIn.kept hi1 hk
  replace hT1 := hT1.kept hk
  replace hT2 := hT2.kept hk
  replace hT3 := hT3.kept hk
  clear hk k1 k2
  have hs := same_strs hi1 hm (by decide) (by decide)
  rw [show decide ([cB, cB, cA] = [cB, cB, cA]) = true from decide_eq_true rfl] at hs
  go_wp2_with (go_at_call 11; refine hs.stepB (w0 := w) (B := w.heap.size) hb hB ?_)
  clear hb hB
  intro w10 hb hB hk
  have t1 := (hT1.kept hk).c0
  have t2 := (hT2.kept hk).c1
  have t3 := (hT3.kept hk).c1
  clear hm hi1 hT1 hT2 hT3 hk hs
  go_wp2_with (go_at_call_of 12 (Value.string ⟨#[]⟩); refine p3.out.step (w0 := w) (B := w.heap.size) hb hB ?_; clear hb hB; intro w11 hb hB)
  go_ret
  exact ⟨rfl, hb⟩
end Go.Proofs.Ytkmmjdjckedghaa
