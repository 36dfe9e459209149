/- The walk of the document's examples of layer 5, and of 'small'. -/
import Derived.Test.YtlcpkhgilihjlaaGStrs
import Derived.Test.YtlcpkhgilihjlaaGDictReadRef
namespace Go.Proofs.Ytlcpkhgilihjlaa
open Go Go.RowKit

theorem dict_read_some (b : Nat) (s : ByteArray) (hs : s.size ≤ 9223372036854775807) {many : Int} {l : List ByteArray} {r : List UInt8} (h : DictAt s.data.toList many l r) :
    TakesStrs Try.prog 32 16 [.int .i64 many] b s l (mkB r) := by
  intro w hT
  refine Calls.mono (dict_read_calls b s many hs w hT) ?_
  rintro e w' (⟨v, l', r', he, hd, hi, hf, hT', hg⟩ | ⟨_, _, _, hn⟩)
  · obtain ⟨rfl, rfl⟩ := h.same hd
    exact ⟨v, he, hi, hf, hT', hg⟩
  · exact absurd ⟨_, _, h⟩ hn
theorem dict_read_none (b : Nat) (s : ByteArray) (hs : s.size ≤ 9223372036854775807) (many : Int) (h : ¬ ∃ l r, DictAt s.data.toList many l r) :
    Takes Try.prog 32 16 [.int .i64 many] b s false (.slice none 0 0) s true := by
  intro w hT
  refine Calls.mono (dict_read_calls b s many hs w hT) ?_
  rintro e w' (⟨v, l', r', he, hd, hi, hf, hT', hg⟩ | ⟨he, hT', hg, _⟩)
  · exact absurd ⟨_, _, hd⟩ h
  · exact ⟨he, hT', hg⟩
theorem dict_at (l : List ByteArray) (hl : l.length ≤ 4096) (hr : ∀ c ∈ l, rightB c = true) (more : ByteArray) : DictAt (dictB l ++ more).data.toList l.length l more.data.toList :=
  ⟨by omega, by omega, rfl, hr, by rw [data_append]; rfl⟩

/-- Are cells few, and short? -/
def smallL (l : List ByteArray) : Bool := l.all (fun c => decide (c.size ≤ 200)) && decide (l.length ≤ 300)
theorem smallL_of {l : List ByteArray} (h : smallL l = true) : l.length ≤ 300 ∧ ∀ c ∈ l, c.size ≤ 200 := by
  unfold smallL at h
  rw [Bool.and_eq_true, List.all_eq_true, decide_eq_true_eq] at h
  exact ⟨h.2, fun c hc => by have := h.1 c hc; rwa [decide_eq_true_eq] at this⟩

set_option maxHeartbeats 400000 in
theorem small_calls {w : World} {v : Value} {l : List ByteArray} (h : StrsIn w v l) : Reads Try.prog 7 #[v] w (.bool (smallL l)) := by
  have hm := h.len
  unfold maxLen at hm
  obtain ⟨A, cap, rfl, hat⟩ := one_at h
  have HAT := Lib.hid hat
  clear h hat
  unfold Reads
  go_enter Try.func7, Try.ntmps7
  go_wp2
  go_loop [3] (fun i => ∃ k : Nat, k ≤ l.length ∧ i = .int .i64 k ∧ Hid (∀ c ∈ l.take k, c.size ≤ 200)) (fun i => l.length - (intOf i).toNat)
  case atStart => exact ⟨0, Nat.zero_le _, rfl, fun c hc => absurd hc (by simp)⟩
  case round =>
    obtain ⟨k, hk, rfl, HS⟩ := hrel
    by_cases hlt : k < l.length
    · obtain ⟨b, off, rfl, hbl, hc⟩ := HAT.out k hlt
      have hx := hc k hlt
      have HT := Lib.hid (take_add l k hlt)
      have HM := Lib.hid (List.getElem_mem hlt)
      clear hc
      by_cases hz : l[k].size ≤ 200
      · have d1 : decide (200 < (l[k].size : Int)) = false := by rw [decide_eq_false_iff_not]; omega
        go_wp2
        go_round
        case rel => exact ⟨k + 1, by omega, by go_num, fun c hc => by
          rw [HT.out] at hc
          rcases List.mem_append.1 hc with hc | hc
          · exact HS.out c hc
          · rw [List.mem_singleton] at hc; rw [hc]; exact hz⟩
        case measure => simp [intOf]; omega
      · have d1 : decide (200 < (l[k].size : Int)) = true := by rw [decide_eq_true_eq]; omega
        have HD : Hid (smallL l = false) := by
          show _ = _
          cases hs : smallL l with
          | false => rfl
          | true => exact absurd ((smallL_of hs).2 _ HM.out) hz
        go_wp2
        go_ret
        exact ⟨ret_bool HD.out.symm, rfl⟩
    · obtain rfl : k = l.length := by omega
      have HD : Hid (decide ((l.length : Int) ≤ 300) = smallL l) := by
        show _ = _
        have h1 : l.all (fun c => decide (c.size ≤ 200)) = true := by
          rw [List.all_eq_true]
          intro c hc
          rw [decide_eq_true_eq]
          exact HS.out c (by rw [List.take_length]; exact hc)
        unfold smallL
        rw [h1, Bool.true_and]
        congr 1
        rw [eq_iff_iff]
        omega
      go_wp2
      go_ret
      exact ⟨ret_bool HD.out, rfl⟩


theorem cell_kept {w w' : World} {a : Addr} {v : Value} (h : w.cell? a = some v) (hb : Below w.heap.size w w') : w'.cell? a = some v := (hb.cell (block_lt_of_cell h)).trans h
theorem box_lit {w wb w' : World} {o : Obj} {B : Nat} (h : Below B wb w) (hB : B ≤ w.heap.size) (hk : Below (w.alloc o).heap.size (w.alloc o) w') : Below B wb w' := h.trans ((lit_below hk).mono hB)

def tA : ByteArray := ⟨#[116, 97]⟩
def tB : ByteArray := ⟨#[116, 98]⟩
def tC : ByteArray := ⟨#[116, 99]⟩
theorem ltB_mk (a b : List UInt8) : ltB ⟨a.toArray⟩ ⟨b.toArray⟩ = Op.bytesLess a b := by unfold ltB; rw [ByteArray.toList_eq, ByteArray.toList_eq]
theorem lt_ab : ltB tA tB = true := ltB_mk [116, 97] [116, 98]
theorem lt_ba : ltB tB tA = false := ltB_mk [116, 98] [116, 97]
theorem ne_ba : ¬ tB = tA := fun h => absurd (congrArg (fun x => x.data.toList) h) (by decide)
theorem ne_ab : ¬ tA = tB := fun h => ne_ba h.symm
theorem ne_ca : ¬ tA = tC := fun h => absurd (congrArg (fun x => x.data.toList) h) (by decide)
theorem ne_cb : ¬ tB = tC := fun h => absurd (congrArg (fun x => x.data.toList) h) (by decide)
theorem aw_words : wordsOf [tB, tA, tB] = [tA, tB] := by
  unfold wordsOf
  simp only [List.foldl_cons, List.foldl_nil]
  simp [insW, lt_ab, lt_ba, ne_ba, ltB_irrefl]
theorem aw_words2 : wordsOf [tA, tB] = [tA, tB] := by
  unfold wordsOf
  simp only [List.foldl_cons, List.foldl_nil]
  simp [insW, lt_ab]
theorem pl_a : placeI [tA, tB] tA = 0 := by simp [placeI, placeN]
theorem pl_b : placeI [tA, tB] tB = 1 := by simp [placeI, placeN, ne_ab]
theorem pl_c : placeI [tA, tB] tC = -1 := by simp [placeI, placeN, ne_ca, ne_cb]
theorem vp_1 : vp 1 = [1] := by rw [vp_small (by decide)]; rfl
theorem vp_2 : vp 2 = [2] := by rw [vp_small (by decide)]; rfl
theorem nb_1 : nb 1 = 1 := by rw [nb_pos (by decide), show 1 / 256 = 0 from rfl, nb_zero]
theorem sh_101 : shelfP [1, 0, 1] = [0, 1, 1, 0, 1] := by
  have e1 : leastI [1, 0, 1] = 0 := rfl
  have d1 : dist 1 0 = 1 := rfl
  have d0 : dist 0 0 = 0 := rfl
  have e2 : bytesL [1, 0, 1] = 1 := by
    unfold bytesL bytesFrom
    rw [e1]
    simp only [List.foldl_cons, List.foldl_nil, d0, d1, nb_zero, nb_1]
    rfl
  have e3 : (foldI 0).toNat = 0 := rfl
  unfold shelfP
  rw [e1, e2, e3, vp_0, vp_1]
  unfold rowsP
  simp only [List.flatMap_cons, List.flatMap_nil, d0, d1]
  rfl
theorem sh_01 : shelfP [0, 1] = [0, 1, 0, 1] := by
  have e1 : leastI [0, 1] = 0 := rfl
  have d1 : dist 1 0 = 1 := rfl
  have d0 : dist 0 0 = 0 := rfl
  have e2 : bytesL [0, 1] = 1 := by
    unfold bytesL bytesFrom
    rw [e1]
    simp only [List.foldl_cons, List.foldl_nil, d0, d1, nb_zero, nb_1]
    rfl
  have e3 : (foldI 0).toNat = 0 := rfl
  unfold shelfP
  rw [e1, e2, e3, vp_0, vp_1]
  unfold rowsP
  simp only [List.flatMap_cons, List.flatMap_nil, d0, d1]
  rfl
theorem aw_print : dictP [tB, tA, tB] = [2, 2, 116, 97, 2, 116, 98, 0, 1, 1, 0, 1] := by
  unfold dictP placesOf
  rw [aw_words]
  simp only [List.map_cons, List.map_nil, pl_a, pl_b, sh_101, List.flatMap_cons, List.flatMap_nil]
  unfold cellP
  rw [show tA.size = 2 from rfl, show tB.size = 2 from rfl, show [tA, tB].length = 2 from rfl, vp_2]
  rfl
theorem aw_print2 : dictP [tA, tB] = [2, 2, 116, 97, 2, 116, 98, 0, 1, 0, 1] := by
  unfold dictP placesOf
  rw [aw_words2]
  simp only [List.map_cons, List.map_nil, pl_a, pl_b, sh_01, List.flatMap_cons, List.flatMap_nil]
  unfold cellP
  rw [show tA.size = 2 from rfl, show tB.size = 2 from rfl, show [tA, tB].length = 2 from rfl, vp_2]
  rfl
theorem right_tA : rightB tA = true := by unfold rightB; rw [ByteArray.toList_eq]; rfl
theorem right_tB : rightB tB = true := by unfold rightB; rw [ByteArray.toList_eq]; rfl
theorem aw_size (c : ByteArray) (h : c ∈ [tB, tA, tB]) : c.size ≤ 1000000 := by
  simp only [List.mem_cons, List.not_mem_nil, or_false] at h
  rcases h with rfl | rfl | rfl <;> decide
theorem aw_size2 (c : ByteArray) (h : c ∈ [tA, tB]) : c.size ≤ 1000000 := by
  simp only [List.mem_cons, List.not_mem_nil, or_false] at h
  rcases h with rfl | rfl <;> decide
theorem aw_print1 {w : World} {v : Value} (h : StrsIn w v [tB, tA, tB]) : GivesAt Try.prog 14 #[v] w (.string ⟨#[2, 2, 116, 97, 2, 116, 98, 0, 1, 1, 0, 1]⟩) := by
  have k := dict_print_calls h (by decide) aw_size
  unfold dictB at k
  rw [aw_print] at k
  exact k
theorem aw_print3 {w : World} {v : Value} (h : StrsIn w v [tA, tB]) : GivesAt Try.prog 14 #[v] w (.string ⟨#[2, 2, 116, 97, 2, 116, 98, 0, 1, 0, 1]⟩) := by
  have k := dict_print_calls h (by decide) aw_size2
  unfold dictB at k
  rw [aw_print2] at k
  exact k
theorem aw_read1 (b : Nat) : TakesStrs Try.prog 32 16 [.int .i64 3] b ⟨#[2, 2, 116, 97, 2, 116, 98, 0, 1, 1, 0, 1, 120]⟩ [tB, tA, tB] ⟨#[120]⟩ :=
  dict_read_some b _ (by decide) (r := [120]) ⟨by decide, by decide, rfl, by
    intro c hc
    simp only [List.mem_cons, List.not_mem_nil, or_false] at hc
    rcases hc with rfl | rfl | rfl
    · exact right_tB
    · exact right_tA
    · exact right_tB, by rw [aw_print]; rfl⟩
theorem aw_none : ¬ ∃ l r, DictAt [2, 2, 116, 97, 2, 116, 98, 0, 1, 0, 1] 1 l r := by
  rintro ⟨l, r, _, _, hl, _, hs⟩
  have hw := wordsOf_length l
  have e : [2, 2, 116, 97, 2, 116, 98, 0, 1, 0, 1] = vp 2 ++ [2, 116, 97, 2, 116, 98, 0, 1, 0, 1] := by rw [vp_2]; rfl
  rw [e] at hs
  unfold dictP at hs
  rw [List.append_assoc] at hs
  have := (vp_front (by decide) (by omega) hs).1
  omega
theorem aw_read2 (b : Nat) : Takes Try.prog 32 16 [.int .i64 1] b ⟨#[2, 2, 116, 97, 2, 116, 98, 0, 1, 0, 1]⟩ false (.slice none 0 0) ⟨#[2, 2, 116, 97, 2, 116, 98, 0, 1, 0, 1]⟩ true :=
  dict_read_none b _ (by decide) 1 aw_none
theorem lit_strs (w : World) (T : TypeId) (l : List ByteArray) (h : l.length ≤ 1000) : StrsIn (w.alloc (.cells (l.map Value.string).toArray T)) (.slice (some ⟨w.heap.size, 0, none⟩) l.length l.length) l := lit_ones Value.string w T l h
theorem aw_words1 {w : World} {v : Value} (h : StrsIn w v [tB, tA, tB]) : Calls Try.prog 11 #[v] w fun e w' => ∃ g o c, e = .returned (.slice (some ⟨g, o, none⟩) 2 c) ∧
    w'.cell? ⟨g, o, none⟩ = some (.string tA) ∧ StrsIn w' (.slice (some ⟨g, o, none⟩) 2 c) [tA, tB] ∧ Below w.heap.size w w' := by
  refine Calls.mono (dict_words_calls h (by decide)) ?_
  rintro e w' ⟨v', rfl, hO, hb⟩
  rw [aw_words] at hO
  obtain ⟨g, o, c, rfl⟩ := hO.some_ (by decide)
  exact ⟨g, o, c, rfl, hO.parts.2.2.2.1 0 _ rfl, hO.slice, hb⟩

theorem aw_place {w : World} {v : Value} (h : StrsIn w v [tA, tB]) : Reads Try.prog 12 #[v, .string ⟨#[116, 98]⟩] w (.int .i64 1) := by
  have k := dict_place_calls h tB
  rw [pl_b] at k
  exact k
theorem aw_place2 {w : World} {v : Value} (h : StrsIn w v [tA, tB]) : Reads Try.prog 12 #[v, .string ⟨#[116, 99]⟩] w (.int .i64 (-1)) := by
  have k := dict_place_calls h tC
  rw [pl_c] at k
  exact k
theorem ab_1 : (⟨#[2, 2, 116, 97, 2, 116, 98, 0, 1, 1, 0, 1]⟩ : ByteArray).toList = [2, 2, 116, 97, 2, 116, 98, 0, 1, 1, 0, 1] := by rw [ByteArray.toList_eq]
theorem ab_2 : (⟨#[116, 97]⟩ : ByteArray).toList = [116, 97] := by rw [ByteArray.toList_eq]
theorem ab_3 : (⟨#[120]⟩ : ByteArray).toList = [120] := by rw [ByteArray.toList_eq]

set_option maxHeartbeats 4000000 in
set_option maxRecDepth 100000 in
theorem awake_calls : Gives Try.prog 8 #[] (.bool true) := by
  intro w
  obtain ⟨hb, hB⟩ := start w
  have e0 : (⟨#[2, 2, 116, 97, 2, 116, 98, 0, 1, 1, 0, 1]⟩ : ByteArray) ++ ⟨#[120]⟩ = ⟨#[2, 2, 116, 97, 2, 116, 98, 0, 1, 1, 0, 1, 120]⟩ := bytes_ext (by rw [data_append]; rfl)
  have e1 := ab_1
  have e2 := ab_2
  have e3 := ab_3
  have e4 : tA.toList = [116, 97] := ab_2
  have hm : StrsIn (w.alloc (.cells #[.string tB, .string tA, .string tB] 9)) (.slice (some ⟨w.heap.size, 0, none⟩) 3 3) [tB, tA, tB] := lit_strs w 9 [tB, tA, tB] (by decide)
  go_enter Try.func8, Try.ntmps8
  go_wp2_with fail
  refine (aw_words1 hm).mono ?_
  rintro e w2 ⟨g, o, c, rfl, k1, hws, hk⟩
  replace hm := StrsIn.kept hm hk
  replace hb := box_lit hb hB hk
  replace hB := hb.size
  clear hk
  generalize Value.slice (some ⟨w.heap.size, 0, none⟩) 3 3 = vm at *
  go_wp2_with (go_at_call 14; refine (aw_print1 hm).stepB (w0 := w) (B := w.heap.size) hb hB ?_)
  clear hb hB
  intro w3 hb hB hk
  replace hm := StrsIn.kept hm hk
  replace hws := StrsIn.kept hws hk
  replace k1 := cell_kept k1 hk
  clear hk
  go_wp2_with (go_at_call 16; refine (aw_read1 _).stepB (w0 := w) (B := w.heap.size) (box_tape w3 _ _ _) (below_alloc hb hB _).1 (below_alloc hb hB _).2 (by go_size) ?_)
  clear hb hB
  intro v1 w4 hi1 _ hT1 hb hB hg
  have hk := boxed_below hg
  replace hm := StrsIn.kept hm hk
  replace hws := StrsIn.kept hws hk
  replace k1 := cell_kept k1 hk
  clear hk hg
  obtain ⟨A1, d1, rfl, _⟩ := one_at hi1
  have hm2 : StrsIn (w4.alloc (.cells #[.string tA, .string tB] 9)) (.slice (some ⟨w4.heap.size, 0, none⟩) 2 2) [tA, tB] := lit_strs w4 9 [tA, tB] (by decide)
  go_wp2_with fail
  refine (aw_print3 hm2).stepB (w0 := w) (B := w.heap.size) (below_alloc hb hB _).1 (below_alloc hb hB _).2 ?_
  clear hb hB
  intro w5 hb hB hk
  replace hk := lit_below hk
  replace hm := StrsIn.kept hm hk
  replace hws := StrsIn.kept hws hk
  replace hi1 := StrsIn.kept hi1 hk
  replace hT1 := hT1.kept hk
  replace k1 := cell_kept k1 hk
  clear hk hm2
  go_wp2_with fail
  refine (aw_read2 _).stepB (w0 := w) (B := w.heap.size) (box_tape w5 _ _ _) (below_alloc hb hB _).1 (below_alloc hb hB _).2 (by go_size) ?_
  clear hb hB
  intro w6 hT2 hb hB hg
  have hk := boxed_below hg
  replace hm := StrsIn.kept hm hk
  replace hws := StrsIn.kept hws hk
  replace hi1 := StrsIn.kept hi1 hk
  replace hT1 := hT1.kept hk
  replace k1 := cell_kept k1 hk
  clear hk hg
  have q1 := Lib.hid (aw_place hws)
  have q2 := Lib.hid (aw_place2 hws)
  go_wp2_with (first | (go_at_call_of 12 (Value.string ⟨#[116, 98]⟩); refine q1.out.step ?_) | (go_at_call_of 12 (Value.string ⟨#[116, 99]⟩); refine q2.out.step ?_) | (go_at_call 14; refine (aw_print1 hm).stepB (w0 := w) (B := w.heap.size) hb hB ?_; clear hb hB q1 q2; intro w7 hb hB hk; replace hm := StrsIn.kept hm hk; replace hi1 := StrsIn.kept hi1 hk; replace hT1 := hT1.kept hk; replace hT2 := hT2.kept hk; clear hk k1 hws; have hs := same_strs hi1 hm (by decide) (by decide); rw [show decide ([tB, tA, tB] = [tB, tA, tB]) = true from decide_eq_true rfl] at hs) | (go_at_call 10; refine hs.stepB (w0 := w) (B := w.heap.size) hb hB ?_; clear hb hB; intro w10 hb hB hk; have t1 := (hT1.kept hk).c0; have t2 := (hT2.kept hk).c1; clear hm hi1 hT1 hT2 hk hs))
  go_ret
  exact ⟨rfl, hb⟩
end Go.Proofs.Ytlcpkhgilihjlaa
