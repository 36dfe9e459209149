/- The contract of layer 8's Parse. -/
import Derived.Test.YtbegkiffpcedbaaGGapsCalls
import Derived.Test.YtbegkiffpcedbaaGColCalls
import Derived.Test.YtbegkiffpcedbaaGZColRead
namespace Go.Proofs.Ytbegkiffpcedbaa
open Go Go.RowKit

/-- How Parse ends: there are so many cells, or none. -/
def ParseEnd (w : World) (s : ByteArray) (many : Int) (e : Ending) (w' : World) : Prop := Below w.heap.size w w' ∧
  ((∃ v l, e = .returned (.tuple #[v, .bool true]) ∧ StrsIn w' v l ∧ ColAt s many l) ∨ (e = .returned (.tuple #[.slice none 0 0, .bool false]) ∧ ¬ ∃ l, ColAt s many l))

theorem right_size {l : List ByteArray} (h : ∀ c ∈ l, rightB c = true) : ∀ c ∈ l, c.size ≤ 1000000 := fun c hc => by have := rightB_size (h c hc); omega

/-- What the reading of a way and its cells has told. -/
def WayTold (r : List UInt8) (n : Nat) (m : List ByteArray) (s' : ByteArray) (bad' : Bool) : Prop :=
  (bad' = false ∧ WayAt r n m s'.data.toList) ∨ (bad' = true ∧ ¬ ∃ l r2, WayAt r n l r2)
theorem no_col {s s' : ByteArray} {many : Int} {is : List Bool} {r : List UInt8} {m : List ByteArray} {bad' : Bool} (hG : GapsAt s.data.toList many is r) (hend : WayTold r (cnt is) m s' bad')
    (h : joinOk is m = false ∨ bad' = true ∨ s' ≠ ⟨#[]⟩ ∨ colB (joinL is m) ≠ s) : ¬ ∃ l, ColAt s many l := by
  rcases hend with ⟨hb, hW⟩ | ⟨_, hN⟩
  · rintro ⟨l, k⟩
    obtain ⟨h1, h2, h3⟩ := k.reads hG hW
    rcases h with h | h | h | h
    · rw [h1] at h; exact absurd h (by decide)
    · rw [hb] at h; exact absurd h (by decide)
    · exact h (ba_ext h3)
    · rw [h2] at h; exact h k.2.2.2.2.symm
  · exact ColAt.no_way hG hN
theorem joinL_right (is : List Bool) (l : List ByteArray) (h : ∀ c ∈ l, rightB c = true) : ∀ c ∈ joinL is l, rightB c = true := by
  unfold joinL
  split
  · exact joinF_right is l h
  · simp

set_option maxHeartbeats 2000000 in
set_option maxRecDepth 100000 in
theorem parse_calls (w : World) (s : ByteArray) (many : Int) (hs : s.size ≤ 9223372036854775807) : Calls Try.prog 8 #[.string s, .int .i64 many] w (ParseEnd w s many) := by
  obtain ⟨hb, hB⟩ := start w
  have HS0 := Lib.hid hs
  go_enter Try.func8, Try.ntmps8
  go_wp2_with fail
  refine (gaps_read_callsS w.heap.size s false many _ (box_tape w s false _)).mono ?_
  rintro e w1 (⟨vi, is, r, rfl, _, hG, hi, hf, hT, hg⟩ | ⟨rfl, hT, hg, hN⟩)
  · have hq := boxed_below hg
    replace hb := hb.trans (hq.mono hB)
    replace hB := hb.size
    have HG := Lib.hid hG
    have hil : is.length ≤ 4096 := by have := hG.2.1; have := hG.2.2.1; omega
    have HF : Hid (Fresh (w.heap.size + 1) vi) := by show Fresh _ _; have := hf; simpa using this
    have HRS : Hid ((mkB r).size ≤ 9223372036854775807) := by
      show _ ≤ _
      rw [mkB_size]
      have h1 := congrArg List.length hG.2.2.2
      rw [List.length_append, ba_len] at h1
      omega
    clear hq hg hf hG hs
    go_wp2_with fail
    refine (count_calls hi (by omega)).step ?_
    go_wp2_with fail
    refine (col_read_calls w.heap.size (mkB r) false (cnt is) HRS.out w1 hT).mono ?_
    rintro e w2 ⟨vc, m, s', bad', rfl, hm, hT2, hg2, hml, hmr, hend⟩
    have hi2 : BoolsIn w2 vi is := SliceOf.fresh hi HF.out hg2 (by omega)
    replace hb := hb.grown hg2 hB (fun k hk => by cases hk; exact Nat.le_refl _)
    replace hB := hb.size
    have HMR := Lib.hid hmr
    have HEND : Hid (WayTold r (cnt is) m s' bad') := hend.imp (fun ⟨h1, _, h2⟩ => ⟨h1, h2⟩) (fun ⟨h1, h2⟩ => ⟨h1, h2.resolve_left (by decide)⟩)
    clear hi hT hg2 hmr hend HF HRS
    go_wp2_with fail
    refine (join_calls hi2 hm (by omega) (by omega)).mono ?_
    rintro e w3 ⟨v3, rfl, h3, hq⟩
    replace hb := hb.trans (hq.mono hB)
    replace hB := hb.size
    have hT3 := hT2.kept hq
    have hjl := joinL_length is m
    clear hi2 hm hT2 hq
    generalize hjo : joinOk is m = jo at *
    have HJO := Lib.hid hjo
    clear hjo
    cases jo with
    | false =>
      go_wp2
      go_ret2
      exact ⟨hb, .inr ⟨rfl, no_col HG.out HEND.out (.inl HJO.out)⟩⟩
    | true =>
      have HD := Lib.hid (tdone_calls w.heap.size s' bad' w3 hT3)
      have c1 := HMR.out
      cases bad' with
      | true =>
        clear hT3
        go_wp2_with (go_at_call 21; refine HD.out.mono ?_; rintro e w4 ⟨rfl, rfl⟩)
        go_ret2
        exact ⟨hb, .inr ⟨rfl, no_col HG.out HEND.out (.inr (.inl rfl))⟩⟩
      | false =>
        have HT3 := Lib.hid hT3
        clear hT3 c1
        by_cases he : s' = ⟨#[]⟩
        · have HD' : Hid (Calls Try.prog 21 #[.pointer (some ⟨w.heap.size, 0, none⟩)] w3 fun e w' => e = .returned (.bool true) ∧ w3 = w') := by
            show Calls _ _ _ _ _
            have := HD.out
            rw [he, empty_toList] at this
            exact this
          clear HD
          have HLR : Hid (∀ c ∈ joinL is m, rightB c = true) := joinL_right is m HMR.out
          have HP := Lib.hid (col_print_calls h3 (by omega) (right_size HLR.out))
          have H3 := Lib.hid h3
          have hvs := h3
          obtain ⟨A3, p3, rfl, _⟩ := one_at h3
          clear h3 HLR
          generalize hL : joinL is m = L at *
          have HL := Lib.hid hL
          clear hL
          by_cases hp : colB L = s
          · have HC : Hid (ColAt s many L) := by
              show ColAt s many L
              have := col_of_read HG.out HMR.out HJO.out (by rw [HL.out, hp])
              rwa [HL.out] at this
            obtain ⟨_, _, g2⟩ := (str_ne_cases (colB L) s).resolve_right (fun x => x.1 hp)
            clear hp
            go_wp2_with (first | (go_at_call 21; refine HD'.out.mono ?_; rintro e w4 ⟨rfl, rfl⟩) | (go_at_call 9; refine HP.out.stepB (w0 := w) (B := w.heap.size) hb hB ?_; clear hb hB; intro w5 hb hB hq5))
            go_ret2
            exact ⟨hb, .inl ⟨_, L, rfl, StrsIn.kept H3.out hq5, HC.out⟩⟩
          · have HC : Hid (¬ ∃ l, ColAt s many l) := no_col HG.out HEND.out (.inr (.inr (.inr (by rw [HL.out]; exact hp))))
            obtain ⟨_, _, g2⟩ := (str_ne_cases (colB L) s).resolve_left (fun x => hp x.1)
            clear hp
            go_wp2_with (first | (go_at_call 21; refine HD'.out.mono ?_; rintro e w4 ⟨rfl, rfl⟩) | (go_at_call 9; refine HP.out.stepB (w0 := w) (B := w.heap.size) hb hB ?_; clear hb hB; intro w5 hb hB hq5))
            go_ret2
            exact ⟨hb, .inr ⟨rfl, HC.out⟩⟩
        · have HC : Hid (¬ ∃ l, ColAt s many l) := no_col HG.out HEND.out (.inr (.inr (.inl he)))
          have HD' : Hid (Calls Try.prog 21 #[.pointer (some ⟨w.heap.size, 0, none⟩)] w3 fun e w' => e = .returned (.bool false) ∧ w3 = w') := by
            show Calls _ _ _ _ _
            have := HD.out
            have h0 : s'.toList.isEmpty = false := by
              rw [ByteArray.toList_eq]
              cases hd : s'.data.toList with
              | nil => exact absurd (ba_ext hd) he
              | cons x l => rfl
            rw [h0] at this
            exact this
          clear HD he
          go_wp2_with (go_at_call 21; refine HD'.out.mono ?_; rintro e w4 ⟨rfl, rfl⟩)
          go_ret2
          exact ⟨hb, .inr ⟨rfl, HC.out⟩⟩
  · have hq := boxed_below hg
    replace hb := hb.trans (hq.mono hB)
    replace hB := hb.size
    have HC : Hid (¬ ∃ l, ColAt s many l) := ColAt.no_gaps (hN.resolve_left (by decide))
    clear hq hg hN hs
    go_wp2_with fail
    refine (count_calls (is := []) (SliceOf.nil_ w1 1 none 0) (by decide)).step ?_
    go_wp2_with fail
    refine (col_read_calls w.heap.size s true (cnt []) HS0.out w1 hT).mono ?_
    rintro e w2 ⟨vc, m, s', bad', rfl, hm, hT2, hg2, hml, hmr, hend⟩
    obtain rfl : bad' = true := by
      rcases hend with ⟨_, h, _⟩ | ⟨h, _⟩
      · exact absurd h (by decide)
      · exact h
    replace hb := hb.grown hg2 hB (fun k hk => by cases hk; exact Nat.le_refl _)
    replace hB := hb.size
    clear hT hg2 hmr hend
    go_wp2_with fail
    refine (join_calls (is := []) (SliceOf.nil_ w2 1 none 0) hm (by omega) (by decide)).mono ?_
    rintro e w3 ⟨v3, rfl, h3, hq⟩
    replace hb := hb.trans (hq.mono hB)
    replace hB := hb.size
    have HD := Lib.hid (tdone_calls w.heap.size s' true w3 (hT2.kept hq))
    clear hm hT2 hq
    generalize joinOk [] m = jo at *
    cases jo with
    | false =>
      go_wp2
      go_ret2
      exact ⟨hb, .inr ⟨rfl, HC.out⟩⟩
    | true =>
      go_wp2_with (go_at_call 21; refine HD.out.mono ?_; rintro e w4 ⟨rfl, rfl⟩)
      go_ret2
      exact ⟨hb, .inr ⟨rfl, HC.out⟩⟩
end Go.Proofs.Ytbegkiffpcedbaa
