/- The contract of the answer's Read of layer 5. -/
import Derived.Test.YtkgjbldlegcajaaGreatGDictRead
import Derived.Test.YtkgjbldlegcajaaGreatGDictRef
import Derived.Test.YtkgjbldlegcajaaGreatGShelfReadRef
namespace Go.Proofs.YtkgjbldlegcajaaGreat
open Go Go.RowKit
def ShelfSays (s : ByteArray) (bad : Bool) (many : Int) (a : List Int) (s' : ByteArray) (bad' : Bool) : Prop :=
 (bad' = false ∧ bad = false ∧ ShelfAt s.data.toList many a s'.data.toList) ∨ (bad' = true ∧ a = [] ∧ (bad = true ∨ ¬ ∃ a r, ShelfAt s.data.toList many a r))
def ShelfEndR (T : TypeId) (w : World) (b : Nat) (s : ByteArray) (bad : Bool) (many : Int) (e : Ending) (w' : World) : Prop :=
 ∃ v a s' bad', e = .returned v ∧ IntsIn w' v a ∧ Fresh w.heap.size v ∧ TapeIn T w' b s' bad' ∧ w.grownBy w' (some b) ∧ a.length ≤ 4096 ∧ ShelfSays s bad many a s' bad'
theorem ref_shelf_end (b : Nat) (s : ByteArray) (bad : Bool) (hs : s.size ≤ 1000000000000) (many : Int) (w : World) (hT : TapeIn 95 w b s bad) :
  Calls Tryz.prog 64 #[.pointer (some ⟨b, 0, none⟩), .int .i64 many] w (ShelfEndR 95 w b s bad many) := by
 have hnil : ∀ w' : World, IntsIn w' (.slice none 0 0) [] := fun w' => SliceOf.nil_ _ _ _ _
 cases bad with
 | true =>
  refine (ref_read_out b s _ _ true _ _ _ _ many w hT (ref_tint_calls b s true) (ref_tnum_calls b s true 8) (by show 0 ≤ 8; omega) (.inl rfl)).mono ?_
  rintro e w' ⟨r', he, hT', hg⟩
  exact ⟨_, [], r', true, he, hnil _, fresh_nil _, hT', hg, by simp, .inr ⟨rfl, rfl, .inl rfl⟩⟩
 | false =>
  by_cases h : ∃ a r, ShelfAt s.data.toList many a r
  ·obtain ⟨a, r, h⟩ := h
   have hl : a.length ≤ 4096 := by have := h.2.1; have := h.2.2.1; omega
   refine Calls.mono (ref_shelf_read_some b s hs h w hT) ?_
   rintro e w' ⟨v, he, hi, hf, hT', hg⟩
   exact ⟨v, a, mkB r, false, he, hi, hf, hT', hg, hl, .inl ⟨rfl, rfl, h⟩⟩
  ·refine (ref_shelf_read_none b s hs many h w hT).mono ?_
   rintro e w' ⟨r', he, hT', hg⟩
   exact ⟨_, [], r', true, he, hnil _, fresh_nil _, hT', hg, by simp, .inr ⟨rfl, rfl, .inr h⟩⟩
def WState (s : ByteArray) (many : Int) (ws : List ByteArray) (cur : ByteArray) (bad : Bool) (m : Nat) : Prop :=
 (bad = false ∧ ∃ N r0, m ≤ N ∧ N ≤ 4096 ∧ s.data.toList = vp N ++ r0 ∧ WordsAt r0 (N - m) ws cur.data.toList) ∨ (bad = true ∧ ¬ ∃ ws a r, ParseAt s.data.toList many ws a r)
theorem WState.first (s : ByteArray) (many : Int) : WState s many [] (numT s false 4096).2.1 (numT s false 4096).2.2 (numT s false 4096).1 := by
 have hle := numT_le s false 4096 (by decide)
 cases hn : (numT s false 4096).2.2 with
 | true =>
  refine .inr ⟨rfl, ?_⟩
  rintro ⟨ws, a, r, h0, r1, e1, _⟩
  exact numT_lacks hn ws.length (by omega) (by omega) ⟨_, e1⟩
 | false =>
  obtain ⟨_, es⟩ := numT_good hn
  refine .inl ⟨rfl, (numT s false 4096).1, (numT s false 4096).2.1.data.toList, Nat.le_refl _, by omega, ?_, ?_, ?_, ?_⟩
  ·rw [← print_data, ← data_append]; exact congrArg (fun x => x.data.toList) es
  ·simp
  ·intro c hc; simp at hc
  ·simp
theorem WState.next {s : ByteArray} {many : Int} {ws : List ByteArray} {cur : ByteArray} {m : Nat} (h : WState s many ws cur false (m + 1)) : WState s many (ws ++ [(readRT cur false).1]) (readRT cur false).2.1 (readRT cur false).2.2 m := by
 rcases h with ⟨_, N, r0, h1, h2, h3, h4⟩ | ⟨h, _⟩
 ·cases hok : cellOk cur false with
  | true =>
   have e : readRT cur false = ((cellT cur false).1, (cellT cur false).2.1, false) := by unfold readRT; rw [if_pos hok]
   rw [e]
   refine .inl ⟨rfl, N, r0, by omega, h2, h3, ?_⟩
   have h5 := h4.go hok
   rw [show N - (m + 1) + 1 = N - m by omega] at h5
   exact h5
  | false =>
   have e : readRT cur false = (⟨#[]⟩, (cellT cur false).2.1, true) := by unfold readRT; rw [if_neg (by rw [hok]; decide)]
   rw [e]
   refine .inr ⟨rfl, ?_⟩
   rintro ⟨ws', a, r, k0, r1, e1, r2, k1, _⟩
   obtain ⟨k2, k3⟩ := vp_front (by omega) (by omega) (h3.symm.trans e1)
   subst k3
   exact h4.stop (n := ws'.length) (by omega) hok ⟨_, _, k1⟩
 ·exact absurd h (by decide)
theorem WState.ends {s : ByteArray} {many : Int} {ws : List ByteArray} {cur s' : ByteArray} {bad bad' : Bool} {m : Nat} {a : List Int} (h : WState s many ws cur bad m) (hm : m = 0 ∨ bad = true)
  (k : ShelfSays cur bad many a s' bad') :
  (bad' = false ∧ ParseAt s.data.toList many ws a s'.data.toList) ∨ (bad' = true ∧ a = [] ∧ ¬ ∃ l r, DictAt s.data.toList many l r) := by
 rcases k with ⟨k1, k2, k3⟩ | ⟨k1, k0, k2⟩
 ·rcases h with ⟨_, N, r0, h1, h2, h3, h4⟩ | ⟨h, _⟩
  ·have hm0 : m = 0 := hm.resolve_right (by rw [k2]; decide)
   subst hm0
   have hl : ws.length = N := h4.1
   refine .inl ⟨k1, by omega, r0, by rw [hl]; exact h3, _, by rw [hl]; exact h4, k3⟩
  ·rw [k2] at h; exact absurd h (by decide)
 ·refine .inr ⟨k1, k0, ParseAt.none_of ?_⟩
  rcases h with ⟨hb, N, r0, h1, h2, h3, h4⟩ | ⟨_, h⟩
  ·have hm0 : m = 0 := hm.resolve_right (by rw [hb]; decide)
   subst hm0
   rintro ⟨ws', a', r', c0, r1, e1, r2, c1, c2⟩
   obtain ⟨e2, e3⟩ := vp_front (by omega) (by omega) (h3.symm.trans e1)
   subst e3
   rw [← e2] at c1
   obtain ⟨_, e4⟩ := h4.same c1
   rcases k2 with k2 | k2
   ·rw [hb] at k2; exact absurd k2 (by decide)
   ·rw [e4] at k2; exact k2 ⟨_, _, c2⟩
  ·exact h
def PState (ws : List ByteArray) (a : List Int) (k : Nat) (bad0 bb : Bool) (out : List ByteArray) : Prop :=
 (bb = bad0 ∧ AllIn ws (a.take k) ∧ out = picks ws (a.take k)) ∨ (bb = true ∧ ¬ AllIn ws a)
theorem picks_take {ws : List ByteArray} {a : List Int} {k : Nat} (h : k < a.length) {j : Nat} (hj : a[k] = j) (hw : j < ws.length) : picks ws (a.take (k + 1)) = picks ws (a.take k) ++ [ws[j]] := by
 unfold picks
 rw [take_add a k h, List.map_append]
 congr 1
 simp only [List.map_cons, List.map_nil, hj, Int.toNat_natCast]
 rw [getD_in _ _ hw]
theorem PState.ends {s : ByteArray} {many : Int} {ws : List ByteArray} {a : List Int} {s' : ByteArray} {bad' bb : Bool} {k : Nat} {out : List ByteArray} (h : PState ws a k bad' bb out) (hk : k = a.length ∨ bb = true)
  (e : (bad' = false ∧ ParseAt s.data.toList many ws a s'.data.toList) ∨ (bad' = true ∧ a = [] ∧ ¬ ∃ l r, DictAt s.data.toList many l r)) :
  (bb = true ∧ ¬ ∃ l r, DictAt s.data.toList many l r) ∨ (bb = false ∧ wordsOf out = ws ∧ DictAt s.data.toList many out s'.data.toList) ∨ (bb = false ∧ wordsOf out ≠ ws ∧ ¬ ∃ l r, DictAt s.data.toList many l r) := by
 rcases h with ⟨rfl, h2, h3⟩ | ⟨h1, h2⟩
 ·rcases e with ⟨e1, e2⟩ | ⟨e1, _, e2⟩
  ·have hk' : k = a.length := hk.resolve_right (by rw [e1]; decide)
   subst hk'
   rw [List.take_length] at h2 h3
   by_cases hw : wordsOf out = ws
   ·refine .inr (.inl ⟨e1, hw, ?_⟩)
    subst h3
    exact e2.words h2 hw
   ·subst h3
    exact .inr (.inr ⟨e1, hw, e2.noWords hw⟩)
  ·exact .inl ⟨e1, e2⟩
 ·rcases e with ⟨_, e2⟩ | ⟨_, _, e2⟩
  ·exact .inl ⟨h1, e2.out h2⟩
  ·exact .inl ⟨h1, e2⟩
theorem Tryz.infoV9 : (Tryz.prog.info? 9).map (fun i => (i.zero, i.size, i.bytes)) = some (some (.string ⟨#[]⟩), 1, 16) := by kernel_rfl
def DictReadR (T : TypeId) (w : World) (b : Nat) (s : ByteArray) (many : Int) (e : Ending) (w' : World) : Prop := ∃ s0, DictRead T w b s s0 many e w'
set_option maxHeartbeats 4000000 in
set_option maxRecDepth 100000 in
theorem ref_dict_read_calls (b : Nat) (s : ByteArray) (many : Int) (hs : s.size ≤ 1000000) (w : World) (hT : TapeIn 95 w b s false) :
  Calls Tryz.prog 123 #[.pointer (some ⟨b, 0, none⟩), .int .i64 many] w (DictReadR 95 w b s many) := by
 obtain ⟨i0, hi, hz0, hz1, hz2⟩ := info_parts Tryz.infoV9
 have hbw := hT.lt
 have hg := grown_refl w (some b)
 have H1 := Lib.hid (ref_tnum_calls b s false 4096)
 have hle := numT_le s false 4096 (by decide)
 have hsz := numT_size s false 4096
 have HW := Lib.hid (WState.first s many)
 generalize numT s false 4096 = X at *
 obtain ⟨N, r0, b0⟩ := X
 simp only at H1 hle hsz HW
 go_enter Tryz.func123, Tryz.ntmps123
 go_wp2_with (go_at_call 97; refine H1.out.step hT hg ?_; clear hT hg; intro w1 hT hg)
 go_loopw [5, 7] (fun v n wr => ∃ (ws : List ByteArray) (cur : ByteArray) (bb : Bool) (m : Nat), n = .int .u64 m ∧ m ≤ 4096 ∧ ws.length + m ≤ 4096 ∧ Own wr w.heap.size 1 v ws.length (ws.map Value.string) ∧ TapeIn 95 wr b cur bb ∧ w.grownBy wr (some b) ∧ cur.size ≤ s.size ∧ Hid (WState s many ws cur bb m)) (fun _ n _ => (intOf n).toNat)
 case atStart => exact ⟨[], r0, b0, N, rfl, by omega, by simp; omega, Own.nil_ _ _ _, hT, hg, hsz, HW⟩
 case round =>
  clear hT hg HW H1 hsz hle
  obtain ⟨ws, cur, bb, m, rfl, hm, hwm, hO, hT, hg, hcs, HW⟩ := hrel
  have c1 := hT.c1
  by_cases hgo : 0 < m ∧ bb = false
  ·obtain ⟨hm0, rfl⟩ := hgo
   obtain ⟨m', rfl⟩ : ∃ m', m = m' + 1 := ⟨m - 1, by omega⟩
   have H2 := Lib.hid (ref_readCell_calls b cur false (by omega))
   have HN := Lib.hid HW.out.next
   have hx : (readRT cur false).2.1.size ≤ cur.size := by
    unfold readRT; split
    ·exact cellT_size _ _
    ·exact cellT_size _ _
   generalize readRT cur false = Y at *
   obtain ⟨c, r1, b1⟩ := Y
   simp only at H2 HN hx
   obtain ⟨A, cap, rfl⟩ := hO.len
   have p1 : IntKind.u64.wrap ((((m' + 1 : Nat) : Int)) - 1) = (m' : Int) := by rw [show (((m' + 1 : Nat) : Int)) - 1 = (m' : Int) by omega]; exact wrap_lt _ (by omega)
   have p0 : (0 : Int) < ((m' + 1 : Nat) : Int) := by omega
   have HL := Lib.hid (show (ws ++ [c]).map Value.string = ws.map Value.string ++ [Value.string c] by rw [List.map_append]; rfl)
   have HLL := Lib.hid (show (ws ++ [c]).length = ws.length + 1 by rw [List.length_append]; rfl)
   have hrs : r1.size ≤ s.size := by omega
   generalize hxs : ws.map Value.string = xs at *
   generalize hkl : ws.length = K at *
   clear hkl hxs
   go_wp2_with (first | (go_at_call 146; refine H2.out.stepG hT hg ?_; clear hT hg c1; intro w3 hT hg hq; replace hO := own_aside hO hbw hq; clear hq; have hB3 : w.heap.size ≤ w3.heap.size := hg.size) | (at_builtin; refine wpList_append_Own rfl _ _ 28 rfl 9 i0 (.string ⟨#[]⟩) 1 16 Tryz.underlying28 hi hz0 hz1 hz2 rfl (by decide) _ _ _ rfl (Own.alloc hO _) ⟨w3.heap.size, 0, none⟩ 1 1 [_] rfl rfl (one_new _ _ _) (one_str _) ?c1 ?c2 (Nat.le_trans hB3 (by simp)) ?_))
   case c1 => unfold maxLen; omega
   case c2 => omega
   intro v4 w4 hO4 hg4
   have hO1 := Own.alloc hO (.cells #[Value.string c] 9)
   have hT4 := (hT.alloc (.cells #[Value.string c] 9)).appended hO1 hbw hg4
   have hgg := grown_appended (grown_alloc hg (.cells #[Value.string c] 9)) hO1 hg4
   clear hO hT hg hg4 hO1
   go_wp2
   go_roundw
   case rel => exact ⟨ws ++ [c], r1, b1, m', by go_num, by omega, by rw [HLL.out]; omega, by rw [HLL.out, HL.out]; exact hO4, hT4, hgg, hrs, HN.out⟩
   case measure => simp [intOf] <;> omega
  ·have hor : m = 0 ∨ bb = true := by
    rcases Nat.eq_zero_or_pos m with h | h
    ·exact .inl h
    ·right; cases bb with
     | true => rfl
     | false => exact absurd ⟨h, rfl⟩ hgo
   have HOR := Lib.hid hor
   have hfin : (m = 0) ∨ (0 < m ∧ bb = true) := by
    rcases hor with h | h
    ·exact .inl h
    ·rcases Nat.eq_zero_or_pos m with h' | h'
     ·exact .inl h'
     ·exact .inr ⟨h', h⟩
   have H3 := Lib.hid (fun w hT => ref_shelf_end b cur bb (by omega) many w hT)
   have HE := Lib.hid (fun (a : List Int) (s' : ByteArray) (bad' : Bool) k => HW.out.ends (a := a) (s' := s') (bad' := bad') HOR.out k)
   have hwl : ws.length ≤ 4096 := by omega
   have HO1 := Lib.hid hO
   obtain ⟨A, cap, rfl⟩ := hO.len
   have HTT := Lib.hid hT
   have HGG := Lib.hid hg
   clear hor hgo hO HW hT hg
   rcases hfin with rfl | ⟨hm0, rfl⟩
   case' inl =>
    have d1 : decide ((0 : Int) < ((0 : Nat) : Int)) = false := by decide
   case' inr =>
    have d1 : decide ((0 : Int) < (m : Int)) = true := decide_eq_true (by omega)
   all_goals
    go_wp2_with fail
    refine (H3.out _ HTT.out).mono ?_
    clear c1 d1
    rintro e w2 ⟨v2, a, s', bad', rfl, hi2, hf2, hT2, hg2, hal, hend⟩
    have HEND := Lib.hid (HE.out a s' bad' hend)
    have hg12 := grown_trans HGG.out hg2
    have hii1 : StrsIn w2 (.slice A ws.length cap) ws := HO1.out.slice.fresh (fun k hk => (HO1.out.lt k hk).1) hg2 hbw
    have hw2 := hg12.size
    obtain ⟨A2, c2, rfl, hat2⟩ := one_at hi2
    have hf2' : Fresh w.heap.size (.slice A2 a.length c2) := hf2.mono HGG.out.size
    have HS1 := Lib.hid hii1
    have HF1 : Hid (Fresh w.heap.size (.slice A ws.length cap)) := fun k hk => (HO1.out.lt k hk).1
    have HF2 := Lib.hid hf2'
    have HS2 := Lib.hid hi2
    have HAT2 := Lib.hid hat2
    clear hend hi2 hf2 hg2 hii1 hat2 hf2'
    go_wp2
    go_loopw [6, 9] (fun v i wr => ∃ (k : Nat) (bb : Bool) (out : List ByteArray), k ≤ a.length ∧ out.length ≤ k ∧ i = .int .i64 k ∧ Own wr w2.heap.size 1 v out.length (out.map Value.string) ∧ TapeIn 95 wr b s' bb ∧ w2.grownBy wr (some b) ∧ Hid (PState ws a k bad' bb out)) (fun _ i _ => a.length - (intOf i).toNat)
    case atStart => exact ⟨0, bad', [], Nat.zero_le _, Nat.le_refl _, rfl, Own.nil_ _ _ _, hT2, grown_refl _ _, .inl ⟨rfl, fun x hx => by simp at hx, by simp [picks]⟩⟩
    case round =>
     clear hT2
     obtain ⟨k, bb, out, hk, hol, rfl, hO, hT, hg, HP⟩ := hrel
     have c1 := hT.c1
     have hbw2 : b < w2.heap.size := by omega
     by_cases hgo : k < a.length ∧ bb = false
     ·obtain ⟨hlt, rfl⟩ := hgo
      obtain ⟨o2, f2, rfl, hbl2, hc2⟩ := HAT2.out k hlt
      have hnb : o2 ≠ b := by have := HF2.out o2 rfl; omega
      have hx2 : wr.cell? ⟨o2, f2 + k, none⟩ = some (.int .i64 a[k]) := by
       rw [World.cell?_of_block (w := w2) (a := ⟨o2, f2 + k, none⟩) (hg.block o2 hbl2 (by simpa using hnb))]; exact hc2 k hlt
      have d0 : decide ((k : Int) < (a.length : Int)) = true := by rw [decide_eq_true_eq]; omega
      have hbad : Hid (¬ (0 ≤ a[k] ∧ a[k] < ws.length) → PState ws a (k + 1) bad' true out) := fun h => .inr ⟨rfl, fun h' => h (h' _ (List.getElem_mem hlt))⟩
      have hok : Hid (∀ j : Nat, a[k] = j → ∀ hj : j < ws.length, PState ws a (k + 1) bad' false (out ++ [ws[j]])) := by
       intro j hj hjl
       rcases HP.out with ⟨h1, h2, h3⟩ | ⟨h1, _⟩
       ·exact .inl ⟨h1, all_take h2 hlt (by omega) (by omega), by rw [picks_take hlt hj hjl, h3]⟩
       ·exact absurd h1 (by decide)
      clear hc2 HP
      generalize a[k] = x at *
      by_cases hin : 0 ≤ x ∧ x < ws.length
      ·obtain ⟨j, rfl⟩ : ∃ j : Nat, x = j := ⟨x.toNat, by omega⟩
       have hjl : j < ws.length := by omega
       have HOK := Lib.hid (hok.out j rfl hjl)
       have hs1 := SliceOf.fresh HS1.out HF1.out hg hbw
       obtain ⟨A', c', e1, hat1⟩ := one_at (f := Value.string) (l := ws) hs1
       obtain ⟨o1, f1, e2, hbl1, hc1⟩ := hat1 j hjl
       simp only [Value.slice.injEq] at e1
       obtain ⟨rfl, _, rfl⟩ := e1
       subst e2
       have hx1 := hc1 j hjl
       have d1 : decide ((ws.length : Int) ≤ (j : Int)) = false := by rw [decide_eq_false_iff_not]; omega
       have d2 : decide (ws.length ≤ j) = false := by rw [decide_eq_false_iff_not]; omega
       generalize ws[j] = c at *
       have HL := Lib.hid (show (out ++ [c]).map Value.string = out.map Value.string ++ [Value.string c] by rw [List.map_append]; rfl)
       have HLL := Lib.hid (show (out ++ [c]).length = out.length + 1 by rw [List.length_append]; rfl)
       have hB3 : w2.heap.size ≤ wr.heap.size := hg.size
       generalize hxs : out.map Value.string = xs at *
       generalize hkl : out.length = K at *
       obtain ⟨A3, c3, rfl⟩ := hO.len
       clear hkl hxs hs1 hat1 hc1 hin hok hbad
       go_wp2_with (at_builtin; refine wpList_append_Own rfl _ _ 28 rfl 9 i0 (.string ⟨#[]⟩) 1 16 Tryz.underlying28 hi hz0 hz1 hz2 rfl (by decide) _ _ _ rfl (Own.alloc hO _) ⟨wr.heap.size, 0, none⟩ 1 1 [_] rfl rfl (one_new _ _ _) (one_str _) ?c3 ?c4 (Nat.le_trans hB3 (by simp)) ?_)
       case c3 => unfold maxLen; omega
       case c4 => omega
       intro v4 w4 hO4 hg4
       have hO1 := Own.alloc hO (.cells #[Value.string c] 9)
       have hT4 := (hT.alloc (.cells #[Value.string c] 9)).appended hO1 hbw2 hg4
       have hgg := grown_appended (grown_alloc hg (.cells #[Value.string c] 9)) hO1 hg4
       clear hO hT hg hg4 hO1
       go_wp2
       go_roundw
       case rel => exact ⟨k + 1, false, out ++ [c], by omega, by rw [HLL.out]; omega, by go_num, by rw [HLL.out, HL.out]; exact hO4, hT4, hgg, HOK.out⟩
       case measure => simp [intOf]; omega
      ·have HB := Lib.hid (hbad.out hin)
       have ff := hT.f0 1
       have hTb := hT.set1 true
       have hgb := grown_set hg 1 (.bool true)
       have hOb := own_aside hO hbw2 (grown_set (grown_refl wr (some b)) 1 (.bool true))
       have HTb := Lib.hid hTb
       have HGb := Lib.hid hgb
       have HOb := Lib.hid hOb
       clear hok hbad hTb hgb hOb hO hT hg
       by_cases h0 : x < 0
       ·have d1 : decide (x < 0) = true := by rw [decide_eq_true_eq]; exact h0
        clear hin
        go_wp2
        go_roundw
        case rel => exact ⟨k + 1, true, out, by omega, by omega, by go_num, HOb.out, HTb.out, HGb.out, HB.out⟩
        case measure => simp [intOf]; omega
       ·have d1 : decide (x < 0) = false := by rw [decide_eq_false_iff_not]; exact h0
        have d2 : decide ((ws.length : Int) ≤ x) = true := by rw [decide_eq_true_eq]; omega
        clear hin
        go_wp2
        go_roundw
        case rel => exact ⟨k + 1, true, out, by omega, by omega, by go_num, HOb.out, HTb.out, HGb.out, HB.out⟩
        case measure => simp [intOf]; omega
     ·have hor : k = a.length ∨ bb = true := by
       by_cases h : k < a.length
       ·right; cases bb with
        | true => rfl
        | false => exact absurd ⟨h, rfl⟩ hgo
       ·left; omega
      have hend := HP.out.ends hor HEND.out
      have hs1 := SliceOf.fresh HS1.out HF1.out hg hbw
      have hgt := Lib.hid (grown_trans hg12 hg)
      have HTT2 := Lib.hid hT
      have HOO := Lib.hid hO
      have HSW := Lib.hid hs1
      have ff := hT.f0 1
      have hout : out.length ≤ 1000000 := by omega
      have HFO := Lib.hid (Fresh.mono (fun j hj => (HOO.out.lt j hj).1) hw2)
      obtain ⟨A3, c3, rfl⟩ := hO.len
      clear hor HP hO hg hs1
      rcases hend with ⟨rfl, hn⟩ | ⟨rfl, hw, hd⟩ | ⟨rfl, hw, hn⟩
      ·have HN := Lib.hid hn
       have hTb := Lib.hid (HTT2.out.set1 true)
       have hgb := Lib.hid (grown_set hgt.out 1 (.bool true))
       clear hn hgo
       by_cases hlt : k < a.length
       ·have d0 : decide ((k : Int) < (a.length : Int)) = true := by rw [decide_eq_true_eq]; omega
        go_wp2
        go_ret
        exact ⟨s', .inr ⟨rfl, hTb.out, hgb.out, HN.out⟩⟩
       ·have d0 : decide ((k : Int) < (a.length : Int)) = false := by rw [decide_eq_false_iff_not]; omega
        go_wp2
        go_ret
        exact ⟨s', .inr ⟨rfl, hTb.out, hgb.out, HN.out⟩⟩
      ·have HD := Lib.hid hd
       have hge : ¬ k < a.length := fun h => hgo ⟨h, rfl⟩
       have d0 : decide ((k : Int) < (a.length : Int)) = false := by rw [decide_eq_false_iff_not]; omega
       have H5 := Lib.hid (ref_words_calls HOO.out.slice hout)
       clear hd hgo
       go_wp2_with (first | (go_at_call 132; refine H5.out.mono ?_; rintro e w6 ⟨v6, rfl, hO6, hb6⟩; rw [hw] at hO6; have H6 := ref_alike_calls hO6.slice (SliceOf.later HSW.out hb6); rw [decide_eq_true rfl] at H6; obtain ⟨A6, c6, rfl⟩ := hO6.len) | (go_at_call 147; refine H6.step (w0 := wr) (B := wr.heap.size) hb6 hb6.size ?_; intro w7 hb7 _))
       go_ret
       exact ⟨s', .inl ⟨_, out, _, rfl, HD.out, SliceOf.later HOO.out.slice hb7, HFO.out, by rw [mkB_of]; exact HTT2.out.kept hb7, grown_trans hgt.out (grown_below hb7 _)⟩⟩
      ·have HN := Lib.hid hn
       have hge : ¬ k < a.length := fun h => hgo ⟨h, rfl⟩
       have d0 : decide ((k : Int) < (a.length : Int)) = false := by rw [decide_eq_false_iff_not]; omega
       have H5 := Lib.hid (ref_words_calls HOO.out.slice hout)
       have HW2 := Lib.hid hw
       clear hn hgo hw
       go_wp2_with (first | (go_at_call 132; refine H5.out.mono ?_; rintro e w6 ⟨v6, rfl, hO6, hb6⟩; have H6 := ref_alike_calls hO6.slice (SliceOf.later HSW.out hb6); rw [decide_eq_false HW2.out] at H6; obtain ⟨A6, c6, rfl⟩ := hO6.len) | (go_at_call 147; refine H6.step (w0 := wr) (B := wr.heap.size) hb6 hb6.size ?_; intro w7 hb7 _; have hT7 := HTT2.out.kept hb7; have e1 := hT7.c1; have e2 := hT7.f0 1))
       go_ret
       exact ⟨s', .inr ⟨rfl, hT7.set1 true, grown_set (grown_trans hgt.out (grown_below hb7 _)) 1 (.bool true), HN.out⟩⟩
end Go.Proofs.YtkgjbldlegcajaaGreat
