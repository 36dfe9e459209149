/- The law StepsBack. -/
import Derived.Test.YtbpigfpkcflbkaaStepsLaws
namespace Go.Proofs.Ytbpigfpkcflbkaa
open Go Go.RowKit

def cellsI (l : List Int) : List Value := l.map fun n => Value.string (cellInt n)
theorem cellsI_length (l : List Int) : (cellsI l).length = l.length := List.length_map _
theorem cellsI_step (l : List Int) (k : Nat) (h : k < l.length) : cellsI (l.take (k + 1)) = cellsI (l.take k) ++ [Value.string (cellInt l[k])] := by
  unfold cellsI
  rw [take_add l k h, List.map_append]; rfl
theorem cellsI_in {w : World} {v : Value} {l : List Int} {n : Nat} (h : SliceOf w 1 v n (cellsI l)) (hn : n = l.length) : StrsIn w v (l.map cellInt) := by
  subst hn; exact cells_in h
theorem wrap_shift (x q : Int) : wrap64 (IntKind.u64.wrap (IntKind.u64.wrap x + IntKind.u64.wrap q)) = wrap64 (x + q) := by
  simp only [IntKind.wrap_u64]; unfold wrap64; omega
def shifted (q : Int) (l : List Int) : List Int := l.map fun x => wrap64 (x + q)
theorem shifted_step (q : Int) (l : List Int) (k : Nat) (h : k < l.length) : cellsI (shifted q (l.take (k + 1))) = cellsI (shifted q (l.take k)) ++ [Value.string (cellInt (wrap64 (l[k] + q)))] := by
  unfold cellsI shifted
  rw [take_add l k h, List.map_append, List.map_append]; rfl
theorem shifted_range (q : Int) (l : List Int) : InR (shifted q l) := by
  intro x hx
  obtain ⟨y, _, rfl⟩ := List.mem_map.1 hx
  exact wrap64_range _
theorem shifted_length (q : Int) (l : List Int) : (shifted q l).length = l.length := List.length_map _
/-- Two slices that a call owns lie in blocks of their own. -/
def Aside (v u : Value) : Prop := ∀ k, v.ownBlock = some k → u.ownBlock ≠ some k
theorem Aside.sym {v u : Value} (h : Aside v u) : Aside u v := fun k hk e => h k e hk
theorem own_beside {w w' : World} {B nn : Nat} {c0 c1 nv : Value} {ns : List Value} (hn : Own w B 1 nv nn ns) (hap : Aside c0 nv)
    (hg : w.grownBy w' c0.ownBlock) (hc' : ∀ k, c1.ownBlock = some k → c0.ownBlock = some k ∨ w.heap.size ≤ k) : Own w' B 1 nv nn ns ∧ Aside c1 nv := by
  refine ⟨hn.other hg (fun k hk e => hap k e.symm hk), fun k hk e => ?_⟩
  rcases hc' k hk with h | h
  · exact hap k h e
  · have := (hn.lt k e).2; omega
theorem stepN_shift (p x q : Int) : stepN (wrap64 (p + q)) (wrap64 (x + q)) = stepN p x := by
  unfold stepN
  rw [show wrap64 (wrap64 (x + q) - wrap64 (p + q)) = wrap64 (x - p) by unfold wrap64; omega]
theorem steps_shift (q : Int) : ∀ (p : Int) (l : List Int), stepsB (wrap64 (p + q)) (shifted q l) = stepsB p l
  | _, [] => rfl
  | p, x :: l => by
    show vp (stepN (wrap64 (p + q)) (wrap64 (x + q))) ++ stepsB (wrap64 (x + q)) (shifted q l) = vp (stepN p x) ++ stepsB x l
    rw [stepN_shift, steps_shift q x l]
theorem first_step (x : Int) (h0 : -9223372036854775808 ≤ x) (h1 : x ≤ 9223372036854775807) : openI (stepN 0 x) = x := by
  unfold stepN
  rw [open_fold]
  unfold wrap64; omega
/-- The first number of a Print, and what is left. -/
theorem numT_steps (x : Int) (l : List Int) : numT (stepsT (x :: l)) false maxU = (stepN 0 x, mkB (stepsB x l), false) := by
  have e : stepsT (x :: l) = printB (stepN 0 x) ++ mkB (stepsB x l) := bytes_ext (by rw [data_append, print_data, mkB_data]; rfl)
  rw [e]
  exact numT_print _ (stepN_lt _ _) _ _ (by have := stepN_lt 0 x; unfold maxU; omega)
theorem tint_steps (b : Nat) (x : Int) (l : List Int) (h0 : -9223372036854775808 ≤ x) (h1 : x ≤ 9223372036854775807) :
    Takes Try.prog 27 16 [] b (stepsT (x :: l)) false (.int .i64 x) (mkB (stepsB x l)) false := by
  have k := tint_calls b (stepsT (x :: l)) false
  rw [numT_steps] at k
  simp only [first_step x h0 h1] at k
  exact k
theorem two_boxes (w : World) (s u : ByteArray) (T : TypeId) :
    TapeIn T ((w.alloc (.cells #[.string s, .bool false] T)).alloc (.cells #[.string u, .bool false] T)) w.heap.size s false ∧
    TapeIn T ((w.alloc (.cells #[.string s, .bool false] T)).alloc (.cells #[.string u, .bool false] T)) (w.heap.size + 1) u false ∧
    Below w.heap.size w ((w.alloc (.cells #[.string s, .bool false] T)).alloc (.cells #[.string u, .bool false] T)) := by
  have h1 := box_tape w s false T
  have h2 := box_tape (w.alloc (.cells #[.string s, .bool false] T)) u false T
  exact ⟨h1.alloc _, by simpa using h2, ((Below.refl _ w).alloc (Nat.le_refl _) _).alloc (by simp) _⟩
theorem back_parts (q : Int) {l : List Int} (hr : InR l) {x : Int} {l' : List Int} (e : l = x :: l') :
    (∀ b, Takes Try.prog 27 16 [] b (stepsT l) false (.int .i64 x) (mkB (stepsB x l')) false) ∧
    ∀ b, Takes Try.prog 27 16 [] b (stepsT (shifted q l)) false (.int .i64 (wrap64 (x + q))) (mkB (stepsB x l')) false := by
  subst e
  have hx := hr x List.mem_cons_self
  refine ⟨fun b => tint_steps b x l' hx.1 hx.2, fun b => ?_⟩
  have k := tint_steps b (wrap64 (x + q)) (shifted q l') (wrap64_range _).1 (wrap64_range _).2
  rw [steps_shift] at k
  exact k
theorem stepsG_ints {l : List Int} (h : InR l) : stepsG (l.map cellInt) = stepsT l := by
  unfold stepsG
  rw [(nums_ints h).2, (nums_ints h).1, if_pos rfl]
theorem stepsT_size (l : List Int) : (stepsT l).size ≤ 10 * l.length := by
  unfold stepsT; rw [mkB_size]; exact stepsB_size 0 l

set_option maxHeartbeats 4000000 in
set_option maxRecDepth 100000 in
theorem stepsBack_short {w : World} {v : Value} {l : List Int} (h : IntsIn w v l) (hr : InR l) (q : Int) (more : ByteArray) (hl : l.length ≤ 300) (hm : more.size ≤ 100) :
    GivesAt Try.prog 4 #[v, .int .i64 q, .string more] w (.bool true) := by
  obtain ⟨i0, hi, hz0, hz1, hz2⟩ := info_parts Try.infoN9
  obtain ⟨hb, hB⟩ := start w
  obtain ⟨A, cap, rfl, hat⟩ := one_at h
  have HAT := Lib.hid hat
  have HR := Lib.hid hr
  have dm : decide (100 < (more.size : Int)) = false := by rw [decide_eq_false_iff_not]; omega
  have T1 := fun b => steps_read_some b _ (steps_at l (by omega) hr more)
  rw [mkB_of] at T1
  have HT1 := Lib.hid T1
  clear T1
  have HP1 := Lib.hid (stepsG_ints hr)
  have HP2 := Lib.hid (stepsG_ints (shifted_range q l))
  have hsz := stepsT_size l
  have HSL := Lib.hid (shifted_length q l)
  clear h hat hr
  unfold GivesAt
  go_enter Try.func4, Try.ntmps4
  go_wp2
  go_loopw [7, 8, 9] (fun x y i wr => ∃ (k : Nat), k ≤ l.length ∧ i = .int .i64 k ∧ Own wr w.heap.size 1 x k (cellsI (l.take k)) ∧ Own wr w.heap.size 1 y k (cellsI (shifted q (l.take k))) ∧ Aside x y ∧ Below w.heap.size w wr) (fun _ _ i _ => l.length - (intOf i).toNat)
  case atStart => exact ⟨0, by omega, rfl, Own.nil_ _ _ _, Own.nil_ _ _ _, fun k hk => by simp [Value.ownBlock] at hk, hb⟩
  case round =>
    clear hb hB
    obtain ⟨k, hk, rfl, hO1, hO2, hap, hb⟩ := hrel
    have hB := hb.size
    by_cases hlt : k < l.length
    · obtain ⟨b, off, rfl, hbl, hc⟩ := HAT.out k hlt
      have hxw := hc k hlt
      have hx := (hb.cell (p := ⟨b, off + k, none⟩) hbl).trans hxw
      have hrk := HR.out _ (List.getElem_mem hlt)
      have HS1 := Lib.hid (cellsI_step l k hlt)
      have HS2 := Lib.hid (shifted_step q l k hlt)
      have I1 := Lib.hid (int_calls l[k] hrk.1 hrk.2)
      have I2 := Lib.hid (int_calls (wrap64 (l[k] + q)) (wrap64_range _).1 (wrap64_range _).2)
      have HW := wrap_shift l[k] q
      generalize cellsI (shifted q (l.take k)) = ys at *
      generalize cellsI (l.take k) = xs at *
      obtain ⟨A1, p1, rfl⟩ := hO1.len
      obtain ⟨A2, p2, rfl⟩ := hO2.len
      clear hc hrk
      have HXW := Lib.hid hxw
      clear hxw
      generalize l[k] = n at *
      go_wp2_with (first | (go_at_call 15; refine I1.out.stepB (w0 := wr) (B := wr.heap.size) (.refl _ _) (Nat.le_refl _) ?_; intro w2 _ _ hq; replace hb := hb.trans (hq.mono hB); replace hB := hb.size; replace hO1 := hO1.later hq; replace hO2 := hO2.later hq; clear hq hx) | (at_builtin; refine wpList_append_OwnA rfl _ _ 22 rfl 9 i0 (.string ⟨#[]⟩) 1 16 Try.underlying22 hi hz0 hz1 hz2 rfl (by decide) _ _ _ rfl (Own.alloc hO1 _) ⟨w2.heap.size, 0, none⟩ 1 1 [_] rfl rfl (one_new _ _ _) (one_str _) ?c1 ?c2 (below_alloc hb hB _).2 ?_))
      case c1 => unfold maxLen; omega
      case c2 => omega
      intro v3 w3 hO3 hg3 ha3
      have hb3 := (Own.alloc hO1 (.cells #[Value.string (cellInt n)] 9)).grown (below_alloc hb hB _).1 (below_alloc hb hB _).2 hg3
      have hB3 := hb3.size
      obtain ⟨hO2', hap'⟩ := own_beside (Own.alloc hO2 (.cells #[Value.string (cellInt n)] 9)) hap hg3 (fun k hk => (ha3 k hk).imp id fun h => by simpa using h)
      have hx3 := (hb3.cell (p := ⟨b, off + k, none⟩) hbl).trans HXW.out
      clear hO1 hO2 hb hB hap hg3 ha3
      go_wp2_with (first | (go_at_call 15; refine I2.out.stepB (w0 := w3) (B := w3.heap.size) (.refl _ _) (Nat.le_refl _) ?_; intro w4 _ _ hq; replace hb3 := hb3.trans (hq.mono hB3); replace hB3 := hb3.size; replace hO3 := hO3.later hq; replace hO2' := hO2'.later hq; clear hq hx3) | (at_builtin; refine wpList_append_OwnA rfl _ _ 22 rfl 9 i0 (.string ⟨#[]⟩) 1 16 Try.underlying22 hi hz0 hz1 hz2 rfl (by decide) _ _ _ rfl (Own.alloc hO2' _) ⟨w4.heap.size, 0, none⟩ 1 1 [_] rfl rfl (one_new _ _ _) (one_str _) ?c3 ?c4 (below_alloc hb3 hB3 _).2 ?_))
      case c3 => unfold maxLen; omega
      case c4 => omega
      intro v5 w5 hO5 hg5 ha5
      have hb5 := (Own.alloc hO2' (.cells #[Value.string (cellInt (wrap64 (n + q)))] 9)).grown (below_alloc hb3 hB3 _).1 (below_alloc hb3 hB3 _).2 hg5
      obtain ⟨hO3', hap5⟩ := own_beside (Own.alloc hO3 (.cells #[Value.string (cellInt (wrap64 (n + q)))] 9)) hap'.sym hg5 (fun k hk => (ha5 k hk).imp id fun h => by simpa using h)
      have HX := Lib.hid hO3'
      have HY := Lib.hid hO5
      have HAP := Lib.hid hap5.sym
      clear hO2' hO3 hb3 hB3 hap' hg5 ha5 hO3' hO5 hap5
      go_wp2
      go_roundw
      case rel => exact ⟨k + 1, by omega, by go_num, by rw [HS1.out]; exact HX.out, by rw [HS2.out]; exact HY.out, HAP.out, hb5⟩
      case measure => simp [intOf]; omega
    · obtain rfl : k = l.length := by omega
      rw [List.take_length] at hO1 hO2
      have hx1 := cellsI_in hO1.slice rfl
      have hx2 := cellsI_in hO2.slice HSL.out.symm
      obtain ⟨A1, p1, rfl⟩ := hO1.len
      obtain ⟨A2, p2, rfl⟩ := hO2.len
      clear hO1 hO2 hap
      go_wp2_with fail
      have hp := steps_print_calls hx1 (by rw [List.length_map]; omega)
      rw [HP1.out] at hp
      refine hp.stepB (w0 := w) (B := w.heap.size) hb hB ?_
      clear hb hB hp
      intro w6 hb hB hq
      replace hx1 := StrsIn.kept hx1 hq
      replace hx2 := StrsIn.kept hx2 hq
      clear hq
      go_wp2_with fail
      have hp := steps_print_calls hx2 (by rw [List.length_map, HSL.out]; omega)
      rw [HP2.out] at hp
      refine hp.stepB (w0 := w) (B := w.heap.size) hb hB ?_
      clear hb hB hp
      intro w7 hb hB hq
      replace hx1 := StrsIn.kept hx1 hq
      clear hx2 hq
      go_wp2_with (go_at_call 8; refine (HT1.out _).stepB (w0 := w) (B := w.heap.size) (box_tape w7 _ _ _) (below_alloc hb hB _).1 (below_alloc hb hB _).2 (by go_size) ?_)
      clear hb hB
      intro v8 w8 hi8 _ hT8 hb hB hg
      replace hx1 := StrsIn.kept hx1 (boxed_below hg)
      clear hg
      obtain ⟨A8, p8, rfl, _⟩ := one_at hi8
      go_wp2_with fail
      have hs := same_strs hi8 hx1 (by rw [List.length_map]; omega) (by rw [List.length_map]; omega)
      rw [decide_eq_true rfl] at hs
      rw [List.length_map] at hs
      refine hs.stepB (w0 := w) (B := w.heap.size) hb hB ?_
      clear hb hB hs
      intro w9 hb hB hq
      have t0 := (hT8.kept hq).c0
      have t1 := (hT8.kept hq).c1
      clear hx1 hi8 hT8 hq
      have HRR := Lib.hid (fun x l' e => back_parts q (l := l) HR.out (x := x) (l' := l') e)
      by_cases h0 : l = []
      · have HE : (stepsT l).toList = [] := by rw [h0, ByteArray.toList_eq]; rfl
        have d0 : ((l.length : Int) == 0) = true := by rw [h0]; rfl
        clear h0 HAT HR hsz HSL
        go_wp2_with (go_at_call 7; refine awake_calls.step (w0 := w) (B := w.heap.size) hb hB ?_; clear hb hB; intro w10 hb hB)
        go_ret
        exact ⟨ret_bool (by simp), hb⟩
      · obtain ⟨x, l', hxl⟩ := List.exists_cons_of_ne_nil h0
        obtain ⟨b1, b2⟩ := HRR.out x l' hxl
        have hpos : 0 < l.length := by rw [hxl]; simp
        have hl0 : l[0] = x := by simp [hxl]
        have d0 : ((l.length : Int) == 0) = false := by rw [beq_eq_false_iff_ne]; omega
        obtain ⟨b, off, rfl, hbl, hc⟩ := HAT.out 0 hpos
        have hx0 : w.cell? ⟨b, off, none⟩ = some (.int .i64 x) := by have := hc 0 hpos; rwa [hl0] at this
        have HX0 := Lib.hid hx0
        have HW := wrap_shift x q
        generalize stepsT l = s at *
        generalize stepsT (shifted q l) = u at *
        generalize mkB (stepsB x l') = rest at *
        have HB1 := Lib.hid b1
        have HB2 := Lib.hid b2
        clear h0 hxl hl0 hc hx0 b1 b2 HAT HR HSL HP1 HP2 HT1 HRR
        obtain ⟨hTa, hTb, hbt⟩ := two_boxes w9 s u 27
        have hbb := hb.trans (hbt.mono hB)
        have hw9 := hB
        clear hbt
        go_wp2_with fail
        refine (HB1.out _).stepB (w0 := w) (B := w.heap.size) hTa hbb hbb.size hB ?_
        clear hb hB
        intro w10 hTa' hb hB hg
        replace hTb := hTb.other hg (by omega)
        clear hTa hbb hg
        go_wp2_with fail
        refine (HB2.out _).stepB (w0 := w) (B := w.heap.size) hTb hb hB (by omega) ?_
        clear hb hB
        intro w11 hTb' hb hB hg
        replace hTa' := hTa'.other hg (by omega)
        clear hTb hg
        have a0 := fun d os => cell_regrown hTa'.c0 d os
        have a1 := fun d os => cell_regrown hTb'.c0 d os
        have a2 := fun d os => cell_regrown ((hb.cell (p := ⟨b, off, none⟩) hbl).trans HX0.out) d os
        clear hTa' hTb'
        go_wp2_with fail
        refine wp_region_quiet_below (by kernel_rfl) (by kernel_rfl) ?_
        repeat (first | go_big_quiet_skip | (go_big_quiet_want; go_big_quiet_op; first | go_big_quiet_on | (apply Exists.intro; refine ⟨fun _ => ?_, ?_⟩; (go_at_call 7; exact Calls.regrown_of (awake_calls _)); go_big_quiet_on)))
        refine wpQuiet_nil ?_
        rintro w12 ⟨p, hw12⟩
        have hbq : Below w11.heap.size w11 w12 := hw12 ▸ below_regrown w11 p.d p.os
        clear hw12
        go_wp2
        go_ret
        exact ⟨ret_bool (by simp), hb.trans (hbq.mono hB)⟩

set_option maxHeartbeats 1000000 in
theorem stepsBack_calls {w : World} {v : Value} {l : List Int} (h : IntsIn w v l) (hr : InR l) (q : Int) (more : ByteArray) : GivesAt Try.prog 4 #[v, .int .i64 q, .string more] w (.bool true) := by
  by_cases hgo : l.length ≤ 300 ∧ more.size ≤ 100
  · exact stepsBack_short h hr q more hgo.1 hgo.2
  · obtain ⟨hb, hB⟩ := start w
    obtain ⟨A, cap, rfl, _⟩ := one_at h
    clear h
    unfold GivesAt
    by_cases hl : l.length ≤ 300
    · have d1 : decide (300 < (l.length : Int)) = false := by rw [decide_eq_false_iff_not]; omega
      have d2 : decide (100 < (more.size : Int)) = true := by rw [decide_eq_true_eq]; have : ¬ more.size ≤ 100 := fun h => hgo ⟨hl, h⟩; omega
      clear hgo
      go_enter Try.func4, Try.ntmps4
      go_wp2_with (go_at_call 7; refine awake_calls.step (w0 := w) (B := w.heap.size) hb hB ?_; clear hb hB; intro w' hb hB)
      go_ret
      exact ⟨rfl, hb⟩
    · have d1 : decide (300 < (l.length : Int)) = true := by rw [decide_eq_true_eq]; omega
      clear hgo
      go_enter Try.func4, Try.ntmps4
      go_wp2_with (go_at_call 7; refine awake_calls.step (w0 := w) (B := w.heap.size) hb hB ?_; clear hb hB; intro w' hb hB)
      go_ret
      exact ⟨rfl, hb⟩
end Go.Proofs.Ytbpigfpkcflbkaa
