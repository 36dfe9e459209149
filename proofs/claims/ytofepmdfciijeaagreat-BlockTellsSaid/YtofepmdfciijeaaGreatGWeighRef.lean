/- The contracts of the answer's Same and Whole of layer 10. -/
import Derived.Test.YtofepmdfciijeaaGreatGStrs
import Derived.Test.YtofepmdfciijeaaGreatGTimes
import Derived.Lib.QuietBelow
import Derived.Deep.RegionLaw
import Derived.StillTailTactics
import Derived.Deep.RegionWith
/- The contracts of the answer's Whole, Right and Find of layer 10. -/
namespace Go.Proofs.YtofepmdfciijeaaGreat
open Go Go.RowKit

def wholeW (l : List Tm) : Bool := l.all fun t => decide (0 ≤ t.2)
instance (l : List Tm) : Decidable (RightP l) := by unfold RightP; infer_instance
def rightW (l : List Tm) : Bool := decide (RightP l)
theorem wholeW_no {l : List Tm} {t : Tm} (ht : t ∈ l) (h : t.2 < 0) : wholeW l = false := by
  cases hw : wholeW l with
  | false => rfl
  | true =>
    unfold wholeW at hw
    rw [List.all_eq_true] at hw
    have := hw t ht
    rw [decide_eq_true_eq] at this; omega
theorem wholeW_yes {l : List Tm} (h : ∀ t ∈ l, 0 ≤ t.2) : wholeW l = true := by
  unfold wholeW
  rw [List.all_eq_true]
  intro t ht
  rw [decide_eq_true_eq]; exact h t ht
theorem right_next {l : List Tm} {k : Nat} (h : k < l.length) (hr : RightP (l.take k)) (hn : l[k].2 ≠ 0) (hc : ∀ j (hj : j + 1 = k), cmpL (l[j]'(by omega)).1 l[k].1 = -1) : RightP (l.take (k + 1)) := by
  rw [take_add l k h]
  refine ⟨List.pairwise_append.2 ⟨hr.1, List.pairwise_singleton _ _, fun a ha b hb => ?_⟩, fun t ht => ?_⟩
  · rw [List.mem_singleton.1 hb]
    obtain ⟨i, hi, rfl⟩ := List.mem_iff_getElem.1 ha
    rw [List.length_take] at hi
    rw [List.getElem_take]
    obtain ⟨j, rfl⟩ : ∃ j, k = j + 1 := ⟨k - 1, by omega⟩
    have h1 := hc j rfl
    by_cases hij : i = j
    · subst hij; exact h1
    · have h2 := List.pairwise_iff_getElem.1 hr.1 i j (by rw [List.length_take]; omega) (by rw [List.length_take]; omega) (by omega)
      rw [List.getElem_take, List.getElem_take] at h2
      exact cmpL_chain _ _ _ h2 h1
  · rcases List.mem_append.1 ht with ht | ht
    · exact hr.2 t ht
    · rw [List.mem_singleton.1 ht]; exact hn
theorem right_zero {l : List Tm} {t : Tm} (ht : t ∈ l) (h : t.2 = 0) : rightW l = false := decide_eq_false fun hr => hr.2 t ht h
theorem right_order {l : List Tm} {j : Nat} (h : j + 1 < l.length) (hc : ¬ cmpL (l[j]'(by omega)).1 (l[j + 1]).1 = -1) : rightW l = false :=
  decide_eq_false fun hr => hc (List.pairwise_iff_getElem.1 hr.1 j (j + 1) (by omega) h (by omega))

end Go.Proofs.YtofepmdfciijeaaGreat
/- The contract of the answer's Minus of layer 10. -/
namespace Go.Proofs.YtofepmdfciijeaaGreat
open Go Go.RowKit

theorem Tryz.infoM40 : (Tryz.prog.info? 40).map (fun i => (i.zero, i.size, i.bytes)) = some (some (.agg #[.slice none 0 0, .int .i64 0]), 2, 32) := by kernel_rfl
def negT (t : Value × Int) : Value × Int := (t.1, -t.2)
theorem neg_step {tv : List (Value × Int)} {k : Nat} {rv : Value} {n : Int} (h : tv[k]? = some (rv, n)) : timesV ((tv.take (k + 1)).map negT) = timesV ((tv.take k).map negT) ++ [rv, .int .i64 (-n)] := by
  obtain ⟨hk, e⟩ := List.getElem?_eq_some_iff.1 h
  rw [take_add tv k hk, e, List.map_append, timesV_append]; rfl
/-- A literal of one row. -/
theorem lit_tm (w : World) (T : TypeId) (rv : Value) (n : Int) : SliceOf (w.alloc (.cells #[rv, .int .i64 n] T)) 2 (.slice (some ⟨w.heap.size, 0, none⟩) 1 1) 1 [rv, .int .i64 n] :=
  (Own.lit (B := 0) (size := 2) w #[rv, .int .i64 n] T 1 (Nat.zero_le _) (by unfold maxLen; omega) rfl).slice
theorem one_tm {w : World} {rv : Value} {row : List ByteArray} (h : StrsIn w rv row) (n : Int) : ∀ u ∈ [rv, .int .i64 n], u.oneCell' = true := by
  intro u hu
  simp only [List.mem_cons, List.not_mem_nil, or_false] at hu
  rcases hu with rfl | rfl
  · obtain ⟨A, c, e, _⟩ := h.at_
    rw [e]; rfl
  · rfl

end Go.Proofs.YtofepmdfciijeaaGreat
/- The contract of the answer's Put of layer 10. -/
namespace Go.Proofs.YtofepmdfciijeaaGreat
open Go Go.RowKit

/-- Where a row belongs: all ahead of the place stand ahead of it. -/
def Ahead (l : List Tm) (row : List ByteArray) (k : Nat) : Prop := ∀ (j : Nat) (h : j < l.length), j < k → cmpL l[j].1 row = -1
theorem Ahead.next {l : List Tm} {row : List ByteArray} {k : Nat} (h : Ahead l row k) (hk : k < l.length) (hc : cmpL l[k].1 row = -1) : Ahead l row (k + 1) := by
  intro j hj hjk
  by_cases e : j = k
  · subst e; exact hc
  · exact h j hj (by omega)
theorem put_end : ∀ (l : List Tm) (x : Tm), Ahead l x.1 l.length → putW l x = l ++ (if x.2 = 0 then [] else [x])
  | [], x, _ => by unfold putW; split <;> rfl
  | t :: l, x, h => by
    have h0 := h 0 (by simp) (by simp)
    have ih := put_end l x (fun j hj hk => by have := h (j + 1) (by simpa using hj) (by simpa using hj); simpa using this)
    unfold putW
    rw [if_pos (by simpa using h0), ih]; rfl
theorem put_same : ∀ (l : List Tm) (x : Tm) (k : Nat) (hk : k < l.length), Ahead l x.1 k → l[k].1 = x.1 → putW l x = l.take k ++ (if x.2 + l[k].2 = 0 then [] else [(x.1, x.2 + l[k].2)]) ++ l.drop (k + 1)
  | [], _, k, hk, _, _ => absurd hk (by simp)
  | t :: l, x, 0, _, _, e => by
    have e' : t.1 = x.1 := e
    unfold putW
    rw [if_neg (by rw [e', cmpL_self]; decide), if_pos e']
    show (if x.2 + t.2 = 0 then l else (x.1, x.2 + t.2) :: l) = [] ++ (if x.2 + t.2 = 0 then [] else [(x.1, x.2 + t.2)]) ++ l
    split <;> rfl
  | t :: l, x, k + 1, hk, h, e => by
    have h0 := h 0 (by simp) (by omega)
    have ih := put_same l x k (by simpa using hk) (fun j hj hk => by have := h (j + 1) (by simpa using hj) (by omega); simpa using this) (by simpa using e)
    unfold putW
    rw [if_pos (by simpa using h0), ih]; rfl
theorem put_here : ∀ (l : List Tm) (x : Tm) (k : Nat) (hk : k < l.length), Ahead l x.1 k → ¬ cmpL l[k].1 x.1 = -1 → l[k].1 ≠ x.1 → putW l x = l.take k ++ (if x.2 = 0 then [] else [x]) ++ l.drop k
  | [], _, k, hk, _, _, _ => absurd hk (by simp)
  | t :: l, x, 0, _, _, hc, e => by
    have e' : ¬ t.1 = x.1 := e
    have hc' : ¬ cmpL t.1 x.1 = -1 := hc
    unfold putW
    rw [if_neg hc', if_neg e']
    show (if x.2 = 0 then t :: l else x :: t :: l) = [] ++ (if x.2 = 0 then [] else [x]) ++ (t :: l)
    split <;> rfl
  | t :: l, x, k + 1, hk, h, hc, e => by
    have h0 := h 0 (by simp) (by omega)
    have ih := put_here l x k (by simpa using hk) (fun j hj hk => by have := h (j + 1) (by simpa using hj) (by omega); simpa using this) (by simpa using hc) (by simpa using e)
    unfold putW
    rw [if_pos (by simpa using h0), ih]; rfl

/-- The box of a row: its cells, which may be written. -/
def BoxOf (w : World) (B : Nat) (rv : Value) (n : Int) : Prop := Own w B 2 (.slice (some ⟨B, 0, none⟩) 1 1) 1 [rv, .int .i64 n]
theorem BoxOf.cells {w : World} {B : Nat} {rv : Value} {n : Int} (h : BoxOf w B rv n) : w.cell? ⟨B, 0, none⟩ = some rv ∧ w.cell? ⟨B, 1, none⟩ = some (.int .i64 n) ∧ w.frozen? ⟨B, 1, none⟩ = false ∧ B < w.heap.size := by
  obtain ⟨_, h2, _, hc, hr⟩ := Own.parts h
  have e0 := hc 0 _ rfl
  have e1 := hc 1 _ rfl
  have e2 := (hr 1 (by decide)).2
  rw [Nat.zero_add] at e1 e2
  exact ⟨e0, e1, e2, h2⟩
theorem BoxOf.later {w w' : World} {B : Nat} {rv : Value} {n : Int} (h : BoxOf w B rv n) (hb : Below w.heap.size w w') : BoxOf w' B rv n := Own.later h hb
theorem BoxOf.stored {w : World} {B : Nat} {rv : Value} {n : Int} (h : BoxOf w B rv n) (m : Int) : BoxOf (w.setCell ⟨B, 1, none⟩ (.int .i64 m)) B rv m := by
  have := Own.stored h 1 (by decide) (.int .i64 m)
  rwa [Nat.zero_add] at this
theorem box_tm (w : World) (T : TypeId) (rv : Value) (n : Int) : BoxOf (w.alloc (.cells #[rv, .int .i64 n] T)) w.heap.size rv n :=
  Own.lit (size := 2) w #[rv, .int .i64 n] T 1 (Nat.le_refl _) (by unfold maxLen; omega) rfl
theorem times_cells {w : World} {A : Option Addr} {cap : Nat} {tv : List (Value × Int)} {l : List Tm} (h1 : SliceOf w 2 (.slice A l.length cap) l.length (timesV tv)) (h2 : RowsOf w tv l) (k : Nat) (hk : k < l.length) :
    ∃ b off, A = some ⟨b, off, none⟩ ∧ b < w.heap.size ∧ ∃ rv, StrsIn w rv l[k].1 ∧ tv[k]? = some (rv, l[k].2) ∧ w.cell? ⟨b, off + k * 2, none⟩ = some rv ∧ w.cell? ⟨b, off + k * 2 + 1, none⟩ = some (.int .i64 l[k].2) := by
  obtain ⟨A', c', e, h4⟩ := h1.at_
  cases e
  obtain ⟨b, off, ea, hb, hc⟩ := h4 (by omega)
  have hl := h2.length
  have hg := h2.get k (by omega) hk
  have hv := timesV_get tv k (by omega)
  refine ⟨b, off, ea, hb, tv[k].1, hg.1, ?_, hc _ _ hv.1, ?_⟩
  · rw [List.getElem?_eq_getElem (by omega), ← hg.2]
  · rw [← hg.2]; exact hc _ _ hv.2

end Go.Proofs.YtofepmdfciijeaaGreat
/- The contract of the answer's Right of layer 10. -/
namespace Go.Proofs.YtofepmdfciijeaaGreat
open Go Go.RowKit

end Go.Proofs.YtofepmdfciijeaaGreat
namespace Go.Proofs.YtofepmdfciijeaaGreat
open Go Go.RowKit

theorem take_eq_step {α : Type} {a b : List α} {k : Nat} (h1 : k < a.length) (h2 : k < b.length) (h : a.take k = b.take k) (e : a[k] = b[k]) : a.take (k + 1) = b.take (k + 1) := by
  rw [take_add a k h1, take_add b k h2, h, e]

set_option maxHeartbeats 2000000 in
theorem same_times {w : World} {va vb : Value} {a b : List Tm} (ha : TimesIn w va a) (hb : TimesIn w vb b) (hla : a.length ≤ 1000000) (ra : ∀ t ∈ a, t.1.length ≤ 1000000) (rb : ∀ t ∈ b, t.1.length ≤ 1000000) :
    GivesAt Tryz.prog 12 #[va, vb] w (.bool (decide (a = b))) := by
  have hg := (start w).1
  obtain ⟨tva, A, ca, rfl, _, hata⟩ := times_at ha
  obtain ⟨tvb, B, cb, rfl, _, hatb⟩ := times_at hb
  have HA := Lib.hid hata
  have HB := Lib.hid hatb
  have HRA := Lib.hid ra
  have HRB := Lib.hid rb
  clear ha hb hata hatb ra rb
  unfold GivesAt
  by_cases hl : a.length = b.length
  · have d1 : ((a.length : Int) == (b.length : Int)) = true := by rw [beq_iff_eq]; omega
    have hle : b.length = a.length := hl.symm
    have HL := Lib.hid hl
    clear hl
    go_enter Tryz.func12, Tryz.ntmps12
    rw [hle] at d1 ⊢
    clear hle
    go_wp2
    go_loopw [5] (fun i wr => ∃ k : Nat, k ≤ a.length ∧ i = .int .i64 k ∧ Hid (a.take k = b.take k) ∧ Below w.heap.size w wr) (fun i _ => a.length - (intOf i).toNat)
    case atStart => exact ⟨0, by omega, rfl, show a.take 0 = b.take 0 from rfl, hg⟩
    case round =>
      clear hg
      obtain ⟨k, hk, rfl, HE, hg⟩ := hrel
      by_cases hlt : k < a.length
      · have hlt2 : k < b.length := by have := HL.out; omega
        obtain ⟨b1, o1, rfl, hl1, hc1⟩ := HA.out k hlt
        obtain ⟨b2, o2, rfl, hl2, hc2⟩ := HB.out k hlt2
        obtain ⟨r1, s1, _, c11, c12⟩ := hc1 k hlt
        obtain ⟨r2, s2, _, c21, c22⟩ := hc2 k hlt2
        have x11 := (hg.cell (p := ⟨b1, o1 + k * 2, none⟩) hl1).trans c11
        have x12 := (hg.cell (p := ⟨b1, o1 + k * 2 + 1, none⟩) hl1).trans c12
        have x21 := (hg.cell (p := ⟨b2, o2 + k * 2, none⟩) hl2).trans c21
        have x22 := (hg.cell (p := ⟨b2, o2 + k * 2 + 1, none⟩) hl2).trans c22
        have hs : ∀ w', Below wr.heap.size wr w' → GivesAt _ _ #[r1, r2] w' _ := fun w' hw => same_strs (StrsIn.kept (StrsIn.kept s1 hg) hw) (StrsIn.kept (StrsIn.kept s2 hg) hw) (HRA.out _ (List.getElem_mem hlt)) (HRB.out _ (List.getElem_mem hlt2))
        have HST := Lib.hid (take_eq_step hlt hlt2 HE.out)
        have hne : a[k] ≠ b[k] → ¬ a = b := by intro h e; subst e; exact h rfl
        have a11 := fun d os => cell_regrown x11 d os
        have a12 := fun d os => cell_regrown x12 d os
        have a21 := fun d os => cell_regrown x21 d os
        have a22 := fun d os => cell_regrown x22 d os
        clear hc1 hc2 c11 c12 c21 c22 s1 s2 x11 x12 x21 x22
        generalize a[k] = x at *
        generalize b[k] = y at *
        obtain ⟨xr, xn⟩ := x
        obtain ⟨yr, yn⟩ := y
        dsimp only at *
        by_cases hn : xn = yn
        · subst hn
          have d2 : (xn == xn) = true := by simp
          have d3 : (xn != xn) = false := by simp
          by_cases hr : xr = yr
          · have HQ : Hid (∀ w', Below wr.heap.size wr w' → GivesAt Tryz.prog 32 #[r1, r2] w' (.bool true)) := by
              intro w' hw; have := hs w' hw; rwa [decide_eq_true hr] at this
            have HI := Lib.hid (HST.out (by rw [hr]))
            clear hs hr hne HST
            go_wp2
            refine wp_region_quiet_below (by kernel_rfl) (by kernel_rfl) ?_
            repeat (first | go_big_quiet_skip | (go_big_quiet_want; go_big_quiet_op; first | go_big_quiet_on | (apply Exists.intro; refine ⟨fun _ => ?_, ?_⟩; (first | (go_at_call 32; exact Calls.regrown_of (HQ.out _ (below_regrown wr _ _)))); go_big_quiet_on)))
            refine wpQuiet_nil ?_
            rintro w3 ⟨p, hw3⟩
            have hb2 : Below wr.heap.size wr w3 := hw3 ▸ below_regrown wr p.d p.os
            clear hw3 a11 a12 a21 a22 HQ
            replace hg := hg.trans (hb2.mono hg.size)
            clear hb2
            go_wp2
            go_roundw
            case rel => exact ⟨k + 1, by omega, by go_num, HI, hg⟩
            case measure => simp [intOf]; omega
          · have HQ : Hid (∀ w', Below wr.heap.size wr w' → GivesAt Tryz.prog 32 #[r1, r2] w' (.bool false)) := by
              intro w' hw; have := hs w' hw; rwa [decide_eq_false hr] at this
            have HD := Lib.hid (show decide (a = b) = false by rw [decide_eq_false_iff_not]; exact hne (fun e => hr (congrArg Prod.fst e)))
            clear hs hr hne HST
            go_wp2
            refine wp_region_quiet_below (by kernel_rfl) (by kernel_rfl) ?_
            repeat (first | go_big_quiet_skip | (go_big_quiet_want; go_big_quiet_op; first | go_big_quiet_on | (apply Exists.intro; refine ⟨fun _ => ?_, ?_⟩; (first | (go_at_call 32; exact Calls.regrown_of (HQ.out _ (below_regrown wr _ _)))); go_big_quiet_on)))
            refine wpQuiet_nil ?_
            rintro w3 ⟨p, hw3⟩
            have hb2 : Below wr.heap.size wr w3 := hw3 ▸ below_regrown wr p.d p.os
            clear hw3 a11 a12 a21 a22 HQ
            replace hg := hg.trans (hb2.mono hg.size)
            clear hb2
            go_wp2
            go_ret
            exact ⟨ret_bool HD.out.symm, hg⟩
        · have d2 : (xn == yn) = false := by rw [beq_eq_false_iff_ne]; exact hn
          have d3 : (xn != yn) = true := by rw [bne_iff_ne]; exact hn
          have HD := Lib.hid (show decide (a = b) = false by rw [decide_eq_false_iff_not]; exact hne (fun e => hn (congrArg Prod.snd e)))
          have HQ := Lib.hid hs
          clear hs hne HST hn
          go_wp2
          refine wp_region_quiet_below (by kernel_rfl) (by kernel_rfl) ?_
          repeat (first | go_big_quiet_skip | (go_big_quiet_want; go_big_quiet_op; first | go_big_quiet_on | (apply Exists.intro; refine ⟨fun _ => ?_, ?_⟩; (first | (go_at_call 32; exact Calls.regrown_of (HQ.out _ (below_regrown wr _ _)))); go_big_quiet_on)))
          refine wpQuiet_nil ?_
          rintro w3 ⟨p, hw3⟩
          have hb2 : Below wr.heap.size wr w3 := hw3 ▸ below_regrown wr p.d p.os
          clear hw3 a11 a12 a21 a22 HQ
          replace hg := hg.trans (hb2.mono hg.size)
          clear hb2
          go_wp2
          go_ret
          exact ⟨ret_bool HD.out.symm, hg⟩
      · obtain rfl : k = a.length := by omega
        have HD : Hid (decide (a = b) = true) := by
          show _ = _
          rw [decide_eq_true_eq]
          have := HE.out
          rwa [List.take_length, List.take_of_length_le (by have := HL.out; omega)] at this
        go_wp2
        go_ret
        exact ⟨ret_bool HD.out.symm, hg⟩
  · have d1 : ((a.length : Int) == (b.length : Int)) = false := by rw [beq_eq_false_iff_ne]; omega
    have HD := Lib.hid (show decide (a = b) = false by rw [decide_eq_false_iff_not]; intro e; exact hl (by rw [e]))
    go_enter Tryz.func12, Tryz.ntmps12
    go_wp2
    go_ret
    exact ⟨ret_bool HD.out.symm, hg⟩
end Go.Proofs.YtofepmdfciijeaaGreat
