/- The contracts of the library's Clone at terms, and of layer 15's own Shift. -/
import Derived.Test.YtppmmkmlngmafaaTermOwnA
import Derived.Test.YtppmmkmlngmafaaTermShiftRef
namespace Go.Proofs.Ytppmmkmlngmafaa
open Go Go.RowKit

theorem term_eval_calls {row : List ByteArray} (t : Trm) {w : World} {v rv : Value} (ht : TermIn w v t) (hr : StrsIn w rv row) : GivesAt Try.prog 13 #[v, rv] w (.string (evalT row t)) := own_eval_calls t w v rv ht hr
theorem term_size_calls (t : Trm) {w : World} {v : Value} (ht : TermIn w v t) : GivesAt Try.prog 15 #[v] w (.int .i64 (wrap64 (sizeT t : Nat))) := own_size_calls t w v ht

theorem clone_cells4 {w : World} {v : Value} {n : Nat} {xs : List Value} (h : SliceOf w 4 v n xs) : ∃ A c, v = .slice A n c ∧ (A = none → n = 0) := by
  obtain ⟨A, c, e, hat⟩ := h.at_
  refine ⟨A, c, e, fun h0 => ?_⟩
  rcases Nat.eq_zero_or_pos n with hn | hn
  · exact hn
  · obtain ⟨b, off, e1, _⟩ := hat hn
    rw [h0] at e1; cases e1
set_option maxHeartbeats 1000000 in
theorem clone_terms_calls {w : World} {v : Value} {n : Nat} {xs : List Value} (h : SliceOf w 4 v n xs) (h1 : ∀ u ∈ xs, u.oneCell' = true) (hl : n ≤ 1000000) : Calls Try.prog 24 #[v] w fun e w' => ∃ A p, e = .returned (.slice A n p) ∧ Own w' w.heap.size 4 (.slice A n p) n xs ∧ Below w.heap.size w w' := by
  obtain ⟨i0, hi, hz0, hz1, hz2⟩ := info_parts Try.infoCe24
  obtain ⟨hb, hB⟩ := start w
  obtain ⟨A, c, rfl, hat⟩ := clone_cells4 h
  have H := Lib.hid h
  have H1 := Lib.hid h1
  clear h1
  have q22 : ∀ (w : World) (a : Option Addr) (n c n' c' : Nat), (binOp .eql 22 (.slice a n c) (.slice none n' c')).run Try.prog w = .ok (.bool a.isNone) w := fun w a n c n' c' => Lib.run_eql_slice_nil w _ _ a n c n' c' Try.underlying22
  cases A with
  | none =>
    have h0 := hat rfl
    subst h0
    have hx : xs = [] := List.eq_nil_of_length_eq_zero (by have := h.1; omega)
    subst hx
    clear hat h
    go_enter Try.func24, Try.ntmps24
    go_wp2
    go_ret
    exact ⟨_, _, rfl, Own.nil_ _ _ _, hb⟩
  | some ad =>
    clear hat h
    go_enter Try.func24, Try.ntmps24
    go_wp2_with (at_builtin; refine wpList_append_src rfl (.tmp 5) (.tmp 6) 22 rfl 24 i0 (.agg #[.int .u8 0, .int .i64 0, .string ⟨#[]⟩, .slice none 0 0]) 4 56 Try.underlying22 hi hz0 hz1 hz2 rfl (by decide) (B := w.heap.size) _ 0 [] rfl (own_empty 4 (Nat.le_refl _) (by simp)) _ n xs rfl (SliceOf.alloc H.out _) H1.out (by unfold maxLen; omega) (by omega) (by simp) ?_)
    intro v7 w7 hO7 hg7 _
    have hb7 := boxed_below hg7
    have hO : Own w7 w.heap.size 4 v7 n xs := by simpa using hO7
    clear hO7 hg7 hb hB
    obtain ⟨A9, p9, rfl⟩ := hO.len
    have HO := Lib.hid hO
    clear hO
    go_wp2
    go_ret
    exact ⟨_, _, rfl, HO.out, hb7⟩

theorem one_trms {Q : Value → Prop} {w : World} {tv : List (Value × Trm)} (h : ∀ t ∈ tv, okT t.2 ∧ KidsQ Q w t.1 t.2.kids) : ∀ u ∈ trmsV tv, u.oneCell' = true := by
  intro u hu
  unfold trmsV at hu
  rw [List.mem_flatMap] at hu
  obtain ⟨t, ht, hu⟩ := hu
  exact one_trm (h t ht).2 u hu
theorem trmsV_set : ∀ (tv : List (Value × Trm)) (j : Nat) (t : Value × Trm), j < tv.length → ((((trmsV tv).set (j * 4) (.int .u8 t.2.op)).set (j * 4 + 1) (.int .i64 t.2.col)).set (j * 4 + 2) (.string t.2.cell)).set (j * 4 + 3) t.1 = trmsV (tv.set j t)
  | [], j, t, h => absurd h (by simp)
  | x :: tv, 0, t, _ => rfl
  | x :: tv, j + 1, t, h => by
    have e : (j + 1) * 4 = j * 4 + 4 := by omega
    have ih := trmsV_set tv j t (by simpa using h)
    rw [e]
    show _ :: _ :: _ :: _ :: ((((trmsV tv).set (j * 4) (.int .u8 t.2.op)).set (j * 4 + 1) (.int .i64 t.2.col)).set (j * 4 + 2) (.string t.2.cell)).set (j * 4 + 3) t.1 = _
    rw [ih]
    rfl
/-- What the parts' slice is, so many of them changed. -/
def ShiftS (B : Nat) (wr : World) (kv : Value) (tv0 : List (Value × Trm)) (l : List Trm) (j : Nat) : Prop :=
  ∃ tn : List (Value × Trm), tn.length = j ∧ tn.map Prod.snd = l ∧ Own wr B 4 kv tv0.length (trmsV (tn ++ tv0.drop j)) ∧ ∀ t ∈ tn, okT t.2 ∧ KidsQ (fun u => Fresh B u ∧ RowOff kv u) wr t.1 t.2.kids
section
variable {B : Nat} {w w' : World} {kv : Value} {tv0 : List (Value × Trm)} {l : List Trm} {j : Nat}
theorem ShiftS.begin (h : Own w B 4 kv tv0.length (trmsV tv0)) : ShiftS B w kv tv0 [] 0 := ⟨[], rfl, rfl, h, fun t ht => absurd ht (by simp)⟩
theorem ShiftS.later (h : ShiftS B w kv tv0 l j) (hb : Below w.heap.size w w') : ShiftS B w' kv tv0 l j := by
  obtain ⟨tn, h1, h2, h3, h4⟩ := h
  exact ⟨tn, h1, h2, h3.later hb, fun t ht => ⟨(h4 t ht).1, (h4 t ht).2.kept hb⟩⟩
theorem ShiftS.lt (h : ShiftS B w kv tv0 l j) : ∀ k, kv.ownBlock = some k → B ≤ k ∧ k < w.heap.size := by
  obtain ⟨tn, _, _, h3, _⟩ := h
  exact h3.lt
/-- The next part's cells. -/
theorem ShiftS.at_ {A : Option Addr} {n p : Nat} (h : ShiftS B w (.slice A n p) tv0 l j) (hj : j < tv0.length) : ∃ g off, A = some ⟨g, off, none⟩ ∧ B ≤ g ∧ g < w.heap.size ∧
    (w.cell? ⟨g, off + j * 4, none⟩ = some (.int .u8 tv0[j].2.op) ∧ w.cell? ⟨g, off + j * 4 + 1, none⟩ = some (.int .i64 tv0[j].2.col) ∧ w.cell? ⟨g, off + j * 4 + 2, none⟩ = some (.string tv0[j].2.cell) ∧ w.cell? ⟨g, off + j * 4 + 3, none⟩ = some tv0[j].1) ∧
    (w.frozen? ⟨g, off + j * 4, none⟩ = false ∧ w.frozen? ⟨g, off + j * 4 + 1, none⟩ = false ∧ w.frozen? ⟨g, off + j * 4 + 2, none⟩ = false ∧ w.frozen? ⟨g, off + j * 4 + 3, none⟩ = false) := by
  obtain ⟨tn, h1, _, h3, _⟩ := h
  have hne : tv0.length ≠ 0 := by omega
  obtain ⟨hs, hm, h⟩ := h3
  rcases h with ⟨_, h0⟩ | ⟨g, off, cap, e, k1, k2, k3, k4, k5⟩
  · exact absurd h0 hne
  injection e with e1 e2 e3
  have hl : j < (tn ++ tv0.drop j).length := by simp; omega
  have he : (tn ++ tv0.drop j)[j]'hl = tv0[j] := by
    rw [List.getElem_append_right (by omega)]
    simp [h1]
  have hv := trmsV_get (tn ++ tv0.drop j) j hl
  rw [he] at hv
  refine ⟨g, off, e1, k1, k2, ⟨k4 _ _ hv.1, ?_, ?_, ?_⟩, ⟨(k5 (j * 4) (by omega)).2, ?_, ?_, ?_⟩⟩
  · rw [Nat.add_assoc]; exact k4 _ _ hv.2.1
  · rw [Nat.add_assoc]; exact k4 _ _ hv.2.2.1
  · rw [Nat.add_assoc]; exact k4 _ _ hv.2.2.2
  · rw [Nat.add_assoc]; exact (k5 (j * 4 + 1) (by omega)).2
  · rw [Nat.add_assoc]; exact (k5 (j * 4 + 2) (by omega)).2
  · rw [Nat.add_assoc]; exact (k5 (j * 4 + 3) (by omega)).2
theorem set4_grown (w : World) (g o : Nat) (a b c d : Value) : w.grownBy ((((w.setCell ⟨g, o, none⟩ a).setCell ⟨g, o + 1, none⟩ b).setCell ⟨g, o + 2, none⟩ c).setCell ⟨g, o + 3, none⟩ d) (some g) := by
  have := setCells_grown g [a, b, c, d] o w
  simpa [World.setCells, Nat.add_assoc] using this
/-- The next part, changed. -/
theorem ShiftS.next {g off n p : Nat} (h : ShiftS B w (.slice (some ⟨g, off, none⟩) n p) tv0 l j) (hj : j < tv0.length) (hn : n = tv0.length) {t : Value × Trm} (hok : okT t.2) (hk : KidsQ (fun u => Fresh B u ∧ RowOff (.slice (some ⟨g, off, none⟩) n p) u) w t.1 t.2.kids) :
    ShiftS B ((((w.setCell ⟨g, off + j * 4, none⟩ (.int .u8 t.2.op)).setCell ⟨g, off + j * 4 + 1, none⟩ (.int .i64 t.2.col)).setCell ⟨g, off + j * 4 + 2, none⟩ (.string t.2.cell)).setCell ⟨g, off + j * 4 + 3, none⟩ t.1) (.slice (some ⟨g, off, none⟩) n p) tv0 (l ++ [t.2]) (j + 1) := by
  subst hn
  obtain ⟨tn, h1, h2, h3, h4⟩ := h
  have hg := set4_grown w g (off + j * 4) (.int .u8 t.2.op) (.int .i64 t.2.col) (.string t.2.cell) t.1
  have s1 := Own.stored (Own.stored (Own.stored (Own.stored h3 (j * 4) (by omega) (.int .u8 t.2.op)) (j * 4 + 1) (by omega) (.int .i64 t.2.col)) (j * 4 + 2) (by omega) (.string t.2.cell)) (j * 4 + 3) (by omega) t.1
  simp only [← Nat.add_assoc] at s1
  have hl : j < (tn ++ tv0.drop j).length := by simp; omega
  rw [trmsV_set _ _ _ hl] at s1
  have e : (tn ++ tv0.drop j).set j t = (tn ++ [t]) ++ tv0.drop (j + 1) := by
    rw [List.set_append_right _ _ (by omega), h1, Nat.sub_self, List.drop_eq_getElem_cons hj, List.set_cons_zero, List.append_assoc]
    rfl
  rw [e] at s1
  refine ⟨tn ++ [t], by rw [List.length_append, h1]; rfl, by rw [List.map_append, h2]; rfl, s1, fun u hu => ?_⟩
  rcases List.mem_append.1 hu with hu | hu
  · exact ⟨(h4 u hu).1, (h4 u hu).2.off (fun x hx => hx.2) hg⟩
  · rw [List.mem_singleton.1 hu]; exact ⟨hok, hk.off (fun x hx => hx.2) hg⟩
/-- A box from before is written. -/
theorem ShiftS.beside {c : Nat} (h : ShiftS B w kv tv0 l j) (hc : c < B) (hg : w.grownBy w' (some c)) : ShiftS B w' kv tv0 l j := by
  obtain ⟨tn, h1, h2, h3, h4⟩ := h
  refine ⟨tn, h1, h2, h3.other hg fun k hk e => by have := (h3.lt k hk).1; simp only [Option.some.injEq] at e; omega, fun t ht => ⟨(h4 t ht).1, (h4 t ht).2.off (v := .slice (some ⟨c, 0, none⟩) 1 1) (fun u hu => RowOff.of_fresh hu.1 fun k hk => by simp only [Value.ownBlock, Option.some.injEq] at hk; omega) hg⟩⟩
theorem ShiftS.done (h : ShiftS B w kv tv0 l tv0.length) : KidsQ (Fresh B) w kv l := by
  obtain ⟨tn, h1, h2, h3, h4⟩ := h
  have hf : Fresh B kv := fun k hk => (h3.lt k hk).1
  rw [List.drop_length, List.append_nil] at h3
  subst h2
  refine KidsQ.of tn rfl hf ?_ fun t ht => ⟨(h4 t ht).1, (h4 t ht).2.mono fun _ hu => hu.1⟩
  rw [List.length_map, h1]
  exact h3.slice
end

def OwnShiftAt (to : List Int) (t : Trm) : Prop := FewT t → ∀ (w : World) (v tov : Value), TermIn w v t → IntsIn w tov to → Calls Try.prog 11 #[v, tov] w (ShiftEnd w (shiftT to t))
set_option maxHeartbeats 8000000 in
theorem own_shift_calls {to : List Int} (hto : ∀ x ∈ to, -9223372036854775808 ≤ x ∧ x ≤ 9223372036854775807) (t : Trm) : OwnShiftAt to t := by
  refine Trm.ind (P := OwnShiftAt to) (fun t ih => ?_) t
  intro hf w v tov ht hv
  obtain ⟨op, col, cell, ks⟩ := t
  obtain ⟨kv, rfl, ho, hk⟩ := ht
  have HIH : Hid (∀ k (hk : k ∈ ks), ∀ (w : World) (v tov : Value), TermIn w v k → IntsIn w tov to → Calls Try.prog 11 #[v, tov] w (ShiftEnd w (shiftT to k))) := fun k hk => ih k hk (by cases hf with | mk _ h2 => exact h2 k hk)
  have hm : ks.length ≤ 1000 := by cases hf with | mk h1 _ => exact h1
  have hmt := hv.len
  unfold maxLen at hmt
  replace hk : KidsIn w kv ks := hk
  obtain ⟨tv0, hks, -, hsl, htv⟩ := hk.parts
  have hlen : ks.length = tv0.length := by rw [← hks, List.length_map]
  rw [hlen] at hsl hm
  obtain ⟨A, cap, rfl, -⟩ := clone_cells4 hsl
  obtain ⟨At, pt, rfl, hatt⟩ := one_at hv
  have HSL := Lib.hid hsl
  have HTV0 := Lib.hid htv
  have HKS := Lib.hid hks
  have HATT := Lib.hid hatt
  have HV := Lib.hid hv
  have HOK : Hid (0 ≤ op ∧ op ≤ 255) := ⟨ho.1, ho.2.1⟩
  have HCOL : Hid (-9223372036854775808 ≤ col ∧ col ≤ 9223372036854775807) := ho.2.2
  have HTO := Lib.hid hto
  have HCE : Hid (∀ x, colT to op col = some x → ∀ l, shiftTs to ks = some l → shiftT to (.mk op col cell ks) = some (.mk op x cell l)) := fun x h l h2 => shift_some (t := .mk op col cell ks) h h2
  have HCN : Hid (colT to op col = none → shiftT to (.mk op col cell ks) = none) := fun h => shift_none (t := .mk op col cell ks) h
  have HSN : Hid (shiftTs to ks = none → shiftT to (.mk op col cell ks) = none) := fun h => shift_stop (t := .mk op col cell ks) h
  dsimp only [trmA, Trm.op, Trm.col, Trm.cell, Trm.kids]
  generalize shiftT to (.mk op col cell ks) = res at *
  have HLEN := Lib.hid hlen
  clear ho hk hatt hv ih hf hto hks hsl htv hlen
  by_cases h99 : op = 99
  · subst h99
    by_cases h0 : 0 ≤ col
    · obtain ⟨c, rfl⟩ : ∃ c : Nat, col = c := ⟨col.toNat, by omega⟩
      by_cases h1 : c < to.length
      · have d1 : decide ((to.length : Int) ≤ (c : Int)) = false := decide_eq_false (by omega)
        have i1 : (c : Int) < (to.length : Int) := by omega
        have dn1 : decide (to.length ≤ c) = false := decide_eq_false (by omega)
        have dz : decide ((c : Int) < 0) = false := decide_eq_false (by omega)
        obtain ⟨b9, off9, ea, hb9, hc9⟩ := HATT.out c h1
        subst ea
        have c9 := hc9 c h1
        by_cases h2 : 0 ≤ to[c]
        · have HCT : Hid (colT to 99 (c : Int) = some to[c]) := toT_some h1 h2
          have HCB := Lib.hid (HTO.out to[c] (List.getElem_mem h1))
          have d2 : decide (to[c] < 0) = false := decide_eq_false (by omega)
          have X9 := Lib.hid c9
          clear hc9 c9
          generalize to[c] = nc at *
          have ha1 := Below.alloc (.refl w.heap.size w) (Nat.le_refl _) (.cells #[.int .u8 99, .int .i64 nc, .string cell, .slice A tv0.length cap] 24)
          have ha2 := ha1.alloc ha1.size (.cells #[.int .u8 0, .int .i64 0, .string ⟨#[]⟩, .slice none 0 0] 24)
          have HB3 := Lib.hid ha2
          have hs1 : (w.alloc (.cells #[.int .u8 99, .int .i64 nc, .string cell, .slice A tv0.length cap] 24)).heap.size = w.heap.size + 1 := by simp
          have hx := trmbox_lit w 24 99 nc cell (.slice A tv0.length cap)
          have hr := trmbox_lit (w.alloc (.cells #[.int .u8 99, .int .i64 nc, .string cell, .slice A tv0.length cap] 24)) 24 0 0 ⟨#[]⟩ (.slice none 0 0)
          rw [hs1] at hr
          have HX := Lib.hid (hx.later (Below.alloc (.refl _ _) (Nat.le_refl _) (.cells #[.int .u8 0, .int .i64 0, .string ⟨#[]⟩, .slice none 0 0] 24)))
          have HR := Lib.hid hr
          have HS3 : Hid (((w.alloc (.cells #[.int .u8 99, .int .i64 nc, .string cell, .slice A tv0.length cap] 24)).alloc (.cells #[.int .u8 0, .int .i64 0, .string ⟨#[]⟩, .slice none 0 0] 24)).heap.size = w.heap.size + 2) := Lib.hid (by simp)
          have x9 := (Below.cell (Below.alloc (.refl w.heap.size w) (Nat.le_refl _) (.cells #[.int .u8 99, .int .i64 (c : Int), .string cell, .slice A tv0.length cap] 24)) (p := ⟨b9, off9 + c, none⟩) hb9).trans X9.out
          have x8 := (Below.cell ((Below.alloc (.refl w.heap.size w) (Nat.le_refl _) (.cells #[.int .u8 99, .int .i64 (c : Int), .string cell, .slice A tv0.length cap] 24)).alloc (by simp) (.cells #[.int .u8 0, .int .i64 0, .string ⟨#[]⟩, .slice none 0 0] 24)) (p := ⟨b9, off9 + c, none⟩) hb9).trans X9.out
          clear ha1 ha2 hs1 hx hr
          go_enter Try.func11, Try.ntmps11
          go_wp2_with fail
          clear x9 x8
          generalize World.alloc (World.alloc w _) _ = w4 at *
          refine (clone_terms_calls (SliceOf.later HSL.out HB3.out) (one_trms HTV0.out) (by omega)).mono ?_
          rintro e w5 ⟨A5, p5, rfl, hO, hq⟩
          rw [HS3.out] at hO
          have hx5 := HX.out.later hq
          obtain ⟨y0, y1, y2, y3, _⟩ := hx5.cells
          obtain ⟨f0, f1, f2, f3⟩ := hx5.free
          have hg5 := setCells_grown w.heap.size [.slice A5 tv0.length p5] 3 w5
          simp only [World.setCells] at hg5
          have HX6 := Lib.hid (hx5.put3 (.slice A5 tv0.length p5))
          have HR6 := Lib.hid ((HR.out.later hq).other hg5 (by simp only [ne_eq, Option.some.injEq]; omega))
          have HSS : Hid (ShiftS (w.heap.size + 2) (w5.setCell ⟨w.heap.size, 3, none⟩ (.slice A5 tv0.length p5)) (.slice A5 tv0.length p5) tv0 [] 0) := Lib.hid ((ShiftS.begin hO).beside (by omega) hg5)
          have HB6 := Lib.hid ((HB3.out.trans (hq.mono HB3.out.size)).setCell (p := ⟨w.heap.size, 3, none⟩) (by show w.heap.size ≤ w.heap.size; omega) (.slice A5 tv0.length p5))
          have HSZ6 : Hid (w.heap.size + 2 ≤ (w5.setCell ⟨w.heap.size, 3, none⟩ (.slice A5 tv0.length p5)).heap.size) := Lib.hid (Nat.le_trans (Nat.le_trans (Nat.le_of_eq HS3.out.symm) hq.size) hg5.size)
          clear hx5 hg5 hO hq HX HR HB3 HS3 y0 y1 y2 f1 f2 f0
          go_wp2
          clear y3 f3
          generalize World.setCell w5 _ _ = w6 at *
          go_loopw [45] (fun i wr => ∃ (j : Nat) (l : List Trm), j ≤ tv0.length ∧ i = .int .i64 j ∧ Hid (shiftTs to (ks.take j) = some l) ∧ Hid (ShiftS (w.heap.size + 2) wr (.slice A5 tv0.length p5) tv0 l j) ∧ Hid (TrmBox wr (w.heap.size + 1) 0 0 ⟨#[]⟩ (.slice none 0 0)) ∧ Hid (TrmBox wr w.heap.size 99 nc cell (.slice A5 tv0.length p5)) ∧ Below w.heap.size w wr ∧ Hid (w.heap.size + 2 ≤ wr.heap.size)) (fun i _ => tv0.length - (intOf i).toNat)
          case atStart => exact ⟨0, [], Nat.zero_le _, rfl, by rw [List.take_zero, shiftTs]; exact Lib.hid rfl, HSS.out, HR6.out, HX6.out, HB6.out, HSZ6.out⟩
          case round =>
            obtain ⟨j, l, hj, rfl, HSH, HSS, HR, HX, hb, HSZ⟩ := hrel
            by_cases hlt : j < tv0.length
            · obtain ⟨g, off, ea, hg1, hg2, ⟨x0, x1, x2, x3⟩, ⟨f0, f1, f2, f3⟩⟩ := HSS.out.at_ hlt
              subst ea
              have hjk : j < ks.length := by have := HLEN.out; omega
              have HKJ : Hid (tv0[j].2 = ks[j]) := by
                have := HKS.out
                subst this
                exact Lib.hid (by rw [List.getElem_map])
              have hkk := (HTV0.out tv0[j] (List.getElem_mem hlt)).2
              have hok := (HTV0.out tv0[j] (List.getElem_mem hlt)).1
              obtain ⟨Ak, pk, ek, -⟩ := kids_at hkk
              rw [ek] at x3 hkk
              have HC : Hid (∀ W, Below w.heap.size w W → Calls Try.prog 11 #[trmA (.slice Ak tv0[j].2.kids.length pk, tv0[j].2), .slice (some ⟨b9, off9, none⟩) to.length pt] W (ShiftEnd W (shiftT to ks[j]))) := fun W hW => HIH.out ks[j] (List.getElem_mem hjk) W _ _ ⟨_, by rw [HKJ.out], HKJ.out ▸ hok, HKJ.out ▸ hkk.kept hW⟩ (HV.out.kept hW)
              have i0 : (0 : Int) ≤ (j : Int) := by omega
              have i1 : (j : Int) < (tv0.length : Int) := by omega
              have HST : Hid (∀ x, shiftT to ks[j] = some x → shiftTs to (ks.take (j + 1)) = some (l ++ [x])) := fun x hx => shiftTs_step hjk HSH.out hx
              have HSP : Hid (shiftT to ks[j] = none → res = none) := fun hx => HSN.out (shiftTs_stop hjk hx)
              dsimp only [trmA] at HC
              clear hkk hok ek
              generalize shiftT to ks[j] = sr at *
              have hq1 := Below.alloc (.refl wr.heap.size wr) (Nat.le_refl _) (.cells #[.int .u8 tv0[j].2.op, .int .i64 tv0[j].2.col, .string tv0[j].2.cell, .slice Ak tv0[j].2.kids.length pk] 24)
              have HQ1 := Lib.hid hq1
              have HB1 := Lib.hid (hb.trans (hq1.mono hb.size))
              have HB := Lib.hid hb
              clear hq1 hb hjk HKJ
              generalize tv0[j].2.kids.length = nk at *
              generalize tv0[j].2.op = ok1 at *
              generalize tv0[j].2.col = ok2 at *
              generalize tv0[j].2.cell = ok3 at *
              go_wp2_with fail
              generalize World.alloc wr _ = w7 at *
              refine (HC.out _ HB1.out).mono ?_
              clear x0 x1 x2 x3 f0 f1 f2 f3
              cases sr with
              | none =>
                have HN : Hid (res = none) := HSP.out rfl
                rintro e w8 ⟨rfl, hq⟩
                have hq8 := HQ1.out.trans (hq.mono HQ1.out.size)
                have hq9 := hq8.trans ((Below.alloc (.refl w8.heap.size w8) (Nat.le_refl _) (.cells #[.int .u8 0, .int .i64 0, .string ⟨#[]⟩, .slice none 0 0] 24)).mono hq8.size)
                have hr := HR.out.later hq9
                obtain ⟨r0, r1, r2, r3, _⟩ := hr.cells
                obtain ⟨f0, f1, f2, f3⟩ := hr.free
                have HP := Lib.hid (hr.putAll 0 0 ⟨#[]⟩ (.slice none 0 0))
                have hbe := HB.out.trans (hq9.mono HB.out.size)
                have HBE := Lib.hid ((((hbe.setCell (p := ⟨w.heap.size + 1, 0, none⟩) (by show w.heap.size ≤ w.heap.size + 1; omega) (.int .u8 0)).setCell (p := ⟨w.heap.size + 1, 1, none⟩) (by show w.heap.size ≤ w.heap.size + 1; omega) (.int .i64 0)).setCell (p := ⟨w.heap.size + 1, 2, none⟩) (by show w.heap.size ≤ w.heap.size + 1; omega) (.string ⟨#[]⟩)).setCell (p := ⟨w.heap.size + 1, 3, none⟩) (by show w.heap.size ≤ w.heap.size + 1; omega) (.slice none 0 0))
                clear hr hq hq8 hq9 hbe
                go_wp2
                obtain ⟨g0, g1, g2, g3, _⟩ := HP.out.cells
                refine ⟨rfl, .tuple #[.agg #[.int .u8 0, .int .i64 0, .string ⟨#[]⟩, .slice none 0 0], .bool false], ?_, ?_⟩
                · simp [results, Try.results11, go_sem, g0, g1, g2, g3]
                · rw [HN.out]; exact ⟨rfl, HBE.out⟩
              | some x =>
                obtain ⟨xo, xc, xb, xk⟩ := x
                have HST2 := Lib.hid (HST.out _ rfl)
                rintro e w8 ⟨v5, rfl, ⟨kx, rfl, okx, hkx⟩, hq⟩
                replace hkx : KidsQ (Fresh w7.heap.size) w8 kx xk := hkx
                have HOX := Lib.hid okx
                have hq8 := HQ1.out.trans (hq.mono HQ1.out.size)
                have ha8 := Below.alloc (.refl w8.heap.size w8) (Nat.le_refl _) (.cells #[.int .u8 xo, .int .i64 xc, .string xb, kx] 24)
                have hq9 := hq8.trans (ha8.mono hq8.size)
                have hS9 := HSS.out.later hq9
                have hx9 := HX.out.later hq9
                have hk9 := (hkx.mono (Q' := fun u => Fresh (w.heap.size + 2) u ∧ RowOff (.slice (some ⟨g, off, none⟩) tv0.length p5) u) fun u hu => ⟨hu.mono (Nat.le_trans HSZ.out HQ1.out.size), RowOff.of_fresh hu fun k hk => by simp only [Value.ownBlock, Option.some.injEq] at hk; have := HQ1.out.size; omega⟩).kept ha8
                have hN := Lib.hid (hS9.next (t := (kx, .mk xo xc xb xk)) hlt rfl okx hk9)
                have hg9 := set4_grown (w8.alloc (.cells #[.int .u8 xo, .int .i64 xc, .string xb, kx] 24)) g (off + j * 4) (.int .u8 xo) (.int .i64 xc) (.string xb) kx
                have HR9 := Lib.hid ((HR.out.later hq9).other hg9 (by simp only [ne_eq, Option.some.injEq]; omega))
                have HX9 := Lib.hid (hx9.other hg9 (by simp only [ne_eq, Option.some.injEq]; omega))
                have hb9 := HB.out.trans (hq9.mono HB.out.size)
                have HB9 := Lib.hid (hb9.grown hg9 hb9.size fun q hq => by simp only [Option.some.injEq] at hq; omega)
                have HSZ9 := Lib.hid (Nat.le_trans (Nat.le_trans HSZ.out hq9.size) hg9.size)
                obtain ⟨_, _, ea, _, _, ⟨z0, z1, z2, z3⟩, ⟨f0, f1, f2, f3⟩⟩ := hS9.at_ hlt
                simp only [Option.some.injEq, Addr.mk.injEq, and_true] at ea
                obtain ⟨rfl, rfl⟩ := ea
                obtain ⟨y0, y1, y2, y3, _⟩ := hx9.cells
                obtain ⟨Ax, px, rfl, -⟩ := kids_at hkx
                obtain ⟨Az, pz, ez, -⟩ := kids_at (HTV0.out tv0[j] (List.getElem_mem hlt)).2
                rw [ez] at z3
                dsimp only [trmA, Trm.op, Trm.col, Trm.cell, Trm.kids] at hN HR9 HX9 HB9 HSZ9 ⊢
                clear hkx hk9 hS9 hx9 hg9 hb9 hq9 hq8 ha8 hq okx ez HC HIH HQ1 HB1 HB
                generalize xk.length = nx at *
                generalize tv0[j].2.kids.length = nz at *
                generalize tv0[j].2.op = nz1 at *
                generalize tv0[j].2.col = nz2 at *
                generalize tv0[j].2.cell = nz3 at *
                go_wp2
                go_roundw
                case rel => exact ⟨j + 1, l ++ [.mk xo xc xb xk], by omega, by go_num, HST2, hN, HR9.out, HX9.out, HB9.out, HSZ9.out⟩
                case measure => simp [intOf]; omega
            · obtain rfl : j = tv0.length := by omega
              rw [List.take_of_length_le (by have := HLEN.out; omega)] at HSH
              have HRES : Hid (res = some (.mk 99 nc cell l)) := HCE.out nc HCT.out l HSH.out
              obtain ⟨z0, z1, z2, z3, _⟩ := HX.out.cells
              obtain ⟨r0, r1, r2, r3, _⟩ := HR.out.cells
              obtain ⟨f0, f1, f2, f3⟩ := HR.out.free
              have HP := Lib.hid (HR.out.putAll 99 nc cell (.slice A5 tv0.length p5))
              have hg := setCells_grown (w.heap.size + 1) [.int .u8 99, .int .i64 nc, .string cell, .slice A5 tv0.length p5] 0 wr
              simp only [World.setCells, Nat.zero_add, Nat.reduceAdd] at hg
              have HK := Lib.hid ((HSS.out.beside (by omega) hg).done.mono (Q' := Fresh w.heap.size) fun u hu => hu.mono (by omega))
              have HBE := Lib.hid ((((hb.setCell (p := ⟨w.heap.size + 1, 0, none⟩) (by show w.heap.size ≤ w.heap.size + 1; omega) (.int .u8 99)).setCell (p := ⟨w.heap.size + 1, 1, none⟩) (by show w.heap.size ≤ w.heap.size + 1; omega) (.int .i64 nc)).setCell (p := ⟨w.heap.size + 1, 2, none⟩) (by show w.heap.size ≤ w.heap.size + 1; omega) (.string cell)).setCell (p := ⟨w.heap.size + 1, 3, none⟩) (by show w.heap.size ≤ w.heap.size + 1; omega) (.slice A5 tv0.length p5))
              have HOK2 : Hid (okT (.mk 99 nc cell l)) := ⟨HOK.out.1, HOK.out.2, HCB.out.1, HCB.out.2⟩
              clear hg hb HSS HR HX HSZ
              go_wp2
              obtain ⟨g0, g1, g2, g3, _⟩ := HP.out.cells
              refine ⟨rfl, .tuple #[trmA (.slice A5 tv0.length p5, .mk 99 nc cell l), .bool true], ?_, ?_⟩
              · simp [results, Try.results11, go_sem, trmA, Trm.op, Trm.col, Trm.cell, g0, g1, g2, g3]
              · rw [HRES.out]; exact ⟨_, rfl, ⟨_, rfl, HOK2.out, HK.out⟩, HBE.out⟩
        · have HN : Hid (res = none) := HCN.out (toT_below h1 (by omega))
          have d2 : decide (to[c] < 0) = true := decide_eq_true (by omega)
          clear hc9
          generalize to[c] = nc at *
          have x8 := (Below.cell ((Below.alloc (.refl w.heap.size w) (Nat.le_refl _) (.cells #[.int .u8 99, .int .i64 (c : Int), .string cell, .slice A tv0.length cap] 24)).alloc (by simp) (.cells #[.int .u8 0, .int .i64 0, .string ⟨#[]⟩, .slice none 0 0] 24)) (p := ⟨b9, off9 + c, none⟩) hb9).trans c9
          clear c9
          go_enter Try.func11, Try.ntmps11
          go_wp2
          refine ⟨rfl, .tuple #[.agg #[.int .u8 0, .int .i64 0, .string ⟨#[]⟩, .slice none 0 0], .bool false], ?_, ?_⟩
          · simp [results, Try.results11, go_sem]
          · rw [HN.out]; exact ⟨rfl, by go_grown⟩
      · have HN : Hid (res = none) := HCN.out (toT_none (by omega))
        have d1 : decide ((to.length : Int) ≤ (c : Int)) = true := decide_eq_true (by omega)
        have dn1 : decide (to.length ≤ c) = true := decide_eq_true (by omega)
        have dz : decide ((c : Int) < 0) = false := decide_eq_false (by omega)
        go_enter Try.func11, Try.ntmps11
        go_wp2
        refine ⟨rfl, .tuple #[.agg #[.int .u8 0, .int .i64 0, .string ⟨#[]⟩, .slice none 0 0], .bool false], ?_, ?_⟩
        · simp [results, Try.results11, go_sem]
        · rw [HN.out]; exact ⟨rfl, by go_grown⟩
    · have HN : Hid (res = none) := HCN.out (toT_none (by omega))
      have d0 : decide (col < 0) = true := decide_eq_true (by omega)
      go_enter Try.func11, Try.ntmps11
      go_wp2
      refine ⟨rfl, .tuple #[.agg #[.int .u8 0, .int .i64 0, .string ⟨#[]⟩, .slice none 0 0], .bool false], ?_, ?_⟩
      · simp [results, Try.results11, go_sem]
      · rw [HN.out]; exact ⟨rfl, by go_grown⟩
  · have HCT : Hid (colT to op col = some col) := if_neg h99
    have e99 : (op == 99) = false := by simp [h99]
    have HCB := HCOL
    clear h99
    have ha1 := Below.alloc (.refl w.heap.size w) (Nat.le_refl _) (.cells #[.int .u8 op, .int .i64 col, .string cell, .slice A tv0.length cap] 24)
    have ha2 := ha1.alloc ha1.size (.cells #[.int .u8 0, .int .i64 0, .string ⟨#[]⟩, .slice none 0 0] 24)
    have HB3 := Lib.hid ha2
    have hs1 : (w.alloc (.cells #[.int .u8 op, .int .i64 col, .string cell, .slice A tv0.length cap] 24)).heap.size = w.heap.size + 1 := by simp
    have hx := trmbox_lit w 24 op col cell (.slice A tv0.length cap)
    have hr := trmbox_lit (w.alloc (.cells #[.int .u8 op, .int .i64 col, .string cell, .slice A tv0.length cap] 24)) 24 0 0 ⟨#[]⟩ (.slice none 0 0)
    rw [hs1] at hr
    have HX := Lib.hid (hx.later (Below.alloc (.refl _ _) (Nat.le_refl _) (.cells #[.int .u8 0, .int .i64 0, .string ⟨#[]⟩, .slice none 0 0] 24)))
    have HR := Lib.hid hr
    have HS3 : Hid (((w.alloc (.cells #[.int .u8 op, .int .i64 col, .string cell, .slice A tv0.length cap] 24)).alloc (.cells #[.int .u8 0, .int .i64 0, .string ⟨#[]⟩, .slice none 0 0] 24)).heap.size = w.heap.size + 2) := Lib.hid (by simp)
    clear ha1 ha2 hs1 hx hr
    go_enter Try.func11, Try.ntmps11
    go_wp2_with fail
    generalize World.alloc (World.alloc w _) _ = w4 at *
    refine (clone_terms_calls (SliceOf.later HSL.out HB3.out) (one_trms HTV0.out) (by omega)).mono ?_
    rintro e w5 ⟨A5, p5, rfl, hO, hq⟩
    rw [HS3.out] at hO
    have hx5 := HX.out.later hq
    obtain ⟨y0, y1, y2, y3, _⟩ := hx5.cells
    obtain ⟨f0, f1, f2, f3⟩ := hx5.free
    have hg5 := setCells_grown w.heap.size [.slice A5 tv0.length p5] 3 w5
    simp only [World.setCells] at hg5
    have HX6 := Lib.hid (hx5.put3 (.slice A5 tv0.length p5))
    have HR6 := Lib.hid ((HR.out.later hq).other hg5 (by simp only [ne_eq, Option.some.injEq]; omega))
    have HSS : Hid (ShiftS (w.heap.size + 2) (w5.setCell ⟨w.heap.size, 3, none⟩ (.slice A5 tv0.length p5)) (.slice A5 tv0.length p5) tv0 [] 0) := Lib.hid ((ShiftS.begin hO).beside (by omega) hg5)
    have HB6 := Lib.hid ((HB3.out.trans (hq.mono HB3.out.size)).setCell (p := ⟨w.heap.size, 3, none⟩) (by show w.heap.size ≤ w.heap.size; omega) (.slice A5 tv0.length p5))
    have HSZ6 : Hid (w.heap.size + 2 ≤ (w5.setCell ⟨w.heap.size, 3, none⟩ (.slice A5 tv0.length p5)).heap.size) := Lib.hid (Nat.le_trans (Nat.le_trans (Nat.le_of_eq HS3.out.symm) hq.size) hg5.size)
    clear hx5 hg5 hO hq HX HR HB3 HS3 y0 y1 y2 f1 f2 f0
    go_wp2
    clear y3 f3
    generalize World.setCell w5 _ _ = w6 at *
    go_loopw [45] (fun i wr => ∃ (j : Nat) (l : List Trm), j ≤ tv0.length ∧ i = .int .i64 j ∧ Hid (shiftTs to (ks.take j) = some l) ∧ Hid (ShiftS (w.heap.size + 2) wr (.slice A5 tv0.length p5) tv0 l j) ∧ Hid (TrmBox wr (w.heap.size + 1) 0 0 ⟨#[]⟩ (.slice none 0 0)) ∧ Hid (TrmBox wr w.heap.size op col cell (.slice A5 tv0.length p5)) ∧ Below w.heap.size w wr ∧ Hid (w.heap.size + 2 ≤ wr.heap.size)) (fun i _ => tv0.length - (intOf i).toNat)
    case atStart => exact ⟨0, [], Nat.zero_le _, rfl, by rw [List.take_zero, shiftTs]; exact Lib.hid rfl, HSS.out, HR6.out, HX6.out, HB6.out, HSZ6.out⟩
    case round =>
      obtain ⟨j, l, hj, rfl, HSH, HSS, HR, HX, hb, HSZ⟩ := hrel
      by_cases hlt : j < tv0.length
      · obtain ⟨g, off, ea, hg1, hg2, ⟨x0, x1, x2, x3⟩, ⟨f0, f1, f2, f3⟩⟩ := HSS.out.at_ hlt
        subst ea
        have hjk : j < ks.length := by have := HLEN.out; omega
        have HKJ : Hid (tv0[j].2 = ks[j]) := by
          have := HKS.out
          subst this
          exact Lib.hid (by rw [List.getElem_map])
        have hkk := (HTV0.out tv0[j] (List.getElem_mem hlt)).2
        have hok := (HTV0.out tv0[j] (List.getElem_mem hlt)).1
        obtain ⟨Ak, pk, ek, -⟩ := kids_at hkk
        rw [ek] at x3 hkk
        have HC : Hid (∀ W, Below w.heap.size w W → Calls Try.prog 11 #[trmA (.slice Ak tv0[j].2.kids.length pk, tv0[j].2), .slice At to.length pt] W (ShiftEnd W (shiftT to ks[j]))) := fun W hW => HIH.out ks[j] (List.getElem_mem hjk) W _ _ ⟨_, by rw [HKJ.out], HKJ.out ▸ hok, HKJ.out ▸ hkk.kept hW⟩ (HV.out.kept hW)
        have i0 : (0 : Int) ≤ (j : Int) := by omega
        have i1 : (j : Int) < (tv0.length : Int) := by omega
        have HST : Hid (∀ x, shiftT to ks[j] = some x → shiftTs to (ks.take (j + 1)) = some (l ++ [x])) := fun x hx => shiftTs_step hjk HSH.out hx
        have HSP : Hid (shiftT to ks[j] = none → res = none) := fun hx => HSN.out (shiftTs_stop hjk hx)
        dsimp only [trmA] at HC
        clear hkk hok ek
        generalize shiftT to ks[j] = sr at *
        have hq1 := Below.alloc (.refl wr.heap.size wr) (Nat.le_refl _) (.cells #[.int .u8 tv0[j].2.op, .int .i64 tv0[j].2.col, .string tv0[j].2.cell, .slice Ak tv0[j].2.kids.length pk] 24)
        have HQ1 := Lib.hid hq1
        have HB1 := Lib.hid (hb.trans (hq1.mono hb.size))
        have HB := Lib.hid hb
        clear hq1 hb hjk HKJ
        generalize tv0[j].2.kids.length = nk at *
        generalize tv0[j].2.op = ok1 at *
        generalize tv0[j].2.col = ok2 at *
        generalize tv0[j].2.cell = ok3 at *
        go_wp2_with fail
        generalize World.alloc wr _ = w7 at *
        refine (HC.out _ HB1.out).mono ?_
        clear x0 x1 x2 x3 f0 f1 f2 f3
        cases sr with
        | none =>
          have HN : Hid (res = none) := HSP.out rfl
          rintro e w8 ⟨rfl, hq⟩
          have hq8 := HQ1.out.trans (hq.mono HQ1.out.size)
          have hq9 := hq8.trans ((Below.alloc (.refl w8.heap.size w8) (Nat.le_refl _) (.cells #[.int .u8 0, .int .i64 0, .string ⟨#[]⟩, .slice none 0 0] 24)).mono hq8.size)
          have hr := HR.out.later hq9
          obtain ⟨r0, r1, r2, r3, _⟩ := hr.cells
          obtain ⟨f0, f1, f2, f3⟩ := hr.free
          have HP := Lib.hid (hr.putAll 0 0 ⟨#[]⟩ (.slice none 0 0))
          have hbe := HB.out.trans (hq9.mono HB.out.size)
          have HBE := Lib.hid ((((hbe.setCell (p := ⟨w.heap.size + 1, 0, none⟩) (by show w.heap.size ≤ w.heap.size + 1; omega) (.int .u8 0)).setCell (p := ⟨w.heap.size + 1, 1, none⟩) (by show w.heap.size ≤ w.heap.size + 1; omega) (.int .i64 0)).setCell (p := ⟨w.heap.size + 1, 2, none⟩) (by show w.heap.size ≤ w.heap.size + 1; omega) (.string ⟨#[]⟩)).setCell (p := ⟨w.heap.size + 1, 3, none⟩) (by show w.heap.size ≤ w.heap.size + 1; omega) (.slice none 0 0))
          clear hr hq hq8 hq9 hbe
          go_wp2
          obtain ⟨g0, g1, g2, g3, _⟩ := HP.out.cells
          refine ⟨rfl, .tuple #[.agg #[.int .u8 0, .int .i64 0, .string ⟨#[]⟩, .slice none 0 0], .bool false], ?_, ?_⟩
          · simp [results, Try.results11, go_sem, g0, g1, g2, g3]
          · rw [HN.out]; exact ⟨rfl, HBE.out⟩
        | some x =>
          obtain ⟨xo, xc, xb, xk⟩ := x
          have HST2 := Lib.hid (HST.out _ rfl)
          rintro e w8 ⟨v5, rfl, ⟨kx, rfl, okx, hkx⟩, hq⟩
          replace hkx : KidsQ (Fresh w7.heap.size) w8 kx xk := hkx
          have HOX := Lib.hid okx
          have hq8 := HQ1.out.trans (hq.mono HQ1.out.size)
          have ha8 := Below.alloc (.refl w8.heap.size w8) (Nat.le_refl _) (.cells #[.int .u8 xo, .int .i64 xc, .string xb, kx] 24)
          have hq9 := hq8.trans (ha8.mono hq8.size)
          have hS9 := HSS.out.later hq9
          have hx9 := HX.out.later hq9
          have hk9 := (hkx.mono (Q' := fun u => Fresh (w.heap.size + 2) u ∧ RowOff (.slice (some ⟨g, off, none⟩) tv0.length p5) u) fun u hu => ⟨hu.mono (Nat.le_trans HSZ.out HQ1.out.size), RowOff.of_fresh hu fun k hk => by simp only [Value.ownBlock, Option.some.injEq] at hk; have := HQ1.out.size; omega⟩).kept ha8
          have hN := Lib.hid (hS9.next (t := (kx, .mk xo xc xb xk)) hlt rfl okx hk9)
          have hg9 := set4_grown (w8.alloc (.cells #[.int .u8 xo, .int .i64 xc, .string xb, kx] 24)) g (off + j * 4) (.int .u8 xo) (.int .i64 xc) (.string xb) kx
          have HR9 := Lib.hid ((HR.out.later hq9).other hg9 (by simp only [ne_eq, Option.some.injEq]; omega))
          have HX9 := Lib.hid (hx9.other hg9 (by simp only [ne_eq, Option.some.injEq]; omega))
          have hb9 := HB.out.trans (hq9.mono HB.out.size)
          have HB9 := Lib.hid (hb9.grown hg9 hb9.size fun q hq => by simp only [Option.some.injEq] at hq; omega)
          have HSZ9 := Lib.hid (Nat.le_trans (Nat.le_trans HSZ.out hq9.size) hg9.size)
          obtain ⟨_, _, ea, _, _, ⟨z0, z1, z2, z3⟩, ⟨f0, f1, f2, f3⟩⟩ := hS9.at_ hlt
          simp only [Option.some.injEq, Addr.mk.injEq, and_true] at ea
          obtain ⟨rfl, rfl⟩ := ea
          obtain ⟨y0, y1, y2, y3, _⟩ := hx9.cells
          obtain ⟨Ax, px, rfl, -⟩ := kids_at hkx
          obtain ⟨Az, pz, ez, -⟩ := kids_at (HTV0.out tv0[j] (List.getElem_mem hlt)).2
          rw [ez] at z3
          dsimp only [trmA, Trm.op, Trm.col, Trm.cell, Trm.kids] at hN HR9 HX9 HB9 HSZ9 ⊢
          clear hkx hk9 hS9 hx9 hg9 hb9 hq9 hq8 ha8 hq okx ez HC HIH HQ1 HB1 HB
          generalize xk.length = nx at *
          generalize tv0[j].2.kids.length = nz at *
          generalize tv0[j].2.op = nz1 at *
          generalize tv0[j].2.col = nz2 at *
          generalize tv0[j].2.cell = nz3 at *
          go_wp2
          go_roundw
          case rel => exact ⟨j + 1, l ++ [.mk xo xc xb xk], by omega, by go_num, HST2, hN, HR9.out, HX9.out, HB9.out, HSZ9.out⟩
          case measure => simp [intOf]; omega
      · obtain rfl : j = tv0.length := by omega
        rw [List.take_of_length_le (by have := HLEN.out; omega)] at HSH
        have HRES : Hid (res = some (.mk op col cell l)) := HCE.out col HCT.out l HSH.out
        obtain ⟨z0, z1, z2, z3, _⟩ := HX.out.cells
        obtain ⟨r0, r1, r2, r3, _⟩ := HR.out.cells
        obtain ⟨f0, f1, f2, f3⟩ := HR.out.free
        have HP := Lib.hid (HR.out.putAll op col cell (.slice A5 tv0.length p5))
        have hg := setCells_grown (w.heap.size + 1) [.int .u8 op, .int .i64 col, .string cell, .slice A5 tv0.length p5] 0 wr
        simp only [World.setCells, Nat.zero_add, Nat.reduceAdd] at hg
        have HK := Lib.hid ((HSS.out.beside (by omega) hg).done.mono (Q' := Fresh w.heap.size) fun u hu => hu.mono (by omega))
        have HBE := Lib.hid ((((hb.setCell (p := ⟨w.heap.size + 1, 0, none⟩) (by show w.heap.size ≤ w.heap.size + 1; omega) (.int .u8 op)).setCell (p := ⟨w.heap.size + 1, 1, none⟩) (by show w.heap.size ≤ w.heap.size + 1; omega) (.int .i64 col)).setCell (p := ⟨w.heap.size + 1, 2, none⟩) (by show w.heap.size ≤ w.heap.size + 1; omega) (.string cell)).setCell (p := ⟨w.heap.size + 1, 3, none⟩) (by show w.heap.size ≤ w.heap.size + 1; omega) (.slice A5 tv0.length p5))
        have HOK2 : Hid (okT (.mk op col cell l)) := ⟨HOK.out.1, HOK.out.2, HCB.out.1, HCB.out.2⟩
        clear hg hb HSS HR HX HSZ
        go_wp2
        obtain ⟨g0, g1, g2, g3, _⟩ := HP.out.cells
        refine ⟨rfl, .tuple #[trmA (.slice A5 tv0.length p5, .mk op col cell l), .bool true], ?_, ?_⟩
        · simp [results, Try.results11, go_sem, trmA, Trm.op, Trm.col, Trm.cell, g0, g1, g2, g3]
        · rw [HRES.out]; exact ⟨_, rfl, ⟨_, rfl, HOK2.out, HK.out⟩, HBE.out⟩
theorem term_shift_calls {to : List Int} (hto : ∀ x ∈ to, -9223372036854775808 ≤ x ∧ x ≤ 9223372036854775807) (t : Trm) (hf : FewT t) {w : World} {v tov : Value} (ht : TermIn w v t) (hv : IntsIn w tov to) : Calls Try.prog 11 #[v, tov] w (ShiftAny w (shiftT to t)) :=
  (own_shift_calls hto t hf w v tov ht hv).mono fun _ _ h => h.any
end Go.Proofs.Ytppmmkmlngmafaa
