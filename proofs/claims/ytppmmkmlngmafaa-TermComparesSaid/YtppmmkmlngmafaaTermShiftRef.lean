/- The contract of layer 15's answer: Shift. -/
import Derived.Test.YtppmmkmlngmafaaTermsOwn
import Derived.Test.YtppmmkmlngmafaaTermRefB
namespace Go.Proofs.Ytppmmkmlngmafaa
open Go Go.RowKit

theorem Try.infoCe24 : (Try.prog.info? 24).map (fun i => (i.zero, i.size, i.bytes)) = some (some (.agg #[.int .u8 0, .int .i64 0, .string ⟨#[]⟩, .slice none 0 0]), 4, 56) := by kernel_rfl
/-- No part has many parts. -/
inductive FewT : Trm → Prop
  | mk {t : Trm} : t.kids.length ≤ 1000 → (∀ k ∈ t.kids, FewT k) → FewT t
/-- How Shift ends. -/
def ShiftEnd (w : World) (r : Option Trm) (e : Ending) (w' : World) : Prop := match r with
  | some t' => ∃ v', e = .returned (.tuple #[v', .bool true]) ∧ TermQ (Fresh w.heap.size) w' v' t' ∧ Below w.heap.size w w'
  | none => e = .returned (.tuple #[.agg #[.int .u8 0, .int .i64 0, .string ⟨#[]⟩, .slice none 0 0], .bool false]) ∧ Below w.heap.size w w'
/-- The same, of whatever memory. -/
def ShiftAny (w : World) (r : Option Trm) (e : Ending) (w' : World) : Prop := match r with
  | some t' => ∃ v', e = .returned (.tuple #[v', .bool true]) ∧ TermIn w' v' t' ∧ Below w.heap.size w w'
  | none => e = .returned (.tuple #[.agg #[.int .u8 0, .int .i64 0, .string ⟨#[]⟩, .slice none 0 0], .bool false]) ∧ Below w.heap.size w w'
theorem ShiftEnd.any {w w' : World} {r : Option Trm} {e : Ending} (h : ShiftEnd w r e w') : ShiftAny w r e w' := by
  cases r with
  | none => exact h
  | some t =>
    obtain ⟨v, he, ht, hb⟩ := h
    exact ⟨v, he, ht.any, hb⟩
def RefShiftAt (to : List Int) (t : Trm) : Prop := FewT t → ∀ (w : World) (v tov : Value), TermIn w v t → IntsIn w tov to → Calls Try.prog 12 #[v, tov] w (ShiftEnd w (shiftT to t))
theorem toT_none {to : List Int} {c : Int} (h : ¬ (0 ≤ c ∧ c < to.length)) : toT to c = none := if_neg h
theorem toT_below {to : List Int} {c : Nat} (h : c < to.length) (hn : to[c] < 0) : toT to c = none := by
  unfold toT
  rw [if_pos ⟨by omega, by omega⟩, List.getD_eq_getElem?_getD, Int.toNat_natCast, List.getElem?_eq_getElem h]
  exact if_neg (by show ¬ 0 ≤ to[c]; omega)
theorem toT_some {to : List Int} {c : Nat} (h : c < to.length) (hn : 0 ≤ to[c]) : toT to c = some to[c] := by
  unfold toT
  rw [if_pos ⟨by omega, by omega⟩, List.getD_eq_getElem?_getD, Int.toNat_natCast, List.getElem?_eq_getElem h]
  exact if_pos (by show 0 ≤ to[c]; omega)
theorem shift_none {to : List Int} {t : Trm} (h : colT to t.op t.col = none) : shiftT to t = none := by rw [shift_eq, h]
theorem shift_stop {to : List Int} {t : Trm} (h : shiftTs to t.kids = none) : shiftT to t = none := by
  rw [shift_eq, h]
  cases colT to t.op t.col <;> rfl
theorem shift_some {to : List Int} {t : Trm} {c : Int} {l : List Trm} (h : colT to t.op t.col = some c) (h2 : shiftTs to t.kids = some l) : shiftT to t = some (.mk t.op c t.cell l) := by rw [shift_eq, h, h2]

set_option maxHeartbeats 8000000 in
theorem ref_shift_calls {to : List Int} (hto : ∀ x ∈ to, -9223372036854775808 ≤ x ∧ x ≤ 9223372036854775807) (t : Trm) : RefShiftAt to t := by
  obtain ⟨m0, hi, mz0, mz1, mz2⟩ := info_parts Try.infoCe24
  refine Trm.ind (P := RefShiftAt to) (fun t ih => ?_) t
  intro hf w v tov ht hv
  obtain ⟨op, col, cell, ks⟩ := t
  obtain ⟨kv, rfl, ho, hk⟩ := ht
  have HIH : Hid (∀ k (hk : k ∈ ks), ∀ (w : World) (v tov : Value), TermIn w v k → IntsIn w tov to → Calls Try.prog 12 #[v, tov] w (ShiftEnd w (shiftT to k))) := fun k hk => ih k hk (by cases hf with | mk _ h2 => exact h2 k hk)
  have hm : ks.length ≤ 1000 := by cases hf with | mk h1 _ => exact h1
  have hmt := hv.len
  unfold maxLen at hmt
  replace hk : KidsIn w kv ks := hk
  obtain ⟨A, cap, rfl, hat⟩ := kids_at hk
  obtain ⟨At, pt, rfl, hatt⟩ := one_at hv
  have HAT := Lib.hid hat
  have HATT := Lib.hid hatt
  have HV := Lib.hid hv
  have HOK : Hid (0 ≤ op ∧ op ≤ 255) := ⟨ho.1, ho.2.1⟩
  have HCOL : Hid (-9223372036854775808 ≤ col ∧ col ≤ 9223372036854775807) := ho.2.2
  have HTO := Lib.hid hto
  have HCE : Hid (∀ x, colT to op col = some x → ∀ l, shiftTs to ks = some l → shiftT to (.mk op col cell ks) = some (.mk op x cell l)) := fun x h l h2 => shift_some (t := .mk op col cell ks) h h2
  have HCN : Hid (colT to op col = none → shiftT to (.mk op col cell ks) = none) := fun h => shift_none (t := .mk op col cell ks) h
  have HSN : Hid (shiftTs to ks = none → shiftT to (.mk op col cell ks) = none) := fun h => shift_stop (t := .mk op col cell ks) h
  dsimp only [trmA, Trm.op, Trm.col, Trm.cell, Trm.kids]
  generalize shiftT to (.mk op col cell ks) = res at *
  clear ho hk hat hatt hv ih hf hto
  by_cases h99 : op = 99
  · subst h99
    by_cases h0 : 0 ≤ col
    · obtain ⟨c, rfl⟩ : ∃ c : Nat, col = c := ⟨col.toNat, by omega⟩
      by_cases h1 : c < to.length
      · have d1 : decide ((to.length : Int) ≤ (c : Int)) = false := decide_eq_false (by omega)
        have i1 : (c : Int) < (to.length : Int) := by omega
        have dn1 : decide (to.length ≤ c) = false := decide_eq_false (by omega)
        have dz : decide ((c : Int) < 0) = false := decide_eq_false (by omega)
        obtain ⟨b9, off9, ea, hb9, hc9⟩ := HATT.out c h1
        subst ea
        have c9 := hc9 c h1
        by_cases h2 : 0 ≤ to[c]
        · have HCT : Hid (colT to 99 (c : Int) = some to[c]) := toT_some h1 h2
          have HCB := Lib.hid (HTO.out to[c] (List.getElem_mem h1))
          have d2 : decide (to[c] < 0) = false := decide_eq_false (by omega)
          have HV' := HV
          have X9 := Lib.hid c9
          clear hc9 c9
          generalize to[c] = nc at *
          have ha1 := Below.alloc (.refl w.heap.size w) (Nat.le_refl _) (.cells #[.int .u8 99, .int .i64 (c : Int), .string cell, .slice A ks.length cap] 24)
          have ha2 := ha1.alloc ha1.size (.cells #[.int .u8 0, .int .i64 0, .string ⟨#[]⟩, .slice none 0 0] 24)
          have ha3 := ha2.alloc ha2.size (.cells #[.int .u8 99, .int .i64 nc, .string cell, .slice none 0 0] 24)
          have HB3 := Lib.hid ha3
          have hs1 : (w.alloc (.cells #[.int .u8 99, .int .i64 (c : Int), .string cell, .slice A ks.length cap] 24)).heap.size = w.heap.size + 1 := by simp
          have hs2 : ((w.alloc (.cells #[.int .u8 99, .int .i64 (c : Int), .string cell, .slice A ks.length cap] 24)).alloc (.cells #[.int .u8 0, .int .i64 0, .string ⟨#[]⟩, .slice none 0 0] 24)).heap.size = w.heap.size + 1 + 1 := by simp
          have HS3 : Hid ((((w.alloc (.cells #[.int .u8 99, .int .i64 (c : Int), .string cell, .slice A ks.length cap] 24)).alloc (.cells #[.int .u8 0, .int .i64 0, .string ⟨#[]⟩, .slice none 0 0] 24)).alloc (.cells #[.int .u8 99, .int .i64 nc, .string cell, .slice none 0 0] 24)).heap.size = w.heap.size + 3) := Lib.hid (by simp)
          have hx := trmbox_lit w 24 99 (c : Int) cell (.slice A ks.length cap)
          have hr := trmbox_lit (w.alloc (.cells #[.int .u8 99, .int .i64 (c : Int), .string cell, .slice A ks.length cap] 24)) 24 0 0 ⟨#[]⟩ (.slice none 0 0)
          have hob := trmbox_lit ((w.alloc (.cells #[.int .u8 99, .int .i64 (c : Int), .string cell, .slice A ks.length cap] 24)).alloc (.cells #[.int .u8 0, .int .i64 0, .string ⟨#[]⟩, .slice none 0 0] 24)) 24 99 nc cell (.slice none 0 0)
          rw [hs1] at hr
          rw [hs2] at hob
          have HX := Lib.hid ((hx.later (Below.alloc (.refl _ _) (Nat.le_refl _) (.cells #[.int .u8 0, .int .i64 0, .string ⟨#[]⟩, .slice none 0 0] 24))).later (Below.alloc (.refl _ _) (Nat.le_refl _) (.cells #[.int .u8 99, .int .i64 nc, .string cell, .slice none 0 0] 24)))
          have HR := Lib.hid (hr.later (Below.alloc (.refl _ _) (Nat.le_refl _) (.cells #[.int .u8 99, .int .i64 nc, .string cell, .slice none 0 0] 24)))
          have HOB := Lib.hid hob
          have hb1 := Below.alloc (.refl w.heap.size w) (Nat.le_refl _) (.cells #[.int .u8 99, .int .i64 (c : Int), .string cell, .slice A ks.length cap] 24)
          have hb2 := hb1.alloc hb1.size (.cells #[.int .u8 0, .int .i64 0, .string ⟨#[]⟩, .slice none 0 0] 24)
          have hb3 := hb2.alloc hb2.size (.cells #[.int .u8 99, .int .i64 c, .string cell, .slice none 0 0] 24)
          have x9 := (hb3.cell (p := ⟨b9, off9 + c, none⟩) hb9).trans X9.out
          clear hb1 hb2 hb3
          clear ha1 ha2 ha3 hs1 hs2 hx hr hob
          go_enter Try.func12, Try.ntmps12
          go_wp2
          clear x9
          generalize World.alloc (World.alloc (World.alloc w _) _) _ = w4 at *
          go_loopw [7] (fun i wr => ∃ (j : Nat) (l : List Trm) (tv : List (Value × Trm)) (Ao : Option Addr) (po : Nat), j ≤ ks.length ∧ i = .int .i64 j ∧ Hid (shiftTs to (ks.take j) = some l) ∧ Hid (tv.map Prod.snd = l) ∧ Hid (TrmBox wr (w.heap.size + 1 + 1) 99 nc cell (.slice Ao tv.length po)) ∧ Hid (TrmsOwn (Fresh (w.heap.size + 3)) wr (w.heap.size + 3) (.slice Ao tv.length po) tv) ∧ Hid (TrmBox wr (w.heap.size + 1) 0 0 ⟨#[]⟩ (.slice none 0 0)) ∧ Hid (TrmBox wr w.heap.size 99 (c : Int) cell (.slice A ks.length cap)) ∧ Below w.heap.size w wr ∧ Hid (w.heap.size + 3 ≤ wr.heap.size)) (fun i _ => ks.length - (intOf i).toNat)
          case atStart => exact ⟨0, [], [], none, 0, Nat.zero_le _, rfl, by rw [List.take_zero, shiftTs]; exact Lib.hid rfl, rfl, HOB.out, TrmsOwn.nil_ _ _ _, HR.out, HX.out, HB3.out, by rw [HS3.out]; exact Nat.le_refl _⟩
          case round =>
            obtain ⟨j, l, tv, Ao, po, hj, rfl, HSH, HTV, HOB, HOW, HR, HX, hb, HSZ⟩ := hrel
            have hB := hb.size
            obtain ⟨y0, y1, y2, y3, _⟩ := HX.out.cells
            by_cases hlt : j < ks.length
            · obtain ⟨b, off, ea, hb0, hc⟩ := HAT.out j hlt
              subst ea
              obtain ⟨kkv, ok, hkk, c0, c1, c2, c3⟩ := hc j hlt
              have x0 := (hb.cell (p := ⟨b, off + j * 4, none⟩) hb0).trans c0
              have x1 := (hb.cell (p := ⟨b, off + j * 4 + 1, none⟩) hb0).trans c1
              have x2 := (hb.cell (p := ⟨b, off + j * 4 + 2, none⟩) hb0).trans c2
              have x3 := (hb.cell (p := ⟨b, off + j * 4 + 3, none⟩) hb0).trans c3
              have i0 : (0 : Int) ≤ (j : Int) := by omega
              have i1 : (j : Int) < (ks.length : Int) := by omega
              have HC := Lib.hid (HIH.out ks[j] (List.getElem_mem hlt) wr (trmA (kkv, ks[j])) _ ⟨kkv, rfl, ok, hkk.kept hb⟩ (HV.out.kept hb))
              dsimp only [trmA] at HC
              obtain ⟨Ak, pk, rfl, -⟩ := kids_at hkk
              have HB := Lib.hid hb
              cases hs : shiftT to ks[j] with
              | none =>
                have HN : Hid (res = none) := HSN.out (shiftTs_stop hlt hs)
                rw [hs] at HC
                clear hc c0 c1 c2 c3 hkk ok hs hb hB
                generalize ks[j].kids.length = nk at *
                generalize ks[j].op = ok1 at *
                generalize ks[j].col = ok2 at *
                generalize ks[j].cell = ok3 at *
                go_wp2_with fail
                refine HC.out.mono ?_
                clear x0 x1 x2 x3 y0 y1 y2 y3
                rintro e w5 ⟨rfl, hq⟩
                have hq6 := hq.trans ((Below.alloc (.refl w5.heap.size w5) (Nat.le_refl _) (.cells #[.int .u8 0, .int .i64 0, .string ⟨#[]⟩, .slice none 0 0] 24)).mono hq.size)
                have hr := HR.out.later hq6
                obtain ⟨r0, r1, r2, r3, _⟩ := hr.cells
                obtain ⟨f0, f1, f2, f3⟩ := hr.free
                have HP := Lib.hid (hr.putAll 0 0 ⟨#[]⟩ (.slice none 0 0))
                have hbe := HB.out.trans (hq6.mono HB.out.size)
                have HBE := Lib.hid ((((hbe.setCell (p := ⟨w.heap.size + 1, 0, none⟩) (by show w.heap.size ≤ w.heap.size + 1; omega) (.int .u8 0)).setCell (p := ⟨w.heap.size + 1, 1, none⟩) (by show w.heap.size ≤ w.heap.size + 1; omega) (.int .i64 0)).setCell (p := ⟨w.heap.size + 1, 2, none⟩) (by show w.heap.size ≤ w.heap.size + 1; omega) (.string ⟨#[]⟩)).setCell (p := ⟨w.heap.size + 1, 3, none⟩) (by show w.heap.size ≤ w.heap.size + 1; omega) (.slice none 0 0))
                clear hr hq hq6 hbe
                go_wp2
                obtain ⟨g0, g1, g2, g3, _⟩ := HP.out.cells
                refine ⟨rfl, .tuple #[.agg #[.int .u8 0, .int .i64 0, .string ⟨#[]⟩, .slice none 0 0], .bool false], ?_, ?_⟩
                · simp [results, Try.results12, go_sem, g0, g1, g2, g3]
                · rw [HN.out]; exact ⟨rfl, HBE.out⟩
              | some x =>
                obtain ⟨xo, xc, xb, xk⟩ := x
                have HST := Lib.hid (shiftTs_step hlt HSH.out hs)
                rw [hs] at HC
                clear hc c0 c1 c2 c3 hkk ok hs hb hB
                generalize ks[j].kids.length = nk at *
                generalize ks[j].op = ok1 at *
                generalize ks[j].col = ok2 at *
                generalize ks[j].cell = ok3 at *
                go_wp2_with fail
                refine HC.out.mono ?_
                clear x0 x1 x2 x3 y0 y1 y2 y3
                rintro e w5 ⟨v5, rfl, ⟨kx, rfl, okx, hkx⟩, hq⟩
                replace hkx : KidsQ (Fresh wr.heap.size) w5 kx xk := hkx
                have HOX := Lib.hid okx
                have hone := one_trm (t := (kx, .mk xo xc xb xk)) hkx
                have hq1 := Below.alloc (.refl w5.heap.size w5) (Nat.le_refl _) (.cells #[.int .u8 xo, .int .i64 xc, .string xb, kx] 24)
                have hs6 : (w5.alloc (.cells #[.int .u8 xo, .int .i64 xc, .string xb, kx] 24)).heap.size = w5.heap.size + 1 := by simp
                have hq2 := hq1.alloc hq1.size (.cells #[.int .u8 xo, .int .i64 xc, .string xb, kx] 24)
                have hlit := lit_trm (w5.alloc (.cells #[.int .u8 xo, .int .i64 xc, .string xb, kx] 24)) 24 (kx, .mk xo xc xb xk)
                rw [hs6] at hlit
                have hq7 := hq.trans (hq2.mono hq.size)
                have HQ6 := Lib.hid (HOB.out.later (hq.trans (hq1.mono hq.size)))
                have HOW7 := Lib.hid (HOW.out.later hq7)
                have HOB7 := Lib.hid (HOB.out.later hq7)
                have HR7 := Lib.hid (HR.out.later hq7)
                have HX7 := Lib.hid (HX.out.later hq7)
                have HB7 := Lib.hid (HB.out.trans (hq7.mono HB.out.size))
                have HSZ7 := Lib.hid (Nat.le_trans HSZ.out hq7.size)
                have HK7 := Lib.hid (KidsQ.kept (w' := (w5.alloc (.cells #[.int .u8 xo, .int .i64 xc, .string xb, kx] 24)).alloc (.cells #[.int .u8 xo, .int .i64 xc, .string xb, kx] 24)) (KidsQ.mono (Q' := fun u => Fresh (w.heap.size + 3) u ∧ RowOff (.slice Ao tv.length po) u) hkx fun u hu => ⟨hu.mono HSZ.out, RowOff.of_fresh hu fun k hk => (HOW.out.own.lt k hk).2⟩) hq2)
                have htl : tv.length ≤ 1000 := by
                  have h1 := congrArg List.length HTV.out
                  rw [List.length_map] at h1
                  have h2 := shiftTs_len HSH.out
                  rw [List.length_take] at h2
                  omega
                obtain ⟨z0, z1, z2, z3, _⟩ := HQ6.out.cells
                obtain ⟨Ax, px, rfl, -⟩ := kids_at hkx
                dsimp only [trmA, trmC, Trm.op, Trm.col, Trm.cell] at hlit hone ⊢
                have HLIT := Lib.hid hlit
                have HONE := Lib.hid hone
                clear hlit hone hq1 hq2 hq7 hq hkx okx hs6
                generalize xk.length = nx at *
                go_wp2_with (at_builtin; refine wpList_append_src rfl (.tmp 66) (.tmp 68) 22 rfl 24 m0 (.agg #[.int .u8 0, .int .i64 0, .string ⟨#[]⟩, .slice none 0 0]) 4 56 Try.underlying22 hi mz0 mz1 mz2 rfl (by decide) (B := w.heap.size + 3) (.slice Ao tv.length po) tv.length (trmsV tv) rfl HOW7.out.own (.slice (some ⟨w5.heap.size + 1, 0, none⟩) 1 1) 1 [.int .u8 xo, .int .i64 xc, .string xb, .slice Ax nx px] rfl HLIT.out HONE.out (by unfold maxLen; omega) (by omega) HSZ7.out ?_)
                intro v7 w8 hO7 hg7 ha7
                obtain ⟨A7, c7, rfl⟩ := hO7.len
                have hadd := HOW7.out.add (t := (.slice Ax nx px, .mk xo xc xb xk)) HOX.out HK7.out hg7 (by simpa using ha7) hO7
                have hne : ∀ q, q < w.heap.size + 3 → (Value.slice Ao tv.length po).ownBlock ≠ some q := fun q hq e => by have := (HOW7.out.own.lt q e).1; omega
                have hob8 := HOB7.out.other hg7 (hne _ (by omega))
                have hr8 := HR7.out.other hg7 (hne _ (by omega))
                have hx8 := HX7.out.other hg7 (hne _ (by omega))
                have hb8 := HB7.out.grown hg7 HB7.out.size fun q hq => by have := (HOW7.out.own.lt q hq).1; omega
                have hg9 := setCells_grown (w.heap.size + 1 + 1) [.slice A7 (tv.length + 1) c7] 3 w8
                simp only [World.setCells] at hg9
                have HOB9 := Lib.hid (hob8.put3 (.slice A7 (tv.length + 1) c7))
                have HOW9 := Lib.hid (hadd.beside (c := w.heap.size + 1 + 1) (fun u hu => RowOff.of_fresh hu fun k hk => by simp only [Value.ownBlock, Option.some.injEq] at hk; omega) (by omega) hg9)
                have HR9 := Lib.hid (hr8.other hg9 (by simp only [ne_eq, Option.some.injEq]; omega))
                have HX9 := Lib.hid (hx8.other hg9 (by simp only [ne_eq, Option.some.injEq]; omega))
                have HB9 := Lib.hid (hb8.setCell (p := ⟨w.heap.size + 1 + 1, 3, none⟩) (by show w.heap.size ≤ w.heap.size + 1 + 1; omega) (.slice A7 (tv.length + 1) c7))
                have HSZ9 := Lib.hid (Nat.le_trans (Nat.le_trans HSZ7.out hg7.size) hg9.size)
                have HTV9 : Hid ((tv ++ [(Value.slice Ax nx px, Trm.mk xo xc xb xk)]).map Prod.snd = l ++ [.mk xo xc xb xk]) := Lib.hid (by rw [List.map_append, HTV.out]; rfl)
                obtain ⟨e0, e1, e2, e3, _⟩ := hob8.cells
                obtain ⟨f0, f1, f2, f3⟩ := hob8.free
                clear hO7 hg7 ha7 hadd hne hob8 hr8 hx8 hb8 hg9 z0 z1 z2 z3 HOB7 HOW7 HR7 HX7 HB7 HSZ7 HK7 HLIT HONE HOX HQ6 HC HOB HOW HR HX HSZ HB HTV
                go_wp2
                go_roundw
                case rel =>
                  refine ⟨j + 1, l ++ [.mk xo xc xb xk], tv ++ [(.slice Ax nx px, .mk xo xc xb xk)], A7, c7, by omega, by go_num, HST, HTV9, ?_, ?_, HR9.out, HX9.out, HB9.out, HSZ9.out⟩
                  · rw [List.length_append]; exact HOB9.out
                  · rw [List.length_append]; exact HOW9.out
                case measure => simp [intOf]; omega
            · obtain rfl : j = ks.length := by omega
              rw [List.take_length] at HSH
              have HRES : Hid (res = some (.mk 99 nc cell l)) := HCE.out nc HCT.out l HSH.out
              obtain ⟨z0, z1, z2, z3, _⟩ := HOB.out.cells
              obtain ⟨r0, r1, r2, r3, _⟩ := HR.out.cells
              obtain ⟨f0, f1, f2, f3⟩ := HR.out.free
              have HP := Lib.hid (HR.out.putAll 99 nc cell (.slice Ao tv.length po))
              have hg := setCells_grown (w.heap.size + 1) [.int .u8 99, .int .i64 nc, .string cell, .slice Ao tv.length po] 0 wr
              simp only [World.setCells, Nat.zero_add, Nat.reduceAdd] at hg
              have hks := KidsQ.off (v := .slice (some ⟨w.heap.size + 1, 0, none⟩) 1 1) (HOW.out.trms fun k hk => (HOW.out.own.lt k hk).1) (fun u hu => RowOff.of_fresh hu fun k hk => by simp only [Value.ownBlock, Option.some.injEq] at hk; omega) hg
              rw [HTV.out] at hks
              have HK := Lib.hid (hks.mono (Q' := Fresh w.heap.size) fun u hu => hu.mono (by omega))
              have HBE := Lib.hid ((((hb.setCell (p := ⟨w.heap.size + 1, 0, none⟩) (by show w.heap.size ≤ w.heap.size + 1; omega) (.int .u8 99)).setCell (p := ⟨w.heap.size + 1, 1, none⟩) (by show w.heap.size ≤ w.heap.size + 1; omega) (.int .i64 nc)).setCell (p := ⟨w.heap.size + 1, 2, none⟩) (by show w.heap.size ≤ w.heap.size + 1; omega) (.string cell)).setCell (p := ⟨w.heap.size + 1, 3, none⟩) (by show w.heap.size ≤ w.heap.size + 1; omega) (.slice Ao tv.length po))
              have HOK2 : Hid (okT (.mk 99 nc cell l)) := ⟨HOK.out.1, HOK.out.2, HCB.out.1, HCB.out.2⟩
              clear hg hks hb hB HOB HOW HR HX HSZ
              go_wp2
              obtain ⟨g0, g1, g2, g3, _⟩ := HP.out.cells
              refine ⟨rfl, .tuple #[trmA (.slice Ao tv.length po, .mk 99 nc cell l), .bool true], ?_, ?_⟩
              · simp [results, Try.results12, go_sem, trmA, Trm.op, Trm.col, Trm.cell, g0, g1, g2, g3]
              · rw [HRES.out]; exact ⟨_, rfl, ⟨_, rfl, HOK2.out, HK.out⟩, HBE.out⟩
        · have HN : Hid (res = none) := HCN.out (toT_below h1 (by omega))
          have d2 : decide (to[c] < 0) = true := decide_eq_true (by omega)
          clear hc9
          generalize to[c] = nc at *
          have hb1 := Below.alloc (.refl w.heap.size w) (Nat.le_refl _) (.cells #[.int .u8 99, .int .i64 (c : Int), .string cell, .slice A ks.length cap] 24)
          have hb2 := hb1.alloc hb1.size (.cells #[.int .u8 0, .int .i64 0, .string ⟨#[]⟩, .slice none 0 0] 24)
          have hb3 := hb2.alloc hb2.size (.cells #[.int .u8 99, .int .i64 c, .string cell, .slice none 0 0] 24)
          have x9 := (hb3.cell (p := ⟨b9, off9 + c, none⟩) hb9).trans c9
          clear hb1 hb2 hb3
          go_enter Try.func12, Try.ntmps12
          go_wp2
          refine ⟨rfl, .tuple #[.agg #[.int .u8 0, .int .i64 0, .string ⟨#[]⟩, .slice none 0 0], .bool false], ?_, ?_⟩
          · simp [results, Try.results12, go_sem]
          · rw [HN.out]; exact ⟨rfl, by go_grown⟩
      · have HN : Hid (res = none) := HCN.out (toT_none (by omega))
        have d1 : decide ((to.length : Int) ≤ (c : Int)) = true := decide_eq_true (by omega)
        have dn1 : decide (to.length ≤ c) = true := decide_eq_true (by omega)
        have dz : decide ((c : Int) < 0) = false := decide_eq_false (by omega)
        go_enter Try.func12, Try.ntmps12
        go_wp2
        refine ⟨rfl, .tuple #[.agg #[.int .u8 0, .int .i64 0, .string ⟨#[]⟩, .slice none 0 0], .bool false], ?_, ?_⟩
        · simp [results, Try.results12, go_sem]
        · rw [HN.out]; exact ⟨rfl, by go_grown⟩
    · have HN : Hid (res = none) := HCN.out (toT_none (by omega))
      have d0 : decide (col < 0) = true := decide_eq_true (by omega)
      go_enter Try.func12, Try.ntmps12
      go_wp2
      refine ⟨rfl, .tuple #[.agg #[.int .u8 0, .int .i64 0, .string ⟨#[]⟩, .slice none 0 0], .bool false], ?_, ?_⟩
      · simp [results, Try.results12, go_sem]
      · rw [HN.out]; exact ⟨rfl, by go_grown⟩
  · have HCT : Hid (colT to op col = some col) := if_neg h99
    have e99 : (op == 99) = false := by simp [h99]
    have HCB := HCOL
    clear h99
    have ha1 := Below.alloc (.refl w.heap.size w) (Nat.le_refl _) (.cells #[.int .u8 op, .int .i64 col, .string cell, .slice A ks.length cap] 24)
    have ha2 := ha1.alloc ha1.size (.cells #[.int .u8 0, .int .i64 0, .string ⟨#[]⟩, .slice none 0 0] 24)
    have ha3 := ha2.alloc ha2.size (.cells #[.int .u8 op, .int .i64 col, .string cell, .slice none 0 0] 24)
    have HB3 := Lib.hid ha3
    have hs1 : (w.alloc (.cells #[.int .u8 op, .int .i64 col, .string cell, .slice A ks.length cap] 24)).heap.size = w.heap.size + 1 := by simp
    have hs2 : ((w.alloc (.cells #[.int .u8 op, .int .i64 col, .string cell, .slice A ks.length cap] 24)).alloc (.cells #[.int .u8 0, .int .i64 0, .string ⟨#[]⟩, .slice none 0 0] 24)).heap.size = w.heap.size + 1 + 1 := by simp
    have HS3 : Hid ((((w.alloc (.cells #[.int .u8 op, .int .i64 col, .string cell, .slice A ks.length cap] 24)).alloc (.cells #[.int .u8 0, .int .i64 0, .string ⟨#[]⟩, .slice none 0 0] 24)).alloc (.cells #[.int .u8 op, .int .i64 col, .string cell, .slice none 0 0] 24)).heap.size = w.heap.size + 3) := Lib.hid (by simp)
    have hx := trmbox_lit w 24 op col cell (.slice A ks.length cap)
    have hr := trmbox_lit (w.alloc (.cells #[.int .u8 op, .int .i64 col, .string cell, .slice A ks.length cap] 24)) 24 0 0 ⟨#[]⟩ (.slice none 0 0)
    have hob := trmbox_lit ((w.alloc (.cells #[.int .u8 op, .int .i64 col, .string cell, .slice A ks.length cap] 24)).alloc (.cells #[.int .u8 0, .int .i64 0, .string ⟨#[]⟩, .slice none 0 0] 24)) 24 op col cell (.slice none 0 0)
    rw [hs1] at hr
    rw [hs2] at hob
    have HX := Lib.hid ((hx.later (Below.alloc (.refl _ _) (Nat.le_refl _) (.cells #[.int .u8 0, .int .i64 0, .string ⟨#[]⟩, .slice none 0 0] 24))).later (Below.alloc (.refl _ _) (Nat.le_refl _) (.cells #[.int .u8 op, .int .i64 col, .string cell, .slice none 0 0] 24)))
    have HR := Lib.hid (hr.later (Below.alloc (.refl _ _) (Nat.le_refl _) (.cells #[.int .u8 op, .int .i64 col, .string cell, .slice none 0 0] 24)))
    have HOB := Lib.hid hob
    clear ha1 ha2 ha3 hs1 hs2 hx hr hob
    go_enter Try.func12, Try.ntmps12
    go_wp2
    generalize World.alloc (World.alloc (World.alloc w _) _) _ = w4 at *
    go_loopw [7] (fun i wr => ∃ (j : Nat) (l : List Trm) (tv : List (Value × Trm)) (Ao : Option Addr) (po : Nat), j ≤ ks.length ∧ i = .int .i64 j ∧ Hid (shiftTs to (ks.take j) = some l) ∧ Hid (tv.map Prod.snd = l) ∧ Hid (TrmBox wr (w.heap.size + 1 + 1) op col cell (.slice Ao tv.length po)) ∧ Hid (TrmsOwn (Fresh (w.heap.size + 3)) wr (w.heap.size + 3) (.slice Ao tv.length po) tv) ∧ Hid (TrmBox wr (w.heap.size + 1) 0 0 ⟨#[]⟩ (.slice none 0 0)) ∧ Hid (TrmBox wr w.heap.size op col cell (.slice A ks.length cap)) ∧ Below w.heap.size w wr ∧ Hid (w.heap.size + 3 ≤ wr.heap.size)) (fun i _ => ks.length - (intOf i).toNat)
    case atStart => exact ⟨0, [], [], none, 0, Nat.zero_le _, rfl, by rw [List.take_zero, shiftTs]; exact Lib.hid rfl, rfl, HOB.out, TrmsOwn.nil_ _ _ _, HR.out, HX.out, HB3.out, by rw [HS3.out]; exact Nat.le_refl _⟩
    case round =>
      obtain ⟨j, l, tv, Ao, po, hj, rfl, HSH, HTV, HOB, HOW, HR, HX, hb, HSZ⟩ := hrel
      have hB := hb.size
      obtain ⟨y0, y1, y2, y3, _⟩ := HX.out.cells
      by_cases hlt : j < ks.length
      · obtain ⟨b, off, ea, hb0, hc⟩ := HAT.out j hlt
        subst ea
        obtain ⟨kkv, ok, hkk, c0, c1, c2, c3⟩ := hc j hlt
        have x0 := (hb.cell (p := ⟨b, off + j * 4, none⟩) hb0).trans c0
        have x1 := (hb.cell (p := ⟨b, off + j * 4 + 1, none⟩) hb0).trans c1
        have x2 := (hb.cell (p := ⟨b, off + j * 4 + 2, none⟩) hb0).trans c2
        have x3 := (hb.cell (p := ⟨b, off + j * 4 + 3, none⟩) hb0).trans c3
        have i0 : (0 : Int) ≤ (j : Int) := by omega
        have i1 : (j : Int) < (ks.length : Int) := by omega
        have HC := Lib.hid (HIH.out ks[j] (List.getElem_mem hlt) wr (trmA (kkv, ks[j])) _ ⟨kkv, rfl, ok, hkk.kept hb⟩ (HV.out.kept hb))
        dsimp only [trmA] at HC
        obtain ⟨Ak, pk, rfl, -⟩ := kids_at hkk
        have HB := Lib.hid hb
        cases hs : shiftT to ks[j] with
        | none =>
          have HN : Hid (res = none) := HSN.out (shiftTs_stop hlt hs)
          rw [hs] at HC
          clear hc c0 c1 c2 c3 hkk ok hs hb hB
          generalize ks[j].kids.length = nk at *
          generalize ks[j].op = ok1 at *
          generalize ks[j].col = ok2 at *
          generalize ks[j].cell = ok3 at *
          go_wp2_with fail
          refine HC.out.mono ?_
          clear x0 x1 x2 x3 y0 y1 y2 y3
          rintro e w5 ⟨rfl, hq⟩
          have hq6 := hq.trans ((Below.alloc (.refl w5.heap.size w5) (Nat.le_refl _) (.cells #[.int .u8 0, .int .i64 0, .string ⟨#[]⟩, .slice none 0 0] 24)).mono hq.size)
          have hr := HR.out.later hq6
          obtain ⟨r0, r1, r2, r3, _⟩ := hr.cells
          obtain ⟨f0, f1, f2, f3⟩ := hr.free
          have HP := Lib.hid (hr.putAll 0 0 ⟨#[]⟩ (.slice none 0 0))
          have hbe := HB.out.trans (hq6.mono HB.out.size)
          have HBE := Lib.hid ((((hbe.setCell (p := ⟨w.heap.size + 1, 0, none⟩) (by show w.heap.size ≤ w.heap.size + 1; omega) (.int .u8 0)).setCell (p := ⟨w.heap.size + 1, 1, none⟩) (by show w.heap.size ≤ w.heap.size + 1; omega) (.int .i64 0)).setCell (p := ⟨w.heap.size + 1, 2, none⟩) (by show w.heap.size ≤ w.heap.size + 1; omega) (.string ⟨#[]⟩)).setCell (p := ⟨w.heap.size + 1, 3, none⟩) (by show w.heap.size ≤ w.heap.size + 1; omega) (.slice none 0 0))
          clear hr hq hq6 hbe
          go_wp2
          obtain ⟨g0, g1, g2, g3, _⟩ := HP.out.cells
          refine ⟨rfl, .tuple #[.agg #[.int .u8 0, .int .i64 0, .string ⟨#[]⟩, .slice none 0 0], .bool false], ?_, ?_⟩
          · simp [results, Try.results12, go_sem, g0, g1, g2, g3]
          · rw [HN.out]; exact ⟨rfl, HBE.out⟩
        | some x =>
          obtain ⟨xo, xc, xb, xk⟩ := x
          have HST := Lib.hid (shiftTs_step hlt HSH.out hs)
          rw [hs] at HC
          clear hc c0 c1 c2 c3 hkk ok hs hb hB
          generalize ks[j].kids.length = nk at *
          generalize ks[j].op = ok1 at *
          generalize ks[j].col = ok2 at *
          generalize ks[j].cell = ok3 at *
          go_wp2_with fail
          refine HC.out.mono ?_
          clear x0 x1 x2 x3 y0 y1 y2 y3
          rintro e w5 ⟨v5, rfl, ⟨kx, rfl, okx, hkx⟩, hq⟩
          replace hkx : KidsQ (Fresh wr.heap.size) w5 kx xk := hkx
          have HOX := Lib.hid okx
          have hone := one_trm (t := (kx, .mk xo xc xb xk)) hkx
          have hq1 := Below.alloc (.refl w5.heap.size w5) (Nat.le_refl _) (.cells #[.int .u8 xo, .int .i64 xc, .string xb, kx] 24)
          have hs6 : (w5.alloc (.cells #[.int .u8 xo, .int .i64 xc, .string xb, kx] 24)).heap.size = w5.heap.size + 1 := by simp
          have hq2 := hq1.alloc hq1.size (.cells #[.int .u8 xo, .int .i64 xc, .string xb, kx] 24)
          have hlit := lit_trm (w5.alloc (.cells #[.int .u8 xo, .int .i64 xc, .string xb, kx] 24)) 24 (kx, .mk xo xc xb xk)
          rw [hs6] at hlit
          have hq7 := hq.trans (hq2.mono hq.size)
          have HQ6 := Lib.hid (HOB.out.later (hq.trans (hq1.mono hq.size)))
          have HOW7 := Lib.hid (HOW.out.later hq7)
          have HOB7 := Lib.hid (HOB.out.later hq7)
          have HR7 := Lib.hid (HR.out.later hq7)
          have HX7 := Lib.hid (HX.out.later hq7)
          have HB7 := Lib.hid (HB.out.trans (hq7.mono HB.out.size))
          have HSZ7 := Lib.hid (Nat.le_trans HSZ.out hq7.size)
          have HK7 := Lib.hid (KidsQ.kept (w' := (w5.alloc (.cells #[.int .u8 xo, .int .i64 xc, .string xb, kx] 24)).alloc (.cells #[.int .u8 xo, .int .i64 xc, .string xb, kx] 24)) (KidsQ.mono (Q' := fun u => Fresh (w.heap.size + 3) u ∧ RowOff (.slice Ao tv.length po) u) hkx fun u hu => ⟨hu.mono HSZ.out, RowOff.of_fresh hu fun k hk => (HOW.out.own.lt k hk).2⟩) hq2)
          have htl : tv.length ≤ 1000 := by
            have h1 := congrArg List.length HTV.out
            rw [List.length_map] at h1
            have h2 := shiftTs_len HSH.out
            rw [List.length_take] at h2
            omega
          obtain ⟨z0, z1, z2, z3, _⟩ := HQ6.out.cells
          obtain ⟨Ax, px, rfl, -⟩ := kids_at hkx
          dsimp only [trmA, trmC, Trm.op, Trm.col, Trm.cell] at hlit hone ⊢
          have HLIT := Lib.hid hlit
          have HONE := Lib.hid hone
          clear hlit hone hq1 hq2 hq7 hq hkx okx hs6
          generalize xk.length = nx at *
          go_wp2_with (at_builtin; refine wpList_append_src rfl (.tmp 66) (.tmp 68) 22 rfl 24 m0 (.agg #[.int .u8 0, .int .i64 0, .string ⟨#[]⟩, .slice none 0 0]) 4 56 Try.underlying22 hi mz0 mz1 mz2 rfl (by decide) (B := w.heap.size + 3) (.slice Ao tv.length po) tv.length (trmsV tv) rfl HOW7.out.own (.slice (some ⟨w5.heap.size + 1, 0, none⟩) 1 1) 1 [.int .u8 xo, .int .i64 xc, .string xb, .slice Ax nx px] rfl HLIT.out HONE.out (by unfold maxLen; omega) (by omega) HSZ7.out ?_)
          intro v7 w8 hO7 hg7 ha7
          obtain ⟨A7, c7, rfl⟩ := hO7.len
          have hadd := HOW7.out.add (t := (.slice Ax nx px, .mk xo xc xb xk)) HOX.out HK7.out hg7 (by simpa using ha7) hO7
          have hne : ∀ q, q < w.heap.size + 3 → (Value.slice Ao tv.length po).ownBlock ≠ some q := fun q hq e => by have := (HOW7.out.own.lt q e).1; omega
          have hob8 := HOB7.out.other hg7 (hne _ (by omega))
          have hr8 := HR7.out.other hg7 (hne _ (by omega))
          have hx8 := HX7.out.other hg7 (hne _ (by omega))
          have hb8 := HB7.out.grown hg7 HB7.out.size fun q hq => by have := (HOW7.out.own.lt q hq).1; omega
          have hg9 := setCells_grown (w.heap.size + 1 + 1) [.slice A7 (tv.length + 1) c7] 3 w8
          simp only [World.setCells] at hg9
          have HOB9 := Lib.hid (hob8.put3 (.slice A7 (tv.length + 1) c7))
          have HOW9 := Lib.hid (hadd.beside (c := w.heap.size + 1 + 1) (fun u hu => RowOff.of_fresh hu fun k hk => by simp only [Value.ownBlock, Option.some.injEq] at hk; omega) (by omega) hg9)
          have HR9 := Lib.hid (hr8.other hg9 (by simp only [ne_eq, Option.some.injEq]; omega))
          have HX9 := Lib.hid (hx8.other hg9 (by simp only [ne_eq, Option.some.injEq]; omega))
          have HB9 := Lib.hid (hb8.setCell (p := ⟨w.heap.size + 1 + 1, 3, none⟩) (by show w.heap.size ≤ w.heap.size + 1 + 1; omega) (.slice A7 (tv.length + 1) c7))
          have HSZ9 := Lib.hid (Nat.le_trans (Nat.le_trans HSZ7.out hg7.size) hg9.size)
          have HTV9 : Hid ((tv ++ [(Value.slice Ax nx px, Trm.mk xo xc xb xk)]).map Prod.snd = l ++ [.mk xo xc xb xk]) := Lib.hid (by rw [List.map_append, HTV.out]; rfl)
          obtain ⟨e0, e1, e2, e3, _⟩ := hob8.cells
          obtain ⟨f0, f1, f2, f3⟩ := hob8.free
          clear hO7 hg7 ha7 hadd hne hob8 hr8 hx8 hb8 hg9 z0 z1 z2 z3 HOB7 HOW7 HR7 HX7 HB7 HSZ7 HK7 HLIT HONE HOX HQ6 HC HOB HOW HR HX HSZ HB HTV
          go_wp2
          go_roundw
          case rel =>
            refine ⟨j + 1, l ++ [.mk xo xc xb xk], tv ++ [(.slice Ax nx px, .mk xo xc xb xk)], A7, c7, by omega, by go_num, HST, HTV9, ?_, ?_, HR9.out, HX9.out, HB9.out, HSZ9.out⟩
            · rw [List.length_append]; exact HOB9.out
            · rw [List.length_append]; exact HOW9.out
          case measure => simp [intOf]; omega
      · obtain rfl : j = ks.length := by omega
        rw [List.take_length] at HSH
        have HRES : Hid (res = some (.mk op col cell l)) := HCE.out col HCT.out l HSH.out
        obtain ⟨z0, z1, z2, z3, _⟩ := HOB.out.cells
        obtain ⟨r0, r1, r2, r3, _⟩ := HR.out.cells
        obtain ⟨f0, f1, f2, f3⟩ := HR.out.free
        have HP := Lib.hid (HR.out.putAll op col cell (.slice Ao tv.length po))
        have hg := setCells_grown (w.heap.size + 1) [.int .u8 op, .int .i64 col, .string cell, .slice Ao tv.length po] 0 wr
        simp only [World.setCells, Nat.zero_add, Nat.reduceAdd] at hg
        have hks := KidsQ.off (v := .slice (some ⟨w.heap.size + 1, 0, none⟩) 1 1) (HOW.out.trms fun k hk => (HOW.out.own.lt k hk).1) (fun u hu => RowOff.of_fresh hu fun k hk => by simp only [Value.ownBlock, Option.some.injEq] at hk; omega) hg
        rw [HTV.out] at hks
        have HK := Lib.hid (hks.mono (Q' := Fresh w.heap.size) fun u hu => hu.mono (by omega))
        have HBE := Lib.hid ((((hb.setCell (p := ⟨w.heap.size + 1, 0, none⟩) (by show w.heap.size ≤ w.heap.size + 1; omega) (.int .u8 op)).setCell (p := ⟨w.heap.size + 1, 1, none⟩) (by show w.heap.size ≤ w.heap.size + 1; omega) (.int .i64 col)).setCell (p := ⟨w.heap.size + 1, 2, none⟩) (by show w.heap.size ≤ w.heap.size + 1; omega) (.string cell)).setCell (p := ⟨w.heap.size + 1, 3, none⟩) (by show w.heap.size ≤ w.heap.size + 1; omega) (.slice Ao tv.length po))
        have HOK2 : Hid (okT (.mk op col cell l)) := ⟨HOK.out.1, HOK.out.2, HCB.out.1, HCB.out.2⟩
        clear hg hks hb hB HOB HOW HR HX HSZ
        go_wp2
        obtain ⟨g0, g1, g2, g3, _⟩ := HP.out.cells
        refine ⟨rfl, .tuple #[trmA (.slice Ao tv.length po, .mk op col cell l), .bool true], ?_, ?_⟩
        · simp [results, Try.results12, go_sem, trmA, Trm.op, Trm.col, Trm.cell, g0, g1, g2, g3]
        · rw [HRES.out]; exact ⟨_, rfl, ⟨_, rfl, HOK2.out, HK.out⟩, HBE.out⟩
end Go.Proofs.Ytppmmkmlngmafaa
