/- The law TermShifts of layer 15. -/
import Derived.Test.YtppmmkmlngmafaaTermAwake
import Derived.Test.YtppmmkmlngmafaaTermLawKit
import Derived.Test.YtppmmkmlngmafaaTermShiftPure
import Derived.Test.YtppmmkmlngmafaaOwnStr
import Derived.Test.YtppmmkmlngmafaaLawKit
namespace Go.Proofs.Ytppmmkmlngmafaa
open Go Go.RowKit

theorem Try.infoTi3 : (Try.prog.info? 3).map (fun i => (i.zero, i.size, i.bytes)) = some (some (.int .i64 0), 1, 8) := by kernel_rfl
theorem Try.infoTs9 : (Try.prog.info? 9).map (fun i => (i.zero, i.size, i.bytes)) = some (some (.string ⟨#[]⟩), 1, 16) := by kernel_rfl
set_option maxHeartbeats 16000000 in
set_option maxRecDepth 100000 in
theorem termShifts_calls {w : World} {vt vr : Value} {t : Trm} {row : List ByteArray} (turn : Nat) (htn : turn ≤ 255) (ht : TermIn w vt t) (hr : StrsIn w vr row) : GivesAt Try.prog 6 #[vt, vr, .int .u8 turn] w (.bool true) := by
  obtain ⟨i0', hi, iz0, iz1, iz2⟩ := info_parts Try.infoTi3
  obtain ⟨j0, hj, jz0, jz1, jz2⟩ := info_parts Try.infoTs9
  have hmr := hr.len
  unfold maxLen at hmr
  have HAW := Lib.hid awake15_calls
  have HT := Lib.hid ht
  have HR := Lib.hid hr
  have HG : Hid (∀ W, Below w.heap.size w W → GivesAt Try.prog 8 #[vt, .int .i64 0] W (.bool (greatT 0 t))) := fun W hW => great15_calls t W vt 0 (by decide) (ht.kept hW)
  have HSM : Hid (∀ W, Below w.heap.size w W → Reads Try.prog 9 #[vr] W (.bool (smallS row))) := fun W hW => small15_calls (StrsIn.kept hr hW)
  obtain ⟨A, cap, rfl⟩ := ht.parts
  obtain ⟨Ar, pr, rfl, -⟩ := one_at hr
  have hb : Below w.heap.size w (w.alloc (.cells #[.int .u8 t.op, .int .i64 t.col, .string t.cell, .slice A t.kids.length cap] 24)) := Below.alloc (.refl w.heap.size w) (Nat.le_refl _) _
  have hB := hb.size
  have HX := Lib.hid (trmbox_lit w 24 t.op t.col t.cell (.slice A t.kids.length cap))
  clear ht hr
  unfold GivesAt
  cases hg : greatT 0 t with
  | true =>
    rw [hg] at HG
    clear hg
    go_enter Try.func6, Try.ntmps6
    go_wp2_with (first | (go_at_call 8; refine (HG.out _ hb).step (w0 := w) (B := w.heap.size) hb hB ?_; clear hb hB; intro wg hb hB) | (go_at_call 10; refine HAW.out.step (w0 := w) (B := w.heap.size) hb hB ?_; clear hb hB; intro wa hb hB))
    go_ret
    exact ⟨rfl, hb⟩
  | false =>
    have HF := Lib.hid (great_few t 0 hg)
    rw [hg] at HG
    clear hg
    cases hs : smallS row with
    | false =>
      rw [hs] at HSM
      clear hs
      go_enter Try.func6, Try.ntmps6
      go_wp2_with (first | (go_at_call 8; refine (HG.out _ hb).step (w0 := w) (B := w.heap.size) hb hB ?_; clear hb hB; intro wg hb hB) | (go_at_call 9; refine (HSM.out _ hb).step ?_) | (go_at_call 10; refine HAW.out.step (w0 := w) (B := w.heap.size) hb hB ?_; clear hb hB; intro wa hb hB))
      go_ret
      exact ⟨rfl, hb⟩
    | true =>
      have h20 := smallS_yes hs
      rw [hs] at HSM
      clear hs
      by_cases h0 : 0 < row.length
      · have d0 : ((row.length : Int) == 0) = false := by rw [beq_eq_false_iff_ne]; omega
        have d1 : (row.length == 0) = false := by rw [beq_eq_false_iff_ne]; omega
        have HSE : Hid (∀ x, shiftT (toTn turn row.length row.length) t = some x → evalT (othT turn row row.length) x = evalT row t ∧ sizeT x = sizeT t) := fun x hx => shift_eval (oth_to h0) t x hx
        have HTB := Lib.hid (toTn_bounds (turn := turn) (n := row.length) (k := row.length) h0 (by omega))
        go_enter Try.func6, Try.ntmps6
        go_wp2_with fail
        refine (HG.out _ hb).stepB (w0 := w) (B := w.heap.size) hb hB ?_
        clear hb hB
        intro wg hb hB hq
        replace HX := Lib.hid (HX.out.later hq)
        have HT := Lib.hid (HT.out.kept hb)
        have HR := Lib.hid (StrsIn.kept HR.out hb)
        have HBG := Lib.hid hb
        have HSG := Lib.hid (HSM.out _ hb)
        obtain ⟨Ar', pr', er, hatr⟩ := one_at HR.out
        injection er with er1 er2 er3
        subst er1
        have HATR := Lib.hid hatr
        clear hq HG hb hB er2 er3 hatr
        go_wp2_with (first | (go_at_call 9; refine HSG.out.step ?_) | (at_make; refine wpList_make_full _ rfl _ _ 25 rfl wg.heap.size 9 j0 (.string ⟨#[]⟩) 1 Try.underlying25 hj jz0 jz1 .i64 .i64 _ _ (row.length + 2) rfl rfl rfl rfl (by rw [jz2]; omega) (by unfold maxLen; omega) (Nat.le_refl _) ?_))
        intro w3 hrow hg3
        rw [toList_madeCells_one] at hrow
        have hO : Own w3 wg.heap.size 1 (.slice (some ⟨wg.heap.size, 0, none⟩) (row.length + 2) (row.length + 2)) (row.length + 2) (List.replicate (row.length + 2) (Value.string ⟨#[]⟩)) := Own.of_row (B := wg.heap.size) hrow (by unfold maxLen; omega) (Nat.le_refl _)
        have hbm : Below wg.heap.size wg w3 := (Below.refl wg.heap.size wg).grown hg3 (Nat.le_refl _) (fun k hk => by cases hk)
        have hsm : wg.heap.size + 1 ≤ w3.heap.size := by have := hO.lt wg.heap.size rfl; omega
        have HOM : Hid (Own w3 wg.heap.size 1 (.slice (some ⟨wg.heap.size, 0, none⟩) (row.length + 2) (row.length + 2)) (row.length + 2) ((othT turn row 0).map Value.string)) := Lib.hid (by rw [othT, List.map_replicate]; exact hO)
        clear hrow hg3 hO
        go_wp2
        go_loopw [7, 9] (fun tv i wr => ∃ k : Nat, k ≤ row.length ∧ i = .int .i64 k ∧ (∃ Al pl, tv = .slice Al k pl ∧ Hid (Own wr (wg.heap.size + 1) 1 (.slice Al k pl) k ((toTn turn row.length k).map (Value.int .i64)))) ∧ Hid (Own wr wg.heap.size 1 (.slice (some ⟨wg.heap.size, 0, none⟩) (row.length + 2) (row.length + 2)) (row.length + 2) ((othT turn row k).map Value.string)) ∧ Below wg.heap.size wg wr ∧ wg.heap.size + 1 ≤ wr.heap.size) (fun _ i _ => row.length - (intOf i).toNat)
        case atStart => exact ⟨0, Nat.zero_le _, rfl, ⟨none, 0, rfl, Own.nil_ _ _ _⟩, HOM.out, hbm, hsm⟩
        case round =>
          clear hbm hsm
          obtain ⟨k, hk, rfl, ⟨Al, pl, rfl, HP⟩, HO, hb, hs⟩ := hrel
          by_cases hlt : k < row.length
          · obtain ⟨b, off, ea, hbl, hc⟩ := HATR.out k hlt
            subst ea
            have hx := (hb.cell (p := ⟨b, off + k, none⟩) hbl).trans (hc k hlt)
            have HLB := Lib.hid hbl
            have HCW := Lib.hid (hc k hlt)
            have i0 : (0 : Int) ≤ (k : Int) := by omega
            have i1 : (k : Int) < (row.length : Int) := by omega
            have HTS := Lib.hid (toTn_step turn row.length k)
            have HOS : Hid (othT turn row (k + 1) = (othT turn row k).set (idxT turn row.length k) row[k]) := Lib.hid (by rw [othT, List.getD_eq_getElem?_getD, List.getElem?_eq_getElem hlt]; rfl)
            have HOL := Lib.hid (othT_len turn row k)
            have hqn : (k + turn) % row.length < row.length := Nat.mod_lt _ (by omega)
            have HQ : Hid (idxT turn row.length k = (k + turn) % row.length + 1) := rfl
            have hcm : ((k : Int) + (turn : Int)) % (row.length : Int) = (((k + turn) % row.length : Nat) : Int) := by rw [Int.natCast_emod, Int.natCast_add]
            clear hc
            generalize (k + turn) % row.length = q at *
            generalize idxT turn row.length k = iq at *
            generalize row[k] = c at *
            have hP1 := Own.alloc HP.out (.cells #[Value.int .i64 ((q : Int) + 1)] 3)
            have HP1 := Lib.hid hP1
            clear hP1
            go_wp2_with (at_builtin; refine wpList_append_Own rfl _ _ 26 rfl 3 i0' (.int .i64 0) 1 8 Try.underlying26 hi iz0 iz1 iz2 rfl (by decide) _ _ _ rfl HP1.out ⟨wr.heap.size, 0, none⟩ 1 1 [_] rfl rfl (one_new _ _ _) (one_int _ _) ?c1 ?c2 (Nat.le_trans hs (by simp)) ?_)
            case c1 => unfold maxLen; omega
            case c2 => omega
            intro v4 w4 hO4 hg4
            have hlt4 := fun k hk => (HP1.out.lt k hk).1
            have hO5 := (Own.alloc HO.out (.cells #[Value.int .i64 ((q : Int) + 1)] 3)).other hg4 (fun k hk e => by
              simp only [Value.ownBlock, Option.some.injEq] at hk
              have := hlt4 k e.symm; omega)
            have hb4 := (hb.alloc (Nat.le_trans (Nat.le_succ _) hs) (.cells #[Value.int .i64 ((q : Int) + 1)] 3)).grown hg4 (by have := hs; simp at this ⊢; omega) (fun k hk => by have := hlt4 k hk; omega)
            have hs4 : wg.heap.size + 1 ≤ w4.heap.size := Nat.le_trans hs (Nat.le_trans (by simp) hg4.size)
            obtain ⟨A4, p4, rfl⟩ := hO4.len
            have hx4 := (hb4.cell (p := ⟨b, off + k, none⟩) HLB.out).trans HCW.out
            obtain ⟨_, _, _, hcs, hrs⟩ := hO5.parts
            have hfr := (hrs (q + 1) (by omega)).2
            have hce := hcs (q + 1) (.string ((othT turn row k)[q + 1]'(by rw [HOL.out]; omega))) (by rw [List.getElem?_map, List.getElem?_eq_getElem (by rw [HOL.out]; omega)]; rfl)
            rw [Nat.zero_add] at hfr hce
            generalize (othT turn row k)[q + 1]'(by rw [HOL.out]; omega) = old at hce
            have hst := Own.stored hO5 (q + 1) (by omega) (.string c)
            rw [Nat.zero_add] at hst
            have HO6 := Lib.hid hst
            have HP6 := Lib.hid (own_aside hO4 (Nat.lt_succ_self wg.heap.size) (grown_set (grown_refl w4 (some wg.heap.size)) (q + 1) (.string c)))
            have HB6 := Lib.hid (hb4.setCell (p := ⟨wg.heap.size, q + 1, none⟩) (Nat.le_refl _) (.string c))
            have HS6 : Hid (wg.heap.size + 1 ≤ (w4.setCell ⟨wg.heap.size, q + 1, none⟩ (.string c)).heap.size) := Lib.hid (by simpa using hs4)
            have q1 : ((q : Int) + 1) < ((row.length : Int) + 2) := by omega
            have q2 : (0 : Int) ≤ (q : Int) + 1 := by omega
            clear hO4 hg4 hlt4 hO5 hb4 hs4 hcs hrs hst hb hs hx HO HP HP1
            go_wp2
            go_roundw
            case rel =>
              refine ⟨k + 1, by omega, by go_num, ⟨A4, p4, rfl, ?_⟩, ?_, HB6.out, HS6.out⟩
              · rw [HTS.out, List.map_append, HQ.out]
                exact HP6
              · rw [HOS.out, List.map_set, HQ.out]
                exact HO6
            case measure => simp [intOf]; omega
          · obtain rfl : k = row.length := by omega
            have HTI : Hid (IntsIn wr (.slice Al row.length pl) (toTn turn row.length row.length)) := Lib.hid (by
              have := HP.out.slice
              unfold IntsIn
              rw [toTn_len]
              exact this)
            have HOT : Hid (StrsIn wr (.slice (some ⟨wg.heap.size, 0, none⟩) (row.length + 2) (row.length + 2)) (othT turn row row.length)) := Lib.hid (by
              have := HO.out.slice
              unfold StrsIn
              rw [othT_len]
              exact this)
            replace HX := Lib.hid (HX.out.later hb)
            replace HT := Lib.hid (HT.out.kept hb)
            replace HR := Lib.hid (StrsIn.kept HR.out hb)
            replace hb := HBG.out.trans (hb.mono HBG.out.size)
            obtain ⟨y0, y1, y2, y3, _⟩ := HX.out.cells
            clear HP HO hs hk hlt
            go_wp2_with fail
            clear y0 y1 y2 y3
            refine Calls.mono (term_shift_calls HTB.out t HF.out HT.out HTI.out) ?_
            intro e w7 hend
            cases hsh : shiftT (toTn turn row.length row.length) t with
            | none =>
              rw [hsh] at hend
              obtain ⟨rfl, hq⟩ := hend
              replace hb := hb.trans (hq.mono hb.size)
              have hbz := hb.alloc hb.size (.cells #[.int .u8 0, .int .i64 0, .string ⟨#[]⟩, .slice none 0 0] 24)
              clear hq hb
              have hb := hbz
              have hB := hb.size
              clear hbz
              go_wp2_with (go_at_call 10; refine HAW.out.step (w0 := w) (B := w.heap.size) hb hB ?_; clear hb hB; intro wa hb hB)
              go_ret
              exact ⟨rfl, hb⟩
            | some x =>
              have HSV := Lib.hid (HSE.out x hsh)
              rw [hsh] at hend
              obtain ⟨A7, c7, rfl, hx7, hq7⟩ := hend.out
              have ha7 := Below.alloc (.refl w7.heap.size w7) (Nat.le_refl _) (.cells #[.int .u8 x.op, .int .i64 x.col, .string x.cell, .slice A7 x.kids.length c7] 24)
              have hq := hq7.trans (ha7.mono hq7.size)
              have HXX := Lib.hid (trmbox_lit w7 24 x.op x.col x.cell (.slice A7 x.kids.length c7))
              have HTX := Lib.hid (TermQ.kept hx7 ha7)
              replace HX := Lib.hid (HX.out.later hq)
              replace HT := Lib.hid (HT.out.kept hq)
              replace HR := Lib.hid (StrsIn.kept HR.out hq)
              replace HOT := Lib.hid (StrsIn.kept HOT.out hq)
              replace hb := hb.trans (hq.mono hb.size)
              obtain ⟨ev, hev⟩ : ∃ v, evalT row t = v := ⟨_, rfl⟩
              obtain ⟨sz, hsz⟩ : ∃ v, wrap64 (sizeT t : Nat) = v := ⟨_, rfl⟩
              have HE2 := Lib.hid hev
              have HZ2 := Lib.hid hsz
              have HE1 : Hid (evalT (othT turn row row.length) x = ev) := HSV.out.1.trans hev
              have HZ1 : Hid (wrap64 (sizeT x : Nat) = sz) := Lib.hid (by rw [HSV.out.2]; exact hsz)
              clear hend hx7 hq7 ha7 hq hsh hev hsz HTI
              dsimp only [resT, Option.isSome]
              go_wp2_with fail
              generalize World.alloc w7 _ = w8 at *
              generalize w7.heap.size = O7 at *
              have HB := Lib.hid hb
              clear hb
              refine wp_region_calm (offC w8) (fun _ => false) (fun _ => false) anyE false (by kernel_rfl) (by kernel_rfl) (by kernel_rfl) (by kernel_rfl) (by intro m hm; revert hm; simp; try omega) (offC_stable _) (offC_start _) ?_
              refine calm_fixA rfl rfl ?_
              apply Exists.intro
              refine ⟨fun a wz hc hk hf K hK => ?_, ?_⟩
              · have hb : Below w8.heap.size w8 wz := hc rfl
                clear hk hf hc
                go_simp
                refine Calls.mono (HAW.out wz) ?_
                rintro e w1 ⟨rfl, hq⟩
                exact hK _ _ hq rfl
              refine calm_fixA rfl rfl ?_
              apply Exists.intro
              refine ⟨fun a wz hc hk hf K hK => ?_, ?_⟩
              · have h64 := held_isV hf 0 rfl (by kernel_rfl)
                clear hk hf hc
                go_simp
                exact hK _ _ (Below.refl _ _) rfl
              refine calm_fixA rfl rfl ?_
              apply Exists.intro
              refine ⟨fun a wz hc hk hf K hK => ?_, ?_⟩
              · have hb : Below w8.heap.size w8 wz := hc rfl
                have h11 := hk 11 (by kernel_rfl)
                have h65 := held_isV hf 0 rfl (by kernel_rfl)
                clear hk hf hc
                obtain ⟨y0, y1, y2, y3, _⟩ := (HXX.out.later hb).cells
                go_simp
                exact hK _ _ (Below.refl _ _) rfl
              refine calm_fixA rfl rfl ?_
              apply Exists.intro
              refine ⟨fun a wz hc hk hf K hK => ?_, ?_⟩
              · have h8 := hk 8 (by kernel_rfl)
                have h65 := held_isV hf 1 rfl (by kernel_rfl)
                clear hk hf hc
                go_simp
                exact hK _ _ (Below.refl _ _) rfl
              refine calm_fixA rfl rfl ?_
              apply Exists.intro
              refine ⟨fun a wz hc hk hf K hK => ?_, ?_⟩
              · have hb : Below w8.heap.size w8 wz := hc rfl
                have h66 := held_isV hf 1 rfl (by kernel_rfl)
                have h67 := held_isV hf 0 rfl (by kernel_rfl)
                have h65 := held_isV hf 2 rfl (by kernel_rfl)
                clear hk hf hc
                have hs := term_eval_calls (x) (HTX.out.kept hb) (StrsIn.kept HOT.out hb)
                rw [HE1.out] at hs
                go_simp
                refine Calls.mono (hs) ?_
                rintro e w1 ⟨rfl, hq⟩
                exact hK _ _ hq rfl
              refine calm_fixA rfl rfl ?_
              apply Exists.intro
              refine ⟨fun a wz hc hk hf K hK => ?_, ?_⟩
              · have hb : Below w8.heap.size w8 wz := hc rfl
                have h3 := hk 3 (by kernel_rfl)
                have h65 := held_isV hf 3 rfl (by kernel_rfl)
                clear hk hf hc
                obtain ⟨y0, y1, y2, y3, _⟩ := (HX.out.later hb).cells
                go_simp
                exact hK _ _ (Below.refl _ _) rfl
              refine calm_fixA rfl rfl ?_
              apply Exists.intro
              refine ⟨fun a wz hc hk hf K hK => ?_, ?_⟩
              · have h1 := hk 1 (by kernel_rfl)
                have h65 := held_isV hf 4 rfl (by kernel_rfl)
                clear hk hf hc
                go_simp
                exact hK _ _ (Below.refl _ _) rfl
              refine calm_fixA rfl rfl ?_
              apply Exists.intro
              refine ⟨fun a wz hc hk hf K hK => ?_, ?_⟩
              · have hb : Below w8.heap.size w8 wz := hc rfl
                have h69 := held_isV hf 1 rfl (by kernel_rfl)
                have h70 := held_isV hf 0 rfl (by kernel_rfl)
                have h65 := held_isV hf 5 rfl (by kernel_rfl)
                clear hk hf hc
                have hs := term_eval_calls (t) (HT.out.kept hb) (StrsIn.kept HR.out hb)
                rw [HE2.out] at hs
                go_simp
                refine Calls.mono (hs) ?_
                rintro e w1 ⟨rfl, hq⟩
                exact hK _ _ hq rfl
              refine calm_fixA rfl rfl ?_
              apply Exists.intro
              refine ⟨fun a wz hc hk hf K hK => ?_, ?_⟩
              · have h68 := held_isV hf 3 rfl (by kernel_rfl)
                have h71 := held_isV hf 0 rfl (by kernel_rfl)
                have h65 := held_isV hf 6 rfl (by kernel_rfl)
                clear hk hf hc
                go_simp
                exact hK _ _ (Below.refl _ _) rfl
              refine calm_fixA rfl rfl ?_
              apply Exists.intro
              refine ⟨fun a wz hc hk hf K hK => ?_, ?_⟩
              · have h65 := held_isV hf 7 rfl (by kernel_rfl)
                have h72 := held_isV hf 0 rfl (by kernel_rfl)
                clear hk hf hc
                go_simp
                exact hK _ _ (Below.refl _ _) rfl
              refine calm_fixA rfl rfl ?_
              apply Exists.intro
              refine ⟨fun a wz hc hk hf K hK => ?_, ?_⟩
              · have h73 := held_isV hf 0 rfl (by kernel_rfl)
                clear hk hf hc
                go_simp
                exact hK _ _ (Below.refl _ _) rfl
              refine calm_fixA rfl rfl ?_
              apply Exists.intro
              refine ⟨fun a wz hc hk hf K hK => ?_, ?_⟩
              · have hb : Below w8.heap.size w8 wz := hc rfl
                have h11 := hk 11 (by kernel_rfl)
                have h74 := held_isV hf 0 rfl (by kernel_rfl)
                clear hk hf hc
                obtain ⟨y0, y1, y2, y3, _⟩ := (HXX.out.later hb).cells
                go_simp
                exact hK _ _ (Below.refl _ _) rfl
              refine calm_fixA rfl rfl ?_
              apply Exists.intro
              refine ⟨fun a wz hc hk hf K hK => ?_, ?_⟩
              · have hb : Below w8.heap.size w8 wz := hc rfl
                have h75 := held_isV hf 0 rfl (by kernel_rfl)
                have h74 := held_isV hf 1 rfl (by kernel_rfl)
                clear hk hf hc
                have hs := term_size_calls (x) (HTX.out.kept hb)
                rw [HZ1.out] at hs
                go_simp
                refine Calls.mono (hs) ?_
                rintro e w1 ⟨rfl, hq⟩
                exact hK _ _ hq rfl
              refine calm_fixA rfl rfl ?_
              apply Exists.intro
              refine ⟨fun a wz hc hk hf K hK => ?_, ?_⟩
              · have hb : Below w8.heap.size w8 wz := hc rfl
                have h3 := hk 3 (by kernel_rfl)
                have h74 := held_isV hf 2 rfl (by kernel_rfl)
                clear hk hf hc
                obtain ⟨y0, y1, y2, y3, _⟩ := (HX.out.later hb).cells
                go_simp
                exact hK _ _ (Below.refl _ _) rfl
              refine calm_fixA rfl rfl ?_
              apply Exists.intro
              refine ⟨fun a wz hc hk hf K hK => ?_, ?_⟩
              · have hb : Below w8.heap.size w8 wz := hc rfl
                have h77 := held_isV hf 0 rfl (by kernel_rfl)
                have h74 := held_isV hf 3 rfl (by kernel_rfl)
                clear hk hf hc
                have hs := term_size_calls (t) (HT.out.kept hb)
                rw [HZ2.out] at hs
                go_simp
                refine Calls.mono (hs) ?_
                rintro e w1 ⟨rfl, hq⟩
                exact hK _ _ hq rfl
              refine calm_fixA rfl rfl ?_
              apply Exists.intro
              refine ⟨fun a wz hc hk hf K hK => ?_, ?_⟩
              · have h76 := held_isV hf 2 rfl (by kernel_rfl)
                have h78 := held_isV hf 0 rfl (by kernel_rfl)
                have h74 := held_isV hf 4 rfl (by kernel_rfl)
                clear hk hf hc
                go_simp
                exact hK _ _ (Below.refl _ _) rfl
              refine calm_fixA rfl rfl ?_
              apply Exists.intro
              refine ⟨fun a wz hc hk hf K hK => ?_, ?_⟩
              · have h74 := held_isV hf 5 rfl (by kernel_rfl)
                have h79 := held_isV hf 0 rfl (by kernel_rfl)
                clear hk hf hc
                go_simp
                exact hK _ _ (Below.refl _ _) rfl
              refine calm_fixA rfl rfl ?_
              apply Exists.intro
              refine ⟨fun a wz hc hk hf K hK => ?_, ?_⟩
              · have h80 := held_isV hf 0 rfl (by kernel_rfl)
                clear hk hf hc
                go_simp
                exact hK _ _ (Below.refl _ _) rfl
              refine calm_nil ?_
              refine ⟨keeps_none, ?_⟩
              intro w9 hc
              simp only [lexL, calmEnd]
              rintro _ rfl _ rfl _ rfl _ rfl _ rfl _ rfl _ rfl _ rfl _ rfl _ rfl _ rfl _ rfl _ rfl _ rfl _ rfl _ rfl _ rfl _ rfl
              have hq : Below w8.heap.size w8 w9 := hc rfl
              have hb := HB.out
              clear hc 
              simp only [Act.put, List.setIfInBounds_toArray, List.set_cons_zero, List.set_cons_succ]
              replace HX := Lib.hid (HX.out.later hq)
              replace HXX := Lib.hid (HXX.out.later hq)
              replace HT := Lib.hid (HT.out.kept hq)
              replace HTX := Lib.hid (HTX.out.kept hq)
              replace HR := Lib.hid (StrsIn.kept HR.out hq)
              replace HOT := Lib.hid (StrsIn.kept HOT.out hq)
              replace hb := hb.trans (hq.mono hb.size)
              clear hq
              go_wp2
              go_ret
              exact ⟨rfl, hb⟩
      · have d0 : ((row.length : Int) == 0) = true := by rw [beq_iff_eq]; omega
        have d1 : (row.length == 0) = true := by rw [beq_iff_eq]; omega
        go_enter Try.func6, Try.ntmps6
        go_wp2_with (first | (go_at_call 8; refine (HG.out _ hb).step (w0 := w) (B := w.heap.size) hb hB ?_; clear hb hB; intro wg hb hB) | (go_at_call 9; refine (HSM.out _ hb).step ?_) | (go_at_call 10; refine HAW.out.step (w0 := w) (B := w.heap.size) hb hB ?_; clear hb hB; intro wa hb hB))
        go_ret
        exact ⟨rfl, hb⟩
end Go.Proofs.Ytppmmkmlngmafaa
