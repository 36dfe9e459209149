/- A law's last step: it returned true, and of what was there nothing has turned. -/
import Derived.Test.YtppmmkmlngmafaaRows
import Derived.ProofKit
import Derived.WalkKit
import Derived.OpenShut
import Derived.Deep.Slices
namespace Go.Proofs.Ytppmmkmlngmafaa
open Go Go.RowKit Go.WideShapes Go.ChangeShapes Go.ChangeAt

theorem Try.own : ownKnob Try.prog.godebug = none := by kernel_rfl
theorem Try.laidOut : laidOutB Try.prog = true := by kernel_rfl

section
variable {H : Type} {enc : TypeId × Value → H} {P : Program}

theorem trodAll_stays (hl : laidOutB P = true) {W W' : World} (hb : Below W.heap.size W W') {sp : Nat → Bool} :
    ∀ {ts : List TypeId} {vs : List Value} {ds : List (DataW H)} {ps : List MemPlace}, (ts.all fun t => P.readableRec t && decide (t < P.types.size)) = true →
      (∀ x ∈ ps, x.block < W.heap.size) → (∀ x ∈ ps, sp x.block = true) →
      DataW.TrodAll enc P W 0 (fun _ => true) true ts vs ds ps → DataW.TrodAll enc P W' 0 sp true ts vs ds ps
  | [], [], [], _, _, _, _, h => h
  | t :: ts, v :: vs, d :: ds, ps, hr, hlt, hs, h => by
    obtain ⟨p, q, h1, h2, rfl⟩ := h
    simp only [List.all_cons, Bool.and_eq_true, decide_eq_true_eq] at hr
    exact ⟨p, q, WideElems.Trod_stays hl hr.1.1 hr.1.2 h1 (fun x hx => hb.same (hlt x (List.mem_append_left _ hx))) (fun x hx => hs x (List.mem_append_left _ hx)),
      trodAll_stays hl hb hr.2 (fun x hx => hlt x (List.mem_append_right _ hx)) (fun x hx => hs x (List.mem_append_right _ hx)) h2, rfl⟩

theorem post_of_below' {f : Func} {s : ChangeSpec} {apart fresh handsOn again : Bool} {W W' : World} {args : Array Value} {v : Value} {ds gs : List (DataW H)} {before pa pv : List MemPlace}
    (hW : DataW.Whole enc P f.params.toList s.vars apart W args.toList ds gs before)
    (hres : ∀ (b : Nat) (sp : Nat → Bool) (hd : Bool), DataW.TrodAll enc P W' b sp hd f.resultTypes.toList (v.resultList f.resultTypes.size) (s.fn H (ds ++ gs)).results [])
    (hargs : ∀ sp : Nat → Bool, (∀ p ∈ before, sp p.block = true) → DataW.TrodAll enc P W' 0 sp true f.params.toList args.toList (s.fn H (ds ++ gs)).args pa)
    (hvars : ∀ sp : Nat → Bool, (∀ p ∈ before, sp p.block = true) → DataW.TrodVars enc P W' sp s.vars (s.fn H (ds ++ gs)).vars pv)
    (hps : before = pa ++ pv) (hb : Below W.heap.size W W')
    (hok : ∀ (j : Nat) (t : TypeId) (r : Value), f.resultTypes[j]? = some t → (v.resultList f.resultTypes.size)[j]? = some r → Value.okWide P W' .any 0 t r) :
    s.post enc P f apart fresh handsOn again W args v W' := by
  have hlt : ∀ p ∈ before, p.block < W.heap.size := fun p hp => hW.lt p hp
  have hold : ∀ p ∈ before, (fun b => decide (b < W.heap.size)) p.block = true := fun p hp => by simpa using hlt p hp
  refine ⟨ds, gs, before, [], pa, pv, hW, hres _ _ _, hargs _ hold, hvars _ hold, World.keptBut_mono (fun p hp => ⟨hp, ?_⟩) (hb.frame (· ∈ before)), fun _ => ?_⟩
  · rw [hps, List.mem_append] at hp
    exact Or.inr hp
  · obtain ⟨_, _, _, _, _, hz, hn⟩ := hW
    refine ⟨hok, _, _, ([] ++ pa) ++ pv, ⟨[] ++ pa, pv, trodAll_append (hargs _ (fun _ _ => rfl)) (hres _ _ _), hvars _ (fun _ _ => rfl), rfl, ?_, ?_⟩, ?_⟩
    · intro b off hp
      have hin : MemPlace.cell b off ∈ before := by rw [hps]; simpa using hp
      rw [hb.frozen (hlt _ hin)]
      exact hz b off hin
    · intro ha
      have := hn ha
      rw [hps] at this
      simpa using this
    · intro p hp _
      rw [hps]
      simpa using hp

/-- A law that names no variable: it returned true, and what it was given lies as it lay. -/
theorem law_post {f : Func} {s : ChangeSpec} {apart fresh handsOn again : Bool} {W W' : World} {args : Array Value} {ds gs : List (DataW H)} {before : List MemPlace} {tb : TypeId}
    (hl : laidOutB P = true) (hr : (f.params.toList.all fun t => P.readableRec t && decide (t < P.types.size)) = true)
    (hrt : f.resultTypes = #[tb]) (htb : P.underlying tb = some .bool) (hv : s.vars = [])
    (hW : DataW.Whole enc P f.params.toList s.vars apart W args.toList ds gs before) (hb : Below W.heap.size W W')
    (hfn : s.fn H (ds ++ gs) = { results := [.lit (.bool true)], args := ds }) : s.post enc P f apart fresh handsOn again W args (.bool true) W' := by
  have hlt : ∀ p ∈ before, p.block < W.heap.size := fun p hp => hW.lt p hp
  have hW0 := hW
  obtain ⟨p, q, hA, hV, hpq, hz, hn⟩ := hW0
  rw [hv] at hV
  have hq : q = [] := by
    cases gs with
    | nil => exact hV
    | cons g gs => exact hV.elim
  subst hq
  rw [List.append_nil] at hpq
  subst hpq
  refine post_of_below' (pa := before) (pv := []) hW (fun b sp hd => ?_) (fun sp hs => ?_) (fun sp hs => ?_) (by simp) hb ?_
  · rw [hfn, hrt]
    exact ⟨[], [], shut_bool htb true, rfl, rfl⟩
  · rw [hfn]
    exact trodAll_stays hl hb hr hlt hs hA
  · rw [hfn, hv]
    exact rfl
  · exact ok_one hrt rfl (okWide_bool_mk htb _)

/-- An array of two strings. -/
theorem open_strs2 {w : World} {base b0 : Nat} {sp : Nat → Bool} {held : Bool} {r : Reach} {t e : TypeId} {v : Value} {d : DataW H} {ps : List MemPlace} (ht : P.underlying t = some (.array 2 e))
    (he : P.underlying e = some .string) (hc : P.cellsOf t = 2) (hce : P.cellsOf e = 1) (hval : Value.okWide P w r b0 t v) (hd : DataW.Trod enc P w base sp held t v d ps) :
    ∃ s0 s1 : ByteArray, v = .agg #[.string s0, .string s1] ∧ s0.size ≤ maxLen ∧ s1.size ≤ maxLen := by
  unfold Value.okWide at hval
  rw [ht] at hval
  obtain ⟨cs, rfl, hsz, _⟩ := hval
  rw [hc] at hsz
  obtain ⟨fuel, hf⟩ := hd
  obtain ⟨xs, m, rfl, _, _, hl, h⟩ := DataW.trod_array ht hf
  obtain ⟨cl⟩ := cs
  match cl, hsz, xs, hl with
  | [c0, c1], _, [x0, x1], _ =>
    have h0 := h 0 (by omega)
    have h1 := h 1 (by omega)
    rw [hce] at h0 h1
    have k0 : DataW.trod enc P w base sp held m e [c0] = some x0 := h0
    have k1 : DataW.trod enc P w base sp held m e [c1] = some x1 := h1
    obtain ⟨s0, e0, _, z0⟩ := DataW.trod_string he k0
    obtain ⟨s1, e1, _, z1⟩ := DataW.trod_string he k1
    simp only [List.cons.injEq, and_true] at e0 e1
    subst e0
    subst e1
    exact ⟨s0, s1, rfl, z0, z1⟩

theorem cells_two {w : World} {base : Nat} {a : Addr} {cs : List Value} (h : w.cells? base a 2 = some cs) : ∃ c0 c1, cs = [c0, c1] ∧ w.cell? a = some c0 ∧ w.cell? (a.add 1) = some c1 := by
  unfold World.cells? at h
  split at h
  · have h' : (List.range 2).mapM (fun i => w.cell? (a.add i)) = some cs := h
    have e : List.range 2 = [0, 1] := rfl
    rw [e] at h'
    simp only [List.mapM_cons, List.mapM_nil] at h'
    cases h0 : w.cell? (a.add 0) with
    | none => rw [h0] at h'; simp at h'
    | some c0 =>
      cases h1 : w.cell? (a.add 1) with
      | none => rw [h0, h1] at h'; simp at h'
      | some c1 =>
        rw [h0, h1] at h'
        simp at h'
        exact ⟨c0, c1, h'.symm, h0, rfl⟩
  · exact absurd h (by simp)
theorem cell_spot {w : World} {a : Addr} {v : Value} (h : w.cell? a = some v) : a.spot = none := by
  unfold World.cell? at h
  split at h
  · split at h
    · exact absurd h (by simp)
    · rename_i hs
      cases hp : a.spot with
      | none => rfl
      | some x => rw [hp] at hs; exact absurd rfl hs
  · exact absurd h (by simp)
theorem addr_plain {a : Addr} (h : a.spot = none) (n : Nat) : a.add n = ⟨a.block, a.off + n, none⟩ := by
  cases a with | mk b o s =>
  simp only at h
  subst h
  unfold Addr.add
  split
  · rename_i h0; subst h0; rfl
  · rfl

/-- A slice of arrays of two numbers: each number's cell, by its place. -/
theorem open_pairs {w : World} {base b0 : Nat} {sp : Nat → Bool} {held : Bool} {r : Reach} {t e q : TypeId} {v : Value} {d : DataW H} {ps : List MemPlace} (ht : P.underlying t = some (.slice e))
    (he : P.underlying e = some (.array 2 q)) (hq : P.underlying q = some (.int .u64)) (hc : P.cellsOf e = 2) (hcq : P.cellsOf q = 1) (hval : Value.okWide P w r b0 t v) (hd : DataW.Trod enc P w base sp held t v d ps) :
    v = .slice none 0 0 ∨ (∃ a cap, v = .slice (some a) 0 cap) ∨ ∃ b off n cap, ∃ X Y : Nat → Nat, v = .slice (some ⟨b, off, none⟩) n cap ∧ b < w.heap.size ∧
      (∀ i, i < n → w.cell? ⟨b, off + i * 2, none⟩ = some (.int .u64 (X i))) ∧ (∀ i, i < n → w.cell? ⟨b, off + i * 2 + 1, none⟩ = some (.int .u64 (Y i))) ∧
      (∀ i, i < n → X i < 18446744073709551616) ∧ (∀ i, i < n → Y i < 18446744073709551616) := by
  obtain ⟨a0, len0, cap0, rfl⟩ := okWide_slice ht hval
  obtain ⟨fuel, hf⟩ := hd
  rcases Go.Deep.open_slice ht hf with ⟨hcs, hx⟩ | ⟨a, len, cap, m, n, D, Pl, hcs, _, hl, hm, hmm, hx, hall⟩
  · simp [Value.cells] at hcs
    obtain ⟨rfl, rfl, rfl⟩ := hcs
    exact Or.inl rfl
  · simp [Value.cells] at hcs
    obtain ⟨rfl, rfl, rfl⟩ := hcs
    refine Or.inr ?_
    by_cases hz : len0 = 0
    · subst hz; exact Or.inl ⟨a, cap0, rfl⟩
    refine Or.inr ?_
    have hlm : len0 ≤ m := by rw [hmm]; split <;> omega
    have each : ∀ i, i < len0 → ∃ x : Nat × Nat, w.cell? (a.add (i * 2)) = some (.int .u64 x.1) ∧ w.cell? ((a.add (i * 2)).add 1) = some (.int .u64 x.2) ∧ x.1 < 18446744073709551616 ∧ x.2 < 18446744073709551616 := by
      intro i hi
      obtain ⟨cs', h1, h2⟩ := hall i (by omega)
      rw [hc] at h1
      obtain ⟨c0, c1, rfl, k0, k1⟩ := cells_two h1
      obtain ⟨xs, m', e1, e2, e3, hl', h'⟩ := DataW.trod_array he h2
      have g0 := h' 0 (by omega)
      have g1 := h' 1 (by omega)
      rw [hcq] at g0 g1
      match xs, hl' with
      | [y0, y1], _ =>
        have q0 : DataW.trod enc P w base sp held m' q [c0] = some y0 := g0
        have q1 : DataW.trod enc P w base sp held m' q [c1] = some y1 := g1
        obtain ⟨n0, z0, _, w0⟩ := DataW.trod_int hq q0
        obtain ⟨n1, z1, _, w1⟩ := DataW.trod_int hq q1
        simp only [List.cons.injEq, and_true] at z0 z1
        subst z0
        subst z1
        have b0 := Go.bounds_u64 w0
        have b1 := Go.bounds_u64 w1
        refine ⟨(n0.toNat, n1.toNat), ?_, ?_, ?_, ?_⟩
        · rw [k0]; simp only [Option.some.injEq, Value.int.injEq, true_and]; omega
        · rw [k1]; simp only [Option.some.injEq, Value.int.injEq, true_and]; omega
        · show n0.toNat < _; omega
        · show n1.toNat < _; omega
    obtain ⟨F, hF⟩ := Go.Deep.choose_lt each
    have hsp : a.spot = none := by
      have h0 := (hF 0 (by omega)).1
      rw [Nat.zero_mul] at h0
      exact cell_spot h0
    have hF' : ∀ i, i < len0 → w.cell? ⟨a.block, a.off + i * 2, none⟩ = some (.int .u64 (F i).1) ∧ w.cell? ⟨a.block, a.off + i * 2 + 1, none⟩ = some (.int .u64 (F i).2) := by
      intro i hi
      have h := hF i hi
      rw [addr_plain hsp] at h
      have h2 := h.2.1
      rw [addr_plain rfl] at h2
      exact ⟨h.1, h2⟩
    refine ⟨a.block, a.off, len0, cap0, fun i => (F i).1, fun i => (F i).2, ?_, ?_, fun i hi => (hF' i hi).1, fun i hi => (hF' i hi).2, fun i hi => (hF i hi).2.2.1, fun i hi => (hF i hi).2.2.2⟩
    · have := addr_plain hsp 0
      rw [Nat.add_zero] at this
      rw [← this]; rfl
    · have h0 := (hF' 0 (by omega)).1
      unfold World.cell? at h0
      simp only at h0
      cases hh : w.heap[a.block]? with
      | none => rw [hh] at h0; simp at h0
      | some o => exact (Array.getElem?_eq_some_iff.1 hh).1
end
end Go.Proofs.Ytppmmkmlngmafaa
