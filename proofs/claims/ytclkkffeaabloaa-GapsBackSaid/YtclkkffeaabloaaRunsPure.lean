/- Plain facts on cells as runs: no program. -/
import Derived.Test.YtclkkffeaabloaaVaryPure
namespace Go.Proofs.Ytclkkffeaabloaa
open Go Go.RowKit

theorem ba_ext {a b : ByteArray} (h : a.data.toList = b.data.toList) : a = b := by
  cases a with | mk x => cases b with | mk y => cases x; cases y; cases h; rfl
theorem ba_beq (a b : ByteArray) : (a.toList == b.toList) = decide (a = b) := by
  rw [Bool.eq_iff_iff, beq_iff_eq, decide_eq_true_eq, ByteArray.toList_eq, ByteArray.toList_eq]
  exact ⟨ba_ext, fun h => by rw [h]⟩
theorem ba_len (s : ByteArray) : s.data.toList.length = s.size := Array.length_toList

/-- One more cell behind runs. -/
def addRun (rs : List (ByteArray × Nat)) (c : ByteArray) : List (ByteArray × Nat) :=
  match rs.getLast? with
  | none => [(c, 1)]
  | some (d, n) => if d = c then rs.dropLast ++ [(d, n + 1)] else rs ++ [(c, 1)]
def runsOf (l : List ByteArray) : List (ByteArray × Nat) := l.foldl addRun []
theorem runsOf_snoc (l : List ByteArray) (c : ByteArray) : runsOf (l ++ [c]) = addRun (runsOf l) c := by simp [runsOf, List.foldl_append]

def spread (rs : List (ByteArray × Nat)) : List ByteArray := rs.flatMap fun x => List.replicate x.2 x.1
def many (rs : List (ByteArray × Nat)) : Nat := (rs.map (·.2)).foldr (· + ·) 0
theorem many_nil : many [] = 0 := rfl
theorem many_cons (x : ByteArray × Nat) (rs : List (ByteArray × Nat)) : many (x :: rs) = x.2 + many rs := rfl
theorem many_append (rs tl : List (ByteArray × Nat)) : many (rs ++ tl) = many rs + many tl := by
  induction rs with
  | nil => simp [many_nil]
  | cons x rs ih => simp only [List.cons_append, many_cons, ih]; omega
theorem spread_length (rs : List (ByteArray × Nat)) : (spread rs).length = many rs := by
  induction rs with
  | nil => rfl
  | cons x rs ih => rw [many_cons, ← ih]; simp [spread]
theorem spread_append (rs tl : List (ByteArray × Nat)) : spread (rs ++ tl) = spread rs ++ spread tl := by simp [spread]

/-- Runs as they must be: none empty, no two side by side the same. -/
def Good : List (ByteArray × Nat) → Prop
  | [] => True
  | [x] => 1 ≤ x.2
  | x :: y :: rs => 1 ≤ x.2 ∧ x.1 ≠ y.1 ∧ Good (y :: rs)
theorem Good.tail {x : ByteArray × Nat} {rs : List (ByteArray × Nat)} (h : Good (x :: rs)) : Good rs ∧ 1 ≤ x.2 := by
  cases rs with
  | nil => exact ⟨trivial, h⟩
  | cons y rs => exact ⟨h.2.2, h.1⟩
theorem good_snoc : ∀ (rs : List (ByteArray × Nat)) (x : ByteArray × Nat), Good rs → 1 ≤ x.2 → (∀ y, rs.getLast? = some y → y.1 ≠ x.1) → Good (rs ++ [x])
  | [], x, _, h, _ => h
  | [y], x, h0, h, h1 => ⟨h0, h1 y rfl, h⟩
  | y :: z :: rs, x, h0, h, h1 => ⟨h0.1, h0.2.1, good_snoc (z :: rs) x h0.2.2 h (fun w hw => h1 w (by simpa using hw))⟩
theorem good_append_left : ∀ (rs tl : List (ByteArray × Nat)), Good (rs ++ tl) → Good rs
  | [], _, _ => trivial
  | [_], _, h => h.tail.2
  | _ :: y :: rs, tl, h => ⟨h.1, h.2.1, good_append_left (y :: rs) tl h.2.2⟩
theorem good_append_right (rs tl : List (ByteArray × Nat)) (h : Good (rs ++ tl)) : Good tl := by
  induction rs with
  | nil => exact h
  | cons x rs ih => exact ih h.tail.1
theorem good_meet : ∀ (rs tl : List (ByteArray × Nat)) (x y : ByteArray × Nat), Good (rs ++ y :: tl) → rs.getLast? = some x → x.1 ≠ y.1
  | [], _, _, _, _, h => by simp at h
  | [z], tl, x, y, hg, h => by simp at h; subst h; exact hg.2.1
  | z :: z' :: rs, tl, x, y, hg, h => good_meet (z' :: rs) tl x y hg.2.2 (by simpa using h)
theorem Good.one_le {rs : List (ByteArray × Nat)} (h : Good rs) : ∀ x ∈ rs, 1 ≤ x.2 := by
  induction rs with
  | nil => simp
  | cons y rs ih =>
    intro x hx
    rcases List.mem_cons.1 hx with rfl | hx
    · exact h.tail.2
    · exact ih h.tail.1 x hx
theorem many_zero {rs : List (ByteArray × Nat)} (h : Good rs) (h0 : many rs = 0) : rs = [] := by
  cases rs with
  | nil => rfl
  | cons x rs => have := h.tail.2; rw [many_cons] at h0; omega

theorem dropLast_last {α : Type} (rs : List α) (x : α) (h : rs.getLast? = some x) : rs = rs.dropLast ++ [x] := by
  have hne : rs ≠ [] := by rintro rfl; simp at h
  have h2 := List.dropLast_concat_getLast hne
  rw [List.getLast?_eq_some_getLast hne] at h
  have h3 : rs.getLast hne = x := by simpa using h
  rw [h3] at h2
  exact h2.symm
theorem good_bump (rs : List (ByteArray × Nat)) (d : ByteArray) (n m : Nat) (h : Good (rs ++ [(d, n)])) (hm : 1 ≤ m) : Good (rs ++ [(d, m)]) :=
  good_snoc rs (d, m) (good_append_left _ _ h) hm fun y hy => good_meet rs [] y (d, n) h hy
theorem addRun_good (rs : List (ByteArray × Nat)) (c : ByteArray) (h : Good rs) : Good (addRun rs c) ∧ spread (addRun rs c) = spread rs ++ [c] := by
  unfold addRun
  cases hl : rs.getLast? with
  | none =>
    have : rs = [] := by simpa using hl
    subst this
    exact ⟨Nat.le_refl _, rfl⟩
  | some x =>
    obtain ⟨d, n⟩ := x
    have e := dropLast_last rs _ hl
    simp only
    split
    · rename_i hd
      subst hd
      constructor
      · refine good_bump _ d n _ (by rw [← e]; exact h) (by omega)
      · rw [spread_append]
        have e2 : spread rs = spread rs.dropLast ++ spread [(d, n)] := by rw [← spread_append, ← e]
        rw [e2, List.append_assoc]
        congr 1
        simp only [spread, List.flatMap_cons, List.flatMap_nil, List.append_nil, List.replicate_succ']
    · rename_i hd
      refine ⟨good_snoc rs (c, 1) h (Nat.le_refl _) fun y hy => ?_, by rw [spread_append]; rfl⟩
      rw [hl] at hy
      simp at hy
      subst hy
      exact hd
theorem runsOf_good (l : List ByteArray) : Good (runsOf l) ∧ spread (runsOf l) = l := by
  induction hn : l.length generalizing l with
  | zero => have : l = [] := List.eq_nil_of_length_eq_zero hn; subst this; exact ⟨trivial, rfl⟩
  | succ n ih =>
    have hne : l ≠ [] := by rintro rfl; simp at hn
    have e := (List.dropLast_concat_getLast hne).symm
    obtain ⟨h1, h2⟩ := ih l.dropLast (by rw [List.length_dropLast, hn]; rfl)
    have h3 := addRun_good _ (l.getLast hne) h1
    rw [h2] at h3
    rw [e, runsOf_snoc]
    exact h3
theorem many_runsOf (l : List ByteArray) : many (runsOf l) = l.length := by rw [← spread_length, (runsOf_good l).2]

/-- Runs are told by their cells. -/
theorem good_unique : ∀ (rs rs' : List (ByteArray × Nat)), Good rs → Good rs' → spread rs = spread rs' → rs = rs'
  | [], rs', _, h', h => by
    have := congrArg List.length h
    rw [spread_length, spread_length] at this
    exact (many_zero h' this.symm).symm
  | x :: rs, [], hg, _, h => by
    have := congrArg List.length h
    rw [spread_length, spread_length] at this
    exact many_zero hg this
  | (c, n) :: rs, (d, m) :: rs', hg, hg', h => by
    obtain ⟨g1, g2⟩ := hg.tail
    obtain ⟨g1', g2'⟩ := hg'.tail
    simp only at g2 g2'
    have hs : ∀ (c : ByteArray) n rs, spread ((c, n) :: rs) = List.replicate n c ++ spread rs := fun c n rs => rfl
    rw [hs, hs] at h
    have hcd : c = d := by
      have h0 := congrArg List.head? h
      obtain ⟨n, rfl⟩ : ∃ k, n = k + 1 := ⟨n - 1, by omega⟩
      obtain ⟨m, rfl⟩ : ∃ k, m = k + 1 := ⟨m - 1, by omega⟩
      simpa [List.replicate_succ] using h0
    subst hcd
    have aux : ∀ (n m : Nat) (rs rs' : List (ByteArray × Nat)), Good ((c, 1) :: rs) → Good rs' → n < m → List.replicate n c ++ spread rs = List.replicate m c ++ spread rs' → False := by
      intro n m rs rs' hg hg' hlt h
      obtain ⟨k, rfl⟩ : ∃ k, m = n + (k + 1) := ⟨m - n - 1, by omega⟩
      rw [← List.replicate_append_replicate, List.append_assoc] at h
      have h := List.append_cancel_left h
      cases rs with
      | nil => simp [spread, List.replicate_succ] at h
      | cons y rs =>
        obtain ⟨e, q⟩ := y
        have hq : 1 ≤ q := hg.2.2.tail.2
        obtain ⟨q, rfl⟩ : ∃ k, q = k + 1 := ⟨q - 1, by omega⟩
        have h0 := congrArg List.head? h
        rw [hs] at h0
        simp [List.replicate_succ] at h0
        exact hg.2.1 h0.symm
    have hone : ∀ n rs, Good ((c, n) :: rs) → Good ((c, 1) :: rs) := by
      intro n rs h
      cases rs with
      | nil => exact Nat.le_refl _
      | cons y rs => exact ⟨Nat.le_refl _, h.2.1, h.2.2⟩
    rcases Nat.lt_trichotomy n m with hlt | rfl | hlt
    · exact (aux n m rs rs' (hone n rs hg) g1' hlt h).elim
    · have h := List.append_cancel_left h
      rw [good_unique rs rs' g1 g1' h]
    · exact (aux m n rs' rs (hone m rs' hg') g1 hlt h.symm).elim
theorem runsOf_spread (rs : List (ByteArray × Nat)) (h : Good rs) : runsOf (spread rs) = rs := good_unique _ _ (runsOf_good _).1 h (runsOf_good _).2

/-- A cell's bytes, runs' bytes. -/
def cellP (c : ByteArray) : List UInt8 := vp c.size ++ c.data.toList
def runB (rs : List (ByteArray × Nat)) : List UInt8 := rs.flatMap fun x => cellP x.1 ++ vp x.2
def runsP (l : List ByteArray) : List UInt8 := runB (runsOf l)
theorem runB_append (rs tl : List (ByteArray × Nat)) : runB (rs ++ tl) = runB rs ++ runB tl := by simp [runB]
theorem runB_cons (x : ByteArray × Nat) (rs : List (ByteArray × Nat)) : runB (x :: rs) = cellP x.1 ++ (vp x.2 ++ runB rs) := by simp [runB]

def Small (c : ByteArray) : Prop := c.size < 18446744073709551616
theorem vp_front {a b : Nat} (ha : a < 18446744073709551616) (hb : b < 18446744073709551616) {r r' : List UInt8} (h : vp a ++ r = vp b ++ r') : a = b ∧ r = r' := by
  have h1 := nextNum_vp a ha r
  have h2 := nextNum_vp b hb r'
  rw [h, h2] at h1
  simp only [Option.some.injEq, Prod.mk.injEq] at h1
  obtain ⟨e, _⟩ := h1
  subst e
  exact ⟨rfl, List.append_cancel_left h⟩
theorem cellP_front {c d : ByteArray} (hc : Small c) (hd : Small d) {r r' : List UInt8} (h : cellP c ++ r = cellP d ++ r') : c = d ∧ r = r' := by
  unfold cellP at h
  rw [List.append_assoc, List.append_assoc] at h
  obtain ⟨e, h⟩ := vp_front hc hd h
  obtain ⟨e1, e2⟩ := List.append_inj h (by rw [ba_len, ba_len, e])
  exact ⟨ba_ext e1, e2⟩
def Fits (rs : List (ByteArray × Nat)) : Prop := ∀ x ∈ rs, Small x.1 ∧ x.2 < 18446744073709551616
theorem many_le {rs : List (ByteArray × Nat)} : ∀ x ∈ rs, x.2 ≤ many rs := by
  induction rs with
  | nil => simp
  | cons y rs ih =>
    intro x hx
    rw [many_cons]
    rcases List.mem_cons.1 hx with rfl | hx
    · omega
    · have := ih x hx; omega
theorem runB_prefix : ∀ (rs rs' : List (ByteArray × Nat)) (r r' : List UInt8), Good rs → Good rs' → Fits rs → Fits rs' → many rs ≤ many rs' → runB rs ++ r = runB rs' ++ r' → ∃ tl, rs' = rs ++ tl ∧ r = runB tl ++ r'
  | [], rs', r, r', _, _, _, _, _, h => ⟨rs', rfl, h⟩
  | x :: rs, [], r, r', hg, _, _, _, hm, _ => by
    have := hg.tail.2
    rw [many_cons, many_nil] at hm
    omega
  | x :: rs, y :: rs', r, r', hg, hg', hf, hf', hm, h => by
    rw [runB_cons, runB_cons, List.append_assoc, List.append_assoc, List.append_assoc, List.append_assoc] at h
    obtain ⟨e1, k1⟩ := cellP_front (hf x List.mem_cons_self).1 (hf' y List.mem_cons_self).1 h
    obtain ⟨e2, k2⟩ := vp_front (hf x List.mem_cons_self).2 (hf' y List.mem_cons_self).2 k1
    clear k1 h
    obtain rfl : x = y := Prod.ext e1 e2
    rw [many_cons, many_cons] at hm
    obtain ⟨tl, e3, e4⟩ := runB_prefix rs rs' r r' hg.tail.1 hg'.tail.1 (fun z hz => hf z (List.mem_cons_of_mem _ hz)) (fun z hz => hf' z (List.mem_cons_of_mem _ hz)) (by omega) k2
    exact ⟨tl, by rw [e3]; rfl, e4⟩

theorem mem_spread {rs : List (ByteArray × Nat)} (h : Good rs) : ∀ x ∈ rs, x.1 ∈ spread rs := by
  intro x hx
  unfold spread
  rw [List.mem_flatMap]
  exact ⟨x, hx, List.mem_replicate.2 ⟨by have := h.one_le x hx; omega, rfl⟩⟩
theorem fits_runsOf (l : List ByteArray) (h : ∀ c ∈ l, Small c) (hl : l.length < 18446744073709551616) : Fits (runsOf l) := by
  obtain ⟨g, e⟩ := runsOf_good l
  intro x hx
  refine ⟨h _ (by rw [← e]; exact mem_spread g x hx), ?_⟩
  have := many_le x hx
  rw [many_runsOf] at this
  omega
theorem runsP_prefix (l l' : List ByteArray) (r r' : List UInt8) (h1 : ∀ c ∈ l, Small c) (h2 : ∀ c ∈ l', Small c) (hl : l.length = l'.length) (hb : l.length < 18446744073709551616) (h : runsP l ++ r = runsP l' ++ r') : l = l' ∧ r = r' := by
  obtain ⟨g, e⟩ := runsOf_good l
  obtain ⟨g', e'⟩ := runsOf_good l'
  obtain ⟨tl, e3, e4⟩ := runB_prefix _ _ r r' g g' (fits_runsOf l h1 hb) (fits_runsOf l' h2 (by omega)) (by rw [many_runsOf, many_runsOf]; omega) h
  have hz : many tl = 0 := by
    have := congrArg many e3
    rw [many_append, many_runsOf, many_runsOf] at this
    omega
  have ht : tl = [] := many_zero (good_append_right (runsOf l) tl (by rw [← e3]; exact g')) hz
  subst ht
  rw [List.append_nil] at e3
  refine ⟨?_, by simpa [runB] using e4⟩
  rw [← e, ← e', e3]
end Go.Proofs.Ytclkkffeaabloaa
