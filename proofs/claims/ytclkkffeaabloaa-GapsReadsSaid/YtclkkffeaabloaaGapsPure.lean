/- Plain facts on yes and no side by side: no program. -/
import Derived.Test.YtclkkffeaabloaaRunsPure
namespace Go.Proofs.Ytclkkffeaabloaa
open Go Go.RowKit

/-- How many stand side by side, yes first: which one is the last? -/
def nowOf (ls : List Nat) : Bool := ls.length % 2 == 1
def bumpLast (ls : List Nat) : List Nat := match ls.getLast? with
  | none => []
  | some n => ls.dropLast ++ [n + 1]
def addGap (ls : List Nat) (x : Bool) : List Nat := if x = nowOf ls then bumpLast ls else ls ++ [1]
def lensOf (l : List Bool) : List Nat := l.foldl addGap [0]
theorem lensOf_snoc (l : List Bool) (x : Bool) : lensOf (l ++ [x]) = addGap (lensOf l) x := by simp [lensOf, List.foldl_append]

def spreadG : Bool → List Nat → List Bool
  | _, [] => []
  | b, n :: ls => List.replicate n b ++ spreadG (!b) ls
def sumN : List Nat → Nat
  | [] => 0
  | n :: ls => n + sumN ls
theorem spreadG_length : ∀ (b : Bool) (ls : List Nat), (spreadG b ls).length = sumN ls
  | _, [] => rfl
  | b, n :: ls => by simp [spreadG, sumN, spreadG_length (!b) ls]
theorem sumN_append (a b : List Nat) : sumN (a ++ b) = sumN a + sumN b := by
  induction a with
  | nil => simp [sumN]
  | cons n a ih => simp [sumN, ih]; omega
def flip (b : Bool) (n : Nat) : Bool := if n % 2 = 1 then !b else b
theorem flip_succ (b : Bool) (n : Nat) : flip (!b) n = flip b (n + 1) := by
  unfold flip
  rcases Nat.mod_two_eq_zero_or_one n with h | h
  · rw [if_neg (by omega), if_pos (by omega)]
  · rw [if_pos h, if_neg (by omega), Bool.not_not]
theorem spreadG_append : ∀ (b : Bool) (a c : List Nat), spreadG b (a ++ c) = spreadG b a ++ spreadG (flip b a.length) c
  | b, [], c => rfl
  | b, n :: a, c => by
    simp only [List.cons_append, spreadG, List.length_cons]
    rw [spreadG_append (!b) a c, flip_succ, List.append_assoc]
/-- As they must be: one at least, none behind the first nought. -/
def GoodG (ls : List Nat) : Prop := ∃ n tl, ls = n :: tl ∧ ∀ m ∈ tl, 1 ≤ m
theorem GoodG.ne {ls : List Nat} (h : GoodG ls) : ls ≠ [] := by obtain ⟨n, tl, rfl, _⟩ := h; simp
theorem bump_eq (ls : List Nat) (n : Nat) : bumpLast (ls ++ [n]) = ls ++ [n + 1] := by simp [bumpLast]
theorem nowOf_flip (ls : List Nat) (n : Nat) : nowOf (ls ++ [n]) = flip true ls.length := by
  unfold nowOf flip
  rw [List.length_append]
  rcases Nat.mod_two_eq_zero_or_one ls.length with h | h
  · rw [if_neg (by omega)]; simp; omega
  · rw [if_pos h]; simp; omega
theorem addGap_good (ls : List Nat) (x : Bool) (h : GoodG ls) : GoodG (addGap ls x) ∧ spreadG true (addGap ls x) = spreadG true ls ++ [x] := by
  have e := (List.dropLast_concat_getLast h.ne).symm
  generalize ls.dropLast = a at e
  generalize ls.getLast h.ne = n at e
  have h' := h
  rw [e] at h' ⊢
  have hgood : ∀ m, 1 ≤ m → GoodG (a ++ [m]) := by
    intro m hm
    obtain ⟨n0, tl, e1, h1⟩ := h'
    cases a with
    | nil => exact ⟨m, [], rfl, by simp⟩
    | cons a0 a =>
      simp only [List.cons_append, List.cons.injEq] at e1
      refine ⟨a0, a ++ [m], rfl, fun k hk => ?_⟩
      rcases List.mem_append.1 hk with hk | hk
      · exact h1 k (by rw [← e1.2]; exact List.mem_append_left _ hk)
      · simp at hk; omega
  unfold addGap
  split
  · rename_i hx
    rw [bump_eq]
    refine ⟨hgood _ (by omega), ?_⟩
    rw [nowOf_flip] at hx
    rw [spreadG_append, spreadG_append, ← hx, List.append_assoc]
    congr 1
    simp [spreadG, List.replicate_succ']
  · rename_i hx
    constructor
    · obtain ⟨n0, tl, e1, h1⟩ := h'
      refine ⟨n0, tl ++ [1], by rw [e1]; rfl, fun k hk => ?_⟩
      rcases List.mem_append.1 hk with hk | hk
      · exact h1 k hk
      · simp at hk; omega
    · rw [spreadG_append true (a ++ [n])]
      congr 1
      rw [nowOf_flip] at hx
      have : flip true (a ++ [n]).length = x := by
        rw [List.length_append]
        have := flip_succ true a.length
        unfold flip at this hx ⊢
        simp only [List.length_cons, List.length_nil] at this ⊢
        rcases Nat.mod_two_eq_zero_or_one a.length with h0 | h0
        · rw [if_neg (by omega)] at hx
          rw [if_pos (by omega)]
          cases x <;> simp_all
        · rw [if_pos h0] at hx
          rw [if_neg (by omega)]
          cases x <;> simp_all
      rw [this]
      rfl
theorem lensOf_good (l : List Bool) : GoodG (lensOf l) ∧ spreadG true (lensOf l) = l := by
  induction hn : l.length generalizing l with
  | zero => have : l = [] := List.eq_nil_of_length_eq_zero hn; subst this; exact ⟨⟨0, [], rfl, by simp⟩, rfl⟩
  | succ n ih =>
    have hne : l ≠ [] := by rintro rfl; simp at hn
    have e := (List.dropLast_concat_getLast hne).symm
    obtain ⟨h1, h2⟩ := ih l.dropLast (by rw [List.length_dropLast, hn]; rfl)
    have h3 := addGap_good _ (l.getLast hne) h1
    rw [h2] at h3
    rw [e, lensOf_snoc]
    exact h3
theorem sumN_lensOf (l : List Bool) : sumN (lensOf l) = l.length := by rw [← spreadG_length true, (lensOf_good l).2]

def gapsB (ls : List Nat) : List UInt8 := ls.flatMap vp
def gapsP (l : List Bool) : List UInt8 := gapsB (lensOf l)
theorem gapsB_append (a b : List Nat) : gapsB (a ++ b) = gapsB a ++ gapsB b := by simp [gapsB]
theorem gapsB_cons (n : Nat) (b : List Nat) : gapsB (n :: b) = vp n ++ gapsB b := by simp [gapsB]
theorem sumN_le {ls : List Nat} : ∀ n ∈ ls, n ≤ sumN ls := by
  induction ls with
  | nil => simp
  | cons m ls ih =>
    intro n hn
    rcases List.mem_cons.1 hn with rfl | hn
    · simp [sumN]
    · have := ih n hn; simp only [sumN]; omega
/-- One is the other's beginning, where none is nought but the first. -/
theorem gapsB_tail : ∀ (ls ls' : List Nat) (r r' : List UInt8), (∀ n ∈ ls, 1 ≤ n) → (∀ n ∈ ls, n < 18446744073709551616) → (∀ n ∈ ls', n < 18446744073709551616) → sumN ls ≤ sumN ls' → gapsB ls ++ r = gapsB ls' ++ r' → ∃ tl, ls' = ls ++ tl ∧ r = gapsB tl ++ r'
  | [], ls', r, r', _, _, _, _, h => ⟨ls', rfl, h⟩
  | n :: ls, [], r, r', h1, _, _, hs, _ => by have := h1 n List.mem_cons_self; simp only [sumN] at hs; omega
  | n :: ls, m :: ls', r, r', h1, h2, h3, hs, h => by
    rw [gapsB_cons, gapsB_cons, List.append_assoc, List.append_assoc] at h
    obtain ⟨e, k⟩ := vp_front (h2 n List.mem_cons_self) (h3 m List.mem_cons_self) h
    subst e
    simp only [sumN] at hs
    obtain ⟨tl, e1, e2⟩ := gapsB_tail ls ls' r r' (fun z hz => h1 z (List.mem_cons_of_mem _ hz)) (fun z hz => h2 z (List.mem_cons_of_mem _ hz)) (fun z hz => h3 z (List.mem_cons_of_mem _ hz)) (by omega) k
    exact ⟨tl, by rw [e1]; rfl, e2⟩
theorem gapsB_prefix (ls ls' : List Nat) (r r' : List UInt8) (g : GoodG ls) (g' : GoodG ls') (hs : sumN ls ≤ sumN ls') (hb : sumN ls' < 18446744073709551616) (h : gapsB ls ++ r = gapsB ls' ++ r') :
    ∃ tl, ls' = ls ++ tl ∧ r = gapsB tl ++ r' ∧ ∀ n ∈ tl, 1 ≤ n := by
  obtain ⟨n, tl, rfl, h1⟩ := g
  obtain ⟨m, tl', rfl, h1'⟩ := g'
  have b1 : ∀ k ∈ (n :: tl), k < 18446744073709551616 := fun k hk => by have := sumN_le k hk; omega
  have b2 : ∀ k ∈ (m :: tl'), k < 18446744073709551616 := fun k hk => by have := sumN_le k hk; omega
  rw [gapsB_cons, gapsB_cons, List.append_assoc, List.append_assoc] at h
  obtain ⟨e, k⟩ := vp_front (b1 n List.mem_cons_self) (b2 m List.mem_cons_self) h
  subst e
  simp only [sumN] at hs
  obtain ⟨t, e1, e2⟩ := gapsB_tail tl tl' r r' h1 (fun z hz => b1 z (List.mem_cons_of_mem _ hz)) (fun z hz => b2 z (List.mem_cons_of_mem _ hz)) (by omega) k
  exact ⟨t, by rw [e1]; rfl, e2, fun z hz => h1' z (by rw [e1]; exact List.mem_append_right _ hz)⟩
theorem tl_nil {tl : List Nat} (h : ∀ n ∈ tl, 1 ≤ n) (h0 : sumN tl = 0) : tl = [] := by
  cases tl with
  | nil => rfl
  | cons n tl => have := h n List.mem_cons_self; simp only [sumN] at h0; omega
theorem goodG_unique (ls ls' : List Nat) (g : GoodG ls) (g' : GoodG ls') (h : spreadG true ls = spreadG true ls') : ls = ls' := by
  have aux : ∀ (b : Bool) (n m : Nat) (tl tl' : List Nat), (∀ k ∈ tl, 1 ≤ k) → (∀ k ∈ tl', 1 ≤ k) → n < m → List.replicate n b ++ spreadG (!b) tl = List.replicate m b ++ spreadG (!b) tl' → False := by
    intro b n m tl tl' h1 _ hlt h
    obtain ⟨k, rfl⟩ : ∃ k, m = n + (k + 1) := ⟨m - n - 1, by omega⟩
    rw [← List.replicate_append_replicate, List.append_assoc] at h
    have h := List.append_cancel_left h
    cases tl with
    | nil => simp [spreadG, List.replicate_succ] at h
    | cons q tl =>
      have hq := h1 q List.mem_cons_self
      obtain ⟨q, rfl⟩ : ∃ j, q = j + 1 := ⟨q - 1, by omega⟩
      have h0 := congrArg List.head? h
      simp [spreadG, List.replicate_succ] at h0
  have all : ∀ (tl tl' : List Nat) (b : Bool), (∀ k ∈ tl, 1 ≤ k) → (∀ k ∈ tl', 1 ≤ k) → ∀ n n', List.replicate n b ++ spreadG (!b) tl = List.replicate n' b ++ spreadG (!b) tl' → n :: tl = n' :: tl' := by
    intro tl
    induction tl with
    | nil =>
      intro tl' b h1 h2 n n' h
      rcases Nat.lt_trichotomy n n' with hlt | rfl | hlt
      · exact (aux b n n' _ _ h1 h2 hlt h).elim
      · have h := List.append_cancel_left h
        have := congrArg List.length h
        rw [spreadG_length, spreadG_length] at this
        rw [tl_nil h2 (by simpa [sumN] using this.symm)]
      · exact (aux b n' n _ _ h2 h1 hlt h.symm).elim
    | cons q tl ih =>
      intro tl' b h1 h2 n n' h
      rcases Nat.lt_trichotomy n n' with hlt | rfl | hlt
      · exact (aux b n n' _ _ h1 h2 hlt h).elim
      · have h := List.append_cancel_left h
        cases tl' with
        | nil =>
          have := congrArg List.length h
          rw [spreadG_length, spreadG_length] at this
          have := tl_nil h1 (by simpa [sumN] using this)
          exact absurd this (by simp)
        | cons q' tl' =>
          rw [ih tl' (!b) (fun k hk => h1 k (List.mem_cons_of_mem _ hk)) (fun k hk => h2 k (List.mem_cons_of_mem _ hk)) q q' h]
      · exact (aux b n' n _ _ h2 h1 hlt h.symm).elim
  obtain ⟨n, tl, rfl, h1⟩ := g
  obtain ⟨m, tl', rfl, h1'⟩ := g'
  exact all tl tl' true h1 h1' n m h
theorem lensOf_spread (ls : List Nat) (h : GoodG ls) : lensOf (spreadG true ls) = ls := goodG_unique _ _ (lensOf_good _).1 h (lensOf_good _).2

def GapsAt (s : List UInt8) (many : Int) (l : List Bool) (r : List UInt8) : Prop := 0 ≤ many ∧ many ≤ 4096 ∧ (l.length : Int) = many ∧ s = gapsP l ++ r
theorem GapsAt.same {s : List UInt8} {many : Int} {l l' : List Bool} {r r' : List UInt8} (h : GapsAt s many l r) (k : GapsAt s many l' r') : l = l' ∧ r = r' := by
  obtain ⟨_, _, h3, h5⟩ := h
  obtain ⟨_, _, k3, k5⟩ := k
  obtain ⟨g, e⟩ := lensOf_good l
  obtain ⟨g', e'⟩ := lensOf_good l'
  obtain ⟨tl, e1, e2, e3⟩ := gapsB_prefix _ _ r r' g g' (by rw [sumN_lensOf, sumN_lensOf]; omega) (by rw [sumN_lensOf]; omega) (h5.symm.trans k5)
  have hz : sumN tl = 0 := by
    have := congrArg sumN e1
    rw [sumN_append, sumN_lensOf, sumN_lensOf] at this
    omega
  have ht := tl_nil e3 hz
  subst ht
  rw [List.append_nil] at e1
  exact ⟨by rw [← e, ← e', e1], by simpa [gapsB] using e2⟩
end Go.Proofs.Ytclkkffeaabloaa
