/- Yes and no read one run behind the other: what is known between two; how the reading ends; no walk. -/
import Derived.Test.YtkgjbldlegcajaaGreatGStrs
import Derived.Test.YtkgjbldlegcajaaGreatGRuns
namespace Go.Proofs.YtkgjbldlegcajaaGreat
open Go Go.RowKit
def nowOf (ls : List Nat) : Bool := ls.length % 2 == 1
def bumpLast (ls : List Nat) : List Nat := match ls.getLast? with
 | none => []
 | some n => ls.dropLast ++ [n + 1]
def addGap (ls : List Nat) (x : Bool) : List Nat := if x = nowOf ls then bumpLast ls else ls ++ [1]
def lensOf (l : List Bool) : List Nat := l.foldl addGap [0]
theorem lensOf_snoc (l : List Bool) (x : Bool) : lensOf (l ++ [x]) = addGap (lensOf l) x := by simp [lensOf, List.foldl_append]
def spreadG : Bool → List Nat → List Bool
 | _, [] => []
 | b, n :: ls => List.replicate n b ++ spreadG (!b) ls
def sumN : List Nat → Nat
 | [] => 0
 | n :: ls => n + sumN ls
theorem spreadG_length : ∀ (b : Bool) (ls : List Nat), (spreadG b ls).length = sumN ls
 | _, [] => rfl
 | b, n :: ls => by simp [spreadG, sumN, spreadG_length (!b) ls]
theorem sumN_append (a b : List Nat) : sumN (a ++ b) = sumN a + sumN b := by
 induction a with
 | nil => simp [sumN]
 | cons n a ih => simp [sumN, ih]; omega
def flip (b : Bool) (n : Nat) : Bool := if n % 2 = 1 then !b else b
theorem flip_succ (b : Bool) (n : Nat) : flip (!b) n = flip b (n + 1) := by
 unfold flip
 rcases Nat.mod_two_eq_zero_or_one n with h | h
 ·rw [if_neg (by omega), if_pos (by omega)]
 ·rw [if_pos h, if_neg (by omega), Bool.not_not]
theorem spreadG_append : ∀ (b : Bool) (a c : List Nat), spreadG b (a ++ c) = spreadG b a ++ spreadG (flip b a.length) c
 | b, [], c => rfl
 | b, n :: a, c => by
  simp only [List.cons_append, spreadG, List.length_cons]
  rw [spreadG_append (!b) a c, flip_succ, List.append_assoc]
def GoodG (ls : List Nat) : Prop := ∃ n tl, ls = n :: tl ∧ ∀ m ∈ tl, 1 ≤ m
theorem GoodG.ne {ls : List Nat} (h : GoodG ls) : ls ≠ [] := by obtain ⟨n, tl, rfl, _⟩ := h; simp
theorem bump_eq (ls : List Nat) (n : Nat) : bumpLast (ls ++ [n]) = ls ++ [n + 1] := by simp [bumpLast]
theorem nowOf_flip (ls : List Nat) (n : Nat) : nowOf (ls ++ [n]) = flip true ls.length := by
 unfold nowOf flip
 rw [List.length_append]
 rcases Nat.mod_two_eq_zero_or_one ls.length with h | h
 ·rw [if_neg (by omega)]; simp; omega
 ·rw [if_pos h]; simp; omega
theorem addGap_good (ls : List Nat) (x : Bool) (h : GoodG ls) : GoodG (addGap ls x) ∧ spreadG true (addGap ls x) = spreadG true ls ++ [x] := by
 have e := (List.dropLast_concat_getLast h.ne).symm
 generalize ls.dropLast = a at e
 generalize ls.getLast h.ne = n at e
 have h' := h
 rw [e] at h' ⊢
 have hgood : ∀ m, 1 ≤ m → GoodG (a ++ [m]) := by
  intro m hm
  obtain ⟨n0, tl, e1, h1⟩ := h'
  cases a with
  | nil => exact ⟨m, [], rfl, by simp⟩
  | cons a0 a =>
   simp only [List.cons_append, List.cons.injEq] at e1
   refine ⟨a0, a ++ [m], rfl, fun k hk => ?_⟩
   rcases List.mem_append.1 hk with hk | hk
   ·exact h1 k (by rw [← e1.2]; exact List.mem_append_left _ hk)
   ·simp at hk; omega
 unfold addGap
 split
 ·rename_i hx
  rw [bump_eq]
  refine ⟨hgood _ (by omega), ?_⟩
  rw [nowOf_flip] at hx
  rw [spreadG_append, spreadG_append, ← hx, List.append_assoc]
  congr 1
  simp [spreadG, List.replicate_succ']
 ·rename_i hx
  constructor
  ·obtain ⟨n0, tl, e1, h1⟩ := h'
   refine ⟨n0, tl ++ [1], by rw [e1]; rfl, fun k hk => ?_⟩
   rcases List.mem_append.1 hk with hk | hk
   ·exact h1 k hk
   ·simp at hk; omega
  ·rw [spreadG_append true (a ++ [n])]
   congr 1
   rw [nowOf_flip] at hx
   have : flip true (a ++ [n]).length = x := by
    rw [List.length_append]
    have := flip_succ true a.length
    unfold flip at this hx ⊢
    simp only [List.length_cons, List.length_nil] at this ⊢
    rcases Nat.mod_two_eq_zero_or_one a.length with h0 | h0
    ·rw [if_neg (by omega)] at hx
     rw [if_pos (by omega)]
     cases x <;> simp_all
    ·rw [if_pos h0] at hx
     rw [if_neg (by omega)]
     cases x <;> simp_all
   rw [this]
   rfl
theorem lensOf_good (l : List Bool) : GoodG (lensOf l) ∧ spreadG true (lensOf l) = l := by
 induction hn : l.length generalizing l with
 | zero => have : l = [] := List.eq_nil_of_length_eq_zero hn; subst this; exact ⟨⟨0, [], rfl, by simp⟩, rfl⟩
 | succ n ih =>
  have hne : l ≠ [] := by rintro rfl; simp at hn
  have e := (List.dropLast_concat_getLast hne).symm
  obtain ⟨h1, h2⟩ := ih l.dropLast (by rw [List.length_dropLast, hn]; rfl)
  have h3 := addGap_good _ (l.getLast hne) h1
  rw [h2] at h3
  rw [e, lensOf_snoc]
  exact h3
theorem sumN_lensOf (l : List Bool) : sumN (lensOf l) = l.length := by rw [← spreadG_length true, (lensOf_good l).2]
def gapsB (ls : List Nat) : List UInt8 := ls.flatMap vp
def gapsP (l : List Bool) : List UInt8 := gapsB (lensOf l)
theorem gapsB_append (a b : List Nat) : gapsB (a ++ b) = gapsB a ++ gapsB b := by simp [gapsB]
theorem gapsB_cons (n : Nat) (b : List Nat) : gapsB (n :: b) = vp n ++ gapsB b := by simp [gapsB]
theorem sumN_le {ls : List Nat} : ∀ n ∈ ls, n ≤ sumN ls := by
 induction ls with
 | nil => simp
 | cons m ls ih =>
  intro n hn
  rcases List.mem_cons.1 hn with rfl | hn
  ·simp [sumN]
  ·have := ih n hn; simp only [sumN]; omega
theorem gapsB_tail : ∀ (ls ls' : List Nat) (r r' : List UInt8), (∀ n ∈ ls, 1 ≤ n) → (∀ n ∈ ls, n < 18446744073709551616) → (∀ n ∈ ls', n < 18446744073709551616) → sumN ls ≤ sumN ls' → gapsB ls ++ r = gapsB ls' ++ r' → ∃ tl, ls' = ls ++ tl ∧ r = gapsB tl ++ r'
 | [], ls', r, r', _, _, _, _, h => ⟨ls', rfl, h⟩
 | n :: ls, [], r, r', h1, _, _, hs, _ => by have := h1 n List.mem_cons_self; simp only [sumN] at hs; omega
 | n :: ls, m :: ls', r, r', h1, h2, h3, hs, h => by
  rw [gapsB_cons, gapsB_cons, List.append_assoc, List.append_assoc] at h
  obtain ⟨e, k⟩ := vp_front (h2 n List.mem_cons_self) (h3 m List.mem_cons_self) h
  subst e
  simp only [sumN] at hs
  obtain ⟨tl, e1, e2⟩ := gapsB_tail ls ls' r r' (fun z hz => h1 z (List.mem_cons_of_mem _ hz)) (fun z hz => h2 z (List.mem_cons_of_mem _ hz)) (fun z hz => h3 z (List.mem_cons_of_mem _ hz)) (by omega) k
  exact ⟨tl, by rw [e1]; rfl, e2⟩
theorem gapsB_prefix (ls ls' : List Nat) (r r' : List UInt8) (g : GoodG ls) (g' : GoodG ls') (hs : sumN ls ≤ sumN ls') (hb : sumN ls' < 18446744073709551616) (h : gapsB ls ++ r = gapsB ls' ++ r') :
  ∃ tl, ls' = ls ++ tl ∧ r = gapsB tl ++ r' ∧ ∀ n ∈ tl, 1 ≤ n := by
 obtain ⟨n, tl, rfl, h1⟩ := g
 obtain ⟨m, tl', rfl, h1'⟩ := g'
 have b1 : ∀ k ∈ (n :: tl), k < 18446744073709551616 := fun k hk => by have := sumN_le k hk; omega
 have b2 : ∀ k ∈ (m :: tl'), k < 18446744073709551616 := fun k hk => by have := sumN_le k hk; omega
 rw [gapsB_cons, gapsB_cons, List.append_assoc, List.append_assoc] at h
 obtain ⟨e, k⟩ := vp_front (b1 n List.mem_cons_self) (b2 m List.mem_cons_self) h
 subst e
 simp only [sumN] at hs
 obtain ⟨t, e1, e2⟩ := gapsB_tail tl tl' r r' h1 (fun z hz => b1 z (List.mem_cons_of_mem _ hz)) (fun z hz => b2 z (List.mem_cons_of_mem _ hz)) (by omega) k
 exact ⟨t, by rw [e1]; rfl, e2, fun z hz => h1' z (by rw [e1]; exact List.mem_append_right _ hz)⟩
theorem tl_nil {tl : List Nat} (h : ∀ n ∈ tl, 1 ≤ n) (h0 : sumN tl = 0) : tl = [] := by
 cases tl with
 | nil => rfl
 | cons n tl => have := h n List.mem_cons_self; simp only [sumN] at h0; omega
theorem goodG_unique (ls ls' : List Nat) (g : GoodG ls) (g' : GoodG ls') (h : spreadG true ls = spreadG true ls') : ls = ls' := by
 have aux : ∀ (b : Bool) (n m : Nat) (tl tl' : List Nat), (∀ k ∈ tl, 1 ≤ k) → (∀ k ∈ tl', 1 ≤ k) → n < m → List.replicate n b ++ spreadG (!b) tl = List.replicate m b ++ spreadG (!b) tl' → False := by
  intro b n m tl tl' h1 _ hlt h
  obtain ⟨k, rfl⟩ : ∃ k, m = n + (k + 1) := ⟨m - n - 1, by omega⟩
  rw [← List.replicate_append_replicate, List.append_assoc] at h
  have h := List.append_cancel_left h
  cases tl with
  | nil => simp [spreadG, List.replicate_succ] at h
  | cons q tl =>
   have hq := h1 q List.mem_cons_self
   obtain ⟨q, rfl⟩ : ∃ j, q = j + 1 := ⟨q - 1, by omega⟩
   have h0 := congrArg List.head? h
   simp [spreadG, List.replicate_succ] at h0
 have all : ∀ (tl tl' : List Nat) (b : Bool), (∀ k ∈ tl, 1 ≤ k) → (∀ k ∈ tl', 1 ≤ k) → ∀ n n', List.replicate n b ++ spreadG (!b) tl = List.replicate n' b ++ spreadG (!b) tl' → n :: tl = n' :: tl' := by
  intro tl
  induction tl with
  | nil =>
   intro tl' b h1 h2 n n' h
   rcases Nat.lt_trichotomy n n' with hlt | rfl | hlt
   ·exact (aux b n n' _ _ h1 h2 hlt h).elim
   ·have h := List.append_cancel_left h
    have := congrArg List.length h
    rw [spreadG_length, spreadG_length] at this
    rw [tl_nil h2 (by simpa [sumN] using this.symm)]
   ·exact (aux b n' n _ _ h2 h1 hlt h.symm).elim
  | cons q tl ih =>
   intro tl' b h1 h2 n n' h
   rcases Nat.lt_trichotomy n n' with hlt | rfl | hlt
   ·exact (aux b n n' _ _ h1 h2 hlt h).elim
   ·have h := List.append_cancel_left h
    cases tl' with
    | nil =>
     have := congrArg List.length h
     rw [spreadG_length, spreadG_length] at this
     have := tl_nil h1 (by simpa [sumN] using this)
     exact absurd this (by simp)
    | cons q' tl' =>
     rw [ih tl' (!b) (fun k hk => h1 k (List.mem_cons_of_mem _ hk)) (fun k hk => h2 k (List.mem_cons_of_mem _ hk)) q q' h]
   ·exact (aux b n' n _ _ h2 h1 hlt h.symm).elim
 obtain ⟨n, tl, rfl, h1⟩ := g
 obtain ⟨m, tl', rfl, h1'⟩ := g'
 exact all tl tl' true h1 h1' n m h
theorem lensOf_spread (ls : List Nat) (h : GoodG ls) : lensOf (spreadG true ls) = ls := goodG_unique _ _ (lensOf_good _).1 h (lensOf_good _).2
def GapsAt (s : List UInt8) (many : Int) (l : List Bool) (r : List UInt8) : Prop := 0 ≤ many ∧ many ≤ 4096 ∧ (l.length : Int) = many ∧ s = gapsP l ++ r
theorem GapsAt.same {s : List UInt8} {many : Int} {l l' : List Bool} {r r' : List UInt8} (h : GapsAt s many l r) (k : GapsAt s many l' r') : l = l' ∧ r = r' := by
 obtain ⟨_, _, h3, h5⟩ := h
 obtain ⟨_, _, k3, k5⟩ := k
 obtain ⟨g, e⟩ := lensOf_good l
 obtain ⟨g', e'⟩ := lensOf_good l'
 obtain ⟨tl, e1, e2, e3⟩ := gapsB_prefix _ _ r r' g g' (by rw [sumN_lensOf, sumN_lensOf]; omega) (by rw [sumN_lensOf]; omega) (h5.symm.trans k5)
 have hz : sumN tl = 0 := by
  have := congrArg sumN e1
  rw [sumN_append, sumN_lensOf, sumN_lensOf] at this
  omega
 have ht := tl_nil e3 hz
 subst ht
 rw [List.append_nil] at e1
 exact ⟨by rw [← e, ← e', e1], by simpa [gapsB] using e2⟩
def Beg (ls : List Nat) : Prop := ls = [] ∨ GoodG ls
theorem Beg.snoc {ls : List Nat} (h : Beg ls) {n : Nat} (hn : ls ≠ [] → 1 ≤ n) : GoodG (ls ++ [n]) := by
 rcases h with rfl | ⟨m, tl, rfl, h1⟩
 ·exact ⟨n, [], rfl, by simp⟩
 ·refine ⟨m, tl ++ [n], rfl, fun k hk => ?_⟩
  rcases List.mem_append.1 hk with hk | hk
  ·exact h1 k hk
  ·rw [List.mem_singleton.1 hk]; exact hn (by simp)
theorem sumN_snoc (ls : List Nat) (n : Nat) : sumN (ls ++ [n]) = sumN ls + n := by rw [sumN_append]; simp [sumN]
theorem gaps_more {ls : List Nat} (hg : Beg ls) {s : List UInt8} {cur r : List UInt8} {many : Int} {l : List Bool} (e : s = gapsB ls ++ cur) (hs : ls = [] ∨ (sumN ls : Int) < many) (h : GapsAt s many l r) :
  ∃ m rest, m < 18446744073709551616 ∧ cur = vp m ++ rest ∧ (m : Int) ≤ many - sumN ls ∧ (ls ≠ [] → 1 ≤ m) := by
 obtain ⟨h0, h1, h2, h3⟩ := h
 obtain ⟨g, eg⟩ := lensOf_good l
 have hsum := sumN_lensOf l
 have hall := @sumN_le (lensOf l)
 rcases hg with rfl | hg
 ·obtain ⟨m, tl, em, _⟩ := g
  have hm := hall m (by rw [em]; exact List.mem_cons_self)
  refine ⟨m, gapsB tl ++ r, by omega, ?_, by simp only [sumN]; omega, fun h => absurd rfl h⟩
  rw [e] at h3
  rw [show gapsB [] ++ cur = cur from rfl] at h3
  rw [h3]
  unfold gapsP
  rw [em, gapsB_cons, List.append_assoc]
 ·have hlt : (sumN ls : Int) < many := hs.resolve_left hg.ne
  obtain ⟨tl, e1, e2, e3⟩ := gapsB_prefix ls (lensOf l) cur r hg g (by omega) (by omega) (e.symm.trans h3)
  have hst : sumN (lensOf l) = sumN ls + sumN tl := by rw [e1, sumN_append]
  cases tl with
  | nil => simp only [sumN] at hst; omega
  | cons m tl =>
   simp only [sumN] at hst
   exact ⟨m, gapsB tl ++ r, by omega, by rw [e2, gapsB_cons, List.append_assoc], by omega, fun _ => e3 m List.mem_cons_self⟩
def GState (s : ByteArray) (bad : Bool) (many : Int) (ls : List Nat) (cur : ByteArray) (bb : Bool) : Prop :=
 Beg ls ∧ (sumN ls : Int) ≤ many ∧ ((bb = false ∧ bad = false ∧ s.data.toList = gapsB ls ++ cur.data.toList) ∨ (bb = true ∧ (bad = true ∨ ¬ ∃ l r, GapsAt s.data.toList many l r)))
theorem GState.first (s : ByteArray) (bad : Bool) {many : Int} (h : 0 ≤ many) : GState s bad many [] s bad := by
 refine ⟨.inl rfl, by simpa [sumN] using h, ?_⟩
 cases bad with
 | false => exact .inl ⟨rfl, rfl, rfl⟩
 | true => exact .inr ⟨rfl, .inl rfl⟩
theorem GState.next {s : ByteArray} {bad : Bool} {many : Int} {ls : List Nat} {cur : ByteArray} {bb : Bool} (h : GState s bad many ls cur bb) (hl : ls = [] ∨ (sumN ls : Int) < many) :
  let Y := numT cur bb (many - sumN ls)
  (Y.1 : Int) ≤ many - sumN ls ∧ ((Y.2.2 = true ∨ (ls ≠ [] ∧ Y.1 = 0)) → (bad = true ∨ ¬ ∃ l r, GapsAt s.data.toList many l r)) ∧
  ((ls = [] ∨ Y.1 ≠ 0) → GState s bad many (ls ++ [Y.1]) Y.2.1 Y.2.2) := by
 intro Y
 obtain ⟨hb, hs, h⟩ := h
 have hle : (Y.1 : Int) ≤ many - sumN ls := numT_le cur bb _ (by omega)
 have hbad : (Y.2.2 = true ∨ (ls ≠ [] ∧ Y.1 = 0)) → (bad = true ∨ ¬ ∃ l r, GapsAt s.data.toList many l r) := by
  intro hY
  rcases h with ⟨rfl, hb0, e⟩ | ⟨_, h⟩
  ·refine .inr ?_
   rintro ⟨l, r, hG⟩
   obtain ⟨m, rest, hm, ec, hm2, hm3⟩ := gaps_more hb e hl hG
   have hcur : cur = printB m ++ mkB rest := bytes_ext (by rw [data_append, print_data, mkB_data, ec])
   have hYe : Y = (m, mkB rest, false) := by
    show numT cur false _ = _
    rw [hcur]; exact numT_print m hm _ _ hm2
   rw [hYe] at hY
   rcases hY with hY | ⟨h1, h2⟩
   ·exact absurd hY (by show ¬ false = true; decide)
   ·have := hm3 h1; simp only at h2; omega
  ·exact h
 refine ⟨hle, hbad, fun hn => ⟨.inr (hb.snoc fun hne => ?_), by rw [sumN_snoc]; omega, ?_⟩⟩
 ·rcases hn with hn | hn
  ·exact absurd hn hne
  ·omega
 ·cases hY : Y.2.2 with
  | true => exact .inr ⟨rfl, hbad (.inl hY)⟩
  | false =>
   rcases h with ⟨rfl, hb0, e⟩ | ⟨rfl, h⟩
   ·refine .inl ⟨rfl, hb0, ?_⟩
    obtain ⟨_, g⟩ := numT_good hY
    have g' : cur.data.toList = vp Y.1 ++ Y.2.1.data.toList := by
     rw [← print_data, ← data_append]; exact congrArg (fun x => x.data.toList) g
    rw [e, g', gapsB_append, List.append_assoc]
    simp [gapsB]
   ·exact absurd (numT_good hY).1 (by decide)
theorem GState.last {s : ByteArray} {bad : Bool} {many : Int} {ls : List Nat} {cur : ByteArray} {bb : Bool} (h : GState s bad many ls cur bb) (hg : GoodG ls) (hl : (sumN ls : Int) = many) (hm : many ≤ 4096) :
  (bb = false ∧ bad = false ∧ GapsAt s.data.toList many (spreadG true ls) cur.data.toList) ∨ (bb = true ∧ (bad = true ∨ ¬ ∃ l r, GapsAt s.data.toList many l r)) :=
 h.2.2.imp (fun ⟨h1, h2, h3⟩ => ⟨h1, h2, by omega, hm, by rw [spreadG_length]; exact hl, by unfold gapsP; rw [lensOf_spread ls hg]; exact h3⟩) id
theorem gaps_over {s : List UInt8} {many : Int} (h : many < 0 ∨ 4096 < many) : ¬ ∃ l r, GapsAt s many l r := by
 rintro ⟨l, r, h0, h1, _⟩; omega
theorem spread_snoc (ls : List Nat) (n : Nat) : spreadG true (ls ++ [n]) = spreadG true ls ++ List.replicate n (flip true ls.length) := by
 rw [spreadG_append]; simp [spreadG]
theorem flip_snoc (ls : List Nat) (n : Nat) : flip true (ls ++ [n]).length = !flip true ls.length := by
 rw [List.length_append, List.length_singleton, ← flip_succ true ls.length]
 unfold flip
 split <;> simp
def GapsEnd (T : TypeId) (w : World) (b : Nat) (s : ByteArray) (bad : Bool) (many : Int) (e : Ending) (w' : World) : Prop :=
 ∃ v l s' bad', e = .returned v ∧ BoolsIn w' v l ∧ Fresh w.heap.size v ∧ TapeIn T w' b s' bad' ∧ w.grownBy w' (some b) ∧ l.length ≤ 4096 ∧
  ((bad' = false ∧ bad = false ∧ GapsAt s.data.toList many l s'.data.toList) ∨ (bad' = true ∧ (bad = true ∨ ¬ ∃ l r, GapsAt s.data.toList many l r)))
def GapsRead (T : TypeId) (w : World) (b : Nat) (s : ByteArray) (bad : Bool) (many : Int) (e : Ending) (w' : World) : Prop :=
 (∃ v l r, e = .returned v ∧ bad = false ∧ GapsAt s.data.toList many l r ∧ BoolsIn w' v l ∧ Fresh w.heap.size v ∧ TapeIn T w' b (mkB r) false ∧ w.grownBy w' (some b)) ∨
 (∃ s0, e = .returned (.slice none 0 0) ∧ TapeIn T w' b s0 true ∧ w.grownBy w' (some b) ∧ (bad = true ∨ ¬ ∃ l r, GapsAt s.data.toList many l r))
def GapsReadS (T : TypeId) (w : World) (b : Nat) (s : ByteArray) (bad : Bool) (many : Int) (e : Ending) (w' : World) : Prop :=
 (∃ v l r, e = .returned v ∧ bad = false ∧ GapsAt s.data.toList many l r ∧ BoolsIn w' v l ∧ Fresh w.heap.size v ∧ TapeIn T w' b (mkB r) false ∧ w.grownBy w' (some b)) ∨
 (e = .returned (.slice none 0 0) ∧ TapeIn T w' b s true ∧ w.grownBy w' (some b) ∧ (bad = true ∨ ¬ ∃ l r, GapsAt s.data.toList many l r))
def isL (l : List ByteArray) : List Bool := l.map fun c => decide (c ≠ ⟨#[]⟩)
def fullL (l : List ByteArray) : List ByteArray := l.filter fun c => decide (c ≠ ⟨#[]⟩)
def cnt (is : List Bool) : Nat := (is.filter id).length
def joinF : List Bool → List ByteArray → List ByteArray
 | [], _ => []
 | false :: is, l => ⟨#[]⟩ :: joinF is l
 | true :: is, [] => ⟨#[]⟩ :: joinF is []
 | true :: is, c :: l => c :: joinF is l
theorem joinF_length : ∀ (is : List Bool) (l : List ByteArray), (joinF is l).length = is.length
 | [], _ => by simp [joinF]
 | false :: is, l => by simp [joinF, joinF_length is l]
 | true :: is, [] => by simp [joinF, joinF_length is []]
 | true :: is, c :: l => by simp [joinF, joinF_length is l]
theorem joinF_yes : ∀ (is : List Bool) (l : List ByteArray) (k : Nat), is[k]? = some true → ∀ c, l[cnt (is.take k)]? = some c → (joinF is l)[k]? = some c
 | [], _, k, h, _, _ => by simp at h
 | false :: is, l, 0, h, _, _ => by simp at h
 | true :: is, [], 0, _, c, hc => by simp at hc
 | true :: is, d :: l, 0, _, c, hc => by simpa [joinF, cnt] using hc
 | false :: is, l, k + 1, h, c, hc => by
  simp only [joinF, List.getElem?_cons_succ]
  exact joinF_yes is l k (by simpa using h) c (by simpa [cnt] using hc)
 | true :: is, [], k + 1, _, c, hc => by simp at hc
 | true :: is, d :: l, k + 1, h, c, hc => by
  simp only [joinF, List.getElem?_cons_succ]
  exact joinF_yes is l k (by simpa using h) c (by simpa [cnt] using hc)
theorem joinF_no : ∀ (is : List Bool) (l : List ByteArray) (k : Nat), is[k]? = some false → (joinF is l)[k]? = some ⟨#[]⟩
 | [], _, k, h => by simp at h
 | false :: is, l, 0, _ => by simp [joinF]
 | true :: is, [], 0, h => by simp at h
 | true :: is, d :: l, 0, h => by simp at h
 | false :: is, l, k + 1, h => by simp only [joinF, List.getElem?_cons_succ]; exact joinF_no is l k (by simpa using h)
 | true :: is, [], k + 1, h => by simp only [joinF, List.getElem?_cons_succ]; exact joinF_no is [] k (by simpa using h)
 | true :: is, d :: l, k + 1, h => by simp only [joinF, List.getElem?_cons_succ]; exact joinF_no is l k (by simpa using h)
theorem cnt_take (is : List Bool) (k : Nat) (h : k < is.length) : cnt (is.take (k + 1)) = cnt (is.take k) + (if is[k] then 1 else 0) := by
 rw [take_add is k h]
 unfold cnt
 rw [List.filter_append, List.length_append]
 cases is[k] <;> rfl
theorem cnt_le (is : List Bool) : cnt is ≤ is.length := List.length_filter_le _ _
theorem cnt_take_le (is : List Bool) (k : Nat) : cnt (is.take k) ≤ cnt is := by
 conv => rhs; rw [← List.take_append_drop k is]
 unfold cnt
 rw [List.filter_append, List.length_append]; omega
theorem isL_length (l : List ByteArray) : (isL l).length = l.length := List.length_map _
theorem cnt_isL (l : List ByteArray) : cnt (isL l) = (fullL l).length := by
 unfold cnt isL fullL
 rw [List.filter_map, List.length_map]; rfl
theorem fullL_length (l : List ByteArray) : (fullL l).length ≤ l.length := List.length_filter_le _ _
theorem joinF_back : ∀ (l : List ByteArray), joinF (isL l) (fullL l) = l
 | [] => rfl
 | c :: l => by
  have ih := joinF_back l
  unfold isL fullL at ih ⊢
  by_cases h : c = ⟨#[]⟩
  ·subst h
   rw [List.map_cons, List.filter_cons_of_neg (by simp), show decide ((⟨#[]⟩ : ByteArray) ≠ ⟨#[]⟩) = false by simp]
   simp only [joinF, ih]
  ·rw [List.map_cons, List.filter_cons_of_pos (by simpa using h), show decide (c ≠ ⟨#[]⟩) = true by simpa using h]
   simp only [joinF, ih]
def joinL (is : List Bool) (l : List ByteArray) : List ByteArray := if cnt is = l.length then joinF is l else []
def joinOk (is : List Bool) (l : List ByteArray) : Bool := decide (cnt is = l.length)
def gapsT (l : List Bool) : ByteArray := mkB (gapsP l)
end Go.Proofs.YtkgjbldlegcajaaGreat
