/- Slices of texts, and tapes' calls that give them: lemmas for layers 4 to 8. -/
import Derived.Test.YtppmmkmlngmafaaKit2
import Derived.Test.YtppmmkmlngmafaaOwn
import Derived.Test.YtppmmkmlngmafaaTape
import Derived.Lib.QuietBelow
namespace Go.Proofs.Ytppmmkmlngmafaa
open Go Go.RowKit

theorem one_new (w : World) (x : Value) (T : TypeId) : ∀ (j : Nat) (u : Value), [x][j]? = some u → (w.alloc (.cells #[x] T)).cell? ((⟨w.heap.size, 0, none⟩ : Addr).add j) = some u := by
  intro j u hu
  cases j with
  | zero => simp only [List.getElem?_cons_zero, Option.some.injEq] at hu; subst hu; simp [Addr.add]
  | succ j => simp at hu
theorem one_int (k : IntKind) (x : Int) : ∀ u ∈ [Value.int k x], u.oneCell' = true := by
  intro u hu; rw [List.mem_singleton] at hu; subst hu; rfl
theorem one_str (x : ByteArray) : ∀ u ∈ [Value.string x], u.oneCell' = true := by
  intro u hu; rw [List.mem_singleton] at hu; subst hu; rfl
theorem one_bool (x : Bool) : ∀ u ∈ [Value.bool x], u.oneCell' = true := by
  intro u hu; rw [List.mem_singleton] at hu; subst hu; rfl
theorem below_alloc {B : Nat} {a w : World} (h : Below B a w) (hB : B ≤ w.heap.size) (o : Obj) : Below B a (w.alloc o) ∧ B ≤ (w.alloc o).heap.size := ⟨h.alloc hB o, by simp; omega⟩
theorem boxed_below {w w' : World} {o : Obj} (hg : (w.alloc o).grownBy w' (some w.heap.size)) : Below w.heap.size w w' :=
  (Below.alloc (.refl _ w) (Nat.le_refl _) o).grown hg (by simp) (fun k hk => by cases hk; exact Nat.le_refl _)
theorem lit_below {w w' : World} {o : Obj} (hk : Below (w.alloc o).heap.size (w.alloc o) w') : Below w.heap.size w w' :=
  (Below.alloc (.refl _ w) (Nat.le_refl _) o).trans (hk.mono (by simp))
theorem grown_drewN {a w : World} {row : Option Nat} (h : a.grownBy w row) (n : Nat) : a.grownBy (w.drewN n) row := ⟨h.os, h.tape, h.output, h.size, h.block⟩
theorem grown_own {w wr : World} {row : Option Nat} (h : w.grownBy wr row) {g : Nat} (hg : w.heap.size ≤ g) (i : Nat) (v : Value) : w.grownBy (wr.setCell ⟨g, i, none⟩ v) row :=
  ⟨h.os, h.tape, h.output, by simpa using h.size, fun k hk hr => (heap_setCell_other wr _ k v (by show k ≠ g; omega)).trans (h.block k hk hr)⟩
theorem grown_new {w wr w' : World} {row : Option Nat} (h : w.grownBy wr row) (k : wr.grownBy w' none) : w.grownBy w' row :=
  ⟨k.os.trans h.os, k.tape.trans h.tape, k.output.trans h.output, Nat.le_trans h.size k.size, fun i hi hr => (k.block i (Nat.lt_of_lt_of_le hi h.size) (by simp)).trans (h.block i hi hr)⟩
theorem grown_alloc {w0 w : World} {row : Option Nat} (h : w0.grownBy w row) (o : Obj) : w0.grownBy (w.alloc o) row := grown_new h (World.grownBy_alloc w o none)
theorem grown_appended {w0 w w' : World} {row : Option Nat} {size n : Nat} {v : Value} {xs : List Value} (h : w0.grownBy w row) (hO : Own w w0.heap.size size v n xs) (hg : w.grownBy w' v.ownBlock) : w0.grownBy w' row :=
  ⟨hg.os.trans h.os, hg.tape.trans h.tape, hg.output.trans h.output, Nat.le_trans h.size hg.size, fun k hk hr => (hg.block k (Nat.lt_of_lt_of_le hk h.size) (fun e => by have := (hO.lt k e.symm).1; omega)).trans (h.block k hk hr)⟩
theorem TapeIn.new {T : TypeId} {w w' : World} {b : Nat} {s : ByteArray} {bad : Bool} (h : TapeIn T w b s bad) (k : w.grownBy w' none) : TapeIn T w' b s bad := by
  unfold TapeIn; rw [k.block b h.lt (by simp)]; exact h
theorem TapeIn.appended {T : TypeId} {w w' : World} {b B size n : Nat} {s : ByteArray} {bad : Bool} {v : Value} {xs : List Value} (h : TapeIn T w b s bad) (hO : Own w B size v n xs) (hb : b < B) (hg : w.grownBy w' v.ownBlock) : TapeIn T w' b s bad := by
  unfold TapeIn
  rw [hg.block b h.lt (fun e => by have := (hO.lt b e.symm).1; omega)]
  exact h
theorem Takes.stepG {P : Program} {T : TypeId} {f : FuncId} {more : List Value} {b : Nat} {s s' : ByteArray} {bad bad' : Bool} {v : Value} (h : Takes P T f more b s bad v s' bad')
    {w0 w : World} (hT : TapeIn T w b s bad) (hg : w0.grownBy w (some b)) {R : Ending → World → Prop} (k : ∀ w', TapeIn T w' b s' bad' → w0.grownBy w' (some b) → w.grownBy w' (some b) → R (.returned v) w') :
    Calls P f (Value.pointer (some ⟨b, 0, none⟩) :: more).toArray w R :=
  (h w hT).mono fun _ _ ⟨he, hT', hw⟩ => he ▸ k _ hT' (grown_trans hg hw) hw

def mkB (l : List UInt8) : ByteArray := ⟨l.toArray⟩
theorem mkB_size (l : List UInt8) : (mkB l).size = l.length := List.size_toArray
theorem mkB_data (l : List UInt8) : (mkB l).data.toList = l := rfl
theorem mkB_of (s : ByteArray) : mkB s.data.toList = s := bytes_ext rfl
theorem mkB_append (a b : List UInt8) : mkB a ++ mkB b = mkB (a ++ b) := bytes_ext (by rw [data_append]; rfl)
theorem mkB_snoc (l : List UInt8) (x : Int) : mkB l ++ strOfNums [x] = mkB (l ++ [UInt8.ofNat x.toNat]) := by
  apply bytes_ext
  rw [data_append, strOfNums_data]; rfl
theorem str_ne_cases (a b : ByteArray) : (a = b ∧ (a.toList == b.toList) = true ∧ (a.toList != b.toList) = false) ∨ (a ≠ b ∧ (a.toList == b.toList) = false ∧ (a.toList != b.toList) = true) := by
  by_cases h : a = b
  · left; subst h; simp
  · right
    have hn : ¬ a.toList = b.toList := fun e => h (bytes_ext (by rwa [ByteArray.toList_eq, ByteArray.toList_eq] at e))
    exact ⟨h, by simpa using hn, by simpa using hn⟩

/-- r is how s ends. -/
def Suf (r s : ByteArray) : Prop := ∃ k, k ≤ s.size ∧ r = s.extract k s.size
theorem Suf.refl (s : ByteArray) : Suf s s := ⟨0, Nat.zero_le _, bytes_ext (by rw [data_extract, List.drop_zero, List.take_of_length_le (by rw [data_size]; omega)])⟩
theorem Suf.data {r s : ByteArray} (h : Suf r s) : ∃ k, k ≤ s.size ∧ r.data.toList = s.data.toList.drop k := by
  obtain ⟨k, hk, rfl⟩ := h
  refine ⟨k, hk, ?_⟩
  rw [data_extract, List.take_of_length_le (by rw [List.length_drop, data_size]; exact Nat.le_refl _)]
theorem Suf.of {r s : ByteArray} {k : Nat} (hk : k ≤ s.size) (h : r.data.toList = s.data.toList.drop k) : Suf r s :=
  ⟨k, hk, bytes_ext (by rw [h, data_extract, List.take_of_length_le (by rw [List.length_drop, data_size]; exact Nat.le_refl _)])⟩
theorem Suf.trans {a b c : ByteArray} (h : Suf a b) (k : Suf b c) : Suf a c := by
  obtain ⟨i, hi, e1⟩ := h.data
  obtain ⟨j, hj, e2⟩ := k.data
  have hb : b.size = c.size - j := by rw [← data_size b, e2, List.length_drop, data_size]
  exact Suf.of (k := j + i) (by omega) (by rw [e1, e2, List.drop_drop])
theorem Suf.split {r s : ByteArray} (h : Suf r s) : s.data.toList = (s.extract 0 (s.size - r.size)).data.toList ++ r.data.toList ∧ r.size ≤ s.size := by
  obtain ⟨k, hk, e⟩ := h.data
  have hr : r.size = s.size - k := by rw [← data_size r, e, List.length_drop, data_size]
  rw [data_extract, e, hr]
  simp only [List.drop_zero, Nat.sub_zero]
  rw [show s.size - (s.size - k) = k by omega, List.take_append_drop]
  exact ⟨rfl, by omega⟩
theorem numT_suf (s : ByteArray) (bad : Bool) (m : Int) : Suf (numT s bad m).2.1 s := by
  unfold numT
  cases bad with
  | true => exact .refl s
  | false =>
    cases h : nextNum s.data.toList with
    | none => exact .refl s
    | some p =>
      obtain ⟨n, k⟩ := p
      have := (nextNum_some h).2.2.1
      rw [data_size] at this
      simp only [Bool.false_eq_true, if_false]
      split
      · exact ⟨k, this, rfl⟩
      · exact .refl s
theorem textT_suf (s : ByteArray) (bad : Bool) (n : Nat) : Suf (textT s bad n).2.1 s := by
  unfold textT
  split
  · exact .refl s
  · split
    · rename_i h; exact ⟨n, h, rfl⟩
    · exact .refl s
theorem numT_le (s : ByteArray) (bad : Bool) (m : Int) (hm : 0 ≤ m) : ((numT s bad m).1 : Int) ≤ m := by
  unfold numT
  cases bad with
  | true => exact hm
  | false =>
    cases h : nextNum s.data.toList with
    | none => exact hm
    | some p =>
      obtain ⟨n, k⟩ := p
      simp only [Bool.false_eq_true, if_false]
      split
      · assumption
      · exact hm
theorem numT_good {s : ByteArray} {bad : Bool} {m : Int} (h : (numT s bad m).2.2 = false) : bad = false ∧ s = printB (numT s bad m).1 ++ (numT s bad m).2.1 := by
  cases bad with
  | true => exact absurd h (by show ¬ true = false; simp)
  | false =>
    refine ⟨rfl, ?_⟩
    unfold numT at h ⊢
    cases hq : nextNum s.data.toList with
    | none => rw [hq] at h; exact absurd h (by simp)
    | some p =>
      obtain ⟨n, k⟩ := p
      rw [hq] at h
      obtain ⟨h1, _, h3, _⟩ := nextNum_some hq
      rw [data_size] at h3
      simp only [Bool.false_eq_true, if_false] at h ⊢
      split at h
      · rename_i hm
        rw [if_pos hm]
        apply bytes_ext
        rw [data_append, print_data, h1, data_extract, List.take_of_length_le (l := s.data.toList.drop k) (by rw [List.length_drop, data_size]; omega), List.take_append_drop]
      · simp at h
theorem textT_le (s : ByteArray) (bad : Bool) (n : Nat) : (textT s bad n).1.size ≤ n := by
  unfold textT
  split
  · exact Nat.zero_le _
  · split
    · show (s.extract 0 n).size ≤ n; rw [ByteArray.size_extract]; omega
    · exact Nat.zero_le _
theorem textT_good' {s : ByteArray} {bad : Bool} {n : Nat} (h : (textT s bad n).2.2 = false) : bad = false ∧ (textT s bad n).1.size = n ∧ s = (textT s bad n).1 ++ (textT s bad n).2.1 := by
  cases bad with
  | true => exact absurd h (by show ¬ true = false; simp)
  | false =>
    refine ⟨rfl, ?_⟩
    unfold textT at h ⊢
    rw [if_neg (by decide)] at h ⊢
    split at h
    · rename_i hn
      rw [if_pos hn]
      refine ⟨by show (s.extract 0 n).size = n; rw [ByteArray.size_extract]; omega, bytes_ext ?_⟩
      rw [data_append, data_extract, data_extract, List.drop_zero, Nat.sub_zero, List.take_of_length_le (l := s.data.toList.drop n) (by rw [List.length_drop, data_size]; omega), List.take_append_drop]
    · simp at h
theorem textT_append (a b : ByteArray) : textT (a ++ b) false a.size = (a, b, false) := by
  unfold textT
  rw [if_neg (by decide), if_pos (by rw [ByteArray.size_append]; omega), extract_front]
  congr 1
  apply bytes_ext
  rw [data_extract, data_append, List.drop_zero, Nat.sub_zero, ← data_size]
  simp

/-- A call, a tape's call, that gives texts. -/
def GivesStrs (P : Program) (f : FuncId) (args : Array Value) (w : World) (l : List ByteArray) : Prop := Calls P f args w fun e w' => ∃ v, e = .returned v ∧ StrsIn w' v l ∧ Below w.heap.size w w'
theorem GivesStrs.stepB {P : Program} {f : FuncId} {args : Array Value} {w : World} {l : List ByteArray} (h : GivesStrs P f args w l) {B : Nat} {w0 : World} (hb : Below B w0 w) (hB : B ≤ w.heap.size)
    {R : Ending → World → Prop} (k : ∀ v w', StrsIn w' v l → Below B w0 w' → B ≤ w'.heap.size → Below w.heap.size w w' → R (.returned v) w') : Calls P f args w R :=
  Calls.mono h fun _ _ ⟨_, he, hi, hw⟩ => he ▸ k _ _ hi (hb.trans (hw.mono hB)) (Nat.le_trans hB hw.size) hw
def TakesStrs (P : Program) (T : TypeId) (f : FuncId) (more : List Value) (b : Nat) (s : ByteArray) (l : List ByteArray) (s' : ByteArray) : Prop :=
  ∀ w : World, TapeIn T w b s false → Calls P f (Value.pointer (some ⟨b, 0, none⟩) :: more).toArray w fun e w' => ∃ v, e = .returned v ∧ StrsIn w' v l ∧ Fresh w.heap.size v ∧ TapeIn T w' b s' false ∧ w.grownBy w' (some b)
theorem TakesStrs.stepB {P : Program} {T : TypeId} {f : FuncId} {more : List Value} {b : Nat} {s s' : ByteArray} {l : List ByteArray} (h : TakesStrs P T f more b s l s')
    {w0 w : World} {B : Nat} (hT : TapeIn T w b s false) (hb : Below B w0 w) (hB : B ≤ w.heap.size) (hr : B ≤ b) {R : Ending → World → Prop}
    (k : ∀ v w', StrsIn w' v l → Fresh w.heap.size v → TapeIn T w' b s' false → Below B w0 w' → B ≤ w'.heap.size → w.grownBy w' (some b) → R (.returned v) w') :
    Calls P f (Value.pointer (some ⟨b, 0, none⟩) :: more).toArray w R :=
  (h w hT).mono fun _ _ ⟨_, he, hi, hf, hT', hw⟩ => he ▸ k _ _ hi hf hT' (hb.grown hw hB (fun k hk => by cases hk; exact hr)) (Nat.le_trans hB hw.size) hw
/-- A tape's call that gives nothing: the tape is bad. -/
def TakesNone (P : Program) (T : TypeId) (f : FuncId) (more : List Value) (b : Nat) (s : ByteArray) (bad : Bool) (v : Value) : Prop :=
  ∀ w : World, TapeIn T w b s bad → Calls P f (Value.pointer (some ⟨b, 0, none⟩) :: more).toArray w fun e w' => ∃ s', e = .returned v ∧ TapeIn T w' b s' true ∧ w.grownBy w' (some b)
theorem StrsIn.len {w : World} {v : Value} {l : List ByteArray} (h : StrsIn w v l) : l.length ≤ maxLen := h.2.1
theorem StrsIn.kept {w w' : World} {v : Value} {l : List ByteArray} (h : StrsIn w v l) (hb : Below w.heap.size w w') : StrsIn w' v l := SliceOf.later h hb
theorem BoolsIn.len {w : World} {v : Value} {l : List Bool} (h : BoolsIn w v l) : l.length ≤ maxLen := h.2.1
theorem BoolsIn.kept {w w' : World} {v : Value} {l : List Bool} (h : BoolsIn w v l) (hb : Below w.heap.size w w') : BoolsIn w' v l := SliceOf.later h hb
theorem one_parts {α : Type} {f : α → Value} {w : World} {v : Value} {l : List α} (h : SliceOf w 1 v l.length (l.map f)) : (l = [] ∧ ∃ A cap, v = .slice A 0 cap) ∨
    (0 < l.length ∧ ∃ b off cap, v = .slice (some ⟨b, off, none⟩) l.length cap ∧ b < w.heap.size ∧ ∀ j (hj : j < l.length), w.cell? ⟨b, off + j, none⟩ = some (f l[j])) := by
  obtain ⟨A, cap, e, hk⟩ := one_at h
  cases l with
  | nil => exact .inl ⟨rfl, A, cap, e⟩
  | cons x l =>
    obtain ⟨b, off, ea, hb, hc⟩ := hk 0 (by simp)
    subst ea
    exact .inr ⟨by simp, b, off, cap, e, hb, hc⟩
theorem StrsIn.parts {w : World} {v : Value} {l : List ByteArray} (h : StrsIn w v l) : (l = [] ∧ ∃ A cap, v = .slice A 0 cap) ∨
    (0 < l.length ∧ ∃ b off cap, v = .slice (some ⟨b, off, none⟩) l.length cap ∧ b < w.heap.size ∧ ∀ j (hj : j < l.length), w.cell? ⟨b, off + j, none⟩ = some (.string l[j])) := one_parts h
theorem BoolsIn.parts {w : World} {v : Value} {l : List Bool} (h : BoolsIn w v l) : (l = [] ∧ ∃ A cap, v = .slice A 0 cap) ∨
    (0 < l.length ∧ ∃ b off cap, v = .slice (some ⟨b, off, none⟩) l.length cap ∧ b < w.heap.size ∧ ∀ j (hj : j < l.length), w.cell? ⟨b, off + j, none⟩ = some (.bool l[j])) := one_parts h
theorem lit_ones {α : Type} (f : α → Value) (w : World) (T : TypeId) (l : List α) (h : l.length ≤ 1000) : SliceOf (w.alloc (.cells (l.map f).toArray T)) 1 (.slice (some ⟨w.heap.size, 0, none⟩) l.length l.length) l.length (l.map f) := by
  have := (Own.lit (B := 0) (size := 1) w (l.map f).toArray T l.length (Nat.zero_le _) (by unfold maxLen; omega) (by simp)).slice
  exact this
theorem Own.some_ {w : World} {B size n : Nat} {v : Value} {xs : List Value} (h : Own w B size v n xs) (h0 : 0 < n) : ∃ g off cap, v = .slice (some ⟨g, off, none⟩) n cap := by
  rcases h.2.2 with ⟨_, hn⟩ | ⟨g, off, cap, hv, _⟩
  · omega
  · exact ⟨g, off, cap, hv⟩
def bytesV (l : List UInt8) : List Value := l.map fun b => Value.int .u8 b.toNat
/-- Bytes that a call owns. -/
def OwnB (w : World) (B : Nat) (v : Value) (l : List UInt8) : Prop := Own w B 1 v l.length (bytesV l)
theorem OwnB.snoc {w : World} {B : Nat} {v : Value} {l : List UInt8} {n : Nat} {x : Int} (h : Own w B 1 v n (bytesV l ++ [Value.int .u8 x])) (hx : 0 ≤ x) (hx2 : x < 256) (hn : n = l.length + 1) : OwnB w B v (l ++ [UInt8.ofNat x.toNat]) := by
  unfold OwnB
  have e1 : bytesV (l ++ [UInt8.ofNat x.toNat]) = bytesV l ++ [Value.int .u8 x] := by
    unfold bytesV
    rw [List.map_append]
    simp only [List.map_cons, List.map_nil]
    rw [toNat_ofNat (by omega)]
    congr 3
    omega
  rw [e1, List.length_append]
  subst hn
  exact h
/-- '[]byte(s)', for the walk. -/
theorem wpList_bytes {P : Program} {w : World} {ops : Array Oper} {rest : List Oper} {o : Oper} {a : Act} {Q : Exit → Act → World → Prop} (hgd : o.guard = none) (x : Operand) (src dst e : TypeId) (ho : o.op = .convert src dst x)
    (hs : P.underlying src = some .string) (hd : P.underlying dst = some (.slice e)) (he : P.underlying e = some (.int .u8)) (s : ByteArray) (hx : a.eval x = .string s) (B : Nat) (hB : B ≤ w.heap.size) (hn : s.size ≤ maxLen)
    (hK : ∀ v' w', OwnB w' B v' s.data.toList → Below w.heap.size w w' → wpList P ops Q rest (a.put o.dst v') w') : wpList P ops Q (o :: rest) a w := by
  refine wpList_plain hgd fun K hK' => ?_
  have hrun := run_bytes_of_string (P := P) w src dst e s hs hd he
  have hc := grownCap_ge w s.size 0 e
  have hown := Own.bytes (B := B) w e s _ hB hn hc
  have hbel : Below w.heap.size w (w.drew.alloc (.cells (bytesRow s (grownCap w s.size 0 e)) e ((bytesRow s (grownCap w s.size 0 e)).size, (bytesRow s (grownCap w s.size 0 e)).size + 1))) :=
    (Below.refl _ w).drew.alloc (Nat.le_refl _) _
  generalize w.drew.alloc (.cells (bytesRow s (grownCap w s.size 0 e)) e ((bytesRow s (grownCap w s.size 0 e)).size, (bytesRow s (grownCap w s.size 0 e)).size + 1)) = W at hrun hown hbel
  generalize grownCap w s.size 0 e = c at hrun hown
  have hlen : s.data.toList.length = s.size := Array.length_toList
  unfold Oper.wp
  simp [execOp, ho, hx, hrun, Result.andThen]
  refine hK' _ _ (hK _ _ ?_ hbel)
  unfold OwnB
  rw [hlen]
  exact hown
/-- 'string(b)'. -/
theorem run_string_own {P : Program} {w : World} {B : Nat} {v : Value} {l : List UInt8} (h : OwnB w B v l) (src dst e : TypeId) (hs : P.underlying src = some (.slice e)) (he : P.underlying e = some (.int .u8)) (hd : P.underlying dst = some .string) :
    (convert src dst v).run P w = .ok (.string ⟨l.toArray⟩) w := by
  rcases h.2.2 with ⟨rfl, h0⟩ | ⟨g, off, cap, rfl, _, _, _, hc, _⟩
  · obtain rfl : l = [] := List.eq_nil_of_length_eq_zero h0
    have := run_convert_bytes_nil (P := P) (w := w) src e hs he 0 0 dst hd
    exact this
  · exact run_convert_bytes_back w src dst e ⟨g, off, none⟩ cap l hs he hd (fun j hj => by
      rw [Addr.add_lit]
      exact hc j _ (by unfold bytesV; rw [List.getElem?_map, List.getElem?_eq_getElem hj]; rfl))
end Go.Proofs.Ytppmmkmlngmafaa
