/- 'append(b, s...)' of a text's bytes onto a slice that the call owns; no program. -/
import Derived.Test.YtppmmkmlngmafaaStrs
import Derived.Lib.AppendStr
namespace Go.Proofs.Ytppmmkmlngmafaa
open Go Go.RowKit

section
variable {w : World} {B n : Nat} {xs : List Value} {g off cap : Nat}
theorem Own.room (h : Own w B 1 (.slice (some ⟨g, off, none⟩) n cap) n xs) (news : List Value) (hroom : n + news.length ≤ cap) (hm : n + news.length ≤ maxLen) :
    Own (w.setCells g (off + n) news) B 1 (.slice (some ⟨g, off, none⟩) (n + news.length) cap) (n + news.length) (xs ++ news) := by
  obtain ⟨hBg, hg, _, hc, hr⟩ := h.parts
  have hx : xs.length = n := by simpa using h.1
  refine ⟨by rw [List.length_append, hx, Nat.mul_one], hm, .inr ⟨g, off, cap, rfl, hBg, by rw [setCells_size]; exact hg, hroom, fun j u hu => ?_, fun j hj => ?_⟩⟩
  · by_cases hj : j < n
    · rw [List.getElem?_append_left (by omega)] at hu
      rw [World.cell?_setCells_out g news _ w ⟨g, off + j, none⟩ (fun _ _ => .inl (by simp; omega))]
      exact hc j u hu
    · rw [List.getElem?_append_right (by omega)] at hu
      obtain ⟨k1, k2⟩ := List.getElem?_eq_some_iff.1 hu
      have := World.cell?_setCells_in g news (off + n) w (fun j' hj' => by rw [Nat.add_assoc]; exact (hr _ (by omega)).1) (j - xs.length) k1
      rw [k2] at this
      rw [show off + j = off + n + (j - xs.length) by omega]
      exact this
  · rw [World.frozen?_setCells]
    refine ⟨?_, (hr j hj).2⟩
    by_cases hj2 : n ≤ j ∧ j < n + news.length
    · have := World.cell?_setCells_in g news (off + n) w (fun j' hj' => by rw [Nat.add_assoc]; exact (hr _ (by omega)).1) (j - n) (by omega)
      rw [show off + j = off + n + (j - n) by omega, this]
      rfl
    · rw [World.cell?_setCells_out g news _ w ⟨g, off + j, none⟩ (fun _ _ => by simp only []; omega)]
      exact (hr j hj).1
end
theorem own_aside {w w' : World} {B b size n : Nat} {v : Value} {xs : List Value} (h : Own w B size v n xs) (hb : b < B) (hg : w.grownBy w' (some b)) : Own w' B size v n xs :=
  h.other hg fun k hk e => by have := (h.lt k hk).1; cases e; omega
/-! A made slice that is filled from its front: the first k cells are there, the others are as they were made. -/
theorem fill_at {α : Type} (xs zs : List α) (k : Nat) (h : k < xs.length) (hz : zs.length = xs.length) : (xs.take k ++ zs.drop k)[k]? = zs[k]? := by
  rw [List.getElem?_append_right (by rw [List.length_take]; omega), List.length_take, Nat.min_eq_left (by omega), Nat.sub_self, List.getElem?_drop, Nat.add_zero]
theorem fill_next {α : Type} (xs zs : List α) (k : Nat) (h : k < xs.length) (hz : zs.length = xs.length) : (xs.take k ++ zs.drop k).set k xs[k] = xs.take (k + 1) ++ zs.drop (k + 1) := by
  rw [List.set_append, if_neg (by rw [List.length_take]; omega), List.length_take, Nat.min_eq_left (by omega), Nat.sub_self, take_add xs k h, List.append_assoc]
  congr 1
  rw [List.drop_eq_getElem_cons (by omega : k < zs.length)]
  rfl
theorem Own.fillCell {w : World} {B g n : Nat} {xs zs : List Value} {k : Nat} (h : Own w B 1 (.slice (some ⟨g, 0, none⟩) n n) n (xs.take k ++ zs.drop k)) (hx : xs.length = n) (hz : zs.length = n) (hk : k < n) :
    w.cell? ⟨g, k, none⟩ = some (zs[k]'(by omega)) ∧ w.frozen? ⟨g, k, none⟩ = false := by
  obtain ⟨_, _, _, hc, hr⟩ := h.parts
  have h1 := hc k _ (by rw [fill_at xs zs k (by omega) (by omega), List.getElem?_eq_getElem (by omega)])
  have h2 := (hr k (by omega)).2
  rw [Nat.zero_add] at h1 h2
  exact ⟨h1, h2⟩
theorem Own.filled {w : World} {B g n : Nat} {xs zs : List Value} {k : Nat} (h : Own w B 1 (.slice (some ⟨g, 0, none⟩) n n) n (xs.take k ++ zs.drop k)) (hx : xs.length = n) (hz : zs.length = n) (hk : k < n) {u : Value} (hu : xs[k]? = some u) :
    Own (w.setCell ⟨g, k, none⟩ u) B 1 (.slice (some ⟨g, 0, none⟩) n n) n (xs.take (k + 1) ++ zs.drop (k + 1)) := by
  have h1 := h.stored k (by omega) u
  obtain ⟨hk', rfl⟩ := List.getElem?_eq_some_iff.1 hu
  rw [fill_next xs zs k (by omega) (by omega), Nat.zero_add] at h1
  exact h1
theorem Own.full {w : World} {B size g n c : Nat} {xs zs : List Value} (h : Own w B size (.slice (some ⟨g, 0, none⟩) n c) n (xs.take n ++ zs.drop n)) (hx : xs.length = n) (hz : zs.length = n) : Own w B size (.slice (some ⟨g, 0, none⟩) n c) n xs := by
  rwa [List.take_of_length_le (by omega), List.drop_of_length_le (by omega), List.append_nil] at h

section
variable {P : Program} {w : World}
theorem run_append_Own_string (t u ty e : TypeId) (i : TypeInfo) (ht : P.underlying t = some (.slice e)) (hu : P.underlying u = some .string) (hi : P.info? e = some i) (hz : i.zero = some (.int .u8 0))
    (hsize : i.size = 1) (hby : i.bytes = 1) {B : Nat} {v : Value} {n : Nat} {xs : List Value} (h : Own w B 1 v n xs) (s : ByteArray)
    (h63 : n + s.size ≤ maxLen) (hbytes : n + s.size ≤ 140737488355328) (hB : B ≤ w.heap.size) :
    ∃ v' w', (Builtin.append_ #[t, u] ty #[v, .string s]).run P w = .ok v' w' ∧ Own w' B 1 v' (n + s.size) (xs ++ Lib.strCells s) ∧ w.grownBy w' v.ownBlock := by
  obtain ⟨hx, hn0, h3⟩ := h
  have hsmall : n + s.size ≤ 9223372036854775807 := by simp only [maxLen] at h63; omega
  rcases h3 with ⟨rfl, rfl⟩ | ⟨g, off, cap, rfl, hBg, hg, hn, hc, hr⟩
  · have : xs = [] := List.eq_nil_of_length_eq_zero (by simpa using hx)
    subst this
    obtain ⟨v', w', r1, r2, r3, _⟩ := Lib.run_append_own_string (P := P) w w.heap.size t u ty e i ht hu hi hz hsize hby (.slice none 0 0) 0 [] (World.ownsRow_nil w w.heap.size e 1) s h63 hbytes (Nat.le_refl _)
    exact ⟨v', w', r1, .of_row r2 h63 hB, r3⟩
  · have hl : (Lib.strCells s).length = s.size := Lib.strCells_length s
    by_cases hroom : n + s.size ≤ cap
    · have hst := run_storeCells_cells (P := P) g (off + n * 1) (Lib.strCells s) 0 w (fun j hj => by rw [Nat.mul_one, Nat.add_zero, Nat.add_assoc]; exact (hr _ (by omega)).1) (fun j hj => by rw [Nat.mul_one, Nat.add_zero, Nat.add_assoc]; exact (hr _ (by omega)).2) (Lib.strCells_oneCell s)
      simp only [Nat.add_zero, Nat.mul_one] at hst
      have hf := Lib.run_firstCells_string (P := P) w 1 s
      have hrun : (Builtin.append_ #[t, u] ty #[.slice (some ⟨g, off, none⟩) n cap, .string s]).run P w = .ok (.slice (some ⟨g, off, none⟩) (n + s.size) cap) (w.setCells g (off + n) (Lib.strCells s)) := by
        simp [Builtin.append_, run_underlying ht, run_underlying hu, sizeOf, typeInfo, hi, hsize, Builtin.lenOf, hroom, hf, Addr.add_lit, hst]
      have hO := Own.room (g := g) (off := off) (cap := cap) ⟨hx, hn0, .inr ⟨g, off, cap, rfl, hBg, hg, hn, hc, hr⟩⟩ (Lib.strCells s) (by omega) (by omega)
      rw [hl] at hO
      exact ⟨_, _, hrun, hO, setCells_grown g _ _ w⟩
    · have hrun := Lib.run_append_grow_string (P := P) w t u ty e i (.int .u8 0) ht hu hi hz ⟨g, off, none⟩ n cap xs (by rw [hsize]; exact hx) (fun j v hj => by rw [Addr.add_lit]; exact hc j v hj) s (by omega) (by omega) (by rw [hby]; exact growslice_fits (by omega) (by omega))
      have hge := grownCap_ge w (n + s.size) cap e
      have hcm : grownCap w (n + s.size) cap e ≤ maxLen := grownCap_le_maxLen w (n + s.size) cap e h63
      have hlen : (xs ++ Lib.strCells s).length = (n + s.size) * 1 := by rw [List.length_append, hl]; omega
      refine ⟨_, _, hrun, Own.of_row (base := w.heap.size) (e := e) ⟨hlen, .inr ⟨w.heap.size, _, _, rfl, Nat.le_refl _, heap_alloc_new w.drew _, hge, hcm, ?_, ?_⟩⟩ h63 hB, ⟨rfl, rfl, rfl, by simp, fun k hk _ => heap_alloc_old w.drew _ hk⟩⟩
      · have hz1 : (Value.int IntKind.u8 0).cells.size = 1 := rfl
        simp only [Array.size_append, List.size_toArray, size_zeroCells, hz1, hl]
        omega
      · simp only [Array.toList_append, List.append_assoc]
        rw [← List.append_assoc, ← hlen]
        exact List.take_left
theorem wpList_append_Own_string {ops : Array Oper} {rest : List Oper} {o : Oper} {a : Act} {Q : Exit → Act → World → Prop} (hgd : o.guard = none) (sl x : Operand) (t u : TypeId)
    (ho : o.op = .call { callee := .builtin .append, args := #[sl, x], argTypes := #[t, u] }) (e : TypeId) (i : TypeInfo) (ht : P.underlying t = some (.slice e)) (hu : P.underlying u = some .string) (hi : P.info? e = some i)
    (hz : i.zero = some (.int .u8 0)) (hsize : i.size = 1) (hby : i.bytes = 1) {B : Nat} (v : Value) (l : List UInt8) (hs : a.eval sl = v) (h : OwnB w B v l) (s : ByteArray) (hx : a.eval x = .string s)
    (h63 : l.length + s.size ≤ 140737488355328) (hB : B ≤ w.heap.size)
    (hK : ∀ v' w', OwnB w' B v' (l ++ s.data.toList) → w.grownBy w' v.ownBlock → wpList P ops Q rest (a.put o.dst v') w') : wpList P ops Q (o :: rest) a w := by
  refine wpList_plain hgd fun K hK' => ?_
  obtain ⟨v', w', hrun, r1, r2⟩ := run_append_Own_string (P := P) t u o.type e i ht hu hi hz hsize hby h s (by unfold maxLen; omega) h63 hB
  unfold Oper.wp execOp
  simp only [ho, resolve, invoke, builtin, Sem.run_bind, Sem.run_pure, Result.andThen_ok, List.map_toArray, List.map_cons, List.map_nil, hs, hx, hrun]
  refine hK' _ _ (hK v' w' ?_ r2)
  unfold OwnB
  rw [List.length_append, show s.data.toList.length = s.size from Array.length_toList, show bytesV (l ++ s.data.toList) = bytesV l ++ Lib.strCells s from List.map_append]
  exact r1
end
end Go.Proofs.Ytppmmkmlngmafaa
