/- Slices that a call owns side by side; boxes of tapes; literals of texts: for laws of all layers; no program. -/
import Derived.Test.YtppmmkmlngmafaaStrs
namespace Go.Proofs.Ytppmmkmlngmafaa
open Go Go.RowKit

/-- Two slices that a call owns lie in blocks of their own. -/
def Aside (v u : Value) : Prop := ∀ k, v.ownBlock = some k → u.ownBlock ≠ some k
theorem Aside.sym {v u : Value} (h : Aside v u) : Aside u v := fun k hk e => h k e hk
theorem own_beside {w w' : World} {B nn : Nat} {c0 c1 nv : Value} {ns : List Value} (hn : Own w B 1 nv nn ns) (hap : Aside c0 nv)
    (hg : w.grownBy w' c0.ownBlock) (hc' : ∀ k, c1.ownBlock = some k → c0.ownBlock = some k ∨ w.heap.size ≤ k) : Own w' B 1 nv nn ns ∧ Aside c1 nv := by
  refine ⟨hn.other hg (fun k hk e => hap k e.symm hk), fun k hk e => ?_⟩
  rcases hc' k hk with h | h
  · exact hap k h e
  · have := (hn.lt k e).2; omega
theorem cell_kept {w w' : World} {a : Addr} {v : Value} (h : w.cell? a = some v) (hb : Below w.heap.size w w') : w'.cell? a = some v := (hb.cell (block_lt_of_cell h)).trans h
theorem box_lit {w wb w' : World} {o : Obj} {B : Nat} (h : Below B wb w) (hB : B ≤ w.heap.size) (hk : Below (w.alloc o).heap.size (w.alloc o) w') : Below B wb w' := h.trans ((lit_below hk).mono hB)
theorem lit_strs (w : World) (T : TypeId) (l : List ByteArray) (h : l.length ≤ 1000) : StrsIn (w.alloc (.cells (l.map Value.string).toArray T)) (.slice (some ⟨w.heap.size, 0, none⟩) l.length l.length) l := lit_ones Value.string w T l h
theorem two_boxes (w : World) (s u : ByteArray) (T : TypeId) :
    TapeIn T ((w.alloc (.cells #[.string s, .bool false] T)).alloc (.cells #[.string u, .bool false] T)) w.heap.size s false ∧
    TapeIn T ((w.alloc (.cells #[.string s, .bool false] T)).alloc (.cells #[.string u, .bool false] T)) (w.heap.size + 1) u false ∧
    Below w.heap.size w ((w.alloc (.cells #[.string s, .bool false] T)).alloc (.cells #[.string u, .bool false] T)) := by
  have h1 := box_tape w s false T
  have h2 := box_tape (w.alloc (.cells #[.string s, .bool false] T)) u false T
  exact ⟨h1.alloc _, by simpa using h2, ((Below.refl _ w).alloc (Nat.le_refl _) _).alloc (by simp) _⟩
theorem one_bools (l : List Bool) : ∀ u ∈ l.map Value.bool, u.oneCell' = true := by
  intro u hu
  obtain ⟨x, _, rfl⟩ := List.mem_map.1 hu
  rfl
theorem one_texts (l : List ByteArray) : ∀ u ∈ l.map Value.string, u.oneCell' = true := by
  intro u hu
  obtain ⟨x, _, rfl⟩ := List.mem_map.1 hu
  rfl
theorem wrap_i64_nat (n : Nat) (h : n ≤ 9223372036854775807) : IntKind.i64.wrap (n : Int) = (n : Int) := by rw [IntKind.wrap_i64]; omega
/-- What a call owns as yes and no, as texts. -/
theorem bools_of {w : World} {B n : Nat} {v : Value} {l : List Bool} (h : Own w B 1 v n (l.map Value.bool)) (hn : n = l.length) : BoolsIn w v l := by
  subst hn; exact h.slice
theorem strs_of {w : World} {B n : Nat} {v : Value} {l : List ByteArray} (h : Own w B 1 v n (l.map Value.string)) (hn : n = l.length) : StrsIn w v l := by
  subst hn; exact h.slice
theorem lit_bools (w : World) (T : TypeId) (l : List Bool) (h : l.length ≤ 1000) : BoolsIn (w.alloc (.cells (l.map Value.bool).toArray T)) (.slice (some ⟨w.heap.size, 0, none⟩) l.length l.length) l := lit_ones Value.bool w T l h
theorem fresh_at {B g n c : Nat} (h : B ≤ g) : Fresh B (.slice (some ⟨g, 0, none⟩) n c) := fun k hk => by
  simp only [Value.ownBlock, Option.some.injEq] at hk
  omega
theorem empty_toList : (⟨#[]⟩ : ByteArray).toList = [] := by rw [ByteArray.toList_eq]
theorem fill_skip {α : Type} (xs zs : List α) (k : Nat) (h : k < xs.length) (hz : zs.length = xs.length) (e : xs[k]? = zs[k]?) : xs.take k ++ zs.drop k = xs.take (k + 1) ++ zs.drop (k + 1) := by
  rw [take_add xs k h, List.append_assoc, List.drop_eq_getElem_cons (by omega : k < zs.length)]
  rw [List.getElem?_eq_getElem h, List.getElem?_eq_getElem (by omega)] at e
  rw [Option.some.inj e]; rfl
end Go.Proofs.Ytppmmkmlngmafaa
