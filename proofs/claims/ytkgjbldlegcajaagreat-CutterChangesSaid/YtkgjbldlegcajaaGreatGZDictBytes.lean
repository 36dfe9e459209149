/- What layer 5's Print gives, and how long that is; no walk. -/
import Derived.Test.YtkgjbldlegcajaaGreatGRuns
import Derived.Test.YtkgjbldlegcajaaGreatGShelf
import Derived.Test.YtkgjbldlegcajaaGreatGDict
namespace Go.Proofs.YtkgjbldlegcajaaGreat
open Go Go.RowKit
theorem cells_take (ws : List ByteArray) (k : Nat) (h : k < ws.length) : (ws.take (k + 1)).flatMap cellP = (ws.take k).flatMap cellP ++ (mkB (cellP ws[k])).data.toList := by
 rw [take_add ws k h, List.flatMap_append]
 simp [mkB_data]
theorem cells_size (ws : List ByteArray) (h : ∀ c ∈ ws, c.size ≤ 1000000) : (ws.flatMap cellP).length ≤ 1000010 * ws.length := by
 induction ws with
 | nil => simp
 | cons x ws ih =>
  have h1 := h x List.mem_cons_self
  have ih := ih (fun y hy => h y (List.mem_cons_of_mem _ hy))
  have h2 := (cellP_length x).resolve_right (by omega)
  rw [List.flatMap_cons, List.length_append, List.length_cons]
  omega
theorem shelfB_most (l : List Int) (hr : InR l) : (shelfB l).size ≤ 20 + 8 * l.length := by
 have h1 := vp_len_10 (foldI_nat l hr)
 have h8 : bytesL l ≤ 8 := bytesFrom_le_8 _ _
 have h2 := vp_len_10 (n := bytesL l) (by omega)
 have h3 := rowsP_length (leastI l) (bytesL l) l
 have h4 := Nat.mul_le_mul_right l.length h8
 rw [← data_size, shelfB_data]
 unfold shelfP
 rw [List.length_append, List.length_append, h3]
 omega
def dictB (l : List ByteArray) : ByteArray := mkB (dictP l)
theorem dictB_parts (l : List ByteArray) : mkB (vp (wordsOf l).length ++ (wordsOf l).flatMap cellP) ++ shelfB (placesOf l) = dictB l := by
 unfold dictB dictP
 apply bytes_ext
 rw [data_append]
 show (vp (wordsOf l).length ++ (wordsOf l).flatMap cellP) ++ shelfP (placesOf l) = _
 rw [List.append_assoc]; rfl
end Go.Proofs.YtkgjbldlegcajaaGreat
