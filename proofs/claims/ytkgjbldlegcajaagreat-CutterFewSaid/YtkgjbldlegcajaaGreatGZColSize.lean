/- How many bytes cells take, in each way; no program. -/
import Derived.Test.YtkgjbldlegcajaaGreatGSteps
import Derived.Test.YtkgjbldlegcajaaGreatGCol
import Derived.Test.YtkgjbldlegcajaaGreatGGapsRef
import Derived.Test.YtkgjbldlegcajaaGreatGRunsPrint
namespace Go.Proofs.YtkgjbldlegcajaaGreat
open Go Go.RowKit
theorem as_size (l : List ByteArray) (hlen : l.length ≤ 4096) (hs : ∀ c ∈ l, c.size ≤ 1000000) (way : Int) : (asB l way).size ≤ 10000000000 := by
 unfold asB
 split
 ·rw [mkB_size]
  unfold runsP
  have h1 := runB_size (runsOf l) (fun x hx => by have := runsOf_mem l x hx; exact ⟨hs _ this.1, by omega⟩)
  have h2 := runs_le l
  omega
 ·split
  ·unfold dictB
   rw [mkB_size]
   unfold dictP
   have hw := wordsOf_length l
   have h1 := cells_size (wordsOf l) (fun c hc => hs c (((wordsOf_spec l).2 c).1 hc))
   have h2 := shelfB_most (placesOf l) (places_range l (by omega))
   have h3 := vp_len_10 (n := (wordsOf l).length) (by omega)
   have h4 : (placesOf l).length = l.length := by unfold placesOf; exact List.length_map _
   have h5 : (shelfP (placesOf l)).length = (shelfB (placesOf l)).size := by rw [← data_size]; rfl
   rw [List.length_append, List.length_append, h5]
   omega
  ·split
   ·unfold stepsG
    split
    ·unfold stepsT
     rw [mkB_size]
     have := stepsB_size 0 (numsL l)
     rw [numsL_length] at this
     unfold stepsP
     omega
    ·show 0 ≤ _; omega
   ·show 0 ≤ _; omega
theorem cellsR_size (ws : List ByteArray) (h : ∀ c ∈ ws, c.size ≤ 17) : (ws.flatMap cellP).length ≤ 27 * ws.length := by
 induction ws with
 | nil => simp
 | cons x ws ih =>
  have h1 := h x List.mem_cons_self
  have ih := ih (fun y hy => h y (List.mem_cons_of_mem _ hy))
  have h2 := (cellP_length x).resolve_right (by omega)
  rw [List.flatMap_cons, List.length_append, List.length_cons]
  omega
theorem runR_size (rs : List (ByteArray × Nat)) (h : ∀ x ∈ rs, x.1.size ≤ 17 ∧ x.2 ≤ 1000000) : (runB rs).length ≤ 37 * rs.length := by
 induction rs with
 | nil => simp [runB]
 | cons x rs ih =>
  have h1 := h x List.mem_cons_self
  have ih := ih (fun y hy => h y (List.mem_cons_of_mem _ hy))
  rw [runB_cons, List.length_append, List.length_append, List.length_cons]
  have h2 := (cellP_length x.1).resolve_right (by omega)
  have h3 : (vp x.2).length ≤ 10 := vp_len_10 (by omega)
  omega
theorem asR_size (l : List ByteArray) (hlen : l.length ≤ 4096) (hr : ∀ c ∈ l, rightB c = true) (way : Int) : (asB l way).size ≤ 200000 := by
 have hs : ∀ c ∈ l, c.size ≤ 17 := fun c hc => rightB_size (hr c hc)
 unfold asB
 split
 ·rw [mkB_size]
  unfold runsP
  have h1 := runR_size (runsOf l) (fun x hx => by have := runsOf_mem l x hx; exact ⟨hs _ this.1, by omega⟩)
  have h2 := runs_le l
  omega
 ·split
  ·unfold dictB
   rw [mkB_size]
   unfold dictP
   have hw := wordsOf_length l
   have h1 := cellsR_size (wordsOf l) (fun c hc => hs c (((wordsOf_spec l).2 c).1 hc))
   have h2 := shelfB_most (placesOf l) (places_range l (by omega))
   have h3 := vp_len_10 (n := (wordsOf l).length) (by omega)
   have h4 : (placesOf l).length = l.length := by unfold placesOf; exact List.length_map _
   have h5 : (shelfP (placesOf l)).length = (shelfB (placesOf l)).size := by rw [← data_size]; rfl
   rw [List.length_append, List.length_append, h5]
   omega
  ·split
   ·unfold stepsG
    split
    ·unfold stepsT
     rw [mkB_size]
     have := stepsB_size 0 (numsL l)
     rw [numsL_length] at this
     unfold stepsP
     omega
    ·show 0 ≤ _; omega
   ·show 0 ≤ _; omega
theorem fullL_mem {l : List ByteArray} {c : ByteArray} (h : c ∈ fullL l) : c ∈ l := (List.mem_filter.1 h).1
end Go.Proofs.YtkgjbldlegcajaaGreat
