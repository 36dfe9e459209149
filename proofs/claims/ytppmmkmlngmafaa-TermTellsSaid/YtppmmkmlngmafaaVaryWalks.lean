/- Contracts of Print, Fold and Open of the layer vary and of its answer. -/
import Derived.Test.YtppmmkmlngmafaaKit
import Derived.Test.YtppmmkmlngmafaaVaryPure
namespace Go.Proofs.Ytppmmkmlngmafaa
open Go Go.RowKit

def printB (n : Nat) : ByteArray := ⟨(vp n).toArray⟩

theorem or_128 (m : Int) (_h : 0 ≤ m) : bits .or .u8 (m % 256) 128 = m % 128 + 128 := by
  have j : ∀ a : Fin 256, bits .or .u8 ((a.val : Nat) : Int) 128 = ((a.val % 128 + 128 : Nat) : Int) := by decide +kernel
  have j' := j ⟨(m % 256).toNat, by omega⟩
  simp only [] at j'
  have e1 : (((m % 256).toNat : Nat) : Int) = m % 256 := by omega
  rw [e1] at j'
  rw [j']
  omega
theorem not_128 (b : UInt8) : bits .andNot .u8 (b.toNat : Int) 128 = ((b.toNat % 128 : Nat) : Int) := by
  have j : ∀ a : Fin 256, bits .andNot .u8 ((a.val : Nat) : Int) 128 = ((a.val % 128 : Nat) : Int) := by decide +kernel
  exact j ⟨b.toNat, b.toNat_lt⟩
theorem and_127 (b : UInt8) : bits .and .u8 (b.toNat : Int) 127 = ((b.toNat % 128 : Nat) : Int) := by
  have j : ∀ a : Fin 256, bits .and .u8 ((a.val : Nat) : Int) 127 = ((a.val % 128 : Nat) : Int) := by decide +kernel
  exact j ⟨b.toNat, b.toNat_lt⟩

/-- A number's bytes, as numbers. -/
def vpI (n : Nat) : List Int := (vp n).map fun b => (b.toNat : Int)
theorem vpI_small {n : Nat} (h : n < 128) : vpI n = [(n : Int)] := by
  unfold vpI
  rw [vp_small h]
  simp only [List.map_cons, List.map_nil]
  rw [toNat_ofNat (by omega)]
theorem vpI_great {n : Nat} (h : ¬ n < 128) : vpI n = ((n : Int) % 128 + 128) :: vpI (n / 128) := by
  unfold vpI
  rw [vp_great h]
  simp only [List.map_cons]
  rw [toNat_ofNat (by omega)]
  congr 1
theorem strOfNums_vpI (n : Nat) : strOfNums (vpI n) = printB n := by
  unfold strOfNums printB vpI
  rw [List.map_map]
  congr 2
  conv => rhs; rw [← List.map_id (vp n)]
  refine List.map_congr_left fun b _ => ?_
  simp
theorem vpI_smallI {n : Int} (h0 : 0 ≤ n) (h : n < 128) : vpI n.toNat = [n] := by
  rw [vpI_small (by omega)]; congr 1; omega
theorem vpI_greatI {n : Int} (h0 : 128 ≤ n) : vpI n.toNat = (n % 128 + 128) :: vpI (n / 128).toNat := by
  rw [vpI_great (by omega)]; congr 1
  · omega
  · congr 1; omega

theorem conv_take {P : Program} (w : World) (src e dst : TypeId) (hs : P.underlying src = some (.slice e)) (he : P.underlying e = some (.int .u8)) (hd : P.underlying dst = some .string)
    (xs ys : List Int) (c : Nat) (T : TypeId) :
    (convert src dst (.slice (some ⟨w.heap.size, 0, none⟩) xs.length c)).run P (w.alloc (.cells ((xs ++ ys).map (Value.int .u8)).toArray T)) =
      .ok (.string (strOfNums xs)) (w.alloc (.cells ((xs ++ ys).map (Value.int .u8)).toArray T)) := by
  refine run_convert_bytes_arg _ src e hs he w.heap.size 0 xs.length c xs rfl (fun i hi => ?_) dst hd
  simp [go_sem, hi, List.getElem?_append_left]
theorem vconv1 (w : World) (T : TypeId) (a : Int) (b : Nat) (hb : b = w.heap.size) :
    (convert 53 9 (.slice (some ⟨b, 0, none⟩) 1 1)).run Try.prog
      (w.alloc (.cells #[.int .u8 a] T)) =
      .ok (.string (strOfNums [a])) (w.alloc (.cells #[.int .u8 a] T)) := by
  subst hb
  exact conv_take w 53 5 9 Try.underlying53 Try.underlying5 Try.underlying9 [a] [] 1 T

end Go.Proofs.Ytppmmkmlngmafaa
