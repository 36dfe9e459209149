/- Contracts of Print. -/
import Derived.Test.YtppmmkmlngmafaaVaryWalks
namespace Go.Proofs.Ytppmmkmlngmafaa
open Go Go.RowKit

theorem conv10_1 (w : World) (T : TypeId) (a b c d e f g h i j : Int) :
    (convert 53 9 (.slice (some ⟨w.heap.size, 0, none⟩) 1 10)).run Try.prog (w.alloc (.cells #[.int .u8 a, .int .u8 b, .int .u8 c, .int .u8 d, .int .u8 e, .int .u8 f, .int .u8 g, .int .u8 h, .int .u8 i, .int .u8 j] T)) =
      .ok (.string (strOfNums [a])) (w.alloc (.cells #[.int .u8 a, .int .u8 b, .int .u8 c, .int .u8 d, .int .u8 e, .int .u8 f, .int .u8 g, .int .u8 h, .int .u8 i, .int .u8 j] T)) :=
  conv_take w 53 5 9 Try.underlying53 Try.underlying5 Try.underlying9 [a] [b, c, d, e, f, g, h, i, j] 10 T
theorem conv10_2 (w : World) (T : TypeId) (a b c d e f g h i j : Int) :
    (convert 53 9 (.slice (some ⟨w.heap.size, 0, none⟩) 2 10)).run Try.prog (w.alloc (.cells #[.int .u8 a, .int .u8 b, .int .u8 c, .int .u8 d, .int .u8 e, .int .u8 f, .int .u8 g, .int .u8 h, .int .u8 i, .int .u8 j] T)) =
      .ok (.string (strOfNums [a, b])) (w.alloc (.cells #[.int .u8 a, .int .u8 b, .int .u8 c, .int .u8 d, .int .u8 e, .int .u8 f, .int .u8 g, .int .u8 h, .int .u8 i, .int .u8 j] T)) :=
  conv_take w 53 5 9 Try.underlying53 Try.underlying5 Try.underlying9 [a, b] [c, d, e, f, g, h, i, j] 10 T
theorem conv10_3 (w : World) (T : TypeId) (a b c d e f g h i j : Int) :
    (convert 53 9 (.slice (some ⟨w.heap.size, 0, none⟩) 3 10)).run Try.prog (w.alloc (.cells #[.int .u8 a, .int .u8 b, .int .u8 c, .int .u8 d, .int .u8 e, .int .u8 f, .int .u8 g, .int .u8 h, .int .u8 i, .int .u8 j] T)) =
      .ok (.string (strOfNums [a, b, c])) (w.alloc (.cells #[.int .u8 a, .int .u8 b, .int .u8 c, .int .u8 d, .int .u8 e, .int .u8 f, .int .u8 g, .int .u8 h, .int .u8 i, .int .u8 j] T)) :=
  conv_take w 53 5 9 Try.underlying53 Try.underlying5 Try.underlying9 [a, b, c] [d, e, f, g, h, i, j] 10 T
theorem conv10_4 (w : World) (T : TypeId) (a b c d e f g h i j : Int) :
    (convert 53 9 (.slice (some ⟨w.heap.size, 0, none⟩) 4 10)).run Try.prog (w.alloc (.cells #[.int .u8 a, .int .u8 b, .int .u8 c, .int .u8 d, .int .u8 e, .int .u8 f, .int .u8 g, .int .u8 h, .int .u8 i, .int .u8 j] T)) =
      .ok (.string (strOfNums [a, b, c, d])) (w.alloc (.cells #[.int .u8 a, .int .u8 b, .int .u8 c, .int .u8 d, .int .u8 e, .int .u8 f, .int .u8 g, .int .u8 h, .int .u8 i, .int .u8 j] T)) :=
  conv_take w 53 5 9 Try.underlying53 Try.underlying5 Try.underlying9 [a, b, c, d] [e, f, g, h, i, j] 10 T
theorem conv10_5 (w : World) (T : TypeId) (a b c d e f g h i j : Int) :
    (convert 53 9 (.slice (some ⟨w.heap.size, 0, none⟩) 5 10)).run Try.prog (w.alloc (.cells #[.int .u8 a, .int .u8 b, .int .u8 c, .int .u8 d, .int .u8 e, .int .u8 f, .int .u8 g, .int .u8 h, .int .u8 i, .int .u8 j] T)) =
      .ok (.string (strOfNums [a, b, c, d, e])) (w.alloc (.cells #[.int .u8 a, .int .u8 b, .int .u8 c, .int .u8 d, .int .u8 e, .int .u8 f, .int .u8 g, .int .u8 h, .int .u8 i, .int .u8 j] T)) :=
  conv_take w 53 5 9 Try.underlying53 Try.underlying5 Try.underlying9 [a, b, c, d, e] [f, g, h, i, j] 10 T
theorem conv10_6 (w : World) (T : TypeId) (a b c d e f g h i j : Int) :
    (convert 53 9 (.slice (some ⟨w.heap.size, 0, none⟩) 6 10)).run Try.prog (w.alloc (.cells #[.int .u8 a, .int .u8 b, .int .u8 c, .int .u8 d, .int .u8 e, .int .u8 f, .int .u8 g, .int .u8 h, .int .u8 i, .int .u8 j] T)) =
      .ok (.string (strOfNums [a, b, c, d, e, f])) (w.alloc (.cells #[.int .u8 a, .int .u8 b, .int .u8 c, .int .u8 d, .int .u8 e, .int .u8 f, .int .u8 g, .int .u8 h, .int .u8 i, .int .u8 j] T)) :=
  conv_take w 53 5 9 Try.underlying53 Try.underlying5 Try.underlying9 [a, b, c, d, e, f] [g, h, i, j] 10 T
theorem conv10_7 (w : World) (T : TypeId) (a b c d e f g h i j : Int) :
    (convert 53 9 (.slice (some ⟨w.heap.size, 0, none⟩) 7 10)).run Try.prog (w.alloc (.cells #[.int .u8 a, .int .u8 b, .int .u8 c, .int .u8 d, .int .u8 e, .int .u8 f, .int .u8 g, .int .u8 h, .int .u8 i, .int .u8 j] T)) =
      .ok (.string (strOfNums [a, b, c, d, e, f, g])) (w.alloc (.cells #[.int .u8 a, .int .u8 b, .int .u8 c, .int .u8 d, .int .u8 e, .int .u8 f, .int .u8 g, .int .u8 h, .int .u8 i, .int .u8 j] T)) :=
  conv_take w 53 5 9 Try.underlying53 Try.underlying5 Try.underlying9 [a, b, c, d, e, f, g] [h, i, j] 10 T
theorem conv10_8 (w : World) (T : TypeId) (a b c d e f g h i j : Int) :
    (convert 53 9 (.slice (some ⟨w.heap.size, 0, none⟩) 8 10)).run Try.prog (w.alloc (.cells #[.int .u8 a, .int .u8 b, .int .u8 c, .int .u8 d, .int .u8 e, .int .u8 f, .int .u8 g, .int .u8 h, .int .u8 i, .int .u8 j] T)) =
      .ok (.string (strOfNums [a, b, c, d, e, f, g, h])) (w.alloc (.cells #[.int .u8 a, .int .u8 b, .int .u8 c, .int .u8 d, .int .u8 e, .int .u8 f, .int .u8 g, .int .u8 h, .int .u8 i, .int .u8 j] T)) :=
  conv_take w 53 5 9 Try.underlying53 Try.underlying5 Try.underlying9 [a, b, c, d, e, f, g, h] [i, j] 10 T
theorem conv10_9 (w : World) (T : TypeId) (a b c d e f g h i j : Int) :
    (convert 53 9 (.slice (some ⟨w.heap.size, 0, none⟩) 9 10)).run Try.prog (w.alloc (.cells #[.int .u8 a, .int .u8 b, .int .u8 c, .int .u8 d, .int .u8 e, .int .u8 f, .int .u8 g, .int .u8 h, .int .u8 i, .int .u8 j] T)) =
      .ok (.string (strOfNums [a, b, c, d, e, f, g, h, i])) (w.alloc (.cells #[.int .u8 a, .int .u8 b, .int .u8 c, .int .u8 d, .int .u8 e, .int .u8 f, .int .u8 g, .int .u8 h, .int .u8 i, .int .u8 j] T)) :=
  conv_take w 53 5 9 Try.underlying53 Try.underlying5 Try.underlying9 [a, b, c, d, e, f, g, h, i] [j] 10 T
theorem conv10_10 (w : World) (T : TypeId) (a b c d e f g h i j : Int) :
    (convert 53 9 (.slice (some ⟨w.heap.size, 0, none⟩) 10 10)).run Try.prog (w.alloc (.cells #[.int .u8 a, .int .u8 b, .int .u8 c, .int .u8 d, .int .u8 e, .int .u8 f, .int .u8 g, .int .u8 h, .int .u8 i, .int .u8 j] T)) =
      .ok (.string (strOfNums [a, b, c, d, e, f, g, h, i, j])) (w.alloc (.cells #[.int .u8 a, .int .u8 b, .int .u8 c, .int .u8 d, .int .u8 e, .int .u8 f, .int .u8 g, .int .u8 h, .int .u8 i, .int .u8 j] T)) :=
  conv_take w 53 5 9 Try.underlying53 Try.underlying5 Try.underlying9 [a, b, c, d, e, f, g, h, i, j] [] 10 T
end Go.Proofs.Ytppmmkmlngmafaa
