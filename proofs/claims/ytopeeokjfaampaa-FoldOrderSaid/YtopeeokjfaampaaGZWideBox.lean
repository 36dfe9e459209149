/- A wide number's box: its two cells, which may be written; no program. -/
import Derived.Test.YtopeeokjfaampaaGStrs
import Derived.Test.YtopeeokjfaampaaGZWideNum
namespace Go.Proofs.Ytopeeokjfaampaa
open Go Go.RowKit
def WBox (w:World)(B:Nat)(a:Wd):Prop:=Own w B 2 (.slice (some ⟨B,0,none⟩) 1 1) 1 [.int .i64 a.1,.int .u64 a.2]
abbrev putW2 (w:World) (B:Nat) (a:Wd):World:=(w.setCell ⟨B,0,none⟩ (.int .i64 a.1)).setCell ⟨B,1,none⟩ (.int .u64 a.2)
theorem WBox.cells {w:World}{B:Nat}{a:Wd}(h:WBox w B a):w.cell? ⟨B,0,none⟩=some (.int .i64 a.1)∧w.cell? ⟨B,1,none⟩=some (.int .u64 a.2)∧w.frozen? ⟨B,0,none⟩=false∧w.frozen? ⟨B,1,none⟩=false∧B < w.heap.size:=by
 obtain ⟨_,h2,_,hc,hr⟩:=Own.parts h
 have e0:=hc 0 _ rfl
 have e1:=hc 1 _ rfl
 have e2:=(hr 0 (by decide)).2
 have e3:=(hr 1 (by decide)).2
 rw [Nat.zero_add] at e1 e3
 exact ⟨e0,e1,e2,e3,h2⟩
theorem WBox.later {w w':World}{B:Nat}{a:Wd}(h:WBox w B a)(hb:Below w.heap.size w w'):WBox w' B a:=Own.later h hb
theorem WBox.put {w:World}{B:Nat}{a:Wd}(h:WBox w B a)(s:Wd):WBox (putW2 w B s) B s:=by
 have:=Own.stored (Own.stored h 0 (by decide) (.int .i64 s.1)) 1 (by decide) (.int .u64 s.2)
 simp only [Nat.zero_add] at this
 exact this
theorem put_below {w0 w:World}{B0 B:Nat}(hb:Below B0 w0 w)(h:B0≤B)(s:Wd):Below B0 w0 (putW2 w B s):=(hb.setCell h _).setCell h _
theorem wbox_lit (w:World)(T:TypeId)(a:Wd):WBox (w.alloc (.cells #[.int .i64 a.1,.int .u64 a.2] T)) w.heap.size a :=
 Own.lit (size:=2) w #[.int .i64 a.1,.int .u64 a.2] T 1 (Nat.le_refl _) (by unfold maxLen;omega) rfl
theorem wbox_zero (w:World)(T:TypeId):WBox (w.alloc (.cells #[.int .i64 0,.int .u64 0] T)) w.heap.size (0,0):=wbox_lit w T (0,0)
end Go.Proofs.Ytopeeokjfaampaa
