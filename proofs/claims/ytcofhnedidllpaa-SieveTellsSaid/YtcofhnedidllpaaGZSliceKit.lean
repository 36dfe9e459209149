/- Slices' fronts, cells, literals of numbers; no program. -/
import Derived.Test.YtcofhnedidllpaaGStrs
namespace Go.Proofs.Ytcofhnedidllpaa
open Go Go.RowKit
theorem SliceOf.front {w:World}{A:Option Addr}{n cap m:Nat}{xs:List Value}(h:SliceOf w 1 (.slice A n cap) n xs)(hm:m≤n):SliceOf w 1 (.slice A m cap) m (xs.take m):=by
 obtain ⟨h1,h2,A',cap',e,hr,h4⟩:=h
 cases e
 refine ⟨by rw [List.length_take];omega,by omega,A,cap,rfl,by omega,fun h0=>?_⟩
 obtain ⟨b,off,e1,hb,hc⟩:=h4 (by omega)
 refine ⟨b,off,e1,hb,fun j u hu=>hc j u ?_⟩
 rw [List.getElem?_take] at hu
 split at hu
 ·exact hu
 ·exact absurd hu (by simp)
end Go.Proofs.Ytcofhnedidllpaa
