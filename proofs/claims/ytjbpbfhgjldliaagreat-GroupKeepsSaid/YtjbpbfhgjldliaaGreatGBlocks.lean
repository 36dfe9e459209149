/- Rows in memory that was not there before; no program. -/
import Derived.Test.YtjbpbfhgjldliaaGreatGTimes
namespace Go.Proofs.YtjbpbfhgjldliaaGreat
open Go Go.RowKit
def TimesNew (w:World)(B:Nat)(v:Value)(l:List Tm):Prop:=∃ tv,SliceOf w 2 v l.length (timesV tv)∧RowsOf w tv l∧(∀ t∈tv,Fresh B t.1)∧Fresh B v
theorem TimesNew.times {w:World}{B:Nat}{v:Value}{l:List Tm}(h:TimesNew w B v l):TimesIn w v l:=by
 obtain ⟨tv,h1,h2,_⟩:=h
 exact ⟨tv,h1,h2⟩
theorem TimesNew.kept {w w':World}{B:Nat}{v:Value}{l:List Tm}(h:TimesNew w B v l)(hb:Below w.heap.size w w'):TimesNew w' B v l:=by
 obtain ⟨tv,h1,h2,h3⟩:=h
 exact ⟨tv,SliceOf.later h1 hb,h2.kept hb,h3⟩
theorem TimesNew.nil_ (w:World)(B cap:Nat):TimesNew w B (.slice none 0 cap) []:=⟨[],SliceOf.nil_ _ _ _ _,trivial,fun _ h=>absurd h (by simp),fun k hk=>by simp [Value.ownBlock] at hk⟩
end Go.Proofs.YtjbpbfhgjldliaaGreat
