/- Rows of few cells stay rows of few cells; no program. -/
import Derived.Test.YtkgjbldlegcajaaGreatGStrs
import Derived.Test.YtkgjbldlegcajaaGreatGTimes
namespace Go.Proofs.YtkgjbldlegcajaaGreat
open Go Go.RowKit
theorem times_slice {w : World} {v : Value} {l : List Tm} (h : TimesIn w v l) : ∃ A cap, v = .slice A l.length cap := by
 obtain ⟨tv, A, cap, e, _⟩ := times_at h
 exact ⟨A, cap, e⟩
def ShortR (l : List Tm) : Prop := ∀ t ∈ l, t.1.length ≤ 1000000
theorem ShortR.of {l : List Tm} (h : ShortR l) : ShortR (ofW l) := fun t ht => by
 obtain ⟨u, hu, e⟩ := mem_of ht
 rw [← e]; exact h u hu
end Go.Proofs.YtkgjbldlegcajaaGreat
