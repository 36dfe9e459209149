/- A stable sort's runs: which parts are in order; no program. -/
import Derived.Test.YtnkhkkdmjabhnaaGZStablePure
namespace Go.Proofs.Ytnkhkkdmjabhnaa
open Go.Sort
theorem insInner_size {α:Type} [Inhabited α](lt:α→α→Bool)(a:Nat):∀ (j:Nat)(d:Array α),(insInner lt a j d).size=d.size
 | 0,d=>rfl
 | j+1,d=>by
  unfold insInner
  split
  ·rw [insInner_size lt a j,size_swp]
  ·rfl
theorem insOuter_size {α:Type} [Inhabited α](lt:α→α→Bool)(a b:Nat):∀ (n i:Nat)(d:Array α),b-i=n→(insOuter lt a b i d).size=d.size
 | 0,i,d,hn=>by rw [insOuter,if_neg (by omega)]
 | n+1,i,d,hn=>by rw [insOuter,if_pos (by omega),insOuter_size lt a b n (i+1) _ (by omega),insInner_size]
theorem insertion_size {α:Type} [Inhabited α](lt:α→α→Bool)(d:Array α)(a b:Nat):(insertionSort lt d a b).size=d.size:=insOuter_size lt a b _ _ d rfl
theorem dvd_gap {B x a:Nat}(h1:B ∣ x)(h2:B ∣ a)(h:x < a):x+B≤a:=by
 obtain ⟨p,rfl⟩:=h1
 obtain ⟨q,rfl⟩:=h2
 have hpq:p < q:=Nat.lt_of_mul_lt_mul_left h
 have:=Nat.mul_le_mul_left B (show p+1≤q from hpq)
 rwa [Nat.mul_add,Nat.mul_one] at this
section
variable {α:Type} [Inhabited α]{lt:α→α→Bool}{tag:α→Nat}
def Run (lt:α→α→Bool)(tag:α→Nat)(x y:Nat)(d:Array α):Prop:=SortedIn lt x y d∧TagsIn tag x y d
def RunsTo (lt:α→α→Bool)(tag:α→Nat)(B e:Nat)(d:Array α):Prop:=∀ x,B ∣ x→x+B≤e→Run lt tag x (x+B) d
def RunsFrom (lt:α→α→Bool)(tag:α→Nat)(B s n:Nat)(d:Array α):Prop:=∀ x,B ∣ x→s≤x→x < n→Run lt tag x (min (x+B) n) d
theorem TagsIn.perm {x y:Nat}{d d':Array α}(h:TagsIn tag x y d)(hy:y≤d.size)(hp:PermIn x y d d'):TagsIn tag x y d':=permIn_all d d' x y (fun v=>x≤tag v∧tag v < y) hy hp h
theorem TagsIn.out {a b x y:Nat}{d d':Array α}(h:TagsIn tag x y d)(hp:PermIn a b d d')(hx:y≤a∨b≤x):TagsIn tag x y d':=fun i h1 h2=>by
 rw [hp.2.1 i (by omega)]
 exact h i h1 h2
theorem Run.out {a b x y:Nat}{d d':Array α}(h:Run lt tag x y d)(hp:PermIn a b d d')(hx:y≤a∨b≤x):Run lt tag x y d':=⟨SortedIn.perm_out h.1 hp (by omega),h.2.out hp hx⟩
theorem TagsIn.join {x y z:Nat}{d:Array α}(h1:TagsIn tag x y d)(h2:TagsIn tag y z d)(hxy:x≤y)(hyz:y≤z):TagsIn tag x z d:=fun i hi hi2=>by
 by_cases c:i < y
 ·have:=h1 i hi c;omega
 ·have:=h2 i (by omega) hi2;omega
theorem TagsIn.ahead {a m b:Nat}{d:Array α}(h1:TagsIn tag a m d)(h2:TagsIn tag m b d):AheadOf tag a m b d:=fun i j hi hi2 hj hj2=>by
 have:=h1 i hi hi2
 have:=h2 j hj hj2
 omega
theorem tags_self {d:Array α}{a b:Nat}(h:∀ i,a≤i→i < b→tag d[i]! = i):TagsIn tag a b d:=fun i h1 h2=>by rw [h i h1 h2];exact ⟨h1,h2⟩
theorem runs_block {n a b B:Nat}{d d':Array α}(hB:0 < B)(ha:B ∣ a)(hb:b=a+B)(hn:n≤d.size)(hbn:b≤n)(h:RunsTo lt tag B a d)(ht:∀ i,a≤i→i < n→tag d[i]! = i)(hp:PermIn a b d d')(hs:SortedIn lt a b d') :
  RunsTo lt tag B b d'∧∀ i,b≤i→i < n→tag d'[i]! = i:=by
 refine ⟨fun x hx hxb=>?_,fun i hi hin=>?_⟩
 ·by_cases c:x < a
  ·have:=dvd_gap hx ha c
   exact (h x hx this).out hp (.inl this)
  ·have e:x=a:=by omega
   subst e
   rw [←hb]
   exact ⟨hs,(tags_self fun i h1 h2=>ht i h1 (by omega)).perm (by omega) hp⟩
 ·rw [hp.2.1 i (.inr hi)]
  exact ht i (by omega) hin
theorem runs_blocks {n a B:Nat}{d d':Array α}(ha:B ∣ a)(han:a≤n)(hb:n < a+B)(hn:n≤d.size)(h:RunsTo lt tag B a d)(ht:∀ i,a≤i→i < n→tag d[i]! = i)(hp:PermIn a n d d')(hs:SortedIn lt a n d'):RunsFrom lt tag B 0 n d':=by
 intro x hx _ hxn
 by_cases c:x < a
 ·have:=dvd_gap hx ha c
  rw [Nat.min_eq_left (by omega)]
  exact (h x hx this).out hp (.inl this)
 ·have e:x=a:=by
   rcases Nat.lt_or_ge a x with k|k
   ·have:=dvd_gap ha hx k;omega
   ·omega
  subst e
  rw [Nat.min_eq_right (by omega)]
  exact ⟨hs,(tags_self fun i h1 h2=>ht i h1 h2).perm hn hp⟩
theorem runs_two {n a B:Nat}{d:Array α}(ha:B ∣ a)(h:RunsFrom lt tag B a n d)(hm:a+B < n){b:Nat}(hb:b=min (a+B+B) n):Run lt tag a (a+B) d∧Run lt tag (a+B) b d:=by
 have h1:=h a ha (Nat.le_refl _) (by omega)
 rw [Nat.min_eq_left (by omega)] at h1
 have h2:=h (a+B) (Nat.dvd_add ha (Nat.dvd_refl _)) (by omega) hm
 rw [←hb] at h2
 exact ⟨h1,h2⟩
theorem runs_step {n a b B:Nat}{d d':Array α}(hB:0 < B)(ha:2*B ∣ a)(hb:b=a+2*B)(hn:n≤d.size)(hbn:b≤n)(h:RunsTo lt tag (2*B) a d)(k:RunsFrom lt tag B a n d)(hp:PermIn a b d d')(hs:SortedIn lt a b d') :
  RunsTo lt tag (2*B) b d'∧RunsFrom lt tag B b n d':=by
 have haB:B ∣ a:=Nat.dvd_trans (Nat.dvd_mul_left B 2) ha
 obtain ⟨r1,r2⟩:=runs_two haB k (by omega) (b:=b) (by omega)
 refine ⟨fun x hx hxb=>?_,fun x hx hbx hxn=>?_⟩
 ·by_cases c:x < a
  ·have:=dvd_gap hx ha c
   exact (h x hx this).out hp (.inl this)
  ·have e:x=a:=by omega
   subst e
   rw [←hb]
   exact ⟨hs,(r1.2.join r2.2 (by omega) (by omega)).perm (by omega) hp⟩
 ·exact (k x hx (by omega) hxn).out hp (.inr hbx)
theorem runs_rest {n a B:Nat}{d d':Array α}(ha:2*B ∣ a)(hm:a+B < n)(hb:n < a+2*B)(hn:n≤d.size)(h:RunsTo lt tag (2*B) a d)(k:RunsFrom lt tag B a n d)(hp:PermIn a n d d')(hs:SortedIn lt a n d'):RunsFrom lt tag (2*B) 0 n d':=by
 have haB:B ∣ a:=Nat.dvd_trans (Nat.dvd_mul_left B 2) ha
 obtain ⟨r1,r2⟩:=runs_two haB k (by omega) (b:=n) (by omega)
 intro x hx _ hxn
 by_cases c:x < a
 ·have:=dvd_gap hx ha c
  rw [Nat.min_eq_left (by omega)]
  exact (h x hx this).out hp (.inl this)
 ·have e:x=a:=by
   rcases Nat.lt_or_ge a x with q|q
   ·have:=dvd_gap ha hx q;omega
   ·omega
  subst e
  rw [Nat.min_eq_right (by omega)]
  exact ⟨hs,(r1.2.join r2.2 (by omega) (by omega)).perm hn hp⟩
theorem runs_rest_none {n a B:Nat}{d:Array α}(ha:2*B ∣ a)(han:a≤n)(hm:¬a+B < n)(hb:n < a+2*B)(h:RunsTo lt tag (2*B) a d)(k:RunsFrom lt tag B a n d):RunsFrom lt tag (2*B) 0 n d:=by
 have haB:B ∣ a:=Nat.dvd_trans (Nat.dvd_mul_left B 2) ha
 intro x hx _ hxn
 by_cases c:x < a
 ·have:=dvd_gap hx ha c
  rw [Nat.min_eq_left (by omega)]
  exact h x hx this
 ·have e:x=a:=by
   rcases Nat.lt_or_ge a x with q|q
   ·have:=dvd_gap ha hx q;omega
   ·omega
  subst e
  have:=k x haB (Nat.le_refl _) hxn
  rw [Nat.min_eq_right (by omega)] at this ⊢
  exact this
theorem runs_all {n B:Nat}{d:Array α}(h:RunsFrom lt tag B 0 n d)(hB:n≤B):SortedIn lt 0 n d:=by
 rcases Nat.eq_zero_or_pos n with h0|h0
 ·subst h0;exact fun i j _ _ hj=>absurd hj (by omega)
 ·have:=(h 0 (Nat.dvd_zero _) (Nat.le_refl _) h0).1
  rwa [Nat.zero_add,Nat.min_eq_right hB] at this
end
end Go.Proofs.Ytnkhkkdmjabhnaa
