/- A stable sort's steps on arrays: parts exchanged, turned, merged; what comes first among equals is told by numbers that the things bear; no program. -/
import Derived.Sort.LotA
import Derived.Sort.LotC
namespace Go.Proofs.Ytnkhkkdmjabhnaa
open Go.Sort
section
variable {α:Type} [Inhabited α]{lt:α→α→Bool}{tag:α→Nat}
def TagsIn (tag:α→Nat)(x y:Nat)(d:Array α):Prop:=∀ i,x≤i→i < y→x≤tag d[i]! ∧ tag d[i]! < y
def AheadOf (tag:α→Nat)(a m b:Nat)(d:Array α):Prop:=∀ i j,a≤i→i < m→m≤j→j < b→tag d[i]! < tag d[j]!
def rotF (a m b:Nat)(f:Nat→α)(x:Nat):α:=if a≤x∧x < a+(b-m) then f (x-a+m) else if a+(b-m)≤x∧x < b then f (x-(b-m)) else f x
def swF (a b n:Nat)(f:Nat→α)(x:Nat):α:=if a≤x∧x < a+n then f (b+(x-a)) else if b≤x∧x < b+n then f (a+(x-b)) else f x
omit [Inhabited α] in
theorem swF_zero (a b:Nat)(f:Nat→α)(x:Nat):swF a b 0 f x=f x:=by
 unfold swF
 rw [if_neg (by omega),if_neg (by omega)]
theorem swF_step {a b n:Nat}{f:Nat→α}{d:Array α}(h:∀ x,d[x]! = swF a b n f x)(hab:a+n < b)(hb:b+n < d.size):∀ x,(swp d (a+n) (b+n))[x]! = swF a b (n+1) f x:=by
 intro x
 rw [swp_get d (by omega) hb,h,h,h]
 unfold swF
 by_cases e1:x=b+n
 ·rw [if_pos e1,if_neg (by omega),if_neg (by omega),if_neg (by omega),if_pos (by omega)]
  congr 1;omega
 ·rw [if_neg e1]
  by_cases e2:x=a+n
  ·rw [if_pos e2,if_neg (by omega),if_neg (by omega),if_pos (by omega)]
   congr 1;omega
  ·rw [if_neg e2]
   by_cases c1:a≤x∧x < a+n
   ·rw [if_pos c1,if_pos (by omega)]
   ·rw [if_neg c1,if_neg (show ¬(a≤x∧x < a+(n+1)) by omega)]
    by_cases c2:b≤x∧x < b+n
    ·rw [if_pos c2,if_pos (by omega)]
    ·rw [if_neg c2,if_neg (by omega)]
omit [Inhabited α] in
theorem rot_left {m i j:Nat}(f:Nat→α)(hi:i≤m)(hij:j < i)(hj:0 < j)(x:Nat):rotF (m-(i-j)) m (m+j) (swF (m-i) m j f) x=rotF (m-i) m (m+j) f x:=by
 unfold rotF swF
 by_cases c1:x < m-i
 ·rw [if_neg (by omega),if_neg (by omega),if_neg (by omega),if_neg (by omega),if_neg (by omega),if_neg (by omega)]
 ·by_cases c2:x < m-i+j
  ·rw [if_neg (by omega),if_neg (by omega),if_pos (show m-i≤x∧x < m-i+j by omega),if_pos (show m-i≤x∧x < m-i+(m+j-m) by omega)]
   congr 1;omega
  ·by_cases c3:x < m
   ·by_cases c4:x < m-(i-j)+j
    ·rw [if_pos (by omega),if_neg (by omega),if_pos (by omega),if_neg (by omega),if_pos (by omega)]
     congr 1;omega
    ·rw [if_neg (by omega),if_pos (by omega),if_neg (by omega),if_neg (by omega),if_neg (by omega),if_pos (by omega)]
   ·by_cases c5:x < m+j
    ·by_cases c4:x < m-(i-j)+j
     ·rw [if_pos (by omega),if_neg (by omega),if_pos (by omega),if_neg (by omega),if_pos (by omega)]
      congr 1;omega
     ·rw [if_neg (by omega),if_pos (by omega),if_neg (by omega),if_neg (by omega),if_neg (by omega),if_pos (by omega)]
    ·rw [if_neg (by omega),if_neg (by omega),if_neg (by omega),if_neg (by omega),if_neg (by omega),if_neg (by omega)]
omit [Inhabited α] in
theorem rot_right {m i j:Nat}(f:Nat→α)(hi:i≤m)(hij:i < j)(hi0:0 < i)(x:Nat):rotF (m-i) m (m+(j-i)) (swF (m-i) (m+j-i) i f) x=rotF (m-i) m (m+j) f x:=by
 unfold rotF swF
 by_cases c1:x < m-i
 ·rw [if_neg (by omega),if_neg (by omega),if_neg (by omega),if_neg (by omega),if_neg (by omega),if_neg (by omega)]
 ·by_cases c2:x < m-i+(j-i)
  ·rw [if_pos (by omega),if_pos (show m-i≤x∧x < m-i+(m+j-m) by omega)]
   by_cases c3:x-(m-i)+m < m+j-i
   ·rw [if_neg (by omega),if_neg (by omega)]
   ·omega
  ·by_cases c3:x < m+(j-i)
   ·rw [if_neg (by omega),if_pos (by omega),if_pos (by omega),if_pos (by omega)]
    congr 1;omega
   ·by_cases c4:x < m+j
    ·rw [if_neg (by omega),if_neg (by omega),if_neg (by omega),if_pos (by omega),if_neg (by omega),if_pos (by omega)]
     congr 1;omega
    ·rw [if_neg (by omega),if_neg (by omega),if_neg (by omega),if_neg (by omega),if_neg (by omega),if_neg (by omega)]
omit [Inhabited α] in
theorem rot_same {m i:Nat}(f:Nat→α)(hi:i≤m)(x:Nat):swF (m-i) m i f x=rotF (m-i) m (m+i) f x:=by
 unfold rotF swF
 by_cases c1:m-i≤x∧x < m-i+i
 ·rw [if_pos c1,if_pos (by omega)]
  congr 1;omega
 ·rw [if_neg c1,if_neg (show ¬(m-i≤x∧x < m-i+(m+i-m)) by omega)]
  by_cases c2:m≤x∧x < m+i
  ·rw [if_pos c2,if_pos (by omega)]
   congr 1;omega
  ·rw [if_neg c2,if_neg (by omega)]
def upF (a k:Nat)(f:Nat→α)(x:Nat):α:=if a≤x∧x < k then f (x+1) else if x=k then f a else f x
def dnF (m k:Nat)(f:Nat→α)(x:Nat):α:=if k < x∧x≤m then f (x-1) else if x=k then f m else f x
omit [Inhabited α] in
theorem upF_start (a:Nat)(f:Nat→α)(x:Nat):upF a a f x=f x:=by
 unfold upF
 rw [if_neg (by omega)]
 split
 ·rename_i h;rw [h]
 ·rfl
theorem upF_step {a k:Nat}{f:Nat→α}{d:Array α}(h:∀ x,d[x]! = upF a k f x)(hak:a≤k)(hk:k+1 < d.size):∀ x,(swp d k (k+1))[x]! = upF a (k+1) f x:=by
 intro x
 rw [swp_get d (by omega) hk,h,h,h]
 unfold upF
 by_cases e1:x=k+1
 ·rw [if_pos e1,if_neg (by omega),if_pos rfl,if_neg (by omega),if_pos e1]
 ·rw [if_neg e1]
  by_cases e2:x=k
  ·rw [if_pos e2,if_neg (by omega),if_neg (by omega),if_pos (by omega),e2]
  ·rw [if_neg e2]
   by_cases c1:a≤x∧x < k
   ·rw [if_pos c1,if_pos (by omega)]
   ·rw [if_neg c1,if_neg e2,if_neg (by omega),if_neg e1]
omit [Inhabited α] in
theorem dnF_start (m:Nat)(f:Nat→α)(x:Nat):dnF m m f x=f x:=by
 unfold dnF
 rw [if_neg (by omega)]
 split
 ·rename_i h;rw [h]
 ·rfl
theorem dnF_step {m k:Nat}{f:Nat→α}{d:Array α}(h:∀ x,d[x]! = dnF m (k+1) f x)(hk:k+1≤m)(hm:m < d.size):∀ x,(swp d (k+1) k)[x]! = dnF m k f x:=by
 intro x
 rw [swp_get d (by omega) (by omega),h,h,h]
 unfold dnF
 by_cases e1:x=k
 ·rw [if_pos e1,if_neg (by omega),if_pos rfl,if_neg (by omega),if_pos e1]
 ·rw [if_neg e1]
  by_cases e2:x=k+1
  ·rw [if_pos e2,if_neg (by omega),if_neg (by omega),if_pos (by omega),e2];congr 1
  ·rw [if_neg e2]
   by_cases c1:k+1 < x∧x≤m
   ·rw [if_pos c1,if_pos (by omega)]
   ·rw [if_neg c1,if_neg e2,if_neg (by omega),if_neg e1]
theorem merged_up (hS:SWO lt){a i b:Nat}{d d':Array α}(hR:SortedIn lt (a+1) b d)(h1:i=a+1∨lt d[i-1]! d[a]! = true)(h2:i=b∨lt d[i]! d[a]! = false)(hi:a+1≤i)(hb:i≤b)(hd:∀ x,d'[x]! = upF a (i-1) (fun x=>d[x]!) x):SortedIn lt a b d':=by
 intro p q hp hpq hq
 rw [hd,hd]
 unfold upF
 have lo:∀ x,a+1≤x→x < i→lt d[a]! d[x]! = false:=fun x hx hxi=>by
  rcases h1 with h1|h1
  ·omega
  ·by_cases e:x=i-1
   ·rw [e];exact hS.asymmA h1
   ·exact hS.ntrans _ _ _ (hS.asymmA h1) (hR x (i-1) hx (by omega) (by omega))
 have hi2:∀ x,i≤x→x < b→lt d[x]! d[a]! = false:=fun x hx hxb=>by
  rcases h2 with h2|h2
  ·omega
  ·by_cases e:x=i
   ·rw [e];exact h2
   ·exact hS.ntrans _ _ _ (hR i x (by omega) (by omega) hxb) h2
 by_cases cq:q < i-1
 ·rw [if_pos (by omega),if_pos (by omega)]
  exact hR _ _ (by omega) (by omega) (by omega)
 ·by_cases cq2:q=i-1
  ·rw [if_neg (by omega),if_pos cq2,if_pos (by omega)]
   exact lo _ (by omega) (by omega)
  ·rw [if_neg (by omega),if_neg cq2]
   by_cases cp:p < i-1
   ·rw [if_pos (by omega)]
    exact hR _ _ (by omega) (by omega) hq
   ·by_cases cp2:p=i-1
    ·rw [if_neg (by omega),if_pos cp2]
     exact hi2 _ (by omega) hq
    ·rw [if_neg (by omega),if_neg cp2]
     exact hR _ _ (by omega) hpq hq
theorem merged_dn (hS:SWO lt){a i m:Nat}{d d':Array α}(hL:SortedIn lt a m d)(h1:i=a∨lt d[m]! d[i-1]! = false)(h2:i=m∨lt d[m]! d[i]! = true)(hi:a≤i)(him:i≤m)(hd:∀ x,d'[x]! = dnF m i (fun x=>d[x]!) x):SortedIn lt a (m+1) d':=by
 intro p q hp hpq hq
 rw [hd,hd]
 unfold dnF
 have lo:∀ x,a≤x→x < i→lt d[m]! d[x]! = false:=fun x hx hxi=>by
  rcases h1 with h1|h1
  ·omega
  ·by_cases e:x=i-1
   ·rw [e];exact h1
   ·exact hS.ntrans _ _ _ h1 (hL x (i-1) hx (by omega) (by omega))
 have hi2:∀ x,i≤x→x < m→lt d[x]! d[m]! = false:=fun x hx hxb=>by
  rcases h2 with h2|h2
  ·omega
  ·by_cases e:x=i
   ·rw [e];exact hS.asymmA h2
   ·exact hS.ntrans _ _ _ (hL i x (by omega) (by omega) hxb) (hS.asymmA h2)
 by_cases cq:q < i
 ·rw [if_neg (by omega),if_neg (by omega),if_neg (by omega),if_neg (by omega)]
  exact hL _ _ hp hpq (by omega)
 ·by_cases cq2:q=i
  ·rw [if_neg (by omega),if_pos cq2,if_neg (by omega),if_neg (by omega)]
   exact lo _ (by omega) (by omega)
  ·rw [if_pos (by omega)]
   by_cases cp:p < i
   ·rw [if_neg (by omega),if_neg (by omega)]
    exact hL _ _ hp (by omega) (by omega)
   ·by_cases cp2:p=i
    ·rw [if_neg (by omega),if_pos cp2]
     exact hi2 _ (by omega) (by omega)
    ·rw [if_pos (by omega)]
     exact hL _ _ (by omega) (by omega) (by omega)
structure Found (lt:α→α→Bool) (d:Array α) (a m b s:Nat):Prop where
 lo:a≤s
 hi:s≤m
 lo2:m≤(a+b) / 2+m-s
 hi2:(a+b) / 2+m-s≤b
 le:s≤(a+b) / 2
 one:s=a∨(a+b) / 2+m-s=b∨lt d[(a+b) / 2+m-s]! d[s-1]! = false
 two:s=m∨(a+b) / 2+m-s=m∨lt d[(a+b) / 2+m-s-1]! d[s]! = true
theorem Found.turned (hS:SWO lt){d d1:Array α}{a m b s:Nat}(F:Found lt d a m b s)(hL:SortedIn lt a m d)(hR:SortedIn lt m b d)(hT:AheadOf tag a m b d)
  (hd:∀ x,d1[x]! = rotF s m ((a+b) / 2+m-s) (fun x=>d[x]!) x) :
  SortedIn lt a s d1∧SortedIn lt s ((a+b) / 2) d1∧AheadOf tag a s ((a+b) / 2) d1∧SortedIn lt ((a+b) / 2) ((a+b) / 2+m-s) d1∧SortedIn lt ((a+b) / 2+m-s) b d1∧AheadOf tag ((a+b) / 2) ((a+b) / 2+m-s) b d1 ∧
   ∀ i j,a≤i→i < (a+b) / 2→(a+b) / 2≤j→j < b→lt d1[j]! d1[i]! = false:=by
 obtain ⟨h1,h2,h3,h4,h5,f1,f2⟩:=F
 generalize hM:(a+b) / 2=M at *
 have e1:∀ x,x < s→d1[x]! = d[x]! := fun x hx=>by
  rw [hd];unfold rotF
  rw [if_neg (by omega),if_neg (by omega)]
 have e2:∀ x,s≤x→x < M→d1[x]! = d[x-s+m]! := fun x hx hx2=>by
  rw [hd];unfold rotF
  rw [if_pos (by omega)]
 have e3:∀ x,M≤x→x < M+m-s→d1[x]! = d[x-(M-s)]! := fun x hx hx2=>by
  rw [hd];unfold rotF
  rw [if_neg (by omega),if_pos (by omega)]
  congr 1;omega
 have e4:∀ x,M+m-s≤x→d1[x]! = d[x]! := fun x hx=>by
  rw [hd];unfold rotF
  rw [if_neg (by omega),if_neg (by omega)]
 refine ⟨fun p q hp hpq hq=>?_,fun p q hp hpq hq=>?_,fun p q hp hp2 hq hq2=>?_,fun p q hp hpq hq=>?_,fun p q hp hpq hq=>?_,fun p q hp hp2 hq hq2=>?_,fun p q hp hp2 hq hq2=>?_⟩
 ·rw [e1 q hq,e1 p (by omega)];exact hL _ _ hp hpq (by omega)
 ·rw [e2 _ hp (by omega),e2 _ (by omega) hq];exact hR _ _ (by omega) (by omega) (by omega)
 ·rw [e1 _ hp2,e2 _ hq hq2];exact hT _ _ hp (by omega) (by omega) (by omega)
 ·rw [e3 _ hp (by omega),e3 _ (by omega) hq];exact hL _ _ (by omega) (by omega) (by omega)
 ·rw [e4 _ hp,e4 _ (by omega)];exact hR _ _ (by omega) hpq hq
 ·rw [e3 _ hp hp2,e4 _ hq];exact hT _ _ (by omega) (by omega) (by omega) hq2
 ·by_cases cp:p < s
  ·rw [e1 _ cp]
   by_cases cq:q < M+m-s
   ·rw [e3 _ hq cq];exact hL _ _ hp (by omega) (by omega)
   ·rw [e4 _ (by omega)]
    rcases f1 with f1|f1|f1
    ·omega
    ·omega
    ·have g1:lt d[q]! d[s-1]! = false:=by
      by_cases e:q=M+m-s
      ·rw [e];exact f1
      ·exact hS.ntrans _ _ _ (hR _ _ (by omega) (by omega) hq2) f1
     by_cases e:p=s-1
     ·rw [e];exact g1
     ·exact hS.ntrans _ _ _ g1 (hL _ _ hp (by omega) (by omega))
  ·rw [e2 _ (by omega) hp2]
   by_cases cq:q < M+m-s
   ·rw [e3 _ hq cq]
    rcases f2 with f2|f2|f2
    ·omega
    ·omega
    ·have g0:=hS.asymmA f2
     have g1:lt d[q-(M-s)]! d[M+m-s-1]! = false:=by
      by_cases e:q-(M-s)=s
      ·rw [e];exact g0
      ·exact hS.ntrans _ _ _ (hL _ _ h1 (by omega) (by omega)) g0
     by_cases e:p-s+m=M+m-s-1
     ·rw [e];exact g1
     ·exact hS.ntrans _ _ _ g1 (hR _ _ (by omega) (by omega) (by omega))
   ·rw [e4 _ (by omega)];exact hR _ _ (by omega) (by omega) hq2
theorem halves {d1 d2 d3:Array α}{a M b:Nat}(hb:b≤d1.size)(hX:∀ i j,a≤i→i < M→M≤j→j < b→lt d1[j]! d1[i]! = false)
  (p1:PermIn a M d1 d2) (s1:SortedIn lt a M d2) (p2:PermIn M b d2 d3) (s2:SortedIn lt M b d3):SortedIn lt a b d3:=by
 have q1:∀ i,i < M→d3[i]! = d2[i]! := fun i hi=>p2.2.1 i (.inl hi)
 have q2:∀ i,M≤i→d2[i]! = d1[i]! := fun i hi=>p1.2.1 i (.inr hi)
 have x1:∀ j,M≤j→j < b→∀ i,a≤i→i < M→lt d1[j]! d2[i]! = false:=fun j hj hj2=>permIn_all d1 d2 a M (fun x=>lt d1[j]! x=false) (by omega) p1 fun i hi hi2=>hX i j hi hi2 hj hj2
 have x2:∀ i,a≤i→i < M→∀ j,M≤j→j < b→lt d3[j]! d2[i]! = false:=fun i hi hi2=>permIn_all d2 d3 M b (fun x=>lt x d2[i]! = false) (by rw [p1.1];exact hb) p2 fun j hj hj2=>by rw [q2 j hj];exact x1 j hj hj2 i hi hi2
 intro p q hp hpq hq
 by_cases c1:q < M
 ·rw [q1 _ c1,q1 _ (by omega)];exact s1 _ _ hp hpq c1
 ·by_cases c2:p < M
  ·rw [q1 _ c2];exact x2 p hp c2 q (by omega) hq
  ·exact s2 _ _ (by omega) hpq hq
theorem AheadOf.perm {a m b x y:Nat}{d d':Array α}(h:AheadOf tag x y b d)(hp:PermIn a m d d')(hx:m≤x):AheadOf tag x y b d':=fun i j h1 h2 h3 h4=>by
 rw [hp.2.1 i (.inr (by omega)),hp.2.1 j (.inr (by omega))]
 exact h i j h1 h2 h3 h4
theorem SortedIn.perm_out {a m x y:Nat}{d d':Array α}(h:SortedIn lt x y d)(hp:PermIn a m d d')(hx:m≤x∨y≤a):SortedIn lt x y d':=fun i j h1 h2 h3=>by
 rw [hp.2.1 i (by omega),hp.2.1 j (by omega)]
 exact h i j h1 h2 h3
theorem insInner_tag {l1 l2:α→α→Bool}(hc:∀ x y,tag y < tag x→l1 x y=l2 x y)(a:Nat):∀ (j:Nat)(d:Array α),j < d.size→(∀ p,a≤p→p < j→tag d[p]! < tag d[j]!)→insInner l1 a j d=insInner l2 a j d
 | 0,d,_,_=>rfl
 | j+1,d,hj,h=>by
  unfold insInner
  by_cases haj:a≤j
  ·rw [hc _ _ (h j haj (by omega))]
   split
   ·refine insInner_tag hc a j _ (by rw [size_swp];omega) fun p hp hpj=>?_
    have g:=swp_get d (i:=j+1) (j:=j) hj (by omega)
    rw [g,g,if_neg (by omega),if_neg (by omega),if_pos rfl]
    exact h p hp (by omega)
   ·rfl
  ·have e:(decide (j+1 > a))=false:=decide_eq_false (by omega)
   rw [e,Bool.false_and,Bool.false_and]
   simp
theorem insOuter_tag {l1 l2:α→α→Bool}(hS:SWO l2)(hc:∀ x y,tag y < tag x→l1 x y=l2 x y)(a b:Nat):∀ (n i:Nat)(d:Array α),b-i=n→a < i→b≤d.size→SortedIn l2 a i d→(∀ p q,a≤p→p < q→i≤q→q < b→tag d[p]! < tag d[q]!)→insOuter l1 a b i d=insOuter l2 a b i d
 | 0,i,d,hn,_,_,_,_=>by
  rw [insOuter,if_neg (by omega)]
  conv=>rhs;rw [insOuter,if_neg (by omega)]
 | n+1,i,d,hn,hai,hb,hs,ht=>by
  have hlt:i < b:=by omega
  rw [insOuter,if_pos hlt]
  conv=>rhs;rw [insOuter,if_pos hlt]
  rw [insInner_tag hc a i d (by omega) fun p hp hpi=>ht p i hp hpi (Nat.le_refl _) hlt]
  have h1:=insInner_spec (lt:=l2) hS swp_permIn permIn_refl permIn_trans a (i+1) i (by omega) i d (by omega) (Nat.le_refl _) (by omega) ⟨fun p q hap hpq hqi _ hq=>hs p q hap hpq (by omega),fun q h1 h2=>by omega⟩
  refine insOuter_tag hS hc a b n (i+1) _ (by omega) (by omega) (by rw [h1.1.1];exact hb) h1.2 fun p q hp hpq hq hqb=>?_
  rw [h1.1.2.1 q (.inr hq)]
  by_cases c:p < i+1
  ·exact permIn_all d _ a (i+1) (fun x=>tag x < tag d[q]!) (by omega) h1.1 (fun k hk hk2=>ht k q hk (by omega) (by omega) hqb) p hp c
  ·rw [h1.1.2.1 p (.inr (by omega))]
   exact ht p q hp hpq (by omega) hqb
theorem insertion_tag {l1 l2:α→α→Bool}(hS:SWO l2)(hc:∀ x y,tag y < tag x→l1 x y=l2 x y){a b:Nat}{d:Array α}(hab:a≤b)(hb:b≤d.size)(ht:∀ p q,a≤p→p < q→q < b→tag d[p]! < tag d[q]!) :
  PermIn a b d (insertionSort l1 d a b)∧SortedIn l2 a b (insertionSort l1 d a b):=by
 have e:insertionSort l1 d a b=insertionSort l2 d a b:=insOuter_tag hS hc a b (b-(a+1)) (a+1) d rfl (by omega) hb (fun i j h1 h2 h3=>by omega) fun p q hp hpq _ hqb=>ht p q hp hpq hqb
 rw [e]
 exact insertionSort_holds hS d a b hab hb
end
end Go.Proofs.Ytnkhkkdmjabhnaa
