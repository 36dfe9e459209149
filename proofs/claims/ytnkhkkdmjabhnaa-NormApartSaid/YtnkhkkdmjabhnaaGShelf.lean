/- Plain facts on numbers behind the least one: no program. -/
import Derived.Test.YtnkhkkdmjabhnaaGVary
namespace Go.Proofs.Ytnkhkkdmjabhnaa
open Go Go.RowKit
def InR (l:List Int):Prop:=∀ x∈l,-9223372036854775808≤x∧x≤9223372036854775807
def leastI:List Int→Int
 | []=>0
 | x::l=>l.foldl min x
theorem foldl_min_le (l:List Int):∀ a:Int,l.foldl min a≤a∧(∀ x∈l,l.foldl min a≤x)∧(l.foldl min a=a∨l.foldl min a∈l):=by
 induction l with
 | nil=>intro a;exact ⟨Int.le_refl _,by simp,.inl rfl⟩
 | cons y l ih =>
  intro a
  obtain ⟨h1,h2,h3⟩:=ih (min a y)
  simp only [List.foldl_cons]
  refine ⟨by omega,?_,?_⟩
  ·intro x hx
   rcases List.mem_cons.1 hx with rfl|hx
   ·omega
   ·exact h2 x hx
  ·rcases h3 with h3|h3
   ·by_cases hc:a≤y
    ·left;rw [h3];omega
    ·right;rw [h3,show min a y=y by omega];exact List.mem_cons_self
   ·right;exact List.mem_cons_of_mem _ h3
theorem leastI_mem (l:List Int)(h:l≠[]):leastI l∈l:=by
 cases l with
 | nil=>exact absurd rfl h
 | cons y l =>
  obtain ⟨_,_,h3⟩:=foldl_min_le l y
  rcases h3 with h3|h3
  ·show l.foldl min y∈y::l;rw [h3];exact List.mem_cons_self
  ·exact List.mem_cons_of_mem _ h3
theorem leastI_range (l:List Int)(h:InR l) : -9223372036854775808≤leastI l∧leastI l≤9223372036854775807:=by
 cases hl:l with
 | nil=>show -9223372036854775808≤(0:Int)∧(0:Int)≤9223372036854775807;omega
 | cons y r=>rw [←hl];exact h _ (leastI_mem l (by rw [hl];simp))
def dist (x m:Int):Nat:=((x-m) % 18446744073709551616).toNat
theorem dist_lt (x m:Int):dist x m < 18446744073709551616:=by unfold dist;omega
theorem dist_back (x m:Int)(h0 : -9223372036854775808≤x)(h1:x≤9223372036854775807):wrap64 (m+dist x m)=x:=by unfold dist wrap64;omega
def nb (u:Nat):Nat:=if u=0 then 0 else nb (u / 256)+1
termination_by u
decreasing_by omega
theorem nb_zero:nb 0=0:=by rw [nb];rfl
theorem nb_pos {u:Nat}(h:u≠0):nb u=nb (u / 256)+1:=by rw [nb,if_neg h]
theorem nb_spec (u:Nat):∀ k,nb u≤k↔u < 256 ^ k:=by
 induction u using Nat.strongRecOn with
 | ind u ih =>
  intro k
  by_cases h:u=0
  ·subst h;rw [nb_zero];simp [Nat.pow_pos]
  ·rw [nb_pos h]
   cases k with
   | zero=>simp;omega
   | succ k =>
    have:=ih (u / 256) (by omega) k
    rw [Nat.pow_succ]
    omega
def bytesFrom (m:Int)(l:List Int):Nat:=l.foldl (fun n x=>max n (nb (dist x m))) 0
def bytesL (l:List Int):Nat:=bytesFrom (leastI l) l
theorem foldl_max_spec (m:Int)(l:List Int):∀ a k,l.foldl (fun n x=>max n (nb (dist x m))) a≤k↔a≤k∧∀ x∈l,nb (dist x m)≤k:=by
 induction l with
 | nil=>intro a k;simp
 | cons y l ih =>
  intro a k
  simp only [List.foldl_cons,ih,List.mem_cons,forall_eq_or_imp]
  constructor
  ·rintro ⟨h1,h2⟩;exact ⟨by omega,by omega,h2⟩
  ·rintro ⟨h1,h2,h3⟩;exact ⟨by omega,h3⟩
theorem bytesFrom_spec (m:Int)(l:List Int)(k:Nat):bytesFrom m l≤k↔∀ x∈l,dist x m < 256 ^ k:=by
 unfold bytesFrom
 rw [foldl_max_spec]
 simp only [nb_spec,Nat.zero_le,true_and]
theorem bytesFrom_le_8 (m:Int)(l:List Int):bytesFrom m l≤8:=(bytesFrom_spec m l 8).2 fun x _=>Nat.lt_of_lt_of_le (dist_lt x m) (by decide)
theorem bytesFrom_lt (m:Int)(l:List Int):∀ x∈l,dist x m < 256 ^ bytesFrom m l:=(bytesFrom_spec m l _).1 (Nat.le_refl _)
def le:Nat→Nat→List UInt8
 | 0,_=>[]
 | k+1,u=>UInt8.ofNat (u % 256)::le k (u / 256)
def unle:List UInt8→Nat
 | []=>0
 | b::l=>b.toNat+256*unle l
theorem le_length (k u:Nat):(le k u).length=k:=by
 induction k generalizing u with
 | zero=>rfl
 | succ k ih=>simp [le,ih]
theorem unle_le (k u:Nat):unle (le k u)=u % 256 ^ k:=by
 induction k generalizing u with
 | zero=>simp [le,unle,Nat.mod_one]
 | succ k ih =>
  simp only [le,unle,ih]
  rw [toNat_ofNat (Nat.mod_lt _ (by decide)),Nat.pow_succ,Nat.mul_comm (256 ^ k) 256,Nat.mod_mul]
theorem le_inj {k a b:Nat}(ha:a < 256 ^ k)(hb:b < 256 ^ k)(h:le k a=le k b):a=b:=by
 have:=congrArg unle h
 rwa [unle_le,unle_le,Nat.mod_eq_of_lt ha,Nat.mod_eq_of_lt hb] at this
def rowsP (m:Int)(n:Nat)(l:List Int):List UInt8:=l.flatMap fun x=>le n (dist x m)
theorem rowsP_inj (m:Int)(n:Nat):∀ (l l':List Int)(r r':List UInt8),InR l→InR l'→(∀ x∈l,dist x m < 256 ^ n)→(∀ x∈l',dist x m < 256 ^ n)→l.length=l'.length →
  rowsP m n l++r=rowsP m n l'++r'→l=l'∧r=r'
 | [],[],r,r',_,_,_,_,_,h=>⟨rfl,by simpa [rowsP] using h⟩
 | x::l,y::l',r,r',h1,h2,h3,h4,hl,h=>by
  unfold rowsP at h
  rw [List.flatMap_cons,List.flatMap_cons,List.append_assoc,List.append_assoc] at h
  obtain ⟨e1,e2⟩:=List.append_inj h (by rw [le_length,le_length])
  have hd:=le_inj (h3 x List.mem_cons_self) (h4 y List.mem_cons_self) e1
  have hx:=h1 x List.mem_cons_self
  have hy:=h2 y List.mem_cons_self
  have bx:=dist_back x m hx.1 hx.2
  have by':=dist_back y m hy.1 hy.2
  rw [hd,by'] at bx
  obtain ⟨e3,e4⟩:=rowsP_inj m n l l' r r' (fun z hz=>h1 z (List.mem_cons_of_mem _ hz)) (fun z hz=>h2 z (List.mem_cons_of_mem _ hz))
   (fun z hz=>h3 z (List.mem_cons_of_mem _ hz)) (fun z hz=>h4 z (List.mem_cons_of_mem _ hz)) (by simpa using hl) e2
  exact ⟨by rw [bx,e3],e4⟩
theorem vp_prefix {a b:Nat}(ha:a < 18446744073709551616)(hb:b < 18446744073709551616){r r':List UInt8}(h:vp a++r=vp b++r'):a=b∧r=r':=by
 have h1:=nextNum_vp a ha r
 have h2:=nextNum_vp b hb r'
 rw [h,h2] at h1
 simp only [Option.some.injEq,Prod.mk.injEq] at h1
 obtain ⟨e,_⟩:=h1
 subst e
 exact ⟨rfl,List.append_cancel_left h⟩
def shelfP (l:List Int):List UInt8:=vp (foldI (leastI l)).toNat++(vp (bytesL l)++rowsP (leastI l) (bytesL l) l)
theorem foldI_nat (l:List Int)(h:InR l):(foldI (leastI l)).toNat < 18446744073709551616:=by
 have:=leastI_range l h
 have:=foldI_range (leastI l) this.1 this.2
 omega
theorem shelfP_prefix (l l':List Int)(r r':List UInt8)(h1:InR l)(h2:InR l')(hl:l.length=l'.length)(h:shelfP l++r=shelfP l'++r'):l=l'∧r=r':=by
 unfold shelfP at h
 rw [List.append_assoc,List.append_assoc,List.append_assoc,List.append_assoc] at h
 obtain ⟨e1,h⟩:=vp_prefix (foldI_nat l h1) (foldI_nat l' h2) h
 have e1':leastI l=leastI l':=by
  have:=congrArg openI e1
  rwa [open_fold,open_fold] at this
 have b1:=bytesFrom_le_8 (leastI l) l
 have b2:=bytesFrom_le_8 (leastI l') l'
 obtain ⟨e2,h⟩:=vp_prefix (a:=bytesL l) (b:=bytesL l') (by unfold bytesL;omega) (by unfold bytesL;omega) h
 rw [←e1',←e2] at h
 refine rowsP_inj (leastI l) (bytesL l) l l' r r' h1 h2 (bytesFrom_lt _ _) ?_ hl h
 rw [e2,e1']
 exact bytesFrom_lt _ _
def ShelfAt (s:List UInt8)(many:Int)(l:List Int)(r:List UInt8):Prop:=0≤many∧many≤4096∧(l.length:Int)=many∧InR l∧s=shelfP l++r
theorem ShelfAt.same {s:List UInt8}{many:Int}{l l':List Int}{r r':List UInt8}(h:ShelfAt s many l r)(k:ShelfAt s many l' r'):l=l'∧r=r':=by
 obtain ⟨_,_,h3,h4,h5⟩:=h
 obtain ⟨_,_,k3,k4,k5⟩:=k
 exact shelfP_prefix l l' r r' h4 k4 (by omega) (h5.symm.trans k5)
end Go.Proofs.Ytnkhkkdmjabhnaa
