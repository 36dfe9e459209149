/- Contracts of the small functions of layer 3's answer. -/
import Derived.Test.YtafmbnafibahkaaGreatGBase
import Derived.Test.YtafmbnafibahkaaGreatGVary
import Derived.Test.YtafmbnafibahkaaGreatGStrs
namespace Go.Proofs.YtafmbnafibahkaaGreat
open Go Go.RowKit
def InR (l:List Int):Prop:=∀ x∈l,-9223372036854775808≤x∧x≤9223372036854775807
def leastI:List Int→Int
 | []=>0
 | x::l=>l.foldl min x
theorem leastI_snoc (l:List Int)(x:Int)(h:l≠[]):leastI (l++[x])=min (leastI l) x:=by
 cases l with
 | nil=>exact absurd rfl h
 | cons y l=>simp [leastI,List.foldl_append]
theorem foldl_min_le (l:List Int):∀ a:Int,l.foldl min a≤a∧(∀ x∈l,l.foldl min a≤x)∧(l.foldl min a=a∨l.foldl min a∈l):=by
 induction l with
 | nil=>intro a;exact ⟨Int.le_refl _,by simp,.inl rfl⟩
 | cons y l ih =>
  intro a
  obtain ⟨h1,h2,h3⟩:=ih (min a y)
  simp only [List.foldl_cons]
  refine ⟨by omega,?_,?_⟩
  ·intro x hx
   rcases List.mem_cons.1 hx with rfl|hx
   ·omega
   ·exact h2 x hx
  ·rcases h3 with h3|h3
   ·by_cases hc:a≤y
    ·left;rw [h3];omega
    ·right;rw [h3,show min a y=y by omega];exact List.mem_cons_self
   ·right;exact List.mem_cons_of_mem _ h3
theorem leastI_le (l:List Int):∀ x∈l,leastI l≤x:=by
 cases l with
 | nil=>simp
 | cons y l =>
  intro x hx
  obtain ⟨h1,h2,_⟩:=foldl_min_le l y
  rcases List.mem_cons.1 hx with rfl|hx
  ·exact h1
  ·exact h2 x hx
theorem leastI_mem (l:List Int)(h:l≠[]):leastI l∈l:=by
 cases l with
 | nil=>exact absurd rfl h
 | cons y l =>
  obtain ⟨_,_,h3⟩:=foldl_min_le l y
  rcases h3 with h3|h3
  ·show l.foldl min y∈y::l;rw [h3];exact List.mem_cons_self
  ·exact List.mem_cons_of_mem _ h3
theorem leastI_range (l:List Int)(h:InR l) : -9223372036854775808≤leastI l∧leastI l≤9223372036854775807:=by
 cases hl:l with
 | nil=>show -9223372036854775808≤(0:Int)∧(0:Int)≤9223372036854775807;omega
 | cons y r=>rw [←hl];exact h _ (leastI_mem l (by rw [hl];simp))
def dist (x m:Int):Nat:=((x-m) % 18446744073709551616).toNat
theorem dist_lt (x m:Int):dist x m < 18446744073709551616:=by unfold dist;omega
theorem dist_le {x m:Int}(h:m≤x)(h0 : -9223372036854775808≤m)(h1:x≤9223372036854775807):(dist x m:Int)=x-m:=by unfold dist;omega
theorem dist_back (x m:Int)(h0 : -9223372036854775808≤x)(h1:x≤9223372036854775807):wrap64 (m+dist x m)=x:=by unfold dist wrap64;omega
def nb (u:Nat):Nat:=if u=0 then 0 else nb (u / 256)+1
termination_by u
decreasing_by omega
theorem nb_zero:nb 0=0:=by rw [nb];rfl
theorem nb_pos {u:Nat}(h:u≠0):nb u=nb (u / 256)+1:=by rw [nb,if_neg h]
theorem nb_spec (u:Nat):∀ k,nb u≤k↔u < 256 ^ k:=by
 induction u using Nat.strongRecOn with
 | ind u ih =>
  intro k
  by_cases h:u=0
  ·subst h;rw [nb_zero];simp [Nat.pow_pos]
  ·rw [nb_pos h]
   cases k with
   | zero=>simp;omega
   | succ k =>
    have:=ih (u / 256) (by omega) k
    rw [Nat.pow_succ]
    omega
theorem nb_le_8 {u:Nat}(h:u < 18446744073709551616):nb u≤8:=(nb_spec u 8).2 (Nat.lt_of_lt_of_le h (by decide))
def bytesFrom (m:Int)(l:List Int):Nat:=l.foldl (fun n x=>max n (nb (dist x m))) 0
def bytesL (l:List Int):Nat:=bytesFrom (leastI l) l
theorem bytesFrom_snoc (m:Int)(l:List Int)(x:Int):bytesFrom m (l++[x])=max (bytesFrom m l) (nb (dist x m)):=by simp [bytesFrom,List.foldl_append]
theorem foldl_max_spec (m:Int)(l:List Int):∀ a k,l.foldl (fun n x=>max n (nb (dist x m))) a≤k↔a≤k∧∀ x∈l,nb (dist x m)≤k:=by
 induction l with
 | nil=>intro a k;simp
 | cons y l ih =>
  intro a k
  simp only [List.foldl_cons,ih,List.mem_cons,forall_eq_or_imp]
  constructor
  ·rintro ⟨h1,h2⟩;exact ⟨by omega,by omega,h2⟩
  ·rintro ⟨h1,h2,h3⟩;exact ⟨by omega,h3⟩
theorem bytesFrom_spec (m:Int)(l:List Int)(k:Nat):bytesFrom m l≤k↔∀ x∈l,dist x m < 256 ^ k:=by
 unfold bytesFrom
 rw [foldl_max_spec]
 simp only [nb_spec,Nat.zero_le,true_and]
theorem bytesFrom_le_8 (m:Int)(l:List Int):bytesFrom m l≤8:=(bytesFrom_spec m l 8).2 fun x _=>Nat.lt_of_lt_of_le (dist_lt x m) (by decide)
theorem bytesFrom_lt (m:Int)(l:List Int):∀ x∈l,dist x m < 256 ^ bytesFrom m l:=(bytesFrom_spec m l _).1 (Nat.le_refl _)
def le:Nat→Nat→List UInt8
 | 0,_=>[]
 | k+1,u=>UInt8.ofNat (u % 256)::le k (u / 256)
def unle:List UInt8→Nat
 | []=>0
 | b::l=>b.toNat+256*unle l
theorem le_length (k u:Nat):(le k u).length=k:=by
 induction k generalizing u with
 | zero=>rfl
 | succ k ih=>simp [le,ih]
theorem unle_le (k u:Nat):unle (le k u)=u % 256 ^ k:=by
 induction k generalizing u with
 | zero=>simp [le,unle,Nat.mod_one]
 | succ k ih =>
  simp only [le,unle,ih]
  rw [toNat_ofNat (Nat.mod_lt _ (by decide)),Nat.pow_succ,Nat.mul_comm (256 ^ k) 256,Nat.mod_mul]
theorem unle_lt (l:List UInt8):unle l < 256 ^ l.length:=by
 induction l with
 | nil=>simp [unle]
 | cons b l ih =>
  have:=b.toNat_lt
  simp only [unle,List.length_cons,Nat.pow_succ]
  omega
theorem le_inj {k a b:Nat}(ha:a < 256 ^ k)(hb:b < 256 ^ k)(h:le k a=le k b):a=b:=by
 have:=congrArg unle h
 rwa [unle_le,unle_le,Nat.mod_eq_of_lt ha,Nat.mod_eq_of_lt hb] at this
theorem le_snoc (k u:Nat):le (k+1) u=le k u++[UInt8.ofNat (u / 256 ^ k % 256)]:=by
 induction k generalizing u with
 | zero=>simp [le]
 | succ k ih =>
  rw [le,ih,le]
  simp only [List.cons_append]
  rw [Nat.div_div_eq_div_mul,Nat.pow_succ,Nat.mul_comm 256]
def rowsP (m:Int)(n:Nat)(l:List Int):List UInt8:=l.flatMap fun x=>le n (dist x m)
theorem rowsP_snoc (m:Int)(n:Nat)(l:List Int)(x:Int):rowsP m n (l++[x])=rowsP m n l++le n (dist x m):=by simp [rowsP]
theorem rowsP_length (m:Int)(n:Nat)(l:List Int):(rowsP m n l).length=n*l.length:=by
 induction l with
 | nil=>simp [rowsP]
 | cons x l ih =>
  unfold rowsP at ih ⊢
  rw [List.flatMap_cons,List.length_append,ih,le_length,List.length_cons,Nat.mul_succ];omega
theorem rowsP_inj (m:Int)(n:Nat):∀ (l l':List Int)(r r':List UInt8),InR l→InR l'→(∀ x∈l,dist x m < 256 ^ n)→(∀ x∈l',dist x m < 256 ^ n)→l.length=l'.length →
  rowsP m n l++r=rowsP m n l'++r'→l=l'∧r=r'
 | [],[],r,r',_,_,_,_,_,h=>⟨rfl,by simpa [rowsP] using h⟩
 | x::l,y::l',r,r',h1,h2,h3,h4,hl,h=>by
  unfold rowsP at h
  rw [List.flatMap_cons,List.flatMap_cons,List.append_assoc,List.append_assoc] at h
  obtain ⟨e1,e2⟩:=List.append_inj h (by rw [le_length,le_length])
  have hd:=le_inj (h3 x List.mem_cons_self) (h4 y List.mem_cons_self) e1
  have hx:=h1 x List.mem_cons_self
  have hy:=h2 y List.mem_cons_self
  have bx:=dist_back x m hx.1 hx.2
  have by':=dist_back y m hy.1 hy.2
  rw [hd,by'] at bx
  obtain ⟨e3,e4⟩:=rowsP_inj m n l l' r r' (fun z hz=>h1 z (List.mem_cons_of_mem _ hz)) (fun z hz=>h2 z (List.mem_cons_of_mem _ hz))
   (fun z hz=>h3 z (List.mem_cons_of_mem _ hz)) (fun z hz=>h4 z (List.mem_cons_of_mem _ hz)) (by simpa using hl) e2
  exact ⟨by rw [bx,e3],e4⟩
theorem vp_prefix {a b:Nat}(ha:a < 18446744073709551616)(hb:b < 18446744073709551616){r r':List UInt8}(h:vp a++r=vp b++r'):a=b∧r=r':=by
 have h1:=nextNum_vp a ha r
 have h2:=nextNum_vp b hb r'
 rw [h,h2] at h1
 simp only [Option.some.injEq,Prod.mk.injEq] at h1
 obtain ⟨e,_⟩:=h1
 subst e
 exact ⟨rfl,List.append_cancel_left h⟩
def shelfP (l:List Int):List UInt8:=vp (foldI (leastI l)).toNat++(vp (bytesL l)++rowsP (leastI l) (bytesL l) l)
theorem foldI_nat (l:List Int)(h:InR l):(foldI (leastI l)).toNat < 18446744073709551616:=by
 have:=leastI_range l h
 have:=foldI_range (leastI l) this.1 this.2
 omega
theorem shelfP_prefix (l l':List Int)(r r':List UInt8)(h1:InR l)(h2:InR l')(hl:l.length=l'.length)(h:shelfP l++r=shelfP l'++r'):l=l'∧r=r':=by
 unfold shelfP at h
 rw [List.append_assoc,List.append_assoc,List.append_assoc,List.append_assoc] at h
 obtain ⟨e1,h⟩:=vp_prefix (foldI_nat l h1) (foldI_nat l' h2) h
 have e1':leastI l=leastI l':=by
  have:=congrArg openI e1
  rwa [open_fold,open_fold] at this
 have b1:=bytesFrom_le_8 (leastI l) l
 have b2:=bytesFrom_le_8 (leastI l') l'
 obtain ⟨e2,h⟩:=vp_prefix (a:=bytesL l) (b:=bytesL l') (by unfold bytesL;omega) (by unfold bytesL;omega) h
 rw [←e1',←e2] at h
 refine rowsP_inj (leastI l) (bytesL l) l l' r r' h1 h2 (bytesFrom_lt _ _) ?_ hl h
 rw [e2,e1']
 exact bytesFrom_lt _ _
def ShelfAt (s:List UInt8)(many:Int)(l:List Int)(r:List UInt8):Prop:=0≤many∧many≤4096∧(l.length:Int)=many∧InR l∧s=shelfP l++r
theorem ShelfAt.same {s:List UInt8}{many:Int}{l l':List Int}{r r':List UInt8}(h:ShelfAt s many l r)(k:ShelfAt s many l' r'):l=l'∧r=r':=by
 obtain ⟨_,_,h3,h4,h5⟩:=h
 obtain ⟨_,_,k3,k4,k5⟩:=k
 exact shelfP_prefix l l' r r' h4 k4 (by omega) (h5.symm.trans k5)
def greatI:List Int→Int
 | []=>0
 | x::l=>l.foldl max x
theorem greatI_snoc (l:List Int)(x:Int)(h:l≠[]):greatI (l++[x])=max (greatI l) x:=by
 cases l with
 | nil=>exact absurd rfl h
 | cons y l=>simp [greatI,List.foldl_append]
theorem foldl_max_le (l:List Int):∀ a:Int,a≤l.foldl max a∧(∀ x∈l,x≤l.foldl max a)∧(l.foldl max a=a∨l.foldl max a∈l):=by
 induction l with
 | nil=>intro a;exact ⟨Int.le_refl _,by simp,.inl rfl⟩
 | cons y l ih =>
  intro a
  obtain ⟨h1,h2,h3⟩:=ih (max a y)
  simp only [List.foldl_cons]
  refine ⟨by omega,?_,?_⟩
  ·intro x hx
   rcases List.mem_cons.1 hx with rfl|hx
   ·omega
   ·exact h2 x hx
  ·rcases h3 with h3|h3
   ·by_cases hc:y≤a
    ·left;rw [h3];omega
    ·right;rw [h3,show max a y=y by omega];exact List.mem_cons_self
   ·right;exact List.mem_cons_of_mem _ h3
theorem greatI_le (l:List Int):∀ x∈l,x≤greatI l:=by
 cases l with
 | nil=>simp
 | cons y l =>
  intro x hx
  obtain ⟨h1,h2,_⟩:=foldl_max_le l y
  rcases List.mem_cons.1 hx with rfl|hx
  ·exact h1
  ·exact h2 x hx
theorem greatI_mem (l:List Int)(h:l≠[]):greatI l∈l:=by
 cases l with
 | nil=>exact absurd rfl h
 | cons y l =>
  obtain ⟨_,_,h3⟩:=foldl_max_le l y
  rcases h3 with h3|h3
  ·show l.foldl max y∈y::l;rw [h3];exact List.mem_cons_self
  ·exact List.mem_cons_of_mem _ h3
theorem ne_of_len {l:List Int}(h:0 < l.length):l≠[]:=by intro e;subst e;simp at h
theorem bytesL_great (l:List Int)(hr:InR l)(h:l≠[]):bytesL l=nb (dist (greatI l) (leastI l)):=by
 have hg:=greatI_mem l h
 have hl:=leastI_range l hr
 refine Nat.le_antisymm ?_ ?_
 ·unfold bytesL
  rw [bytesFrom_spec]
  intro x hx
  have h1:=greatI_le l x hx
  have h2:=leastI_le l x hx
  have h3:=hr x hx
  have h4:=hr _ hg
  have d1:=dist_le h2 hl.1 h3.2
  have d2:=dist_le (leastI_le l _ hg) hl.1 h4.2
  exact Nat.lt_of_le_of_lt (by omega) ((nb_spec _ _).1 (Nat.le_refl _))
 ·rw [nb_spec]
  exact bytesFrom_lt _ _ _ hg
theorem nb_step {u:Nat}(h:0 < u):nb u=nb (u / 256)+1:=nb_pos (by omega)
theorem wrap_sub (x m:Int):IntKind.u64.wrap (IntKind.u64.wrap x-IntKind.u64.wrap m)=(dist x m:Int):=by
 simp only [IntKind.wrap_u64];unfold dist;omega
theorem distance_calls (x m:Int)(w:World):Reads Tryz.prog 112 #[.int .i64 x,.int .i64 m] w (.int .u64 (dist x m)):=by
 have H:=Lib.hid (wrap_sub x m)
 unfold Reads
 go_enter Tryz.func112,Tryz.ntmps112
 go_wp2
 go_ret
 exact ⟨ret_int H.out,rfl⟩
set_option maxHeartbeats 400000 in
theorem min_calls {w:World}{v:Value}{l:List Int}(h:IntsIn w v l)(h0:0 < l.length):Reads Tryz.prog 141 #[v] w (.int .i64 (leastI l)):=by
 have hm:=h.len
 unfold maxLen at hm
 rcases h.parts with ⟨rfl,_⟩ | ⟨_,b,off,cap,rfl,hlt,hc⟩
 ·simp at h0
 have hc0:w.cell? ⟨b,off,none⟩=some (.int .i64 l[0]):=hc 0 h0
 have e1:leastI (l.take 1)=l[0]:=by rw [take_add l 0 h0];rfl
 have HC:=Lib.hid hc
 have HE:=Lib.hid e1
 have d1:decide ((l.length:Int) < 1)=false:=by rw [decide_eq_false_iff_not];omega
 clear h hc e1
 unfold Reads
 go_enter Tryz.func141,Tryz.ntmps141
 go_wp2
 go_loop [3,4] (fun n i=>∃ k:Nat,0 < k∧k≤l.length∧i=.int .i64 k∧n=.int .i64 (leastI (l.take k))) (fun _ i=>l.length-(intOf i).toNat)
 case atStart=>exact ⟨1,by omega,by omega,rfl,by rw [HE.out]⟩
 case round =>
  obtain ⟨k,hk0,hk,rfl,rfl⟩:=hrel
  by_cases hlt:k < l.length
  ·have hx:=HC.out k hlt
   have HS:=Lib.hid (show leastI (l.take (k+1))=min (leastI (l.take k)) l[k] by rw [take_add l k hlt];exact leastI_snoc _ _ (by intro hz;have:=congrArg List.length hz;rw [List.length_take,List.length_nil] at this;omega))
   go_wp2
   go_round
   case rel=>exact ⟨k+1,by omega,by omega,by go_num,by rw [HS.out];congr 1;omega⟩
   case measure=>simp [intOf];omega
  ·obtain rfl:k=l.length:=by omega
   go_wp2
   go_ret
   exact ⟨rfl,rfl⟩
set_option maxHeartbeats 400000 in
theorem max_calls {w:World}{v:Value}{l:List Int}(h:IntsIn w v l)(h0:0 < l.length):Reads Tryz.prog 142 #[v] w (.int .i64 (greatI l)):=by
 have hm:=h.len
 unfold maxLen at hm
 rcases h.parts with ⟨rfl,_⟩ | ⟨_,b,off,cap,rfl,hlt,hc⟩
 ·simp at h0
 have hc0:w.cell? ⟨b,off,none⟩=some (.int .i64 l[0]):=hc 0 h0
 have e1:greatI (l.take 1)=l[0]:=by rw [take_add l 0 h0];rfl
 have HC:=Lib.hid hc
 have HE:=Lib.hid e1
 have d1:decide ((l.length:Int) < 1)=false:=by rw [decide_eq_false_iff_not];omega
 clear h hc e1
 unfold Reads
 go_enter Tryz.func142,Tryz.ntmps142
 go_wp2
 go_loop [3,4] (fun n i=>∃ k:Nat,0 < k∧k≤l.length∧i=.int .i64 k∧n=.int .i64 (greatI (l.take k))) (fun _ i=>l.length-(intOf i).toNat)
 case atStart=>exact ⟨1,by omega,by omega,rfl,by rw [HE.out]⟩
 case round =>
  obtain ⟨k,hk0,hk,rfl,rfl⟩:=hrel
  by_cases hlt:k < l.length
  ·have hx:=HC.out k hlt
   have HS:=Lib.hid (show greatI (l.take (k+1))=max (greatI (l.take k)) l[k] by rw [take_add l k hlt];exact greatI_snoc _ _ (by intro hz;have:=congrArg List.length hz;rw [List.length_take,List.length_nil] at this;omega))
   go_wp2
   go_round
   case rel=>exact ⟨k+1,by omega,by omega,by go_num,by rw [HS.out];congr 1;omega⟩
   case measure=>simp [intOf];omega
  ·obtain rfl:k=l.length:=by omega
   go_wp2
   go_ret
   exact ⟨rfl,rfl⟩
theorem least_calls {w:World}{v:Value}{l:List Int}(h:IntsIn w v l):Reads Tryz.prog 107 #[v] w (.int .i64 (leastI l)):=by
 have hm:=h.len
 unfold maxLen at hm
 by_cases h0:0 < l.length
 ·have H:=Lib.hid h
  have d1:((l.length:Int)==0)=false:=by rw [beq_eq_false_iff_ne];omega
  obtain ⟨A,cap,rfl,_⟩:=one_at h
  clear h
  unfold Reads
  go_enter Tryz.func107,Tryz.ntmps107
  go_wp2_with (go_at_call 141;refine (min_calls H.out h0).step ?_)
  go_ret
  exact ⟨rfl,rfl⟩
 ·obtain rfl:l=[]:=List.eq_nil_of_length_eq_zero (by omega)
  obtain ⟨A,cap,rfl,_⟩:=one_at h
  clear h
  unfold Reads
  go_enter Tryz.func107,Tryz.ntmps107
  go_wp2
  go_ret
  exact ⟨rfl,rfl⟩
set_option maxHeartbeats 400000 in
theorem bytes_calls {w:World}{v:Value}{l:List Int}(h:IntsIn w v l)(hr:InR l):Reads Tryz.prog 108 #[v] w (.int .i64 (bytesL l)):=by
 have hm:=h.len
 unfold maxLen at hm
 by_cases h0:0 < l.length
 ·have H:=Lib.hid h
  have d1:((l.length:Int)==0)=false:=by rw [beq_eq_false_iff_ne];omega
  have HL:=Lib.hid (bytesL_great l hr (ne_of_len h0))
  have hd:=dist_lt (greatI l) (leastI l)
  obtain ⟨A,cap,rfl,_⟩:=one_at h
  have M1:=Lib.hid (distance_calls (greatI l) (leastI l))
  have h8:=nb_le_8 hd
  generalize dist (greatI l) (leastI l)=D at HL hd M1 h8
  have HD:=Lib.hid hd
  clear h hd
  unfold Reads
  go_enter Tryz.func108,Tryz.ntmps108
  go_wp2_with (first|(go_at_call 142;refine (max_calls H.out h0).step ?_)|(go_at_call 141;refine (min_calls H.out h0).step ?_)|(go_at_call 112;refine (M1.out w).step ?_))
  go_loop [3,4] (fun n u=>∃ k U:Nat,n=.int .i64 k∧u=.int .u64 U∧k+nb U=nb D) (fun _ u=>(intOf u).toNat)
  case atStart=>exact ⟨0,D,rfl,rfl,by omega⟩
  case round =>
   obtain ⟨k,U,rfl,rfl,hk⟩:=hrel
   by_cases hu:0 < U
   ·have hs:=nb_step hu
    have HS:=Lib.hid hs
    have HK:=Lib.hid hk
    have hk8:k≤8:=by omega
    clear hs hk
    go_wp2
    go_round
    case rel=>exact ⟨k+1,U / 256,by go_num,by simp,by have:=HS.out;have:=HK.out;omega⟩
    case measure=>simp [intOf];omega
   ·obtain rfl:U=0:=by omega
    rw [nb_zero] at hk
    have HK:=Lib.hid hk
    clear hk
    go_wp2
    go_ret
    exact ⟨ret_int (by rw [HL.out];have:=HK.out;omega),rfl⟩
 ·obtain rfl:l=[]:=List.eq_nil_of_length_eq_zero (by omega)
  obtain ⟨A,cap,rfl,_⟩:=one_at h
  clear h
  unfold Reads
  go_enter Tryz.func108,Tryz.ntmps108
  go_wp2
  go_ret
  exact ⟨rfl,rfl⟩
theorem Tryz.info5:(Tryz.prog.info? 5).map (fun i=>(i.zero,i.size,i.bytes))=some (some (.int .u8 0),1,1):=by kernel_rfl
set_option maxHeartbeats 1000000 in
theorem appendLow_calls {w:World}{B:Nat}{v:Value}{l:List UInt8}(h:OwnB w B v l)(hB:B≤w.heap.size)(U size:Nat)(hU:U < 18446744073709551616)(hs:size≤8)(hl:l.length≤1000000) :
  Calls Tryz.prog 111 #[v,.int .u64 U,.int .i64 size] w fun e w'=>∃ v',e=.returned v'∧OwnB w' B v' (l++le size U)∧Below B w w':=by
 obtain ⟨i0,hi,hz0,hz1,hz2⟩:=info_parts Tryz.info5
 have hb:=Below.refl B w
 obtain ⟨A,cap,rfl⟩:=h.len
 have HU:=Lib.hid hU
 clear hU
 go_enter Tryz.func111,Tryz.ntmps111
 go_wp2
 go_loopw [0,1,8] (fun v u i wr=>∃ (k:Nat),k≤size∧i=.int .i64 k∧u=.int .u64 (U / 256 ^ k:Nat)∧OwnB wr B v (l++le k U)∧Below B w wr∧B≤wr.heap.size) (fun _ _ i _=>size-(intOf i).toNat)
 case atStart=>exact ⟨0,by omega,rfl,by simp,by simpa [le] using h,hb,hB⟩
 case round =>
  obtain ⟨k,hk,rfl,rfl,hown,hb,hB⟩:=hrel
  by_cases hlt:k < size
  ·have hlen:(l++le k U).length+1≤1000009:=by rw [List.length_append,le_length];omega
   have HU':=Lib.hid hlen
   have HS:=Lib.hid (le_snoc k U)
   clear hlen
   go_wp2_with (at_builtin;refine wpList_append_Own rfl _ _ 97 rfl 5 i0 (.int .u8 0) 1 1 Tryz.underlying97 hi hz0 hz1 hz2 rfl (by decide) _ _ _ rfl (Own.alloc hown _) ⟨wr.heap.size,0,none⟩ 1 1 [_] rfl rfl (one_new _ _ _) (one_int _ _) ?c1 ?c2 (below_alloc hb hB _).2 ?_)
   case c1=>have:=HU'.out;unfold maxLen;omega
   case c2=>have:=HU'.out;omega
   intro v' w' hown' hg
   have hb':=(Own.alloc hown (.cells #[Value.int .u8 ((U:Int) / 256 ^ k % 256)] 5)).grown (below_alloc hb hB _).1 (below_alloc hb hB _).2 hg
   have hB':B≤w'.heap.size:=Nat.le_trans (below_alloc hb hB (.cells #[Value.int .u8 ((U:Int) / 256 ^ k % 256)] 5)).2 hg.size
   have HO:=OwnB.snoc hown' (by omega) (by omega) (by rw [List.length_append])
   clear hown hown' hb hB hg
   go_wp2
   go_roundw
   case rel =>
    refine ⟨k+1,by omega,by go_num,?_,?_,hb',hB'⟩
    ·rw [Nat.pow_succ,←Nat.div_div_eq_div_mul];simp
    ·rw [HS.out,←List.append_assoc]
     have e:UInt8.ofNat ((U:Int) / 256 ^ k % 256).toNat=UInt8.ofNat (U / 256 ^ k % 256):=by congr 1
     rw [←e]
     exact HO
   case measure=>simp [intOf];omega
  ·obtain rfl:k=size:=by omega
   go_wp2
   go_ret
   exact ⟨_,rfl,hown,hb⟩
def shelfB (l:List Int):ByteArray:=⟨(shelfP l).toArray⟩
theorem shelfB_data (l:List Int):(shelfB l).data.toList=shelfP l:=rfl
theorem shelfP_take (l:List Int):shelfP l=(printB (foldI (leastI l)).toNat++printB (bytesL l)).data.toList++rowsP (leastI l) (bytesL l) l:=by
 rw [data_append,print_data,print_data,List.append_assoc];rfl
theorem rowsP_step (m:Int)(n:Nat)(l:List Int)(k:Nat)(h:k < l.length):rowsP m n (l.take (k+1))=rowsP m n (l.take k)++le n (dist l[k] m):=by
 rw [take_add l k h,rowsP_snoc]
set_option maxHeartbeats 1000000 in
theorem shelf_print_calls {w:World}{v:Value}{l:List Int}(h:IntsIn w v l)(hr:InR l)(hlen:l.length≤4096):GivesAt Tryz.prog 83 #[v] w (.string (shelfB l)):=by
 obtain ⟨hb,hB⟩:=start w
 have hL:=leastI_range l hr
 have hF:=Lib.hid (foldI_nat l hr)
 have hN:=bytesFrom_le_8 (leastI l) l
 have HL:=Lib.hid (shelfP_take l)
 have p1:=Lib.hid (fold_nat (leastI l) hL.1 hL.2)
 have H1:=Lib.hid (least_calls h)
 have H2:=Lib.hid (bytes_calls h hr)
 have H:=Lib.hid h
 have hN':bytesL l≤8:=hN
 obtain ⟨A,cap,rfl,hat⟩:=one_at h
 have HAT:=Lib.hid hat
 clear h hr hN hat
 generalize hm:leastI l=m at *
 generalize hn:bytesL l=n at *
 clear hm hn
 have p2:=Lib.hid (print_calls (foldI m).toNat hF.out)
 have p3:=Lib.hid (print_calls n (by omega))
 have hp1:(printB (foldI m).toNat).size≤10:=by rw [print_len];exact vp_len_10 hF.out
 have hp2:(printB n).size≤10:=by rw [print_len];exact vp_len_10 (by omega)
 generalize (foldI m).toNat=F at *
 unfold GivesAt
 go_enter Tryz.func83,Tryz.ntmps83
 go_wp2_with (first|(go_at_call 107;refine H1.out.step ?_)|(go_at_call 108;refine H2.out.step ?_)|(go_at_call 110;refine (p1.out _).mono ?_;rintro e w' ⟨rfl,rfl⟩)|(go_at_call_of 109 (Value.int .u64 (F:Int));refine p2.out.step (w0:=w) (B:=w.heap.size) hb hB ?_;clear hb hB;intro wb hb hB)|(go_at_call_of 109 (Value.int .u64 (n:Int));refine p3.out.step (w0:=w) (B:=w.heap.size) hb hB ?_;clear hb hB;intro wb hb hB)|(refine wpList_bytes rfl _ 9 97 5 rfl Tryz.underlying9 Tryz.underlying97 Tryz.underlying5 (printB F++printB n) rfl w.heap.size hB ?cs ?_))
 case cs=>rw [ByteArray.size_append];unfold maxLen;omega
 have hsz:(printB F++printB n).data.toList.length=(printB F).size+(printB n).size:=by rw [data_append,List.length_append,data_size,data_size]
 intro vb w2 hown0 hbe
 have hown:OwnB w2 w.heap.size vb (printB F++printB n).data.toList:=by first|exact hown0|(rw [data_append];exact hown0)
 clear hown0
 generalize (printB F++printB n).data.toList=P0 at HL hsz hown
 have HZ:=Lib.hid (show P0.length≤20 by omega)
 clear hsz hp1 hp2 p1 p2 p3
 have hb2:=hb.trans (hbe.mono hB)
 have hB2:=Nat.le_trans hB hbe.size
 clear hb hB hbe
 go_wp2
 go_loopw [5,22] (fun v i wr=>∃ (k:Nat),k≤l.length∧i=.int .i64 k∧OwnB wr w.heap.size v (P0++rowsP m n (l.take k))∧Below w.heap.size w wr∧w.heap.size≤wr.heap.size) (fun _ i _=>l.length-(intOf i).toNat)
 case atStart=>exact ⟨0,by omega,rfl,by simpa [rowsP] using hown,hb2,hB2⟩
 case round =>
  clear hown hb2 hB2
  obtain ⟨k,hk,rfl,hown,hb,hB⟩:=hrel
  by_cases hlt:k < l.length
  ·obtain ⟨b,off,rfl,hbl,hc⟩:=HAT.out k hlt
   have hx:=(hb.cell (p:=⟨b,off+k,none⟩) hbl).trans (hc k hlt)
   have HS:=Lib.hid (rowsP_step m n l k hlt)
   have HC:=Lib.hid (distance_calls l[k] m)
   have hd:=Lib.hid (dist_lt l[k] m)
   generalize dist l[k] m=D at HC hd HS
   have HO:=Lib.hid hown
   have HR:=Lib.hid (rowsP_length m n (l.take k))
   have HM:n*(l.take k).length≤8*4096:=Nat.mul_le_mul hN' (by rw [List.length_take];omega)
   have HT:=Lib.hid (appendLow_calls hown hB D n hd.out hN' (by rw [List.length_append,HR.out];have:=HZ.out;omega))
   clear hc hown HM
   go_wp2_with (first|(go_at_call 112;refine (HC.out _).step ?_)|(go_at_call 111;refine HT.out.mono ?_))
   rintro e w' ⟨v',rfl,hown',hb'⟩
   have hb2:=hb.trans hb'
   have hB2:=Nat.le_trans hB hb'.size
   clear hb hB hb' hx HT HO
   go_wp2
   go_roundw
   case rel=>exact ⟨k+1,by omega,by go_num,by rw [HS.out,←List.append_assoc];exact hown',hb2,hB2⟩
   case measure=>simp [intOf];omega
  ·obtain rfl:k=l.length:=by omega
   rw [List.take_length] at hown
   have hconv:=run_string_own hown 97 9 5 Tryz.underlying97 Tryz.underlying5 Tryz.underlying9
   clear hown
   go_wp2
   go_ret
   exact ⟨ret_str (by unfold shelfB;rw [HL.out]),hb⟩
theorem leastI_step (l:List Int)(k:Nat)(h:k < l.length)(h0:0 < k):leastI (l.take (k+1))=min (leastI (l.take k)) l[k]:=by
 rw [take_add l k h];exact leastI_snoc _ _ (by intro hz;have:=congrArg List.length hz;rw [List.length_take,List.length_nil] at this;omega)
set_option maxHeartbeats 400000 in
theorem ref_least_calls {w:World}{v:Value}{l:List Int}(h:IntsIn w v l):Reads Tryz.prog 99 #[v] w (.int .i64 (leastI l)):=by
 have hm:=h.len
 unfold maxLen at hm
 rcases h.parts with ⟨rfl,A,cap,rfl⟩ | ⟨h0,b,off,cap,rfl,hlt,hc⟩
 ·clear h hm
  unfold Reads
  go_enter Tryz.func99,Tryz.ntmps99
  go_wp2
  refine wp_loop_rounds 1 ?_
  rw [rounds_succ]
  go_wp2
  go_ret
  exact ⟨rfl,rfl⟩
 ·have hc0:w.cell? ⟨b,off,none⟩=some (.int .i64 l[0]):=hc 0 h0
  have e1:leastI (l.take 1)=l[0]:=by rw [take_add l 0 h0];rfl
  have HC:=Lib.hid hc
  have HE:=Lib.hid e1
  clear h hc e1
  unfold Reads
  go_enter Tryz.func99,Tryz.ntmps99
  go_wp2
  go_loop [3,4] (fun n i=>∃ k:Nat,k≤l.length∧i=.int .i64 k∧n=.int .i64 (leastI (l.take k))) (fun _ i=>l.length-(intOf i).toNat)
  case atStart=>exact ⟨0,by omega,rfl,rfl⟩
  case round =>
   obtain ⟨k,hk,rfl,rfl⟩:=hrel
   by_cases hlt:k < l.length
   ·by_cases hk0:k=0
    ·subst hk0
     clear hk hlt
     go_wp2
     go_round
     case rel=>exact ⟨1,by omega,by go_num,by rw [HE.out]⟩
     case measure=>simp [intOf];omega
    ·have hx:=HC.out k hlt
     have HS:=Lib.hid (leastI_step l k hlt (by omega))
     have d1:((k:Int)==0)=false:=by rw [beq_eq_false_iff_ne];omega
     by_cases hc:l[k] < leastI (l.take k)
     ·have d2:decide (l[k] < leastI (l.take k))=true:=by rw [decide_eq_true_eq];exact hc
      go_wp2
      go_round
      case rel=>exact ⟨k+1,by omega,by go_num,by rw [HS.out];congr 1;omega⟩
      case measure=>simp [intOf];omega
     ·have d2:decide (l[k] < leastI (l.take k))=false:=by rw [decide_eq_false_iff_not];exact hc
      go_wp2
      go_round
      case rel=>exact ⟨k+1,by omega,by go_num,by rw [HS.out];congr 1;omega⟩
      case measure=>simp [intOf];omega
   ·obtain rfl:k=l.length:=by omega
    go_wp2
    go_ret
    exact ⟨rfl,rfl⟩
theorem shr_some8 (a k:Nat)(h:256 ^ k≤a):decide (0 < (a:Int) / 2 ^ (8*k))=true:=by
 have e7:(256:Nat) ^ k=2 ^ (8*k):=by rw [Nat.pow_mul]
 rw [e7] at h
 have h1:0 < a / 2 ^ (8*k):=Nat.div_pos h (Nat.pow_pos (by decide))
 have h2:(0:Int) < ((a / 2 ^ (8*k):Nat):Int):=by omega
 rw [Int.natCast_ediv] at h2
 rw [decide_eq_true_eq]
 simpa using h2
theorem shr_none8 (a k:Nat)(h:a < 256 ^ k):decide (0 < (a:Int) / 2 ^ (8*k))=false:=by
 have e7:(256:Nat) ^ k=2 ^ (8*k):=by rw [Nat.pow_mul]
 rw [e7] at h
 have h1:a / 2 ^ (8*k)=0:=Nat.div_eq_of_lt h
 have h2:((a / 2 ^ (8*k):Nat):Int)=0:=by rw [h1];rfl
 rw [Int.natCast_ediv] at h2
 rw [decide_eq_false_iff_not]
 have h3:(a:Int) / 2 ^ (8*k)=0:=by simpa using h2
 omega
theorem bytesFrom_step (m:Int)(l:List Int)(k:Nat)(h:k < l.length):bytesFrom m (l.take (k+1))=max (bytesFrom m (l.take k)) (nb (dist l[k] m)):=by
 rw [take_add l k h,bytesFrom_snoc]
set_option maxHeartbeats 1000000 in
theorem ref_bytes_calls {w:World}{v:Value}{l:List Int}(h:IntsIn w v l):Reads Tryz.prog 100 #[v] w (.int .i64 (bytesL l)):=by
 have hm:=h.len
 unfold maxLen at hm
 rcases h.parts with ⟨rfl,A,cap,rfl⟩ | ⟨h0,b,off,cap,rfl,hlt,hc⟩
 ·have H:=Lib.hid h
  clear h hm
  unfold Reads
  go_enter Tryz.func100,Tryz.ntmps100
  go_wp2_with (go_at_call 99;refine (ref_least_calls H.out).step ?_)
  refine wp_loop_rounds 1 ?_
  rw [rounds_succ]
  go_wp2
  go_ret
  exact ⟨rfl,rfl⟩
 ·have HC:=Lib.hid hc
  have H:=Lib.hid h
  have HL:=Lib.hid (show bytesFrom (leastI l) l=bytesL l from rfl)
  clear h hc
  unfold Reads
  go_enter Tryz.func100,Tryz.ntmps100
  go_wp2_with (go_at_call 99;refine (ref_least_calls H.out).step ?_)
  go_loop [3,5] (fun n i=>∃ k:Nat,k≤l.length∧i=.int .i64 k∧n=.int .i64 (bytesFrom (leastI l) (l.take k))) (fun _ i=>l.length-(intOf i).toNat)
  case atStart=>exact ⟨0,by omega,rfl,rfl⟩
  case round =>
   obtain ⟨k,hk,rfl,rfl⟩:=hrel
   by_cases hlt:k < l.length
   ·have hx:=HC.out k hlt
    have HS:=Lib.hid (bytesFrom_step (leastI l) l k hlt)
    have HW:=wrap_sub l[k] (leastI l)
    have hD:=dist_lt l[k] (leastI l)
    generalize dist l[k] (leastI l)=D at HS HW hD
    have h8:=Lib.hid (nb_le_8 hD)
    have HD:=Lib.hid hD
    have hB:=bytesFrom_le_8 (leastI l) (l.take k)
    generalize bytesFrom (leastI l) (l.take k)=B at HS hB
    clear hD
    go_wp2
    clear HW
    go_loop [3] (fun n=>∃ j:Nat,B≤j∧j≤8∧(j≤max B (nb D))∧n=.int .i64 j) (fun n=>8-(intOf n).toNat)
    case atStart=>exact ⟨B,by omega,by omega,by omega,rfl⟩
    case round =>
     obtain ⟨j,hj1,hj2,hj3,rfl⟩:=hrel
     by_cases hj8:j < 8
     ·by_cases hd:256 ^ j≤D
      ·have d1:=shr_some8 D j hd
       have hn:¬nb D≤j:=by rw [nb_spec];omega
       go_wp2
       go_round
       case rel=>exact ⟨j+1,by omega,by omega,by omega,by go_num⟩
       case measure=>simp [intOf];omega
      ·have d1:=shr_none8 D j (by omega)
       have hn:nb D≤j:=by rw [nb_spec];omega
       have HS':=Lib.hid (show j=bytesFrom (leastI l) (l.take (k+1)) by have:=HS.out;omega)
       go_wp2
       go_round
       case rel=>exact ⟨k+1,by omega,by go_num,by rw [HS'.out]⟩
       case measure=>simp [intOf];omega
     ·obtain rfl:j=8:=by omega
      have HS':=Lib.hid (show 8=bytesFrom (leastI l) (l.take (k+1)) by have:=HS.out;have:=h8.out;omega)
      go_wp2
      go_round
      case rel=>exact ⟨k+1,by omega,by go_num,by rw [←HS'.out]⟩
      case measure=>simp [intOf];omega
   ·obtain rfl:k=l.length:=by omega
    go_wp2
    go_ret
    exact ⟨ret_int (by rw [←HL.out]),rfl⟩
end Go.Proofs.YtafmbnafibahkaaGreat
