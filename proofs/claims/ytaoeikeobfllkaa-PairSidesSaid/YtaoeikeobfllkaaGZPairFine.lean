/- Rows that are few, short, there not too often; the front and the back of the columns; no walks. -/
import Derived.Test.YtaoeikeobfllkaaGWeighOwn
import Derived.Test.YtaoeikeobfllkaaGZPairByKey
namespace Go.Proofs.Ytaoeikeobfllkaa
open Go Go.RowKit
def Fine (n k c:Nat)(x:List Tm):Prop:=x.length≤n∧wtW x≤k∧(∀ t∈x,t.1.length≤c)∧ShortC x
section
variable {n k c m j d:Nat}{a b:List Tm}{on:List Cl}
theorem Fine.of (h:Fine n k c a):Fine n k c (ofW a):=⟨Nat.le_trans (of_length _) h.1,Nat.le_trans (wt_of _) h.2.1,fun t ht=>by
 obtain ⟨u,hu,e⟩:=mem_of ht
 rw [←e];exact h.2.2.1 u hu,fun t ht=>by
 obtain ⟨u,hu,e⟩:=mem_of ht
 rw [←e];exact h.2.2.2 u hu⟩
theorem Fine.append (h:Fine n k c a)(h2:Fine m j c b):Fine (n+m) (k+j) c (a++b):=⟨by rw [List.length_append];exact Nat.add_le_add h.1 h2.1,by rw [wtW_append];exact Nat.add_le_add h.2.1 h2.2.1,
 fun t ht=>(List.mem_append.1 ht).elim (h.2.2.1 t) (h2.2.2.1 t),fun t ht=>(List.mem_append.1 ht).elim (h.2.2.2 t) (h2.2.2.2 t)⟩
theorem Fine.sum (h:Fine n k c a)(h2:Fine m j c b):Fine (n+m) (k+j) c (sumW a b):=by rw [sum_of_append];exact (h.append h2).of
theorem Fine.pairs (h:Fine n k c a)(h2:Fine m j d b)(on:List Cl):Fine (n*m) (k*j) (c+d) (pairsL a b on):=⟨Nat.le_trans (pairs_length _ _ _) (Nat.mul_le_mul h.1 h2.1),Nat.le_trans (wt_pairs _ _ _) (Nat.mul_le_mul h.2.1 h2.2.1),
 fun t ht=>by
  obtain ⟨x,hx,y,hy,_,rfl⟩:=mem_pairs ht
  have h3:=h.2.2.1 x hx
  have h4:=h2.2.2.1 y hy
  show (x.1++y.1).length≤_
  rw [List.length_append]
  omega,fun t ht=>by
  obtain ⟨x,hx,y,hy,_,rfl⟩:=mem_pairs ht
  intro e he
  rcases List.mem_append.1 he with he|he
  ·exact h.2.2.2 x hx e he
  ·exact h2.2.2.2 y hy e he⟩
theorem Fine.join (h:Fine n k c a)(h2:Fine m j d b)(on:List Cl):Fine (n*m) (k*j) (c+d) (joinS a b on):=(h.pairs h2 on).of
theorem Fine.nil_ (n k c:Nat):Fine n k c []:=⟨Nat.zero_le _,Nat.zero_le _,fun _ h=>absurd h (by simp),fun _ h=>absurd h (by simp)⟩
theorem Fine.shortR (h:Fine n k c a)(hc:c≤1000000):ShortR a:=fun t ht=>Nat.le_trans (h.2.2.1 t ht) hc
theorem Fine.mono {n' k' c':Nat}(h:Fine n k c a)(h1:n≤n')(h2:k≤k')(h3:c≤c'):Fine n' k' c' a:=⟨Nat.le_trans h.1 h1,Nat.le_trans h.2.1 h2,fun t ht=>Nat.le_trans (h.2.2.1 t ht) h3,h.2.2.2⟩
end
theorem mul_fits {a b:Int}{k j:Nat}(ha:a.natAbs≤k)(hb:b.natAbs≤j)(h:k*j≤4611686018427387904) : -9223372036854775808≤a*b∧a*b≤9223372036854775807:=by
 have h1:=Int.natAbs_mul a b
 have h2:=Nat.mul_le_mul ha hb
 omega
theorem on_front_run (W:World)(A:Option Addr)(n cap m:Nat)(h:m≤cap):(Instr.sliceAt 23 (.slice A n cap) none (some (.int .i64 (m:Int))) none).run Try.prog W=.ok (.slice A m cap) W:=by
 have hu:Try.prog.underlying 23=some (.slice (Try.prog.elem 23)):=by kernel_rfl
 have he:Try.prog.elem 23=33:=by kernel_rfl
 rw [run_sliceAt_slice _ _ _ _ _ _ hu,run_slice_h _ _ _ _ _ hu _ _ (by omega) (by omega),he,Try.sizeOf33]
 have e0:A.map (fun x=>x.add 0)=A:=by
  cases A with
  | none=>rfl
  | some a=>simp [Addr.add]
 simp [Result.andThen,sliced,e0]
theorem on_back_run {w:World}{A:Option Addr}{cap m:Nat}{on:List Cl}(h:OnIn w (.slice A on.length cap) on)(hm:m≤on.length) :
  ∃ A',(∀ W,(Instr.sliceAt 23 (.slice A on.length cap) (some (.int .i64 (m:Int))) none none).run Try.prog W=.ok (.slice A' (on.length-m) (cap-m)) W)∧OnIn w (.slice A' (on.length-m) (cap-m)) (on.drop m):=by
 have hu:Try.prog.underlying 23=some (.slice (Try.prog.elem 23)):=by kernel_rfl
 have he:Try.prog.elem 23=33:=by kernel_rfl
 refine ⟨if cap=m then A else A.map (fun x=>x.add (m*2)),fun W=>?_,?_⟩
 ·rw [run_sliceAt_slice _ _ _ _ _ _ hu,run_slice_l _ _ _ _ _ hu _ _ (by omega) (by omega),he,Try.sizeOf33]
  simp [Result.andThen,sliced]
 ·obtain ⟨A2,c2,e,hc,hat⟩:=on_at h
  cases e
  rcases Nat.lt_or_ge m on.length with hlt|hge
  ·obtain ⟨b,off,rfl,_⟩:=hat 0 (by omega)
   refine OnIn.back h hm fun _=>?_
   rw [if_neg (by omega)]
   show some (Addr.add _ _)=_
   rw [addr_at rfl]
  ·obtain rfl:m=on.length:=by omega
   rw [List.drop_length,Nat.sub_self]
   exact OnIn.nil_ _ _ _
end Go.Proofs.Ytaoeikeobfllkaa
