/- The contract of slices.Repeat of one text. -/
import Derived.Test.YtafmbnafibahkaaGreatGStrs
import Derived.Test.YtafmbnafibahkaaGreatGRuns
import Derived.Laws.CopyOwn
import Derived.StillTailTactics
namespace Go.Proofs.YtafmbnafibahkaaGreat
open Go Go.RowKit
theorem and_low (n:Nat)(h:n < 4294967296):bits .and .u64 (n:Int) 4294967295=(n:Int):=by
 have e:=bits_and_u64_nat n 4294967295 (by omega) (by decide)
 rw [show ((4294967295:Nat):Int)=4294967295 by rfl] at e
 rw [e,show (4294967295:Nat)=2 ^ 32-1 by decide,Nat.and_two_pow_sub_one_eq_mod,Nat.mod_eq_of_lt (by omega)]
theorem mul64_one (n:Nat)(h:n≤1000000)(w:World):Reads Tryz.prog 217 #[.int .u64 1,.int .u64 n] w (.tuple #[.int .u64 0,.int .u64 n]):=by
 have h1:=and_low n (by omega)
 have h2:bits .and .u64 1 4294967295=1:=and_low 1 (by decide)
 have h3:bits .and .u64 0 4294967295=0:=and_low 0 (by decide)
 have h4:(n:Int) / 4294967296=0:=by omega
 unfold Reads
 go_enter Tryz.func217,Tryz.ntmps217
 go_wp2
 go_ret2
 exact ⟨rfl,rfl⟩
theorem mul_one (n:Nat)(h:n≤1000000)(w:World):Reads Tryz.prog 204 #[.int .u64 1,.int .u64 n] w (.tuple #[.int .u64 0,.int .u64 n]):=by
 have H:=Lib.hid (mul64_one n h w)
 unfold Reads
 go_enter Tryz.func204,Tryz.ntmps204
 go_wp2_with (go_at_call 217;refine H.out.step ?_)
 go_ret2
 exact ⟨rfl,rfl⟩
section
variable {P:Program}{w:World}{B n:Nat}{xs:List Value}{g off cap:Nat}
theorem Own.copied (h:Own w B 1 (.slice (some ⟨g,off,none⟩) n cap) n xs)(k:Nat)(cs:List Value)(hk:k+cs.length≤n):Own (w.setCells g (off+k) cs) B 1 (.slice (some ⟨g,off,none⟩) n cap) n (splice xs k cs):=by
 obtain ⟨h1,h2,h3,h4,h5⟩:=h.parts
 have hx:xs.length=n:=by simpa using h.1
 have hl:(splice xs k cs).length=n:=by rw [length_splice _ _ _ (by omega),hx]
 refine ⟨by rw [hl,Nat.mul_one],h.2.1,.inr ⟨g,off,cap,rfl,h1,by rw [setCells_size];exact h2,h3,fun j u hu=>?_,fun j hj=>?_⟩⟩
 ·by_cases hj:k≤j∧j < k+cs.length
  ·have e:=World.cell?_setCells_in g cs (off+k) w (fun i hi=>by rw [Nat.add_assoc];exact (h5 _ (by omega)).1) (j-k) (by omega)
   rw [show off+j=off+k+(j-k) by omega,e]
   unfold splice at hu
   rw [List.getElem?_append_right (by rw [List.length_take];omega),List.length_take,Nat.min_eq_left (by omega),List.getElem?_append_left (by omega),List.getElem?_eq_getElem (by omega)] at hu
   exact hu
  ·rw [World.cell?_setCells_out g cs _ w ⟨g,off+j,none⟩ (fun _ _=>by simp only [];omega)]
   refine h4 j u ?_
   rw [←hu]
   unfold splice
   by_cases hj2:j < k
   ·rw [List.getElem?_append_left (by rw [List.length_take];omega),List.getElem?_take_of_lt hj2]
   ·rw [List.getElem?_append_right (by rw [List.length_take];omega),List.length_take,Nat.min_eq_left (by omega),List.getElem?_append_right (by omega),List.getElem?_drop]
    congr 1;omega
 ·rw [World.frozen?_setCells]
  refine ⟨?_,(h5 j hj).2⟩
  by_cases hj2:k≤j∧j < k+cs.length
  ·have e:=World.cell?_setCells_in g cs (off+k) w (fun i hi=>by rw [Nat.add_assoc];exact (h5 _ (by omega)).1) (j-k) (by omega)
   rw [show off+j=off+k+(j-k) by omega,e];rfl
  ·rw [World.cell?_setCells_out g cs _ w ⟨g,off+j,none⟩ (fun _ _=>by simp only [];omega)]
   exact (h5 j hj).1
theorem run_copy_Own (dT sT ty:TypeId)(elem:TypeId)(hu:P.underlying dT=some (.slice elem))(hsz:(P.info? elem).map (·.size)=some 1)
  (h:Own w B 1 (.slice (some ⟨g,off,none⟩) n cap) n xs) (k dLen dCap:Nat) (ad:Addr) (sLen sCap:Nat)
  (cs:List Value) (hn:cs.length=Nat.min sLen dLen) (hk:k+cs.length≤n) (hsrc:∀ j v,cs[j]? = some v→w.cell? (ad.add j)=some v) (h1:∀ v∈cs,v.oneCell'=true) :
  ∃ w',(Builtin.copy_ #[dT,sT] ty #[.slice (some ⟨g,off+k,none⟩) dLen dCap,.slice (some ad) sLen sCap]).run P w=.ok (goInt cs.length) w'∧Own w' B 1 (.slice (some ⟨g,off,none⟩) n cap) n (splice xs k cs)∧w.grownBy w' (some g):=by
 obtain ⟨_,_,h3,_,h5⟩:=h.parts
 exact ⟨_,run_copy_cells (P:=P) w dT sT ty elem g (off+k) dLen dCap ad sLen sCap cs hu hsz hn hsrc (fun j hj=>by rw [Nat.add_assoc];exact (h5 _ (by omega)).1) (fun j hj=>by rw [Nat.add_assoc];exact (h5 _ (by omega)).2) h1,h.copied k cs hk,setCells_grown g cs _ w⟩
end
theorem splice_more (n k:Nat)(x z:Value)(_hk:k≤n):splice (List.replicate k x++List.replicate (n-k) z) k (List.replicate (Nat.min k (n-k)) x)=List.replicate (k+Nat.min k (n-k)) x++List.replicate (n-(k+Nat.min k (n-k))) z:=by
 unfold splice
 have h:Nat.min k (n-k)≤n-k:=Nat.min_le_right _ _
 generalize Nat.min k (n-k)=m at *
 rw [List.take_append_of_le_length (by simp),List.take_of_length_le (by simp),List.length_replicate,List.drop_append,List.drop_of_length_le (by simp),List.nil_append,List.length_replicate,List.drop_replicate,←List.append_assoc,List.replicate_append_replicate]
 congr 2;omega
theorem one_rep (m:Nat)(x:Value)(h:x.oneCell'=true):∀ u∈List.replicate m x,u.oneCell'=true:=by
 intro u hu;rw [List.mem_replicate] at hu;rw [hu.2];exact h
theorem Tryz.sizeS4:(Tryz.prog.info? 4).map (·.size)=some 1:=by kernel_rfl
theorem Tryz.infoS4:(Tryz.prog.info? 4).map (fun i=>(i.zero,i.size,i.bytes))=some (some (.bool false),1,1):=by kernel_rfl
theorem splice_first_bool (n:Nat)(c:Bool):splice (List.replicate n (Value.bool false)) 0 [Value.bool c]=List.replicate 1 (Value.bool c)++List.replicate (n-1) (Value.bool false):=by
 unfold splice
 rw [List.take_zero,List.nil_append,List.drop_replicate];rfl
set_option maxHeartbeats 1000000 in
set_option maxRecDepth 100000 in
theorem repeat_bool_calls {w:World}{x:Value}{c:Bool}(h:BoolsIn w x [c])(n:Nat)(h0:1≤n)(hn:n≤1000000) :
  Calls Tryz.prog 195 #[x,.int .i64 n] w fun e w'=>∃ v,e=.returned v∧Own w' w.heap.size 1 v n (List.replicate n (Value.bool c))∧Below w.heap.size w w':=by
 obtain ⟨s0,hs,hsz0,hsz1,hsz2⟩:=info_parts Tryz.infoS4
 obtain ⟨hb,hB⟩:=start w
 obtain ⟨A,cap,rfl,hat⟩:=one_at h
 obtain ⟨b,off,rfl,hbl,hc⟩:=hat 0 (by simp)
 have hcell:w.cell? ⟨b,off,none⟩=some (.bool c):=hc 0 (by simp)
 clear h hat hc
 have HM:=Lib.hid (mul_one n hn)
 go_enter Tryz.func195,Tryz.ntmps195
 go_wp2_with (first|(go_at_call 204;refine (HM.out w).step ?_)|(at_make;refine wpList_make_full _ rfl _ _ 112 rfl w.heap.size 4 s0 (.bool false) 1 Tryz.underlying112 hs hsz0 hsz1 .i64 .i64 _ _ n rfl rfl rfl rfl (by rw [hsz2];omega) (by unfold maxLen;omega) hB ?_))
 intro w1 hrow hg1
 rw [toList_madeCells_one] at hrow
 have hO:=Own.of_row (B:=w.heap.size) hrow (by unfold maxLen;omega) (Nat.le_refl _)
 have hb1:Below w.heap.size w w1:=hb.grown hg1 hB (fun k hk=>by cases hk)
 have hc1:=(hb1.cell (p:=⟨b,off,none⟩) hbl).trans hcell
 clear hrow hg1 hcell hb
 generalize hgv:w.heap.size=g at *
 obtain ⟨w2,hrun,hO2,hg2⟩:=run_copy_Own (P:=Tryz.prog) 112 112 3 4 Tryz.underlying112 Tryz.sizeS4 hO 0 n n ⟨b,off,none⟩ 1 cap [Value.bool c] (by show 1=Nat.min 1 n;exact (Nat.min_eq_left h0).symm) (by show 0+1≤n;omega) (by
  intro j v hj
  cases j with
  | zero=>simp only [List.getElem?_cons_zero,Option.some.injEq] at hj;subst hj;exact hc1
  | succ j=>simp at hj) (one_bool _)
 have hrun':(Builtin.copy_ #[112,112] 3 #[.slice (some ⟨g,0,none⟩) n n,.slice (some ⟨b,off,none⟩) 1 cap]).run Tryz.prog w1=.ok (.int .i64 1) w2:=hrun
 clear hrun
 have hb2:Below g w w2:=hb1.grown hg2 (by rw [←hgv];exact hb1.size) (fun k hk=>by cases hk;omega)
 rw [splice_first_bool n c] at hO2
 clear hO hb1 hc1 hg2
 go_wp2
 go_loopw [8] (fun i wr=>∃ (k:Nat),1≤k∧k≤n∧i=.int .i64 k∧Own wr g 1 (.slice (some ⟨g,0,none⟩) n n) n (List.replicate k (Value.bool c)++List.replicate (n-k) (Value.bool false))∧Below g w wr) (fun i _=>n-(intOf i).toNat)
 case atStart=>exact ⟨1,by omega,h0,rfl,hO2,hb2⟩
 case round =>
  clear hO2 hb2 hrun'
  obtain ⟨k,hk0,hk,rfl,hO,hb⟩:=hrel
  by_cases hlt:k < n
  ·have hne:¬k=n:=by omega
   obtain ⟨w3,hrun,hO3,hg3⟩:=run_copy_Own (P:=Tryz.prog) 112 112 3 4 Tryz.underlying112 Tryz.sizeS4 hO.drew k (n-k) (n-k) ⟨g,0,none⟩ k n (List.replicate (Nat.min k (n-k)) (Value.bool c)) (by rw [List.length_replicate]) (by rw [List.length_replicate];have h7:Nat.min k (n-k)≤n-k:=Nat.min_le_right k (n-k);generalize Nat.min k (n-k)=m at *;omega) (by
    intro j v hj
    obtain ⟨hj1,hj2⟩:=List.getElem?_eq_some_iff.1 hj
    rw [List.length_replicate] at hj1
    rw [List.getElem_replicate] at hj2
    have hjk:j < k:=Nat.lt_of_lt_of_le hj1 (Nat.min_le_left _ _)
    obtain ⟨_,_,_,hcv,_⟩:=hO.parts
    rw [Addr.add_lit]
    refine hcv j v ?_
    rw [List.getElem?_append_left (by rw [List.length_replicate];exact hjk),List.getElem?_replicate,if_pos hjk,hj2]) (one_rep _ _ rfl)
   rw [splice_more n k _ _ hk] at hO3
   rw [List.length_replicate,Nat.zero_add] at hrun
   have hm:Nat.min k (n-k)≤n-k:=Nat.min_le_right k (n-k)
   have hm1:1≤Nat.min k (n-k):=Nat.le_min.2 ⟨hk0,by omega⟩
   generalize Nat.min k (n-k)=m at *
   have hb3:Below g w w3:=hb.drew.grown hg3 (by have:=hb.size;rw [hgv] at this;exact this) (fun k hk=>by cases hk;omega)
   clear hO hb hg3
   go_wp2
   go_region
   go_wp2
   go_roundw
   case rel=>exact ⟨k+m,by omega,by omega,by go_num,hO3,hb3⟩
   case measure=>simp [intOf];omega
  ·obtain rfl:k=n:=by omega
   go_wp2
   go_ret
   rw [Nat.sub_self,List.replicate_zero,List.append_nil] at hO
   exact ⟨_,rfl,hgv▸hO,hgv▸hb⟩
set_option maxHeartbeats 1000000 in
set_option maxRecDepth 100000 in
theorem repeat_bool_none {w:World}{x:Value}{c:Bool}(h:BoolsIn w x [c]) :
  Calls Tryz.prog 195 #[x,.int .i64 0] w fun e w'=>∃ v,e=.returned v∧Own w' w.heap.size 1 v 0 []∧Below w.heap.size w w':=by
 obtain ⟨s0,hs,hsz0,hsz1,hsz2⟩:=info_parts Tryz.infoS4
 obtain ⟨hb,hB⟩:=start w
 obtain ⟨A,cap,rfl,hat⟩:=one_at h
 obtain ⟨b,off,rfl,hbl,hc⟩:=hat 0 (by simp)
 have hcell:w.cell? ⟨b,off,none⟩=some (.bool c):=hc 0 (by simp)
 clear h hat hc
 have HM:=Lib.hid (mul_one 0 (by decide))
 go_enter Tryz.func195,Tryz.ntmps195
 go_wp2_with (first|(go_at_call 204;refine (HM.out w).step ?_)|(at_make;refine wpList_make_full _ rfl _ _ 112 rfl w.heap.size 4 s0 (.bool false) 1 Tryz.underlying112 hs hsz0 hsz1 .i64 .i64 _ _ 0 rfl rfl rfl rfl (by rw [hsz2];omega) (by unfold maxLen;omega) hB ?_))
 intro w1 hrow hg1
 rw [toList_madeCells_one] at hrow
 have hO:=Own.of_row (B:=w.heap.size) hrow (by unfold maxLen;omega) (Nat.le_refl _)
 have hb1:Below w.heap.size w w1:=hb.grown hg1 hB (fun k hk=>by cases hk)
 have hc1:=(hb1.cell (p:=⟨b,off,none⟩) hbl).trans hcell
 clear hrow hg1 hcell hb
 generalize hgv:w.heap.size=g at *
 obtain ⟨w2,hrun,hO2,hg2⟩:=run_copy_Own (P:=Tryz.prog) 112 112 3 4 Tryz.underlying112 Tryz.sizeS4 hO 0 0 0 ⟨b,off,none⟩ 1 cap [] rfl (Nat.le_refl _) (fun j v hj=>by simp at hj) (fun u hu=>absurd hu (by simp))
 have hrun':(Builtin.copy_ #[112,112] 3 #[.slice (some ⟨g,0,none⟩) 0 0,.slice (some ⟨b,off,none⟩) 1 cap]).run Tryz.prog w1=.ok (.int .i64 0) w2:=hrun
 clear hrun
 have hb2:Below g w w2:=hb1.grown hg2 (by rw [←hgv];exact hb1.size) (fun k hk=>by cases hk;omega)
 clear hO hb1 hc1 hg2
 go_wp2
 refine wp_loop_rounds 1 ?_
 rw [rounds_succ]
 go_wp2
 go_ret
 exact ⟨_,rfl,hgv▸hO2,hgv▸hb2⟩
theorem repeat_bools {w:World}{x:Value}{c:Bool}(h:BoolsIn w x [c])(n:Nat)(hn:n≤1000000) :
  Calls Tryz.prog 195 #[x,.int .i64 n] w fun e w'=>∃ v,e=.returned v∧Own w' w.heap.size 1 v n (List.replicate n (Value.bool c))∧Below w.heap.size w w':=by
 rcases Nat.eq_zero_or_pos n with rfl|h0
 ·exact repeat_bool_none h
 ·exact repeat_bool_calls h n h0 hn
theorem Tryz.sizeS9:(Tryz.prog.info? 9).map (·.size)=some 1:=by kernel_rfl
theorem splice_first (n:Nat)(c:ByteArray)(_h0:1≤n):splice (List.replicate n (Value.string ⟨#[]⟩)) 0 [Value.string c]=List.replicate 1 (Value.string c)++List.replicate (n-1) (Value.string ⟨#[]⟩):=by
 unfold splice
 rw [List.take_zero,List.nil_append,List.drop_replicate];rfl
set_option maxHeartbeats 1000000 in
set_option maxRecDepth 100000 in
theorem repeat_calls {w:World}{x:Value}{c:ByteArray}(h:StrsIn w x [c])(n:Nat)(h0:1≤n)(hn:n≤1000000) :
  Calls Tryz.prog 206 #[x,.int .i64 n] w fun e w'=>∃ v,e=.returned v∧StrsIn w' v (List.replicate n c)∧Fresh w.heap.size v∧Below w.heap.size w w':=by
 obtain ⟨s0,hs,hsz0,hsz1,hsz2⟩:=info_parts Tryz.infoS9
 obtain ⟨hb,hB⟩:=start w
 obtain ⟨A,cap,rfl,hat⟩:=one_at h
 obtain ⟨b,off,rfl,hbl,hc⟩:=hat 0 (by simp)
 have hcell:w.cell? ⟨b,off,none⟩=some (.string c):=hc 0 (by simp)
 clear h hat hc
 have HM:=Lib.hid (mul_one n hn)
 go_enter Tryz.func206,Tryz.ntmps206
 go_wp2_with (first|(go_at_call 204;refine (HM.out w).step ?_)|(at_make;refine wpList_make_full _ rfl _ _ 44 rfl w.heap.size 9 s0 (.string ⟨#[]⟩) 1 Tryz.underlying44 hs hsz0 hsz1 .i64 .i64 _ _ n rfl rfl rfl rfl (by rw [hsz2];omega) (by unfold maxLen;omega) hB ?_))
 intro w1 hrow hg1
 rw [toList_madeCells_one] at hrow
 have hO:=Own.of_row (B:=w.heap.size) hrow (by unfold maxLen;omega) (Nat.le_refl _)
 have hb1:Below w.heap.size w w1:=hb.grown hg1 hB (fun k hk=>by cases hk)
 have hc1:=(hb1.cell (p:=⟨b,off,none⟩) hbl).trans hcell
 clear hrow hg1 hcell hb
 generalize hgv:w.heap.size=g at *
 obtain ⟨w2,hrun,hO2,hg2⟩:=run_copy_Own (P:=Tryz.prog) 44 44 3 9 Tryz.underlying44 Tryz.sizeS9 hO 0 n n ⟨b,off,none⟩ 1 cap [Value.string c] (by show 1=Nat.min 1 n;exact (Nat.min_eq_left h0).symm) (by show 0+1≤n;omega) (by
  intro j v hj
  cases j with
  | zero=>simp only [List.getElem?_cons_zero,Option.some.injEq] at hj;subst hj;exact hc1
  | succ j=>simp at hj) (one_str _)
 have hrun':(Builtin.copy_ #[44,44] 3 #[.slice (some ⟨g,0,none⟩) n n,.slice (some ⟨b,off,none⟩) 1 cap]).run Tryz.prog w1=.ok (.int .i64 1) w2:=hrun
 clear hrun
 have hb2:Below g w w2:=hb1.grown hg2 (by rw [←hgv];exact hb1.size) (fun k hk=>by cases hk;omega)
 rw [splice_first n c h0] at hO2
 clear hO hb1 hc1 hg2
 go_wp2
 go_loopw [8] (fun i wr=>∃ (k:Nat),1≤k∧k≤n∧i=.int .i64 k∧Own wr g 1 (.slice (some ⟨g,0,none⟩) n n) n (List.replicate k (Value.string c)++List.replicate (n-k) (Value.string ⟨#[]⟩))∧Below g w wr) (fun i _=>n-(intOf i).toNat)
 case atStart=>exact ⟨1,by omega,h0,rfl,hO2,hb2⟩
 case round =>
  clear hO2 hb2 hrun'
  obtain ⟨k,hk0,hk,rfl,hO,hb⟩:=hrel
  by_cases hlt:k < n
  ·have hne:¬k=n:=by omega
   obtain ⟨w3,hrun,hO3,hg3⟩:=run_copy_Own (P:=Tryz.prog) 44 44 3 9 Tryz.underlying44 Tryz.sizeS9 hO.drew k (n-k) (n-k) ⟨g,0,none⟩ k n (List.replicate (Nat.min k (n-k)) (Value.string c)) (by rw [List.length_replicate]) (by rw [List.length_replicate];have h7:Nat.min k (n-k)≤n-k:=Nat.min_le_right k (n-k);generalize Nat.min k (n-k)=m at *;omega) (by
    intro j v hj
    obtain ⟨hj1,hj2⟩:=List.getElem?_eq_some_iff.1 hj
    rw [List.length_replicate] at hj1
    rw [List.getElem_replicate] at hj2
    have hjk:j < k:=Nat.lt_of_lt_of_le hj1 (Nat.min_le_left _ _)
    obtain ⟨_,_,_,hcv,_⟩:=hO.parts
    rw [Addr.add_lit]
    refine hcv j v ?_
    rw [List.getElem?_append_left (by rw [List.length_replicate];exact hjk),List.getElem?_replicate,if_pos hjk,hj2]) (one_rep _ _ rfl)
   rw [splice_more n k _ _ hk] at hO3
   rw [List.length_replicate,Nat.zero_add] at hrun
   have hm:Nat.min k (n-k)≤n-k:=Nat.min_le_right k (n-k)
   have hm1:1≤Nat.min k (n-k):=Nat.le_min.2 ⟨hk0,by omega⟩
   generalize Nat.min k (n-k)=m at *
   have hb3:Below g w w3:=hb.drew.grown hg3 (by have:=hb.size;rw [hgv] at this;exact this) (fun k hk=>by cases hk;omega)
   clear hO hb hg3
   go_wp2
   go_region
   go_wp2
   go_roundw
   case rel=>exact ⟨k+m,by omega,by omega,by go_num,hO3,hb3⟩
   case measure=>simp [intOf];omega
  ·obtain rfl:k=n:=by omega
   go_wp2
   go_ret
   refine ⟨_,rfl,?_,fun k hk=>by rw [hgv];exact (hO.lt k hk).1,hgv▸hb⟩
   have h2:=hO.slice
   rw [Nat.sub_self,List.replicate_zero,List.append_nil] at h2
   unfold StrsIn
   rw [List.length_replicate,List.map_replicate]
   exact h2
end Go.Proofs.YtafmbnafibahkaaGreat
