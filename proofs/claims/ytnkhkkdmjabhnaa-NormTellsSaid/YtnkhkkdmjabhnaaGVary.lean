/- Contracts of Print. -/
import Derived.Test.YtnkhkkdmjabhnaaGBase
import Derived.WalkKit
import Derived.ProofKit
import Derived.IntWalk
namespace Go.Proofs.Ytnkhkkdmjabhnaa
open Go
def vp (n:Nat):List UInt8:=if n < 128 then [UInt8.ofNat n] else UInt8.ofNat (n % 128+128)::vp (n / 128)
termination_by n
decreasing_by omega
theorem vp_small {n:Nat}(h:n < 128):vp n=[UInt8.ofNat n]:=by rw [vp,if_pos h]
theorem vp_great {n:Nat}(h:¬n < 128):vp n=UInt8.ofNat (n % 128+128)::vp (n / 128):=by rw [vp,if_neg h]
def val7:List UInt8→Nat
 | []=>0
 | b::l=>b.toNat % 128+128*val7 l
theorem toNat_ofNat {n:Nat}(h:n < 256):(UInt8.ofNat n).toNat=n:=by rw [UInt8.toNat_ofNat'];omega
theorem val7_vp (n:Nat):val7 (vp n)=n:=by
 induction n using Nat.strongRecOn with
 | ind n ih =>
  by_cases h:n < 128
  ·rw [vp_small h,val7,val7,toNat_ofNat (by omega)];omega
  ·rw [vp_great h,val7,ih (n / 128) (by omega),toNat_ofNat (by omega)];omega
theorem vp_form (n:Nat):∃ a b,vp n=a++[b]∧(∀ x∈a,128≤x.toNat)∧b.toNat < 128∧(a=[]∨b.toNat≠0):=by
 induction n using Nat.strongRecOn with
 | ind n ih =>
  by_cases h:n < 128
  ·exact ⟨[],UInt8.ofNat n,by rw [vp_small h];rfl,by simp,by rw [toNat_ofNat (by omega)];omega,.inl rfl⟩
  ·obtain ⟨a,b,e,h1,h2,h3⟩:=ih (n / 128) (by omega)
   refine ⟨UInt8.ofNat (n % 128+128)::a,b,by rw [vp_great h,e];rfl,?_,h2,.inr ?_⟩
   ·intro x hx
    rcases List.mem_cons.1 hx with rfl|hx
    ·rw [toNat_ofNat (by omega)];omega
    ·exact h1 x hx
   ·rcases h3 with rfl|h3
    ·intro h0
     have k:=val7_vp (n / 128)
     rw [e] at k
     simp only [List.nil_append,val7,h0] at k
     omega
    ·exact h3
theorem vp_len_le (n:Nat):∀ k,0 < k→n < 128 ^ k→(vp n).length≤k:=by
 induction n using Nat.strongRecOn with
 | ind n ih =>
  intro k hk hn
  by_cases h:n < 128
  ·rw [vp_small h];exact hk
  ·rw [vp_great h]
   match k,hk with
   | 1,_=>omega
   | k+2,_ =>
    have:=ih (n / 128) (by omega) (k+1) (by omega) (by rw [Nat.pow_succ] at hn;omega)
    simp only [List.length_cons];omega
theorem vp_len_10 {n:Nat}(h:n < 18446744073709551616):(vp n).length≤10:=vp_len_le n 10 (by decide) (Nat.lt_of_lt_of_le h (by decide))
def stopAt:List UInt8→Nat
 | []=>0
 | b::l=>if b.toNat < 128 then 0 else stopAt l+1
theorem stopAt_form (a:List UInt8)(b:UInt8)(r:List UInt8)(ha:∀ x∈a,128≤x.toNat)(hb:b.toNat < 128):stopAt (a++b::r)=a.length:=by
 induction a with
 | nil=>simp [stopAt,hb]
 | cons x a ih =>
  have hx:=ha x List.mem_cons_self
  simp only [List.cons_append,stopAt,List.length_cons]
  rw [if_neg (by omega),ih (fun y hy=>ha y (List.mem_cons_of_mem _ hy))]
def nextNum (l:List UInt8):Option (Nat×Nat) :=
 if stopAt l < min l.length 10 then
  if vp (val7 (l.take (stopAt l+1)) % 18446744073709551616)=l.take (stopAt l+1) then some (val7 (l.take (stopAt l+1)) % 18446744073709551616,stopAt l+1) else none
 else none
theorem nextNum_vp (n:Nat)(h:n < 18446744073709551616)(r:List UInt8):nextNum (vp n++r)=some (n,(vp n).length):=by
 obtain ⟨a,b,e,h1,h2,_⟩:=vp_form n
 have hl:=vp_len_10 h
 have hst:stopAt (vp n++r)=a.length:=by
  rw [e,List.append_assoc];exact stopAt_form a b r h1 h2
 have hlen:(vp n).length=a.length+1:=by rw [e];simp
 have ht:(vp n++r).take (a.length+1)=vp n:=by rw [←hlen];simp
 unfold nextNum
 rw [hst,ht,val7_vp,Nat.mod_eq_of_lt h]
 have hlt:a.length < min (vp n++r).length 10:=by rw [List.length_append];omega
 rw [if_pos hlt,if_pos rfl,hlen]
open Go Go.RowKit
def printB (n:Nat):ByteArray:=⟨(vp n).toArray⟩
theorem or_128 (m:Int)(_h:0≤m):bits .or .u8 (m % 256) 128=m % 128+128:=by
 have j:∀ a:Fin 256,bits .or .u8 ((a.val:Nat):Int) 128=((a.val % 128+128:Nat):Int):=by decide +kernel
 have j':=j ⟨(m % 256).toNat,by omega⟩
 simp only [] at j'
 have e1:(((m % 256).toNat:Nat):Int)=m % 256:=by omega
 rw [e1] at j'
 rw [j']
 omega
def vpI (n:Nat):List Int:=(vp n).map fun b=>(b.toNat:Int)
theorem vpI_small {n:Nat}(h:n < 128):vpI n=[(n:Int)]:=by
 unfold vpI
 rw [vp_small h]
 simp only [List.map_cons,List.map_nil]
 rw [toNat_ofNat (by omega)]
theorem vpI_great {n:Nat}(h:¬n < 128):vpI n=((n:Int) % 128+128)::vpI (n / 128):=by
 unfold vpI
 rw [vp_great h]
 simp only [List.map_cons]
 rw [toNat_ofNat (by omega)]
 congr 1
theorem strOfNums_vpI (n:Nat):strOfNums (vpI n)=printB n:=by
 unfold strOfNums printB vpI
 rw [List.map_map]
 congr 2
 conv=>rhs;rw [←List.map_id (vp n)]
 refine List.map_congr_left fun b _=>?_
 simp
theorem vpI_smallI {n:Int}(h0:0≤n)(h:n < 128):vpI n.toNat=[n]:=by
 rw [vpI_small (by omega)];congr 1;omega
theorem vpI_greatI {n:Int}(h0:128≤n):vpI n.toNat=(n % 128+128)::vpI (n / 128).toNat:=by
 rw [vpI_great (by omega)];congr 1
 ·omega
 ·congr 1;omega
theorem conv_take {P:Program}(w:World)(src e dst:TypeId)(hs:P.underlying src=some (.slice e))(he:P.underlying e=some (.int .u8))(hd:P.underlying dst=some .string)
  (xs ys:List Int) (c:Nat) (T:TypeId) :
  (convert src dst (.slice (some ⟨w.heap.size,0,none⟩) xs.length c)).run P (w.alloc (.cells ((xs++ys).map (Value.int .u8)).toArray T)) =
   .ok (.string (strOfNums xs)) (w.alloc (.cells ((xs++ys).map (Value.int .u8)).toArray T)):=by
 refine run_convert_bytes_arg _ src e hs he w.heap.size 0 xs.length c xs rfl (fun i hi=>?_) dst hd
 simp [go_sem,hi,List.getElem?_append_left]
theorem vconv1 (w:World)(T:TypeId)(a:Int)(b:Nat)(hb:b=w.heap.size) :
  (convert 42 9 (.slice (some ⟨b,0,none⟩) 1 1)).run Try.prog
   (w.alloc (.cells #[.int .u8 a] T)) =
   .ok (.string (strOfNums [a])) (w.alloc (.cells #[.int .u8 a] T)):=by
 subst hb
 exact conv_take w 42 5 9 Try.underlying42 Try.underlying5 Try.underlying9 [a] [] 1 T
theorem not_i64 (n:Int)(h0 : -9223372036854775808≤n)(h1:n≤9223372036854775807):bits .xor .i64 (-1) n = -1-n:=by
 have ha:BitVec.ofInt 64 (-1)=BitVec.allOnes 64:=by decide
 show IntKind.i64.wrap ((BitVec.ofInt 64 (-1) ^^^ BitVec.ofInt 64 n).toNat:Int)=_
 rw [ha,BitVec.allOnes_xor,BitVec.toNat_not,BitVec.toNat_ofInt,IntKind.wrap_i64]
 omega
theorem and_1 (n:Nat)(h:n < 18446744073709551616):bits .and .u64 (n:Int) 1=((n % 2:Nat):Int):=by
 have k:=bits_and_u64_nat n 1 h (by omega)
 rw [Nat.and_one_is_mod] at k
 exact k
theorem or_1 (n:Nat)(h:2*n < 18446744073709551616):bits .or .u64 ((2*n:Nat):Int) 1=((2*n+1:Nat):Int):=by
 have k:=bits_or_u64_nat (2*n) 1 h (by omega)
 have j:=Nat.two_pow_add_eq_or_of_lt (i:=1) (b:=1) (by omega) n
 rw [Nat.pow_one] at j
 rw [←j] at k
 exact k
def foldI (n:Int):Int:=if n < 0 then -2*n-1 else 2*n
def openI (n:Nat):Int:=if n % 2=1 then -((n / 2:Nat):Int)-1 else ((n / 2:Nat):Int)
theorem foldI_range (n:Int)(h0 : -9223372036854775808≤n)(h1:n≤9223372036854775807):0≤foldI n∧foldI n < 18446744073709551616:=by unfold foldI;split <;> omega
theorem open_fold (n:Int):openI (foldI n).toNat=n:=by unfold openI foldI;split <;> split <;> omega
theorem fold_calls (n:Int)(h0 : -9223372036854775808≤n)(h1:n≤9223372036854775807)(w:World):Calls Try.prog 50 #[.int .i64 n] w fun e w'=>e=.returned (.int .u64 (foldI n))∧w=w':=by
 by_cases hn:n < 0
 ·have HX:=Lib.hid (not_i64 n h0 h1)
  have HF:=Lib.hid (show foldI n = -2*n-1 by unfold foldI;rw [if_pos hn])
  have HH:=Lib.hid h0
  clear h0 h1
  have hsg:IntKind.i64.signed=true:=rfl
  go_enter Try.func50,Try.ntmps50
  go_wp2
  go_ret
  refine ⟨ret_int ?_,rfl⟩
  have h0:=HH.out
  rw [HX.out,HF.out]
  rw [IntKind.wrap_u64,IntKind.wrap_u64,IntKind.wrap_u64];omega
 ·have HF:=Lib.hid (show foldI n=2*n by unfold foldI;rw [if_neg hn])
  have HH:=Lib.hid h1
  have hp:0≤n:=by omega
  clear h0 h1 hn
  go_enter Try.func50,Try.ntmps50
  go_wp2
  go_ret
  refine ⟨ret_int ?_,rfl⟩
  have h0:=HH.out
  rw [HF.out,IntKind.wrap_u64,IntKind.wrap_u64]
  omega
theorem ref_fold_calls (n:Int)(h0 : -9223372036854775808≤n)(h1:n≤9223372036854775807)(w:World):Calls Try.prog 28 #[.int .i64 n] w fun e w'=>e=.returned (.int .u64 (foldI n))∧w=w':=by
 by_cases hn:n < 0
 ·have HX:=Lib.hid (not_i64 n h0 h1)
  have HF:=Lib.hid (show foldI n = -2*n-1 by unfold foldI;rw [if_pos hn])
  have HH:=Lib.hid h0
  clear h0 h1
  have hsg:IntKind.i64.signed=true:=rfl
  go_enter Try.func28,Try.ntmps28
  go_wp2
  go_ret
  refine ⟨ret_int ?_,rfl⟩
  have h0:=HH.out
  rw [HX.out,HF.out]
  have k:=or_1 (-1-n).toNat (by omega)
  have e1:IntKind.u64.wrap (IntKind.u64.wrap (-1-n)*2)=((2*(-1-n).toNat:Nat):Int):=by rw [IntKind.wrap_u64,IntKind.wrap_u64];omega
  rw [e1,k];omega
 ·have HF:=Lib.hid (show foldI n=2*n by unfold foldI;rw [if_neg hn])
  have HH:=Lib.hid h1
  have hp:0≤n:=by omega
  clear h0 h1 hn
  go_enter Try.func28,Try.ntmps28
  go_wp2
  go_ret
  refine ⟨ret_int ?_,rfl⟩
  have h0:=HH.out
  rw [HF.out,IntKind.wrap_u64,IntKind.wrap_u64]
  omega
theorem conv10_1 (w:World)(T:TypeId)(a b c d e f g h i j:Int) :
  (convert 42 9 (.slice (some ⟨w.heap.size,0,none⟩) 1 10)).run Try.prog (w.alloc (.cells #[.int .u8 a,.int .u8 b,.int .u8 c,.int .u8 d,.int .u8 e,.int .u8 f,.int .u8 g,.int .u8 h,.int .u8 i,.int .u8 j] T)) =
   .ok (.string (strOfNums [a])) (w.alloc (.cells #[.int .u8 a,.int .u8 b,.int .u8 c,.int .u8 d,.int .u8 e,.int .u8 f,.int .u8 g,.int .u8 h,.int .u8 i,.int .u8 j] T)) :=
 conv_take w 42 5 9 Try.underlying42 Try.underlying5 Try.underlying9 [a] [b,c,d,e,f,g,h,i,j] 10 T
theorem conv10_2 (w:World)(T:TypeId)(a b c d e f g h i j:Int) :
  (convert 42 9 (.slice (some ⟨w.heap.size,0,none⟩) 2 10)).run Try.prog (w.alloc (.cells #[.int .u8 a,.int .u8 b,.int .u8 c,.int .u8 d,.int .u8 e,.int .u8 f,.int .u8 g,.int .u8 h,.int .u8 i,.int .u8 j] T)) =
   .ok (.string (strOfNums [a,b])) (w.alloc (.cells #[.int .u8 a,.int .u8 b,.int .u8 c,.int .u8 d,.int .u8 e,.int .u8 f,.int .u8 g,.int .u8 h,.int .u8 i,.int .u8 j] T)) :=
 conv_take w 42 5 9 Try.underlying42 Try.underlying5 Try.underlying9 [a,b] [c,d,e,f,g,h,i,j] 10 T
theorem conv10_3 (w:World)(T:TypeId)(a b c d e f g h i j:Int) :
  (convert 42 9 (.slice (some ⟨w.heap.size,0,none⟩) 3 10)).run Try.prog (w.alloc (.cells #[.int .u8 a,.int .u8 b,.int .u8 c,.int .u8 d,.int .u8 e,.int .u8 f,.int .u8 g,.int .u8 h,.int .u8 i,.int .u8 j] T)) =
   .ok (.string (strOfNums [a,b,c])) (w.alloc (.cells #[.int .u8 a,.int .u8 b,.int .u8 c,.int .u8 d,.int .u8 e,.int .u8 f,.int .u8 g,.int .u8 h,.int .u8 i,.int .u8 j] T)) :=
 conv_take w 42 5 9 Try.underlying42 Try.underlying5 Try.underlying9 [a,b,c] [d,e,f,g,h,i,j] 10 T
theorem conv10_4 (w:World)(T:TypeId)(a b c d e f g h i j:Int) :
  (convert 42 9 (.slice (some ⟨w.heap.size,0,none⟩) 4 10)).run Try.prog (w.alloc (.cells #[.int .u8 a,.int .u8 b,.int .u8 c,.int .u8 d,.int .u8 e,.int .u8 f,.int .u8 g,.int .u8 h,.int .u8 i,.int .u8 j] T)) =
   .ok (.string (strOfNums [a,b,c,d])) (w.alloc (.cells #[.int .u8 a,.int .u8 b,.int .u8 c,.int .u8 d,.int .u8 e,.int .u8 f,.int .u8 g,.int .u8 h,.int .u8 i,.int .u8 j] T)) :=
 conv_take w 42 5 9 Try.underlying42 Try.underlying5 Try.underlying9 [a,b,c,d] [e,f,g,h,i,j] 10 T
theorem conv10_5 (w:World)(T:TypeId)(a b c d e f g h i j:Int) :
  (convert 42 9 (.slice (some ⟨w.heap.size,0,none⟩) 5 10)).run Try.prog (w.alloc (.cells #[.int .u8 a,.int .u8 b,.int .u8 c,.int .u8 d,.int .u8 e,.int .u8 f,.int .u8 g,.int .u8 h,.int .u8 i,.int .u8 j] T)) =
   .ok (.string (strOfNums [a,b,c,d,e])) (w.alloc (.cells #[.int .u8 a,.int .u8 b,.int .u8 c,.int .u8 d,.int .u8 e,.int .u8 f,.int .u8 g,.int .u8 h,.int .u8 i,.int .u8 j] T)) :=
 conv_take w 42 5 9 Try.underlying42 Try.underlying5 Try.underlying9 [a,b,c,d,e] [f,g,h,i,j] 10 T
theorem conv10_6 (w:World)(T:TypeId)(a b c d e f g h i j:Int) :
  (convert 42 9 (.slice (some ⟨w.heap.size,0,none⟩) 6 10)).run Try.prog (w.alloc (.cells #[.int .u8 a,.int .u8 b,.int .u8 c,.int .u8 d,.int .u8 e,.int .u8 f,.int .u8 g,.int .u8 h,.int .u8 i,.int .u8 j] T)) =
   .ok (.string (strOfNums [a,b,c,d,e,f])) (w.alloc (.cells #[.int .u8 a,.int .u8 b,.int .u8 c,.int .u8 d,.int .u8 e,.int .u8 f,.int .u8 g,.int .u8 h,.int .u8 i,.int .u8 j] T)) :=
 conv_take w 42 5 9 Try.underlying42 Try.underlying5 Try.underlying9 [a,b,c,d,e,f] [g,h,i,j] 10 T
theorem conv10_7 (w:World)(T:TypeId)(a b c d e f g h i j:Int) :
  (convert 42 9 (.slice (some ⟨w.heap.size,0,none⟩) 7 10)).run Try.prog (w.alloc (.cells #[.int .u8 a,.int .u8 b,.int .u8 c,.int .u8 d,.int .u8 e,.int .u8 f,.int .u8 g,.int .u8 h,.int .u8 i,.int .u8 j] T)) =
   .ok (.string (strOfNums [a,b,c,d,e,f,g])) (w.alloc (.cells #[.int .u8 a,.int .u8 b,.int .u8 c,.int .u8 d,.int .u8 e,.int .u8 f,.int .u8 g,.int .u8 h,.int .u8 i,.int .u8 j] T)) :=
 conv_take w 42 5 9 Try.underlying42 Try.underlying5 Try.underlying9 [a,b,c,d,e,f,g] [h,i,j] 10 T
theorem conv10_8 (w:World)(T:TypeId)(a b c d e f g h i j:Int) :
  (convert 42 9 (.slice (some ⟨w.heap.size,0,none⟩) 8 10)).run Try.prog (w.alloc (.cells #[.int .u8 a,.int .u8 b,.int .u8 c,.int .u8 d,.int .u8 e,.int .u8 f,.int .u8 g,.int .u8 h,.int .u8 i,.int .u8 j] T)) =
   .ok (.string (strOfNums [a,b,c,d,e,f,g,h])) (w.alloc (.cells #[.int .u8 a,.int .u8 b,.int .u8 c,.int .u8 d,.int .u8 e,.int .u8 f,.int .u8 g,.int .u8 h,.int .u8 i,.int .u8 j] T)) :=
 conv_take w 42 5 9 Try.underlying42 Try.underlying5 Try.underlying9 [a,b,c,d,e,f,g,h] [i,j] 10 T
theorem conv10_9 (w:World)(T:TypeId)(a b c d e f g h i j:Int) :
  (convert 42 9 (.slice (some ⟨w.heap.size,0,none⟩) 9 10)).run Try.prog (w.alloc (.cells #[.int .u8 a,.int .u8 b,.int .u8 c,.int .u8 d,.int .u8 e,.int .u8 f,.int .u8 g,.int .u8 h,.int .u8 i,.int .u8 j] T)) =
   .ok (.string (strOfNums [a,b,c,d,e,f,g,h,i])) (w.alloc (.cells #[.int .u8 a,.int .u8 b,.int .u8 c,.int .u8 d,.int .u8 e,.int .u8 f,.int .u8 g,.int .u8 h,.int .u8 i,.int .u8 j] T)) :=
 conv_take w 42 5 9 Try.underlying42 Try.underlying5 Try.underlying9 [a,b,c,d,e,f,g,h,i] [j] 10 T
theorem conv10_10 (w:World)(T:TypeId)(a b c d e f g h i j:Int) :
  (convert 42 9 (.slice (some ⟨w.heap.size,0,none⟩) 10 10)).run Try.prog (w.alloc (.cells #[.int .u8 a,.int .u8 b,.int .u8 c,.int .u8 d,.int .u8 e,.int .u8 f,.int .u8 g,.int .u8 h,.int .u8 i,.int .u8 j] T)) =
   .ok (.string (strOfNums [a,b,c,d,e,f,g,h,i,j])) (w.alloc (.cells #[.int .u8 a,.int .u8 b,.int .u8 c,.int .u8 d,.int .u8 e,.int .u8 f,.int .u8 g,.int .u8 h,.int .u8 i,.int .u8 j] T)) :=
 conv_take w 42 5 9 Try.underlying42 Try.underlying5 Try.underlying9 [a,b,c,d,e,f,g,h,i,j] [] 10 T
set_option maxHeartbeats 400000 in
theorem print_1 (n:Int)(h0:0≤n)(hz:n < 128):Gives Try.prog 49 #[.int .u64 n] (.string (printB n.toNat)):=by
 intro w
 obtain ⟨hb,hB⟩:=start w
 have HE:=Lib.hid (show strOfNums [n]=printB n.toNat from by
  rw [←strOfNums_vpI]
  rw [vpI_smallI h0 hz]
  skip)
 have hc:=conv10_1
 go_enter Try.func49,Try.ntmps49
 go_wp2
 refine wp_loop_rounds 10 ?_
 rw [rounds_succ]
 go_wp2
 go_ret
 exact ⟨ret_str HE.out,by go_grown⟩
set_option maxHeartbeats 400000 in
theorem print_2 (n:Int)(h0:0≤n / 128)(h1:128≤n)(hz:n / 128 < 128):Gives Try.prog 49 #[.int .u64 n] (.string (printB n.toNat)):=by
 intro w
 obtain ⟨hb,hB⟩:=start w
 have HE:=Lib.hid (show strOfNums [bits .or .u8 (n % 256) 128,n / 128]=printB n.toNat from by
  have g1:=or_128 (n) (by omega)
  rw [←strOfNums_vpI]
  rw [vpI_greatI h1]
  rw [vpI_smallI h0 hz]
  rw [g1]
  skip)
 have hc:=conv10_2
 go_enter Try.func49,Try.ntmps49
 go_wp2
 refine wp_loop_rounds 10 ?_
 rw [rounds_succ]
 go_wp2
 rw [rounds_succ]
 go_wp2
 go_ret
 exact ⟨ret_str HE.out,by go_grown⟩
set_option maxHeartbeats 400000 in
theorem print_3 (n:Int)(h0:0≤n / 128 / 128)(h1:128≤n)(h2:128≤n / 128)(hz:n / 128 / 128 < 128):Gives Try.prog 49 #[.int .u64 n] (.string (printB n.toNat)):=by
 intro w
 obtain ⟨hb,hB⟩:=start w
 have HE:=Lib.hid (show strOfNums [bits .or .u8 (n % 256) 128,bits .or .u8 (n / 128 % 256) 128,n / 128 / 128]=printB n.toNat from by
  have g1:=or_128 (n) (by omega)
  have g2:=or_128 (n / 128) (by omega)
  rw [←strOfNums_vpI]
  rw [vpI_greatI h1]
  rw [vpI_greatI h2]
  rw [vpI_smallI h0 hz]
  rw [g1,g2]
  skip)
 have hc:=conv10_3
 go_enter Try.func49,Try.ntmps49
 go_wp2
 refine wp_loop_rounds 10 ?_
 rw [rounds_succ]
 go_wp2
 rw [rounds_succ]
 go_wp2
 rw [rounds_succ]
 go_wp2
 go_ret
 exact ⟨ret_str HE.out,by go_grown⟩
set_option maxHeartbeats 400000 in
theorem print_4 (n:Int)(h0:0≤n / 128 / 128 / 128)(h1:128≤n)(h2:128≤n / 128)(h3:128≤n / 128 / 128)(hz:n / 128 / 128 / 128 < 128):Gives Try.prog 49 #[.int .u64 n] (.string (printB n.toNat)):=by
 intro w
 obtain ⟨hb,hB⟩:=start w
 have HE:=Lib.hid (show strOfNums [bits .or .u8 (n % 256) 128,bits .or .u8 (n / 128 % 256) 128,bits .or .u8 (n / 128 / 128 % 256) 128,n / 128 / 128 / 128]=printB n.toNat from by
  have g1:=or_128 (n) (by omega)
  have g2:=or_128 (n / 128) (by omega)
  have g3:=or_128 (n / 128 / 128) (by omega)
  rw [←strOfNums_vpI]
  rw [vpI_greatI h1]
  rw [vpI_greatI h2]
  rw [vpI_greatI h3]
  rw [vpI_smallI h0 hz]
  rw [g1,g2,g3]
  skip)
 have hc:=conv10_4
 go_enter Try.func49,Try.ntmps49
 go_wp2
 refine wp_loop_rounds 10 ?_
 rw [rounds_succ]
 go_wp2
 rw [rounds_succ]
 go_wp2
 rw [rounds_succ]
 go_wp2
 rw [rounds_succ]
 go_wp2
 go_ret
 exact ⟨ret_str HE.out,by go_grown⟩
set_option maxHeartbeats 400000 in
theorem print_5 (n:Int)(h0:0≤n / 128 / 128 / 128 / 128)(h1:128≤n)(h2:128≤n / 128)(h3:128≤n / 128 / 128)(h4:128≤n / 128 / 128 / 128)(hz:n / 128 / 128 / 128 / 128 < 128):Gives Try.prog 49 #[.int .u64 n] (.string (printB n.toNat)):=by
 intro w
 obtain ⟨hb,hB⟩:=start w
 have HE:=Lib.hid (show strOfNums [bits .or .u8 (n % 256) 128,bits .or .u8 (n / 128 % 256) 128,bits .or .u8 (n / 128 / 128 % 256) 128,bits .or .u8 (n / 128 / 128 / 128 % 256) 128,n / 128 / 128 / 128 / 128]=printB n.toNat from by
  have g1:=or_128 (n) (by omega)
  have g2:=or_128 (n / 128) (by omega)
  have g3:=or_128 (n / 128 / 128) (by omega)
  have g4:=or_128 (n / 128 / 128 / 128) (by omega)
  rw [←strOfNums_vpI]
  rw [vpI_greatI h1]
  rw [vpI_greatI h2]
  rw [vpI_greatI h3]
  rw [vpI_greatI h4]
  rw [vpI_smallI h0 hz]
  rw [g1,g2,g3,g4]
  skip)
 have hc:=conv10_5
 go_enter Try.func49,Try.ntmps49
 go_wp2
 refine wp_loop_rounds 10 ?_
 rw [rounds_succ]
 go_wp2
 rw [rounds_succ]
 go_wp2
 rw [rounds_succ]
 go_wp2
 rw [rounds_succ]
 go_wp2
 rw [rounds_succ]
 go_wp2
 go_ret
 exact ⟨ret_str HE.out,by go_grown⟩
set_option maxHeartbeats 400000 in
theorem print_6 (n:Int)(h0:0≤n / 128 / 128 / 128 / 128 / 128)(h1:128≤n)(h2:128≤n / 128)(h3:128≤n / 128 / 128)(h4:128≤n / 128 / 128 / 128)(h5:128≤n / 128 / 128 / 128 / 128)(hz:n / 128 / 128 / 128 / 128 / 128 < 128):Gives Try.prog 49 #[.int .u64 n] (.string (printB n.toNat)):=by
 intro w
 obtain ⟨hb,hB⟩:=start w
 have HE:=Lib.hid (show strOfNums [bits .or .u8 (n % 256) 128,bits .or .u8 (n / 128 % 256) 128,bits .or .u8 (n / 128 / 128 % 256) 128,bits .or .u8 (n / 128 / 128 / 128 % 256) 128,bits .or .u8 (n / 128 / 128 / 128 / 128 % 256) 128,n / 128 / 128 / 128 / 128 / 128]=printB n.toNat from by
  have g1:=or_128 (n) (by omega)
  have g2:=or_128 (n / 128) (by omega)
  have g3:=or_128 (n / 128 / 128) (by omega)
  have g4:=or_128 (n / 128 / 128 / 128) (by omega)
  have g5:=or_128 (n / 128 / 128 / 128 / 128) (by omega)
  rw [←strOfNums_vpI]
  rw [vpI_greatI h1]
  rw [vpI_greatI h2]
  rw [vpI_greatI h3]
  rw [vpI_greatI h4]
  rw [vpI_greatI h5]
  rw [vpI_smallI h0 hz]
  rw [g1,g2,g3,g4,g5]
  skip)
 have hc:=conv10_6
 go_enter Try.func49,Try.ntmps49
 go_wp2
 refine wp_loop_rounds 10 ?_
 rw [rounds_succ]
 go_wp2
 rw [rounds_succ]
 go_wp2
 rw [rounds_succ]
 go_wp2
 rw [rounds_succ]
 go_wp2
 rw [rounds_succ]
 go_wp2
 rw [rounds_succ]
 go_wp2
 go_ret
 exact ⟨ret_str HE.out,by go_grown⟩
set_option maxHeartbeats 400000 in
theorem print_7 (n:Int)(h0:0≤n / 128 / 128 / 128 / 128 / 128 / 128)(h1:128≤n)(h2:128≤n / 128)(h3:128≤n / 128 / 128)(h4:128≤n / 128 / 128 / 128)(h5:128≤n / 128 / 128 / 128 / 128)(h6:128≤n / 128 / 128 / 128 / 128 / 128)(hz:n / 128 / 128 / 128 / 128 / 128 / 128 < 128):Gives Try.prog 49 #[.int .u64 n] (.string (printB n.toNat)):=by
 intro w
 obtain ⟨hb,hB⟩:=start w
 have HE:=Lib.hid (show strOfNums [bits .or .u8 (n % 256) 128,bits .or .u8 (n / 128 % 256) 128,bits .or .u8 (n / 128 / 128 % 256) 128,bits .or .u8 (n / 128 / 128 / 128 % 256) 128,bits .or .u8 (n / 128 / 128 / 128 / 128 % 256) 128,bits .or .u8 (n / 128 / 128 / 128 / 128 / 128 % 256) 128,n / 128 / 128 / 128 / 128 / 128 / 128]=printB n.toNat from by
  have g1:=or_128 (n) (by omega)
  have g2:=or_128 (n / 128) (by omega)
  have g3:=or_128 (n / 128 / 128) (by omega)
  have g4:=or_128 (n / 128 / 128 / 128) (by omega)
  have g5:=or_128 (n / 128 / 128 / 128 / 128) (by omega)
  have g6:=or_128 (n / 128 / 128 / 128 / 128 / 128) (by omega)
  rw [←strOfNums_vpI]
  rw [vpI_greatI h1]
  rw [vpI_greatI h2]
  rw [vpI_greatI h3]
  rw [vpI_greatI h4]
  rw [vpI_greatI h5]
  rw [vpI_greatI h6]
  rw [vpI_smallI h0 hz]
  rw [g1,g2,g3,g4,g5,g6]
  skip)
 have hc:=conv10_7
 go_enter Try.func49,Try.ntmps49
 go_wp2
 refine wp_loop_rounds 10 ?_
 rw [rounds_succ]
 go_wp2
 rw [rounds_succ]
 go_wp2
 rw [rounds_succ]
 go_wp2
 rw [rounds_succ]
 go_wp2
 rw [rounds_succ]
 go_wp2
 rw [rounds_succ]
 go_wp2
 rw [rounds_succ]
 go_wp2
 go_ret
 exact ⟨ret_str HE.out,by go_grown⟩
set_option maxHeartbeats 400000 in
theorem print_8 (n:Int)(h0:0≤n / 128 / 128 / 128 / 128 / 128 / 128 / 128)(h1:128≤n)(h2:128≤n / 128)(h3:128≤n / 128 / 128)(h4:128≤n / 128 / 128 / 128)(h5:128≤n / 128 / 128 / 128 / 128)(h6:128≤n / 128 / 128 / 128 / 128 / 128)(h7:128≤n / 128 / 128 / 128 / 128 / 128 / 128)(hz:n / 128 / 128 / 128 / 128 / 128 / 128 / 128 < 128):Gives Try.prog 49 #[.int .u64 n] (.string (printB n.toNat)):=by
 intro w
 obtain ⟨hb,hB⟩:=start w
 have HE:=Lib.hid (show strOfNums [bits .or .u8 (n % 256) 128,bits .or .u8 (n / 128 % 256) 128,bits .or .u8 (n / 128 / 128 % 256) 128,bits .or .u8 (n / 128 / 128 / 128 % 256) 128,bits .or .u8 (n / 128 / 128 / 128 / 128 % 256) 128,bits .or .u8 (n / 128 / 128 / 128 / 128 / 128 % 256) 128,bits .or .u8 (n / 128 / 128 / 128 / 128 / 128 / 128 % 256) 128,n / 128 / 128 / 128 / 128 / 128 / 128 / 128]=printB n.toNat from by
  have g1:=or_128 (n) (by omega)
  have g2:=or_128 (n / 128) (by omega)
  have g3:=or_128 (n / 128 / 128) (by omega)
  have g4:=or_128 (n / 128 / 128 / 128) (by omega)
  have g5:=or_128 (n / 128 / 128 / 128 / 128) (by omega)
  have g6:=or_128 (n / 128 / 128 / 128 / 128 / 128) (by omega)
  have g7:=or_128 (n / 128 / 128 / 128 / 128 / 128 / 128) (by omega)
  rw [←strOfNums_vpI]
  rw [vpI_greatI h1]
  rw [vpI_greatI h2]
  rw [vpI_greatI h3]
  rw [vpI_greatI h4]
  rw [vpI_greatI h5]
  rw [vpI_greatI h6]
  rw [vpI_greatI h7]
  rw [vpI_smallI h0 hz]
  rw [g1,g2,g3,g4,g5,g6,g7]
  skip)
 have hc:=conv10_8
 go_enter Try.func49,Try.ntmps49
 go_wp2
 refine wp_loop_rounds 10 ?_
 rw [rounds_succ]
 go_wp2
 rw [rounds_succ]
 go_wp2
 rw [rounds_succ]
 go_wp2
 rw [rounds_succ]
 go_wp2
 rw [rounds_succ]
 go_wp2
 rw [rounds_succ]
 go_wp2
 rw [rounds_succ]
 go_wp2
 rw [rounds_succ]
 go_wp2
 go_ret
 exact ⟨ret_str HE.out,by go_grown⟩
set_option maxHeartbeats 400000 in
theorem print_9 (n:Int)(h0:0≤n / 128 / 128 / 128 / 128 / 128 / 128 / 128 / 128)(h1:128≤n)(h2:128≤n / 128)(h3:128≤n / 128 / 128)(h4:128≤n / 128 / 128 / 128)(h5:128≤n / 128 / 128 / 128 / 128)(h6:128≤n / 128 / 128 / 128 / 128 / 128)(h7:128≤n / 128 / 128 / 128 / 128 / 128 / 128)(h8:128≤n / 128 / 128 / 128 / 128 / 128 / 128 / 128)(hz:n / 128 / 128 / 128 / 128 / 128 / 128 / 128 / 128 < 128):Gives Try.prog 49 #[.int .u64 n] (.string (printB n.toNat)):=by
 intro w
 obtain ⟨hb,hB⟩:=start w
 have HE:=Lib.hid (show strOfNums [bits .or .u8 (n % 256) 128,bits .or .u8 (n / 128 % 256) 128,bits .or .u8 (n / 128 / 128 % 256) 128,bits .or .u8 (n / 128 / 128 / 128 % 256) 128,bits .or .u8 (n / 128 / 128 / 128 / 128 % 256) 128,bits .or .u8 (n / 128 / 128 / 128 / 128 / 128 % 256) 128,bits .or .u8 (n / 128 / 128 / 128 / 128 / 128 / 128 % 256) 128,bits .or .u8 (n / 128 / 128 / 128 / 128 / 128 / 128 / 128 % 256) 128,n / 128 / 128 / 128 / 128 / 128 / 128 / 128 / 128]=printB n.toNat from by
  have g1:=or_128 (n) (by omega)
  have g2:=or_128 (n / 128) (by omega)
  have g3:=or_128 (n / 128 / 128) (by omega)
  have g4:=or_128 (n / 128 / 128 / 128) (by omega)
  have g5:=or_128 (n / 128 / 128 / 128 / 128) (by omega)
  have g6:=or_128 (n / 128 / 128 / 128 / 128 / 128) (by omega)
  have g7:=or_128 (n / 128 / 128 / 128 / 128 / 128 / 128) (by omega)
  have g8:=or_128 (n / 128 / 128 / 128 / 128 / 128 / 128 / 128) (by omega)
  rw [←strOfNums_vpI]
  rw [vpI_greatI h1]
  rw [vpI_greatI h2]
  rw [vpI_greatI h3]
  rw [vpI_greatI h4]
  rw [vpI_greatI h5]
  rw [vpI_greatI h6]
  rw [vpI_greatI h7]
  rw [vpI_greatI h8]
  rw [vpI_smallI h0 hz]
  rw [g1,g2,g3,g4,g5,g6,g7,g8]
  skip)
 have hc:=conv10_9
 go_enter Try.func49,Try.ntmps49
 go_wp2
 refine wp_loop_rounds 10 ?_
 rw [rounds_succ]
 go_wp2
 rw [rounds_succ]
 go_wp2
 rw [rounds_succ]
 go_wp2
 rw [rounds_succ]
 go_wp2
 rw [rounds_succ]
 go_wp2
 rw [rounds_succ]
 go_wp2
 rw [rounds_succ]
 go_wp2
 rw [rounds_succ]
 go_wp2
 rw [rounds_succ]
 go_wp2
 go_ret
 exact ⟨ret_str HE.out,by go_grown⟩
set_option maxHeartbeats 400000 in
theorem print_10 (n:Int)(h0:0≤n / 128 / 128 / 128 / 128 / 128 / 128 / 128 / 128 / 128)(h1:128≤n)(h2:128≤n / 128)(h3:128≤n / 128 / 128)(h4:128≤n / 128 / 128 / 128)(h5:128≤n / 128 / 128 / 128 / 128)(h6:128≤n / 128 / 128 / 128 / 128 / 128)(h7:128≤n / 128 / 128 / 128 / 128 / 128 / 128)(h8:128≤n / 128 / 128 / 128 / 128 / 128 / 128 / 128)(h9:128≤n / 128 / 128 / 128 / 128 / 128 / 128 / 128 / 128)(hz:n / 128 / 128 / 128 / 128 / 128 / 128 / 128 / 128 / 128 < 128):Gives Try.prog 49 #[.int .u64 n] (.string (printB n.toNat)):=by
 intro w
 obtain ⟨hb,hB⟩:=start w
 have HE:=Lib.hid (show strOfNums [bits .or .u8 (n % 256) 128,bits .or .u8 (n / 128 % 256) 128,bits .or .u8 (n / 128 / 128 % 256) 128,bits .or .u8 (n / 128 / 128 / 128 % 256) 128,bits .or .u8 (n / 128 / 128 / 128 / 128 % 256) 128,bits .or .u8 (n / 128 / 128 / 128 / 128 / 128 % 256) 128,bits .or .u8 (n / 128 / 128 / 128 / 128 / 128 / 128 % 256) 128,bits .or .u8 (n / 128 / 128 / 128 / 128 / 128 / 128 / 128 % 256) 128,bits .or .u8 (n / 128 / 128 / 128 / 128 / 128 / 128 / 128 / 128 % 256) 128,n / 128 / 128 / 128 / 128 / 128 / 128 / 128 / 128 / 128]=printB n.toNat from by
  have g1:=or_128 (n) (by omega)
  have g2:=or_128 (n / 128) (by omega)
  have g3:=or_128 (n / 128 / 128) (by omega)
  have g4:=or_128 (n / 128 / 128 / 128) (by omega)
  have g5:=or_128 (n / 128 / 128 / 128 / 128) (by omega)
  have g6:=or_128 (n / 128 / 128 / 128 / 128 / 128) (by omega)
  have g7:=or_128 (n / 128 / 128 / 128 / 128 / 128 / 128) (by omega)
  have g8:=or_128 (n / 128 / 128 / 128 / 128 / 128 / 128 / 128) (by omega)
  have g9:=or_128 (n / 128 / 128 / 128 / 128 / 128 / 128 / 128 / 128) (by omega)
  rw [←strOfNums_vpI]
  rw [vpI_greatI h1]
  rw [vpI_greatI h2]
  rw [vpI_greatI h3]
  rw [vpI_greatI h4]
  rw [vpI_greatI h5]
  rw [vpI_greatI h6]
  rw [vpI_greatI h7]
  rw [vpI_greatI h8]
  rw [vpI_greatI h9]
  rw [vpI_smallI h0 hz]
  rw [g1,g2,g3,g4,g5,g6,g7,g8,g9]
  skip)
 have hc:=conv10_10
 go_enter Try.func49,Try.ntmps49
 go_wp2
 refine wp_loop_rounds 10 ?_
 rw [rounds_succ]
 go_wp2
 rw [rounds_succ]
 go_wp2
 rw [rounds_succ]
 go_wp2
 rw [rounds_succ]
 go_wp2
 rw [rounds_succ]
 go_wp2
 rw [rounds_succ]
 go_wp2
 rw [rounds_succ]
 go_wp2
 rw [rounds_succ]
 go_wp2
 rw [rounds_succ]
 go_wp2
 rw [rounds_succ]
 go_wp2
 go_ret
 exact ⟨ret_str HE.out,by go_grown⟩
theorem print_calls (n:Nat)(h:n < 18446744073709551616):Gives Try.prog 49 #[.int .u64 n] (.string (printB n)):=by
 have e:printB n=printB (n:Int).toNat:=by rw [Int.toNat_natCast]
 rw [e]
 generalize hm:(n:Int)=m
 have hh:m < 18446744073709551616:=by omega
 have hp:0≤m:=by omega
 clear hm e h
 by_cases z1:m < 128
 ·exact print_1 m (by omega)  z1
 by_cases z2:m / 128 < 128
 ·exact print_2 m (by omega) (by omega) z2
 by_cases z3:m / 128 / 128 < 128
 ·exact print_3 m (by omega) (by omega) (by omega) z3
 by_cases z4:m / 128 / 128 / 128 < 128
 ·exact print_4 m (by omega) (by omega) (by omega) (by omega) z4
 by_cases z5:m / 128 / 128 / 128 / 128 < 128
 ·exact print_5 m (by omega) (by omega) (by omega) (by omega) (by omega) z5
 by_cases z6:m / 128 / 128 / 128 / 128 / 128 < 128
 ·exact print_6 m (by omega) (by omega) (by omega) (by omega) (by omega) (by omega) z6
 by_cases z7:m / 128 / 128 / 128 / 128 / 128 / 128 < 128
 ·exact print_7 m (by omega) (by omega) (by omega) (by omega) (by omega) (by omega) (by omega) z7
 by_cases z8:m / 128 / 128 / 128 / 128 / 128 / 128 / 128 < 128
 ·exact print_8 m (by omega) (by omega) (by omega) (by omega) (by omega) (by omega) (by omega) (by omega) z8
 by_cases z9:m / 128 / 128 / 128 / 128 / 128 / 128 / 128 / 128 < 128
 ·exact print_9 m (by omega) (by omega) (by omega) (by omega) (by omega) (by omega) (by omega) (by omega) (by omega) z9
 exact print_10 m (by omega) (by omega) (by omega) (by omega) (by omega) (by omega) (by omega) (by omega) (by omega) (by omega) (by omega)
set_option maxHeartbeats 400000 in
theorem ref_print_1 (n:Int)(h0:0≤n)(hz:n < 128):Gives Try.prog 27 #[.int .u64 n] (.string (printB n.toNat)):=by
 intro w
 obtain ⟨hb,hB⟩:=start w
 have HE:=Lib.hid (show strOfNums [n]=printB n.toNat from by
  rw [←strOfNums_vpI]
  rw [vpI_smallI h0 hz]
  skip)
 have hc:=vconv1
 go_enter Try.func27,Try.ntmps27
 go_wp2
 refine wp_loop_rounds 10 ?_
 rw [rounds_succ]
 go_wp2
 go_ret
 exact ⟨ret_str (Eq.trans rfl HE.out),by go_grown⟩
set_option maxHeartbeats 400000 in
theorem ref_print_2 (n:Int)(h0:0≤n / 128)(h1:128≤n)(hz:n / 128 < 128):Gives Try.prog 27 #[.int .u64 n] (.string (printB n.toNat)):=by
 intro w
 obtain ⟨hb,hB⟩:=start w
 have HE:=Lib.hid (show strOfNums [bits .or .u8 (n % 256) 128,n / 128]=printB n.toNat from by
  have g1:=or_128 (n) (by omega)
  rw [←strOfNums_vpI]
  rw [vpI_greatI h1]
  rw [vpI_smallI h0 hz]
  rw [g1]
  skip)
 have hc:=vconv1
 go_enter Try.func27,Try.ntmps27
 go_wp2
 refine wp_loop_rounds 10 ?_
 rw [rounds_succ]
 go_wp2
 rw [rounds_succ]
 go_wp2
 go_ret
 exact ⟨ret_str (Eq.trans rfl HE.out),by go_grown⟩
set_option maxHeartbeats 400000 in
theorem ref_print_3 (n:Int)(h0:0≤n / 128 / 128)(h1:128≤n)(h2:128≤n / 128)(hz:n / 128 / 128 < 128):Gives Try.prog 27 #[.int .u64 n] (.string (printB n.toNat)):=by
 intro w
 obtain ⟨hb,hB⟩:=start w
 have HE:=Lib.hid (show strOfNums [bits .or .u8 (n % 256) 128,bits .or .u8 (n / 128 % 256) 128,n / 128 / 128]=printB n.toNat from by
  have g1:=or_128 (n) (by omega)
  have g2:=or_128 (n / 128) (by omega)
  rw [←strOfNums_vpI]
  rw [vpI_greatI h1]
  rw [vpI_greatI h2]
  rw [vpI_smallI h0 hz]
  rw [g1,g2]
  skip)
 have hc:=vconv1
 go_enter Try.func27,Try.ntmps27
 go_wp2
 refine wp_loop_rounds 10 ?_
 rw [rounds_succ]
 go_wp2
 rw [rounds_succ]
 go_wp2
 rw [rounds_succ]
 go_wp2
 go_ret
 exact ⟨ret_str (Eq.trans rfl HE.out),by go_grown⟩
set_option maxHeartbeats 400000 in
theorem ref_print_4 (n:Int)(h0:0≤n / 128 / 128 / 128)(h1:128≤n)(h2:128≤n / 128)(h3:128≤n / 128 / 128)(hz:n / 128 / 128 / 128 < 128):Gives Try.prog 27 #[.int .u64 n] (.string (printB n.toNat)):=by
 intro w
 obtain ⟨hb,hB⟩:=start w
 have HE:=Lib.hid (show strOfNums [bits .or .u8 (n % 256) 128,bits .or .u8 (n / 128 % 256) 128,bits .or .u8 (n / 128 / 128 % 256) 128,n / 128 / 128 / 128]=printB n.toNat from by
  have g1:=or_128 (n) (by omega)
  have g2:=or_128 (n / 128) (by omega)
  have g3:=or_128 (n / 128 / 128) (by omega)
  rw [←strOfNums_vpI]
  rw [vpI_greatI h1]
  rw [vpI_greatI h2]
  rw [vpI_greatI h3]
  rw [vpI_smallI h0 hz]
  rw [g1,g2,g3]
  skip)
 have hc:=vconv1
 go_enter Try.func27,Try.ntmps27
 go_wp2
 refine wp_loop_rounds 10 ?_
 rw [rounds_succ]
 go_wp2
 rw [rounds_succ]
 go_wp2
 rw [rounds_succ]
 go_wp2
 rw [rounds_succ]
 go_wp2
 go_ret
 exact ⟨ret_str (Eq.trans rfl HE.out),by go_grown⟩
set_option maxHeartbeats 400000 in
theorem ref_print_5 (n:Int)(h0:0≤n / 128 / 128 / 128 / 128)(h1:128≤n)(h2:128≤n / 128)(h3:128≤n / 128 / 128)(h4:128≤n / 128 / 128 / 128)(hz:n / 128 / 128 / 128 / 128 < 128):Gives Try.prog 27 #[.int .u64 n] (.string (printB n.toNat)):=by
 intro w
 obtain ⟨hb,hB⟩:=start w
 have HE:=Lib.hid (show strOfNums [bits .or .u8 (n % 256) 128,bits .or .u8 (n / 128 % 256) 128,bits .or .u8 (n / 128 / 128 % 256) 128,bits .or .u8 (n / 128 / 128 / 128 % 256) 128,n / 128 / 128 / 128 / 128]=printB n.toNat from by
  have g1:=or_128 (n) (by omega)
  have g2:=or_128 (n / 128) (by omega)
  have g3:=or_128 (n / 128 / 128) (by omega)
  have g4:=or_128 (n / 128 / 128 / 128) (by omega)
  rw [←strOfNums_vpI]
  rw [vpI_greatI h1]
  rw [vpI_greatI h2]
  rw [vpI_greatI h3]
  rw [vpI_greatI h4]
  rw [vpI_smallI h0 hz]
  rw [g1,g2,g3,g4]
  skip)
 have hc:=vconv1
 go_enter Try.func27,Try.ntmps27
 go_wp2
 refine wp_loop_rounds 10 ?_
 rw [rounds_succ]
 go_wp2
 rw [rounds_succ]
 go_wp2
 rw [rounds_succ]
 go_wp2
 rw [rounds_succ]
 go_wp2
 rw [rounds_succ]
 go_wp2
 go_ret
 exact ⟨ret_str (Eq.trans rfl HE.out),by go_grown⟩
set_option maxHeartbeats 400000 in
theorem ref_print_6 (n:Int)(h0:0≤n / 128 / 128 / 128 / 128 / 128)(h1:128≤n)(h2:128≤n / 128)(h3:128≤n / 128 / 128)(h4:128≤n / 128 / 128 / 128)(h5:128≤n / 128 / 128 / 128 / 128)(hz:n / 128 / 128 / 128 / 128 / 128 < 128):Gives Try.prog 27 #[.int .u64 n] (.string (printB n.toNat)):=by
 intro w
 obtain ⟨hb,hB⟩:=start w
 have HE:=Lib.hid (show strOfNums [bits .or .u8 (n % 256) 128,bits .or .u8 (n / 128 % 256) 128,bits .or .u8 (n / 128 / 128 % 256) 128,bits .or .u8 (n / 128 / 128 / 128 % 256) 128,bits .or .u8 (n / 128 / 128 / 128 / 128 % 256) 128,n / 128 / 128 / 128 / 128 / 128]=printB n.toNat from by
  have g1:=or_128 (n) (by omega)
  have g2:=or_128 (n / 128) (by omega)
  have g3:=or_128 (n / 128 / 128) (by omega)
  have g4:=or_128 (n / 128 / 128 / 128) (by omega)
  have g5:=or_128 (n / 128 / 128 / 128 / 128) (by omega)
  rw [←strOfNums_vpI]
  rw [vpI_greatI h1]
  rw [vpI_greatI h2]
  rw [vpI_greatI h3]
  rw [vpI_greatI h4]
  rw [vpI_greatI h5]
  rw [vpI_smallI h0 hz]
  rw [g1,g2,g3,g4,g5]
  skip)
 have hc:=vconv1
 go_enter Try.func27,Try.ntmps27
 go_wp2
 refine wp_loop_rounds 10 ?_
 rw [rounds_succ]
 go_wp2
 rw [rounds_succ]
 go_wp2
 rw [rounds_succ]
 go_wp2
 rw [rounds_succ]
 go_wp2
 rw [rounds_succ]
 go_wp2
 rw [rounds_succ]
 go_wp2
 go_ret
 exact ⟨ret_str (Eq.trans rfl HE.out),by go_grown⟩
set_option maxHeartbeats 400000 in
theorem ref_print_7 (n:Int)(h0:0≤n / 128 / 128 / 128 / 128 / 128 / 128)(h1:128≤n)(h2:128≤n / 128)(h3:128≤n / 128 / 128)(h4:128≤n / 128 / 128 / 128)(h5:128≤n / 128 / 128 / 128 / 128)(h6:128≤n / 128 / 128 / 128 / 128 / 128)(hz:n / 128 / 128 / 128 / 128 / 128 / 128 < 128):Gives Try.prog 27 #[.int .u64 n] (.string (printB n.toNat)):=by
 intro w
 obtain ⟨hb,hB⟩:=start w
 have HE:=Lib.hid (show strOfNums [bits .or .u8 (n % 256) 128,bits .or .u8 (n / 128 % 256) 128,bits .or .u8 (n / 128 / 128 % 256) 128,bits .or .u8 (n / 128 / 128 / 128 % 256) 128,bits .or .u8 (n / 128 / 128 / 128 / 128 % 256) 128,bits .or .u8 (n / 128 / 128 / 128 / 128 / 128 % 256) 128,n / 128 / 128 / 128 / 128 / 128 / 128]=printB n.toNat from by
  have g1:=or_128 (n) (by omega)
  have g2:=or_128 (n / 128) (by omega)
  have g3:=or_128 (n / 128 / 128) (by omega)
  have g4:=or_128 (n / 128 / 128 / 128) (by omega)
  have g5:=or_128 (n / 128 / 128 / 128 / 128) (by omega)
  have g6:=or_128 (n / 128 / 128 / 128 / 128 / 128) (by omega)
  rw [←strOfNums_vpI]
  rw [vpI_greatI h1]
  rw [vpI_greatI h2]
  rw [vpI_greatI h3]
  rw [vpI_greatI h4]
  rw [vpI_greatI h5]
  rw [vpI_greatI h6]
  rw [vpI_smallI h0 hz]
  rw [g1,g2,g3,g4,g5,g6]
  skip)
 have hc:=vconv1
 go_enter Try.func27,Try.ntmps27
 go_wp2
 refine wp_loop_rounds 10 ?_
 rw [rounds_succ]
 go_wp2
 rw [rounds_succ]
 go_wp2
 rw [rounds_succ]
 go_wp2
 rw [rounds_succ]
 go_wp2
 rw [rounds_succ]
 go_wp2
 rw [rounds_succ]
 go_wp2
 rw [rounds_succ]
 go_wp2
 go_ret
 exact ⟨ret_str (Eq.trans rfl HE.out),by go_grown⟩
set_option maxHeartbeats 400000 in
theorem ref_print_8 (n:Int)(h0:0≤n / 128 / 128 / 128 / 128 / 128 / 128 / 128)(h1:128≤n)(h2:128≤n / 128)(h3:128≤n / 128 / 128)(h4:128≤n / 128 / 128 / 128)(h5:128≤n / 128 / 128 / 128 / 128)(h6:128≤n / 128 / 128 / 128 / 128 / 128)(h7:128≤n / 128 / 128 / 128 / 128 / 128 / 128)(hz:n / 128 / 128 / 128 / 128 / 128 / 128 / 128 < 128):Gives Try.prog 27 #[.int .u64 n] (.string (printB n.toNat)):=by
 intro w
 obtain ⟨hb,hB⟩:=start w
 have HE:=Lib.hid (show strOfNums [bits .or .u8 (n % 256) 128,bits .or .u8 (n / 128 % 256) 128,bits .or .u8 (n / 128 / 128 % 256) 128,bits .or .u8 (n / 128 / 128 / 128 % 256) 128,bits .or .u8 (n / 128 / 128 / 128 / 128 % 256) 128,bits .or .u8 (n / 128 / 128 / 128 / 128 / 128 % 256) 128,bits .or .u8 (n / 128 / 128 / 128 / 128 / 128 / 128 % 256) 128,n / 128 / 128 / 128 / 128 / 128 / 128 / 128]=printB n.toNat from by
  have g1:=or_128 (n) (by omega)
  have g2:=or_128 (n / 128) (by omega)
  have g3:=or_128 (n / 128 / 128) (by omega)
  have g4:=or_128 (n / 128 / 128 / 128) (by omega)
  have g5:=or_128 (n / 128 / 128 / 128 / 128) (by omega)
  have g6:=or_128 (n / 128 / 128 / 128 / 128 / 128) (by omega)
  have g7:=or_128 (n / 128 / 128 / 128 / 128 / 128 / 128) (by omega)
  rw [←strOfNums_vpI]
  rw [vpI_greatI h1]
  rw [vpI_greatI h2]
  rw [vpI_greatI h3]
  rw [vpI_greatI h4]
  rw [vpI_greatI h5]
  rw [vpI_greatI h6]
  rw [vpI_greatI h7]
  rw [vpI_smallI h0 hz]
  rw [g1,g2,g3,g4,g5,g6,g7]
  skip)
 have hc:=vconv1
 go_enter Try.func27,Try.ntmps27
 go_wp2
 refine wp_loop_rounds 10 ?_
 rw [rounds_succ]
 go_wp2
 rw [rounds_succ]
 go_wp2
 rw [rounds_succ]
 go_wp2
 rw [rounds_succ]
 go_wp2
 rw [rounds_succ]
 go_wp2
 rw [rounds_succ]
 go_wp2
 rw [rounds_succ]
 go_wp2
 rw [rounds_succ]
 go_wp2
 go_ret
 exact ⟨ret_str (Eq.trans rfl HE.out),by go_grown⟩
set_option maxHeartbeats 400000 in
theorem ref_print_9 (n:Int)(h0:0≤n / 128 / 128 / 128 / 128 / 128 / 128 / 128 / 128)(h1:128≤n)(h2:128≤n / 128)(h3:128≤n / 128 / 128)(h4:128≤n / 128 / 128 / 128)(h5:128≤n / 128 / 128 / 128 / 128)(h6:128≤n / 128 / 128 / 128 / 128 / 128)(h7:128≤n / 128 / 128 / 128 / 128 / 128 / 128)(h8:128≤n / 128 / 128 / 128 / 128 / 128 / 128 / 128)(hz:n / 128 / 128 / 128 / 128 / 128 / 128 / 128 / 128 < 128):Gives Try.prog 27 #[.int .u64 n] (.string (printB n.toNat)):=by
 intro w
 obtain ⟨hb,hB⟩:=start w
 have HE:=Lib.hid (show strOfNums [bits .or .u8 (n % 256) 128,bits .or .u8 (n / 128 % 256) 128,bits .or .u8 (n / 128 / 128 % 256) 128,bits .or .u8 (n / 128 / 128 / 128 % 256) 128,bits .or .u8 (n / 128 / 128 / 128 / 128 % 256) 128,bits .or .u8 (n / 128 / 128 / 128 / 128 / 128 % 256) 128,bits .or .u8 (n / 128 / 128 / 128 / 128 / 128 / 128 % 256) 128,bits .or .u8 (n / 128 / 128 / 128 / 128 / 128 / 128 / 128 % 256) 128,n / 128 / 128 / 128 / 128 / 128 / 128 / 128 / 128]=printB n.toNat from by
  have g1:=or_128 (n) (by omega)
  have g2:=or_128 (n / 128) (by omega)
  have g3:=or_128 (n / 128 / 128) (by omega)
  have g4:=or_128 (n / 128 / 128 / 128) (by omega)
  have g5:=or_128 (n / 128 / 128 / 128 / 128) (by omega)
  have g6:=or_128 (n / 128 / 128 / 128 / 128 / 128) (by omega)
  have g7:=or_128 (n / 128 / 128 / 128 / 128 / 128 / 128) (by omega)
  have g8:=or_128 (n / 128 / 128 / 128 / 128 / 128 / 128 / 128) (by omega)
  rw [←strOfNums_vpI]
  rw [vpI_greatI h1]
  rw [vpI_greatI h2]
  rw [vpI_greatI h3]
  rw [vpI_greatI h4]
  rw [vpI_greatI h5]
  rw [vpI_greatI h6]
  rw [vpI_greatI h7]
  rw [vpI_greatI h8]
  rw [vpI_smallI h0 hz]
  rw [g1,g2,g3,g4,g5,g6,g7,g8]
  skip)
 have hc:=vconv1
 go_enter Try.func27,Try.ntmps27
 go_wp2
 refine wp_loop_rounds 10 ?_
 rw [rounds_succ]
 go_wp2
 rw [rounds_succ]
 go_wp2
 rw [rounds_succ]
 go_wp2
 rw [rounds_succ]
 go_wp2
 rw [rounds_succ]
 go_wp2
 rw [rounds_succ]
 go_wp2
 rw [rounds_succ]
 go_wp2
 rw [rounds_succ]
 go_wp2
 rw [rounds_succ]
 go_wp2
 go_ret
 exact ⟨ret_str (Eq.trans rfl HE.out),by go_grown⟩
set_option maxHeartbeats 400000 in
theorem ref_print_10 (n:Int)(h0:0≤n / 128 / 128 / 128 / 128 / 128 / 128 / 128 / 128 / 128)(h1:128≤n)(h2:128≤n / 128)(h3:128≤n / 128 / 128)(h4:128≤n / 128 / 128 / 128)(h5:128≤n / 128 / 128 / 128 / 128)(h6:128≤n / 128 / 128 / 128 / 128 / 128)(h7:128≤n / 128 / 128 / 128 / 128 / 128 / 128)(h8:128≤n / 128 / 128 / 128 / 128 / 128 / 128 / 128)(h9:128≤n / 128 / 128 / 128 / 128 / 128 / 128 / 128 / 128)(hz:n / 128 / 128 / 128 / 128 / 128 / 128 / 128 / 128 / 128 < 128):Gives Try.prog 27 #[.int .u64 n] (.string (printB n.toNat)):=by
 intro w
 obtain ⟨hb,hB⟩:=start w
 have HE:=Lib.hid (show strOfNums [bits .or .u8 (n % 256) 128,bits .or .u8 (n / 128 % 256) 128,bits .or .u8 (n / 128 / 128 % 256) 128,bits .or .u8 (n / 128 / 128 / 128 % 256) 128,bits .or .u8 (n / 128 / 128 / 128 / 128 % 256) 128,bits .or .u8 (n / 128 / 128 / 128 / 128 / 128 % 256) 128,bits .or .u8 (n / 128 / 128 / 128 / 128 / 128 / 128 % 256) 128,bits .or .u8 (n / 128 / 128 / 128 / 128 / 128 / 128 / 128 % 256) 128,bits .or .u8 (n / 128 / 128 / 128 / 128 / 128 / 128 / 128 / 128 % 256) 128,n / 128 / 128 / 128 / 128 / 128 / 128 / 128 / 128 / 128]=printB n.toNat from by
  have g1:=or_128 (n) (by omega)
  have g2:=or_128 (n / 128) (by omega)
  have g3:=or_128 (n / 128 / 128) (by omega)
  have g4:=or_128 (n / 128 / 128 / 128) (by omega)
  have g5:=or_128 (n / 128 / 128 / 128 / 128) (by omega)
  have g6:=or_128 (n / 128 / 128 / 128 / 128 / 128) (by omega)
  have g7:=or_128 (n / 128 / 128 / 128 / 128 / 128 / 128) (by omega)
  have g8:=or_128 (n / 128 / 128 / 128 / 128 / 128 / 128 / 128) (by omega)
  have g9:=or_128 (n / 128 / 128 / 128 / 128 / 128 / 128 / 128 / 128) (by omega)
  rw [←strOfNums_vpI]
  rw [vpI_greatI h1]
  rw [vpI_greatI h2]
  rw [vpI_greatI h3]
  rw [vpI_greatI h4]
  rw [vpI_greatI h5]
  rw [vpI_greatI h6]
  rw [vpI_greatI h7]
  rw [vpI_greatI h8]
  rw [vpI_greatI h9]
  rw [vpI_smallI h0 hz]
  rw [g1,g2,g3,g4,g5,g6,g7,g8,g9]
  skip)
 have hc:=vconv1
 go_enter Try.func27,Try.ntmps27
 go_wp2
 refine wp_loop_rounds 10 ?_
 rw [rounds_succ]
 go_wp2
 rw [rounds_succ]
 go_wp2
 rw [rounds_succ]
 go_wp2
 rw [rounds_succ]
 go_wp2
 rw [rounds_succ]
 go_wp2
 rw [rounds_succ]
 go_wp2
 rw [rounds_succ]
 go_wp2
 rw [rounds_succ]
 go_wp2
 rw [rounds_succ]
 go_wp2
 rw [rounds_succ]
 go_wp2
 go_ret
 exact ⟨ret_str (Eq.trans rfl HE.out),by go_grown⟩
theorem ref_print_calls (n:Nat)(h:n < 18446744073709551616):Gives Try.prog 27 #[.int .u64 n] (.string (printB n)):=by
 have e:printB n=printB (n:Int).toNat:=by rw [Int.toNat_natCast]
 rw [e]
 generalize hm:(n:Int)=m
 have hh:m < 18446744073709551616:=by omega
 have hp:0≤m:=by omega
 clear hm e h
 by_cases z1:m < 128
 ·exact ref_print_1 m (by omega)  z1
 by_cases z2:m / 128 < 128
 ·exact ref_print_2 m (by omega) (by omega) z2
 by_cases z3:m / 128 / 128 < 128
 ·exact ref_print_3 m (by omega) (by omega) (by omega) z3
 by_cases z4:m / 128 / 128 / 128 < 128
 ·exact ref_print_4 m (by omega) (by omega) (by omega) (by omega) z4
 by_cases z5:m / 128 / 128 / 128 / 128 < 128
 ·exact ref_print_5 m (by omega) (by omega) (by omega) (by omega) (by omega) z5
 by_cases z6:m / 128 / 128 / 128 / 128 / 128 < 128
 ·exact ref_print_6 m (by omega) (by omega) (by omega) (by omega) (by omega) (by omega) z6
 by_cases z7:m / 128 / 128 / 128 / 128 / 128 / 128 < 128
 ·exact ref_print_7 m (by omega) (by omega) (by omega) (by omega) (by omega) (by omega) (by omega) z7
 by_cases z8:m / 128 / 128 / 128 / 128 / 128 / 128 / 128 < 128
 ·exact ref_print_8 m (by omega) (by omega) (by omega) (by omega) (by omega) (by omega) (by omega) (by omega) z8
 by_cases z9:m / 128 / 128 / 128 / 128 / 128 / 128 / 128 / 128 < 128
 ·exact ref_print_9 m (by omega) (by omega) (by omega) (by omega) (by omega) (by omega) (by omega) (by omega) (by omega) z9
 exact ref_print_10 m (by omega) (by omega) (by omega) (by omega) (by omega) (by omega) (by omega) (by omega) (by omega) (by omega) (by omega)
end Go.Proofs.Ytnkhkkdmjabhnaa
