/- The contract of the answer's Read of layer 3, said by what stands at the tape's beginning. -/
import Derived.Test.YtafmbnafibahkaaGreatGShelf
import Derived.Deep.Cut
import Derived.Deep.CutRange
import Derived.Deep.RegionHeld3
namespace Go.Proofs.YtafmbnafibahkaaGreat
open Go Go.RowKit
theorem ref_fold_nat (n:Int)(h0 : -9223372036854775808≤n)(h1:n≤9223372036854775807)(w:World) :
  Calls Tryz.prog 101 #[.int .i64 n] w fun e w'=>e=.returned (.int .u64 ((foldI n).toNat:Nat))∧w=w':=by
 have k:=ref_fold_calls n h0 h1 w
 have e:((foldI n).toNat:Int)=foldI n:=by have:=(foldI_range n h0 h1).1;omega
 rw [e];exact k
theorem low_byte (D j:Nat):((D:Int) / 2 ^ (8*j) % 256)=((D / 256 ^ j % 256:Nat):Int):=by
 have e7:(256:Nat) ^ j=2 ^ (8*j):=by rw [Nat.pow_mul]
 rw [e7]
 simp
set_option maxHeartbeats 1000000 in
theorem ref_shelf_print_calls {w:World}{v:Value}{l:List Int}(h:IntsIn w v l)(hr:InR l)(hlen:l.length≤4096):GivesAt Tryz.prog 70 #[v] w (.string (shelfB l)):=by
 obtain ⟨hb,hB⟩:=start w
 have hL:=leastI_range l hr
 have hF:=Lib.hid (foldI_nat l hr)
 have hN:=bytesFrom_le_8 (leastI l) l
 have HL:=Lib.hid (shelfP_take l)
 have p1:=Lib.hid (ref_fold_nat (leastI l) hL.1 hL.2)
 have H1:=Lib.hid (ref_least_calls h)
 have H2:=Lib.hid (ref_bytes_calls h)
 have hN':bytesL l≤8:=hN
 obtain ⟨A,cap,rfl,hat⟩:=one_at h
 have HAT:=Lib.hid hat
 clear h hr hN hat
 have HW:=fun x=>Lib.hid (wrap_sub x (leastI l))
 generalize hm:leastI l=m at *
 generalize hn:bytesL l=n at *
 clear hm hn
 have p2:=Lib.hid (ref_print_calls (foldI m).toNat hF.out)
 have p3:=Lib.hid (ref_print_calls n (by omega))
 have hp1:(printB (foldI m).toNat).size≤10:=by rw [print_len];exact vp_len_10 hF.out
 have hp2:(printB n).size≤10:=by rw [print_len];exact vp_len_10 (by omega)
 generalize (foldI m).toNat=F at *
 unfold GivesAt
 go_enter Tryz.func70,Tryz.ntmps70
 go_wp2_with (first|(go_at_call 99;refine H1.out.step ?_)|(go_at_call 100;refine H2.out.step ?_)|(go_at_call 101;refine (p1.out _).mono ?_;rintro e w' ⟨rfl,rfl⟩)|(go_at_call_of 98 (Value.int .u64 (F:Int));refine p2.out.step (w0:=w) (B:=w.heap.size) hb hB ?_;clear hb hB;intro wb hb hB)|(go_at_call_of 98 (Value.int .u64 (n:Int));refine p3.out.step (w0:=w) (B:=w.heap.size) hb hB ?_;clear hb hB;intro wb hb hB))
 have hsz:(printB F++printB n).data.toList.length=(printB F).size+(printB n).size:=by rw [data_append,List.length_append,data_size,data_size]
 have HP0:=Lib.hid (show printB F++printB n=mkB (printB F++printB n).data.toList by rw [mkB_of])
 generalize (printB F++printB n).data.toList=P0 at HL hsz HP0
 have HZ:=Lib.hid (show P0.length≤20 by omega)
 clear hsz hp1 hp2 p1 p2 p3
 go_loopw [5,6] (fun s i wr=>∃ (k:Nat),k≤l.length∧i=.int .i64 k∧s=.string (mkB (P0++rowsP m n (l.take k)))∧Below w.heap.size w wr∧w.heap.size≤wr.heap.size) (fun _ i _=>l.length-(intOf i).toNat)
 case atStart=>exact ⟨0,by omega,rfl,by rw [show rowsP m n (l.take 0)=[] from rfl,List.append_nil,←HP0.out],hb,hB⟩
 case round =>
  clear hb hB
  obtain ⟨k,hk,rfl,rfl,hb,hB⟩:=hrel
  by_cases hlt:k < l.length
  ·obtain ⟨b,off,rfl,hbl,hc⟩:=HAT.out k hlt
   have hx:=(hb.cell (p:=⟨b,off+k,none⟩) hbl).trans (hc k hlt)
   have HS:=Lib.hid (show P0++rowsP m n (l.take (k+1))=P0++rowsP m n (l.take k)++le n (dist l[k] m) by rw [rowsP_step m n l k hlt,List.append_assoc])
   have hW:=(HW l[k]).out
   have hd:=dist_lt l[k] m
   have HR:=Lib.hid (rowsP_length m n (l.take k))
   have HM:n*(l.take k).length≤8*4096:=Nat.mul_le_mul hN' (by rw [List.length_take];omega)
   have HQ:=Lib.hid (show (P0++rowsP m n (l.take k)).length≤100000 by rw [List.length_append,HR.out];have:=HZ.out;omega)
   generalize dist l[k] m=D at hW hd HS
   generalize P0++rowsP m n (l.take k)=P1 at HQ HS
   clear hc HM
   obtain ⟨wo,rfl⟩:∃ wo:World,wo=wr:=⟨_,rfl⟩
   go_wp2
   clear hx hW
   go_loopw [5,8] (fun s j wr=>∃ (J:Nat),J≤n∧j=.int .i64 J∧s=.string (mkB (P1++le J D))∧Below w.heap.size w wr∧w.heap.size≤wr.heap.size) (fun _ j _=>n-(intOf j).toNat)
   case atStart=>exact ⟨0,by omega,rfl,by simp [le],hb,hB⟩
   case round =>
    clear hb hB
    obtain ⟨J,hJ,rfl,rfl,hb,hB⟩:=hrel
    by_cases hJn:J < n
    ·have hcv:=fun X=>vconv1 wr 5 X wr.heap.size rfl
     have HY:=Lib.hid (low_byte D J)
     have HU:=Lib.hid (le_snoc J D)
     have hq:(mkB (P1++le J D)).size≤100008:=by rw [mkB_size,List.length_append,le_length];have:=HQ.out;omega
     have hq2:∀ X,(strOfNums [X]).size=1:=fun X=>strOfNums_size [X]
     generalize hT:P1++le J D=T at hq
     have HT:=Lib.hid hT
     clear hT
     go_wp2
     go_roundw
     case rel=>exact ⟨J+1,by omega,by go_num,by rw [mkB_snoc,HY.out,←HT.out,HU.out,←List.append_assoc];rfl,(below_alloc hb hB _).1,(below_alloc hb hB _).2⟩
     case measure=>simp [intOf];omega
    ·obtain rfl:J=n:=by omega
     go_wp2
     go_roundw
     case rel=>exact ⟨k+1,by omega,by go_num,by rw [HS.out],hb,hB⟩
     case measure=>simp [intOf];omega
  ·obtain rfl:k=l.length:=by omega
   have HT:=Lib.hid (show mkB (P0++rowsP m n (l.take l.length))=shelfB l by rw [List.take_length];unfold shelfB;rw [HL.out];rfl)
   go_wp2
   go_ret
   exact ⟨ret_str (by rw [←HT.out,List.take_length]),hb⟩
theorem unle_snoc (l:List UInt8)(b:UInt8):unle (l++[b])=unle l+256 ^ l.length*b.toNat:=by
 induction l with
 | nil=>simp [unle]
 | cons x l ih =>
  simp only [List.cons_append,unle,ih,List.length_cons,Nat.pow_succ]
  rw [Nat.mul_add,Nat.mul_comm (256 ^ l.length) 256,Nat.mul_assoc];omega
theorem unle_or (l:List UInt8)(k:Nat)(h:k < l.length)(h8:k < 8) :
  bits .or .u64 (unle (l.take k):Int) (((l[k].toNat*2 ^ (8*k):Nat):Int))=(unle (l.take (k+1)):Int):=by
 have hlen:(l.take k).length=k:=by rw [List.length_take];omega
 have hv:=unle_lt (l.take k)
 have e7:(256:Nat) ^ k=2 ^ (8*k):=by rw [Nat.pow_mul]
 rw [hlen,e7] at hv
 have hv1:=unle_lt (l.take (k+1))
 rw [List.length_take,Nat.min_eq_left (by omega)] at hv1
 have hp:(256:Nat) ^ (k+1)≤256 ^ 8:=Nat.pow_le_pow_right (by decide) (by omega)
 have e8:(256:Nat) ^ 8=18446744073709551616:=by decide
 rw [take_add l k h,unle_snoc,hlen,e7] at hv1 ⊢
 have hor:=Nat.two_pow_add_eq_or_of_lt hv l[k].toNat
 rw [bits_or_u64_nat _ _ (by omega) (by rw [Nat.mul_comm];omega)]
 rw [Nat.mul_comm l[k].toNat,Nat.or_comm,←hor,Nat.add_comm]
theorem unle_step (s:ByteArray)(k:Nat)(h:k < s.size)(h8:k < 8) :
  bits .or .u64 (unle (s.data.toList.take k):Int) (IntKind.u64.wrap (IntKind.u64.wrap (s[k].toNat:Int)*2 ^ (8*k)))=(unle (s.data.toList.take (k+1)):Int):=by
 have hl:k < s.data.toList.length:=by rw [data_size];exact h
 have e:=unle_or s.data.toList k hl h8
 have eb:s.data.toList[k]=s[k]:=rfl
 rw [eb] at e
 have hb:=s[k].toNat_lt
 have hp:(2:Nat) ^ (8*k)≤2 ^ 56:=Nat.pow_le_pow_right (by decide) (by omega)
 have hm:s[k].toNat*2 ^ (8*k)≤255*2 ^ 56:=Nat.mul_le_mul (by omega) hp
 have hm2:s[k].toNat*2 ^ (8*k) < 18446744073709551616:=Nat.lt_of_le_of_lt hm (by decide)
 rw [wrap_lt _ (by omega)]
 have e1:((s[k].toNat:Nat):Int)*2 ^ (8*k)=((s[k].toNat*2 ^ (8*k):Nat):Int):=by simp
 rw [e1,wrap_lt _ hm2]
 exact e
set_option maxHeartbeats 400000 in
theorem low_calls (s:ByteArray)(hs:s.size≤8)(w:World):Reads Tryz.prog 191 #[.string s] w (.int .u64 (unle s.data.toList)):=by
 unfold Reads
 go_enter Tryz.func191,Tryz.ntmps191
 go_wp2
 go_loop [3,7] (fun u i=>∃ k:Nat,k≤s.size∧i=.int .i64 k∧u=.int .u64 (unle (s.data.toList.take k))) (fun _ i=>s.size-(intOf i).toNat)
 case atStart=>exact ⟨0,by omega,rfl,rfl⟩
 case round =>
  obtain ⟨k,hk,rfl,rfl⟩:=hrel
  by_cases hlt:k < s.size
  ·have HS:=Lib.hid (unle_step s k hlt (by omega))
   go_wp2
   go_round
   case rel=>exact ⟨k+1,by omega,by go_num,by rw [HS.out]⟩
   case measure=>simp [intOf];omega
  ·obtain rfl:k=s.size:=by omega
   have HE:=Lib.hid (show s.data.toList.take s.size=s.data.toList by rw [←data_size,List.take_length])
   go_wp2
   go_ret
   exact ⟨ret_int (by rw [HE.out]),rfl⟩
theorem Tryz.info3:(Tryz.prog.info? 3).map (fun i=>(i.zero,i.size,i.bytes))=some (some (.int .i64 0),1,8):=by kernel_rfl
def rowsOf (m:Int)(n M:Nat)(t:List UInt8):List Int:=(List.range M).map fun i=>wrap64 (m+unle ((t.drop (i*n)).take n))
theorem rowsOf_length (m:Int)(n M:Nat)(t:List UInt8):(rowsOf m n M t).length=M:=by simp [rowsOf]
def takeT (s:ByteArray)(bad:Bool)(many:Int):List Int×ByteArray×Bool :=
 if many < 0∨4096 < many then ([],s,true)
 else if (textT (numT (numT s bad maxU).2.1 (numT s bad maxU).2.2 8).2.1 (numT (numT s bad maxU).2.1 (numT s bad maxU).2.2 8).2.2 (many.toNat*(numT (numT s bad maxU).2.1 (numT s bad maxU).2.2 8).1)).2.2 then
  ([],(textT (numT (numT s bad maxU).2.1 (numT s bad maxU).2.2 8).2.1 (numT (numT s bad maxU).2.1 (numT s bad maxU).2.2 8).2.2 (many.toNat*(numT (numT s bad maxU).2.1 (numT s bad maxU).2.2 8).1)).2.1,true)
 else (rowsOf (openI (numT s bad maxU).1) (numT (numT s bad maxU).2.1 (numT s bad maxU).2.2 8).1 many.toNat
   (textT (numT (numT s bad maxU).2.1 (numT s bad maxU).2.2 8).2.1 (numT (numT s bad maxU).2.1 (numT s bad maxU).2.2 8).2.2 (many.toNat*(numT (numT s bad maxU).2.1 (numT s bad maxU).2.2 8).1)).1.data.toList,
   (textT (numT (numT s bad maxU).2.1 (numT s bad maxU).2.2 8).2.1 (numT (numT s bad maxU).2.1 (numT s bad maxU).2.2 8).2.2 (many.toNat*(numT (numT s bad maxU).2.1 (numT s bad maxU).2.2 8).1)).2.1,false)
theorem textT_good {s:ByteArray}{bad:Bool}{n:Nat}(h:(textT s bad n).2.2=false):(textT s bad n).1.size=n:=by
 unfold textT at h ⊢
 split at h
 ·simp at h
 ·rename_i hb
  split at h
  ·rename_i hn
   rw [if_neg hb,if_pos hn]
   show (s.extract 0 n).size=n
   rw [ByteArray.size_extract];omega
  ·simp at h
set_option maxHeartbeats 1000000 in
set_option maxRecDepth 100000 in
theorem take_over (b:Nat)(s:ByteArray)(bad:Bool)(many:Int)(h:many < 0∨4096 < many)(w:World)(hT:TapeIn 154 w b s bad) :
  Calls Tryz.prog 174 #[.pointer (some ⟨b,0,none⟩),.int .i64 many] w fun e w'=>e=.returned (.slice none 0 0)∧TapeIn 154 w' b s true∧w.grownBy w' (some b):=by
 have hc1:=hT.c1
 have hf1:=hT.f0 1
 have hg:=grown_refl w (some b)
 by_cases h0:many < 0
 ·have d1:decide (many < 0)=true:=by rw [decide_eq_true_eq];exact h0
  go_enter Tryz.func174,Tryz.ntmps174
  go_wp2
  go_ret
  exact ⟨rfl,hT.set1 true,grown_set hg _ _⟩
 ·have d1:decide (many < 0)=false:=by rw [decide_eq_false_iff_not];exact h0
  have d2:decide (4096 < many)=true:=by rw [decide_eq_true_eq];omega
  go_enter Tryz.func174,Tryz.ntmps174
  go_wp2
  go_ret
  exact ⟨rfl,hT.set1 true,grown_set hg _ _⟩
theorem fill_set (F:Nat→Int)(k M:Nat)(h:k < M):(((List.range k).map F++List.replicate (M-k) 0).map (Value.int .i64)).set k (.int .i64 (F k))=((List.range (k+1)).map F++List.replicate (M-(k+1)) 0).map (Value.int .i64):=by
 rw [show M-k=(M-(k+1))+1 by omega,List.replicate_succ,List.map_append,List.map_cons,List.set_append_right _ _ (by simp)]
 simp [List.range_succ]
theorem fill_get (F:Nat→Int)(k M:Nat)(h:k < M):(((List.range k).map F++List.replicate (M-k) 0).map (Value.int .i64))[k]? = some (.int .i64 0):=by
 rw [show M-k=(M-(k+1))+1 by omega,List.replicate_succ,List.map_append,List.map_cons,List.getElem?_append_right (by simp)]
 simp
theorem wrap_back (m:Int)(x:Nat):wrap64 (IntKind.u64.wrap (IntKind.u64.wrap m+(x:Int)))=wrap64 (m+x):=by
 simp only [IntKind.wrap_u64];unfold wrap64;omega
set_option maxHeartbeats 1000000 in
set_option maxRecDepth 100000 in
theorem take_bad (b:Nat)(s r1 r2 r3 t:ByteArray)(bad b1 b2:Bool)(m:Int)(n M:Nat)(hM:M≤4096)(hn:n≤8)(w:World)(hT:TapeIn 154 w b s bad)
  (T1:Takes Tryz.prog 154 189 [] b s bad (.int .i64 m) r1 b1) (T2:Takes Tryz.prog 154 185 [.int .u64 8] b r1 b1 (.int .u64 n) r2 b2)
  (T3:Takes Tryz.prog 154 190 [.int .u64 ((M*n:Nat):Int)] b r2 b2 (.string t) r3 true) :
  Calls Tryz.prog 174 #[.pointer (some ⟨b,0,none⟩),.int .i64 M] w fun e w'=>e=.returned (.slice none 0 0)∧TapeIn 154 w' b r3 true∧w.grownBy w' (some b):=by
 have hg:=grown_refl w (some b)
 have hp:M*n≤4096*8:=Nat.mul_le_mul hM hn
 have e1:(M:Int)*(n:Int)=((M*n:Nat):Int):=by simp
 generalize M*n=S at hp e1 T3
 have H1:=Lib.hid T1
 have H2:=Lib.hid T2
 have H3:=Lib.hid T3
 clear T1 T2 T3
 go_enter Tryz.func174,Tryz.ntmps174
 go_wp2_with (first|(go_at_call 189;refine H1.out.step hT hg ?_;clear hT hg;intro w1 hT hg)|(go_at_call 185;refine H2.out.step hT hg ?_;clear hT hg;intro w2 hT hg)|(go_at_call 190;refine H3.out.step hT hg ?_;clear hT hg;intro w3 hT hg;have hc1:=hT.c1))
 go_ret
 exact ⟨rfl,hT,hg⟩
set_option maxHeartbeats 1000000 in
set_option maxRecDepth 100000 in
theorem take_good (b:Nat)(s r1 r2 r3 t:ByteArray)(bad b1 b2:Bool)(m:Int)(n M:Nat)(hM:M≤4096)(hn:n≤8)(ht:t.size=M*n)(w:World)(hT:TapeIn 154 w b s bad)
  (T1:Takes Tryz.prog 154 189 [] b s bad (.int .i64 m) r1 b1) (T2:Takes Tryz.prog 154 185 [.int .u64 8] b r1 b1 (.int .u64 n) r2 b2)
  (T3:Takes Tryz.prog 154 190 [.int .u64 ((M*n:Nat):Int)] b r2 b2 (.string t) r3 false) :
  Calls Tryz.prog 174 #[.pointer (some ⟨b,0,none⟩),.int .i64 M] w fun e w'=>∃ v,e=.returned v∧IntsIn w' v (rowsOf m n M t.data.toList)∧Fresh w.heap.size v∧TapeIn 154 w' b r3 false∧w.grownBy w' (some b):=by
 obtain ⟨i0,hi,hz0,hz1,hz2⟩:=info_parts Tryz.info3
 have hg:=grown_refl w (some b)
 have hp:M*n≤4096*8:=Nat.mul_le_mul hM hn
 have e1:(M:Int)*(n:Int)=((M*n:Nat):Int):=by simp
 have HS:=Lib.hid ht
 clear ht
 generalize hS:M*n=S at hp e1 T3 HS
 have HS2:=Lib.hid hS
 have H1:=Lib.hid T1
 have H2:=Lib.hid T2
 have H3:=Lib.hid T3
 clear T1 T2 T3 hS
 go_enter Tryz.func174,Tryz.ntmps174
 go_wp2_with (first|(go_at_call 189;refine H1.out.step hT hg ?_;clear hT hg;intro w1 hT hg)|(go_at_call 185;refine H2.out.step hT hg ?_;clear hT hg;intro w2 hT hg)|(go_at_call 190;refine H3.out.step hT hg ?_;clear hT hg;intro w3 hT hg;have hc1:=hT.c1)|(at_make;refine wpList_make_full _ rfl _ _ 92 rfl w.heap.size 3 i0 (.int .i64 0) 1 Tryz.underlying92 hi hz0 hz1 .i64 .i64 _ _ M rfl rfl rfl rfl (by rw [hz2];omega) (by unfold maxLen;omega) hg.size ?_))
 intro w4 hrow hg2
 have hg3:=grown_new hg hg2
 have hT3:=hT.new hg2
 have hgb:b < w3.heap.size:=hT.lt
 have hgw:w.heap.size≤w3.heap.size:=hg.size
 rw [toList_madeCells_one] at hrow
 have hO:=Own.of_row (B:=w.heap.size) hrow (by unfold maxLen;omega) (Nat.le_refl _)
 clear hrow hg2 hT hg hc1
 generalize w3.heap.size=g at *
 generalize hF:(fun i=>wrap64 (m+unle ((t.data.toList.drop (i*n)).take n)))=F
 have HF:=Lib.hid hF
 clear hF
 go_wp2
 go_loopw [38] (fun i wr=>∃ (k:Nat),k≤M∧i=.int .i64 k∧Own wr w.heap.size 1 (.slice (some ⟨g,0,none⟩) M M) M (((List.range k).map F++List.replicate (M-k) 0).map (Value.int .i64))∧TapeIn 154 wr b r3 false∧w.grownBy wr (some b)) (fun i _=>M-(intOf i).toNat)
 case atStart=>exact ⟨0,by omega,rfl,by simpa using hO,hT3,hg3⟩
 case round =>
  clear hO hT3 hg3
  obtain ⟨k,hk,rfl,hO,hT,hg⟩:=hrel
  by_cases hlt:k < M
  ·have hk1:k*n+n≤S:=by rw [←HS2.out,←Nat.succ_mul];exact Nat.mul_le_mul_right _ hlt
   have e2:(k:Int)*(n:Int)=((k*n:Nat):Int):=by simp
   have e3:((k:Int)+1)*(n:Int)=((k*n+n:Nat):Int):=by rw [Int.add_mul];simp
   have hts:S≤t.size:=by rw [HS.out];exact Nat.le_refl _
   have hLz:(t.extract (k*n) (k*n+n)).size≤8:=by rw [ByteArray.size_extract];omega
   have HLow:=Lib.hid (low_calls (t.extract (k*n) (k*n+n)) hLz)
   have hEx:Hid ((t.extract (k*n) (k*n+n)).data.toList=(t.data.toList.drop (k*n)).take n):=by
    show _=_
    rw [data_extract];congr 1;omega
   generalize hKN:k*n=KN at *
   have HKN:=Lib.hid hKN
   clear hKN hLz
   obtain ⟨_,_,_,hcv,hcell⟩:=hO.parts
   have hcl:wr.cell? ⟨g,k,none⟩=some (.int .i64 0):=by have:=hcv k _ (fill_get F k M hlt);rwa [Nat.zero_add] at this
   clear hcv
   have hFk:Hid (F k=wrap64 (m+unle ((t.data.toList.drop KN).take n))):=by show _=_;rw [←HF.out,←HKN.out]
   have hfr:wr.frozen? ⟨g,k,none⟩=false:=by have:=(hcell k (by omega)).2;rwa [Nat.zero_add] at this
   clear hcell
   go_wp2_with (go_at_call 191;refine (HLow.out _).step ?_)
   have hO':=hO.stored k (by omega) (.int .i64 (F k))
   rw [fill_set F k M hlt,Nat.zero_add] at hO'
   clear hcl hfr
   go_roundw
   case rel =>
    refine ⟨k+1,by omega,by go_num,?_,?_,?_⟩
    ·rw [wrap_back,←hFk.out];exact hO'
    ·exact hT.other (grown_set (grown_refl wr (some g)) _ _) (by omega)
    ·exact grown_own hg hgw _ _
   case measure=>simp [intOf];omega
  ·obtain rfl:k=M:=by omega
   go_wp2
   go_ret
   refine ⟨_,rfl,?_,fun k hk=>(hO.lt k hk).1,hT,hg⟩
   have h2:=hO.slice
   rw [Nat.sub_self,List.replicate_zero,List.append_nil,←HF.out] at h2
   unfold IntsIn
   rw [rowsOf_length]
   exact h2
theorem take_calls (b:Nat)(s:ByteArray)(bad:Bool)(many:Int)(hs:s.size≤9223372036854775807)(w:World)(hT:TapeIn 154 w b s bad) :
  Calls Tryz.prog 174 #[.pointer (some ⟨b,0,none⟩),.int .i64 many] w fun e w'=>∃ v,e=.returned v∧IntsIn w' v (takeT s bad many).1∧Fresh w.heap.size v∧TapeIn 154 w' b (takeT s bad many).2.1 (takeT s bad many).2.2∧w.grownBy w' (some b):=by
 by_cases h:many < 0∨4096 < many
 ·unfold takeT
  rw [if_pos h]
  exact (take_over b s bad many h w hT).mono fun _ _ ⟨he,h1,h2⟩=>⟨_,he,SliceOf.nil_ _ _ _ _,fresh_nil _,h1,h2⟩
 ·obtain ⟨M,rfl⟩:∃ M:Nat,many=(M:Int):=⟨many.toNat,by omega⟩
  have T1:=tint_calls b s bad
  have T2:=tnum_calls b (numT s bad maxU).2.1 (numT s bad maxU).2.2 8
  have hz1:=numT_size s bad maxU
  have hz2:=numT_size (numT s bad maxU).2.1 (numT s bad maxU).2.2 8
  have hn:=numT_le (numT s bad maxU).2.1 (numT s bad maxU).2.2 8 (by decide)
  have T3:=ttext_calls b (numT (numT s bad maxU).2.1 (numT s bad maxU).2.2 8).2.1 (numT (numT s bad maxU).2.1 (numT s bad maxU).2.2 8).2.2 (M*(numT (numT s bad maxU).2.1 (numT s bad maxU).2.2 8).1) (by omega)
  unfold takeT
  rw [if_neg h,Int.toNat_natCast]
  cases h3:(textT (numT (numT s bad maxU).2.1 (numT s bad maxU).2.2 8).2.1 (numT (numT s bad maxU).2.1 (numT s bad maxU).2.2 8).2.2 (M*(numT (numT s bad maxU).2.1 (numT s bad maxU).2.2 8).1)).2.2 with
  | true =>
   rw [h3] at T3
   rw [if_pos rfl]
   exact (take_bad b s _ _ _ _ bad _ _ _ _ M (by omega) (by omega) w hT T1 T2 T3).mono fun _ _ ⟨he,h1,h2⟩=>⟨_,he,SliceOf.nil_ _ _ _ _,fresh_nil _,h1,h2⟩
  | false =>
   rw [h3] at T3
   rw [if_neg (by decide)]
   exact take_good b s _ _ _ _ bad _ _ _ _ M (by omega) (by omega) (textT_good h3) w hT T1 T2 T3
theorem rowsOf_range (m:Int)(n M:Nat)(t:List UInt8):InR (rowsOf m n M t):=by
 intro x hx
 obtain ⟨i,_,rfl⟩:=List.mem_map.1 hx
 unfold wrap64
 omega
theorem takeT_range (s:ByteArray)(bad:Bool)(many:Int):InR (takeT s bad many).1:=by
 unfold takeT
 split
 ·intro x hx;simp at hx
 ·split
  ·intro x hx;simp at hx
  ·exact rowsOf_range _ _ _ _
theorem takeT_length (s:ByteArray)(bad:Bool)(many:Int):(takeT s bad many).1.length≤4096∧((takeT s bad many).2.2=false→0≤many∧many≤4096∧((takeT s bad many).1.length:Int)=many):=by
 unfold takeT
 split
 ·simp
 ·split
  ·simp
  ·rw [rowsOf_length];exact ⟨by omega,fun _=>by omega⟩
theorem takeT_size (s:ByteArray)(bad:Bool)(many:Int):(takeT s bad many).2.1.size≤s.size:=by
 have hz1:=numT_size s bad maxU
 have hz2:=numT_size (numT s bad maxU).2.1 (numT s bad maxU).2.2 8
 unfold takeT
 split
 ·exact Nat.le_refl _
 ·have:=textT_size (numT (numT s bad maxU).2.1 (numT s bad maxU).2.2 8).2.1 (numT (numT s bad maxU).2.1 (numT s bad maxU).2.2 8).2.2 (many.toNat*(numT (numT s bad maxU).2.1 (numT s bad maxU).2.2 8).1)
  split
  ·exact Nat.le_trans this (Nat.le_trans hz2 hz1)
  ·exact Nat.le_trans this (Nat.le_trans hz2 hz1)
set_option maxHeartbeats 1000000 in
set_option maxRecDepth 100000 in
theorem read_bad (b:Nat)(s:ByteArray)(bad:Bool)(many:Int)(hs:s.size≤9223372036854775807)(l:List Int)(r:ByteArray)(hrs:r.size≤s.size)
  (hk:∀ b' w,TapeIn 154 w b' s bad→Calls Tryz.prog 174 #[.pointer (some ⟨b',0,none⟩),.int .i64 many] w fun e w'=>∃ v,e=.returned v∧IntsIn w' v l∧Fresh w.heap.size v∧TapeIn 154 w' b' r true∧w.grownBy w' (some b'))
  (w:World) (hT:TapeIn 154 w b s bad) :
  Calls Tryz.prog 147 #[.pointer (some ⟨b,0,none⟩),.int .i64 many] w fun e w'=>e=.returned (.slice none 0 0)∧TapeIn 154 w' b s true∧w.grownBy w' (some b):=by
 have hc0:=hT.c0
 have hc1:=hT.c1
 have HK:=Lib.hid hk
 clear hk
 have hsz:(s.extract 0 (s.size-r.size)).size=s.size-r.size:=by rw [ByteArray.size_extract];omega
 have q1:IntKind.i64.wrap ((s.size:Int)-(r.size:Int))=(s.size:Int)-(r.size:Int):=IntWalk.i64_in _ (by omega)
 have q2:(0:Int)≤(s.size:Int)-(r.size:Int):=by omega
 have q3:((s.size:Int)-(r.size:Int)).toNat=s.size-r.size:=by omega
 have q4:(s.size:Int)-(r.size:Int)≤(s.size:Int):=by omega
 have q5:s.size-r.size≤s.size:=by omega
 go_enter Tryz.func147,Tryz.ntmps147
 go_wp2_with fail
 refine (HK.out _ _ (box_tape w s bad _)).mono ?_
 rintro e w1 ⟨v,rfl,hi,hfr,hA,hg⟩
 have hb1:Below w.heap.size w w1:=(Below.alloc (.refl _ w) (Nat.le_refl _) (.cells #[.string s,.bool bad] 154)).grown hg (by simp) (fun k hk=>by cases hk;exact Nat.le_refl _)
 have hT1:=hT.kept hb1
 have hB1:=hb1.size
 have hbw:=hT.lt
 clear hT hc0 hc1 hg
 obtain ⟨A,cap,rfl,_⟩:=one_at hi
 have c0:=hT1.c0
 have c1:=hT1.c1
 have a0:=hA.c0
 have a1:=hA.c1
 have f0:=hT1.f0 0
 have f1:=hT1.f0 1
 go_wp2
 go_quiet (fail)
 go_wp2
 go_ret
 exact ⟨rfl,(hT1.drewN _).set1 _,grown_set (grown_below (below_drewN hb1 _) _) _ _⟩
theorem GivesAt.drewN {P:Program}{f:FuncId}{args:Array Value}{w:World}{n:Nat}{v:Value}(h:GivesAt P f args (w.drewN n) v){B:Nat}{w0:World}(hb:Below B w0 w)(hB:B≤w.heap.size)
  {R:Ending→World→Prop} (k:∀ w',Below B w0 w'→Below w.heap.size w w'→R (.returned v) w'):Calls P f args (w.drewN n) R :=
 Calls.mono h fun _ _ ⟨he,hw⟩=>he▸k _ ((below_drewN hb n).trans (hw.mono hB)) ((below_drewN (.refl _ w) n).trans hw)
set_option maxHeartbeats 1000000 in
set_option maxRecDepth 100000 in
theorem read_no (b:Nat)(s:ByteArray)(bad:Bool)(many:Int)(hs:s.size≤9223372036854775807)(l:List Int)(r:ByteArray)(hl:l.length≤4096)(hr:InR l)(hrs:r.size≤s.size)
  (h1:((shelfB l).toList==(s.extract 0 (s.size-r.size)).toList)=false) (_h2:((shelfB l).toList != (s.extract 0 (s.size-r.size)).toList)=true)
  (hk:∀ b' w,TapeIn 154 w b' s bad→Calls Tryz.prog 174 #[.pointer (some ⟨b',0,none⟩),.int .i64 many] w fun e w'=>∃ v,e=.returned v∧IntsIn w' v l∧Fresh w.heap.size v∧TapeIn 154 w' b' r false∧w.grownBy w' (some b'))
  (w:World) (hT:TapeIn 154 w b s bad) :
  Calls Tryz.prog 147 #[.pointer (some ⟨b,0,none⟩),.int .i64 many] w fun e w'=>e=.returned (.slice none 0 0)∧TapeIn 154 w' b s true∧w.grownBy w' (some b):=by
 have hc0:=hT.c0
 have hc1:=hT.c1
 have HK:=Lib.hid hk
 clear hk
 have hsz:(s.extract 0 (s.size-r.size)).size=s.size-r.size:=by rw [ByteArray.size_extract];omega
 have q1:IntKind.i64.wrap ((s.size:Int)-(r.size:Int))=(s.size:Int)-(r.size:Int):=IntWalk.i64_in _ (by omega)
 have q2:(0:Int)≤(s.size:Int)-(r.size:Int):=by omega
 have q3:((s.size:Int)-(r.size:Int)).toNat=s.size-r.size:=by omega
 have q4:(s.size:Int)-(r.size:Int)≤(s.size:Int):=by omega
 have q5:s.size-r.size≤s.size:=by omega
 go_enter Tryz.func147,Tryz.ntmps147
 go_wp2_with fail
 refine (HK.out _ _ (box_tape w s bad _)).mono ?_
 rintro e w1 ⟨v,rfl,hi,hfr,hA,hg⟩
 have hb1:Below w.heap.size w w1:=(Below.alloc (.refl _ w) (Nat.le_refl _) (.cells #[.string s,.bool bad] 154)).grown hg (by simp) (fun k hk=>by cases hk;exact Nat.le_refl _)
 have hT1:=hT.kept hb1
 have hB1:=hb1.size
 have hbw:=hT.lt
 clear hT hc0 hc1 hg
 obtain ⟨A,cap,rfl,_⟩:=one_at hi
 have c0:=hT1.c0
 have c1:=hT1.c1
 have a0:=hA.c0
 have a1:=hA.c1
 have f0:=hT1.f0 0
 have f1:=hT1.f0 1
 go_wp2
 go_quiet (fail)
 go_wp2_with (go_at_call 83;refine (shelf_print_calls (hi.drewN _) hr hl).drewN hb1 hB1 ?_)
 intro w2 hb2 hk2
 have hT2:=hT1.kept hk2
 clear c0 c1 a0 a1 f0 f1 hT1 hA hi
 have c1:=hT2.c1
 have f1:=hT2.f0 1
 go_wp2
 go_ret
 exact ⟨rfl,hT2.set1 _,grown_set (grown_below hb2 _) _ _⟩
set_option maxHeartbeats 1000000 in
set_option maxRecDepth 100000 in
theorem read_yes (b:Nat)(s:ByteArray)(bad:Bool)(many:Int)(hs:s.size≤9223372036854775807)(l:List Int)(r:ByteArray)(hl:l.length≤4096)(hr:InR l)(hrs:r.size≤s.size)
  (h1:((shelfB l).toList==(s.extract 0 (s.size-r.size)).toList)=true) (_h2:((shelfB l).toList != (s.extract 0 (s.size-r.size)).toList)=false)
  (hk:∀ b' w,TapeIn 154 w b' s bad→Calls Tryz.prog 174 #[.pointer (some ⟨b',0,none⟩),.int .i64 many] w fun e w'=>∃ v,e=.returned v∧IntsIn w' v l∧Fresh w.heap.size v∧TapeIn 154 w' b' r false∧w.grownBy w' (some b'))
  (w:World) (hT:TapeIn 154 w b s bad) :
  Calls Tryz.prog 147 #[.pointer (some ⟨b,0,none⟩),.int .i64 many] w fun e w'=>∃ v,e=.returned v∧IntsIn w' v l∧Fresh w.heap.size v∧TapeIn 154 w' b r false∧w.grownBy w' (some b):=by
 have hc0:=hT.c0
 have hc1:=hT.c1
 have HK:=Lib.hid hk
 clear hk
 have hsz:(s.extract 0 (s.size-r.size)).size=s.size-r.size:=by rw [ByteArray.size_extract];omega
 have q1:IntKind.i64.wrap ((s.size:Int)-(r.size:Int))=(s.size:Int)-(r.size:Int):=IntWalk.i64_in _ (by omega)
 have q2:(0:Int)≤(s.size:Int)-(r.size:Int):=by omega
 have q3:((s.size:Int)-(r.size:Int)).toNat=s.size-r.size:=by omega
 have q4:(s.size:Int)-(r.size:Int)≤(s.size:Int):=by omega
 have q5:s.size-r.size≤s.size:=by omega
 go_enter Tryz.func147,Tryz.ntmps147
 go_wp2_with fail
 refine (HK.out _ _ (box_tape w s bad _)).mono ?_
 rintro e w1 ⟨v,rfl,hi,hfr,hA,hg⟩
 have hb1:Below w.heap.size w w1:=(Below.alloc (.refl _ w) (Nat.le_refl _) (.cells #[.string s,.bool bad] 154)).grown hg (by simp) (fun k hk=>by cases hk;exact Nat.le_refl _)
 have hT1:=hT.kept hb1
 have hB1:=hb1.size
 have hbw:=hT.lt
 clear hT hc0 hc1 hg
 obtain ⟨A,cap,rfl,_⟩:=one_at hi
 have c0:=hT1.c0
 have c1:=hT1.c1
 have a0:=hA.c0
 have a1:=hA.c1
 have f0:=hT1.f0 0
 have f1:=hT1.f0 1
 go_wp2
 go_quiet (fail)
 go_wp2_with (go_at_call 83;refine (shelf_print_calls (hi.drewN _) hr hl).drewN hb1 hB1 ?_)
 intro w2 hb2 hk2
 have hT2:=hT1.kept hk2
 have hA2:=hA.kept hk2
 have hi2:=IntsIn.kept hi hk2
 clear c0 c1 a0 a1 f0 f1 hT1 hA hi
 have c0:=hT2.c0
 have c1:=hT2.c1
 have a0:=hA2.c0
 have a1:=hA2.c1
 have f0:=hT2.f0 0
 have f1:=hT2.f0 1
 go_wp2
 go_ret
 have hfr':Fresh (w.heap.size+1) (.slice A l.length cap):=by simpa using hfr
 refine ⟨_,rfl,?_,hfr'.mono (by omega),(hT2.set0 _).set1 _,grown_set (grown_set (grown_below hb2 _) _ _) _ _⟩
 exact SliceOf.fresh hi2 hfr' (grown_set (grown_set (grown_refl w2 (some b)) 0 (.string r)) 1 (.bool false)) (by omega)
theorem takeT_suf (s:ByteArray)(bad:Bool)(many:Int):Suf (takeT s bad many).2.1 s:=by
 have h1:=numT_suf s bad maxU
 have h2:=numT_suf (numT s bad maxU).2.1 (numT s bad maxU).2.2 8
 have h3:=textT_suf (numT (numT s bad maxU).2.1 (numT s bad maxU).2.2 8).2.1 (numT (numT s bad maxU).2.1 (numT s bad maxU).2.2 8).2.2 (many.toNat*(numT (numT s bad maxU).2.1 (numT s bad maxU).2.2 8).1)
 unfold takeT
 split
 ·exact .refl s
 ·split
  ·exact h3.trans (h2.trans h1)
  ·exact h3.trans (h2.trans h1)
theorem rowsOf_rows (m:Int)(n:Nat):∀ (l:List Int)(r:List UInt8),InR l→(∀ x∈l,dist x m < 256 ^ n)→rowsOf m n l.length (rowsP m n l++r)=l
 | [],_,_,_=>rfl
 | x::l,r,hr,hd=>by
  have ih:=rowsOf_rows m n l r (fun y hy=>hr y (List.mem_cons_of_mem _ hy)) (fun y hy=>hd y (List.mem_cons_of_mem _ hy))
  have hx:=hr x List.mem_cons_self
  unfold rowsOf at ih ⊢
  unfold rowsP at ih ⊢
  rw [List.length_cons,List.range_succ_eq_map,List.map_cons,List.map_map,List.flatMap_cons,List.append_assoc]
  have hl:=le_length n (dist x m)
  congr 1
  ·rw [Nat.zero_mul,List.drop_zero,List.take_append_of_le_length (by omega),List.take_of_length_le (by omega),unle_le,Nat.mod_eq_of_lt (hd x List.mem_cons_self)]
   exact dist_back x m hx.1 hx.2
  ·conv=>rhs;rw [←ih]
   apply List.map_congr_left
   intro i _
   simp only [Function.comp]
   rw [Nat.succ_mul,Nat.add_comm,←List.drop_drop,List.drop_append_of_le_length (by omega),show (le n (dist x m)).drop n=[] from List.drop_of_length_le (by omega),List.nil_append]
theorem takeT_at {s:ByteArray}{many:Int}{l:List Int}{r:List UInt8}(h:ShelfAt s.data.toList many l r):takeT s false many=(l,mkB r,false)∧shelfB l=s.extract 0 (s.size-(mkB r).size):=by
 obtain ⟨h0,h1,hlen,hr,hs⟩:=h
 have hF:=foldI_nat l hr
 have hn:=bytesFrom_le_8 (leastI l) l
 have hn':bytesL l≤8:=hn
 have hd:=bytesFrom_lt (leastI l) l
 have hrow:=rowsP_length (leastI l) (bytesL l) l
 have es:s=printB (foldI (leastI l)).toNat++(printB (bytesL l)++(mkB (rowsP (leastI l) (bytesL l) l)++mkB r)):=by
  apply bytes_ext
  rw [hs,data_append,data_append,data_append,print_data,print_data,mkB_data,mkB_data]
  unfold shelfP
  simp only [List.append_assoc]
 constructor
 ·have e1:=numT_print (foldI (leastI l)).toNat hF (printB (bytesL l)++(mkB (rowsP (leastI l) (bytesL l) l)++mkB r)) maxU (by unfold maxU;omega)
  rw [←es] at e1
  have e2:=numT_print (bytesL l) (by omega) (mkB (rowsP (leastI l) (bytesL l) l)++mkB r) 8 (by omega)
  have hM:many.toNat=l.length:=by omega
  have hsz:(mkB (rowsP (leastI l) (bytesL l) l)++mkB r).size=bytesL l*l.length+r.length:=by rw [ByteArray.size_append,mkB_size,mkB_size,hrow]
  have e3:textT (mkB (rowsP (leastI l) (bytesL l) l)++mkB r) false (l.length*bytesL l)=(mkB (rowsP (leastI l) (bytesL l) l),mkB r,false):=by
   unfold textT
   rw [if_neg (by decide),if_pos (by rw [hsz,Nat.mul_comm];omega)]
   have hq:l.length*bytesL l=(rowsP (leastI l) (bytesL l) l).length:=by rw [hrow,Nat.mul_comm]
   congr 1
   ·apply bytes_ext
    rw [data_extract,data_append,mkB_data,mkB_data,hq]
    simp
   ·congr 1
    apply bytes_ext
    rw [data_extract,data_append,mkB_data,mkB_data,hsz,hq,hrow]
    rw [←hrow]
    simp
  unfold takeT
  rw [if_neg (by omega),e1]
  simp only []
  rw [e2]
  simp only []
  rw [hM,e3,open_fold]
  simp only [Bool.false_eq_true,if_false]
  have e4:=rowsOf_rows (leastI l) (bytesL l) l [] hr hd
  rw [List.append_nil] at e4
  rw [mkB_data,e4]
 ·apply bytes_ext
  rw [data_extract,mkB_size,hs,shelfB_data]
  have:s.size=(shelfP l).length+r.length:=by rw [←data_size,hs,List.length_append]
  rw [this]
  simp
theorem takeT_back {s:ByteArray}{many:Int}(h:(takeT s false many).2.2=false)(he:shelfB (takeT s false many).1=s.extract 0 (s.size-(takeT s false many).2.1.size)) :
  ShelfAt s.data.toList many (takeT s false many).1 (takeT s false many).2.1.data.toList:=by
 obtain ⟨a,b,c⟩:=(takeT_length s false many).2 h
 refine ⟨a,b,c,takeT_range s false many,?_⟩
 rw [←shelfB_data,he]
 exact (takeT_suf s false many).split.1
def TakesInts (P:Program)(T:TypeId)(f:FuncId)(more:List Value)(b:Nat)(s:ByteArray)(l:List Int)(s':ByteArray):Prop :=
 ∀ w:World,TapeIn T w b s false→Calls P f (Value.pointer (some ⟨b,0,none⟩)::more).toArray w fun e w'=>∃ v,e=.returned v∧IntsIn w' v l∧Fresh w.heap.size v∧TapeIn T w' b s' false∧w.grownBy w' (some b)
theorem shelf_read_some (b:Nat)(s:ByteArray)(hs:s.size≤9223372036854775807){many:Int}{l:List Int}{r:List UInt8}(h:ShelfAt s.data.toList many l r) :
  TakesInts Tryz.prog 154 147 [.int .i64 many] b s l (mkB r):=by
 intro w hT
 obtain ⟨e1,e2⟩:=takeT_at h
 have hl:=(takeT_length s false many).1
 have hz:=takeT_size s false many
 have hc:=fun b' w=>take_calls b' s false many hs w
 rw [e1] at hl hz
 simp only [e1] at hc
 rcases str_ne_cases (shelfB l) (s.extract 0 (s.size-(mkB r).size)) with ⟨_,g1,g2⟩ | ⟨g,_⟩
 ·exact read_yes b s false many hs l (mkB r) hl h.2.2.2.1 hz g1 g2 hc w hT
 ·exact absurd e2 g
theorem shelf_read_none (b:Nat)(s:ByteArray)(hs:s.size≤9223372036854775807)(many:Int)(h:¬∃ l r,ShelfAt s.data.toList many l r) :
  Takes Tryz.prog 154 147 [.int .i64 many] b s false (.slice none 0 0) s true:=by
 intro w hT
 have hl:=(takeT_length s false many).1
 have hr:=takeT_range s false many
 have hz:=takeT_size s false many
 have hc:=fun b' w=>take_calls b' s false many hs w
 have hbk:=@takeT_back s many
 generalize takeT s false many=X at *
 obtain ⟨l,r,bad'⟩:=X
 cases bad' with
 | true=>exact read_bad b s false many hs l r hz hc w hT
 | false =>
  rcases str_ne_cases (shelfB l) (s.extract 0 (s.size-r.size)) with ⟨g,_⟩ | ⟨_,g1,g2⟩
  ·exact absurd ⟨_,_,hbk rfl g⟩ h
  ·exact read_no b s false many hs l r hl hr hz g1 g2 hc w hT
theorem shelf_read_badtape (b:Nat)(s:ByteArray)(hs:s.size≤9223372036854775807)(many:Int) :
  Takes Tryz.prog 154 147 [.int .i64 many] b s true (.slice none 0 0) s true:=by
 intro w hT
 have hz:=takeT_size s true many
 have hc:=fun b' w=>take_calls b' s true many hs w
 have hb:(takeT s true many).2.2=true:=by
  have n1:∀ m,numT s true m=(0,s,true):=fun m=>rfl
  have t1:∀ n,textT s true n=(⟨#[]⟩,s,true):=fun n=>rfl
  unfold takeT
  split
  ·rfl
  ·rw [n1,n1,t1];rfl
 generalize takeT s true many=X at *
 obtain ⟨l,r,bad'⟩:=X
 simp only at hb
 subst hb
 exact read_bad b s true many hs l r hz hc w hT
def RefPost (T:TypeId)(w:World)(b:Nat)(ok:Prop)(l:List Int)(r:ByteArray)(e:Ending)(w':World):Prop :=
 (ok∧∃ v,e=.returned v∧IntsIn w' v l∧Fresh w.heap.size v∧TapeIn T w' b r false∧w.grownBy w' (some b))∨(¬ok∧∃ r',e=.returned (.slice none 0 0)∧TapeIn T w' b r' true∧w.grownBy w' (some b))
theorem RefPost.yes {T:TypeId}{w w':World}{b:Nat}{ok:Prop}{l l':List Int}{r r':ByteArray}{v:Value}(h:ok)(hl:l=l')(hr:r=r')(h1:IntsIn w' v l')(h2:Fresh w.heap.size v)(h3:TapeIn T w' b r' false)(h4:w.grownBy w' (some b)) :
  RefPost T w b ok l r (.returned v) w':=by subst hl;subst hr;exact .inl ⟨h,v,rfl,h1,h2,h3,h4⟩
theorem RefPost.no {T:TypeId}{w w':World}{b:Nat}{ok:Prop}{l:List Int}{r r':ByteArray}(h:¬ok)(h3:TapeIn T w' b r' true)(h4:w.grownBy w' (some b)) :
  RefPost T w b ok l r (.returned (.slice none 0 0)) w':=.inr ⟨h,r',rfl,h3,h4⟩
end Go.Proofs.YtafmbnafibahkaaGreat
