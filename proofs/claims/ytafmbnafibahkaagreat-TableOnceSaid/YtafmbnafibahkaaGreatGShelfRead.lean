/- The contract of the answer's Read of layer 3, said by what stands at the tape's beginning. -/
import Derived.Test.YtafmbnafibahkaaGreatGShelf
import Derived.Deep.Cut
import Derived.Deep.CutRange
import Derived.Deep.RegionHeld3
namespace Go.Proofs.YtafmbnafibahkaaGreat
open Go Go.RowKit
theorem ref_fold_nat (n:Int)(h0 : -9223372036854775808≤n)(h1:n≤9223372036854775807)(w:World) :
  Calls Tryz.prog 101 #[.int .i64 n] w fun e w'=>e=.returned (.int .u64 ((foldI n).toNat:Nat))∧w=w':=by
 have k:=ref_fold_calls n h0 h1 w
 have e:((foldI n).toNat:Int)=foldI n:=by have:=(foldI_range n h0 h1).1;omega
 rw [e];exact k
theorem low_byte (D j:Nat):((D:Int) / 2 ^ (8*j) % 256)=((D / 256 ^ j % 256:Nat):Int):=by
 have e7:(256:Nat) ^ j=2 ^ (8*j):=by rw [Nat.pow_mul]
 rw [e7]
 simp
set_option maxHeartbeats 1000000 in
theorem ref_shelf_print_calls {w:World}{v:Value}{l:List Int}(h:IntsIn w v l)(hr:InR l)(hlen:l.length≤4096):GivesAt Tryz.prog 70 #[v] w (.string (shelfB l)):=by
 obtain ⟨hb,hB⟩:=start w
 have hL:=leastI_range l hr
 have hF:=Lib.hid (foldI_nat l hr)
 have hN:=bytesFrom_le_8 (leastI l) l
 have HL:=Lib.hid (shelfP_take l)
 have p1:=Lib.hid (ref_fold_nat (leastI l) hL.1 hL.2)
 have H1:=Lib.hid (ref_least_calls h)
 have H2:=Lib.hid (ref_bytes_calls h)
 have hN':bytesL l≤8:=hN
 obtain ⟨A,cap,rfl,hat⟩:=one_at h
 have HAT:=Lib.hid hat
 clear h hr hN hat
 have HW:=fun x=>Lib.hid (wrap_sub x (leastI l))
 generalize hm:leastI l=m at *
 generalize hn:bytesL l=n at *
 clear hm hn
 have p2:=Lib.hid (ref_print_calls (foldI m).toNat hF.out)
 have p3:=Lib.hid (ref_print_calls n (by omega))
 have hp1:(printB (foldI m).toNat).size≤10:=by rw [print_len];exact vp_len_10 hF.out
 have hp2:(printB n).size≤10:=by rw [print_len];exact vp_len_10 (by omega)
 generalize (foldI m).toNat=F at *
 unfold GivesAt
 go_enter Tryz.func70,Tryz.ntmps70
 go_wp2_with (first|(go_at_call 99;refine H1.out.step ?_)|(go_at_call 100;refine H2.out.step ?_)|(go_at_call 101;refine (p1.out _).mono ?_;rintro e w' ⟨rfl,rfl⟩)|(go_at_call_of 98 (Value.int .u64 (F:Int));refine p2.out.step (w0:=w) (B:=w.heap.size) hb hB ?_;clear hb hB;intro wb hb hB)|(go_at_call_of 98 (Value.int .u64 (n:Int));refine p3.out.step (w0:=w) (B:=w.heap.size) hb hB ?_;clear hb hB;intro wb hb hB))
 have hsz:(printB F++printB n).data.toList.length=(printB F).size+(printB n).size:=by rw [data_append,List.length_append,data_size,data_size]
 have HP0:=Lib.hid (show printB F++printB n=mkB (printB F++printB n).data.toList by rw [mkB_of])
 generalize (printB F++printB n).data.toList=P0 at HL hsz HP0
 have HZ:=Lib.hid (show P0.length≤20 by omega)
 clear hsz hp1 hp2 p1 p2 p3
 go_loopw [5,6] (fun s i wr=>∃ (k:Nat),k≤l.length∧i=.int .i64 k∧s=.string (mkB (P0++rowsP m n (l.take k)))∧Below w.heap.size w wr∧w.heap.size≤wr.heap.size) (fun _ i _=>l.length-(intOf i).toNat)
 case atStart=>exact ⟨0,by omega,rfl,by rw [show rowsP m n (l.take 0)=[] from rfl,List.append_nil,←HP0.out],hb,hB⟩
 case round =>
  clear hb hB
  obtain ⟨k,hk,rfl,rfl,hb,hB⟩:=hrel
  by_cases hlt:k < l.length
  ·obtain ⟨b,off,rfl,hbl,hc⟩:=HAT.out k hlt
   have hx:=(hb.cell (p:=⟨b,off+k,none⟩) hbl).trans (hc k hlt)
   have HS:=Lib.hid (show P0++rowsP m n (l.take (k+1))=P0++rowsP m n (l.take k)++le n (dist l[k] m) by rw [rowsP_step m n l k hlt,List.append_assoc])
   have hW:=(HW l[k]).out
   have hd:=dist_lt l[k] m
   have HR:=Lib.hid (rowsP_length m n (l.take k))
   have HM:n*(l.take k).length≤8*4096:=Nat.mul_le_mul hN' (by rw [List.length_take];omega)
   have HQ:=Lib.hid (show (P0++rowsP m n (l.take k)).length≤100000 by rw [List.length_append,HR.out];have:=HZ.out;omega)
   generalize dist l[k] m=D at hW hd HS
   generalize P0++rowsP m n (l.take k)=P1 at HQ HS
   clear hc HM
   obtain ⟨wo,rfl⟩:∃ wo:World,wo=wr:=⟨_,rfl⟩
   go_wp2
   clear hx hW
   go_loopw [5,8] (fun s j wr=>∃ (J:Nat),J≤n∧j=.int .i64 J∧s=.string (mkB (P1++le J D))∧Below w.heap.size w wr∧w.heap.size≤wr.heap.size) (fun _ j _=>n-(intOf j).toNat)
   case atStart=>exact ⟨0,by omega,rfl,by simp [le],hb,hB⟩
   case round =>
    clear hb hB
    obtain ⟨J,hJ,rfl,rfl,hb,hB⟩:=hrel
    by_cases hJn:J < n
    ·have hcv:=fun X=>vconv1 wr 5 X wr.heap.size rfl
     have HY:=Lib.hid (low_byte D J)
     have HU:=Lib.hid (le_snoc J D)
     have hq:(mkB (P1++le J D)).size≤100008:=by rw [mkB_size,List.length_append,le_length];have:=HQ.out;omega
     have hq2:∀ X,(strOfNums [X]).size=1:=fun X=>strOfNums_size [X]
     generalize hT:P1++le J D=T at hq
     have HT:=Lib.hid hT
     clear hT
     go_wp2
     go_roundw
     case rel=>exact ⟨J+1,by omega,by go_num,by rw [mkB_snoc,HY.out,←HT.out,HU.out,←List.append_assoc];rfl,(below_alloc hb hB _).1,(below_alloc hb hB _).2⟩
     case measure=>simp [intOf];omega
    ·obtain rfl:J=n:=by omega
     go_wp2
     go_roundw
     case rel=>exact ⟨k+1,by omega,by go_num,by rw [HS.out],hb,hB⟩
     case measure=>simp [intOf];omega
  ·obtain rfl:k=l.length:=by omega
   have HT:=Lib.hid (show mkB (P0++rowsP m n (l.take l.length))=shelfB l by rw [List.take_length];unfold shelfB;rw [HL.out];rfl)
   go_wp2
   go_ret
   exact ⟨ret_str (by rw [←HT.out,List.take_length]),hb⟩
theorem unle_snoc (l:List UInt8)(b:UInt8):unle (l++[b])=unle l+256 ^ l.length*b.toNat:=by
 induction l with
 | nil=>simp [unle]
 | cons x l ih =>
  simp only [List.cons_append,unle,ih,List.length_cons,Nat.pow_succ]
  rw [Nat.mul_add,Nat.mul_comm (256 ^ l.length) 256,Nat.mul_assoc];omega
theorem unle_or (l:List UInt8)(k:Nat)(h:k < l.length)(h8:k < 8) :
  bits .or .u64 (unle (l.take k):Int) (((l[k].toNat*2 ^ (8*k):Nat):Int))=(unle (l.take (k+1)):Int):=by
 have hlen:(l.take k).length=k:=by rw [List.length_take];omega
 have hv:=unle_lt (l.take k)
 have e7:(256:Nat) ^ k=2 ^ (8*k):=by rw [Nat.pow_mul]
 rw [hlen,e7] at hv
 have hv1:=unle_lt (l.take (k+1))
 rw [List.length_take,Nat.min_eq_left (by omega)] at hv1
 have hp:(256:Nat) ^ (k+1)≤256 ^ 8:=Nat.pow_le_pow_right (by decide) (by omega)
 have e8:(256:Nat) ^ 8=18446744073709551616:=by decide
 rw [take_add l k h,unle_snoc,hlen,e7] at hv1 ⊢
 have hor:=Nat.two_pow_add_eq_or_of_lt hv l[k].toNat
 rw [bits_or_u64_nat _ _ (by omega) (by rw [Nat.mul_comm];omega)]
 rw [Nat.mul_comm l[k].toNat,Nat.or_comm,←hor,Nat.add_comm]
theorem unle_step (s:ByteArray)(k:Nat)(h:k < s.size)(h8:k < 8) :
  bits .or .u64 (unle (s.data.toList.take k):Int) (IntKind.u64.wrap (IntKind.u64.wrap (s[k].toNat:Int)*2 ^ (8*k)))=(unle (s.data.toList.take (k+1)):Int):=by
 have hl:k < s.data.toList.length:=by rw [data_size];exact h
 have e:=unle_or s.data.toList k hl h8
 have eb:s.data.toList[k]=s[k]:=rfl
 rw [eb] at e
 have hb:=s[k].toNat_lt
 have hp:(2:Nat) ^ (8*k)≤2 ^ 56:=Nat.pow_le_pow_right (by decide) (by omega)
 have hm:s[k].toNat*2 ^ (8*k)≤255*2 ^ 56:=Nat.mul_le_mul (by omega) hp
 have hm2:s[k].toNat*2 ^ (8*k) < 18446744073709551616:=Nat.lt_of_le_of_lt hm (by decide)
 rw [wrap_lt _ (by omega)]
 have e1:((s[k].toNat:Nat):Int)*2 ^ (8*k)=((s[k].toNat*2 ^ (8*k):Nat):Int):=by simp
 rw [e1,wrap_lt _ hm2]
 exact e
set_option maxHeartbeats 400000 in
theorem low_calls (s:ByteArray)(hs:s.size≤8)(w:World):Reads Tryz.prog 191 #[.string s] w (.int .u64 (unle s.data.toList)):=by
 unfold Reads
 go_enter Tryz.func191,Tryz.ntmps191
 go_wp2
 go_loop [3,7] (fun u i=>∃ k:Nat,k≤s.size∧i=.int .i64 k∧u=.int .u64 (unle (s.data.toList.take k))) (fun _ i=>s.size-(intOf i).toNat)
 case atStart=>exact ⟨0,by omega,rfl,rfl⟩
 case round =>
  obtain ⟨k,hk,rfl,rfl⟩:=hrel
  by_cases hlt:k < s.size
  ·have HS:=Lib.hid (unle_step s k hlt (by omega))
   go_wp2
   go_round
   case rel=>exact ⟨k+1,by omega,by go_num,by rw [HS.out]⟩
   case measure=>simp [intOf];omega
  ·obtain rfl:k=s.size:=by omega
   have HE:=Lib.hid (show s.data.toList.take s.size=s.data.toList by rw [←data_size,List.take_length])
   go_wp2
   go_ret
   exact ⟨ret_int (by rw [HE.out]),rfl⟩
theorem Tryz.info3:(Tryz.prog.info? 3).map (fun i=>(i.zero,i.size,i.bytes))=some (some (.int .i64 0),1,8):=by kernel_rfl
def rowsOf (m:Int)(n M:Nat)(t:List UInt8):List Int:=(List.range M).map fun i=>wrap64 (m+unle ((t.drop (i*n)).take n))
theorem rowsOf_length (m:Int)(n M:Nat)(t:List UInt8):(rowsOf m n M t).length=M:=by simp [rowsOf]
def takeT (s:ByteArray)(bad:Bool)(many:Int):List Int×ByteArray×Bool :=
 if many < 0∨4096 < many then ([],s,true)
 else if (textT (numT (numT s bad maxU).2.1 (numT s bad maxU).2.2 8).2.1 (numT (numT s bad maxU).2.1 (numT s bad maxU).2.2 8).2.2 (many.toNat*(numT (numT s bad maxU).2.1 (numT s bad maxU).2.2 8).1)).2.2 then
  ([],(textT (numT (numT s bad maxU).2.1 (numT s bad maxU).2.2 8).2.1 (numT (numT s bad maxU).2.1 (numT s bad maxU).2.2 8).2.2 (many.toNat*(numT (numT s bad maxU).2.1 (numT s bad maxU).2.2 8).1)).2.1,true)
 else (rowsOf (openI (numT s bad maxU).1) (numT (numT s bad maxU).2.1 (numT s bad maxU).2.2 8).1 many.toNat
   (textT (numT (numT s bad maxU).2.1 (numT s bad maxU).2.2 8).2.1 (numT (numT s bad maxU).2.1 (numT s bad maxU).2.2 8).2.2 (many.toNat*(numT (numT s bad maxU).2.1 (numT s bad maxU).2.2 8).1)).1.data.toList,
   (textT (numT (numT s bad maxU).2.1 (numT s bad maxU).2.2 8).2.1 (numT (numT s bad maxU).2.1 (numT s bad maxU).2.2 8).2.2 (many.toNat*(numT (numT s bad maxU).2.1 (numT s bad maxU).2.2 8).1)).2.1,false)
theorem textT_good {s:ByteArray}{bad:Bool}{n:Nat}(h:(textT s bad n).2.2=false):(textT s bad n).1.size=n:=by
 unfold textT at h ⊢
 split at h
 ·simp at h
 ·rename_i hb
  split at h
  ·rename_i hn
   rw [if_neg hb,if_pos hn]
   show (s.extract 0 n).size=n
   rw [ByteArray.size_extract];omega
  ·simp at h
set_option maxHeartbeats 1000000 in
set_option maxRecDepth 100000 in
theorem take_over (b:Nat)(s:ByteArray)(bad:Bool)(many:Int)(h:many < 0∨4096 < many)(w:World)(hT:TapeIn 154 w b s bad) :
  Calls Tryz.prog 174 #[.pointer (some ⟨b,0,none⟩),.int .i64 many] w fun e w'=>e=.returned (.slice none 0 0)∧TapeIn 154 w' b s true∧w.grownBy w' (some b):=by
 have hc1:=hT.c1
 have hf1:=hT.f0 1
 have hg:=grown_refl w (some b)
 by_cases h0:many < 0
 ·have d1:decide (many < 0)=true:=by rw [decide_eq_true_eq];exact h0
  go_enter Tryz.func174,Tryz.ntmps174
  go_wp2
  go_ret
  exact ⟨rfl,hT.set1 true,grown_set hg _ _⟩
 ·have d1:decide (many < 0)=false:=by rw [decide_eq_false_iff_not];exact h0
  have d2:decide (4096 < many)=true:=by rw [decide_eq_true_eq];omega
  go_enter Tryz.func174,Tryz.ntmps174
  go_wp2
  go_ret
  exact ⟨rfl,hT.set1 true,grown_set hg _ _⟩
theorem fill_set (F:Nat→Int)(k M:Nat)(h:k < M):(((List.range k).map F++List.replicate (M-k) 0).map (Value.int .i64)).set k (.int .i64 (F k))=((List.range (k+1)).map F++List.replicate (M-(k+1)) 0).map (Value.int .i64):=by
 rw [show M-k=(M-(k+1))+1 by omega,List.replicate_succ,List.map_append,List.map_cons,List.set_append_right _ _ (by simp)]
 simp [List.range_succ]
theorem fill_get (F:Nat→Int)(k M:Nat)(h:k < M):(((List.range k).map F++List.replicate (M-k) 0).map (Value.int .i64))[k]? = some (.int .i64 0):=by
 rw [show M-k=(M-(k+1))+1 by omega,List.replicate_succ,List.map_append,List.map_cons,List.getElem?_append_right (by simp)]
 simp
theorem wrap_back (m:Int)(x:Nat):wrap64 (IntKind.u64.wrap (IntKind.u64.wrap m+(x:Int)))=wrap64 (m+x):=by
 simp only [IntKind.wrap_u64];unfold wrap64;omega
set_option maxHeartbeats 1000000 in
set_option maxRecDepth 100000 in
theorem take_bad (b:Nat)(s r1 r2 r3 t:ByteArray)(bad b1 b2:Bool)(m:Int)(n M:Nat)(hM:M≤4096)(hn:n≤8)(w:World)(hT:TapeIn 154 w b s bad)
  (T1:Takes Tryz.prog 154 189 [] b s bad (.int .i64 m) r1 b1) (T2:Takes Tryz.prog 154 185 [.int .u64 8] b r1 b1 (.int .u64 n) r2 b2)
  (T3:Takes Tryz.prog 154 190 [.int .u64 ((M*n:Nat):Int)] b r2 b2 (.string t) r3 true) :
  Calls Tryz.prog 174 #[.pointer (some ⟨b,0,none⟩),.int .i64 M] w fun e w'=>e=.returned (.slice none 0 0)∧TapeIn 154 w' b r3 true∧w.grownBy w' (some b):=by
 have hg:=grown_refl w (some b)
 have hp:M*n≤4096*8:=Nat.mul_le_mul hM hn
 have e1:(M:Int)*(n:Int)=((M*n:Nat):Int):=by simp
 generalize M*n=S at hp e1 T3
 have H1:=Lib.hid T1
 have H2:=Lib.hid T2
 have H3:=Lib.hid T3
 clear T1 T2 T3
 go_enter Tryz.func174,Tryz.ntmps174
 go_wp2_with (first|(go_at_call 189;refine H1.out.step hT hg ?_;clear hT hg;intro w1 hT hg)|(go_at_call 185;refine H2.out.step hT hg ?_;clear hT hg;intro w2 hT hg)|(go_at_call 190;refine H3.out.step hT hg ?_;clear hT hg;intro w3 hT hg;have hc1:=hT.c1))
 go_ret
 exact ⟨rfl,hT,hg⟩
set_option maxHeartbeats 1000000 in
set_option maxRecDepth 100000 in
theorem take_good (b:Nat)(s r1 r2 r3 t:ByteArray)(bad b1 b2:Bool)(m:Int)(n M:Nat)(hM:M≤4096)(hn:n≤8)(ht:t.size=M*n)(w:World)(hT:TapeIn 154 w b s bad)
  (T1:Takes Tryz.prog 154 189 [] b s bad (.int .i64 m) r1 b1) (T2:Takes Tryz.prog 154 185 [.int .u64 8] b r1 b1 (.int .u64 n) r2 b2)
  (T3:Takes Tryz.prog 154 190 [.int .u64 ((M*n:Nat):Int)] b r2 b2 (.string t) r3 false) :
  Calls Tryz.prog 174 #[.pointer (some ⟨b,0,none⟩),.int .i64 M] w fun e w'=>∃ v,e=.returned v∧IntsIn w' v (rowsOf m n M t.data.toList)∧Fresh w.heap.size v∧TapeIn 154 w' b r3 false∧w.grownBy w' (some b):=by
 obtain ⟨i0,hi,hz0,hz1,hz2⟩:=info_parts Tryz.info3
 have hg:=grown_refl w (some b)
 have hp:M*n≤4096*8:=Nat.mul_le_mul hM hn
 have e1:(M:Int)*(n:Int)=((M*n:Nat):Int):=by simp
 have HS:=Lib.hid ht
 clear ht
 generalize hS:M*n=S at hp e1 T3 HS
 have HS2:=Lib.hid hS
 have H1:=Lib.hid T1
 have H2:=Lib.hid T2
 have H3:=Lib.hid T3
 clear T1 T2 T3 hS
 go_enter Tryz.func174,Tryz.ntmps174
 go_wp2_with (first|(go_at_call 189;refine H1.out.step hT hg ?_;clear hT hg;intro w1 hT hg)|(go_at_call 185;refine H2.out.step hT hg ?_;clear hT hg;intro w2 hT hg)|(go_at_call 190;refine H3.out.step hT hg ?_;clear hT hg;intro w3 hT hg;have hc1:=hT.c1)|(at_make;refine wpList_make_full _ rfl _ _ 92 rfl w.heap.size 3 i0 (.int .i64 0) 1 Tryz.underlying92 hi hz0 hz1 .i64 .i64 _ _ M rfl rfl rfl rfl (by rw [hz2];omega) (by unfold maxLen;omega) hg.size ?_))
 intro w4 hrow hg2
 have hg3:=grown_new hg hg2
 have hT3:=hT.new hg2
 have hgb:b < w3.heap.size:=hT.lt
 have hgw:w.heap.size≤w3.heap.size:=hg.size
 rw [toList_madeCells_one] at hrow
 have hO:=Own.of_row (B:=w.heap.size) hrow (by unfold maxLen;omega) (Nat.le_refl _)
 clear hrow hg2 hT hg hc1
 generalize w3.heap.size=g at *
 generalize hF:(fun i=>wrap64 (m+unle ((t.data.toList.drop (i*n)).take n)))=F
 have HF:=Lib.hid hF
 clear hF
 go_wp2
 go_loopw [38] (fun i wr=>∃ (k:Nat),k≤M∧i=.int .i64 k∧Own wr w.heap.size 1 (.slice (some ⟨g,0,none⟩) M M) M (((List.range k).map F++List.replicate (M-k) 0).map (Value.int .i64))∧TapeIn 154 wr b r3 false∧w.grownBy wr (some b)) (fun i _=>M-(intOf i).toNat)
 case atStart=>exact ⟨0,by omega,rfl,by simpa using hO,hT3,hg3⟩
 case round =>
  clear hO hT3 hg3
  obtain ⟨k,hk,rfl,hO,hT,hg⟩:=hrel
  by_cases hlt:k < M
  ·have hk1:k*n+n≤S:=by rw [←HS2.out,←Nat.succ_mul];exact Nat.mul_le_mul_right _ hlt
   have e2:(k:Int)*(n:Int)=((k*n:Nat):Int):=by simp
   have e3:((k:Int)+1)*(n:Int)=((k*n+n:Nat):Int):=by rw [Int.add_mul];simp
   have hts:S≤t.size:=by rw [HS.out];exact Nat.le_refl _
   have hLz:(t.extract (k*n) (k*n+n)).size≤8:=by rw [ByteArray.size_extract];omega
   have HLow:=Lib.hid (low_calls (t.extract (k*n) (k*n+n)) hLz)
   have hEx:Hid ((t.extract (k*n) (k*n+n)).data.toList=(t.data.toList.drop (k*n)).take n):=by
    show _=_
    rw [data_extract];congr 1;omega
   generalize hKN:k*n=KN at *
   have HKN:=Lib.hid hKN
   clear hKN hLz
   obtain ⟨_,_,_,hcv,hcell⟩:=hO.parts
   have hcl:wr.cell? ⟨g,k,none⟩=some (.int .i64 0):=by have:=hcv k _ (fill_get F k M hlt);rwa [Nat.zero_add] at this
   clear hcv
   have hFk:Hid (F k=wrap64 (m+unle ((t.data.toList.drop KN).take n))):=by show _=_;rw [←HF.out,←HKN.out]
   have hfr:wr.frozen? ⟨g,k,none⟩=false:=by have:=(hcell k (by omega)).2;rwa [Nat.zero_add] at this
   clear hcell
   go_wp2_with (go_at_call 191;refine (HLow.out _).step ?_)
   have hO':=hO.stored k (by omega) (.int .i64 (F k))
   rw [fill_set F k M hlt,Nat.zero_add] at hO'
   clear hcl hfr
   go_roundw
   case rel =>
    refine ⟨k+1,by omega,by go_num,?_,?_,?_⟩
    ·rw [wrap_back,←hFk.out];exact hO'
    ·exact hT.other (grown_set (grown_refl wr (some g)) _ _) (by omega)
    ·exact grown_own hg hgw _ _
   case measure=>simp [intOf];omega
  ·obtain rfl:k=M:=by omega
   go_wp2
   go_ret
   refine ⟨_,rfl,?_,fun k hk=>(hO.lt k hk).1,hT,hg⟩
   have h2:=hO.slice
   rw [Nat.sub_self,List.replicate_zero,List.append_nil,←HF.out] at h2
   unfold IntsIn
   rw [rowsOf_length]
   exact h2
theorem take_calls (b:Nat)(s:ByteArray)(bad:Bool)(many:Int)(hs:s.size≤9223372036854775807)(w:World)(hT:TapeIn 154 w b s bad) :
  Calls Tryz.prog 174 #[.pointer (some ⟨b,0,none⟩),.int .i64 many] w fun e w'=>∃ v,e=.returned v∧IntsIn w' v (takeT s bad many).1∧Fresh w.heap.size v∧TapeIn 154 w' b (takeT s bad many).2.1 (takeT s bad many).2.2∧w.grownBy w' (some b):=by
 by_cases h:many < 0∨4096 < many
 ·unfold takeT
  rw [if_pos h]
  exact (take_over b s bad many h w hT).mono fun _ _ ⟨he,h1,h2⟩=>⟨_,he,SliceOf.nil_ _ _ _ _,fresh_nil _,h1,h2⟩
 ·obtain ⟨M,rfl⟩:∃ M:Nat,many=(M:Int):=⟨many.toNat,by omega⟩
  have T1:=tint_calls b s bad
  have T2:=tnum_calls b (numT s bad maxU).2.1 (numT s bad maxU).2.2 8
  have hz1:=numT_size s bad maxU
  have hz2:=numT_size (numT s bad maxU).2.1 (numT s bad maxU).2.2 8
  have hn:=numT_le (numT s bad maxU).2.1 (numT s bad maxU).2.2 8 (by decide)
  have T3:=ttext_calls b (numT (numT s bad maxU).2.1 (numT s bad maxU).2.2 8).2.1 (numT (numT s bad maxU).2.1 (numT s bad maxU).2.2 8).2.2 (M*(numT (numT s bad maxU).2.1 (numT s bad maxU).2.2 8).1) (by omega)
  unfold takeT
  rw [if_neg h,Int.toNat_natCast]
  cases h3:(textT (numT (numT s bad maxU).2.1 (numT s bad maxU).2.2 8).2.1 (numT (numT s bad maxU).2.1 (numT s bad maxU).2.2 8).2.2 (M*(numT (numT s bad maxU).2.1 (numT s bad maxU).2.2 8).1)).2.2 with
  | true =>
   rw [h3] at T3
   rw [if_pos rfl]
   exact (take_bad b s _ _ _ _ bad _ _ _ _ M (by omega) (by omega) w hT T1 T2 T3).mono fun _ _ ⟨he,h1,h2⟩=>⟨_,he,SliceOf.nil_ _ _ _ _,fresh_nil _,h1,h2⟩
  | false =>
   rw [h3] at T3
   rw [if_neg (by decide)]
   exact take_good b s _ _ _ _ bad _ _ _ _ M (by omega) (by omega) (textT_good h3) w hT T1 T2 T3
theorem rowsOf_range (m:Int)(n M:Nat)(t:List UInt8):InR (rowsOf m n M t):=by
 intro x hx
 obtain ⟨i,_,rfl⟩:=List.mem_map.1 hx
 unfold wrap64
 omega
theorem takeT_range (s:ByteArray)(bad:Bool)(many:Int):InR (takeT s bad many).1:=by
 unfold takeT
 split
 ·intro x hx;simp at hx
 ·split
  ·intro x hx;simp at hx
  ·exact rowsOf_range _ _ _ _
theorem takeT_length (s:ByteArray)(bad:Bool)(many:Int):(takeT s bad many).1.length≤4096∧((takeT s bad many).2.2=false→0≤many∧many≤4096∧((takeT s bad many).1.length:Int)=many):=by
 unfold takeT
 split
 ·simp
 ·split
  ·simp
  ·rw [rowsOf_length];exact ⟨by omega,fun _=>by omega⟩
theorem takeT_size (s:ByteArray)(bad:Bool)(many:Int):(takeT s bad many).2.1.size≤s.size:=by
 have hz1:=numT_size s bad maxU
 have hz2:=numT_size (numT s bad maxU).2.1 (numT s bad maxU).2.2 8
 unfold takeT
 split
 ·exact Nat.le_refl _
 ·have:=textT_size (numT (numT s bad maxU).2.1 (numT s bad maxU).2.2 8).2.1 (numT (numT s bad maxU).2.1 (numT s bad maxU).2.2 8).2.2 (many.toNat*(numT (numT s bad maxU).2.1 (numT s bad maxU).2.2 8).1)
  split
  ·exact Nat.le_trans this (Nat.le_trans hz2 hz1)
  ·exact Nat.le_trans this (Nat.le_trans hz2 hz1)
set_option maxHeartbeats 1000000 in
set_option maxRecDepth 100000 in
theorem read_bad (b:Nat)(s:ByteArray)(bad:Bool)(many:Int)(hs:s.size≤9223372036854775807)(l:List Int)(r:ByteArray)(hrs:r.size≤s.size)
  (hk:∀ b' w,TapeIn 154 w b' s bad→Calls Tryz.prog 174 #[.pointer (some ⟨b',0,none⟩),.int .i64 many] w fun e w'=>∃ v,e=.returned v∧IntsIn w' v l∧Fresh w.heap.size v∧TapeIn 154 w' b' r true∧w.grownBy w' (some b'))
  (w:World) (hT:TapeIn 154 w b s bad) :
  Calls Tryz.prog 147 #[.pointer (some ⟨b,0,none⟩),.int .i64 many] w fun e w'=>e=.returned (.slice none 0 0)∧TapeIn 154 w' b s true∧w.grownBy w' (some b):=by
 have hc0:=hT.c0
 have hc1:=hT.c1
 have HK:=Lib.hid hk
 clear hk
 have hsz:(s.extract 0 (s.size-r.size)).size=s.size-r.size:=by rw [ByteArray.size_extract];omega
 have q1:IntKind.i64.wrap ((s.size:Int)-(r.size:Int))=(s.size:Int)-(r.size:Int):=IntWalk.i64_in _ (by omega)
 have q2:(0:Int)≤(s.size:Int)-(r.size:Int):=by omega
 have q3:((s.size:Int)-(r.size:Int)).toNat=s.size-r.size:=by omega
 have q4:(s.size:Int)-(r.size:Int)≤(s.size:Int):=by omega
 have q5:s.size-r.size≤s.size:=by omega
 go_enter Tryz.func147,Tryz.ntmps147
 go_wp2_with fail
 refine (HK.out _ _ (box_tape w s bad _)).mono ?_
 rintro e w1 ⟨v,rfl,hi,hfr,hA,hg⟩
 have hb1:Below w.heap.size w w1:=(Below.alloc (.refl _ w) (Nat.le_refl _) (.cells #[.string s,.bool bad] 154)).grown hg (by simp) (fun k hk=>by cases hk;exact Nat.le_refl _)
 have hT1:=hT.kept hb1
 have hB1:=hb1.size
 have hbw:=hT.lt
 clear hT hc0 hc1 hg
 obtain ⟨A,cap,rfl,_⟩:=one_at hi
 have c0:=hT1.c0
 have c1:=hT1.c1
 have a0:=hA.c0
 have a1:=hA.c1
 have f0:=hT1.f0 0
 have f1:=hT1.f0 1
 go_wp2
 go_quiet (fail)
 go_wp2
 go_ret
 exact ⟨rfl,(hT1.drewN _).set1 _,grown_set (grown_below (below_drewN hb1 _) _) _ _⟩
theorem GivesAt.drewN {P:Program}{f:FuncId}{args:Array Value}{w:World}{n:Nat}{v:Value}(h:GivesAt P f args (w.drewN n) v){B:Nat}{w0:World}(hb:Below B w0 w)(hB:B≤w.heap.size)
  {R:Ending→World→Prop} (k:∀ w',Below B w0 w'→Below w.heap.size w w'→R (.returned v) w'):Calls P f args (w.drewN n) R :=
 Calls.mono h fun _ _ ⟨he,hw⟩=>he▸k _ ((below_drewN hb n).trans (hw.mono hB)) ((below_drewN (.refl _ w) n).trans hw)
set_option maxHeartbeats 1000000 in
set_option maxRecDepth 100000 in
theorem read_no (b:Nat)(s:ByteArray)(bad:Bool)(many:Int)(hs:s.size≤9223372036854775807)(l:List Int)(r:ByteArray)(hl:l.length≤4096)(hr:InR l)(hrs:r.size≤s.size)
  (h1:((shelfB l).toList==(s.extract 0 (s.size-r.size)).toList)=false) (_h2:((shelfB l).toList != (s.extract 0 (s.size-r.size)).toList)=true)
  (hk:∀ b' w,TapeIn 154 w b' s bad→Calls Tryz.prog 174 #[.pointer (some ⟨b',0,none⟩),.int .i64 many] w fun e w'=>∃ v,e=.returned v∧IntsIn w' v l∧Fresh w.heap.size v∧TapeIn 154 w' b' r false∧w.grownBy w' (some b'))
  (w:World) (hT:TapeIn 154 w b s bad) :
  Calls Tryz.prog 147 #[.pointer (some ⟨b,0,none⟩),.int .i64 many] w fun e w'=>e=.returned (.slice none 0 0)∧TapeIn 154 w' b s true∧w.grownBy w' (some b):=by
 have hc0:=hT.c0
 have hc1:=hT.c1
 have HK:=Lib.hid hk
 clear hk
 have hsz:(s.extract 0 (s.size-r.size)).size=s.size-r.size:=by rw [ByteArray.size_extract];omega
 have q1:IntKind.i64.wrap ((s.size:Int)-(r.size:Int))=(s.size:Int)-(r.size:Int):=IntWalk.i64_in _ (by omega)
 have q2:(0:Int)≤(s.size:Int)-(r.size:Int):=by omega
 have q3:((s.size:Int)-(r.size:Int)).toNat=s.size-r.size:=by omega
 have q4:(s.size:Int)-(r.size:Int)≤(s.size:Int):=by omega
 have q5:s.size-r.size≤s.size:=by omega
 go_enter Tryz.func147,Tryz.ntmps147
 go_wp2_with fail
 refine (HK.out _ _ (box_tape w s bad _)).mono ?_
 rintro e w1 ⟨v,rfl,hi,hfr,hA,hg⟩
 have hb1:Below w.heap.size w w1:=(Below.alloc (.refl _ w) (Nat.le_refl _) (.cells #[.string s,.bool bad] 154)).grown hg (by simp) (fun k hk=>by cases hk;exact Nat.le_refl _)
 have hT1:=hT.kept hb1
 have hB1:=hb1.size
 have hbw:=hT.lt
 clear hT hc0 hc1 hg
 obtain ⟨A,cap,rfl,_⟩:=one_at hi
 have c0:=hT1.c0
 have c1:=hT1.c1
 have a0:=hA.c0
 have a1:=hA.c1
 have f0:=hT1.f0 0
 have f1:=hT1.f0 1
 go_wp2
 go_quiet (fail)
 go_wp2_with (go_at_call 83;refine (shelf_print_calls (hi.drewN _) hr hl).drewN hb1 hB1 ?_)
 intro w2 hb2 hk2
 have hT2:=hT1.kept hk2
 clear c0 c1 a0 a1 f0 f1 hT1 hA hi
 have c1:=hT2.c1
 have f1:=hT2.f0 1
 go_wp2
 go_ret
 exact ⟨rfl,hT2.set1 _,grown_set (grown_below hb2 _) _ _⟩
set_option maxHeartbeats 1000000 in
set_option maxRecDepth 100000 in
theorem read_yes (b:Nat)(s:ByteArray)(bad:Bool)(many:Int)(hs:s.size≤9223372036854775807)(l:List Int)(r:ByteArray)(hl:l.length≤4096)(hr:InR l)(hrs:r.size≤s.size)
  (h1:((shelfB l).toList==(s.extract 0 (s.size-r.size)).toList)=true) (_h2:((shelfB l).toList != (s.extract 0 (s.size-r.size)).toList)=false)
  (hk:∀ b' w,TapeIn 154 w b' s bad→Calls Tryz.prog 174 #[.pointer (some ⟨b',0,none⟩),.int .i64 many] w fun e w'=>∃ v,e=.returned v∧IntsIn w' v l∧Fresh w.heap.size v∧TapeIn 154 w' b' r false∧w.grownBy w' (some b'))
  (w:World) (hT:TapeIn 154 w b s bad) :
  Calls Tryz.prog 147 #[.pointer (some ⟨b,0,none⟩),.int .i64 many] w fun e w'=>∃ v,e=.returned v∧IntsIn w' v l∧Fresh w.heap.size v∧TapeIn 154 w' b r false∧w.grownBy w' (some b):=by
 have hc0:=hT.c0
 have hc1:=hT.c1
 have HK:=Lib.hid hk
 clear hk
 have hsz:(s.extract 0 (s.size-r.size)).size=s.size-r.size:=by rw [ByteArray.size_extract];omega
 have q1:IntKind.i64.wrap ((s.size:Int)-(r.size:Int))=(s.size:Int)-(r.size:Int):=IntWalk.i64_in _ (by omega)
 have q2:(0:Int)≤(s.size:Int)-(r.size:Int):=by omega
 have q3:((s.size:Int)-(r.size:Int)).toNat=s.size-r.size:=by omega
 have q4:(s.size:Int)-(r.size:Int)≤(s.size:Int):=by omega
 have q5:s.size-r.size≤s.size:=by omega
 go_enter Tryz.func147,Tryz.ntmps147
 go_wp2_with fail
 refine (HK.out _ _ (box_tape w s bad _)).mono ?_
 rintro e w1 ⟨v,rfl,hi,hfr,hA,hg⟩
 have hb1:Below w.heap.size w w1:=(Below.alloc (.refl _ w) (Nat.le_refl _) (.cells #[.string s,.bool bad] 154)).grown hg (by simp) (fun k hk=>by cases hk;exact Nat.le_refl _)
 have hT1:=hT.kept hb1
 have hB1:=hb1.size
 have hbw:=hT.lt
 clear hT hc0 hc1 hg
 obtain ⟨A,cap,rfl,_⟩:=one_at hi
 have c0:=hT1.c0
 have c1:=hT1.c1
 have a0:=hA.c0
 have a1:=hA.c1
 have f0:=hT1.f0 0
 have f1:=hT1.f0 1
 go_wp2
 go_quiet (fail)
 go_wp2_with (go_at_call 83;refine (shelf_print_calls (hi.drewN _) hr hl).drewN hb1 hB1 ?_)
 intro w2 hb2 hk2
 have hT2:=hT1.kept hk2
 have hA2:=hA.kept hk2
 have hi2:=IntsIn.kept hi hk2
 clear c0 c1 a0 a1 f0 f1 hT1 hA hi
 have c0:=hT2.c0
 have c1:=hT2.c1
 have a0:=hA2.c0
 have a1:=hA2.c1
 have f0:=hT2.f0 0
 have f1:=hT2.f0 1
 go_wp2
 go_ret
 have hfr':Fresh (w.heap.size+1) (.slice A l.length cap):=by simpa using hfr
 refine ⟨_,rfl,?_,hfr'.mono (by omega),(hT2.set0 _).set1 _,grown_set (grown_set (grown_below hb2 _) _ _) _ _⟩
 exact SliceOf.fresh hi2 hfr' (grown_set (grown_set (grown_refl w2 (some b)) 0 (.string r)) 1 (.bool false)) (by omega)
theorem takeT_suf (s:ByteArray)(bad:Bool)(many:Int):Suf (takeT s bad many).2.1 s:=by
 have h1:=numT_suf s bad maxU
 have h2:=numT_suf (numT s bad maxU).2.1 (numT s bad maxU).2.2 8
 have h3:=textT_suf (numT (numT s bad maxU).2.1 (numT s bad maxU).2.2 8).2.1 (numT (numT s bad maxU).2.1 (numT s bad maxU).2.2 8).2.2 (many.toNat*(numT (numT s bad maxU).2.1 (numT s bad maxU).2.2 8).1)
 unfold takeT
 split
 ·exact .refl s
 ·split
  ·exact h3.trans (h2.trans h1)
  ·exact h3.trans (h2.trans h1)
theorem rowsOf_rows (m:Int)(n:Nat):∀ (l:List Int)(r:List UInt8),InR l→(∀ x∈l,dist x m < 256 ^ n)→rowsOf m n l.length (rowsP m n l++r)=l
 | [],_,_,_=>rfl
 | x::l,r,hr,hd=>by
  have ih:=rowsOf_rows m n l r (fun y hy=>hr y (List.mem_cons_of_mem _ hy)) (fun y hy=>hd y (List.mem_cons_of_mem _ hy))
  have hx:=hr x List.mem_cons_self
  unfold rowsOf at ih ⊢
  unfold rowsP at ih ⊢
  rw [List.length_cons,List.range_succ_eq_map,List.map_cons,List.map_map,List.flatMap_cons,List.append_assoc]
  have hl:=le_length n (dist x m)
  congr 1
  ·rw [Nat.zero_mul,List.drop_zero,List.take_append_of_le_length (by omega),List.take_of_length_le (by omega),unle_le,Nat.mod_eq_of_lt (hd x List.mem_cons_self)]
   exact dist_back x m hx.1 hx.2
  ·conv=>rhs;rw [←ih]
   apply List.map_congr_left
   intro i _
   simp only [Function.comp]
   rw [Nat.succ_mul,Nat.add_comm,←List.drop_drop,List.drop_append_of_le_length (by omega),show (le n (dist x m)).drop n=[] from List.drop_of_length_le (by omega),List.nil_append]
theorem takeT_at {s:ByteArray}{many:Int}{l:List Int}{r:List UInt8}(h:ShelfAt s.data.toList many l r):takeT s false many=(l,mkB r,false)∧shelfB l=s.extract 0 (s.size-(mkB r).size):=by
 obtain ⟨h0,h1,hlen,hr,hs⟩:=h
 have hF:=foldI_nat l hr
 have hn:=bytesFrom_le_8 (leastI l) l
 have hn':bytesL l≤8:=hn
 have hd:=bytesFrom_lt (leastI l) l
 have hrow:=rowsP_length (leastI l) (bytesL l) l
 have es:s=printB (foldI (leastI l)).toNat++(printB (bytesL l)++(mkB (rowsP (leastI l) (bytesL l) l)++mkB r)):=by
  apply bytes_ext
  rw [hs,data_append,data_append,data_append,print_data,print_data,mkB_data,mkB_data]
  unfold shelfP
  simp only [List.append_assoc]
 constructor
 ·have e1:=numT_print (foldI (leastI l)).toNat hF (printB (bytesL l)++(mkB (rowsP (leastI l) (bytesL l) l)++mkB r)) maxU (by unfold maxU;omega)
  rw [←es] at e1
  have e2:=numT_print (bytesL l) (by omega) (mkB (rowsP (leastI l) (bytesL l) l)++mkB r) 8 (by omega)
  have hM:many.toNat=l.length:=by omega
  have hsz:(mkB (rowsP (leastI l) (bytesL l) l)++mkB r).size=bytesL l*l.length+r.length:=by rw [ByteArray.size_append,mkB_size,mkB_size,hrow]
  have e3:textT (mkB (rowsP (leastI l) (bytesL l) l)++mkB r) false (l.length*bytesL l)=(mkB (rowsP (leastI l) (bytesL l) l),mkB r,false):=by
   unfold textT
   rw [if_neg (by decide),if_pos (by rw [hsz,Nat.mul_comm];omega)]
   have hq:l.length*bytesL l=(rowsP (leastI l) (bytesL l) l).length:=by rw [hrow,Nat.mul_comm]
   congr 1
   ·apply bytes_ext
    rw [data_extract,data_append,mkB_data,mkB_data,hq]
    simp
   ·congr 1
    apply bytes_ext
    rw [data_extract,data_append,mkB_data,mkB_data,hsz,hq,hrow]
    rw [←hrow]
    simp
  unfold takeT
  rw [if_neg (by omega),e1]
  simp only []
  rw [e2]
  simp only []
  rw [hM,e3,open_fold]
  simp only [Bool.false_eq_true,if_false]
  have e4:=rowsOf_rows (leastI l) (bytesL l) l [] hr hd
  rw [List.append_nil] at e4
  rw [mkB_data,e4]
 ·apply bytes_ext
  rw [data_extract,mkB_size,hs,shelfB_data]
  have:s.size=(shelfP l).length+r.length:=by rw [←data_size,hs,List.length_append]
  rw [this]
  simp
theorem takeT_back {s:ByteArray}{many:Int}(h:(takeT s false many).2.2=false)(he:shelfB (takeT s false many).1=s.extract 0 (s.size-(takeT s false many).2.1.size)) :
  ShelfAt s.data.toList many (takeT s false many).1 (takeT s false many).2.1.data.toList:=by
 obtain ⟨a,b,c⟩:=(takeT_length s false many).2 h
 refine ⟨a,b,c,takeT_range s false many,?_⟩
 rw [←shelfB_data,he]
 exact (takeT_suf s false many).split.1
def TakesInts (P:Program)(T:TypeId)(f:FuncId)(more:List Value)(b:Nat)(s:ByteArray)(l:List Int)(s':ByteArray):Prop :=
 ∀ w:World,TapeIn T w b s false→Calls P f (Value.pointer (some ⟨b,0,none⟩)::more).toArray w fun e w'=>∃ v,e=.returned v∧IntsIn w' v l∧Fresh w.heap.size v∧TapeIn T w' b s' false∧w.grownBy w' (some b)
theorem shelf_read_some (b:Nat)(s:ByteArray)(hs:s.size≤9223372036854775807){many:Int}{l:List Int}{r:List UInt8}(h:ShelfAt s.data.toList many l r) :
  TakesInts Tryz.prog 154 147 [.int .i64 many] b s l (mkB r):=by
 intro w hT
 obtain ⟨e1,e2⟩:=takeT_at h
 have hl:=(takeT_length s false many).1
 have hz:=takeT_size s false many
 have hc:=fun b' w=>take_calls b' s false many hs w
 rw [e1] at hl hz
 simp only [e1] at hc
 rcases str_ne_cases (shelfB l) (s.extract 0 (s.size-(mkB r).size)) with ⟨_,g1,g2⟩ | ⟨g,_⟩
 ·exact read_yes b s false many hs l (mkB r) hl h.2.2.2.1 hz g1 g2 hc w hT
 ·exact absurd e2 g
theorem shelf_read_none (b:Nat)(s:ByteArray)(hs:s.size≤9223372036854775807)(many:Int)(h:¬∃ l r,ShelfAt s.data.toList many l r) :
  Takes Tryz.prog 154 147 [.int .i64 many] b s false (.slice none 0 0) s true:=by
 intro w hT
 have hl:=(takeT_length s false many).1
 have hr:=takeT_range s false many
 have hz:=takeT_size s false many
 have hc:=fun b' w=>take_calls b' s false many hs w
 have hbk:=@takeT_back s many
 generalize takeT s false many=X at *
 obtain ⟨l,r,bad'⟩:=X
 cases bad' with
 | true=>exact read_bad b s false many hs l r hz hc w hT
 | false =>
  rcases str_ne_cases (shelfB l) (s.extract 0 (s.size-r.size)) with ⟨g,_⟩ | ⟨_,g1,g2⟩
  ·exact absurd ⟨_,_,hbk rfl g⟩ h
  ·exact read_no b s false many hs l r hl hr hz g1 g2 hc w hT
theorem shelf_read_badtape (b:Nat)(s:ByteArray)(hs:s.size≤9223372036854775807)(many:Int) :
  Takes Tryz.prog 154 147 [.int .i64 many] b s true (.slice none 0 0) s true:=by
 intro w hT
 have hz:=takeT_size s true many
 have hc:=fun b' w=>take_calls b' s true many hs w
 have hb:(takeT s true many).2.2=true:=by
  have n1:∀ m,numT s true m=(0,s,true):=fun m=>rfl
  have t1:∀ n,textT s true n=(⟨#[]⟩,s,true):=fun n=>rfl
  unfold takeT
  split
  ·rfl
  ·rw [n1,n1,t1];rfl
 generalize takeT s true many=X at *
 obtain ⟨l,r,bad'⟩:=X
 simp only at hb
 subst hb
 exact read_bad b s true many hs l r hz hc w hT
theorem unle_drop (l:List UInt8)(k:Nat)(h:k < l.length):unle (l.drop k)=l[k].toNat+256*unle (l.drop (k+1)):=by
 rw [List.drop_eq_getElem_cons h];rfl
theorem shelf_or_byte (u b:Nat)(hu:u < 72057594037927936)(hb:b < 256):bits .or .u64 (((u*256:Nat):Int)) (b:Int)=((b+256*u:Nat):Int):=by
 have hor:=Nat.two_pow_add_eq_or_of_lt (i:=8) (b:=b) (by omega) u
 rw [bits_or_u64_nat _ _ (by omega) (by omega)]
 have e:u*256=2 ^ 8*u:=by omega
 rw [e,←hor]
 congr 1
 omega
theorem unle_back (s:ByteArray)(J:Nat)(h:J < s.size)(h8:s.size≤8) :
  bits .or .u64 (IntKind.u64.wrap ((unle (s.data.toList.drop (J+1)):Int)*256)) (s[J].toNat:Int)=(unle (s.data.toList.drop J):Int)∧bits .or .u64 (IntKind.u64.wrap ((unle (s.data.toList.drop (J+1)):Int)*256)) (IntKind.u64.wrap (s[J].toNat:Int))=(unle (s.data.toList.drop J):Int):=by
 have hl:J < s.data.toList.length:=by rw [data_size];exact h
 have hb:=s[J].toNat_lt
 have hv:=unle_lt (s.data.toList.drop (J+1))
 have hp:(256:Nat) ^ (s.data.toList.drop (J+1)).length≤256 ^ 7:=Nat.pow_le_pow_right (by decide) (by rw [List.length_drop,data_size];omega)
 have e7:(256:Nat) ^ 7=72057594037927936:=by decide
 have hk:=shelf_or_byte (unle (s.data.toList.drop (J+1))) s[J].toNat (by omega) (by omega)
 have eb:s.data.toList[J]=s[J]:=rfl
 rw [unle_drop _ _ hl,eb]
 have ew:IntKind.u64.wrap ((unle (s.data.toList.drop (J+1)):Int)*256)=((unle (s.data.toList.drop (J+1))*256:Nat):Int):=by
  rw [IntKind.wrap_u64];omega
 rw [ew,wrap_lt s[J].toNat (by omega)]
 exact ⟨hk,hk⟩
theorem textT_next {r r2:ByteArray}{n k:Nat}(h1:k*n≤r2.size)(h2:r.size=r2.size-k*n)(h:(textT r false n).2.2=false):(k+1)*n≤r2.size∧(textT r false n).2.1.size=r2.size-(k+1)*n:=by
 unfold textT at h ⊢
 rw [if_neg (by decide)] at h ⊢
 split at h
 ·rename_i hn
  rw [if_pos hn,Nat.succ_mul]
  refine ⟨by omega,?_⟩
  show (r.extract n r.size).size=_
  rw [ByteArray.size_extract];omega
 ·simp at h
def predI:Nat→Int
 | 0=>-1
 | j+1=>(j:Int)
theorem predI_eq (j:Nat):predI j=(j:Int)-1:=by cases j with|zero=>rfl|succ j=>show (j:Int)=((j+1:Nat):Int)-1;omega
set_option maxHeartbeats 1000000 in
set_option maxRecDepth 100000 in
theorem ref_read_short (b:Nat)(s r1 r2:ByteArray)(bad b1:Bool)(m:Int)(n:Nat)(many:Int)(hn:n≤8)(hs:r2.size≤9223372036854775807)(w:World)(hT:TapeIn 105 w b s bad)
  (T1:Takes Tryz.prog 105 119 [] b s bad (.int .i64 m) r1 b1) (T2:Takes Tryz.prog 105 120 [.int .u64 8] b r1 b1 (.int .u64 n) r2 false)
  (M:Nat) (hM:(M:Int)≤many) (hM2:M≤4097) (hsh:r2.size < M*n) :
  Calls Tryz.prog 88 #[.pointer (some ⟨b,0,none⟩),.int .i64 many] w fun e w'=>∃ r',e=.returned (.slice none 0 0)∧TapeIn 105 w' b r' true∧w.grownBy w' (some b):=by
 obtain ⟨i0,hi,hz0,hz1,hz2⟩:=info_parts Tryz.info3
 have hg:=grown_refl w (some b)
 have H1:=Lib.hid T1
 have H2:=Lib.hid T2
 have HSH:=Lib.hid hsh
 have hbw:=hT.lt
 clear T1 T2 hsh
 go_enter Tryz.func88,Tryz.ntmps88
 go_wp2_with (first|(go_at_call 119;refine H1.out.step hT hg ?_;clear hT hg;intro w1 hT hg)|(go_at_call 120;refine H2.out.step hT hg ?_;clear hT hg;intro w2 hT hg;have c0:=hT.c0))
 clear c0
 go_loopw [7,9] (fun v i wr=>∃ (k:Nat) (r:ByteArray) (c:Bool) (xs:List Value),k≤4097∧i=.int .i64 k∧Own wr w.heap.size 1 v k xs∧TapeIn 105 wr b r c∧w.grownBy wr (some b)∧r.size≤r2.size∧Hid (c=false→k*n≤r2.size∧r.size=r2.size-k*n)) (fun _ i _=>4097-(intOf i).toNat)
 case atStart=>exact ⟨0,r2,false,[],by omega,rfl,Own.nil_ _ _ _,hT,hg,Nat.le_refl _,fun _=>by omega⟩
 case round =>
  clear hT hg
  obtain ⟨k,r,c,xs,hk,rfl,hO,hT,hg,hrz,HC⟩:=hrel
  cases c with
  | true =>
   have c1:=hT.c1
   have f1:=hT.f0 1
   by_cases g1:(k:Int) < many <;> by_cases g2:k≤4096
   all_goals
    go_wp2
    go_quiet (fail)
    go_wp2
    go_ret
    exact ⟨r,rfl,(hT.drewN _).set1 _,grown_set (grown_drewN hg _) _ _⟩
  | false =>
   obtain ⟨hk1,hk2⟩:=HC.out rfl
   by_cases hd:(k:Int) < many∧k≤4096
   ·obtain ⟨g1,g2⟩:=hd
    have c1:=hT.c1
    have T3:=ref_ttext_calls b r false n (by omega)
    have hts:=textT_le r false n
    have hrz':=textT_size r false n
    have HN:Hid ((textT r false n).2.2=false→(k+1)*n≤r2.size∧(textT r false n).2.1.size=r2.size-(k+1)*n):=fun hx=>textT_next hk1 hk2 hx
    generalize textT r false n=X at T3 hts HN hrz'
    obtain ⟨t,r',c'⟩:=X
    simp only at T3 hts HN hrz'
    have HT3:=Lib.hid T3
    have ht8:t.size≤8:=by omega
    clear T3 HC hk1 hk2 hts
    go_wp2_with (go_at_call 121;refine HT3.out.stepG hT hg ?_;clear hT hg c1;intro w3 hT hg hgg)
    have hO':=hO.other hgg (fun q hq e=>by have:=(hO.lt q hq).1;cases e;omega)
    clear hO hgg
    go_loop [11,12] (fun u q=>∃ J:Nat,J≤t.size∧q=.int .i64 (predI J)∧u=.int .u64 (unle (t.data.toList.drop J))) (fun _ q=>(intOf q+1).toNat)
    case atStart=>exact ⟨t.size,Nat.le_refl _,by rw [predI_eq],by rw [List.drop_of_length_le (by rw [data_size];exact Nat.le_refl _)];rfl⟩
    case round =>
     obtain ⟨J,hJ,rfl,rfl⟩:=hrel
     cases J with
     | zero =>
      have e0:predI 0 = -1:=rfl
      go_wp2_with (at_builtin;refine wpList_append_Own rfl _ _ 92 rfl 3 i0 (.int .i64 0) 1 8 Tryz.underlying92 hi hz0 hz1 hz2 rfl (by decide) _ _ _ rfl (Own.alloc hO' _) ⟨w3.heap.size,0,none⟩ 1 1 [_] rfl rfl (one_new _ _ _) (one_int _ _) ?c1 ?c2 (Nat.le_trans hg.size (by simp)) ?_)
      case c1=>unfold maxLen;omega
      case c2=>omega
      intro v' w4 hO4 hg4
      have hT4:=(hT.alloc _).appended (Own.alloc hO' _) hbw hg4
      have hg5:=grown_appended (grown_alloc hg _) (Own.alloc hO' _) hg4
      clear hT hg hg4 hO'
      go_wp2
      go_roundw
      case rel=>exact ⟨k+1,r',c',_,by omega,by go_num,hO4,hT4,hg5,by omega,HN⟩
      case measure=>simp [intOf];omega
     | succ j =>
      have e1:predI (j+1)=(j:Int):=rfl
      have HB:=Lib.hid (unle_back t j (by omega) ht8)
      go_wp2
      go_round
      case rel=>exact ⟨j,by omega,by rw [predI_eq],by first|rw [HB.out.1]|rw [HB.out.2]⟩
      case measure=>simp [intOf];omega
   ·exfalso
    have:M≤k:=by omega
    have:=Nat.mul_le_mul_right n this
    have:=HSH.out
    omega
def RefPost (T:TypeId)(w:World)(b:Nat)(ok:Prop)(l:List Int)(r:ByteArray)(e:Ending)(w':World):Prop :=
 (ok∧∃ v,e=.returned v∧IntsIn w' v l∧Fresh w.heap.size v∧TapeIn T w' b r false∧w.grownBy w' (some b))∨(¬ok∧∃ r',e=.returned (.slice none 0 0)∧TapeIn T w' b r' true∧w.grownBy w' (some b))
theorem RefPost.yes {T:TypeId}{w w':World}{b:Nat}{ok:Prop}{l l':List Int}{r r':ByteArray}{v:Value}(h:ok)(hl:l=l')(hr:r=r')(h1:IntsIn w' v l')(h2:Fresh w.heap.size v)(h3:TapeIn T w' b r' false)(h4:w.grownBy w' (some b)) :
  RefPost T w b ok l r (.returned v) w':=by subst hl;subst hr;exact .inl ⟨h,v,rfl,h1,h2,h3,h4⟩
theorem RefPost.no {T:TypeId}{w w':World}{b:Nat}{ok:Prop}{l:List Int}{r r':ByteArray}(h:¬ok)(h3:TapeIn T w' b r' true)(h4:w.grownBy w' (some b)) :
  RefPost T w b ok l r (.returned (.slice none 0 0)) w':=.inr ⟨h,r',rfl,h3,h4⟩
theorem ok_yes {k:Int}{l l':List Int}{m:Int}{n:Nat}{F:Nat}{r2 rr rr':ByteArray}(h4:k≤4096)(hl:l=l')(hm:leastI l'=m)(hn:bytesL l'=n)(hF:(foldI m).toNat=F)(hr:rr=rr')(he:shelfB l'=printB F++printB n++r2.extract 0 (r2.size-rr'.size)) :
  k≤4096∧leastI l=m∧bytesL l=n∧shelfB l=printB (foldI m).toNat++printB n++r2.extract 0 (r2.size-rr.size):=by
 subst hl;subst hr;subst hF;exact ⟨h4,hm,hn,he⟩
theorem ok_no {k:Int}{l l':List Int}{m:Int}{n:Nat}{F:Nat}{r2 rr rr':ByteArray}(hl:l=l')(hF:(foldI m).toNat=F)(hr:rr=rr')(he:shelfB l'≠printB F++printB n++r2.extract 0 (r2.size-rr'.size)) :
  ¬(k≤4096∧leastI l=m∧bytesL l=n∧shelfB l=printB (foldI m).toNat++printB n++r2.extract 0 (r2.size-rr.size)):=by
 subst hl;subst hr;subst hF;exact fun h=>he h.2.2.2
theorem rowsOf_step (m:Int)(n k:Nat)(t:List UInt8):(rowsOf m n (k+1) t).map (Value.int .i64)=(rowsOf m n k t).map (Value.int .i64)++[.int .i64 (wrap64 (m+unle ((t.drop (k*n)).take n)))]:=by
 unfold rowsOf
 rw [List.range_succ,List.map_append,List.map_append];rfl
theorem textT_at (r2:ByteArray)(k n:Nat)(h:(k+1)*n≤r2.size):textT (r2.extract (k*n) r2.size) false n=(mkB ((r2.data.toList.drop (k*n)).take n),r2.extract ((k+1)*n) r2.size,false):=by
 rw [Nat.succ_mul] at h ⊢
 have hz:(r2.extract (k*n) r2.size).size=r2.size-k*n:=by rw [ByteArray.size_extract];omega
 unfold textT
 rw [if_neg (by decide),if_pos (by omega),hz]
 congr 1
 ·apply bytes_ext
  rw [data_extract,data_extract,mkB_data,List.drop_zero,Nat.sub_zero,List.take_take]
  congr 1;omega
 ·congr 1
  apply bytes_ext
  rw [data_extract,data_extract,data_extract,List.drop_take,List.drop_drop,List.take_take]
  congr 1;omega
set_option maxHeartbeats 8000000 in
set_option maxRecDepth 100000 in
theorem ref_read_full (b:Nat)(s r1 r2:ByteArray)(bad b1:Bool)(m:Int)(n:Nat)(many:Int)(hn:n≤8)(hs:r2.size≤1000000000000)(w:World)(hT:TapeIn 105 w b s bad)
  (T1:Takes Tryz.prog 105 119 [] b s bad (.int .i64 m) r1 b1) (T2:Takes Tryz.prog 105 120 [.int .u64 8] b r1 b1 (.int .u64 n) r2 false)
  (M:Nat) (hM:(M:Int)≤many) (hM2:M≤4097) (hM3:(M:Int)=many∨M=4097) (hen:M*n≤r2.size) :
  Calls Tryz.prog 88 #[.pointer (some ⟨b,0,none⟩),.int .i64 many] w fun e w' =>
   RefPost 105 w b (many≤4096∧leastI (rowsOf m n M r2.data.toList)=m∧bytesL (rowsOf m n M r2.data.toList)=n ∧
    shelfB (rowsOf m n M r2.data.toList)=printB (foldI m).toNat++printB n++r2.extract 0 (r2.size-(r2.extract (M*n) r2.size).size)) (rowsOf m n M r2.data.toList) (r2.extract (M*n) r2.size) e w':=by
 obtain ⟨i0,hi,hz0,hz1,hz2⟩:=info_parts Tryz.info3
 have hg:=grown_refl w (some b)
 have H1:=Lib.hid T1
 have H2:=Lib.hid T2
 have HEN:=Lib.hid hen
 have HM3:=Lib.hid hM3
 have hbw:=hT.lt
 clear T1 T2 hen hM3
 go_enter Tryz.func88,Tryz.ntmps88
 go_wp2_with (first|(go_at_call 119;refine H1.out.step hT hg ?_;clear hT hg;intro w1 hT hg)|(go_at_call 120;refine H2.out.step hT hg ?_;clear hT hg;intro w2 hT hg;have c0:=hT.c0))
 clear c0
 go_loopw [7,9] (fun v i wr=>∃ (k:Nat),k≤M∧i=.int .i64 k∧Own wr w.heap.size 1 v k ((rowsOf m n k r2.data.toList).map (Value.int .i64))∧TapeIn 105 wr b (r2.extract (k*n) r2.size) false∧w.grownBy wr (some b)) (fun _ i _=>M-(intOf i).toNat)
 case atStart=>exact ⟨0,by omega,rfl,Own.nil_ _ _ _,by rw [Nat.zero_mul,show r2.extract 0 r2.size=r2 from bytes_ext (by rw [data_extract,List.drop_zero,List.take_of_length_le (by rw [data_size];omega)])];exact hT,hg⟩
 case round =>
  clear hT hg
  obtain ⟨k,hk,rfl,hO,hT,hg⟩:=hrel
  have c1:=hT.c1
  by_cases hd:k < M
  ·have g1:(k:Int) < many:=by omega
   have g2:k≤4096:=by omega
   have hkn:(k+1)*n≤r2.size:=Nat.le_trans (Nat.mul_le_mul_right n hd) HEN.out
   have T3:=ref_ttext_calls b (r2.extract (k*n) r2.size) false n (by rw [ByteArray.size_extract];omega)
   rw [textT_at r2 k n hkn] at T3
   have HT3:=Lib.hid T3
   have ht8:(mkB ((r2.data.toList.drop (k*n)).take n)).size≤8:=by rw [mkB_size,List.length_take];omega
   have HR:=Lib.hid (rowsOf_step m n k r2.data.toList)
   have ed:(mkB ((r2.data.toList.drop (k*n)).take n)).data.toList=(r2.data.toList.drop (k*n)).take n:=mkB_data _
   rw [←ed] at HR
   clear T3 ed hkn
   generalize mkB ((r2.data.toList.drop (k*n)).take n)=t at HT3 ht8 HR
   go_wp2_with (go_at_call 121;refine HT3.out.stepG hT hg ?_;clear hT hg c1;intro w3 hT hg hgg)
   have hO':=hO.other hgg (fun q hq e=>by have:=(hO.lt q hq).1;cases e;omega)
   clear hO hgg
   go_loop [11,12] (fun u q=>∃ J:Nat,J≤t.size∧q=.int .i64 (predI J)∧u=.int .u64 (unle (t.data.toList.drop J))) (fun _ q=>(intOf q+1).toNat)
   case atStart=>exact ⟨t.size,Nat.le_refl _,by rw [predI_eq],by rw [List.drop_of_length_le (by rw [data_size];exact Nat.le_refl _)];rfl⟩
   case round =>
    obtain ⟨J,hJ,rfl,rfl⟩:=hrel
    cases J with
    | zero =>
     have e0:predI 0 = -1:=rfl
     have HWB:=Lib.hid (wrap_back m (unle t.data.toList))
     go_wp2_with (at_builtin;refine wpList_append_Own rfl _ _ 92 rfl 3 i0 (.int .i64 0) 1 8 Tryz.underlying92 hi hz0 hz1 hz2 rfl (by decide) _ _ _ rfl (Own.alloc hO' _) ⟨w3.heap.size,0,none⟩ 1 1 [_] rfl rfl (one_new _ _ _) (one_int _ _) ?c1 ?c2 (Nat.le_trans hg.size (by simp)) ?_)
     case c1=>unfold maxLen;omega
     case c2=>omega
     intro v' w4 hO4 hg4
     have hT4:=(hT.alloc _).appended (Own.alloc hO' _) hbw hg4
     have hg5:=grown_appended (grown_alloc hg _) (Own.alloc hO' _) hg4
     clear hT hg hg4 hO'
     go_wp2
     go_roundw
     case rel=>exact ⟨k+1,by omega,by go_num,by rw [HR.out];first|exact hO4|(rw [←HWB.out];exact hO4),hT4,hg5⟩
     case measure=>simp [intOf];omega
    | succ j =>
     have e1:predI (j+1)=(j:Int):=rfl
     have HB:=Lib.hid (unle_back t j (by omega) ht8)
     go_wp2
     go_round
     case rel=>exact ⟨j,by omega,by rw [predI_eq],by first|rw [HB.out.1]|rw [HB.out.2]⟩
     case measure=>simp [intOf];omega
  ·obtain rfl:k=M:=by omega
   by_cases g4:many≤4096
   ·obtain rfl:many=(k:Int):=by have:=HM3.out;omega
    obtain ⟨A,cap,rfl⟩:=hO.len
    have hl:=hO.slice
    have hfr:Fresh w.heap.size (.slice A k cap):=fun q hq=>(hO.lt q hq).1
    have hlen:=rowsOf_length m n k r2.data.toList
    have hR:=rowsOf_range m n k r2.data.toList
    clear hO
    generalize hLR:rowsOf m n k r2.data.toList=l at hl hlen hR
    have HLR:=Lib.hid hLR
    clear hLR
    have hl':IntsIn wr (.slice A k cap) l:=by unfold IntsIn;rw [hlen];exact hl
    clear hl
    subst hlen
    have d0:decide ((l.length:Int) < 0)=false:=by rw [decide_eq_false_iff_not];omega
    have d1:decide (4096 < (l.length:Int))=false:=by rw [decide_eq_false_iff_not];omega
    have c0:=hT.c0
    have f1:=hT.f0 1
    have Hrr:Hid ((r2.extract (l.length*n) r2.size).size≤r2.size):=by show _≤_;rw [ByteArray.size_extract];omega
    generalize hRR:r2.extract (l.length*n) r2.size=rr at hT Hrr c0
    have HRR:=Lib.hid hRR
    clear hRR
    have L1:=Lib.hid (ref_least_calls hl')
    have L2:=Lib.hid (ref_bytes_calls hl')
    by_cases e1:leastI l=m
    ·subst e1
     by_cases e2:bytesL l=n
     ·subst e2
      have hz:rr.size≤r2.size:=Hrr.out
      have q1:IntKind.i64.wrap ((r2.size:Int)-(rr.size:Int))=(r2.size:Int)-(rr.size:Int):=IntWalk.i64_in _ (by omega)
      have q2:(0:Int)≤(r2.size:Int)-(rr.size:Int):=by omega
      have q3:((r2.size:Int)-(rr.size:Int)).toNat=r2.size-rr.size:=by omega
      have q4:(r2.size:Int)-(rr.size:Int)≤(r2.size:Int):=by omega
      have q5:r2.size-rr.size≤r2.size:=by omega
      have hrg:=leastI_range l hR
      have hb8:bytesL l≤8:=bytesFrom_le_8 _ _
      have hF:=foldI_nat l hR
      have hp1:(printB (foldI (leastI l)).toNat).size≤10:=by rw [print_len];exact vp_len_10 hF
      have hp2:(printB (bytesL l)).size≤10:=by rw [print_len];exact vp_len_10 (by omega)
      have hsz:(r2.extract 0 (r2.size-rr.size)).size=r2.size-rr.size:=by rw [ByteArray.size_extract];omega
      have p1:=Lib.hid (ref_fold_nat (leastI l) hrg.1 hrg.2)
      have p2:=Lib.hid (ref_print_calls (foldI (leastI l)).toNat hF)
      have p3:=Lib.hid (ref_print_calls (bytesL l) (by omega))
      have q6:IntKind.u64.wrap (bytesL l:Int)=(bytesL l:Int):=wrap_lt _ (by omega)
      have q7:r2.size-rr.size≤1000000000000:=by omega
      have HT:=Lib.hid hT
      have HL:=Lib.hid hl'
      have k0:=fun d os=>cell_regrown hT.c0 d os
      have k1:=fun d os=>cell_regrown hT.c1 d os
      have hlen4:l.length≤4096:=by omega
      have hl4:(l.length:Int)≤4096:=by omega
      clear hT hrg hF c0 c1
      generalize hFF:(foldI (leastI l)).toNat=F at p1 p2 hp1
      have HFF:=Lib.hid hFF
      clear hFF
      have t33:¬9223372036854775807 < (printB F).size+(printB (bytesL l)).size:=by omega
      have t44:¬9223372036854775807 < (printB F).size+(printB (bytesL l)).size+(r2.size-rr.size):=by omega
      have t45:¬9223372036854775807 < (printB F).size+((printB (bytesL l)).size+(r2.size-rr.size)):=by omega
      rcases str_ne_cases (shelfB l) (printB F++printB (bytesL l)++r2.extract 0 (r2.size-rr.size)) with ⟨he,g1,g2⟩ | ⟨he,g1,g2⟩
      ·have HE:=Lib.hid he
       clear he
       go_wp2_with fail
       refine wp_region_quiet_below (by kernel_rfl) (by kernel_rfl) ?_
       repeat (first|go_big_quiet_skip|(go_big_quiet_want;go_big_quiet_op;first|go_big_quiet_on|(apply Exists.intro;refine ⟨fun _=>?_,?_⟩;(first|(go_at_call 99;exact Calls.regrown_of (ref_least_calls (IntsIn.kept HL.out (below_regrown wr _ _))).gives)|(go_at_call 100;exact Calls.regrown_of (ref_bytes_calls (IntsIn.kept HL.out (below_regrown wr _ _))).gives)|(go_at_call 101;exact Calls.regrown_of (Reads.gives (p1.out _)))|(go_at_call 70;exact Calls.regrown_of (ref_shelf_print_calls (IntsIn.kept HL.out (below_regrown wr _ _)) hR hlen4))|(go_at_call_of 98 (Value.int .u64 (F:Int));exact Calls.regrown_of (p2.out _))|(go_at_call_of 98 (Value.int .u64 (bytesL l:Int));exact Calls.regrown_of (p3.out _)));go_big_quiet_on)))
       refine wpQuiet_nil ?_
       rintro w3 ⟨p,hw3⟩
       have hb:Below wr.heap.size wr w3:=hw3▸below_regrown wr p.d p.os
       clear hw3 k0 k1
       go_wp2
       go_ret
       have HG:=grown_trans hg (grown_below hb (some b))
       have hI:=IntsIn.kept HL.out hb
       have hTT:=HT.out.kept hb
       exact RefPost.yes (ok_yes hl4 HLR.out rfl rfl HFF.out HRR.out HE.out) HLR.out HRR.out hI hfr hTT HG
      ·have HE:=Lib.hid he
       clear he
       go_wp2_with fail
       refine wp_region_quiet_below (by kernel_rfl) (by kernel_rfl) ?_
       repeat (first|go_big_quiet_skip|(go_big_quiet_want;go_big_quiet_op;first|go_big_quiet_on|(apply Exists.intro;refine ⟨fun _=>?_,?_⟩;(first|(go_at_call 99;exact Calls.regrown_of (ref_least_calls (IntsIn.kept HL.out (below_regrown wr _ _))).gives)|(go_at_call 100;exact Calls.regrown_of (ref_bytes_calls (IntsIn.kept HL.out (below_regrown wr _ _))).gives)|(go_at_call 101;exact Calls.regrown_of (Reads.gives (p1.out _)))|(go_at_call 70;exact Calls.regrown_of (ref_shelf_print_calls (IntsIn.kept HL.out (below_regrown wr _ _)) hR hlen4))|(go_at_call_of 98 (Value.int .u64 (F:Int));exact Calls.regrown_of (p2.out _))|(go_at_call_of 98 (Value.int .u64 (bytesL l:Int));exact Calls.regrown_of (p3.out _)));go_big_quiet_on)))
       refine wpQuiet_nil ?_
       rintro w3 ⟨p,hw3⟩
       have hb:Below wr.heap.size wr w3:=hw3▸below_regrown wr p.d p.os
       clear hw3 k0 k1
       have f2:=(HT.out.kept hb).f0 1
       have c2:=(HT.out.kept hb).c1
       go_wp2
       go_ret
       exact RefPost.no (ok_no HLR.out HFF.out HRR.out HE.out) ((HT.out.kept hb).set1 true) (grown_set (grown_trans hg (grown_below hb (some b))) 1 (.bool true))
     ·have n1:((bytesL l:Int) != (n:Int))=true:=by rw [bne_iff_ne];omega
      have n2:((bytesL l:Int)==(n:Int))=false:=by rw [beq_eq_false_iff_ne];omega
      go_wp2
      go_quiet ((first|(go_at_call 99;exact Reads.quiet (ref_least_calls (hl'.drewN _)))|(go_at_call 100;exact Reads.quiet (ref_bytes_calls (hl'.drewN _)))))
      go_wp2
      go_ret
      exact .inr ⟨fun h=>e2 (by have:=h.2.2.1;rwa [HLR.out] at this),rr,rfl,(hT.drewN _).set1 _,grown_set (grown_drewN hg _) _ _⟩
    ·have n1:(leastI l != m)=true:=by rw [bne_iff_ne];exact e1
     have n2:(leastI l==m)=false:=by rw [beq_eq_false_iff_ne];exact e1
     go_wp2
     go_quiet ((first|(go_at_call 99;exact Reads.quiet (ref_least_calls (hl'.drewN _)))))
     go_wp2
     go_ret
     exact .inr ⟨fun h=>e1 (by have:=h.2.1;rwa [HLR.out] at this),rr,rfl,(hT.drewN _).set1 _,grown_set (grown_drewN hg _) _ _⟩
   ·have f1:=hT.f0 1
    have g1:decide (4096 < many)=true:=by rw [decide_eq_true_eq];omega
    have g0:decide (many < 0)=false:=by rw [decide_eq_false_iff_not];omega
    by_cases g3:(k:Int) < many
    ·obtain rfl:k=4097:=by have:=HM3.out;omega
     go_wp2
     go_quiet (fail)
     go_wp2
     go_ret
     exact .inr ⟨fun h=>by have:=h.1;omega,_,rfl,(hT.drewN _).set1 _,grown_set (grown_drewN hg _) _ _⟩
    ·go_wp2
     go_quiet (fail)
     go_wp2
     go_ret
     exact .inr ⟨fun h=>by have:=h.1;omega,_,rfl,(hT.drewN _).set1 _,grown_set (grown_drewN hg _) _ _⟩
set_option maxHeartbeats 1000000 in
set_option maxRecDepth 100000 in
theorem ref_read_out (b:Nat)(s r1 r2:ByteArray)(bad b1 b2:Bool)(m:Int)(n:Nat)(many:Int)(w:World)(hT:TapeIn 105 w b s bad)
  (T1:Takes Tryz.prog 105 119 [] b s bad (.int .i64 m) r1 b1) (T2:Takes Tryz.prog 105 120 [.int .u64 8] b r1 b1 (.int .u64 n) r2 b2)
  (hn:n≤8) (h:b2=true∨many < 0) :
  Calls Tryz.prog 88 #[.pointer (some ⟨b,0,none⟩),.int .i64 many] w fun e w'=>∃ r',e=.returned (.slice none 0 0)∧TapeIn 105 w' b r' true∧w.grownBy w' (some b):=by
 have hg:=grown_refl w (some b)
 have H1:=Lib.hid T1
 have H2:=Lib.hid T2
 clear T1 T2
 by_cases hneg:many < 0
 ·have d0:decide (many < 0)=true:=by rw [decide_eq_true_eq];exact hneg
  have d1:decide ((0:Int) < many)=false:=by rw [decide_eq_false_iff_not];omega
  clear h
  cases b2
  all_goals
   go_enter Tryz.func88,Tryz.ntmps88
   go_wp2_with (first|(go_at_call 119;refine H1.out.step hT hg ?_;clear hT hg;intro w1 hT hg)|(go_at_call 120;refine H2.out.step hT hg ?_;clear hT hg;intro w2 hT hg;have c0:=hT.c0;have c1:=hT.c1;have f1:=hT.f0 1))
   refine wp_loop_rounds 1 ?_
   rw [rounds_succ]
   go_wp2
   go_quiet (fail)
   go_wp2
   go_ret
   exact ⟨r2,rfl,(hT.drewN _).set1 _,grown_set (grown_drewN hg _) _ _⟩
 ·obtain rfl:b2=true:=by
   rcases h with h|h
   ·exact h
   ·exact absurd h hneg
  clear h
  by_cases h0:0 < many
  all_goals
   go_enter Tryz.func88,Tryz.ntmps88
   go_wp2_with (first|(go_at_call 119;refine H1.out.step hT hg ?_;clear hT hg;intro w1 hT hg)|(go_at_call 120;refine H2.out.step hT hg ?_;clear hT hg;intro w2 hT hg;have c0:=hT.c0;have c1:=hT.c1;have f1:=hT.f0 1))
   refine wp_loop_rounds 1 ?_
   rw [rounds_succ]
   go_wp2
   go_quiet (fail)
   go_wp2
   go_ret
   exact ⟨r2,rfl,(hT.drewN _).set1 _,grown_set (grown_drewN hg _) _ _⟩
theorem at_nums {s:ByteArray}{many:Int}{l:List Int}{r:List UInt8}(h:ShelfAt s.data.toList many l r) :
  numT s false maxU=((foldI (leastI l)).toNat,printB (bytesL l)++(mkB (rowsP (leastI l) (bytesL l) l)++mkB r),false) ∧
  numT (printB (bytesL l)++(mkB (rowsP (leastI l) (bytesL l) l)++mkB r)) false 8=(bytesL l,mkB (rowsP (leastI l) (bytesL l) l)++mkB r,false):=by
 obtain ⟨h0,h1,hlen,hr,hs⟩:=h
 have hF:=foldI_nat l hr
 have hn':bytesL l≤8:=bytesFrom_le_8 (leastI l) l
 have es:s=printB (foldI (leastI l)).toNat++(printB (bytesL l)++(mkB (rowsP (leastI l) (bytesL l) l)++mkB r)):=by
  apply bytes_ext
  rw [hs,data_append,data_append,data_append,print_data,print_data,mkB_data,mkB_data]
  unfold shelfP
  simp only [List.append_assoc]
 have e1:=numT_print (foldI (leastI l)).toNat hF (printB (bytesL l)++(mkB (rowsP (leastI l) (bytesL l) l)++mkB r)) maxU (by unfold maxU;omega)
 rw [←es] at e1
 exact ⟨e1,numT_print (bytesL l) (by omega) (mkB (rowsP (leastI l) (bytesL l) l)++mkB r) 8 (by omega)⟩
theorem rr_size {r2:ByteArray}{k:Nat}(h:k≤r2.size):r2.size-(r2.extract k r2.size).size=k:=by rw [ByteArray.size_extract];omega
theorem ref_shelf_read_some (b:Nat)(s:ByteArray)(hs:s.size≤1000000000000){many:Int}{l:List Int}{r:List UInt8}(h:ShelfAt s.data.toList many l r) :
  TakesInts Tryz.prog 105 88 [.int .i64 many] b s l (mkB r):=by
 intro w hT
 obtain ⟨e1,e2⟩:=at_nums h
 obtain ⟨h0,h1,hlen,hr,_⟩:=h
 have hn':bytesL l≤8:=bytesFrom_le_8 (leastI l) l
 have hd:=bytesFrom_lt (leastI l) l
 have hrow:=rowsP_length (leastI l) (bytesL l) l
 have z1:=numT_size s false maxU
 have z2:=numT_size (printB (bytesL l)++(mkB (rowsP (leastI l) (bytesL l) l)++mkB r)) false 8
 rw [e1] at z1
 rw [e2] at z2
 have T1:=ref_tint_calls b s false
 have T2:=ref_tnum_calls b (printB (bytesL l)++(mkB (rowsP (leastI l) (bytesL l) l)++mkB r)) false 8
 rw [e1,open_fold] at T1
 rw [e2] at T2
 simp only at T1 T2 z1 z2
 have hsz:(mkB (rowsP (leastI l) (bytesL l) l)++mkB r).size=bytesL l*l.length+r.length:=by rw [ByteArray.size_append,mkB_size,mkB_size,hrow]
 have hle:l.length*bytesL l≤(mkB (rowsP (leastI l) (bytesL l) l)++mkB r).size:=by rw [hsz,Nat.mul_comm];omega
 have hk:=ref_read_full b s _ _ false false (leastI l) (bytesL l) many hn' (by omega) w hT T1 T2 l.length (by omega) (by omega) (.inl (by omega)) hle
 have hro:rowsOf (leastI l) (bytesL l) l.length (mkB (rowsP (leastI l) (bytesL l) l)++mkB r).data.toList=l:=by
  rw [data_append,mkB_data,mkB_data];exact rowsOf_rows _ _ l r hr hd
 have hrr:(mkB (rowsP (leastI l) (bytesL l) l)++mkB r).extract (l.length*bytesL l) (mkB (rowsP (leastI l) (bytesL l) l)++mkB r).size=mkB r:=by
  have:=extract_front (mkB (rowsP (leastI l) (bytesL l) l)) (mkB r)
  rwa [mkB_size,hrow,Nat.mul_comm] at this
 rw [hro,hrr] at hk
 have hok:shelfB l=printB (foldI (leastI l)).toNat++printB (bytesL l)++(mkB (rowsP (leastI l) (bytesL l) l)++mkB r).extract 0 ((mkB (rowsP (leastI l) (bytesL l) l)++mkB r).size-(mkB r).size):=by
  apply bytes_ext
  rw [shelfB_data,data_append,data_append,data_extract,data_append,print_data,print_data,mkB_data,mkB_data,ByteArray.size_append,mkB_size,mkB_size]
  unfold shelfP
  simp
 refine hk.mono fun e w' hp=>?_
 rcases hp with ⟨_,hv⟩ | ⟨hno,_⟩
 ·exact hv
 ·exact absurd ⟨by omega,rfl,rfl,hok⟩ hno
theorem ref_shelf_read_none (b:Nat)(s:ByteArray)(hs:s.size≤1000000000000)(many:Int)(h:¬∃ l r,ShelfAt s.data.toList many l r)(w:World)(hT:TapeIn 105 w b s false) :
  Calls Tryz.prog 88 #[.pointer (some ⟨b,0,none⟩),.int .i64 many] w fun e w'=>∃ r',e=.returned (.slice none 0 0)∧TapeIn 105 w' b r' true∧w.grownBy w' (some b):=by
 have T1:=ref_tint_calls b s false
 have z1:=numT_size s false maxU
 have k1:=@numT_good s false maxU
 have l1:=numT_lt s false maxU
 generalize numT s false maxU=A at *
 obtain ⟨F,r1,b1⟩:=A
 have T2:=ref_tnum_calls b r1 b1 8
 have z2:=numT_size r1 b1 8
 have k2:=@numT_good r1 b1 8
 have hn:=numT_le r1 b1 8 (by decide)
 simp only at T1 z1 k1 l1
 generalize numT r1 b1 8=C at *
 obtain ⟨n,r2,b2⟩:=C
 simp only at T2 z2 k2 hn
 by_cases ho:b2=true∨many < 0
 ·exact ref_read_out b s r1 r2 false b1 b2 _ n many w hT T1 T2 (by omega) ho
 ·have hb2:b2=false:=by cases b2 <;> simp_all
  subst hb2
  have hneg:¬many < 0:=fun hx=>ho (.inr hx)
  obtain ⟨hb1,es2⟩:=k2 rfl
  subst hb1
  obtain ⟨_,es1⟩:=k1 rfl
  by_cases hsh:r2.size < (min many.toNat 4097)*n
  ·exact ref_read_short b s r1 r2 false false _ n many (by omega) (by omega) w hT T1 T2 (min many.toNat 4097) (by omega) (by omega) hsh
  ·have hk:=ref_read_full b s r1 r2 false false _ n many (by omega) (by omega) w hT T1 T2 (min many.toNat 4097) (by omega) (by omega) (by omega) (by omega)
   refine hk.mono fun e w' hp=>?_
   rcases hp with ⟨⟨c1,c2,c3,c4⟩,_⟩ | ⟨_,hv⟩
   ·exfalso
    apply h
    have hM:min many.toNat 4097=many.toNat:=by omega
    rw [hM] at c2 c3 c4 hsh
    refine ⟨_,(r2.extract (many.toNat*n) r2.size).data.toList,by omega,c1,?_,rowsOf_range (openI F) n many.toNat r2.data.toList,?_⟩
    ·rw [rowsOf_length];omega
    ·rw [←shelfB_data,c4,fold_open,Int.toNat_natCast,rr_size (by omega),es1,es2]
     simp only [data_append,List.append_assoc]
     congr 2
     rw [data_extract,data_extract,List.drop_zero,Nat.sub_zero,List.take_of_length_le (l:=r2.data.toList.drop _) (by rw [List.length_drop,data_size];omega),List.take_append_drop]
   ·exact hv
end Go.Proofs.YtafmbnafibahkaaGreat
