/- The contract of the answer's Cut of layer 13. -/
import Derived.Test.YtafmbnafibahkaaGreatGStrs
import Derived.Test.YtafmbnafibahkaaGreatGTimes
import Derived.Test.YtafmbnafibahkaaGreatGWeighRef
import Derived.Laws.Bits64
import Derived.Laws.Bits64b
import Derived.Deep.RegionLaw
namespace Go.Proofs.YtafmbnafibahkaaGreat
open Go Go.RowKit
def mixN (n:Nat)(b:UInt8):Nat:=((n ^^^ b.toNat)*1099511628211) % 18446744073709551616
def mixText (n:Nat)(s:ByteArray):Nat:=mixN (s.data.toList.foldl mixN n) 0
def hashN (r:List ByteArray):Nat:=r.foldl mixText 1469598103934665603
def numN (r:List ByteArray):Nat:=hashN r ^^^ (hashN r / 4294967296)
def begR (r:List ByteArray):Bool:=numN r % 8==0
theorem mixN_lt (n:Nat)(b:UInt8):mixN n b < 18446744073709551616:=Nat.mod_lt _ (by decide)
theorem mixes_lt:∀ (l:List UInt8)(n:Nat),n < 18446744073709551616→l.foldl mixN n < 18446744073709551616
 | [],_,h=>h
 | b::l,n,_=>mixes_lt l _ (mixN_lt n b)
theorem mixText_lt (n:Nat)(s:ByteArray):mixText n s < 18446744073709551616:=mixN_lt _ _
theorem mixTexts_lt:∀ (r:List ByteArray)(n:Nat),n < 18446744073709551616→r.foldl mixText n < 18446744073709551616
 | [],_,h=>h
 | s::r,n,_=>mixTexts_lt r _ (mixText_lt n s)
theorem startN_lt:1469598103934665603 < 18446744073709551616:=by decide
theorem hash_lt (r:List ByteArray):List.foldl mixText 1469598103934665603 r < 18446744073709551616:=mixTexts_lt r 1469598103934665603 startN_lt
theorem hashN_lt (r:List ByteArray):hashN r < 18446744073709551616:=hash_lt r
theorem e64:(18446744073709551616:Nat)=2 ^ 64:=by decide
theorem xor_lt64 (a b:Nat)(h:a < 18446744073709551616)(k:b < 18446744073709551616):a ^^^ b < 18446744073709551616:=by
 rw [e64] at *
 exact Nat.xor_lt_two_pow h k
theorem numN_lt (r:List ByteArray):numN r < 18446744073709551616:=xor_lt64 _ _ (hashN_lt r) (Nat.lt_of_le_of_lt (Nat.div_le_self _ _) (hashN_lt r))
theorem hashN_snoc (r:List ByteArray)(s:ByteArray):hashN (r++[s])=mixText (hashN r) s:=by unfold hashN;rw [List.foldl_append,List.foldl_cons,List.foldl_nil]
def addCut (P:List (List Tm))(t:Tm):List (List Tm):=if P=[]∨begR t.1=true then P++[[t]] else P.dropLast++[P.getLastD []++[t]]
def cutL (l:List Tm):List (List Tm):=l.foldl addCut []
theorem cutL_nil:cutL []=[]:=rfl
theorem cutL_snoc (l:List Tm)(t:Tm):cutL (l++[t])=addCut (cutL l) t:=by unfold cutL;rw [List.foldl_append];rfl
theorem addCut_new {P:List (List Tm)}{t:Tm}(h:P=[]∨begR t.1=true):addCut P t=P++[[t]]:=if_pos h
theorem addCut_last (Q:List (List Tm))(p:List Tm){t:Tm}(h:begR t.1=false):addCut (Q++[p]) t=Q++[p++[t]]:=by
 unfold addCut
 rw [if_neg (by rw [h];simp)]
 simp
theorem snoc_or (P:List (List Tm)):P=[]∨∃ Q p,P=Q++[p]:=by
 rcases List.eq_nil_or_concat P with h | ⟨Q,p,h⟩
 ·exact .inl h
 ·exact .inr ⟨Q,p,by simpa using h⟩
theorem addCut_flatten (P:List (List Tm))(t:Tm):(addCut P t).flatten=P.flatten++[t]:=by
 by_cases h:P=[]∨begR t.1=true
 ·rw [addCut_new h];simp
 ·have hf:begR t.1=false:=by
   cases hf:begR t.1 with
   | false=>rfl
   | true=>exact absurd (.inr hf) h
  rcases snoc_or P with rfl | ⟨Q,p,rfl⟩
  ·exact absurd (.inl rfl) h
  ·rw [addCut_last Q p hf];simp
def CutP (P:List (List Tm)):Prop:=(∀ p∈P,p≠[]∧∀ t∈p.tail,begR t.1=false)∧∀ p∈P.tail,∀ t,p.head? = some t→begR t.1=true
theorem CutP.nil:CutP []:=⟨fun p hp=>absurd hp (by simp),fun p hp=>absurd hp (by simp)⟩
theorem mem_tail_snoc {P:List (List Tm)}{p q:List Tm}(h:q∈(P++[p]).tail):q∈P.tail∨(P≠[]∧q=p):=by
 cases P with
 | nil=>simp at h
 | cons a P =>
  simp at h
  rcases h with h|h
  ·exact .inl (by simpa using h)
  ·exact .inr ⟨by simp,h⟩
theorem CutP.add {P:List (List Tm)}(h:CutP P)(t:Tm):CutP (addCut P t):=by
 by_cases hn:P=[]∨begR t.1=true
 ·rw [addCut_new hn]
  refine ⟨fun p hp=>?_,fun p hp u hu=>?_⟩
  ·rcases List.mem_append.1 hp with hp|hp
   ·exact h.1 p hp
   ·rw [List.mem_singleton.1 hp];exact ⟨by simp,fun u hu=>absurd hu (by simp)⟩
  ·rcases mem_tail_snoc hp with hp | ⟨hne,rfl⟩
   ·exact h.2 p hp u hu
   ·simp at hu
    subst hu
    exact hn.resolve_left hne
 ·have hf:begR t.1=false:=by
   cases hf:begR t.1 with
   | false=>rfl
   | true=>exact absurd (.inr hf) hn
  rcases snoc_or P with rfl | ⟨Q,p,rfl⟩
  ·exact absurd (.inl rfl) hn
  ·rw [addCut_last Q p hf]
   have hp0:=h.1 p (by simp)
   refine ⟨fun q hq=>?_,fun q hq u hu=>?_⟩
   ·rcases List.mem_append.1 hq with hq|hq
    ·exact h.1 q (List.mem_append_left _ hq)
    ·rw [List.mem_singleton.1 hq]
     refine ⟨by simp,fun u hu=>?_⟩
     rw [List.tail_append_of_ne_nil hp0.1] at hu
     rcases List.mem_append.1 hu with hu|hu
     ·exact hp0.2 u hu
     ·rw [List.mem_singleton.1 hu];exact hf
   ·rcases mem_tail_snoc hq with hq | ⟨hne,rfl⟩
    ·refine h.2 q ?_ u hu
     cases Q with
     | nil=>simp at hq
     | cons a Q=>simp at hq ⊢;exact .inl hq
    ·refine h.2 p ?_ u ?_
     ·cases Q with
      | nil=>exact absurd rfl hne
      | cons a Q=>simp
     ·cases p with
      | nil=>exact absurd rfl hp0.1
      | cons a p=>simpa using hu
theorem cutL_ind {Q:List Tm→Prop}(h0:Q [])(h1:∀ l t,Q l→Q (l++[t])):∀ l,Q l:=by
 have h:∀ l:List Tm,Q l.reverse:=by
  intro l
  induction l with
  | nil=>exact h0
  | cons t l ih=>rw [List.reverse_cons];exact h1 _ t ih
 intro l
 have:=h l.reverse
 rwa [List.reverse_reverse] at this
theorem cutL_flatten:∀ l:List Tm,(cutL l).flatten=l:=cutL_ind rfl fun l t ih=>by rw [cutL_snoc,addCut_flatten,ih]
theorem cutL_good:∀ l:List Tm,CutP (cutL l):=cutL_ind .nil fun l t ih=>by rw [cutL_snoc];exact ih.add t
theorem CutP.front {P Q:List (List Tm)}(h:CutP (P++Q)):CutP P:=⟨fun p hp=>h.1 p (List.mem_append_left _ hp),fun p hp t ht=>h.2 p (by
 cases P with
 | nil=>simp at hp
 | cons a P=>simp at hp ⊢;exact .inl hp) t ht⟩
theorem CutP.back {P Q:List (List Tm)}(h:CutP (P++Q)):CutP Q:=⟨fun p hp=>h.1 p (List.mem_append_right _ hp),fun p hp t ht=>h.2 p (by
 have hq:=List.mem_of_mem_tail hp
 cases P with
 | nil=>exact hp
 | cons a P=>simp;exact .inr hq) t ht⟩
theorem CutP.unique:∀ {P:List (List Tm)},CutP P→cutL P.flatten=P:=by
 have step:∀ (Q:List (List Tm)) (p:List Tm),cutL Q.flatten=Q→CutP (Q++[p])→cutL (Q++[p]).flatten=Q++[p]:=by
  intro Q p ih h
  have hp:=h.1 p (by simp)
  cases p with
  | nil=>exact absurd rfl hp.1
  | cons t r =>
   have e0:cutL (Q.flatten++[t])=Q++[[t]]:=by
    rw [cutL_snoc,ih]
    refine addCut_new ?_
    cases Q with
    | nil=>exact .inl rfl
    | cons a Q=>exact .inr (h.2 (t::r) (by simp) t rfl)
   have grow:∀ r':List Tm,(∀ u∈r',begR u.1=false)→cutL (Q.flatten++t::r')=Q++[t::r']:=by
    refine cutL_ind (fun _=>e0) fun r' u ih2 hh=>?_
    have e1:Q.flatten++t::(r'++[u])=(Q.flatten++t::r')++[u]:=by simp
    rw [e1,cutL_snoc,ih2 (fun x hx=>hh x (List.mem_append_left _ hx)),addCut_last Q _ (hh u (by simp))];simp
   rw [List.flatten_append]
   simpa using grow r (fun u hu=>hp.2 u hu)
 have h:∀ P:List (List Tm),CutP P.reverse→cutL P.reverse.flatten=P.reverse:=by
  intro P
  induction P with
  | nil=>intro _;rfl
  | cons p P ih=>intro h;rw [List.reverse_cons] at h ⊢;exact step _ p (ih h.front) h
 intro P hP
 have:=h P.reverse
 rw [List.reverse_reverse] at this
 exact this hP
theorem cut_append {a b:List Tm}(h:a=[]∨∀ t,b.head? = some t→begR t.1=true):cutL (a++b)=cutL a++cutL b:=by
 have hp:CutP (cutL a++cutL b):=by
  have ha:=cutL_good a
  have hb:=cutL_good b
  refine ⟨fun p hp=>(List.mem_append.1 hp).elim (ha.1 p) (hb.1 p),fun p hp t ht=>?_⟩
  cases hca:cutL a with
  | nil=>rw [hca] at hp;exact hb.2 p hp t ht
  | cons q Q =>
   rw [hca] at hp
   have hp2:p∈Q∨p∈cutL b:=by simpa using hp
   rcases hp2 with hp2|hp2
   ·exact ha.2 p (by rw [hca];exact hp2) t ht
   ·cases hcb:cutL b with
    | nil=>rw [hcb] at hp2;simp at hp2
    | cons c C =>
     rw [hcb] at hp2
     rcases List.mem_cons.1 hp2 with rfl|hp2
     ·have hbf:=cutL_flatten b
      rw [hcb] at hbf
      rcases h with rfl|h
      ·rw [cutL_nil] at hca;simp at hca
      ·refine h t ?_
       rw [←hbf]
       cases p with
       | nil=>simp at ht
       | cons x p=>simpa using ht
     ·exact hb.2 p (by rw [hcb];exact hp2) t ht
 have:=hp.unique
 rwa [List.flatten_append,cutL_flatten,cutL_flatten] at this
theorem cutL_length_le (l:List Tm):(cutL l).length≤l.length:=by
 have:∀ l,(cutL l).length≤l.length:=cutL_ind (Nat.le_refl _) fun l t ih=>by
  rw [cutL_snoc,List.length_append]
  unfold addCut
  split
  ·simp;omega
  ·rename_i h
   have:cutL l≠[]:=fun e=>h (.inl e)
   have:=List.length_pos_iff.2 this
   simp;omega
 exact this l
theorem piece_le:∀ {P:List (List Tm)}{p:List Tm},p∈P→p.length≤P.flatten.length
 | [],_,h=>absurd h (by simp)
 | q::P,p,h=>by
  rw [List.flatten_cons,List.length_append]
  rcases List.mem_cons.1 h with rfl|h
  ·omega
  ·have:=piece_le h;omega
theorem mix_val (n:Nat)(b:UInt8)(hn:n < 18446744073709551616):IntKind.u64.wrap (bits .xor .u64 (n:Int) (IntKind.u64.wrap (b.toNat:Int))*1099511628211)=((mixN n b:Nat):Int):=by
 have hb:=b.toNat_lt
 have e1:IntKind.u64.wrap (b.toNat:Int)=(b.toNat:Int):=by rw [IntKind.wrap_u64];omega
 rw [e1,bits_xor_u64_nat n b.toNat hn (by omega),IntKind.wrap_u64]
 unfold mixN
 generalize n ^^^ b.toNat=x
 omega
theorem num_val (n:Nat)(hn:n < 18446744073709551616):bits .xor .u64 (n:Int) ((n:Int) / 4294967296)=((n ^^^ (n / 4294967296):Nat):Int):=by
 have e1:(n:Int) / 4294967296=((n / 4294967296:Nat):Int):=by omega
 rw [e1,bits_xor_u64_nat n _ hn (by omega)]
theorem and_7 (n:Nat)(h:n < 18446744073709551616):bits .and .u64 (n:Int) 7=((n % 8:Nat):Int):=by
 have e:=bits_and_u64_nat n 7 h (by decide)
 rw [show ((7:Nat):Int)=7 by rfl] at e
 rw [e,show (7:Nat)=2 ^ 3-1 by decide,Nat.and_two_pow_sub_one_eq_mod]
def cellZ (c:ByteArray):ByteArray:=c++⟨#[0]⟩
theorem cellZ_data (c:ByteArray):(cellZ c).data.toList=c.data.toList++[0]:=by unfold cellZ;rw [ByteArray.data_append];simp
theorem mix_cellZ (n:Nat)(c:ByteArray):(cellZ c).data.toList.foldl mixN n=mixText n c:=by rw [cellZ_data,List.foldl_append,List.foldl_cons,List.foldl_nil];rfl
theorem cellZ_size (c:ByteArray):(cellZ c).size=c.size+1:=by unfold cellZ;rw [ByteArray.size_append];rfl
theorem mix_take (n:Nat)(s:ByteArray)(k:Nat)(h:k < s.size):(s.data.toList.take (k+1)).foldl mixN n=mixN ((s.data.toList.take k).foldl mixN n) s[k]:=by
 have hl:k < s.data.toList.length:=by rw [data_size];exact h
 rw [take_add _ k hl,List.foldl_append,List.foldl_cons,List.foldl_nil]
 rfl
theorem hash_take (r:List ByteArray)(k:Nat)(h:k < r.length):hashN (r.take (k+1))=mixText (hashN (r.take k)) r[k]:=by rw [take_add r k h,hashN_snoc]
set_option maxHeartbeats 1000000 in
theorem ref_number_calls {w:World}{v:Value}{r:List ByteArray}(h:StrsIn w v r)(hs:∀ c∈r,c.size≤1000000):Reads Tryz.prog 93 #[v] w (.int .u64 (numN r)):=by
 have hm:=h.2.1
 unfold maxLen at hm
 obtain ⟨A,cap,rfl,hat⟩:=one_at h
 have HAT:=Lib.hid hat
 have HS:=Lib.hid hs
 clear h hat hs
 unfold Reads
 go_enter Tryz.func93,Tryz.ntmps93
 go_wp2
 go_loop [3,4] (fun u i=>∃ k:Nat,k≤r.length∧i=.int .i64 k∧u=.int .u64 (hashN (r.take k))) (fun _ i=>r.length-(intOf i).toNat)
 case atStart=>exact ⟨0,Nat.zero_le _,rfl,rfl⟩
 case round =>
  obtain ⟨k,hk,rfl,rfl⟩:=hrel
  by_cases hlt:k < r.length
  ·obtain ⟨b,off,rfl,hbl,hc⟩:=HAT.out k hlt
   have x1:=hc k hlt
   have hsz:=HS.out _ (List.getElem_mem hlt)
   have HT:=Lib.hid (hash_take r k hlt)
   have hN:=hashN_lt (r.take k)
   generalize hashN (r.take k)=n at *
   generalize r[k]=c at *
   have HZ:=Lib.hid (mix_cellZ n c)
   have hzs:=cellZ_size c
   have t1:¬9223372036854775807 < c.size+1:=by omega
   clear hc
   go_wp2
   have hzd:∃ z:ByteArray,c++(⟨#[0]⟩:ByteArray)=z∧z=cellZ c:=⟨_,rfl,rfl⟩
   obtain ⟨z,e1,e2⟩:=hzd
   rw [e1]
   rw [←e2] at HZ hzs
   have hz2:z.size≤1000001:=by omega
   clear e1 e2 t1 hzs hsz x1
   go_loop [3,6] (fun u i=>∃ j:Nat,j≤z.size∧i=.int .i64 j∧u=.int .u64 (((z.data.toList.take j).foldl mixN n:Nat):Int)) (fun _ i=>z.size-(intOf i).toNat)
   case atStart=>exact ⟨0,Nat.zero_le _,rfl,rfl⟩
   case round =>
    obtain ⟨j,hj,rfl,rfl⟩:=hrel
    by_cases hjt:j < z.size
    ·have HM:=Lib.hid (mix_take n z j hjt)
     have hM:=mixes_lt (z.data.toList.take j) n hN
     have HV:=Lib.hid (mix_val _ z[j] hM)
     generalize (z.data.toList.take j).foldl mixN n=m at *
     go_wp2
     go_round
     case rel=>exact ⟨j+1,by omega,by go_num,by rw [HM.out,←HV.out]⟩
     case measure=>simp [intOf];omega
    ·obtain rfl:j=z.size:=by omega
     have HE:=Lib.hid (show z.data.toList.take z.size=z.data.toList by rw [←data_size,List.take_length])
     go_wp2
     go_round
     case rel=>exact ⟨k+1,by omega,by go_num,by rw [HE.out,HZ.out,HT.out]⟩
     case measure=>simp [intOf];omega
  ·obtain rfl:k=r.length:=by omega
   have hN:=hashN_lt r
   have HT:=Lib.hid (List.take_length (l:=r))
   have HV:=Lib.hid (num_val _ hN)
   rw [List.take_length]
   have HE:Hid ((hashN r ^^^ (hashN r / 4294967296):Nat)=numN r):=rfl
   generalize hashN r=n at *
   go_wp2
   go_ret
   exact ⟨ret_int (by rw [←HE.out,←HV.out]),rfl⟩
theorem beg_val (r:List ByteArray):(((numN r:Nat):Int) % 8==0)=begR r:=by
 unfold begR
 rw [Bool.eq_iff_iff,beq_iff_eq,beq_iff_eq]
 omega
set_option maxHeartbeats 400000 in
theorem ref_begins_calls {w:World}{v:Value}{r:List ByteArray}(h:StrsIn w v r)(hs:∀ c∈r,c.size≤1000000):Reads Tryz.prog 67 #[v] w (.bool (begR r)):=by
 have HN:=Lib.hid (ref_number_calls h hs)
 have hA:=and_7 _ (numN_lt r)
 have HV:=Lib.hid (beg_val r)
 obtain ⟨A,cap,rfl,_⟩:=one_at h
 clear h hs
 generalize numN r=n at *
 unfold Reads
 go_enter Tryz.func67,Tryz.ntmps67
 go_wp2_with (go_at_call 93;refine HN.out.step ?_)
 go_ret
 exact ⟨ret_bool (by rw [←HV.out]),rfl⟩
def PiecesIn (w:World)(v:Value)(P:List (List Tm)):Prop:=∃ tv:List Value,SliceOf w 1 v P.length tv∧tv.length=P.length∧∀ j (h1:j < tv.length)(h2:j < P.length),TimesIn w tv[j] P[j]
section
variable {w w':World}
theorem PiecesIn.kept {v:Value}{P:List (List Tm)}(h:PiecesIn w v P)(hb:Below w.heap.size w w'):PiecesIn w' v P:=by
 obtain ⟨tv,h1,h2,h3⟩:=h
 exact ⟨tv,SliceOf.later h1 hb,h2,fun j a b=>(h3 j a b).kept hb⟩
theorem pieces_at {v:Value}{P:List (List Tm)}(h:PiecesIn w v P):∃ A cap,v=.slice A P.length cap ∧
  (∀ k,k < P.length→∃ b off,A=some ⟨b,off,none⟩∧b < w.heap.size∧∀ j (hj:j < P.length),∃ pv,TimesIn w pv P[j]∧w.cell? ⟨b,off+j,none⟩=some pv):=by
 obtain ⟨tv,h1,h2,h3⟩:=h
 obtain ⟨_,_,A,cap,e,_,h4⟩:=h1
 refine ⟨A,cap,e,fun k hk=>?_⟩
 obtain ⟨b,off,ea,hb,hc⟩:=h4 (by omega)
 refine ⟨b,off,ea,hb,fun j hj=>⟨tv[j]'(by omega),h3 j (by omega) hj,hc j _ (List.getElem?_eq_getElem (by omega))⟩⟩
def AllRows (w:World):List (List (Value×Int))→List (List Tm)→Prop
 | [],[]=>True
 | x::X,p::P=>RowsOf w x p∧AllRows w X P
 | _,_=>False
theorem AllRows.length:∀ {X:List (List (Value×Int))}{P:List (List Tm)},AllRows w X P→X.length=P.length
 | [],[],_=>rfl
 | _::_,_::_,h=>by rw [List.length_cons,List.length_cons,AllRows.length h.2]
 | [],_::_,h=>h.elim
 | _::_,[],h=>h.elim
theorem AllRows.append:∀ {X Y:List (List (Value×Int))}{P Q:List (List Tm)},AllRows w X P→AllRows w Y Q→AllRows w (X++Y) (P++Q)
 | [],_,[],_,_,h=>h
 | _::_,_,_::_,_,h,k=>⟨h.1,AllRows.append h.2 k⟩
 | [],_,_::_,_,h,_=>h.elim
 | _::_,_,[],_,h,_=>h.elim
theorem AllRows.one {x:List (Value×Int)}{p:List Tm}(h:RowsOf w x p):AllRows w [x] [p]:=⟨h,trivial⟩
theorem AllRows.get:∀ {X:List (List (Value×Int))}{P:List (List Tm)},AllRows w X P→∀ j (h1:j < X.length)(h2:j < P.length),RowsOf w X[j] P[j]
 | _::_,_::_,h,0,_,_=>h.1
 | _::_,_::_,h,j+1,h1,h2=>AllRows.get h.2 j (by simpa using h1) (by simpa using h2)
 | [],_::_,h,_,_,_=>h.elim
 | _::_,[],h,_,_,_=>h.elim
theorem AllRows.snoc:∀ {X:List (List (Value×Int))}{Q:List (List Tm)}{p:List Tm},AllRows w X (Q++[p])→∃ Y y,X=Y++[y]∧AllRows w Y Q∧RowsOf w y p
 | [],[],_,h=>h.elim
 | [],_::_,_,h=>h.elim
 | x::X,[],p,h=>by
  have hx:X=[]:=List.eq_nil_of_length_eq_zero (AllRows.length h.2)
  subst hx
  exact ⟨[],x,rfl,trivial,h.1⟩
 | x::X,q::Q,p,h=>by
  obtain ⟨Y,y,rfl,h1,h2⟩:=AllRows.snoc (X:=X) (Q:=Q) (p:=p) h.2
  exact ⟨x::Y,y,rfl,⟨h.1,h1⟩,h2⟩
structure PGrown (w:World) (B:Nat) (v:Value) (tv:List Value) (X:List (List (Value×Int))):Prop where
 len:tv.length=X.length
 own:Own w B 1 v tv.length tv
 inn:∀ j (h1:j < tv.length) (h2:j < X.length),Own w B 2 tv[j] X[j].length (timesV X[j])
 off:∀ j (h1:j < tv.length) b,v.ownBlock=some b→tv[j].ownBlock≠some b
 apart:∀ i j (hi:i < tv.length) (hj:j < tv.length),i≠j→∀ b,tv[i].ownBlock=some b→tv[j].ownBlock≠some b
theorem PGrown.nil_ (w:World)(B:Nat):PGrown w B (.slice none 0 0) [] []:=⟨rfl,Own.nil_ _ _ _,fun j h=>absurd h (by simp),fun j h=>absurd h (by simp),fun i j h=>absurd h (by simp)⟩
section
variable {B:Nat}{v:Value}{tv:List Value}{X:List (List (Value×Int))}
theorem PGrown.later (h:PGrown w B v tv X)(hb:Below w.heap.size w w'):PGrown w' B v tv X:=⟨h.len,h.own.later hb,fun j a b=>(h.inn j a b).later hb,h.off,h.apart⟩
theorem PGrown.lt (h:PGrown w B v tv X):∀ k,v.ownBlock=some k→B≤k:=fun k hk=>(h.own.lt k hk).1
theorem PGrown.pieces {w0:World}{P:List (List Tm)}(h:PGrown w B v tv X)(hr:AllRows w0 X P)(hb:Below w0.heap.size w0 w):PiecesIn w v P:=by
 have hl:=hr.length
 refine ⟨tv,?_,by rw [h.len,hl],fun j a b=>?_⟩
 ·have:=h.own.slice
  rwa [h.len,hl] at this
 ·have hj:j < X.length:=by omega
  have hro:=(hr.get j hj b).kept hb
  exact TimesIn.of (h.inn j a hj).slice hro hro.length
theorem PGrown.push {v':Value}(h:PGrown w B v tv X)(hg:w.grownBy w' v.ownBlock)(hv:∀ k,v'.ownBlock=some k→v.ownBlock=some k∨w.heap.size≤k)(hO:Own w' B 1 v' (tv.length+1) (tv++[.slice none 0 0])) :
  PGrown w' B v' (tv++[.slice none 0 0]) (X++[[]]):=by
 have hinn:∀ j (h1:j < tv.length) (h2:j < X.length),Own w' B 2 tv[j] X[j].length (timesV X[j]):=fun j h1 h2=>(h.inn j h1 h2).other hg fun k hk e=>h.off j h1 k e.symm hk
 refine ⟨by simp [h.len],by simpa using hO,fun j h1 h2=>?_,fun j h1 b hb=>?_,fun i j hi hj hne b hb=>?_⟩
 ·by_cases hj:j < tv.length
  ·rw [List.getElem_append_left hj,List.getElem_append_left (by have:=h.len;omega)]
   exact hinn j hj _
  ·have hj2:j=tv.length:=by simp at h1;omega
   subst hj2
   have e2:(X++[[]])[tv.length]'h2=[]:=by rw [List.getElem_append_right (by have:=h.len;omega)];simp
   rw [List.getElem_append_right (Nat.le_refl _),e2]
   simpa [timesV] using Own.nil_ w' B 2
 ·by_cases hj:j < tv.length
  ·rw [List.getElem_append_left hj]
   intro e
   rcases hv b hb with e2|e2
   ·exact h.off j hj b e2 e
   ·have:=((h.inn j hj (by have:=h.len;omega)).lt b e).2;omega
  ·have hj2:j=tv.length:=by simp at h1;omega
   subst hj2
   rw [List.getElem_append_right (Nat.le_refl _)]
   simp [Value.ownBlock]
 ·by_cases hi2:i < tv.length
  ·by_cases hj2:j < tv.length
   ·rw [List.getElem_append_left hi2] at hb
    rw [List.getElem_append_left hj2]
    exact h.apart i j hi2 hj2 hne b hb
   ·rw [List.getElem_append_right (by omega)]
    simp [Value.ownBlock]
  ·rw [List.getElem_append_right (by omega)] at hb
   simp [Value.ownBlock] at hb
theorem PGrown.last {tq:List Value}{u:Value}{Y:List (List (Value×Int))}{y:List (Value×Int)}(h:PGrown w B v (tq++[u]) (Y++[y])):tq.length=Y.length∧Own w B 2 u y.length (timesV y) ∧
  ∃ g off cap,v=.slice (some ⟨g,off,none⟩) (tq.length+1) cap∧B≤g∧g < w.heap.size∧w.cell? ⟨g,off+tq.length,none⟩=some u∧w.frozen? ⟨g,off+tq.length,none⟩=false∧u.ownBlock≠some g:=by
 have hl:tq.length=Y.length:=by have:=h.len;simpa using this
 have hu:=h.inn tq.length (by simp) (by simp [hl])
 have e1:(tq++[u])[tq.length]'(by simp)=u:=by simp
 have e2:(Y++[y])[tq.length]'(by simp [hl])=y:=by simp [hl]
 rw [e1,e2] at hu
 have ho:=h.own
 have hoff:=h.off tq.length (by simp)
 rw [e1] at hoff
 rw [List.length_append,List.length_singleton] at ho
 rcases ho.2.2 with ⟨_,hn⟩ | ⟨g,off,cap,rfl,hB,hg,hn,hc,hr⟩
 ·omega
 ·refine ⟨hl,hu,g,off,cap,rfl,hB,hg,hc tq.length u (by simp),(hr tq.length (by omega)).2,hoff g rfl⟩
theorem PGrown.drew (h:PGrown w B v tv X):PGrown w.drew B v tv X:=⟨h.len,h.own,h.inn,h.off,h.apart⟩
theorem PGrown.slot {tq:List Value}{u:Value}{g off cap n:Nat}(h:PGrown w B (.slice (some ⟨g,off,none⟩) n cap) (tq++[u]) X)(hg:w.grownBy w' u.ownBlock) :
  w'.cell? ⟨g,off+tq.length,none⟩=some u∧w'.frozen? ⟨g,off+tq.length,none⟩=false:=by
 have e1:(tq++[u])[tq.length]'(by simp)=u:=by simp
 have hoffu:=h.off tq.length (by simp) g rfl
 rw [e1] at hoffu
 have hown:=h.own
 obtain ⟨A',c',e⟩:=hown.len
 cases e
 have hOut:Own w' B 1 (.slice (some ⟨g,off,none⟩) (tq++[u]).length cap) (tq++[u]).length (tq++[u]):=hown.other hg fun k hk e2=>by
  simp only [Value.ownBlock,Option.some.injEq] at hk
  subst hk
  exact hoffu e2.symm
 obtain ⟨_,_,hn,hc,hr⟩:=hOut.parts
 exact ⟨hc tq.length u (by simp),(hr tq.length (by simp at hn;omega)).2⟩
theorem PGrown.grew {tq:List Value}{u u' rv:Value}{Y:List (List (Value×Int))}{y:List (Value×Int)}{g off cap n:Nat}{c:Int}(h:PGrown w B (.slice (some ⟨g,off,none⟩) n cap) (tq++[u]) (Y++[y]))(hg:w.grownBy w' u.ownBlock)
  (hu:∀ k,u'.ownBlock=some k→u.ownBlock=some k∨w.heap.size≤k) (hO:Own w' B 2 u' (y.length+1) (timesV y++[rv,.int .i64 c])) :
  PGrown (w'.setCell ⟨g,off+tq.length,none⟩ u') B (.slice (some ⟨g,off,none⟩) n cap) (tq++[u']) (Y++[y++[(rv,c)]]):=by
 have hl:tq.length=Y.length:=by have:=h.len;simpa using this
 have e1:(tq++[u])[tq.length]'(by simp)=u:=by simp
 have hoffu:=h.off tq.length (by simp) g rfl
 rw [e1] at hoffu
 have hown:=h.own
 obtain ⟨A',c',e⟩:=hown.len
 cases e
 have hOut:Own w' B 1 (.slice (some ⟨g,off,none⟩) (tq++[u]).length cap) (tq++[u]).length (tq++[u]):=hown.other hg fun k hk e2=>by
  simp only [Value.ownBlock,Option.some.injEq] at hk
  subst hk
  exact hoffu e2.symm
 have hs:=hOut.stored tq.length (by simp) u'
 have hset:(tq++[u]).set tq.length u'=tq++[u']:=by rw [List.set_append_right _ _ (Nat.le_refl _)];simp
 rw [hset] at hs
 have hg2:=setCells_grown g [u'] (off+tq.length) w'
 simp only [World.setCells] at hg2
 have hglt:=hown.lt g rfl
 have hu'g:u'.ownBlock≠some g:=fun e2=>by
  rcases hu g e2 with e3|e3
  ·exact hoffu e3
  ·omega
 have hne:∀ j (hj:j < tq.length) b,u'.ownBlock=some b→tq[j].ownBlock≠some b:=fun j hj b hb e2=>by
  have ej:(tq++[u])[j]'(by simp;omega)=tq[j]:=List.getElem_append_left hj
  rcases hu b hb with e3|e3
  ·have:=h.apart tq.length j (by simp) (by simp;omega) (by omega) b (by rw [e1];exact e3)
   rw [ej] at this
   exact this e2
  ·have:=((h.inn j (by simp;omega) (by simp;omega)).lt b (by rw [ej];exact e2)).2;omega
 refine ⟨by simp [hl],by simpa using hs,fun j h1 h2=>?_,fun j h1 b hb=>?_,fun i j hi hj hne2 b hb=>?_⟩
 ·by_cases hj:j < tq.length
  ·rw [List.getElem_append_left hj,List.getElem_append_left (by omega)]
   have hi:=h.inn j (by simp;omega) (by simp;omega)
   rw [List.getElem_append_left hj,List.getElem_append_left (by omega)] at hi
   have ej:(tq++[u])[j]'(by simp;omega)=tq[j]:=List.getElem_append_left hj
   refine (hi.other hg fun k hk e2=>?_).other hg2 fun k hk e2=>?_
   ·have:=h.apart tq.length j (by simp) (by simp;omega) (by omega) k (by rw [e1];exact e2.symm)
    rw [ej] at this
    exact this hk
   ·simp only [Option.some.injEq] at e2
    subst e2
    have:=h.off j (by simp;omega) k rfl
    rw [ej] at this
    exact this hk
  ·have hj2:j=tq.length:=by simp at h1;omega
   subst hj2
   have e3:(tq++[u'])[tq.length]'h1=u':=by simp
   have e4:(Y++[y++[(rv,c)]])[tq.length]'h2=y++[(rv,c)]:=by simp [hl]
   rw [e3,e4,timesV_append,List.length_append]
   exact hO.other hg2 fun k hk e2=>hu'g (by rw [hk,e2])
 ·simp only [Value.ownBlock,Option.some.injEq] at hb
  subst hb
  by_cases hj:j < tq.length
  ·rw [List.getElem_append_left hj]
   have:=h.off j (by simp;omega) g rfl
   rwa [List.getElem_append_left hj] at this
  ·have hj2:j=tq.length:=by simp at h1;omega
   subst hj2
   have e3:(tq++[u'])[tq.length]'h1=u':=by simp
   rw [e3];exact hu'g
 ·by_cases hi2:i < tq.length
  ·rw [List.getElem_append_left hi2] at hb
   by_cases hj2:j < tq.length
   ·rw [List.getElem_append_left hj2]
    have:=h.apart i j (by simp;omega) (by simp;omega) hne2 b (by rw [List.getElem_append_left hi2];exact hb)
    rwa [List.getElem_append_left hj2] at this
   ·have hj3:j=tq.length:=by simp at hj;omega
    subst hj3
    have e3:(tq++[u'])[tq.length]'hj=u':=by simp
    rw [e3]
    exact fun e2=>hne i hi2 b e2 hb
  ·have hi3:i=tq.length:=by simp at hi;omega
   subst hi3
   have e3:(tq++[u'])[tq.length]'hi=u':=by simp
   rw [e3] at hb
   have hj2:j < tq.length:=by simp at hj;omega
   rw [List.getElem_append_left hj2]
   exact hne j hj2 b hb
end
end
theorem Tryz.infoCa26:(Tryz.prog.info? 26).map (fun i=>(i.zero,i.size,i.bytes))=some (some (.slice none 0 0),1,24):=by kernel_rfl
theorem Tryz.infoCb46:(Tryz.prog.info? 46).map (fun i=>(i.zero,i.size,i.bytes))=some (some (.agg #[.slice none 0 0,.int .i64 0]),2,32):=by kernel_rfl
theorem one_nil:∀ u∈[Value.slice none 0 0],u.oneCell'=true:=by
 intro u hu
 rw [List.mem_singleton.1 hu];rfl
def CutEnd (w:World)(P:List (List Tm))(e:Ending)(w':World):Prop:=∃ v,e=.returned v∧PiecesIn w' v P∧Below w.heap.size w w'
set_option maxHeartbeats 4000000 in
set_option maxRecDepth 100000 in
theorem ref_cut_calls {w:World}{v:Value}{l:List Tm}(h:TimesIn w v l)(hl:l.length≤1000000)(hs:∀ t∈l,∀ c∈t.1,c.size≤1000000):Calls Tryz.prog 48 #[v] w (CutEnd w (cutL l)):=by
 obtain ⟨n0,hn,nz0,nz1,nz2⟩:=info_parts Tryz.infoCa26
 obtain ⟨m0,hm,mz0,mz1,mz2⟩:=info_parts Tryz.infoCb46
 obtain ⟨hb,hB⟩:=start w
 obtain ⟨tvl,A,cap,rfl,_,hat⟩:=times_at h
 have HAT:=Lib.hid hat
 have HSZ:=Lib.hid hs
 have HN0:=Lib.hid nz2
 clear h hat hs
 unfold CutEnd
 go_enter Tryz.func48,Tryz.ntmps48
 go_wp2
 go_loopw [3,4] (fun x i wr=>∃ k:Nat,k≤l.length∧i=.int .i64 k∧(∃ tv X,PGrown wr w.heap.size x tv X∧Hid (AllRows w X (cutL (l.take k))))∧Below w.heap.size w wr) (fun _ i _=>l.length-(intOf i).toNat)
 case atStart=>exact ⟨0,Nat.zero_le _,rfl,⟨[],[],PGrown.nil_ _ _,trivial⟩,hb⟩
 case round =>
  clear hb hB
  obtain ⟨k,hk,rfl,⟨tv,X,hP,HR⟩,hb⟩:=hrel
  have hB:=hb.size
  by_cases hlt:k < l.length
  ·obtain ⟨b,off,rfl,hbl,hc⟩:=HAT.out k hlt
   obtain ⟨rv,hrs,htv,c1,c2⟩:=hc k hlt
   have x1:=(hb.cell (p:=⟨b,off+k*2,none⟩) hbl).trans c1
   have x2:=(hb.cell (p:=⟨b,off+k*2+1,none⟩) hbl).trans c2
   have HF:=Lib.hid (ref_begins_calls (StrsIn.kept hrs hb) (HSZ.out _ (List.getElem_mem hlt)))
   have HONE:=Lib.hid (one_tm hrs l[k].2)
   have HRO:Hid (RowsOf w [(rv,l[k].2)] [l[k]]):=RowsOf.one (row:=l[k].1) hrs
   have HCUT:Hid (cutL (l.take (k+1))=addCut (cutL (l.take k)) l[k]):=by show _=_;rw [take_add l k hlt,cutL_snoc]
   have HCE:Hid (cutL (l.take k)=[]↔k=0):=by
    refine ⟨fun e=>?_,fun e=>by subst e;rfl⟩
    have:=cutL_flatten (l.take k)
    rw [e] at this
    have h2:=congrArg List.length this
    simp at h2
    omega
   have hXL:X.length≤k:=by rw [HR.out.length];exact Nat.le_trans (cutL_length_le _) (by rw [List.length_take];omega)
   have hXS:∀ y∈X,y.length≤k:=fun y hy=>by
    obtain ⟨j,hj,rfl⟩:=List.mem_iff_getElem.1 hy
    have hj2:j < (cutL (l.take k)).length:=by rw [←HR.out.length];exact hj
    have e1:=(HR.out.get j hj hj2).length
    have e2:((cutL (l.take k))[j]).length≤((cutL (l.take k)).flatten).length:=by
     exact piece_le (List.getElem_mem hj2)
    rw [cutL_flatten,List.length_take] at e2
    omega
   generalize cutL (l.take k)=P at *
   have HXS:=Lib.hid hXS
   have HC1:=Lib.hid c1
   have HC2:=Lib.hid c2
   obtain ⟨Ar,pr,rfl,hone⟩:=one_at hrs
   clear c1 c2 hc htv hrs hXS hone x1 x2
   generalize l[k]=t at *
   obtain ⟨row,n⟩:=t
   dsimp only at *
   have x1:=(hb.cell (p:=⟨b,off+k*2,none⟩) hbl).trans HC1.out
   have x2:=(hb.cell (p:=⟨b,off+k*2+1,none⟩) hbl).trans HC2.out
   have i0:(0:Int)≤(k:Int):=by omega
   have i1:(k:Int) < (l.length:Int):=by omega
   by_cases hk0:k=0
   case' pos =>
    have HNEW:Hid (cutL (l.take (k+1))=P++[[]++[(row,n)]]):=HCUT.out.trans (addCut_new (.inl (HCE.out.2 hk0)))
    have hbk:((k:Int)==0)=true:=by rw [beq_iff_eq];omega
    have d0:=hbk
    clear hk0
    have HLEN:=Lib.hid hP.len
    obtain ⟨A9,p9,rfl⟩:=hP.own.len
    have HPa:=Lib.hid (hP.later (Below.alloc (.refl _ wr) (Nat.le_refl _) (.cells #[.slice none 0 0] 26)))
    have hba:=hb.alloc hB (.cells #[.slice none 0 0] 26)
    have HLIT:=Lib.hid (lit_ones (fun _:Unit=>Value.slice none 0 0) wr 26 [()] (by show 1≤1000;decide))
    have HAR:Hid (AllRows w (X++[[]++[(Value.slice Ar row.length pr,n)]]) (cutL (l.take (k+1)))):=by
     show AllRows _ _ _
     rw [HNEW.out];exact HR.out.append (AllRows.one HRO.out)
    clear hP x2 hbk
    go_wp2_with (first|(go_at_call 67;refine HF.out.step ?_)|(at_builtin;refine wpList_append_src rfl (.tmp 21) (.tmp 22) 73 rfl 26 n0 (.slice none 0 0) 1 24 Tryz.underlying73 hn nz0 nz1 nz2 rfl (by decide) (B:=w.heap.size) (.slice A9 tv.length p9) tv.length tv rfl HPa.out.own (.slice (some ⟨wr.heap.size,0,none⟩) 1 1) 1 [.slice none 0 0] rfl HLIT.out one_nil (by unfold maxLen;have:=HLEN.out;omega) (by have:=HLEN.out;omega) hba.size ?_))
    intro v7 wq hO7 hg7 ha7
    have hPG:=HPa.out.push hg7 (by simpa using ha7) hO7
    have hbq:=hba.grown hg7 hba.size (fun q hq=>(HPa.out.own.lt q hq).1)
    have HQL:Hid (tv.length≤k∧([]:List (Value×Int)).length≤k):=⟨by rw [HLEN.out];exact hXL,Nat.zero_le _⟩
    obtain ⟨tq,u,Y,y,e1,e2,e3,e4⟩:∃ tq u Y y,tq=tv∧u=Value.slice none 0 0∧Y=X∧y=([]:List (Value×Int)):=⟨_,_,_,_,rfl,rfl,rfl,rfl⟩
    rw [←e1,←e2,←e3,←e4] at hPG
    replace HAR:Hid (AllRows w (Y++[y++[(Value.slice Ar row.length pr,n)]]) (cutL (l.take (k+1)))):=by show AllRows _ _ _;rw [e3,e4];exact HAR.out
    rw [←e1,←e4] at HQL
    clear hO7 hg7 ha7 HPa hba HLIT e1 e2 e3 e4 HLEN hb hB HXS HR x1
   case' neg =>
    have d0:((k:Int)==0)=false:=by rw [beq_eq_false_iff_ne];omega
    cases hbk:begR row
    case' true =>
     rw [hbk] at HF
     have HNEW:Hid (cutL (l.take (k+1))=P++[[]++[(row,n)]]):=HCUT.out.trans (addCut_new (.inr hbk))
     clear hk0
     have HLEN:=Lib.hid hP.len
     obtain ⟨A9,p9,rfl⟩:=hP.own.len
     have HPa:=Lib.hid (hP.later (Below.alloc (.refl _ wr) (Nat.le_refl _) (.cells #[.slice none 0 0] 26)))
     have hba:=hb.alloc hB (.cells #[.slice none 0 0] 26)
     have HLIT:=Lib.hid (lit_ones (fun _:Unit=>Value.slice none 0 0) wr 26 [()] (by show 1≤1000;decide))
     have HAR:Hid (AllRows w (X++[[]++[(Value.slice Ar row.length pr,n)]]) (cutL (l.take (k+1)))):=by
      show AllRows _ _ _
      rw [HNEW.out];exact HR.out.append (AllRows.one HRO.out)
     clear hP x2 hbk
     go_wp2_with (first|(go_at_call 67;refine HF.out.step ?_)|(at_builtin;refine wpList_append_src rfl (.tmp 21) (.tmp 22) 73 rfl 26 n0 (.slice none 0 0) 1 24 Tryz.underlying73 hn nz0 nz1 nz2 rfl (by decide) (B:=w.heap.size) (.slice A9 tv.length p9) tv.length tv rfl HPa.out.own (.slice (some ⟨wr.heap.size,0,none⟩) 1 1) 1 [.slice none 0 0] rfl HLIT.out one_nil (by unfold maxLen;have:=HLEN.out;omega) (by have:=HLEN.out;omega) hba.size ?_))
     intro v7 wq hO7 hg7 ha7
     have hPG:=HPa.out.push hg7 (by simpa using ha7) hO7
     have hbq:=hba.grown hg7 hba.size (fun q hq=>(HPa.out.own.lt q hq).1)
     have HQL:Hid (tv.length≤k∧([]:List (Value×Int)).length≤k):=⟨by rw [HLEN.out];exact hXL,Nat.zero_le _⟩
     obtain ⟨tq,u,Y,y,e1,e2,e3,e4⟩:∃ tq u Y y,tq=tv∧u=Value.slice none 0 0∧Y=X∧y=([]:List (Value×Int)):=⟨_,_,_,_,rfl,rfl,rfl,rfl⟩
     rw [←e1,←e2,←e3,←e4] at hPG
     replace HAR:Hid (AllRows w (Y++[y++[(Value.slice Ar row.length pr,n)]]) (cutL (l.take (k+1)))):=by show AllRows _ _ _;rw [e3,e4];exact HAR.out
     rw [←e1,←e4] at HQL
     clear hO7 hg7 ha7 HPa hba HLIT e1 e2 e3 e4 HLEN hb hB HXS HR x1
    case' false =>
     rw [hbk] at HF
     rcases snoc_or P with hP0 | ⟨Q,p,hQ⟩
     case' inl=>exact absurd (HCE.out.1 hP0) hk0
     case' inr =>
      subst hQ
      have HNEW:Hid (cutL (l.take (k+1))=Q++[p++[(row,n)]]):=HCUT.out.trans (addCut_last Q p hbk)
      obtain ⟨Y,y,rfl,hY,hy⟩:=HR.out.snoc
      have hlen:=hP.len
      obtain ⟨tq,u,rfl⟩:∃ tq u,tv=tq++[u]:=by
       rcases List.eq_nil_or_concat tv with e | ⟨tq,u,e⟩
       ·rw [e] at hlen;simp at hlen
       ·exact ⟨tq,u,by simpa using e⟩
      have HAR:Hid (AllRows w (Y++[y++[(Value.slice Ar row.length pr,n)]]) (cutL (l.take (k+1)))):=by
       show AllRows _ _ _
       rw [HNEW.out];exact hY.append (AllRows.one (hy.append HRO.out))
      have HQL:Hid (tq.length≤k∧y.length≤k):=⟨by simp at hlen hXL;omega,HXS.out y (by simp)⟩
      clear hk0 hY hy hlen HXS HR
      go_wp2_with (go_at_call 67;refine HF.out.step ?_)
      obtain ⟨wq,rfl⟩:∃ wq,wq=wr:=⟨wr,rfl⟩
      have hPG:=hP
      have hbq:=hb
      clear hP hb hB x1 x2 hbk
   all_goals
    have y1:=(hbq.cell (p:=⟨b,off+k*2,none⟩) hbl).trans HC1.out
    have y2:=(hbq.cell (p:=⟨b,off+k*2+1,none⟩) hbl).trans HC2.out
    have y3:=cell_kept y1 (Below.alloc (.refl wq.heap.size wq) (Nat.le_refl _) (.cells #[.slice Ar row.length pr,.int .i64 n] 46))
    have y4:=cell_kept y2 (Below.alloc (.refl wq.heap.size wq) (Nat.le_refl _) (.cells #[.slice Ar row.length pr,.int .i64 n] 46))
    obtain ⟨hlq,hu,g,offg,capg,rfl,hBg,hgl,cg,fg,hne⟩:=hPG.last
    obtain ⟨Au,pu,rfl⟩:=hu.len
    obtain ⟨hq1,hq2⟩:=HQL.out
    have HPG:=Lib.hid ((hPG.later (Below.alloc (.refl _ _) (Nat.le_refl _) (.cells #[.slice Ar row.length pr,.int .i64 n] 46))).drew)
    have HBQ:=Lib.hid (Below.drew (hbq.alloc hbq.size (.cells #[.slice Ar row.length pr,.int .i64 n] 46)))
    have HU:=Lib.hid ((Own.alloc hu (.cells #[.slice Ar row.length pr,.int .i64 n] 46)).drew)
    have HLIT2:=Lib.hid ((lit_tm wq 46 (.slice Ar row.length pr) n).drew)
    have HBg:=Lib.hid hBg
    have HTL:=Lib.hid hPG.own.len
    clear hPG hbq hu hlq hne HQL
    generalize hml:tq.length=m at *
    have HML:=Lib.hid hml
    clear hml
    obtain ⟨M,hM⟩:∃ M,m+1=M:=⟨_,rfl⟩
    rw [hM] at HPG ⊢
    have cg2:=cell_kept cg (Below.alloc (.refl wq.heap.size wq) (Nat.le_refl _) (.cells #[.slice Ar row.length pr,.int .i64 n] 46))
    have q1:IntKind.i64.wrap ((M:Int)-1)=(m:Int):=by rw [IntKind.wrap_i64];omega
    have q2:(0:Int)≤(m:Int):=by omega
    have q3:(m:Int) < (M:Int):=by omega
    generalize hyl:y.length=yl at *
    have HYL:=Lib.hid hyl
    clear hyl
    generalize hyx:timesV y=yv at *
    clear hM
    go_wp2_with fail
    go_region_law (refine step_append_src rfl (.tmp 33) (.tmp 38) 26 rfl 46 m0 (.agg #[.slice none 0 0,.int .i64 0]) 2 32 Tryz.underlying26 hm mz0 mz1 mz2 rfl (by decide) (.slice Au yl pu) yl yv ?_ HU.out (.slice (some ⟨wq.heap.size,0,none⟩) 1 1) 1 [.slice Ar row.length pr,.int .i64 n] ?_ HLIT2.out HONE.out ?_ ?_ ?_ ?_;rfl;rfl;(focus (unfold maxLen;omega));omega;(focus (have h1:=HBQ.out.size;exact h1));intro v7 w7 hO7 hg7 ha7;obtain ⟨A7,p7,rfl⟩:=hO7.len;obtain ⟨s7,f7⟩:=HPG.out.slot hg7;rw [HML.out] at s7 f7)
    all_goals
     have hgr:=HPG.out.grew (u':=.slice A7 (yl+1) p7) (rv:=.slice Ar row.length pr) (c:=n) hg7 ha7 (by rw [HYL.out,hyx];exact hO7)
     rw [HML.out] at hgr
     have hbn:=(HBQ.out.grown hg7 HBQ.out.size (fun q hq=>(HU.out.lt q hq).1)).setCell (p:=⟨g,offg+m,none⟩) HBg.out (.slice A7 (yl+1) p7)
     clear s7 f7 hg7 ha7 hO7 cg fg cg2 y1 y2 y3 y4 hyx
     go_wp2
     go_roundw
     case rel=>exact ⟨k+1,by omega,by go_num,⟨_,_,hgr,HAR⟩,hbn⟩
     case measure=>simp [intOf];omega
  ·obtain rfl:k=l.length:=by omega
   rw [List.take_length] at HR
   have HPI:=Lib.hid (hP.pieces HR.out hb)
   clear hP
   go_wp2
   go_ret
   exact ⟨_,rfl,HPI.out,hb⟩
end Go.Proofs.YtafmbnafibahkaaGreat
