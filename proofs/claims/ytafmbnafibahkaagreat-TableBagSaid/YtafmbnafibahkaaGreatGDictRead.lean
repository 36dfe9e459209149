/- The contract of the answer's Read of layer 5. -/
import Derived.Test.YtafmbnafibahkaaGreatGStrs
import Derived.Test.YtafmbnafibahkaaGreatGRuns
import Derived.Test.YtafmbnafibahkaaGreatGDict
import Derived.Test.YtafmbnafibahkaaGreatGDictPrint
import Derived.Test.YtafmbnafibahkaaGreatGShelfRead
import Derived.Test.YtafmbnafibahkaaGreatGDictRef
namespace Go.Proofs.YtafmbnafibahkaaGreat
open Go Go.RowKit
theorem Tryz.infoT9:(Tryz.prog.info? 9).map (fun i=>(i.zero,i.size,i.bytes))=some (some (.string ⟨#[]⟩),1,16):=by kernel_rfl
def wordsI:Nat→ByteArray→Bool→List ByteArray×ByteArray×Bool
 | 0,s,bad=>([],s,bad)
 | k+1,s,bad=>((wordsI k s bad).1++[(readT (wordsI k s bad).2.1 (wordsI k s bad).2.2).1],(readT (wordsI k s bad).2.1 (wordsI k s bad).2.2).2.1,(readT (wordsI k s bad).2.1 (wordsI k s bad).2.2).2.2)
theorem wordsI_length (s:ByteArray)(bad:Bool):∀ k,(wordsI k s bad).1.length=k
 | 0=>rfl
 | k+1=>by show ((wordsI k s bad).1++[_]).length=_;rw [List.length_append,wordsI_length s bad k];rfl
theorem readT_size (s:ByteArray)(bad:Bool):(readT s bad).2.1.size≤s.size:=by
 unfold readT;split
 ·exact cellT_size _ _
 ·exact Nat.le_refl _
theorem wordsI_size (s:ByteArray)(bad:Bool):∀ k,(wordsI k s bad).2.1.size≤s.size
 | 0=>Nat.le_refl _
 | k+1=>Nat.le_trans (readT_size _ _) (wordsI_size s bad k)
theorem wordsI_get (s:ByteArray)(bad:Bool)(k:Nat):∀ n,k < n→(wordsI n s bad).1[k]? = some (readT (wordsI k s bad).2.1 (wordsI k s bad).2.2).1
 | 0,h=>absurd h (by omega)
 | n+1,h=>by
  show ((wordsI n s bad).1++[_])[k]? = _
  have hl:=wordsI_length s bad n
  by_cases hk:k < n
  ·rw [List.getElem?_append_left (by omega)];exact wordsI_get s bad k n hk
  ·obtain rfl:k=n:=by omega
   rw [List.getElem?_append_right (by omega),hl,Nat.sub_self];rfl
theorem wordsI_bad (s:ByteArray):∀ k,(wordsI k s true).2.2=true
 | 0=>rfl
 | k+1=>by
  show (readT _ (wordsI k s true).2.2).2.2=true
  rw [wordsI_bad s k];rfl
theorem wordsI_ends (s:ByteArray):∀ n,((wordsI n s false).2.2=false∧WordsAt s.data.toList n (wordsI n s false).1 (wordsI n s false).2.1.data.toList)∨((wordsI n s false).2.2=true∧¬∃ ws r,WordsAt s.data.toList n ws r)
 | 0=>.inl ⟨rfl,rfl,by intro c hc;simp [wordsI] at hc,by simp [wordsI]⟩
 | n+1=>by
  rcases wordsI_ends s n with ⟨h1,h2⟩ | ⟨h1,h2⟩
  ·cases hok:cellOk (wordsI n s false).2.1 false with
   | true =>
    have e:readT (wordsI n s false).2.1 (wordsI n s false).2.2=((cellT (wordsI n s false).2.1 false).1,(cellT (wordsI n s false).2.1 false).2.1,false):=by rw [h1];unfold readT;rw [if_pos hok]
    refine .inl ⟨by show (readT _ _).2.2=false;rw [e],?_⟩
    have h3:=h2.go hok
    show WordsAt _ _ ((wordsI n s false).1++[(readT _ _).1]) (readT _ _).2.1.data.toList
    rw [e];exact h3
   | false =>
    have e:readT (wordsI n s false).2.1 (wordsI n s false).2.2=(⟨#[]⟩,(wordsI n s false).2.1,true):=by rw [h1];unfold readT;rw [if_neg (by rw [hok];decide)]
    exact .inr ⟨by show (readT _ _).2.2=true;rw [e],h2.stop (Nat.lt_succ_self n) hok⟩
  ·refine .inr ⟨?_,?_⟩
   ·show (readT _ (wordsI n s false).2.2).2.2=true
    rw [h1];rfl
   ·rintro ⟨ws,r,k1,k2,k3⟩
    obtain ⟨c,hne⟩:∃ c,ws=ws.dropLast++[c]:=⟨ws.getLast (by rintro rfl;simp at k1),(List.dropLast_concat_getLast _).symm⟩
    refine h2 ⟨ws.dropLast,cellP c++r,by rw [List.length_dropLast,k1];rfl,fun d hd=>k2 d (List.dropLast_subset _ hd),?_⟩
    rw [k3]
    conv=>lhs;rw [hne]
    rw [List.flatMap_append,List.append_assoc];simp
def blanks (n:Nat):List Value:=List.replicate n (Value.string ⟨#[]⟩)
set_option maxHeartbeats 1000000 in
set_option maxRecDepth 100000 in
theorem takeWords_calls (b:Nat)(s:ByteArray)(bad:Bool)(hs:s.size≤9223372036854775807)(w:World)(hT:TapeIn 154 w b s bad) :
  Calls Tryz.prog 207 #[.pointer (some ⟨b,0,none⟩)] w fun e w'=>∃ v,e=.returned v ∧
   StrsIn w' v (wordsI (numT s bad 4096).1 (numT s bad 4096).2.1 (numT s bad 4096).2.2).1∧Fresh w.heap.size v ∧
   TapeIn 154 w' b (wordsI (numT s bad 4096).1 (numT s bad 4096).2.1 (numT s bad 4096).2.2).2.1 (wordsI (numT s bad 4096).1 (numT s bad 4096).2.1 (numT s bad 4096).2.2).2.2∧w.grownBy w' (some b):=by
 obtain ⟨i0,hi,hz0,hz1,hz2⟩:=info_parts Tryz.infoT9
 have hg:=grown_refl w (some b)
 have hbw:=hT.lt
 have H1:=Lib.hid (tnum_calls b s bad 4096)
 have hn:=numT_le s bad 4096 (by decide)
 have hr:=numT_size s bad 4096
 generalize numT s bad 4096=X at *
 obtain ⟨n,r0,b0⟩:=X
 simp only at H1 hn hr ⊢
 have hn':n≤4096:=by omega
 clear hn
 have hwl:=wordsI_length r0 b0 n
 have hws:=fun k=>wordsI_size r0 b0 k
 have HX:=Lib.hid (show ((wordsI n r0 b0).1.map Value.string).length=n by rw [List.length_map,hwl])
 have HZ:=Lib.hid (show (blanks n).length=n from List.length_replicate)
 have HWS:=Lib.hid hws
 have HWL:=Lib.hid hwl
 clear hwl hws
 go_enter Tryz.func207,Tryz.ntmps207
 go_wp2_with (first|(go_at_call 185;refine H1.out.step hT hg ?_;clear hT hg;intro w1 hT hg)|(at_make;refine wpList_make_full _ rfl _ _ 44 rfl w.heap.size 9 i0 (.string ⟨#[]⟩) 1 Tryz.underlying44 hi hz0 hz1 .u64 .u64 _ _ n rfl rfl rfl rfl (by rw [hz2];omega) (by unfold maxLen;omega) hg.size ?_))
 intro w2 hrow hg2
 have hg3:=grown_new hg hg2
 have hT3:=hT.new hg2
 have hgw:w.heap.size≤w1.heap.size:=hg.size
 rw [toList_madeCells_one] at hrow
 have hO:Own w2 w.heap.size 1 (.slice (some ⟨w1.heap.size,0,none⟩) n n) n (blanks n):=Own.of_row (B:=w.heap.size) hrow (by unfold maxLen;omega) (Nat.le_refl _)
 clear hrow hg2 hT hg
 generalize w1.heap.size=g at *
 go_wp2
 go_loopw [10] (fun i wr=>∃ (k:Nat),k≤n∧i=.int .i64 k∧Own wr w.heap.size 1 (.slice (some ⟨g,0,none⟩) n n) n (((wordsI n r0 b0).1.map Value.string).take k++(blanks n).drop k)∧TapeIn 154 wr b (wordsI k r0 b0).2.1 (wordsI k r0 b0).2.2∧w.grownBy wr (some b)) (fun i _=>n-(intOf i).toNat)
 case atStart=>exact ⟨0,by omega,rfl,by simpa using hO,hT3,hg3⟩
 case round =>
  clear hO hT3 hg3
  obtain ⟨k,hk,rfl,hO,hT,hg⟩:=hrel
  by_cases hlt:k < n
  ·have H2:=Lib.hid (readCell_calls b (wordsI k r0 b0).2.1 (wordsI k r0 b0).2.2 (Nat.le_trans (HWS.out k) (by omega)))
   have HP:=Lib.hid (show ((wordsI n r0 b0).1.map Value.string)[k]? = some (.string (readT (wordsI k r0 b0).2.1 (wordsI k r0 b0).2.2).1) by rw [List.getElem?_map,wordsI_get r0 b0 k n hlt];rfl)
   have HN:Hid ((readT (wordsI k r0 b0).2.1 (wordsI k r0 b0).2.2).2=(wordsI (k+1) r0 b0).2):=rfl
   generalize readT (wordsI k r0 b0).2.1 (wordsI k r0 b0).2.2=Y at *
   obtain ⟨c,r1,b1⟩:=Y
   simp only at H2 HP HN
   go_wp2_with (go_at_call 205;refine H2.out.stepG hT hg ?_;clear hT hg;intro w3 hT hg hq;replace hO:=own_aside hO hbw hq;clear hq;have hc1:=(hO.fillCell HX.out HZ.out hlt).1;have hc2:=(hO.fillCell HX.out HZ.out hlt).2)
   have hO':=hO.filled HX.out HZ.out hlt HP.out
   have hT':=hT.other (grown_set (grown_refl w3 (some g)) k (.string c)) (by omega)
   have hg':=grown_own hg hgw k (.string c)
   clear hc1 hc2 hO hT hg
   go_roundw
   case rel =>
    refine ⟨k+1,by omega,by go_num,hO',?_,hg'⟩
    rw [←HN.out];exact hT'
   case measure=>simp [intOf];omega
  ·obtain rfl:k=n:=by omega
   have h2:=(hO.full HX.out HZ.out).slice
   go_wp2
   go_ret
   refine ⟨_,rfl,?_,fun j hj=>(hO.lt j hj).1,hT,hg⟩
   unfold StrsIn
   rw [HWL.out]
   exact h2
def ShelfEnd (T:TypeId)(w:World)(b:Nat)(s:ByteArray)(bad:Bool)(many:Int)(e:Ending)(w':World):Prop :=
 ∃ v a s' bad',e=.returned v∧IntsIn w' v a∧Fresh w.heap.size v∧TapeIn T w' b s' bad'∧w.grownBy w' (some b)∧s'.size≤s.size∧a.length≤4096 ∧
  ((bad'=false∧bad=false∧ShelfAt s.data.toList many a s'.data.toList)∨(bad'=true∧a=[]∧(bad=true∨¬∃ a r,ShelfAt s.data.toList many a r)))
theorem shelf_end (b:Nat)(s:ByteArray)(bad:Bool)(hs:s.size≤9223372036854775807)(many:Int)(w:World)(hT:TapeIn 154 w b s bad) :
  Calls Tryz.prog 147 #[.pointer (some ⟨b,0,none⟩),.int .i64 many] w (ShelfEnd 154 w b s bad many):=by
 have hnil:∀ w':World,IntsIn w' (.slice none 0 0) []:=fun w'=>SliceOf.nil_ _ _ _ _
 cases bad with
 | true =>
  refine (shelf_read_badtape b s hs many w hT).mono ?_
  rintro e w' ⟨he,hT',hg⟩
  exact ⟨_,[],s,true,he,hnil _,fresh_nil _,hT',hg,Nat.le_refl _,by simp,.inr ⟨rfl,rfl,.inl rfl⟩⟩
 | false =>
  by_cases h:∃ a r,ShelfAt s.data.toList many a r
  ·obtain ⟨a,r,h⟩:=h
   have hl:a.length≤4096:=by have:=h.2.1;have:=h.2.2.1;omega
   have hrs:(mkB r).size≤s.size:=by
    rw [mkB_size,←data_size,h.2.2.2.2,List.length_append];omega
   refine Calls.mono (shelf_read_some b s hs h w hT) ?_
   rintro e w' ⟨v,he,hi,hf,hT',hg⟩
   exact ⟨v,a,mkB r,false,he,hi,hf,hT',hg,hrs,hl,.inl ⟨rfl,rfl,h⟩⟩
  ·refine (shelf_read_none b s hs many h w hT).mono ?_
   rintro e w' ⟨he,hT',hg⟩
   exact ⟨_,[],s,true,he,hnil _,fresh_nil _,hT',hg,Nat.le_refl _,by simp,.inr ⟨rfl,rfl,.inr h⟩⟩
def DictEnd (T:TypeId)(w:World)(b:Nat)(s:ByteArray)(many:Int)(e:Ending)(w':World):Prop :=
 ∃ v l s' bad',e=.returned v∧StrsIn w' v l∧Fresh w.heap.size v∧TapeIn T w' b s' bad'∧w.grownBy w' (some b)∧s'.size≤s.size ∧
  ((bad'=false∧∃ ws a,ParseAt s.data.toList many ws a s'.data.toList∧AllIn ws a∧l=picks ws a)∨(bad'=true∧¬∃ l r,DictAt s.data.toList many l r))
theorem numT_lacks {s:ByteArray}{m:Int}(h:(numT s false m).2.2=true)(n:Nat)(hn:(n:Int)≤m)(hn2:n < 18446744073709551616):¬∃ r,s.data.toList=vp n++r:=by
 rintro ⟨r,e⟩
 have hs:s=printB n++mkB r:=bytes_ext (by rw [data_append,print_data,mkB_data,e])
 rw [hs,numT_print n hn2 (mkB r) m hn] at h
 exact Bool.false_ne_true h
theorem dict_ends {s:ByteArray}{many:Int}{b1:Bool}{s':ByteArray}{bad':Bool}{a:List Int}
  (hb1:b1=(wordsI (numT s false 4096).1 (numT s false 4096).2.1 (numT s false 4096).2.2).2.2)
  (h:(bad'=false∧b1=false∧ShelfAt (wordsI (numT s false 4096).1 (numT s false 4096).2.1 (numT s false 4096).2.2).2.1.data.toList many a s'.data.toList) ∨
   (bad'=true∧a=[]∧(b1=true∨¬∃ a r,ShelfAt (wordsI (numT s false 4096).1 (numT s false 4096).2.1 (numT s false 4096).2.2).2.1.data.toList many a r))) :
  (bad'=false∧ParseAt s.data.toList many (wordsI (numT s false 4096).1 (numT s false 4096).2.1 (numT s false 4096).2.2).1 a s'.data.toList)∨(bad'=true∧¬∃ l r,DictAt s.data.toList many l r):=by
 have hle:=numT_le s false 4096 (by decide)
 cases hn:(numT s false 4096).2.2 with
 | true =>
  rw [hn] at hb1 h
  rw [wordsI_bad] at hb1
  subst hb1
  rcases h with ⟨_,h,_⟩ | ⟨h,_⟩
  ·exact absurd h (by decide)
  ·refine .inr ⟨h,ParseAt.none_of ?_⟩
   rintro ⟨ws,a,r,h0,r1,e1,_⟩
   exact numT_lacks hn ws.length (by omega) (by omega) ⟨_,e1⟩
 | false =>
  rw [hn] at hb1 h
  obtain ⟨_,es⟩:=numT_good hn
  have es':s.data.toList=vp (numT s false 4096).1++(numT s false 4096).2.1.data.toList:=by
   rw [←print_data,←data_append];exact congrArg (fun x=>x.data.toList) es
  have hends:=wordsI_ends (numT s false 4096).2.1 (numT s false 4096).1
  have hlen:=wordsI_length (numT s false 4096).2.1 false (numT s false 4096).1
  generalize numT s false 4096=X at *
  obtain ⟨n,r0,b0⟩:=X
  simp only at *
  generalize wordsI n r0 false=W at *
  obtain ⟨ws,r1,bw⟩:=W
  simp only at *
  subst hb1
  have none_of:(b1=true∨¬∃ a r,ShelfAt r1.data.toList many a r)→¬∃ l r,DictAt s.data.toList many l r:=by
   intro hor
   refine ParseAt.none_of ?_
   rintro ⟨ws',a',r',h0,q1,e1,q2,e2,e3⟩
   obtain ⟨k1,k2⟩:=vp_front (by omega) (by omega) (es'.symm.trans e1)
   subst k2
   rw [←k1] at e2
   rcases hends with ⟨h1,h2⟩ | ⟨h1,h2⟩
   ·rcases hor with h3|h3
    ·rw [h1] at h3;exact absurd h3 (by decide)
    ·obtain ⟨_,e4⟩:=h2.same e2
     rw [e4] at h3
     exact h3 ⟨_,_,e3⟩
   ·exact h2 ⟨_,_,e2⟩
  rcases h with ⟨h1,h2,h3⟩ | ⟨h1,_,h3⟩
  ·rcases hends with ⟨_,h4⟩ | ⟨h4,_⟩
   ·refine .inl ⟨h1,by omega,_,by rw [hlen];exact es',_,by rw [hlen];exact h4,h3⟩
   ·rw [h2] at h4;exact absurd h4 (by decide)
  ·exact .inr ⟨h1,none_of h3⟩
theorem all_take {ws:List ByteArray}{a:List Int}{k:Nat}(h:AllIn ws (a.take k))(hk:k < a.length)(h1:0≤a[k])(h2:a[k] < ws.length):AllIn ws (a.take (k+1)):=by
 intro x hx
 rw [take_add a k hk] at hx
 rcases List.mem_append.1 hx with hx|hx
 ·exact h x hx
 ·rw [List.mem_singleton.1 hx];exact ⟨h1,h2⟩
set_option maxHeartbeats 2000000 in
set_option maxRecDepth 100000 in
theorem dict_take_calls (b:Nat)(s:ByteArray)(many:Int)(hs:s.size≤9223372036854775807)(w:World)(hT:TapeIn 154 w b s false) :
  Calls Tryz.prog 198 #[.pointer (some ⟨b,0,none⟩),.int .i64 many] w (DictEnd 154 w b s many):=by
 obtain ⟨i0,hi,hz0,hz1,hz2⟩:=info_parts Tryz.infoT9
 have hbw:=hT.lt
 have H1:=Lib.hid (takeWords_calls b s false hs w hT)
 have HE:=Lib.hid (fun b1 s' bad' a=>dict_ends (s:=s) (many:=many) (b1:=b1) (s':=s') (bad':=bad') (a:=a))
 have hsz:=Nat.le_trans (wordsI_size (numT s false 4096).2.1 (numT s false 4096).2.2 (numT s false 4096).1) (numT_size s false 4096)
 have hwl:=wordsI_length (numT s false 4096).2.1 (numT s false 4096).2.2 (numT s false 4096).1
 have hnl:=numT_le s false 4096 (by decide)
 generalize wordsI (numT s false 4096).1 (numT s false 4096).2.1 (numT s false 4096).2.2=W at *
 obtain ⟨ws,r1,b1⟩:=W
 simp only at H1 HE hsz hwl
 replace HE:=HE.out b1
 have HE':=Lib.hid (fun s' bad' a h=>HE s' bad' a rfl h)
 have hws:ws.length≤4096:=by omega
 clear HE hwl hnl
 go_enter Tryz.func198,Tryz.ntmps198
 go_wp2_with fail
 refine H1.out.mono ?_
 rintro e w1 ⟨v1,rfl,hi1,hf1,hT1,hg1⟩
 have H2:=Lib.hid (shelf_end b r1 b1 (by omega) many w1 hT1)
 have HI1:=Lib.hid hi1
 have hw1:=hg1.size
 obtain ⟨A1,c1,rfl,_⟩:=one_at hi1
 clear hT H1 hi1 hT1
 go_wp2_with fail
 refine H2.out.mono ?_
 rintro e w2 ⟨v2,a,s',bad',rfl,hi2,hf2,hT2,hg2,hs2,hal,hend⟩
 have HEND:=Lib.hid (HE'.out s' bad' a hend)
 have hii1:StrsIn w2 (.slice A1 ws.length c1) ws:=HI1.out.keepOwn hg2.size fun k hk hl=>hg2.block k hl (by have:=hf1 k hk;simp;omega)
 have hg12:=grown_trans hg1 hg2
 have hw2:=hg2.size
 have HS:=Lib.hid (show s'.size≤s.size by omega)
 clear hend H2 HI1 hg1 hg2 hs2 hsz
 obtain ⟨A2,c2,rfl,hat2⟩:=one_at hi2
 have HS1:=Lib.hid hii1
 have HS2:=Lib.hid hi2
 have HAT2:=Lib.hid hat2
 clear hii1 hi2 hat2
 go_wp2_with (at_make;refine wpList_make_full _ rfl _ _ 44 rfl w2.heap.size 9 i0 (.string ⟨#[]⟩) 1 Tryz.underlying44 hi hz0 hz1 .i64 .i64 _ _ a.length rfl rfl rfl rfl (by rw [hz2];omega) (by unfold maxLen;omega) (Nat.le_refl _) ?_)
 intro w3 hrow hg3
 have hb3:Below w2.heap.size w2 w3:=(Below.refl _ w2).grown hg3 (Nat.le_refl _) (fun k hk=>by cases hk)
 rw [toList_madeCells_one] at hrow
 have hO:Own w3 w2.heap.size 1 (.slice (some ⟨w2.heap.size,0,none⟩) a.length a.length) a.length (blanks a.length):=Own.of_row (B:=w2.heap.size) hrow (by unfold maxLen;omega) (Nat.le_refl _)
 have HX:=Lib.hid (show ((picks ws a).map Value.string).length=a.length by rw [List.length_map,picks_length])
 have HZ:=Lib.hid (show (blanks a.length).length=a.length from List.length_replicate)
 have hbg:b < w2.heap.size:=by omega
 have hcap:Hid (Fresh w.heap.size (.slice (some ⟨w2.heap.size,0,none⟩) a.length a.length)):=fun k hk=>by simp only [Value.ownBlock,Option.some.injEq] at hk;omega
 clear hrow hg3
 go_wp2
 go_loopw [20] (fun i wr=>∃ (k:Nat),k≤a.length∧i=.int .i64 k∧Hid (AllIn ws (a.take k))∧Own wr w2.heap.size 1 (.slice (some ⟨w2.heap.size,0,none⟩) a.length a.length) a.length (((picks ws a).map Value.string).take k++(blanks a.length).drop k)∧Below w2.heap.size w2 wr) (fun i _=>a.length-(intOf i).toNat)
 case atStart=>exact ⟨0,by omega,rfl,fun x hx=>by simp at hx,by simpa using hO,hb3⟩
 case round =>
  clear hO hb3
  obtain ⟨k,hk,rfl,HA,hO,hb⟩:=hrel
  have hB:=hb.size
  by_cases hlt:k < a.length
  ·obtain ⟨o2,f2,rfl,hbl2,hc2⟩:=HAT2.out k hlt
   have hx2:=(hb.cell (p:=⟨o2,f2+k,none⟩) hbl2).trans (hc2 k hlt)
   have HAK:=Lib.hid (fun h1 h2=>all_take HA.out hlt h1 h2)
   have HNO:Hid (¬(0≤a[k]∧a[k] < ws.length)→¬AllIn ws a):=fun h h'=>h (h' _ (List.getElem_mem hlt))
   have HPK:=Lib.hid (fun (j:Nat) (hj:a[k]=j) (hw:j < ws.length)=>picks_get (ws:=ws) hlt hj hw)
   have hT3:=hT2.kept hb
   clear hc2
   generalize a[k]=x at *
   by_cases hin:0≤x∧x < ws.length
   ·obtain ⟨j,rfl⟩:∃ j:Nat,x=j:=⟨x.toNat,by omega⟩
    have hjl:j < ws.length:=by omega
    have HP:=Lib.hid (show ((picks ws a).map Value.string)[k]? = some (.string ws[j]) by rw [List.getElem?_map,HPK.out j rfl hjl];rfl)
    have HAK':=Lib.hid (HAK.out hin.1 hin.2)
    obtain ⟨A,c,e1,hat1⟩:=one_at HS1.out
    obtain ⟨o1,f1,e2,hbl1,hc1⟩:=hat1 j hjl
    simp only [Value.slice.injEq] at e1
    obtain ⟨rfl,_,rfl⟩:=e1
    subst e2
    have hx1:=(hb.cell (p:=⟨o1,f1+j,none⟩) hbl1).trans (hc1 j hjl)
    obtain ⟨hs1,hs2⟩:=hO.fillCell HX.out HZ.out hlt
    have hO':=Lib.hid (hO.filled HX.out HZ.out hlt HP.out)
    have hb':=Lib.hid (hb.setCell (p:=⟨w2.heap.size,k,none⟩) (Nat.le_refl _) (.string ws[j]))
    have d1:decide ((ws.length:Int)≤(j:Int))=false:=by rw [decide_eq_false_iff_not];omega
    have d2:decide (ws.length≤j)=false:=by rw [decide_eq_false_iff_not];omega
    obtain ⟨z0,hz0'⟩:∃ z,(blanks a.length)[k]'(by rw [HZ.out];exact hlt)=z:=⟨_,rfl⟩
    rw [hz0'] at hs1
    clear hz0' hc1 hat1 hO hin HPK HNO HAK hT3
    go_wp2
    go_roundw
    case rel=>exact ⟨k+1,by omega,by go_num,HAK'.out,hO'.out,hb'.out⟩
    case measure=>simp [intOf];omega
   ·have HN:=Lib.hid (HNO.out hin)
    have hcc:=hT3.c1
    have hff:=hT3.f0 1
    have hTb:=Lib.hid (hT3.set1 true)
    have hgb:=Lib.hid (grown_set (grown_trans hg12 (grown_below hb (some b))) 1 (.bool true))
    have hres:Hid (DictEnd 154 w b s many (.returned (.slice none 0 0)) (wr.setCell ⟨b,1,none⟩ (.bool true))) :=
     ⟨_,[],s',true,rfl,SliceOf.nil_ _ _ _ _,fresh_nil _,hTb.out,hgb.out,HS.out,.inr ⟨rfl,by
      rcases HEND.out with ⟨_,h⟩ | ⟨_,h⟩
      ·exact h.out HN.out
      ·exact h⟩⟩
    clear hTb hgb hO HPK HNO HAK hT3
    by_cases h0:x < 0
    ·have d1:decide (x < 0)=true:=by rw [decide_eq_true_eq];exact h0
     clear hin
     go_wp2
     go_ret
     exact hres.out
    ·have d1:decide (x < 0)=false:=by rw [decide_eq_false_iff_not];exact h0
     have d2:decide ((ws.length:Int)≤x)=true:=by rw [decide_eq_true_eq];omega
     clear hin
     go_wp2
     go_ret
     exact hres.out
  ·obtain rfl:k=a.length:=by omega
   have h2:=(hO.full HX.out HZ.out).slice
   have hT3:=hT2.kept hb
   have hgb:=grown_trans hg12 (grown_below hb (some b))
   rw [List.take_length] at HA
   go_wp2
   go_ret
   refine ⟨_,picks ws a,s',bad',rfl,by unfold StrsIn;rw [picks_length];exact h2,hcap.out,hT3,hgb,HS.out,?_⟩
   rcases HEND.out with ⟨h3,h4⟩|h3
   ·exact .inl ⟨h3,ws,a,h4,HA.out,rfl⟩
   ·exact .inr h3
def DictRead (T:TypeId)(w:World)(b:Nat)(s s0:ByteArray)(many:Int)(e:Ending)(w':World):Prop :=
 (∃ v l r,e=.returned v∧DictAt s.data.toList many l r∧StrsIn w' v l∧Fresh w.heap.size v∧TapeIn T w' b (mkB r) false∧w.grownBy w' (some b)) ∨
 (e=.returned (.slice none 0 0)∧TapeIn T w' b s0 true∧w.grownBy w' (some b)∧¬∃ l r,DictAt s.data.toList many l r)
theorem front_of {s s':ByteArray}{X:List UInt8}(h:s.data.toList=X++s'.data.toList):(s.extract 0 (s.size-s'.size)).data.toList=X∧s'.size≤s.size:=by
 have hl:=congrArg List.length h
 rw [List.length_append,data_size,data_size] at hl
 refine ⟨?_,by omega⟩
 rw [data_extract,h,List.drop_zero,Nat.sub_zero,show s.size-s'.size=X.length by omega,List.take_left]
theorem dict_taken {s s':ByteArray}{many:Int}{ws:List ByteArray}{a:List Int}(h:ParseAt s.data.toList many ws a s'.data.toList)(ha:AllIn ws a) :
  (dictB (picks ws a)=s.extract 0 (s.size-s'.size)∧DictAt s.data.toList many (picks ws a) s'.data.toList)∨(dictB (picks ws a)≠s.extract 0 (s.size-s'.size)∧¬∃ l r,DictAt s.data.toList many l r):=by
 have h0:=h
 obtain ⟨_,r1,e1,r2,h2,h3⟩:=h
 obtain ⟨_,_,e2⟩:=h2
 have es:s.data.toList=(vp ws.length++(ws.flatMap cellP++shelfP a))++s'.data.toList:=by rw [e1,e2,h3.2.2.2.2,List.append_assoc,List.append_assoc]
 obtain ⟨hX,_⟩:=front_of es
 by_cases hd:dictP (picks ws a)=vp ws.length++(ws.flatMap cellP++shelfP a)
 ·refine .inl ⟨bytes_ext (by rw [hX];exact hd),h0.dict ha (by rw [hd];exact es)⟩
 ·refine .inr ⟨fun e=>hd ?_,h0.no fun e=>hd ?_⟩
  ·rw [←hX,←e];rfl
  ·exact (List.append_cancel_right (e.symm.trans es))
set_option maxHeartbeats 2000000 in
set_option maxRecDepth 100000 in
theorem dict_read_calls (b:Nat)(s:ByteArray)(many:Int)(hs:s.size≤9223372036854775807)(w:World)(hT:TapeIn 154 w b s false) :
  Calls Tryz.prog 187 #[.pointer (some ⟨b,0,none⟩),.int .i64 many] w (DictRead 154 w b s s many):=by
 have hc0:=hT.c0
 have hc1:=hT.c1
 have HK:=Lib.hid (fun b' w hT=>dict_take_calls b' s many hs w hT)
 go_enter Tryz.func187,Tryz.ntmps187
 go_wp2_with fail
 refine (HK.out _ _ (box_tape w s false _)).mono ?_
 rintro e w1 ⟨v,l,r,bad',rfl,hi,hfr,hA,hg,hrs,hend⟩
 have hsz:(s.extract 0 (s.size-r.size)).size=s.size-r.size:=by rw [ByteArray.size_extract];omega
 have q1:IntKind.i64.wrap ((s.size:Int)-(r.size:Int))=(s.size:Int)-(r.size:Int):=IntWalk.i64_in _ (by omega)
 have q2:(0:Int)≤(s.size:Int)-(r.size:Int):=by omega
 have q3:((s.size:Int)-(r.size:Int)).toNat=s.size-r.size:=by omega
 have q4:(s.size:Int)-(r.size:Int)≤(s.size:Int):=by omega
 have q5:s.size-r.size≤s.size:=by omega
 have hb1:Below w.heap.size w w1:=(Below.alloc (.refl _ w) (Nat.le_refl _) (.cells #[.string s,.bool false] 154)).grown hg (by simp) (fun k hk=>by cases hk;exact Nat.le_refl _)
 have hT1:=hT.kept hb1
 have hB1:=hb1.size
 have hbw:=hT.lt
 have hfr':Fresh (w.heap.size+1) v:=by simpa using hfr
 clear hT hc0 hc1 hg hfr
 have HF:=Lib.hid hfr'
 obtain ⟨A,cap,rfl,_⟩:=one_at hi
 clear hfr'
 have c0:=hT1.c0
 have c1:=hT1.c1
 have a0:=hA.c0
 have a1:=hA.c1
 have f0:=hT1.f0 0
 have f1:=hT1.f0 1
 rcases hend with ⟨rfl,ws,a,hP,hAll,rfl⟩ | ⟨rfl,hn⟩
 ·have hl:(picks ws a).length≤4096:=by
   obtain ⟨_,_,_,_,_,h2,h3,h4,_⟩:=hP
   rw [picks_length];omega
  have hsm:Hid (∀ c∈picks ws a,c.size≤1000000):=by
   intro c hc
   obtain ⟨_,_,_,_,h2,_⟩:=hP
   have:=rightB_size (h2.2.1 c (picks_mem hAll c hc));omega
  have hD:=dict_taken hP hAll
  clear hP hAll
  generalize picks ws a=l at *
  generalize hX:s.extract 0 (s.size-r.size)=X at *
  have HX:=Lib.hid hX
  clear hX
  rcases hD with ⟨e1,hat⟩ | ⟨e1,hn⟩
  ·have HD:=Lib.hid hat
   have g1:((dictB l).toList==X.toList)=true:=by rw [e1];simp
   have g2:((dictB l).toList != X.toList)=false:=by rw [e1];simp
   clear hat e1
   go_wp2
   go_quiet (fail)
   rw [HX.out]
   go_wp2_with (go_at_call 166;refine (dict_print_calls (hi.drewN _) hl hsm.out).drewN hb1 hB1 ?_)
   intro w2 hb2 hk2
   have hT2:=hT1.kept hk2
   have hA2:=hA.kept hk2
   have hi2:=StrsIn.kept hi hk2
   clear c0 c1 a0 a1 f0 f1 hT1 hA hi
   have c0:=hT2.c0
   have c1:=hT2.c1
   have a0:=hA2.c0
   have a1:=hA2.c1
   have f0:=hT2.f0 0
   have f1:=hT2.f0 1
   go_wp2
   go_ret
   refine .inl ⟨_,l,r.data.toList,rfl,HD.out,?_,HF.out.mono (by omega),by rw [mkB_of];exact (hT2.set0 _).set1 _,grown_set (grown_set (grown_below hb2 _) _ _) _ _⟩
   exact SliceOf.fresh hi2 HF.out (grown_set (grown_set (grown_refl w2 (some b)) 0 (.string r)) 1 (.bool false)) (by omega)
  ·have HN:=Lib.hid hn
   obtain ⟨_,g1,g2⟩:=(str_ne_cases (dictB l) X).resolve_left (fun x=>e1 x.1)
   clear hn e1
   go_wp2
   go_quiet (fail)
   rw [HX.out]
   go_wp2_with (go_at_call 166;refine (dict_print_calls (hi.drewN _) hl hsm.out).drewN hb1 hB1 ?_)
   intro w2 hb2 hk2
   have hT2:=hT1.kept hk2
   clear c0 c1 a0 a1 f0 f1 hT1 hA hi
   have c1:=hT2.c1
   have f1:=hT2.f0 1
   go_wp2
   go_ret
   exact .inr ⟨rfl,hT2.set1 _,grown_set (grown_below hb2 _) _ _,HN.out⟩
 ·have HN:=Lib.hid hn
  clear hn
  go_wp2
  go_quiet (fail)
  go_wp2
  go_ret
  exact .inr ⟨rfl,(hT1.drewN _).set1 _,grown_set (grown_below (below_drewN hb1 _) _) _ _,HN.out⟩
def ShelfSays (s:ByteArray)(bad:Bool)(many:Int)(a:List Int)(s':ByteArray)(bad':Bool):Prop :=
 (bad'=false∧bad=false∧ShelfAt s.data.toList many a s'.data.toList)∨(bad'=true∧a=[]∧(bad=true∨¬∃ a r,ShelfAt s.data.toList many a r))
def WState (s:ByteArray)(many:Int)(ws:List ByteArray)(cur:ByteArray)(bad:Bool)(m:Nat):Prop :=
 (bad=false∧∃ N r0,m≤N∧N≤4096∧s.data.toList=vp N++r0∧WordsAt r0 (N-m) ws cur.data.toList)∨(bad=true∧¬∃ ws a r,ParseAt s.data.toList many ws a r)
theorem WState.first (s:ByteArray)(many:Int):WState s many [] (numT s false 4096).2.1 (numT s false 4096).2.2 (numT s false 4096).1:=by
 have hle:=numT_le s false 4096 (by decide)
 cases hn:(numT s false 4096).2.2 with
 | true =>
  refine .inr ⟨rfl,?_⟩
  rintro ⟨ws,a,r,h0,r1,e1,_⟩
  exact numT_lacks hn ws.length (by omega) (by omega) ⟨_,e1⟩
 | false =>
  obtain ⟨_,es⟩:=numT_good hn
  refine .inl ⟨rfl,(numT s false 4096).1,(numT s false 4096).2.1.data.toList,Nat.le_refl _,by omega,?_,?_,?_,?_⟩
  ·rw [←print_data,←data_append];exact congrArg (fun x=>x.data.toList) es
  ·simp
  ·intro c hc;simp at hc
  ·simp
theorem WState.next {s:ByteArray}{many:Int}{ws:List ByteArray}{cur:ByteArray}{m:Nat}(h:WState s many ws cur false (m+1)):WState s many (ws++[(readRT cur false).1]) (readRT cur false).2.1 (readRT cur false).2.2 m:=by
 rcases h with ⟨_,N,r0,h1,h2,h3,h4⟩ | ⟨h,_⟩
 ·cases hok:cellOk cur false with
  | true =>
   have e:readRT cur false=((cellT cur false).1,(cellT cur false).2.1,false):=by unfold readRT;rw [if_pos hok]
   rw [e]
   refine .inl ⟨rfl,N,r0,by omega,h2,h3,?_⟩
   have h5:=h4.go hok
   rw [show N-(m+1)+1=N-m by omega] at h5
   exact h5
  | false =>
   have e:readRT cur false=(⟨#[]⟩,(cellT cur false).2.1,true):=by unfold readRT;rw [if_neg (by rw [hok];decide)]
   rw [e]
   refine .inr ⟨rfl,?_⟩
   rintro ⟨ws',a,r,k0,r1,e1,r2,k1,_⟩
   obtain ⟨k2,k3⟩:=vp_front (by omega) (by omega) (h3.symm.trans e1)
   subst k3
   exact h4.stop (n:=ws'.length) (by omega) hok ⟨_,_,k1⟩
 ·exact absurd h (by decide)
theorem WState.ends {s:ByteArray}{many:Int}{ws:List ByteArray}{cur s':ByteArray}{bad bad':Bool}{m:Nat}{a:List Int}(h:WState s many ws cur bad m)(hm:m=0∨bad=true)
  (k:ShelfSays cur bad many a s' bad') :
  (bad'=false∧ParseAt s.data.toList many ws a s'.data.toList)∨(bad'=true∧a=[]∧¬∃ l r,DictAt s.data.toList many l r):=by
 rcases k with ⟨k1,k2,k3⟩ | ⟨k1,k0,k2⟩
 ·rcases h with ⟨_,N,r0,h1,h2,h3,h4⟩ | ⟨h,_⟩
  ·have hm0:m=0:=hm.resolve_right (by rw [k2];decide)
   subst hm0
   have hl:ws.length=N:=h4.1
   refine .inl ⟨k1,by omega,r0,by rw [hl];exact h3,_,by rw [hl];exact h4,k3⟩
  ·rw [k2] at h;exact absurd h (by decide)
 ·refine .inr ⟨k1,k0,ParseAt.none_of ?_⟩
  rcases h with ⟨hb,N,r0,h1,h2,h3,h4⟩ | ⟨_,h⟩
  ·have hm0:m=0:=hm.resolve_right (by rw [hb];decide)
   subst hm0
   rintro ⟨ws',a',r',c0,r1,e1,r2,c1,c2⟩
   obtain ⟨e2,e3⟩:=vp_front (by omega) (by omega) (h3.symm.trans e1)
   subst e3
   rw [←e2] at c1
   obtain ⟨_,e4⟩:=h4.same c1
   rcases k2 with k2|k2
   ·rw [hb] at k2;exact absurd k2 (by decide)
   ·rw [e4] at k2;exact k2 ⟨_,_,c2⟩
  ·exact h
def PState (ws:List ByteArray)(a:List Int)(k:Nat)(bad0 bb:Bool)(out:List ByteArray):Prop :=
 (bb=bad0∧AllIn ws (a.take k)∧out=picks ws (a.take k))∨(bb=true∧¬AllIn ws a)
theorem PState.ends {s:ByteArray}{many:Int}{ws:List ByteArray}{a:List Int}{s':ByteArray}{bad' bb:Bool}{k:Nat}{out:List ByteArray}(h:PState ws a k bad' bb out)(hk:k=a.length∨bb=true)
  (e:(bad'=false∧ParseAt s.data.toList many ws a s'.data.toList)∨(bad'=true∧a=[]∧¬∃ l r,DictAt s.data.toList many l r)) :
  (bb=true∧¬∃ l r,DictAt s.data.toList many l r)∨(bb=false∧wordsOf out=ws∧DictAt s.data.toList many out s'.data.toList)∨(bb=false∧wordsOf out≠ws∧¬∃ l r,DictAt s.data.toList many l r):=by
 rcases h with ⟨rfl,h2,h3⟩ | ⟨h1,h2⟩
 ·rcases e with ⟨e1,e2⟩ | ⟨e1,_,e2⟩
  ·have hk':k=a.length:=hk.resolve_right (by rw [e1];decide)
   subst hk'
   rw [List.take_length] at h2 h3
   by_cases hw:wordsOf out=ws
   ·refine .inr (.inl ⟨e1,hw,?_⟩)
    subst h3
    exact e2.words h2 hw
   ·subst h3
    exact .inr (.inr ⟨e1,hw,e2.noWords hw⟩)
  ·exact .inl ⟨e1,e2⟩
 ·rcases e with ⟨_,e2⟩ | ⟨_,_,e2⟩
  ·exact .inl ⟨h1,e2.out h2⟩
  ·exact .inl ⟨h1,e2⟩
end Go.Proofs.YtafmbnafibahkaaGreat
