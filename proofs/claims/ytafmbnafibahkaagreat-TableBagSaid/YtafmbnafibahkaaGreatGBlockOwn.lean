/- The contract of layer 12's own Rows, of a block that rows make. -/
import Derived.Test.YtafmbnafibahkaaGreatGStrs
import Derived.Test.YtafmbnafibahkaaGreatGBlocks
import Derived.Test.YtafmbnafibahkaaGreatGBlockUnder
import Derived.Test.YtafmbnafibahkaaGreatGWeighRef
import Derived.Test.YtafmbnafibahkaaGreatGShelfRead
import Derived.Test.YtafmbnafibahkaaGreatGBlockRef
import Derived.Test.YtafmbnafibahkaaGreatGColCalls
import Derived.Test.YtafmbnafibahkaaGreatGColParse
import Derived.Test.YtafmbnafibahkaaGreatGWeighOwn
namespace Go.Proofs.YtafmbnafibahkaaGreat
open Go Go.RowKit
theorem nums_one {l:List Tm}(h:1≤leastI (l.map Prod.snd)):∀ t∈l,1≤t.2:=fun _ ht=>Int.le_trans h (leastI_le _ _ (List.mem_map_of_mem ht))
theorem good_small {l:List Tm}(h0:0 < l.length)(h:leastI (l.map Prod.snd) < 1):goodB l=false:=by
 have hm:=leastI_mem (l.map Prod.snd) (by intro e;rw [List.map_eq_nil_iff] at e;rw [e] at h0;exact absurd h0 (by simp))
 obtain ⟨t,ht,e⟩:=List.mem_map.1 hm
 obtain ⟨j,hj,rfl⟩:=List.mem_iff_getElem.1 ht
 refine goodB_no hj ?_
 unfold okB
 rw [numAt_get hj,decide_eq_true (by omega)];rfl
theorem good_right {l:List Tm}(h0:0 < l.length)(h:1≤leastI (l.map Prod.snd)):goodB l=rightW l:=by
 have h1:=nums_one h
 cases hr:rightW l with
 | true =>
  have hp:RightP l:=of_decide_eq_true hr
  refine goodB_yes h0 fun j hj=>?_
  have hn:=h1 _ (List.getElem_mem hj)
  unfold okB
  rw [numAt_get hj,decide_eq_false (by omega:¬l[j].2 < 1),Bool.false_or]
  by_cases e:0 < j
  ·have hc:=List.pairwise_iff_getElem.1 hp.1 (j-1) j (by omega) hj (by omega)
   rw [rowAt_get (by omega:j-1 < l.length),rowAt_get hj,hc,decide_eq_true e];rfl
  ·rw [decide_eq_false e];rfl
 | false =>
  cases hg:goodB l with
  | false=>rfl
  | true =>
   have hall:∀ j,j < l.length→okB l j=true:=by
    unfold goodB at hg
    rw [Bool.and_eq_true,List.all_eq_true] at hg
    exact fun j hj=>hg.2 j (List.mem_range.2 hj)
   have each:∀ k,k≤l.length→RightP (l.take k):=by
    intro k
    induction k with
    | zero=>intro _;rw [List.take_zero];exact RightP.nil
    | succ k ih =>
     intro hk
     refine right_next (by omega) (ih (by omega)) (by have:=h1 _ (List.getElem_mem (by omega:k < l.length));omega) fun j hj=>?_
     have ho:=hall k (by omega)
     unfold okB at ho
     rw [Bool.not_eq_true',Bool.or_eq_false_iff,Bool.and_eq_false_iff,decide_eq_false_iff_not,decide_eq_false_iff_not,decide_eq_false_iff_not] at ho
     have hx:=ho.2.resolve_left (by omega)
     rw [rowAt_get (by omega:k-1 < l.length),rowAt_get (by omega:k < l.length)] at hx
     obtain rfl:j=k-1:=by omega
     have:=(cmpL_range (l[k-1]'(by omega)).1 (l[k]'(by omega)).1).1
     omega
   have hall2:=each l.length (Nat.le_refl _)
   rw [List.take_length] at hall2
   rw [show rightW l=true from decide_eq_true hall2] at hr
   exact absurd hr (by decide)
def NoStr (w:World)(O:Nat):Prop:=∀ j s,w.cell? ⟨O,j,none⟩≠some (Value.string s)
section
variable {w w':World}{O:Nat}
theorem NoStr.later (h:NoStr w O)(hO:O < w.heap.size)(hb:Below w.heap.size w w'):NoStr w' O:=fun j s e=>h j s ((hb.cell (p:=⟨O,j,none⟩) hO).symm.trans e)
theorem NoStr.set (h:NoStr w O){k:Nat}{u:Value}(hc:w.cell? ⟨O,k,none⟩=some u){v:Value}(hv:∀ s,v≠.string s):NoStr (w.setCell ⟨O,k,none⟩ v) O:=fun j s e=>by
 by_cases hjk:j=k
 ·subst hjk
  rw [World.cell?_setCell_same _ _ _ hc] at e
  exact hv s (Option.some.inj e)
 ·rw [World.cell?_setCell_other _ _ _ _ (fun e2:(⟨O,k,none⟩:Addr)=⟨O,j,none⟩=>hjk (by simp only [Addr.mk.injEq] at e2;omega))] at e
  exact h j s e
theorem NoStr.made {base size n:Nat}{T:TypeId}{xs:List Value}(h:w.ownsRow base T size (.slice (some ⟨O,0,none⟩) n n) n xs)(hx:∀ x∈xs,∀ s,x≠.string s):NoStr w O:=by
 intro j s
 rcases h.2 with ⟨h',_⟩ | ⟨g,cap,cur,e1,_,hg,_,_,hcs,ht⟩
 ·simp at h'
 ·simp only [Value.slice.injEq,Option.some.injEq,Addr.mk.injEq,and_true,true_and] at e1
  obtain ⟨rfl,rfl⟩:=e1
  rw [cell_of_row w O j cur T (0,0) hg]
  intro hc
  have hm:Value.string s∈xs:=by
   rw [←ht,List.take_of_length_le (by rw [Array.length_toList,hcs];exact Nat.le_refl _)]
   obtain ⟨hj,e⟩:=Array.getElem?_eq_some_iff.1 hc
   rw [←e]
   exact Array.mem_toList_iff.2 (Array.getElem_mem hj)
  exact hx _ hm s rfl
theorem StrsIn.beside {v u:Value}{l:List ByteArray}(h:StrsIn w v l)(hn:NoStr w O)(k:Nat):StrsIn (w.setCell ⟨O,k,none⟩ u) v l:=by
 obtain ⟨h1,h2,A,cap,h3,hr,h4⟩:=h
 refine ⟨h1,h2,A,cap,h3,hr,fun h0=>?_⟩
 obtain ⟨b,off,e,hb,hc⟩:=h4 h0
 have hne:b≠O:=fun e2=>by
  subst e2
  have hl:0 < l.length:=h0
  exact hn off (l[0]'hl) (hc 0 _ (by rw [List.getElem?_map,List.getElem?_eq_getElem hl];rfl))
 refine ⟨b,off,e,by simpa using hb,fun j x hx=>?_⟩
 have:=World.cell?_setCells_out O [u] k w ⟨b,off+j,none⟩ (fun e2 _=>absurd e2 hne)
 exact (show (w.setCell ⟨O,k,none⟩ u).cell? ⟨b,off+j,none⟩=w.cell? ⟨b,off+j,none⟩ from this).trans (hc j x hx)
def LinesIn (w:World)(v:Value)(L:List (List ByteArray)):Prop:=∃ tv:List Value,SliceOf w 1 v L.length tv∧tv.length=L.length∧∀ j (h1:j < tv.length)(h2:j < L.length),StrsIn w tv[j] L[j]
theorem LinesIn.kept {v:Value}{L:List (List ByteArray)}(h:LinesIn w v L)(hb:Below w.heap.size w w'):LinesIn w' v L:=by
 obtain ⟨tv,h1,h2,h3⟩:=h
 exact ⟨tv,SliceOf.later h1 hb,h2,fun j a b=>StrsIn.kept (h3 j a b) hb⟩
theorem lines_at {v:Value}{L:List (List ByteArray)}(h:LinesIn w v L):∃ A cap,v=.slice A L.length cap ∧
  (∀ k,k < L.length→∃ b off,A=some ⟨b,off,none⟩∧b < w.heap.size∧∀ j (hj:j < L.length),∃ rv,StrsIn w rv L[j]∧w.cell? ⟨b,off+j,none⟩=some rv):=by
 obtain ⟨tv,h1,h2,h3⟩:=h
 obtain ⟨_,_,A,cap,e,_,h4⟩:=h1
 refine ⟨A,cap,e,fun k hk=>?_⟩
 obtain ⟨b,off,ea,hb,hc⟩:=h4 (by omega)
 refine ⟨b,off,ea,hb,fun j hj=>⟨tv[j]'(by omega),h3 j (by omega) hj,hc j _ (List.getElem?_eq_getElem (by omega))⟩⟩
end
def downsL (l:List Tm)(K:Nat):List (List ByteArray):=(List.range K).map (downL l)
theorem downsL_length (l:List Tm)(K:Nat):(downsL l K).length=K:=by unfold downsL;rw [List.length_map,List.length_range]
theorem downsL_get (l:List Tm)(K c:Nat)(h:c < (downsL l K).length):(downsL l K)[c]=downL l c:=by simp [downsL]
theorem Tryz.infoBt9:(Tryz.prog.info? 9).map (fun i=>(i.zero,i.size,i.bytes))=some (some (.string ⟨#[]⟩),1,16):=by kernel_rfl
theorem Tryz.infoBu3:(Tryz.prog.info? 3).map (fun i=>(i.zero,i.size,i.bytes))=some (some (.int .i64 0),1,8):=by kernel_rfl
set_option maxHeartbeats 1000000 in
theorem block_have_calls {w:World}{v:Value}{l:List Tm}(h:TimesIn w v l)(K:Nat)(hK:∀ t∈l,K≤t.1.length)(hKb:K≤1000000):GivesAt Tryz.prog 82 #[v,.int .i64 K] w (.bool true):=by
 have hm:=h.len
 unfold maxLen at hm
 obtain ⟨hb,hB⟩:=start w
 obtain ⟨tv,A,cap,rfl,_,hat⟩:=times_at h
 have HAT:=Lib.hid hat
 have HK:=Lib.hid hK
 clear h hat hK
 unfold GivesAt
 go_enter Tryz.func82,Tryz.ntmps82
 go_wp2
 go_loopw [6,9] (fun _ i wr=>∃ k:Nat,k≤l.length∧i=.int .i64 k∧Below w.heap.size w wr) (fun _ i _=>l.length-(intOf i).toNat)
 case atStart=>exact ⟨0,Nat.zero_le _,rfl,hb⟩
 case round =>
  clear hb hB
  obtain ⟨k,hk,rfl,hb⟩:=hrel
  by_cases hlt:k < l.length
  ·obtain ⟨b,off,rfl,hbl,hc⟩:=HAT.out k hlt
   obtain ⟨rv,hs,htv,c1,c2⟩:=hc k hlt
   have x1:=(hb.cell (p:=⟨b,off+k*2,none⟩) hbl).trans c1
   have x2:=(hb.cell (p:=⟨b,off+k*2+1,none⟩) hbl).trans c2
   have hkl:=HK.out _ (List.getElem_mem hlt)
   obtain ⟨Ar,pr,rfl,hone⟩:=one_at hs
   clear hc c1 c2 hs htv hone
   generalize l[k].1.length=r at *
   generalize l[k].2=n at *
   have d1:decide ((r:Int) < (K:Int))=false:=by rw [decide_eq_false_iff_not];omega
   obtain ⟨z0,z1,_,_⟩:=(box_tm wr 46 (.slice Ar r pr) n).cells
   have hb4:=hb.alloc hb.size (.cells #[.slice Ar r pr,.int .i64 n] 46)
   clear hb
   go_wp2
   go_roundw
   case rel=>exact ⟨k+1,by omega,by go_num,hb4⟩
   case measure=>simp [intOf];omega
  ·obtain rfl:k=l.length:=by omega
   have d2:decide ((K:Int)≤2147483647)=true:=by rw [decide_eq_true_eq];omega
   go_wp2
   go_ret
   exact ⟨rfl,hb⟩
set_option maxHeartbeats 1000000 in
theorem block_often_calls {w:World}{v:Value}{l:List Tm}(h:TimesIn w v l)(hl:l.length≤1000000):GivesInts Tryz.prog 84 #[v] w (l.map Prod.snd):=by
 obtain ⟨k0,hk0,kz0,kz1,kz2⟩:=info_parts Tryz.infoBu3
 obtain ⟨hb,hB⟩:=start w
 obtain ⟨tv,A,cap,rfl,_,hat⟩:=times_at h
 have HAT:=Lib.hid hat
 clear h hat
 unfold GivesInts
 go_enter Tryz.func84,Tryz.ntmps84
 go_wp2_with (at_make;refine wpList_make_full _ rfl _ _ 92 rfl w.heap.size 3 k0 (.int .i64 0) 1 Tryz.underlying92 hk0 kz0 kz1 .i64 .i64 _ _ l.length rfl rfl rfl rfl (by rw [kz2];omega) (by unfold maxLen;omega) hB ?_)
 intro w1 hrow hg1
 rw [toList_madeCells_one] at hrow
 have hX:((l.map Prod.snd).map (Value.int .i64)).length=l.length:=by simp
 have hZ:(List.replicate l.length (Value.int .i64 0)).length=l.length:=List.length_replicate
 have HG:Hid (∀ k (h:k < l.length),((l.map Prod.snd).map (Value.int .i64))[k]? = some (.int .i64 l[k].2)):=fun k hk=>by rw [List.getElem?_map,List.getElem?_map,List.getElem?_eq_getElem hk];rfl
 generalize hxs:(l.map Prod.snd).map (Value.int .i64)=xs at *
 generalize List.replicate l.length (Value.int .i64 0)=zs at *
 have hO:Own w1 w.heap.size 1 (.slice (some ⟨w.heap.size,0,none⟩) l.length l.length) l.length zs:=Own.of_row (B:=w.heap.size) hrow (by unfold maxLen;omega) (Nat.le_refl _)
 have hb1:Below w.heap.size w w1:=hb.grown hg1 hB (fun k hk=>by cases hk)
 have HX:=Lib.hid hX
 have HZ:=Lib.hid hZ
 have HXS:=Lib.hid hxs
 clear hrow hg1 hb hB hX hZ hxs
 go_wp2
 go_loopw [4,5,11] (fun _ _ i wr=>∃ k:Nat,k≤l.length∧i=.int .i64 k∧Own wr w.heap.size 1 (.slice (some ⟨w.heap.size,0,none⟩) l.length l.length) l.length (xs.take k++zs.drop k)∧Below w.heap.size w wr) (fun _ _ i _=>l.length-(intOf i).toNat)
 case atStart=>exact ⟨0,Nat.zero_le _,rfl,by simpa using hO,hb1⟩
 case round =>
  clear hO hb1
  obtain ⟨k,hk,rfl,hO,hb⟩:=hrel
  by_cases hlt:k < l.length
  ·obtain ⟨b,off,rfl,hbl,hc⟩:=HAT.out k hlt
   obtain ⟨rv,hs,htv,c1,c2⟩:=hc k hlt
   have x1:=(hb.cell (p:=⟨b,off+k*2,none⟩) hbl).trans c1
   have x2:=(hb.cell (p:=⟨b,off+k*2+1,none⟩) hbl).trans c2
   have HGK:=Lib.hid (HG.out k hlt)
   obtain ⟨Ar,pr,rfl,hone⟩:=one_at hs
   clear hc c1 c2 hs htv hone
   generalize l[k].1.length=r at *
   generalize l[k].2=n at *
   obtain ⟨z0,z1,_,_⟩:=(box_tm wr 46 (.slice Ar r pr) n).cells
   have hO4:=hO.alloc (.cells #[.slice Ar r pr,.int .i64 n] 46)
   have hb4:=hb.alloc hb.size (.cells #[.slice Ar r pr,.int .i64 n] 46)
   obtain ⟨hs1,hs2⟩:=hO4.fillCell HX.out HZ.out hlt
   have HO':=Lib.hid (hO4.filled HX.out HZ.out hlt HGK.out)
   have hbb:=hb4.setCell (Nat.le_refl w.heap.size) (p:=⟨w.heap.size,k,none⟩) (.int .i64 n)
   clear hb hO hO4 hb4
   go_wp2
   go_roundw
   case rel=>exact ⟨k+1,by omega,by go_num,HO'.out,hbb⟩
   case measure=>simp [intOf];omega
  ·obtain rfl:k=l.length:=by omega
   have h2:=(hO.full HX.out HZ.out).slice
   have H3:Hid (IntsIn wr (.slice (some ⟨w.heap.size,0,none⟩) l.length l.length) (l.map Prod.snd)):=by
    unfold Hid IntsIn
    rw [HXS.out,List.length_map];exact h2
   clear h2 hO
   go_wp2
   go_ret
   exact ⟨_,rfl,H3.out,hb⟩
set_option maxHeartbeats 1000000 in
theorem block_down_calls {w:World}{v:Value}{l:List Tm}(h:TimesIn w v l)(c:Nat)(hc:∀ t∈l,c < t.1.length)(hl:l.length≤1000000):GivesStrs Tryz.prog 86 #[v,.int .i64 c] w (downL l c):=by
 obtain ⟨j0,hj,jz0,jz1,jz2⟩:=info_parts Tryz.infoBt9
 obtain ⟨hb,hB⟩:=start w
 obtain ⟨tv,A,cap,rfl,_,hat⟩:=times_at h
 have HAT:=Lib.hid hat
 have HC:=Lib.hid hc
 clear h hat hc
 unfold GivesStrs
 go_enter Tryz.func86,Tryz.ntmps86
 go_wp2_with (at_make;refine wpList_make_full _ rfl _ _ 44 rfl w.heap.size 9 j0 (.string ⟨#[]⟩) 1 Tryz.underlying44 hj jz0 jz1 .i64 .i64 _ _ l.length rfl rfl rfl rfl (by rw [jz2];omega) (by unfold maxLen;omega) hB ?_)
 intro w1 hrow hg1
 rw [toList_madeCells_one] at hrow
 have hX:((downL l c).map Value.string).length=l.length:=by rw [List.length_map,downL_length]
 have hZ:(List.replicate l.length (Value.string ⟨#[]⟩)).length=l.length:=List.length_replicate
 have HG:Hid (∀ k (h:k < l.length),((downL l c).map Value.string)[k]? = some (.string (l[k].1.getD c ⟨#[]⟩))):=fun k hk=>by rw [List.getElem?_map,List.getElem?_eq_getElem (by rw [downL_length];exact hk),downL_get l c k hk];rfl
 generalize hxs:(downL l c).map Value.string=xs at *
 generalize List.replicate l.length (Value.string ⟨#[]⟩)=zs at *
 have hO:Own w1 w.heap.size 1 (.slice (some ⟨w.heap.size,0,none⟩) l.length l.length) l.length zs:=Own.of_row (B:=w.heap.size) hrow (by unfold maxLen;omega) (Nat.le_refl _)
 have hb1:Below w.heap.size w w1:=hb.grown hg1 hB (fun k hk=>by cases hk)
 have HX:=Lib.hid hX
 have HZ:=Lib.hid hZ
 have HXS:=Lib.hid hxs
 clear hrow hg1 hb hB hX hZ hxs
 go_wp2
 go_loopw [6,7,13] (fun _ _ i wr=>∃ k:Nat,k≤l.length∧i=.int .i64 k∧Own wr w.heap.size 1 (.slice (some ⟨w.heap.size,0,none⟩) l.length l.length) l.length (xs.take k++zs.drop k)∧Below w.heap.size w wr) (fun _ _ i _=>l.length-(intOf i).toNat)
 case atStart=>exact ⟨0,Nat.zero_le _,rfl,by simpa using hO,hb1⟩
 case round =>
  clear hO hb1
  obtain ⟨k,hk,rfl,hO,hb⟩:=hrel
  by_cases hlt:k < l.length
  ·obtain ⟨b,off,rfl,hbl,hcc⟩:=HAT.out k hlt
   obtain ⟨rv,s1,htv,c1,c2⟩:=hcc k hlt
   have hcl:=HC.out _ (List.getElem_mem hlt)
   obtain ⟨A2,p2,rfl,hat2⟩:=one_at s1
   obtain ⟨b2,off2,rfl,hbl2,hc2⟩:=hat2 c hcl
   have x1:=(hb.cell (p:=⟨b,off+k*2,none⟩) hbl).trans c1
   have x2:=(hb.cell (p:=⟨b,off+k*2+1,none⟩) hbl).trans c2
   have x3:=(hb.cell (p:=⟨b2,off2+c,none⟩) hbl2).trans (hc2 c hcl)
   have HGK:=HG.out k hlt
   rw [List.getD_eq_getElem?_getD,List.getElem?_eq_getElem hcl,Option.getD_some] at HGK
   replace HGK:=Lib.hid HGK
   clear hcc c1 c2 hc2 hat2 s1 htv
   generalize l[k].1[c]=s at *
   obtain ⟨r,hr⟩:∃ r,l[k].1.length=r:=⟨_,rfl⟩
   rw [hr] at hcl x1
   clear hr
   generalize l[k].2=n at *
   have i0:(0:Int)≤(c:Int):=by omega
   have i1:(c:Int) < (r:Int):=by omega
   obtain ⟨z0,z1,_,_⟩:=(box_tm wr 46 (.slice (some ⟨b2,off2,none⟩) r p2) n).cells
   have hq4:Below wr.heap.size wr (wr.alloc (.cells #[.slice (some ⟨b2,off2,none⟩) r p2,.int .i64 n] 46)):=Below.alloc (.refl _ _) (Nat.le_refl _) _
   have x4:=cell_kept x3 hq4
   have hO4:=hO.alloc (.cells #[.slice (some ⟨b2,off2,none⟩) r p2,.int .i64 n] 46)
   have hb4:=hb.alloc hb.size (.cells #[.slice (some ⟨b2,off2,none⟩) r p2,.int .i64 n] 46)
   obtain ⟨hs1,hs2⟩:=hO4.fillCell HX.out HZ.out hlt
   have HO':=Lib.hid (hO4.filled HX.out HZ.out hlt HGK.out)
   have hbb:=hb4.setCell (Nat.le_refl w.heap.size) (p:=⟨w.heap.size,k,none⟩) (.string s)
   clear hb hO hO4 hb4 hq4 x3
   go_wp2
   go_roundw
   case rel=>exact ⟨k+1,by omega,by go_num,HO'.out,hbb⟩
   case measure=>simp [intOf];omega
  ·obtain rfl:k=l.length:=by omega
   have h2:=(hO.full HX.out HZ.out).slice
   have H3:Hid (StrsIn wr (.slice (some ⟨w.heap.size,0,none⟩) l.length l.length) (downL l c)):=by
    unfold Hid StrsIn
    rw [HXS.out,downL_length];exact h2
   clear h2 hO
   go_wp2
   go_ret
   exact ⟨_,rfl,H3.out,hb⟩
set_option maxHeartbeats 4000000 in
set_option maxRecDepth 100000 in
theorem block_of_new {w:World}{v:Value}{l:List Tm}(h:TimesIn w v l)(K:Nat)(hK:∀ t∈l,K≤t.1.length∧∀ c∈t.1,c.size≤1000000)(hKb:K≤1000000)(hl:l.length≤4096)(hr:InR (l.map Prod.snd)) :
  Calls Tryz.prog 60 #[v,.int .i64 K] w (OfNew w l K):=by
 obtain ⟨j0,hj,jz0,jz1,jz2⟩:=info_parts Tryz.infoBt9
 have HT0:=Lib.hid h
 have HKK:=Lib.hid hK
 have hlM:(l.map Prod.snd).length≤4096:=by rw [List.length_map];exact hl
 have HPR:Hid (∀ w' v',IntsIn w' v' (l.map Prod.snd)→GivesAt Tryz.prog 83 #[v'] w' (.string (shelfB (l.map Prod.snd)))):=fun w' v' h=>shelf_print_calls h hr hlM
 generalize hsE:shelfB (l.map Prod.snd)=s at *
 have HSE:=Lib.hid hsE
 obtain ⟨tv,A1,cap1,rfl,_,_⟩:=times_at h
 have q:∀ (w:World) (o:Obj),Below w.heap.size w (w.alloc o):=fun w o=>Below.alloc (.refl _ _) (Nat.le_refl _) o
 have hz:=bbox_lit w 72 0 (.slice none 0 0) ⟨#[]⟩
 have hb:=q w (.cells #[.int .i64 0,.slice none 0 0,.string ⟨#[]⟩] 72)
 have hsz:w.heap.size+1≤(w.alloc (.cells #[.int .i64 0,.slice none 0 0,.string ⟨#[]⟩] 72)).heap.size:=by simp
 clear h hK hr hsE hlM
 go_enter Tryz.func60,Tryz.ntmps60
 go_wp2_with fail
 generalize w.alloc (.cells #[.int .i64 0,.slice none 0 0,.string ⟨#[]⟩] 72)=w1 at *
 refine (block_have_calls (HT0.out.kept hb) K (fun t ht=>(HKK.out t ht).1) hKb).stepB (w0:=w1) (B:=w1.heap.size) (.refl _ _) (Nat.le_refl _) ?_
 intro w2 g1 g2 hq
 replace hb:=hb.trans (hq.mono hb.size)
 replace hz:=hz.later hq
 replace hsz:=Nat.le_trans hsz hq.size
 clear hq g1 g2 w1
 go_wp2_with fail
 refine (block_often_calls (HT0.out.kept hb) (by omega)).stepB (w0:=w2) (B:=w2.heap.size) (.refl _ _) (Nat.le_refl _) ?_
 intro v3 w3 hi g1 g2 hq
 replace hb:=hb.trans (hq.mono hb.size)
 replace hz:=hz.later hq
 replace hsz:=Nat.le_trans hsz hq.size
 have HI:=Lib.hid hi
 clear hq g1 g2 w2 hi
 go_wp2_with fail
 refine (HPR.out _ _ HI.out).stepB (w0:=w3) (B:=w3.heap.size) (.refl _ _) (Nat.le_refl _) ?_
 intro w4 g1 g2 hq
 replace hb:=hb.trans (hq.mono hb.size)
 replace hz:=hz.later hq
 replace hsz:=Nat.le_trans hsz hq.size
 clear hq g1 g2 HI HPR w3
 have ho:=bbox_lit w4 72 l.length (.slice none 0 0) s
 replace hb:=hb.alloc hb.size (.cells #[.int .i64 l.length,.slice none 0 0,.string s] 72)
 replace hz:=hz.later (q w4 (.cells #[.int .i64 l.length,.slice none 0 0,.string s] 72))
 have hs4:w4.heap.size+1≤(w4.alloc (.cells #[.int .i64 l.length,.slice none 0 0,.string s] 72)).heap.size:=by simp
 clear q
 go_wp2_with fail
 generalize w4.alloc (.cells #[.int .i64 l.length,.slice none 0 0,.string s] 72)=w5 at *
 generalize w4.heap.size=O at *
 go_loopw [6,19] (fun _ i wr=>∃ (k:Nat) (cv:Value),k≤K∧i=.int .i64 k∧BBox wr w.heap.size 0 (.slice none 0 0) ⟨#[]⟩∧BBox wr O l.length cv s∧Own wr (O+1) 1 cv k ((colsT l k).map Value.string)∧O+1≤wr.heap.size∧Below w.heap.size w wr) (fun _ i _=>K-(intOf i).toNat)
 case atStart=>exact ⟨0,.slice none 0 0,Nat.zero_le _,rfl,hz,ho,Own.nil_ _ _ _,hs4,hb⟩
 case round =>
  clear hz ho hb hs4
  obtain ⟨k,cv,hk,rfl,hz,ho,hO,hs2,hb⟩:=hrel
  by_cases hlt:k < K
  ·have HX:Hid ((colsT l (k+1)).map Value.string=(colsT l k).map Value.string++[Value.string (colB (downL l k))]):=colsT_next l k
   have HD:Hid (GivesStrs Tryz.prog 86 #[.slice A1 l.length cap1,.int .i64 k] wr.drew (downL l k)):=block_down_calls ((HT0.out.kept hb).kept (Below.drew (.refl _ _))) k (fun t ht=>by have:=(HKK.out t ht).1;omega) (by omega)
   have HP:Hid (∀ (w':World) (v':Value),StrsIn w' v' (downL l k)→GivesAt Tryz.prog 85 #[v'] w' (.string (colB (downL l k)))):=fun w' v' h=>col_print_calls h (by rw [downL_length];exact hl) (fun c hc=>by
    obtain ⟨t,ht,rfl⟩:=List.mem_map.1 hc
    obtain ⟨h1,h2⟩:=HKK.out t ht
    rw [List.getD_eq_getElem?_getD,List.getElem?_eq_getElem (by omega)]
    exact h2 _ (List.getElem_mem _))
   generalize downL l k=dl at *
   generalize colB dl=s2 at *
   generalize (colsT l k).map Value.string=xs at *
   obtain ⟨A9,p9,rfl⟩:=hO.len
   have HBX:=Lib.hid ho.drew
   have HO:=Lib.hid hO.drew
   have hb0:=Below.drew (.refl wr.heap.size wr)
   obtain ⟨_,x1,_,_,f1,_,_⟩:=ho.cells
   have HX1:=Lib.hid x1
   have HWR:=Lib.hid hs2
   have HWO:Hid (w.heap.size < O):=by have:=hsz;show w.heap.size < O;omega
   have HNE:Hid ((Value.slice A9 k p9).ownBlock≠some O):=fun e=>by have:=(hO.lt _ e).1;omega
   have HNE0:Hid ((Value.slice A9 k p9).ownBlock≠some w.heap.size):=fun e=>by have:=(hO.lt _ e).1;have:=HWO.out;omega
   have HLT:Hid (∀ q,(Value.slice A9 k p9).ownBlock=some q→O+1≤q):=fun q e=>(hO.lt q e).1
   have HZ:=Lib.hid hz.drew
   have HB:=Lib.hid hb.drew
   clear hz ho hO hb
   go_wp2_with fail
   go_region_law (first
    | (refine step_append_src rfl (.tmp 23) (.tmp 28) 44 rfl 9 j0 (.string ⟨#[]⟩) 1 16 Tryz.underlying44 hj jz0 jz1 jz2 rfl (by decide) (.slice A9 k p9) k xs ?_ ((HO.out.later HQ4.out).alloc _) (.slice (some ⟨w4.heap.size,0,none⟩) 1 1) 1 [.string s2] ?_ (lit_ones Value.string w4 9 [s2] (by show 1≤1000;decide)) (one_str _) ?_ ?_ ?_ ?_;rfl;rfl;(focus (unfold maxLen;omega));omega;(focus (have h1:=HQ4.out.size;have h2:=HWR.out;simp at h1 ⊢;omega));intro v5 w5 hO5 hg5 ha5;obtain ⟨A5,p5,rfl⟩:=hO5.len;have hbx:=(HBX.out.later (HQ4.out.alloc HQ4.out.size (.cells #[Value.string s2] 9))).other hg5 HNE.out;obtain ⟨_,x5,_,_,f5,_,_⟩:=hbx.cells)
    | (go_simp;first
     | (go_at_call 86;refine HD.out.mono ?_;rintro e w3 ⟨v3,rfl,h3,hq3⟩;have y3:=cell_kept HX1.out (hb0.trans hq3);have HS3:=Lib.hid h3;have HQ3:=Lib.hid hq3)
     | (go_at_call 85;refine (HP.out _ _ HS3.out).mono ?_;rintro e w4 ⟨rfl,hq4⟩;have y4:=cell_kept HX1.out (hb0.trans (HQ3.out.trans (hq4.mono HQ3.out.size)));have z4:=cell_kept y4 (Below.alloc (.refl w4.heap.size w4) (Nat.le_refl _) (.cells #[Value.string s2] 9));have HQ4:=Lib.hid (HQ3.out.trans (hq4.mono HQ3.out.size)))))
   all_goals
    have hqa:=HQ4.out.alloc HQ4.out.size (.cells #[Value.string s2] 9)
    have hz:=(HZ.out.later hqa).other hg5 HNE0.out
    have hb:=(HB.out.trans (hqa.mono HB.out.size)).grown hg5 (by have h1:=hqa.size;have h2:=HWR.out;have h3:=HWO.out;simp at h1 ⊢;omega) (fun k hk=>by have h1:=HLT.out k hk;have h3:=HWO.out;omega)
    have hsz5:=hg5.size
    have hsz2:=hqa.size
    have hg6:=setCells_grown O [Value.slice A5 (k+1) p5] 1 w5
    simp only [World.setCells] at hg6
    have hz6:=hz.other hg6 (by have h3:=HWO.out;simp;omega)
    have ho6:=hbx.put1 (.slice A5 (k+1) p5)
    have hO6:=hO5.other hg6 (fun k hk e=>by have:=(hO5.lt k hk).1;simp at e;omega)
    have hb6:=hb.setCell (p:=⟨O,1,none⟩) (Nat.le_of_lt HWO.out) (.slice A5 (k+1) p5)
    have hs6:O+1≤(w5.setCell ⟨O,1,none⟩ (.slice A5 (k+1) p5)).heap.size:=by have h2:=HWR.out;simp at hsz5 hsz2 ⊢;omega
    rw [←HX.out] at hO6
    clear hqa hz hb hsz5 hsz2 hg6 hbx x5 f5 hO5 hg5 ha5 y3 y4 z4 HX1 x1 f1
    go_wp2
    go_roundw
    case rel=>exact ⟨k+1,_,by omega,by go_num,hz6,ho6,hO6,hs6,hb6⟩
    case measure=>simp [intOf];omega
  ·obtain rfl:k=K:=by omega
   obtain ⟨A9,p9,rfl⟩:=hO.len
   have HC:=Lib.hid (strs_of hO (colsT_length l k).symm)
   have HFR:Hid (Fresh (O+1) (.slice A9 k p9)):=fun q e=>(hO.lt q e).1
   have HWO:Hid (w.heap.size < O):=by have:=hsz;show w.heap.size < O;omega
   obtain ⟨y0,y1,y2,_⟩:=ho.cells
   obtain ⟨z0,z1,z2,zf0,zf1,zf2,_⟩:=hz.cells
   have hz6:=hz.putAll l.length (.slice A9 k p9) s
   have hb6:=((hb.setCell (p:=⟨w.heap.size,0,none⟩) (Nat.le_refl _) (.int .i64 l.length)).setCell (p:=⟨w.heap.size,1,none⟩) (Nat.le_refl _) (.slice A9 k p9)).setCell (p:=⟨w.heap.size,2,none⟩) (Nat.le_refl _) (.string s)
   have hg6:=setCells_grown w.heap.size [Value.int .i64 l.length,.slice A9 k p9,.string s] 0 wr
   simp only [World.setCells,Nat.zero_add,Nat.reduceAdd] at hg6
   have HC6:=Lib.hid (SliceOf.fresh HC.out HFR.out hg6 (by have:=HWO.out;omega))
   clear hO hz ho hb hg6 HC hsz hs2
   go_wp2
   obtain ⟨z0,z1,z2,_⟩:=hz6.cells
   refine ⟨rfl,blkA (.slice A9 k p9,blockOf l k),?_,.slice A9 k p9,rfl,HC6.out,HFR.out.mono (by have:=HWO.out;omega),hb6⟩
   simp [results,Tryz.results60,go_sem,z0,z1,z2,blkA,blockOf,HSE.out]
theorem Tryz.infoBv46:(Tryz.prog.info? 46).map (fun i=>(i.zero,i.size,i.bytes))=some (some (.agg #[.slice none 0 0,.int .i64 0]),2,32):=by kernel_rfl
def countsB (l:List Tm):Bool:=decide (0 < l.length)&&decide (1≤leastI (l.map Prod.snd))
theorem countsB_none:countsB []=false:=rfl
theorem countsB_small {l:List Tm}(h:leastI (l.map Prod.snd) < 1):countsB l=false:=by unfold countsB;rw [decide_eq_false (by omega:¬1≤leastI (l.map Prod.snd)),Bool.and_false]
theorem countsB_yes {l:List Tm}(h0:0 < l.length)(h:¬leastI (l.map Prod.snd) < 1):countsB l=true:=by unfold countsB;rw [decide_eq_true h0,decide_eq_true (by omega:1≤leastI (l.map Prod.snd))];rfl
def CountsEnd (w:World)(l:List Tm)(e:Ending)(w':World):Prop:=Below w.heap.size w w' ∧
 ((countsB l=true∧∃ v,e=.returned (.tuple #[v,.bool true])∧IntsIn w' v (l.map Prod.snd))∨(countsB l=false∧e=.returned (.tuple #[.slice none 0 0,.bool false])))
set_option maxHeartbeats 1000000 in
set_option maxRecDepth 100000 in
theorem block_counts_calls (w:World)(A1:Option Addr)(K p1:Nat){l:List Tm}(hl:l.length≤4096)(hN:InR (l.map Prod.snd)) :
  Calls Tryz.prog 117 #[.agg #[.int .i64 l.length,.slice A1 K p1,.string (shelfB (l.map Prod.snd))]] w (CountsEnd w l):=by
 have hSA:ShelfAt (shelfB (l.map Prod.snd)).data.toList l.length (l.map Prod.snd) []:=⟨by omega,by omega,by rw [List.length_map],hN,by rw [shelfB_data,List.append_nil]⟩
 have hSZ:=shelfB_most (l.map Prod.snd) hN
 rw [List.length_map] at hSZ
 have HRD:=Lib.hid (fun b=>shelf_read_some b (shelfB (l.map Prod.snd)) (by omega) hSA)
 clear hSA hSZ hN
 generalize shelfB (l.map Prod.snd)=s at *
 have q:∀ (w:World) (o:Obj),Below w.heap.size w (w.alloc o):=fun w o=>Below.alloc (.refl _ _) (Nat.le_refl _) o
 have ho:=(bbox_lit w 72 l.length (.slice A1 K p1) s).later (q _ (.cells #[.string s,.bool false] 154))
 have hb:=(q w (.cells #[.int .i64 l.length,.slice A1 K p1,.string s] 72)).alloc (by simp) (.cells #[.string s,.bool false] 154)
 have hT:=box_tape (w.alloc (.cells #[.int .i64 l.length,.slice A1 K p1,.string s] 72)) s false 154
 rw [show (w.alloc (.cells #[.int .i64 l.length,.slice A1 K p1,.string s] 72)).heap.size=w.heap.size+1 by simp] at hT
 clear q
 go_enter Tryz.func117,Tryz.ntmps117
 go_wp2_with fail
 generalize (w.alloc (.cells #[.int .i64 l.length,.slice A1 K p1,.string s] 72)).alloc (.cells #[.string s,.bool false] 154)=w1 at *
 obtain ⟨x0,x1,x2,_⟩:=ho.cells
 go_wp2_with fail
 refine (HRD.out (w.heap.size+1) w1 hT).mono ?_
 rintro e w2 ⟨v2,rfl,hi,hf,hT2,hg⟩
 have hs1:w.heap.size≤w1.heap.size:=hb.size
 replace hb:=hb.grown hg hs1 (fun k hk=>by cases hk;exact Nat.le_succ _)
 have hD:=tdone_calls (w.heap.size+1) (mkB []) false w2 hT2
 rw [show (mkB []).toList.isEmpty=true by rw [show mkB []=⟨#[]⟩ from rfl,empty_toList];rfl] at hD
 have HD:=Lib.hid hD
 have HB:=Lib.hid hb
 have HI:=Lib.hid hi
 obtain ⟨A5,p5,hv2,_⟩:=one_at hi
 rw [List.length_map] at hv2
 clear hT hT2 hg hf x0 x1 x2 hs1 HRD hD ho hb hi
 by_cases h0:l.length=0
 ·obtain rfl:l=[]:=List.eq_nil_of_length_eq_zero h0
  subst hv2
  clear h0
  go_wp2_with (go_at_call 148;refine HD.out.mono ?_;rintro e w5 ⟨rfl,rfl⟩)
  go_ret2
  exact ⟨HB.out,.inr ⟨countsB_none,rfl⟩⟩
 ·have h1:0 < l.length:=by omega
  have d1:((l.length:Int)==0)=false:=by rw [beq_eq_false_iff_ne];omega
  subst hv2
  have HM:=Lib.hid (min_calls HI.out (by rw [List.length_map];exact h1))
  clear h0
  by_cases hc:leastI (l.map Prod.snd) < 1
  ·have d2:decide (leastI (l.map Prod.snd) < 1)=true:=decide_eq_true hc
   have HC:=Lib.hid (countsB_small hc)
   clear hc
   generalize leastI (l.map Prod.snd)=m at *
   go_wp2_with (first|(go_at_call 148;refine HD.out.mono ?_;rintro e w5 ⟨rfl,rfl⟩)|(go_at_call 141;refine HM.out.step ?_))
   go_ret2
   exact ⟨HB.out,.inr ⟨HC.out,rfl⟩⟩
  ·have d2:decide (leastI (l.map Prod.snd) < 1)=false:=decide_eq_false hc
   have HC:=Lib.hid (countsB_yes h1 hc)
   clear hc
   generalize leastI (l.map Prod.snd)=m at *
   go_wp2_with (first|(go_at_call 148;refine HD.out.mono ?_;rintro e w5 ⟨rfl,rfl⟩)|(go_at_call 141;refine HM.out.step ?_))
   go_ret2
   exact ⟨HB.out,.inl ⟨HC.out,_,rfl,HI.out⟩⟩
theorem rows_all {w:World}:∀ {tv:List (Value×Int)}{l:List Tm},tv.length=l.length→(∀ j (h1:j < tv.length)(h2:j < l.length),StrsIn w tv[j].1 l[j].1∧tv[j].2=l[j].2)→RowsOf w tv l
 | [],[],_,_=>trivial
 | [],_::_,h,_=>absurd h (by simp)
 | _::_,[],h,_=>absurd h (by simp)
 | t::tv,x::l,h,k=>⟨k 0 (by simp) (by simp),rows_all (by simpa using h) fun j h1 h2=>by
   have:=k (j+1) (by simpa using h1) (by simpa using h2)
   simpa using this⟩
theorem made_nostr (n:Nat):∀ x∈timesV (List.replicate n (Value.slice none 0 0,0)),∀ s,x≠Value.string s:=by
 intro x hx s e
 unfold timesV at hx
 obtain ⟨t,ht,hx⟩:=List.mem_flatMap.1 hx
 obtain rfl:=List.eq_of_mem_replicate ht
 subst e
 simp at hx
def AcrossAt (w:World)(O:Nat)(l:List Tm)(k:Nat):Prop:=NoStr w O∧∃ tv:List (Value×Int),tv.length=l.length∧Own w O 2 (.slice (some ⟨O,0,none⟩) l.length l.length) l.length (timesV tv) ∧
 ∀ j (h1:j < tv.length) (h2:j < l.length),j < k→(StrsIn w tv[j].1 l[j].1∧tv[j].2=l[j].2)∧Fresh O tv[j].1
section
variable {w w':World}{O:Nat}{l:List Tm}{k:Nat}
theorem AcrossAt.lt (h:AcrossAt w O l k):O < w.heap.size:=by
 obtain ⟨_,tv,_,h2,_⟩:=h
 exact (Own.lt h2 O rfl).2
theorem AcrossAt.later (h:AcrossAt w O l k)(hb:Below w.heap.size w w'):AcrossAt w' O l k:=by
 have hO:=h.lt
 obtain ⟨hn,tv,h1,h2,h3⟩:=h
 exact ⟨hn.later hO hb,tv,h1,h2.later hb,fun j a b c=>⟨⟨StrsIn.kept (h3 j a b c).1.1 hb,(h3 j a b c).1.2⟩,(h3 j a b c).2⟩⟩
theorem AcrossAt.slot (h:AcrossAt w O l k)(hk:k < l.length):∃ rv m,w.cell? ⟨O,k*2,none⟩=some rv∧(∀ s,rv≠.string s)∧w.cell? ⟨O,k*2+1,none⟩=some (.int .i64 m)∧w.frozen? ⟨O,k*2,none⟩=false∧w.frozen? ⟨O,k*2+1,none⟩=false:=by
 obtain ⟨hn,tv,h1,h2,_⟩:=h
 have hkt:k < tv.length:=by omega
 obtain ⟨_,_,_,hc,hr⟩:=Own.parts h2
 have hv:=timesV_get tv k hkt
 have e0:=hc _ _ hv.1
 have e1:=hc _ _ hv.2
 have f0:=(hr (k*2) (by omega)).2
 have f1:=(hr (k*2+1) (by omega)).2
 rw [Nat.zero_add] at e0 e1 f0 f1
 exact ⟨_,_,e0,fun s e=>hn _ s (by rw [e0,e]),e1,f0,f1⟩
theorem AcrossAt.next (h:AcrossAt w O l k)(hk:k < l.length){A:Option Addr}{n p:Nat}(hs:StrsIn w (.slice A n p) l[k].1)(hf:Fresh O (.slice A n p)):AcrossAt ((w.setCell ⟨O,k*2,none⟩ (.slice A n p)).setCell ⟨O,k*2+1,none⟩ (.int .i64 l[k].2)) O l (k+1):=by
 obtain ⟨rv,m,c0,_,c1,_,_⟩:=h.slot hk
 obtain ⟨hn,tv,h1,h2,h3⟩:=h
 have hkt:k < tv.length:=by omega
 have hn1:=hn.set c0 (v:=.slice A n p) (fun s e=>by simp at e)
 have c1':(w.setCell ⟨O,k*2,none⟩ (.slice A n p)).cell? ⟨O,k*2+1,none⟩=some (.int .i64 m):=by
  rw [World.cell?_setCell_other _ _ _ _ (fun e2:(⟨O,k*2,none⟩:Addr)=⟨O,k*2+1,none⟩=>by simp only [Addr.mk.injEq] at e2;omega)]
  exact c1
 have hn2:=hn1.set c1' (v:=.int .i64 l[k].2) (fun s e=>by simp at e)
 have hO:=Own.stored (Own.stored h2 (k*2) (by omega) (.slice A n p)) (k*2+1) (by omega) (.int .i64 l[k].2)
 rw [Nat.zero_add,Nat.zero_add,timesV_set0 tv k hkt,timesV_set1 _ k (by rw [List.length_set];exact hkt)] at hO
 have e:(tv.set k (.slice A n p,tv[k].2)).set k (((tv.set k (.slice A n p,tv[k].2))[k]'(by rw [List.length_set];exact hkt)).1,l[k].2)=tv.set k (.slice A n p,l[k].2):=by simp
 rw [e] at hO
 refine ⟨hn2,_,by rw [List.length_set];exact h1,hO,fun j a b c=>?_⟩
 have keep:∀ {v:Value} {x:List ByteArray},StrsIn w v x→StrsIn ((w.setCell ⟨O,k*2,none⟩ (.slice A n p)).setCell ⟨O,k*2+1,none⟩ (.int .i64 l[k].2)) v x:=fun h=>(h.beside hn _).beside hn1 _
 by_cases hjk:j=k
 ·subst hjk
  rw [List.getElem_set_self]
  exact ⟨⟨keep hs,rfl⟩,hf⟩
 ·rw [List.getElem_set_ne (Ne.symm hjk)]
  have:=h3 j (by simpa using a) b (by omega)
  exact ⟨⟨keep this.1.1,this.1.2⟩,this.2⟩
theorem AcrossAt.done (h:AcrossAt w O l l.length):TimesNew w O (.slice (some ⟨O,0,none⟩) l.length l.length) l:=by
 obtain ⟨_,tv,h1,h2,h3⟩:=h
 refine ⟨tv,h2.slice,rows_all h1 fun j a b=>(h3 j a b b).1,fun t ht=>?_,fresh_at (Nat.le_refl _)⟩
 obtain ⟨j,hj,rfl⟩:=List.mem_iff_getElem.1 ht
 exact (h3 j hj (by omega) (by omega)).2
end
set_option maxHeartbeats 1000000 in
set_option maxRecDepth 100000 in
theorem block_across_calls {w:World}{vc vi:Value}{l:List Tm}(K:Nat)(hc:LinesIn w vc (downsL l K))(hi:IntsIn w vi (l.map Prod.snd))(hR:RowsK l K)(hl:l.length≤4096)(hKb:K≤1000000) :
  Calls Tryz.prog 118 #[vc,vi] w fun e w'=>∃ v,e=.returned v∧TimesNew w' w.heap.size v l∧Below w.heap.size w w':=by
 obtain ⟨j0,hj,jz0,jz1,jz2⟩:=info_parts Tryz.infoBt9
 obtain ⟨m0,hm,mz0,mz1,mz2⟩:=info_parts Tryz.infoBv46
 obtain ⟨hb,hB⟩:=start w
 obtain ⟨A1,p1,rfl,hat1⟩:=lines_at hc
 have HAT1:Hid (∀ c,c < K→∃ b off,A1=some ⟨b,off,none⟩∧b < w.heap.size∧∃ rv,StrsIn w rv (downL l c)∧w.cell? ⟨b,off+c,none⟩=some rv):=fun c hcK=>by
  obtain ⟨b,off,e,hbl,hh⟩:=hat1 c (by rw [downsL_length];exact hcK)
  obtain ⟨rv,h1,h2⟩:=hh c (by rw [downsL_length];exact hcK)
  rw [downsL_get] at h1
  exact ⟨b,off,e,hbl,rv,h1,h2⟩
 rw [downsL_length]
 obtain ⟨A2,p2,rfl,hat2⟩:=one_at hi
 have HAT2:Hid (∀ k (h:k < l.length),∃ b off,A2=some ⟨b,off,none⟩∧b < w.heap.size∧w.cell? ⟨b,off+k,none⟩=some (.int .i64 l[k].2)):=fun k hk=>by
  obtain ⟨b,off,e,hbl,hh⟩:=hat2 k (by rw [List.length_map];exact hk)
  refine ⟨b,off,e,hbl,?_⟩
  rw [hh k (by rw [List.length_map];exact hk),List.getElem_map]
 rw [List.length_map]
 have HR:=Lib.hid hR
 clear hc hi hR hat1 hat2
 go_enter Tryz.func118,Tryz.ntmps118
 go_wp2_with (at_make;refine wpList_make_full _ rfl _ _ 26 rfl w.heap.size 46 m0 (.agg #[.slice none 0 0,.int .i64 0]) 2 Tryz.underlying26 hm mz0 mz1 .i64 .i64 _ _ l.length rfl rfl rfl rfl (by rw [mz2];omega) (by unfold maxLen;omega) hB ?_)
 intro w1 hrow hg1
 have hrow':w1.ownsRow w.heap.size 46 2 (.slice (some ⟨w.heap.size,0,none⟩) l.length l.length) l.length (timesV (List.replicate l.length (.slice none 0 0,0))):=(made_times l.length)▸hrow
 have hA:AcrossAt w1 w.heap.size l 0:=⟨NoStr.made hrow' (made_nostr _),_,List.length_replicate,Own.of_row (B:=w.heap.size) hrow' (by unfold maxLen;omega) (Nat.le_refl _),fun j _ _ h=>absurd h (by omega)⟩
 have hb1:Below w.heap.size w w1:=hb.grown hg1 hB (fun k hk=>by cases hk)
 clear hrow hrow' hg1 hb hB
 go_wp2
 go_loopw [16] (fun i wr=>∃ k:Nat,k≤l.length∧i=.int .i64 k∧AcrossAt wr w.heap.size l k∧Below w.heap.size w wr) (fun i _=>l.length-(intOf i).toNat)
 case atStart=>exact ⟨0,Nat.zero_le _,rfl,hA,hb1⟩
 case round =>
  clear hA hb1
  obtain ⟨k,hk,rfl,hA,hb⟩:=hrel
  by_cases hlt:k < l.length
  ·obtain ⟨b2,off2,rfl,hbl2,c2⟩:=HAT2.out k hlt
   have x2:=(hb.cell (p:=⟨b2,off2+k,none⟩) hbl2).trans c2
   obtain ⟨wo,hwo⟩:∃ wo,wo=wr:=⟨_,rfl⟩
   have hX:(l[k].1.map Value.string).length=K:=by rw [List.length_map];exact (HR.out _ (List.getElem_mem hlt)).1
   have HG:Hid (∀ c,c < K→∃ s,(downL l c)[k]? = some s∧(l[k].1.map Value.string)[c]? = some (.string s)):=fun c hc=>by
    have hc1:c < l[k].1.length:=by rw [List.length_map] at hX;omega
    refine ⟨l[k].1[c],?_,by rw [List.getElem?_map,List.getElem?_eq_getElem hc1];rfl⟩
    rw [List.getElem?_eq_getElem (by rw [downL_length];exact hlt),downL_get l c k hlt,List.getD_eq_getElem?_getD,List.getElem?_eq_getElem hc1,Option.getD_some]
   have HNX:Hid (∀ w' n,AcrossAt w' w.heap.size l k→n=l[k].2→∀ A p,SliceOf w' 1 (.slice A K p) K (l[k].1.map Value.string)→Fresh w.heap.size (.slice A K p)→AcrossAt ((w'.setCell ⟨w.heap.size,k*2,none⟩ (.slice A K p)).setCell ⟨w.heap.size,k*2+1,none⟩ (.int .i64 n)) w.heap.size l (k+1)):=fun w' n h e A p hs hf=>by
    subst e
    refine h.next hlt ?_ hf
    have:=hX
    rw [List.length_map] at this
    unfold StrsIn
    rw [this];exact hs
   generalize l[k].1.map Value.string=xs at *
   generalize l[k].2=n at *
   have HA:=Lib.hid hA
   have HB:=Lib.hid hb
   rw [←hwo] at HA HB
   have HX:=Lib.hid hX
   clear c2 hA hb hX
   go_wp2_with (at_make;refine wpList_make_full _ rfl _ _ 44 rfl wr.heap.size 9 j0 (.string ⟨#[]⟩) 1 Tryz.underlying44 hj jz0 jz1 .i64 .i64 _ _ K rfl rfl rfl rfl (by rw [jz2];omega) (by unfold maxLen;omega) (Nat.le_refl _) ?_)
   intro w5 hrow hg5
   rw [toList_madeCells_one] at hrow
   have hZ:(List.replicate K (Value.string ⟨#[]⟩)).length=K:=List.length_replicate
   generalize List.replicate K (Value.string ⟨#[]⟩)=zs at *
   have hO:Own w5 wr.heap.size 1 (.slice (some ⟨wr.heap.size,0,none⟩) K K) K zs:=Own.of_row (B:=wr.heap.size) hrow (by unfold maxLen;omega) (Nat.le_refl _)
   have hb5:Below wr.heap.size wr w5:=(Below.refl _ _).grown hg5 (Nat.le_refl _) (fun k hk=>by cases hk)
   have HZ:=Lib.hid hZ
   rw [←hwo] at hO hb5 ⊢
   clear hrow hg5 hZ x2 hwo
   go_wp2
   go_loopw [26] (fun i wr=>∃ c:Nat,c≤K∧i=.int .i64 c∧Own wr wo.heap.size 1 (.slice (some ⟨wo.heap.size,0,none⟩) K K) K (xs.take c++zs.drop c)∧Below wo.heap.size wo wr) (fun i _=>K-(intOf i).toNat)
   case atStart=>exact ⟨0,Nat.zero_le _,rfl,by simpa using hO,hb5⟩
   case round =>
    clear hO hb5
    obtain ⟨c,hc,rfl,hO,hq⟩:=hrel
    by_cases hcK:c < K
    ·obtain ⟨b1,off1,rfl,hbl1,rv,hrs,c1⟩:=HAT1.out c hcK
     have hbq:=HB.out.trans (hq.mono HB.out.size)
     have x1:=(hbq.cell (p:=⟨b1,off1+c,none⟩) hbl1).trans c1
     obtain ⟨s,hs1,hs2⟩:=HG.out c hcK
     obtain ⟨hkd,hse⟩:=List.getElem?_eq_some_iff.1 hs1
     obtain ⟨A3,p3,rfl,hat3⟩:=one_at hrs
     obtain ⟨b3,off3,rfl,hbl3,hh⟩:=hat3 k hkd
     have x3:=(hbq.cell (p:=⟨b3,off3+k,none⟩) hbl3).trans (hh k hkd)
     rw [hse] at x3
     rw [downL_length] at x1
     have HS2:=Lib.hid hs2
     obtain ⟨z1,z2⟩:=hO.fillCell HX.out HZ.out hcK
     have HO':=Lib.hid (hO.filled HX.out HZ.out hcK HS2.out)
     have hqq:=hq.setCell (Nat.le_refl wo.heap.size) (p:=⟨wo.heap.size,c,none⟩) (.string s)
     clear c1 hs1 hs2 hkd hse hrs hat3 hh hbq hO hq
     go_wp2
     go_roundw
     case rel=>exact ⟨c+1,by omega,by go_num,HO'.out,hqq⟩
     case measure=>simp [intOf];omega
    ·obtain rfl:c=K:=by omega
     have hF:=(hO.full HX.out HZ.out).slice
     have hA2:=HA.out.later hq
     obtain ⟨rv,m,z0,_,z1,f0,f1⟩:=hA2.slot hlt
     have HN:=Lib.hid (HNX.out wr n hA2 rfl _ _ hF (fresh_at HB.out.size))
     have hbb:=((HB.out.trans (hq.mono HB.out.size)).setCell (Nat.le_refl w.heap.size) (p:=⟨w.heap.size,k*2,none⟩) (.slice (some ⟨wo.heap.size,0,none⟩) c c)).setCell (Nat.le_refl w.heap.size) (p:=⟨w.heap.size,k*2+1,none⟩) (.int .i64 n)
     clear hO hF hA2 hq
     go_wp2
     go_roundw
     case rel=>exact ⟨k+1,by omega,by go_num,HN.out,hbb⟩
     case measure=>simp [intOf];omega
  ·obtain rfl:k=l.length:=by omega
   have HTI:=Lib.hid hA.done
   clear hA
   go_wp2
   go_ret
   exact ⟨_,rfl,HTI.out,hb⟩
theorem Tryz.infoBw44:(Tryz.prog.info? 44).map (fun i=>(i.zero,i.size,i.bytes))=some (some (.slice none 0 0),1,24):=by kernel_rfl
def ParsedEnd (w:World)(ok:Bool)(L:List (List ByteArray))(e:Ending)(w':World):Prop:=Below w.heap.size w w' ∧
 ((ok=true∧∃ v,e=.returned (.tuple #[v,.bool true])∧LinesIn w' v L)∨(ok=false∧e=.returned (.tuple #[.slice none 0 0,.bool false])))
def underK (l:List Tm)(K:Nat)(cols:List (Int×Bool)):Bool:=decide (cols.length=K)&&kindsB l cols
theorem kinds_no {l:List Tm}{cols:List (Int×Bool)}{c:Nat}(h:c < cols.length)(hn:kindL (downL l c) cols[c].1 cols[c].2=false):kindsB l cols=false:=by
 unfold kindsB
 rw [List.all_eq_false]
 refine ⟨c,List.mem_range.2 h,?_⟩
 rw [List.getD_eq_getElem?_getD,List.getElem?_eq_getElem h,Option.getD_some,hn];decide
theorem kinds_yes {l:List Tm}{cols:List (Int×Bool)}(hk:∀ c (h:c < cols.length),kindL (downL l c) cols[c].1 cols[c].2=true):kindsB l cols=true:=by
 unfold kindsB
 rw [List.all_eq_true]
 intro c hc
 have h:=List.mem_range.1 hc
 rw [List.getD_eq_getElem?_getD,List.getElem?_eq_getElem h]
 exact hk c h
def LinesAt (w:World)(O K:Nat)(l:List Tm)(k:Nat):Prop:=NoStr w O∧∃ tv:List Value,tv.length=K∧Own w O 1 (.slice (some ⟨O,0,none⟩) K K) K tv∧∀ j (h1:j < tv.length),j < k→StrsIn w tv[j] (downL l j)
section
variable {w w':World}{O K:Nat}{l:List Tm}{k:Nat}
theorem LinesAt.lt (h:LinesAt w O K l k):O < w.heap.size:=by
 obtain ⟨_,tv,_,h2,_⟩:=h
 exact (Own.lt h2 O rfl).2
theorem LinesAt.later (h:LinesAt w O K l k)(hb:Below w.heap.size w w'):LinesAt w' O K l k:=by
 have hO:=h.lt
 obtain ⟨hn,tv,h1,h2,h3⟩:=h
 exact ⟨hn.later hO hb,tv,h1,h2.later hb,fun j a c=>StrsIn.kept (h3 j a c) hb⟩
theorem LinesAt.slot (h:LinesAt w O K l k)(hk:k < K):∃ rv,w.cell? ⟨O,k,none⟩=some rv∧w.frozen? ⟨O,k,none⟩=false:=by
 obtain ⟨hn,tv,h1,h2,_⟩:=h
 obtain ⟨_,_,_,hc,hr⟩:=Own.parts h2
 have e0:=hc k _ (List.getElem?_eq_getElem (by omega))
 have f0:=(hr k (by omega)).2
 rw [Nat.zero_add] at e0 f0
 exact ⟨_,e0,f0⟩
theorem LinesAt.next (h:LinesAt w O K l k)(hk:k < K){A:Option Addr}{n p:Nat}(hs:StrsIn w (.slice A n p) (downL l k)):LinesAt (w.setCell ⟨O,k,none⟩ (.slice A n p)) O K l (k+1):=by
 obtain ⟨rv,c0,_⟩:=h.slot hk
 obtain ⟨hn,tv,h1,h2,h3⟩:=h
 have hO:=Own.stored h2 k (by omega) (.slice A n p)
 rw [Nat.zero_add] at hO
 refine ⟨hn.set c0 (fun s e=>by simp at e),_,by rw [List.length_set];exact h1,hO,fun j a c=>?_⟩
 by_cases hjk:j=k
 ·subst hjk
  rw [List.getElem_set_self]
  exact hs.beside hn _
 ·rw [List.getElem_set_ne (Ne.symm hjk)]
  exact (h3 j (by simpa using a) (by omega)).beside hn _
theorem LinesAt.done (h:LinesAt w O K l K):LinesIn w (.slice (some ⟨O,0,none⟩) K K) (downsL l K):=by
 obtain ⟨_,tv,h1,h2,h3⟩:=h
 refine ⟨tv,?_,by rw [downsL_length];exact h1,fun j a b=>?_⟩
 ·rw [downsL_length];exact h2.slice
 ·rw [downsL_get];exact h3 j a (by omega)
end
set_option maxHeartbeats 4000000 in
set_option maxRecDepth 100000 in
theorem block_parse_calls {w:World}{vb vc:Value}{l:List Tm}{cols:List (Int×Bool)}(K:Nat)(hvb:BlkIn w vb (blockOf l K))(hvc:ColsIn w vc cols)(hR:RowsK l K)(hl:l.length≤4096)(hKb:K≤1000000) :
  Calls Tryz.prog 116 #[vb,vc] w (ParsedEnd w (underK l K cols) (downsL l K)):=by
 obtain ⟨n0,hn,nz0,nz1,nz2⟩:=info_parts Tryz.infoBw44
 obtain ⟨cv,rfl,hcv⟩:=hvb
 obtain ⟨A1,p1,rfl,hat1⟩:=one_at hcv
 have HAT1:Hid (∀ k,k < K→∃ b off,A1=some ⟨b,off,none⟩∧b < w.heap.size∧w.cell? ⟨b,off+k,none⟩=some (.string (colB (downL l k)))):=fun k hk=>by
  obtain ⟨b,off,e,hb,hc⟩:=hat1 k (by show k < (colsT l K).length;rw [colsT_length];exact hk)
  refine ⟨b,off,e,hb,?_⟩
  rw [hc k (by show k < (colsT l K).length;rw [colsT_length];exact hk)]
  exact congrArg (fun x=>some (Value.string x)) (colsT_get l K k hk)
 rw [show (blockOf l K).2.1.length=K from colsT_length _ _]
 obtain ⟨A2,p2,rfl,hat2⟩:=cols_at hvc
 have HAT2:Hid (∀ k (h:k < cols.length),∃ b off,A2=some ⟨b,off,none⟩∧b < w.heap.size∧w.cell? ⟨b,off+k*2,none⟩=some (.int .u8 cols[k].1)∧w.cell? ⟨b,off+k*2+1,none⟩=some (.bool cols[k].2)):=fun k hk=>by
  obtain ⟨b,off,e,hb,hc⟩:=hat2 k hk
  exact ⟨b,off,e,hb,hc k hk⟩
 have HR:=Lib.hid hR
 clear hcv hvc hR hat1 hat2
 unfold blkA
 rw [blockOf_eq]
 dsimp only
 generalize shelfB (l.map Prod.snd)=s at *
 have ho:=bbox_lit w 72 l.length (.slice A1 K p1) s
 have hb:=Below.alloc (.refl w.heap.size w) (Nat.le_refl _) (.cells #[.int .i64 l.length,.slice A1 K p1,.string s] 72)
 have hB:=hb.size
 by_cases hK:cols.length=K
 ·have HKL:=Lib.hid hK
  have HU:Hid (underK l K cols=kindsB l cols):=by unfold Hid underK;rw [decide_eq_true hK,Bool.true_and]
  rw [hK]
  clear hK
  have d0:((K:Int) != (K:Int))=false:=by simp
  obtain ⟨x0,x1,x2,_⟩:=ho.cells
  go_enter Tryz.func116,Tryz.ntmps116
  go_wp2_with (at_make;refine wpList_make_full _ rfl _ _ 129 rfl _ 44 n0 (.slice none 0 0) 1 Tryz.underlying129 hn nz0 nz1 .i64 .i64 _ _ K rfl rfl rfl rfl (by rw [nz2];omega) (by unfold maxLen;omega) (Nat.le_refl _) ?_)
  clear x0 x1 x2
  have hsz:(w.alloc (.cells #[.int .i64 l.length,.slice A1 K p1,.string s] 72)).heap.size=w.heap.size+1:=by simp
  generalize w.alloc (.cells #[.int .i64 l.length,.slice A1 K p1,.string s] 72)=w1 at *
  intro w3 hrow hg3
  rw [←hsz] at hrow ⊢
  clear hsz
  rw [toList_madeCells_one] at hrow
  have hA:LinesAt w3 w1.heap.size K l 0:=⟨NoStr.made hrow (fun x hx s e=>by rw [List.eq_of_mem_replicate hx] at e;simp at e),_,List.length_replicate,Own.of_row (B:=w1.heap.size) hrow (by unfold maxLen;omega) (Nat.le_refl _),fun j _ h=>absurd h (by omega)⟩
  have hq:Below w1.heap.size w1 w3:=(Below.refl _ _).grown hg3 (Nat.le_refl _) (fun k hk=>by cases hk)
  have HO:=Lib.hid ho
  have HB:=Lib.hid hb
  clear hrow hg3 ho hb
  go_wp2_with fail
  go_loopw [7,8,22] (fun _ _ i wr=>∃ c:Nat,c≤K∧i=.int .i64 c∧LinesAt wr w1.heap.size K l c∧Hid (∀ j (h:j < cols.length),j < c→kindL (downL l j) cols[j].1 cols[j].2=true)∧Below w1.heap.size w1 wr) (fun _ _ i _=>K-(intOf i).toNat)
  case atStart=>exact ⟨0,Nat.zero_le _,rfl,hA,fun j _ h=>absurd h (by omega),hq⟩
  case round =>
   clear hA hq
   obtain ⟨c,hc,rfl,hA,HKD,hq⟩:=hrel
   by_cases hlt:c < K
   ·have hltc:c < cols.length:=by rw [HKL.out];exact hlt
    obtain ⟨b1,off1,rfl,hbl1,hc1⟩:=HAT1.out c hlt
    have hbq:=HB.out.trans (hq.mono HB.out.size)
    have y3:=(hbq.cell (p:=⟨b1,off1+c,none⟩) hbl1).trans hc1
    obtain ⟨b2,off2,rfl,hbl2,c21,c22⟩:=HAT2.out c hltc
    have y4:=(hbq.cell (p:=⟨b2,off2+c*2,none⟩) hbl2).trans c21
    have y5:=(hbq.cell (p:=⟨b2,off2+c*2+1,none⟩) hbl2).trans c22
    have HKN:Hid (kindL (downL l c) cols[c].1 cols[c].2=false→kindsB l cols=false):=kinds_no hltc
    have HKY:Hid (kindL (downL l c) cols[c].1 cols[c].2=true→∀ j (h:j < cols.length),j < c+1→kindL (downL l j) cols[j].1 cols[j].2=true):=fun hk j h hj=>by
     by_cases e:j=c
     ·subst e;exact hk
     ·exact HKD.out j h (by omega)
    have HNX:Hid (∀ w' A p,LinesAt w' w1.heap.size K l c→StrsIn w' (.slice A l.length p) (downL l c)→LinesAt (w'.setCell ⟨w1.heap.size,c,none⟩ (.slice A l.length p)) w1.heap.size K l (c+1)):=fun w' A p h1 h2=>h1.next hlt h2
    have hlr:=downL_right HR.out hlt
    have hlen:=downL_length l c
    have HPA:Hid (∀ w',Calls Tryz.prog 145 #[.string (colB (downL l c)),.int .i64 l.length] w' fun e w''=>∃ v,e=.returned (.tuple #[v,.bool true])∧StrsIn w'' v (downL l c)∧Below w'.heap.size w' w''):=fun w'=>by
     have hk:=col_at (downL l c) (by rw [hlen];exact hl) hlr
     rw [hlen] at hk
     exact (parse_calls w' (colB (downL l c)) l.length (colB_small (by rw [hlen];exact hl) (right_size hlr))).mono fun e w'' h=>h.yes hk
    have HKI:Hid (∀ w' v,StrsIn w' v (downL l c)→GivesAt Tryz.prog 146 #[v,.int .u8 cols[c].1,.bool cols[c].2] w' (.bool (kindL (downL l c) cols[c].1 cols[c].2))):=fun w' v h=>kindL_calls h _ _
    generalize kindL (downL l c) cols[c].1 cols[c].2=kb at *
    generalize cols[c]=cc at *
    obtain ⟨kd,nl⟩:=cc
    dsimp only at *
    generalize downL l c=dl at *
    generalize colB dl=cs at *
    have hB2:=hq.size
    have HDL:=Lib.hid hlen
    have hqa:=(Below.refl wr.heap.size wr).alloc (Nat.le_refl _) (.cells #[.int .u8 kd,.bool nl] 58)
    have HA:=Lib.hid (hA.later hqa)
    have HQ:=Lib.hid (hq.trans (hqa.mono hB2))
    obtain ⟨x0,x1,_,_⟩:=(HO.out.later (hq.trans (hqa.mono hB2))).cells
    have y6:=cell_kept y3 hqa
    have i0:(0:Int)≤(c:Int):=by omega
    have i1:(c:Int) < (K:Int):=by omega
    clear hc1 c21 c22 hlr hlen hltc hbq hA hq y3
    go_wp2_with fail
    generalize hwa:wr.alloc (.cells #[.int .u8 kd,.bool nl] 58)=wa at *
    have u0:wa.cell? ⟨wr.heap.size,0,none⟩=some (.int .u8 kd):=by rw [←hwa];exact World.cell?_alloc_mark wr _ _ (0,0) 0
    have u1:wa.cell? ⟨wr.heap.size,1,none⟩=some (.bool nl):=by rw [←hwa];exact World.cell?_alloc_mark wr _ _ (0,0) 1
    clear hwa
    go_wp2_with fail
    go_region_with (go_at_call 145;refine (HPA.out _).mono ?_;rintro e w5 ⟨v5,rfl,h5,hq5⟩)
    all_goals
     have hqw:Below wa.heap.size wa w5:=(Below.drew (.refl _ _)).trans hq5
     obtain ⟨A6,p6,hv5,_⟩:=one_at h5
     rw [HDL.out] at hv5
     subst hv5
     have z0:=cell_kept u0 hqw
     have z1:=cell_kept u1 hqw
     have hA5:=HA.out.later hqw
     have hq5':=HQ.out.trans (hqw.mono HQ.out.size)
     have HK5:=Lib.hid (HKI.out _ _ h5)
     have H5:=Lib.hid h5
     clear h5 hq5 hqw u0 u1 x0 x1 y4 y5 y6
     cases kb with
     | false =>
      have HE:=Lib.hid (HKN.out rfl)
      have hbe:=HB.out.trans (hq5'.mono HB.out.size)
      go_wp2_with fail
      go_simp
      go_wp2_with fail
      refine HK5.out.stepB (w0:=w5) (B:=w5.heap.size) (.refl _ _) (Nat.le_refl _) ?_
      intro w6 _ _ hq6
      have hbe6:=hbe.trans (hq6.mono hbe.size)
      clear hA5 hq5' hbe hq6 z0 z1
      go_wp2
      go_ret2
      exact ⟨hbe6,.inr ⟨HU.out.trans HE.out,rfl⟩⟩
     | true =>
      have HY:=Lib.hid (HKY.out rfl)
      go_wp2_with fail
      go_simp
      go_wp2_with fail
      refine HK5.out.stepB (w0:=w5) (B:=w5.heap.size) (.refl _ _) (Nat.le_refl _) ?_
      intro w6 _ _ hq6
      have hA6:=hA5.later hq6
      have hs6:=StrsIn.kept H5.out hq6
      have hN6:=HNX.out w6 A6 p6 hA6 hs6
      have hqn:=(hq5'.trans (hq6.mono hq5'.size)).setCell (Nat.le_refl w1.heap.size) (p:=⟨w1.heap.size,c,none⟩) (.slice A6 l.length p6)
      obtain ⟨rv,t0,t1⟩:=hA6.slot hlt
      have HN6:=Lib.hid hN6
      clear hA5 hq5' hA6 hs6 hN6 hq6 z0 z1
      go_wp2
      go_roundw
      case rel=>exact ⟨c+1,by omega,by go_num,HN6.out,HY,hqn⟩
      case measure=>simp [intOf];omega
   ·obtain rfl:c=K:=by omega
    have HLD:=Lib.hid hA.done
    have HE:Hid (kindsB l cols=true):=kinds_yes fun j h=>HKD.out j h (by have:=HKL.out;omega)
    have hbe:=HB.out.trans (hq.mono HB.out.size)
    clear hA hq
    go_wp2
    go_ret2
    exact ⟨hbe,.inl ⟨HU.out.trans HE.out,_,rfl,HLD.out⟩⟩
 ·have HU:Hid (underK l K cols=false):=by unfold Hid underK;rw [decide_eq_false hK];rfl
  have d0:((K:Int) != (cols.length:Int))=true:=by rw [bne_iff_ne];omega
  go_enter Tryz.func116,Tryz.ntmps116
  go_wp2_with fail
  generalize w.alloc (.cells #[.int .i64 l.length,.slice A1 K p1,.string s] 72)=w1 at *
  obtain ⟨x0,x1,x2,_⟩:=ho.cells
  clear ho
  go_wp2
  go_ret2
  exact ⟨hb,.inr ⟨HU.out,rfl⟩⟩
theorem read_parts {l:List Tm}{K:Nat}{cols:List (Int×Bool)}(h:underK l K cols=true):readB l K cols=goodB l:=by
 unfold readB
 unfold underK at h
 rw [h,Bool.true_and]
theorem read_under_no {l:List Tm}{K:Nat}{cols:List (Int×Bool)}(h:underK l K cols=false):readB l K cols=false:=by
 unfold readB
 unfold underK at h
 rw [h,Bool.false_and]
theorem read_counts {l:List Tm}{K:Nat}{cols:List (Int×Bool)}(h:countsB l=false):readB l K cols=false:=by
 unfold readB
 have hg:goodB l=false:=by
  unfold countsB at h
  rcases Bool.and_eq_false_iff.1 h with h|h
  ·rw [decide_eq_false_iff_not] at h
   unfold goodB
   rw [decide_eq_false h,Bool.false_and]
  ·rw [decide_eq_false_iff_not] at h
   by_cases h0:0 < l.length
   ·exact good_small h0 (by omega)
   ·unfold goodB
    rw [decide_eq_false h0,Bool.false_and]
 rw [hg,Bool.and_false]
theorem read_right {l:List Tm}{K:Nat}{cols:List (Int×Bool)}(h:underK l K cols=true)(hc:countsB l=true):readB l K cols=rightW l:=by
 rw [read_parts h]
 unfold countsB at hc
 rw [Bool.and_eq_true,decide_eq_true_eq,decide_eq_true_eq] at hc
 exact good_right hc.1 hc.2
def ReadNew (w:World)(ok:Bool)(l:List Tm)(e:Ending)(w':World):Prop :=
 ∃ v,e=.returned (.tuple #[v,.int .i64 (if ok=true then 0 else 2)])∧TimesNew w' w.heap.size v (if ok=true then l else [])∧Below w.heap.size w w'
theorem read_end_no {w w':World}{l:List Tm}{ok:Bool}(h:ok=false)(hb:Below w.heap.size w w'):ReadNew w ok l (.returned (.tuple #[.slice none 0 0,.int .i64 2])) w':=by
 subst h
 exact ⟨_,rfl,TimesNew.nil_ _ _ _,hb⟩
theorem read_end_yes {w w':World}{l:List Tm}{ok:Bool}{v:Value}(h:ok=true)(hv:TimesNew w' w.heap.size v l)(hb:Below w.heap.size w w'):ReadNew w ok l (.returned (.tuple #[v,.int .i64 0])) w':=by
 subst h
 exact ⟨_,rfl,hv,hb⟩
set_option maxHeartbeats 1000000 in
set_option maxRecDepth 100000 in
theorem block_rows_new {w:World}{vb vc:Value}{l:List Tm}{cols:List (Int×Bool)}(K:Nat)(hvb:BlkIn w vb (blockOf l K))(hvc:ColsIn w vc cols)(hR:RowsK l K)(hl:l.length≤4096)(hN:InR (l.map Prod.snd))(_hcK:cols.length≤1000000)(hKb:K≤1000000) :
  Calls Tryz.prog 87 #[vb,vc] w (ReadNew w (readB l K cols) l):=by
 obtain ⟨cv,rfl,hcv⟩:=hvb
 obtain ⟨A1,p1,rfl,_⟩:=one_at hcv
 have HCV:=Lib.hid hcv
 have HVC:=Lib.hid hvc
 rw [show (blockOf l K).2.1.length=K from colsT_length _ _] at HCV ⊢
 have HBL:Hid (∀ w',StrsIn w' (.slice A1 K p1) (blockOf l K).2.1→BlkIn w' (.agg #[.int .i64 l.length,.slice A1 K p1,.string (shelfB (l.map Prod.snd))]) (blockOf l K)):=fun w' h=>⟨_,rfl,h⟩
 have HCN:Hid (∀ w',Calls Tryz.prog 117 #[.agg #[.int .i64 l.length,.slice A1 K p1,.string (shelfB (l.map Prod.snd))]] w' (CountsEnd w' l)):=fun w'=>block_counts_calls w' A1 K p1 hl hN
 have HR:=Lib.hid hR
 clear hcv hvc hR hN
 unfold blkA
 rw [blockOf_eq]
 dsimp only
 generalize shelfB (l.map Prod.snd)=s at *
 have ho:=bbox_lit w 72 l.length (.slice A1 K p1) s
 have hb:=Below.alloc (.refl w.heap.size w) (Nat.le_refl _) (.cells #[.int .i64 l.length,.slice A1 K p1,.string s] 72)
 obtain ⟨Ac,pc,hvcs,_⟩:=cols_at HVC.out
 subst hvcs
 go_enter Tryz.func87,Tryz.ntmps87
 go_wp2_with fail
 generalize w.alloc (.cells #[.int .i64 l.length,.slice A1 K p1,.string s] 72)=w1 at *
 obtain ⟨x0,x1,x2,_⟩:=ho.cells
 go_wp2_with fail
 refine (block_parse_calls K (HBL.out _ (StrsIn.kept HCV.out hb)) (HVC.out.kept hb) HR.out hl hKb).mono ?_
 rintro e w2 ⟨hq,hcase⟩
 have hb2:=hb.trans (hq.mono hb.size)
 have ho2:=ho.later hq
 have HB2:=Lib.hid hb2
 obtain ⟨y0,y1,y2,_⟩:=ho2.cells
 clear ho hb x0 x1 x2 hq hb2
 rcases hcase with ⟨hu,v1,rfl,hL⟩ | ⟨hu,rfl⟩
 ·have HL:=Lib.hid hL
  have HU:=Lib.hid hu
  obtain ⟨Av,pv,hv1,_⟩:=lines_at hL
  rw [downsL_length] at hv1
  subst hv1
  clear hL hu
  go_wp2_with fail
  refine (HCN.out w2).mono ?_
  rintro e w3 ⟨hq,hcase⟩
  have HB3:=Lib.hid (HB2.out.trans (hq.mono HB2.out.size))
  have HL3:=Lib.hid (HL.out.kept hq)
  clear hq y0 y1 y2 ho2 HL
  rcases hcase with ⟨hc,v2,rfl,hI⟩ | ⟨hc,rfl⟩
  ·have HRE:=Lib.hid (read_right HU.out hc)
   have HA:=Lib.hid (block_across_calls K HL3.out hI HR.out hl hKb)
   obtain ⟨A5,p5,hv2,_⟩:=one_at hI
   rw [List.length_map] at hv2
   subst hv2
   clear hc hI HL3 HCN
   go_wp2_with fail
   refine HA.out.mono ?_
   rintro e w4 ⟨v4,rfl,hT,hq4⟩
   have HB4:=Lib.hid (HB3.out.trans (hq4.mono HB3.out.size))
   have HT4:Hid (TimesNew w4 w.heap.size v4 l):=by
    obtain ⟨tv,a1,a2,a3,a4⟩:=hT
    exact ⟨tv,a1,a2,fun t ht=>(a3 t ht).mono HB3.out.size,a4.mono HB3.out.size⟩
   have HRR:=Lib.hid (weigh_right_calls hT.times)
   obtain ⟨tv,A6,p6,hv4,_⟩:=times_at hT.times
   subst hv4
   clear hT hq4 HA
   cases hr:rightW l with
   | true =>
    rw [hr] at HRR HRE
    have HRE2:=Lib.hid HRE.out
    clear hr
    go_wp2_with fail
    refine HRR.out.stepB (w0:=w4) (B:=w4.heap.size) (.refl _ _) (Nat.le_refl _) ?_
    intro w5 _ _ hq5
    have HT5:=Lib.hid (HT4.out.kept hq5)
    have hbe:=HB4.out.trans (hq5.mono HB4.out.size)
    clear hq5 HRR HT4
    go_wp2
    go_ret2
    exact read_end_yes HRE.out HT5.out hbe
   | false =>
    rw [hr] at HRR HRE
    clear hr
    go_wp2_with fail
    refine HRR.out.stepB (w0:=w4) (B:=w4.heap.size) (.refl _ _) (Nat.le_refl _) ?_
    intro w5 _ _ hq5
    have hbe:=HB4.out.trans (hq5.mono HB4.out.size)
    clear hq5 HRR HT4
    go_wp2
    go_ret2
    exact read_end_no HRE.out hbe
  ·have HRE:=Lib.hid (read_counts (K:=K) (cols:=cols) hc)
   clear hc HL3 HCN
   go_wp2
   go_ret2
   exact read_end_no HRE.out HB3.out
 ·have HRE:=Lib.hid (read_under_no hu)
  clear hu
  go_wp2_with fail
  refine (HCN.out w2).mono ?_
  rintro e w3 ⟨hq,hcase⟩
  have HB3:=Lib.hid (HB2.out.trans (hq.mono HB2.out.size))
  clear hq y0 y1 y2 ho2
  rcases hcase with ⟨_,v2,rfl,hI⟩ | ⟨_,rfl⟩
  ·obtain ⟨A5,p5,hv2,_⟩:=one_at hI
   rw [List.length_map] at hv2
   subst hv2
   clear hI HCN
   go_wp2
   go_ret2
   exact read_end_no HRE.out HB3.out
  ·clear HCN
   go_wp2
   go_ret2
   exact read_end_no HRE.out HB3.out
end Go.Proofs.YtafmbnafibahkaaGreat
