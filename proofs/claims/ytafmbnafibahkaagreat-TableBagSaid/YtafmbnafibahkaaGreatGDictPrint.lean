/- The contract of layer 5's Print, its end. -/
import Derived.Test.YtafmbnafibahkaaGreatGStrs
import Derived.Test.YtafmbnafibahkaaGreatGRuns
import Derived.Test.YtafmbnafibahkaaGreatGShelf
import Derived.Test.YtafmbnafibahkaaGreatGDict
import Derived.Test.YtafmbnafibahkaaGreatGZShelf
import Derived.Sort.OwnSorted
import Derived.Lib.OwnBridge
import Derived.Deep.RegionWith
namespace Go.Proofs.YtafmbnafibahkaaGreat
open Go Go.RowKit
theorem getD_str {l:List ByteArray}{j:Nat}(h:j < l.length):l.getD j ByteArray.empty=l[j]:=getD_in _ _ h
theorem clone_strs {w:World}{v:Value}{l:List ByteArray}(h:StrsIn w v l)(hl:l.length≤1000000) :
  Calls Tryz.prog 58 #[v] w fun e w'=>∃ v',e=.returned v'∧w'.ownsRow w.heap.size 9 1 v' l.length (l.map Value.string)∧Below w.heap.size w w':=by
 rcases h.parts with ⟨rfl,A,cap,rfl⟩ | ⟨h0,b,off,cap,rfl,hb,hc⟩
 ·cases A with
  | none=>exact (Tryz.slices_Clone_string_nil _ _ w).mono fun _ _ ⟨h1,h2⟩=>⟨_,h1,h2▸World.ownsRow_nil _ _ _ _,h2▸.refl _ _⟩
  | some a=>exact (Tryz.slices_Clone_string_zero a cap w).mono fun _ _ ⟨v',h1,h2,_,h4⟩=>⟨v',h1,h2,h4⟩
 ·refine (Tryz.slices_Clone_string b off l.length cap l w (Nat.le_refl _) (by omega) fun j hj=>by rw [getD_str hj];exact hc j hj).mono ?_
  rintro e w' ⟨v',h1,h2,_,h4⟩
  rw [List.take_length] at h2
  exact ⟨v',h1,h2,h4⟩
theorem sort_strs {w w0:World}{B:Nat}{v:Value}{l:List ByteArray}(h:w.ownsRow B 9 1 v l.length (l.map Value.string))(hb:Below B w0 w)(hl:l.length≤1000000) :
  Calls Tryz.prog 192 #[v] w fun e w'=>e=.returned (.tuple #[])∧w'.ownsRow B 9 1 v (sortedOf l).length ((sortedOf l).map encStr)∧Below B w0 w':=by
 rcases h.2 with ⟨rfl,h0⟩ | ⟨g,cap,cur,rfl,hB,hg,h1,h2,h3,h4⟩
 ·have hl0:l=[]:=by simpa using h0
  subst hl0
  refine (Tryz.slices_Sort_string_none none 0 w).mono ?_
  rintro e w' ⟨rfl,rfl⟩
  have e0:sortedOf []=[]:=List.eq_nil_of_length_eq_zero (sorted_length [])
  rw [e0]
  exact ⟨rfl,World.ownsRow_nil _ _ _ _,hb⟩
 ·have hlen:(bsOf l).length=l.length:=by unfold bsOf;rw [List.length_map]
  have hs:=sorted_length l
  have h4':cur.toList.take (bsOf l).length=(bsOf l).map encStr:=by rw [bsOf_cells,hlen,←h4,Nat.mul_one]
  have hc:=Tryz.slices_Sort_string g 0 cap (bsOf l) w (holds_of_block hg h4') (Array.getElem?_eq_some_iff.1 hg).1 (by omega)
  rw [hlen] at hc
  refine hc.mono ?_
  rintro e w' ⟨rfl,nn,os,rfl⟩
  have:=ownsRow_sorted (n:=nn) (os:=os) (ss:=bsOf l) (ts:=sortedOf l) (by rw [hs,hlen]) hB hg (by omega) h2 h3
  rw [hlen,←hs] at this
  rw [hs]
  rw [hs] at this
  exact ⟨rfl,this,hb.grown (grownBy_sorted _) (Nat.le_trans hB (Nat.le_of_lt (Array.getElem?_eq_some_iff.1 hg).1)) fun j hj=>by cases hj;exact hB⟩
theorem compact_strs {w w0:World}{B:Nat}{v:Value}{ss:List (List UInt8)}(h:w.ownsRow B 9 1 v ss.length (ss.map encStr))(hb:Below B w0 w)(hl:ss.length≤1000000) :
  Calls Tryz.prog 193 #[v] w fun e w'=>∃ v',e=.returned v'∧Own w' B 1 v' (Lib.compact ss).length ((Lib.compact ss).map encStr)∧Below B w0 w':=by
 have hle:=Lib.compact_length_le ss
 by_cases hv:v=.slice none 0 0
 ·subst hv
  have h0:ss=[]:=by
   rcases h.2 with ⟨_,h0⟩ | ⟨g,cap,cur,h0,_⟩
   ·simpa using h0
   ·simp at h0
  subst h0
  refine (Tryz.slices_Compact_string_empty none 0 w).mono ?_
  rintro e w' ⟨rfl,rfl⟩
  exact ⟨_,rfl,Own.nil_ _ _ _,hb⟩
 ·obtain ⟨g,cap,rfl,hB,hg,h1,h2,_,hH⟩:=Lib.holds_of_ownsRow h hv
  refine (Tryz.slices_Compact_string g 0 cap ss w hH (by omega) h1).mono ?_
  rintro e w' ⟨rfl,q,rfl⟩
  have hc:=Lib.ownsRow_putRow (q:=q) (k:=(Lib.compact ss).length) (ys:=Lib.compact ss++List.replicate (ss.length-(Lib.compact ss).length) []) h (by simp;omega) (by omega)
  rw [List.take_left] at hc
  exact ⟨_,rfl,Own.of_row hc (by unfold maxLen;omega) (Nat.le_refl _),Lib.below_putRow hb hB⟩
def GivesOwnStrs (P:Program)(f:FuncId)(args:Array Value)(w:World)(l:List ByteArray):Prop :=
 Calls P f args w fun e w'=>∃ v,e=.returned v∧Own w' w.heap.size 1 v l.length (l.map Value.string)∧Below w.heap.size w w'
theorem GivesOwnStrs.gives {P:Program}{f:FuncId}{args:Array Value}{w:World}{l:List ByteArray}(h:GivesOwnStrs P f args w l):GivesStrs P f args w l :=
 Calls.mono h fun _ _ ⟨v,h1,h2,h3⟩=>⟨v,h1,h2.slice,h3⟩
set_option maxHeartbeats 1000000 in
theorem dict_words_calls {w:World}{v:Value}{l:List ByteArray}(h:StrsIn w v l)(hl:l.length≤1000000):GivesOwnStrs Tryz.prog 181 #[v] w (wordsOf l):=by
 have H1:=Lib.hid (clone_strs h hl)
 have hs:=sorted_length l
 have HW:=Lib.hid (compact_cells l)
 have HN:=Lib.hid (compact_words_length l)
 obtain ⟨A,cap,rfl,_⟩:=one_at h
 clear h
 unfold GivesOwnStrs
 go_enter Tryz.func181,Tryz.ntmps181
 go_wp2_with fail
 refine H1.out.mono ?_
 rintro e w1 ⟨v1,rfl,h1,hb1⟩
 have H2:=Lib.hid (sort_strs h1 hb1 hl)
 clear H1 h1 hb1
 go_wp2_with fail
 refine H2.out.mono ?_
 rintro e w2 ⟨rfl,h2,hb2⟩
 have H3:=Lib.hid (compact_strs h2 hb2 (by omega))
 clear H2 h2 hb2
 go_wp2_with fail
 refine H3.out.mono ?_
 rintro e w3 ⟨v3,rfl,h3,hb3⟩
 have h3':Own w3 w.heap.size 1 v3 (wordsOf l).length ((wordsOf l).map Value.string):=by rw [←HW.out,←HN.out];exact h3
 obtain ⟨A3,c3,hv3⟩:=h3.len
 clear H3 h3 HW HN hs
 subst hv3
 go_wp2
 go_ret
 exact ⟨_,rfl,h3',hb3⟩
theorem search_strs {w:World}{v:Value}{ws:List ByteArray}(h:StrsIn w v ws)(hr:Rises ws)(hl:ws.length≤1000000){c:ByteArray}(hc:c∈ws) :
  Calls Tryz.prog 194 #[v,.string c] w fun e w'=>∃ (k:Nat) (x:Bool) (q:Nat),e=.returned (.tuple #[.int .i64 k,.bool x])∧placeI ws c=k∧k < ws.length∧w'=w.drewN q:=by
 obtain ⟨k,e,hk,hg,hs⟩:=place_halving hr hc
 rcases h.parts with ⟨rfl,_⟩ | ⟨h0,b,off,cap,rfl,hb,hcell⟩
 ·simp at hc
 ·have hm:=h.len
  unfold maxLen at hm
  refine (Tryz.slices_BinarySearch_string b off ws.length cap (fun t=>ws.getD t c) c w (by omega) fun j hj=>by rw [getD_in _ _ hj];exact hcell j hj).mono ?_
  rintro e' w' ⟨rfl,q,rfl⟩
  exact ⟨k,_,q,by rw [hs],e,hk,rfl⟩
def zeroInts (n:Nat):List Value:=List.replicate n (Value.int .i64 0)
set_option maxHeartbeats 1000000 in
theorem dict_places_calls {w:World}{vw v:Value}{l:List ByteArray}(hw:StrsIn w vw (wordsOf l))(h:StrsIn w v l)(hl:l.length≤1000000) :
  Calls Tryz.prog 182 #[vw,v] w fun e w'=>∃ v',e=.returned v'∧IntsIn w' v' (placesOf l)∧Below w.heap.size w w':=by
 obtain ⟨i0,hi,hz0,hz1,hz2⟩:=info_parts Tryz.infoI3
 obtain ⟨hb,hB⟩:=start w
 have HR:=Lib.hid (wordsOf_spec l)
 have HPL:=Lib.hid (show (placesOf l).length=l.length by unfold placesOf;rw [List.length_map])
 have HW:=Lib.hid hw
 obtain ⟨Aw,cw,hvw,_⟩:=one_at hw
 have hvw':=Lib.hid hvw
 obtain ⟨A,cap,rfl,hat⟩:=one_at h
 have HAT:=Lib.hid hat
 clear h hat hw hvw
 go_enter Tryz.func182,Tryz.ntmps182
 go_wp2_with (at_make;refine wpList_make_full _ rfl _ _ 92 rfl w.heap.size 3 i0 (.int .i64 0) 1 Tryz.underlying92 hi hz0 hz1 .i64 .i64 _ _ l.length rfl rfl rfl rfl (by rw [hz2];omega) (by unfold maxLen;omega) hB ?_)
 intro w1 hrow hg1
 rw [toList_madeCells_one] at hrow
 have hO:Own w1 w.heap.size 1 (.slice (some ⟨w.heap.size,0,none⟩) l.length l.length) l.length (zeroInts l.length):=Own.of_row (B:=w.heap.size) hrow (by unfold maxLen;omega) (Nat.le_refl _)
 have hb1:Below w.heap.size w w1:=hb.grown hg1 hB (fun k hk=>by cases hk)
 clear hrow hg1 hb hB
 have hX:((placesOf l).map (Value.int .i64)).length=l.length:=by rw [List.length_map,HPL.out]
 have hZ:(zeroInts l.length).length=l.length:=List.length_replicate
 have HX:=Lib.hid hX
 have HZ:=Lib.hid hZ
 clear hX hZ
 go_wp2
 go_loopw [13] (fun i wr=>∃ k:Nat,k≤l.length∧i=.int .i64 k∧Own wr w.heap.size 1 (.slice (some ⟨w.heap.size,0,none⟩) l.length l.length) l.length (((placesOf l).map (Value.int .i64)).take k++(zeroInts l.length).drop k)∧Below w.heap.size w wr) (fun i _=>l.length-(intOf i).toNat)
 case atStart=>exact ⟨0,Nat.zero_le _,rfl,by simpa using hO,hb1⟩
 case round =>
  clear hO hb1
  obtain ⟨k,hk,rfl,hO,hb⟩:=hrel
  by_cases hlt:k < l.length
  ·obtain ⟨b,off,rfl,hbl,hc⟩:=HAT.out k hlt
   have hx:=(hb.cell (p:=⟨b,off+k,none⟩) hbl).trans (hc k hlt)
   have hmem:l[k]∈wordsOf l:=((HR.out.2 _).2 (List.getElem_mem hlt))
   have H1:=Lib.hid (search_strs (SliceOf.later HW.out hb) HR.out.1 (Nat.le_trans (wordsOf_length l) hl) hmem)
   obtain ⟨hs1,hs2⟩:=hO.fillCell HX.out HZ.out hlt
   have HP:=Lib.hid (show ((placesOf l).map (Value.int .i64))[k]? = some (.int .i64 (placeI (wordsOf l) l[k])) by unfold placesOf;rw [List.getElem?_map,List.getElem?_map,List.getElem?_eq_getElem hlt];rfl)
   have HO:=Lib.hid hO
   clear hc hO hmem
   obtain ⟨z0,hz0'⟩:∃ z,(zeroInts l.length)[k]'(by rw [HZ.out];exact hlt)=z:=⟨_,rfl⟩
   rw [hz0'] at hs1
   clear hz0'
   go_wp2_with fail
   refine H1.out.mono ?_
   rintro e w2 ⟨j,x,q,rfl,hj,hjl,rfl⟩
   have HJ:=Lib.hid hj
   have HO':=Lib.hid ((HO.out.drewN q).filled HX.out HZ.out hlt HP.out)
   rw [HJ.out] at HO'
   have hbb:=(below_drewN hb q)
   clear hj HO
   go_wp2
   go_roundw
   case rel=>exact ⟨k+1,by omega,by go_num,HO'.out,hbb.setCell (Nat.le_refl _) _⟩
   case measure=>simp [intOf];omega
  ·obtain rfl:k=l.length:=by omega
   have h2:=(hO.full HX.out HZ.out).slice
   go_wp2
   go_ret
   refine ⟨_,rfl,?_,hb⟩
   unfold IntsIn
   rw [HPL.out]
   exact h2
set_option maxHeartbeats 2000000 in
set_option maxRecDepth 100000 in
theorem dict_print_calls {w:World}{v:Value}{l:List ByteArray}(h:StrsIn w v l)(hlen:l.length≤4096)(hs:∀ c∈l,c.size≤1000000):GivesAt Tryz.prog 166 #[v] w (.string (dictB l)):=by
 obtain ⟨i0,hi,hz0,hz1,hz2⟩:=info_parts Tryz.info5
 have HW:=Lib.hid (dict_words_calls h (by omega))
 have HS:Hid (∀ c∈wordsOf l,c.size≤1000000):=fun c hc=>hs c (((wordsOf_spec l).2 c).1 hc)
 have hwl:=wordsOf_length l
 have HR:=Lib.hid (places_range l (by omega))
 have HPL:=Lib.hid (show (placesOf l).length≤4096 by unfold placesOf;rw [List.length_map];exact hlen)
 have HB:=Lib.hid (dictB_parts l)
 have hsb:=shelfB_most (placesOf l) HR.out
 have hpl:=HPL.out
 have HV:=Lib.hid h
 obtain ⟨A,cap,rfl,_⟩:=one_at h
 clear h hs
 unfold GivesAt
 go_enter Tryz.func166,Tryz.ntmps166
 go_wp2_with fail
 refine HW.out.mono ?_
 rintro e w1 ⟨v1,rfl,hO1,hb⟩
 have HV1:=Lib.hid (StrsIn.kept HV.out hb)
 have HW1:Hid (StrsIn w1 v1 (wordsOf l)):=hO1.slice
 have hB:=hb.size
 have hb0:=hb
 clear HW hO1 HV
 generalize hws:wordsOf l=ws at *
 have HWS:=Lib.hid hws
 clear hws
 obtain ⟨A1,cap1,rfl,hat⟩:=one_at HW1.out
 have HAT:=Lib.hid hat
 have hw:IntKind.u64.wrap (ws.length:Int)=(ws.length:Int):=wrap_lt _ (by omega)
 have p1:=Lib.hid (print_calls ws.length (by omega))
 have hz:(printB ws.length).size≤10:=by rw [print_len];exact vp_len_10 (by omega)
 clear hat
 go_wp2_with (first|(go_at_call 109;refine p1.out.stepB (w0:=w) (B:=w.heap.size) hb hB ?_;clear hb hB;intro w2 hb hB hq)|(refine wpList_bytes rfl _ 9 97 5 rfl Tryz.underlying9 Tryz.underlying97 Tryz.underlying5 (printB ws.length) rfl w1.heap.size hq.size ?cs ?_))
 case cs=>unfold maxLen;omega
 intro vb w3 hown hq2
 have hb13:=hq.trans (hq2.mono hq.size)
 have hown2:OwnB w3 w1.heap.size vb (vp ws.length++(ws.take 0).flatMap cellP):=by
  rw [List.take_zero,List.flatMap_nil,List.append_nil];exact hown
 have HBB:=Lib.hid hb0
 clear hown hb hB hq hq2 hw hb0
 go_wp2
 go_loopw [4,16] (fun v i wr=>∃ (k:Nat),k≤ws.length∧i=.int .i64 k∧OwnB wr w1.heap.size v (vp ws.length++(ws.take k).flatMap cellP)∧Below w1.heap.size w1 wr) (fun _ i _=>ws.length-(intOf i).toNat)
 case atStart=>exact ⟨0,Nat.zero_le _,rfl,hown2,hb13⟩
 case round =>
  clear hown2 hb13
  obtain ⟨k,hk,rfl,hown,hb1⟩:=hrel
  have hB:=hb1.size
  have hcz:=cells_size (ws.take k) (fun c hc=>HS.out c (List.mem_of_mem_take hc))
  rw [List.length_take] at hcz
  have hcz2:((ws.take k).flatMap cellP).length≤1000010*4096:=Nat.le_trans hcz (Nat.mul_le_mul_left _ (by omega))
  clear hcz
  have hlz:(vp ws.length++(ws.take k).flatMap cellP).length≤1000010*4097:=by rw [List.length_append];rw [print_len] at hz;omega
  by_cases hlt:k < ws.length
  ·obtain ⟨b,off,rfl,hbl,hc⟩:=HAT.out k hlt
   have hx:=(hb1.cell (p:=⟨b,off+k,none⟩) hbl).trans (hc k hlt)
   have HT:=Lib.hid (show vp ws.length++(ws.take (k+1)).flatMap cellP=(vp ws.length++(ws.take k).flatMap cellP)++(mkB (cellP ws[k])).data.toList by rw [cells_take ws k hlt,List.append_assoc])
   have hr1:=HS.out _ (List.getElem_mem hlt)
   have p2:=Lib.hid (runs_cell_calls ws[k] (by omega))
   have z1:(mkB (cellP ws[k])).size≤1000010:=by rw [mkB_size];have:=(cellP_length ws[k]).resolve_right (by omega);omega
   clear hc hcz2
   generalize hL:vp ws.length++(ws.take k).flatMap cellP=L at *
   clear hL
   obtain ⟨_,_,rfl⟩:=hown.len
   go_wp2_with (first|(go_at_call 165;refine p2.out.stepB (w0:=wr) (B:=wr.heap.size) (.refl _ _) (Nat.le_refl _) ?_;intro w5 _ _ hq;replace hown:=hown.later hq;replace hb1:=hb1.trans (hq.mono hB);replace hB:=Nat.le_trans hB hq.size;clear hx hq)|(at_builtin;refine wpList_append_Own_string rfl _ _ 97 9 rfl 5 i0 Tryz.underlying97 Tryz.underlying9 hi hz0 hz1 hz2 _ _ rfl hown (mkB (cellP ws[k])) rfl ?c1 hB ?_))
   case c1=>omega
   intro v6 w6 hown6 hg6
   have hown7:OwnB w6 w1.heap.size v6 (vp ws.length++(ws.take (k+1)).flatMap cellP):=by rw [HT.out];exact hown6
   have hb6:=hb1.grown hg6 hB (fun k hk=>(hown.lt k hk).1)
   clear hown hown6 hg6 hb1 hB
   go_wp2
   go_roundw
   case rel=>exact ⟨k+1,by omega,by go_num,hown7,hb6⟩
   case measure=>simp [intOf];omega
  ·obtain rfl:k=ws.length:=by omega
   rw [List.take_length] at hown hlz
   generalize hL:vp ws.length++ws.flatMap cellP=L at *
   clear hL hcz2
   have HO:=Lib.hid hown
   have hconv:=run_string_own hown 97 9 5 Tryz.underlying97 Tryz.underlying5 Tryz.underlying9
   have hconvd:=run_string_own hown.drew 97 9 5 Tryz.underlying97 Tryz.underlying5 Tryz.underlying9
   have hV2:StrsIn wr (.slice A l.length cap) l:=StrsIn.kept HV1.out hb1
   have hW2:StrsIn wr (.slice A1 ws.length cap1) (wordsOf l):=by rw [HWS.out];exact StrsIn.kept HW1.out hb1
   have HPl:Hid (Calls Tryz.prog 182 #[.slice A1 ws.length cap1,.slice A l.length cap] wr.drew fun e w'=>∃ v',e=.returned v'∧IntsIn w' v' (placesOf l)∧Below wr.heap.size wr w') :=
    (dict_places_calls (w:=wr.drew) hW2 hV2 (by omega)).mono fun _ _ ⟨v',h1,h2,h3⟩=>⟨v',h1,h2,⟨h3.os,h3.tape,h3.output,h3.size,h3.block⟩⟩
   clear hV2 hW2
   obtain ⟨_,_,rfl⟩:=hown.len
   clear hown
   go_wp2_with fail
   have hov:¬(9223372036854775807 < L.length+(shelfB (placesOf l)).size):=by omega
   have hov2:¬(9223372036854775807 < (⟨L.toArray⟩:ByteArray).size+(shelfB (placesOf l)).size):=by have:(⟨L.toArray⟩:ByteArray).size=L.length:=List.size_toArray;omega
   go_region_with (first|(go_at_call 182;refine HPl.out.mono ?_;rintro e w2 ⟨v2,rfl,hi2,hq2⟩;have hc2:=run_string_own (HO.out.later hq2) 97 9 5 Tryz.underlying97 Tryz.underlying5 Tryz.underlying9)|(go_at_call 83;refine (shelf_print_calls hi2 HR.out HPL.out).step (w0:=wr) (B:=wr.heap.size) hq2 hq2.size ?_;intro w3 hq3 _;have hc3:=run_string_own (HO.out.later hq3) 97 9 5 Tryz.underlying97 Tryz.underlying5 Tryz.underlying9))
   all_goals
    go_wp2
    go_ret
    exact ⟨ret_str HB.out,HBB.out.trans ((hb1.mono HBB.out.size).trans (hq3.mono (Nat.le_trans HBB.out.size hb1.size)))⟩
end Go.Proofs.YtafmbnafibahkaaGreat
