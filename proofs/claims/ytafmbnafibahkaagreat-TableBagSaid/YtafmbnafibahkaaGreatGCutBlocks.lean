/- The contracts of the answer's first and home of layer 13. -/
import Derived.Test.YtafmbnafibahkaaGreatGBlocks
import Derived.Test.YtafmbnafibahkaaGreatGCutRef
import Derived.Test.YtafmbnafibahkaaGreatGBlockRef
import Derived.Test.YtafmbnafibahkaaGreatGWeighFns
import Derived.Test.YtafmbnafibahkaaGreatGBlockOwn
namespace Go.Proofs.YtafmbnafibahkaaGreat
open Go Go.RowKit
def GoodP (p:List Tm)(cols:List (Int×Bool)):Prop:=goodB p=true∧RowsK p cols.length∧(∀ c (h:c < cols.length),kindL (downL p c) cols[c].1 cols[c].2=true)∧p.length≤4096∧InR (p.map Prod.snd)
theorem good_of {p:List Tm}(h0:p≠[])(h:RightP p)(h1:∀ t∈p,1≤t.2):goodB p=true:=by
 have hl:0 < p.length:=List.length_pos_iff.2 h0
 have hm:1≤leastI (p.map Prod.snd):=by
  have:=leastI_mem (p.map Prod.snd) (by intro e;rw [List.map_eq_nil_iff] at e;exact h0 e)
  obtain ⟨t,ht,e⟩:=List.mem_map.1 this
  rw [←e];exact h1 t ht
 rw [good_right hl hm]
 exact decide_eq_true h
theorem take_flatten (P:List (List Tm))(k:Nat)(h:k < P.length):(P.take (k+1)).flatten=(P.take k).flatten++P[k]:=by rw [take_add P k h,List.flatten_append,List.flatten_cons,List.flatten_nil,List.append_nil]
theorem flatten_at (P:List (List Tm))(k:Nat)(h:k < P.length):P.flatten=(P.take k).flatten++P[k]++(P.drop (k+1)).flatten:=by
 have e:P=P.take k++(P[k]::P.drop (k+1)):=by rw [←List.drop_eq_getElem_cons h,List.take_append_drop]
 have:=congrArg List.flatten e
 rw [List.flatten_append,List.flatten_cons] at this
 rw [List.append_assoc];exact this
section
variable {w w':World}{B:Nat}{v v':Value}{tv tv2:List (Value×Int)}{l m:List Tm}
theorem TimesOwn.adds (h:TimesOwn w B v tv l)(hr:RowsOf w tv2 m)(ho:RowsOff v tv2)(hg:w.grownBy w' v.ownBlock)(hv:∀ k,v'.ownBlock=some k→v.ownBlock=some k∨w.heap.size≤k)(hO:Own w' B 2 v' (l.length+m.length) (timesV tv++timesV tv2)) :
  TimesOwn w' B v' (tv++tv2) (l++m):=by
 refine ⟨?_,(h.rows.offs hg h.off).append (hr.offs hg ho),fun t ht=>?_⟩
 ·rw [timesV_append,List.length_append];exact hO
 ·rcases List.mem_append.1 ht with ht|ht
  ·obtain ⟨x,_,hx,_⟩:=h.rows.mem t ht
   exact (h.off t ht).turned hx hv
  ·obtain ⟨x,_,hx,_⟩:=hr.mem t ht
   exact (ho t ht).turned hx hv
end
structure BlksOwn (w:World) (B:Nat) (v:Value) (tv:List (Value×Blk)):Prop where
 own:Own w B 3 v tv.length (blksV tv)
 cols:∀ t∈tv,StrsIn w t.1 t.2.2.1
 off:∀ t∈tv,RowOff v t.1
theorem lit_blk (w:World)(T:TypeId)(t:Value×Blk):SliceOf (w.alloc (.cells #[.int .i64 t.2.1,t.1,.string t.2.2.2] T)) 3 (.slice (some ⟨w.heap.size,0,none⟩) 1 1) 1 (blkC t) :=
 (Own.lit (B:=0) (size:=3) w #[.int .i64 t.2.1,t.1,.string t.2.2.2] T 1 (Nat.zero_le _) (by unfold maxLen;omega) rfl).slice
theorem one_blk {w:World}{t:Value×Blk}(h:StrsIn w t.1 t.2.2.1):∀ u∈blkC t,u.oneCell'=true:=by
 intro u hu
 unfold blkC at hu
 simp only [List.mem_cons,List.not_mem_nil,or_false] at hu
 rcases hu with rfl|rfl|rfl
 ·rfl
 ·obtain ⟨A,c,e,_⟩:=h.at_
  rw [e];rfl
 ·rfl
section
variable {w w':World}{B:Nat}{v v':Value}{tv:List (Value×Blk)}
theorem BlksOwn.nil_ (w:World)(B:Nat):BlksOwn w B (.slice none 0 0) []:=⟨Own.nil_ _ _ _,fun _ h=>absurd h (by simp),fun _ h=>absurd h (by simp)⟩
theorem BlksOwn.later (h:BlksOwn w B v tv)(hb:Below w.heap.size w w'):BlksOwn w' B v tv:=⟨h.own.later hb,fun t ht=>StrsIn.kept (h.cols t ht) hb,h.off⟩
theorem BlksOwn.blks (h:BlksOwn w B v tv):BlksIn w v (tv.map Prod.snd):=⟨tv,rfl,by rw [List.length_map];exact h.own.slice,h.cols⟩
theorem BlksOwn.add (h:BlksOwn w B v tv){t:Value×Blk}(hs:StrsIn w t.1 t.2.2.1)(ho:RowOff v t.1)(hg:w.grownBy w' v.ownBlock)(hv:∀ k,v'.ownBlock=some k→v.ownBlock=some k∨w.heap.size≤k)(hO:Own w' B 3 v' (tv.length+1) (blksV tv++blkC t)) :
  BlksOwn w' B v' (tv++[t]):=by
 refine ⟨?_,fun u hu=>?_,fun u hu=>?_⟩
 ·rw [List.length_append,blksV_append]
  have e:blksV [t]=blkC t:=by simp [blksV]
  rw [e];exact hO
 ·rcases List.mem_append.1 hu with hu|hu
  ·exact StrsIn.off (h.cols u hu) (h.off u hu) hg
  ·rw [List.mem_singleton.1 hu];exact StrsIn.off hs ho hg
 ·rcases List.mem_append.1 hu with hu|hu
  ·exact (h.off u hu).turned (h.cols u hu) hv
  ·rw [List.mem_singleton.1 hu];exact ho.turned hs hv
end
theorem Tryz.infoCc72:(Tryz.prog.info? 72).map (fun i=>(i.zero,i.size,i.bytes))=some (some (.agg #[.int .i64 0,.slice none 0 0,.string ⟨#[]⟩]),3,48):=by kernel_rfl
def blksL (P:List (List Tm))(K:Nat):List Blk:=P.map fun p=>blockOf p K
theorem blksL_snoc (P:List (List Tm))(K k:Nat)(h:k < P.length):blksL (P.take (k+1)) K=blksL (P.take k) K++[blockOf P[k] K]:=by
 unfold blksL
 rw [take_add P k h,List.map_append];rfl
theorem piece_mem {l:List Tm}{p:List Tm}(h:p∈cutL l){t:Tm}(ht:t∈p):t∈l:=by
 rw [←cutL_flatten l]
 exact List.mem_flatten_of_mem h ht
theorem piece_small {l:List Tm}{p:List Tm}(h:p∈cutL l):p.length≤l.length:=by
 have:=piece_le h
 rwa [cutL_flatten] at this
theorem piece_inr {l:List Tm}{p:List Tm}(h:p∈cutL l)(hr:InR (l.map Prod.snd)):InR (p.map Prod.snd):=fun n hn=>by
 obtain ⟨t,ht,rfl⟩:=List.mem_map.1 hn
 exact hr _ (List.mem_map_of_mem (piece_mem h ht))
def BlocksEnd (w:World)(b:List Blk)(e:Ending)(w':World):Prop:=∃ v,e=.returned v∧BlksIn w' v b∧Below w.heap.size w w'
def BlocksNew (w:World)(b:List Blk)(e:Ending)(w':World):Prop :=
 ∃ v tv,e=.returned v∧tv.map Prod.snd=b∧SliceOf w' 3 v b.length (blksV tv)∧(∀ t∈tv,StrsIn w' t.1 t.2.2.1)∧(∀ t∈tv,Fresh w.heap.size t.1)∧Fresh w.heap.size v∧Below w.heap.size w w'
set_option maxHeartbeats 2000000 in
set_option maxRecDepth 100000 in
theorem ref_blocks_new {w:World}{v:Value}{l:List Tm}(h:TimesIn w v l)(K:Nat)(hK:∀ t∈l,K≤t.1.length∧∀ c∈t.1,c.size≤1000000)(hKb:K≤1000000)(hl:l.length≤4096)(hr:InR (l.map Prod.snd)) :
  Calls Tryz.prog 27 #[v,.int .i64 K] w (BlocksNew w (blksL (cutL l) K)):=by
 obtain ⟨b0,hi,bz0,bz1,bz2⟩:=info_parts Tryz.infoCc72
 obtain ⟨hb,hB⟩:=start w
 have HCUT:=Lib.hid (ref_cut_calls h (by omega) (fun t ht c hc=>(hK t ht).2 c hc))
 obtain ⟨tvl,A,cap,rfl,_,_⟩:=times_at h
 have HOF:Hid (∀ p∈cutL l,∀ w' v',TimesIn w' v' p→Calls Tryz.prog 49 #[v',.int .i64 K] w' (OfNew w' p K)):=fun p hp w' v' hv =>
  ref_block_of_new hv K (fun t ht=>hK t (piece_mem hp ht)) hKb (Nat.le_trans (piece_small hp) hl) (piece_inr hp hr)
 have hPL:(cutL l).length≤4096:=Nat.le_trans (cutL_length_le l) hl
 clear h hK hr
 generalize cutL l=P at *
 unfold BlocksNew
 go_enter Tryz.func27,Tryz.ntmps27
 go_wp2_with fail
 refine HCUT.out.mono ?_
 rintro e w1 ⟨v1,rfl,hP,hq⟩
 obtain ⟨A1,p1,rfl,hat⟩:=pieces_at hP
 have HAT:=Lib.hid hat
 replace hb:=hb.trans (hq.mono hB)
 have HB:=Lib.hid hb
 have HWS:=Lib.hid hq.size
 clear hP hat hq HCUT hb hB
 go_wp2_with fail
 go_loopw [5,7] (fun x i wr=>∃ k:Nat,k≤P.length∧i=.int .i64 k∧(∃ tv,BlksOwn wr w1.heap.size x tv∧Hid (tv.map Prod.snd=blksL (P.take k) K)∧Hid (∀ t∈tv,Fresh w.heap.size t.1))∧Below w1.heap.size w1 wr) (fun _ i _=>P.length-(intOf i).toNat)
 case atStart=>exact ⟨0,Nat.zero_le _,rfl,⟨[],BlksOwn.nil_ _ _,rfl,fun _ h=>absurd h (by simp)⟩,.refl _ _⟩
 case round =>
  obtain ⟨k,hk,rfl,⟨tv,hO,HE,HFT⟩,hb⟩:=hrel
  have hB:=hb.size
  by_cases hlt:k < P.length
  ·obtain ⟨b,off,rfl,hbl,hc⟩:=HAT.out k hlt
   obtain ⟨pv,hpv,c1⟩:=hc k hlt
   have x1:=(hb.cell (p:=⟨b,off+k,none⟩) hbl).trans c1
   have HO:=Lib.hid (HOF.out P[k] (List.getElem_mem hlt) wr pv (hpv.kept hb))
   have HNX:=Lib.hid (blksL_snoc P K k hlt)
   have hlen:tv.length=k:=by
    have:=congrArg List.length HE.out
    rw [List.length_map] at this
    rw [this];unfold blksL;rw [List.length_map,List.length_take];omega
   have HLEN:=Lib.hid hlen
   have HOWN:=Lib.hid hO
   obtain ⟨A9,p9,rfl⟩:=hO.own.len
   obtain ⟨tvp,Ap,pp,rfl,_,_⟩:=times_at hpv
   clear c1 hc hpv hO
   generalize P[k]=p at *
   clear hlen
   go_wp2_with fail
   refine HO.out.mono ?_
   rintro e w3 ⟨cv,rfl,hcs,hfr,hq⟩
   obtain ⟨Ac,pc,rfl,hone⟩:=one_at hcs
   clear hone
   have hO3:=HOWN.out.later hq
   have hb3:=hb.trans (hq.mono hB)
   have hqa:Below w3.heap.size w3 (w3.alloc (.cells #[.int .i64 (blockOf p K).1,.slice Ac (colsT p K).length pc,.string (blockOf p K).2.2] 72)):=Below.alloc (.refl _ _) (Nat.le_refl _) _
   have HO4:=Lib.hid (hO3.later hqa)
   have HB4:=Lib.hid (hb3.trans (hqa.mono hb3.size))
   have HS4:Hid (StrsIn (w3.alloc (.cells #[.int .i64 (blockOf p K).1,.slice Ac (colsT p K).length pc,.string (blockOf p K).2.2] 72)) (.slice Ac (colsT p K).length pc) (blockOf p K).2.1):=StrsIn.kept hcs hqa
   have HLIT:=Lib.hid (lit_blk w3 72 (.slice Ac (colsT p K).length pc,blockOf p K))
   have HONE:=Lib.hid (one_blk (w:=w3) (t:=(.slice Ac (colsT p K).length pc,blockOf p K)) hcs)
   have HOFF:=Lib.hid (RowOff.of_fresh (v:=.slice A9 tv.length p9) hfr (fun j hj=>(HOWN.out.own.lt j hj).2))
   have HFW:Hid (Fresh w.heap.size (.slice Ac (colsT p K).length pc)):=hfr.mono (by have:=HWS.out;omega)
   clear hcs hfr hq hO3 hb3 hqa HOWN x1 hb hB
   unfold blkC at HLIT HONE
   unfold blkA
   dsimp only at HLIT HONE ⊢
   generalize (colsT p K).length=cl at *
   generalize blockOf p K=bk at *
   obtain ⟨bn,bc,bs⟩:=bk
   dsimp only at *
   go_wp2_with (at_builtin;refine wpList_append_src rfl (.tmp 16) (.tmp 23) 25 rfl 72 b0 (.agg #[.int .i64 0,.slice none 0 0,.string ⟨#[]⟩]) 3 48 Tryz.underlying25 hi bz0 bz1 bz2 rfl (by decide) (B:=w1.heap.size) (.slice A9 tv.length p9) tv.length (blksV tv) rfl HO4.out.own (.slice (some ⟨w3.heap.size,0,none⟩) 1 1) 1 [.int .i64 bn,.slice Ac cl pc,.string bs] rfl HLIT.out HONE.out (by unfold maxLen;have:=HLEN.out;omega) (by have:=HLEN.out;omega) HB4.out.size ?_)
   intro v7 w7 hO7 hg7 ha7
   have HN:=Lib.hid (HO4.out.add (t:=(.slice Ac cl pc,(bn,bc,bs))) HS4.out HOFF.out hg7 (by simpa using ha7) hO7)
   have hbn:=HB4.out.grown hg7 HB4.out.size (fun q hq=>(HO4.out.own.lt q hq).1)
   have HE2:Hid ((tv++[(Value.slice Ac cl pc,(bn,bc,bs))]).map Prod.snd=blksL (P.take (k+1)) K):=by
    show _=_
    rw [HNX.out,List.map_append,HE.out];rfl
   have HFT2:Hid (∀ t∈tv++[(Value.slice Ac cl pc,(bn,bc,bs))],Fresh w.heap.size t.1):=fun t ht=>by
    rcases List.mem_append.1 ht with ht|ht
    ·exact HFT.out t ht
    ·rw [List.mem_singleton.1 ht];exact HFW.out
   clear hO7 hg7 ha7 HO4 HLIT HONE HOFF HS4 HB4
   go_wp2
   go_roundw
   case rel=>exact ⟨k+1,by omega,by go_num,⟨_,HN.out,HE2,HFT2⟩,hbn⟩
   case measure=>simp [intOf];omega
  ·obtain rfl:k=P.length:=by omega
   rw [List.take_length] at HE
   have hlen:tv.length=(blksL P K).length:=by rw [←HE.out,List.length_map]
   have HOW:=Lib.hid hO
   have HCO:=Lib.hid hO.cols
   have hbe:=HB.out.trans (hb.mono HB.out.size)
   have HLEN:=Lib.hid hlen
   clear hO hlen
   go_wp2
   go_ret
   exact ⟨_,tv,rfl,HE.out,HLEN.out▸HOW.out.own.slice,HCO.out,HFT.out,fun q hq=>Nat.le_trans HWS.out (HOW.out.own.lt q hq).1,hbe⟩
theorem ref_blocks_calls {w:World}{v:Value}{l:List Tm}(h:TimesIn w v l)(K:Nat)(hK:∀ t∈l,K≤t.1.length∧∀ c∈t.1,c.size≤1000000)(hKb:K≤1000000)(hl:l.length≤4096)(hr:InR (l.map Prod.snd)) :
  Calls Tryz.prog 27 #[v,.int .i64 K] w (BlocksEnd w (blksL (cutL l) K)) :=
 (ref_blocks_new h K hK hKb hl hr).mono fun _ _ ⟨v,tv,he,h1,h2,h3,_,_,hb⟩=>⟨v,he,⟨tv,h1,h2,h3⟩,hb⟩
def AllEnd (w:World)(P:List (List Tm))(e:Ending)(w':World):Prop :=
 ∃ v,e=.returned (.tuple #[v,.int .i64 (if rightW P.flatten=true then 0 else 2)])∧TimesIn w' v (if rightW P.flatten=true then P.flatten else [])∧Below w.heap.size w w'
theorem all_no {w w':World}{P:List (List Tm)}(h:rightW P.flatten=false)(hb:Below w.heap.size w w'):AllEnd w P (.returned (.tuple #[.slice none 0 0,.int .i64 2])) w':=by
 refine ⟨.slice none 0 0,?_,?_,hb⟩
 ·rw [h];rfl
 ·rw [h];exact TimesIn.nil_ _ _ _
theorem all_yes {w w':World}{P:List (List Tm)}{v:Value}(h:rightW P.flatten=true)(hv:TimesIn w' v P.flatten)(hb:Below w.heap.size w w'):AllEnd w P (.returned (.tuple #[v,.int .i64 0])) w':=by
 refine ⟨v,?_,?_,hb⟩
 ·rw [h];rfl
 ·rw [h];exact hv
theorem blksL_length (P:List (List Tm))(K:Nat):(blksL P K).length=P.length:=List.length_map _
theorem blksL_get (P:List (List Tm))(K k:Nat)(h:k < (blksL P K).length):(blksL P K)[k]=blockOf (P[k]'(by rw [blksL_length] at h;exact h)) K:=by simp [blksL]
theorem blksL_at {w:World}{v:Value}{P:List (List Tm)}{K:Nat}(h:BlksIn w v (blksL P K)):∃ A cap,v=.slice A P.length cap ∧
  (∀ k (hk:k < P.length),∃ b off,A=some ⟨b,off,none⟩∧b < w.heap.size∧∃ rv,StrsIn w rv (colsT P[k] K)∧w.cell? ⟨b,off+k*3,none⟩=some (.int .i64 P[k].length)∧w.cell? ⟨b,off+k*3+1,none⟩=some rv ∧
   w.cell? ⟨b,off+k*3+2,none⟩=some (.string (shelfB (P[k].map Prod.snd)))):=by
 obtain ⟨A,cap,e,hat⟩:=blks_at h
 rw [blksL_length] at e
 refine ⟨A,cap,e,fun k hk=>?_⟩
 have hk2:k < (blksL P K).length:=by rw [blksL_length];exact hk
 obtain ⟨b,off,ea,hb,hc⟩:=hat k hk2
 obtain ⟨rv,h1,h2,h3,h4⟩:=hc k hk2
 simp only [blksL_get P K k hk2] at h1 h2 h3 h4
 exact ⟨b,off,ea,hb,rv,h1,h2,h3,h4⟩
def headR (p:List Tm):List ByteArray:=rowAt p 0
def homeTo (P:List (List Tm))(r:List ByteArray):Nat→Nat
 | 0=>0
 | i+1=>if 1≤i∧cmpL (headR (P.getD i [])) r≤0 then i else homeTo P r i
theorem homeTo_le (P:List (List Tm))(r:List ByteArray):∀ n,homeTo P r n≤n
 | 0=>Nat.le_refl _
 | n+1=>by
  unfold homeTo
  split
  ·omega
  ·have:=homeTo_le P r n;omega
theorem homeTo_lt (P:List (List Tm))(r:List ByteArray):∀ n,0 < n→homeTo P r n < n
 | 0,h=>absurd h (by omega)
 | n+1,_=>by
  unfold homeTo
  split
  ·omega
  ·have:=homeTo_le P r n;omega
end Go.Proofs.YtafmbnafibahkaaGreat
