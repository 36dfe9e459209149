/- The contracts of the answer's first and home of layer 13. -/
import Derived.Test.YtafmbnafibahkaaGreatGBlocks
import Derived.Test.YtafmbnafibahkaaGreatGCutRef
import Derived.Test.YtafmbnafibahkaaGreatGBlockRef
import Derived.Test.YtafmbnafibahkaaGreatGWeighFns
import Derived.Test.YtafmbnafibahkaaGreatGBlockOwn
namespace Go.Proofs.YtafmbnafibahkaaGreat
open Go Go.RowKit
def GoodP (p:List Tm)(cols:List (Int×Bool)):Prop:=goodB p=true∧RowsK p cols.length∧(∀ c (h:c < cols.length),kindL (downL p c) cols[c].1 cols[c].2=true)∧p.length≤4096∧InR (p.map Prod.snd)
theorem good_len {p:List Tm}(h:goodB p=true):0 < p.length:=by
 unfold goodB at h
 rw [Bool.and_eq_true,decide_eq_true_eq] at h
 exact h.1
theorem good_rightP {p:List Tm}(h:goodB p=true):RightP p:=by
 have h0:=good_len h
 by_cases hl:leastI (p.map Prod.snd) < 1
 ·rw [good_small h0 hl] at h;exact absurd h (by decide)
 ·rw [good_right h0 (by omega)] at h
  exact of_decide_eq_true h
theorem good_of {p:List Tm}(h0:p≠[])(h:RightP p)(h1:∀ t∈p,1≤t.2):goodB p=true:=by
 have hl:0 < p.length:=List.length_pos_iff.2 h0
 have hm:1≤leastI (p.map Prod.snd):=by
  have:=leastI_mem (p.map Prod.snd) (by intro e;rw [List.map_eq_nil_iff] at e;exact h0 e)
  obtain ⟨t,ht,e⟩:=List.mem_map.1 this
  rw [←e];exact h1 t ht
 rw [good_right hl hm]
 exact decide_eq_true h
theorem cmp_first {a b:List Tm}(ha:RightP a)(hb:RightP b)(h1:0 < a.length)(h2:0 < b.length)(h:cmpL (a[a.length-1]).1 (b[0]).1 = -1):∀ x∈a,∀ y∈b,cmpL x.1 y.1 = -1:=by
 intro x hx y hy
 obtain ⟨i,hi,rfl⟩:=List.mem_iff_getElem.1 hx
 obtain ⟨j,hj,rfl⟩:=List.mem_iff_getElem.1 hy
 have e1:cmpL (a[i]).1 (b[0]).1 = -1:=by
  by_cases e:i=a.length-1
  ·subst e;exact h
  ·exact cmpL_chain _ _ _ (List.pairwise_iff_getElem.1 ha.1 i (a.length-1) hi (by omega) (by omega)) h
 by_cases e:j=0
 ·subst e;exact e1
 ·exact cmpL_chain _ _ _ e1 (List.pairwise_iff_getElem.1 hb.1 0 j h2 hj (by omega))
theorem right_glue {a b:List Tm}(ha:RightP a)(hb:RightP b)(h:∀ (h1:0 < a.length)(h2:0 < b.length),cmpL (a[a.length-1]).1 (b[0]).1 = -1):RightP (a++b):=by
 refine ⟨List.pairwise_append.2 ⟨ha.1,hb.1,fun x hx y hy=>?_⟩,fun t ht=>(List.mem_append.1 ht).elim (ha.2 t) (hb.2 t)⟩
 have h1:0 < a.length:=List.length_pos_of_mem hx
 have h2:0 < b.length:=List.length_pos_of_mem hy
 exact cmp_first ha hb h1 h2 (h h1 h2) x hx y hy
theorem right_unglue {a b c:List Tm}(h1:0 < a.length)(h2:0 < b.length)(h:¬cmpL (a[a.length-1]).1 (b[0]).1 = -1):rightW (a++b++c)=false:=by
 have hlt:a.length-1+1 < (a++b++c).length:=by simp;omega
 refine right_order hlt ?_
 have e1:(a++b++c)[a.length-1]'(by omega)=a[a.length-1]:=by rw [List.getElem_append_left (by simp;omega),List.getElem_append_left (by omega)]
 have e2:(a++b++c)[a.length-1+1]'hlt=b[0]:=by
  have e3:a.length-1+1=a.length:=by omega
  simp only [e3]
  rw [List.getElem_append_left (by simp;omega),List.getElem_append_right (Nat.le_refl _)]
  simp
 rw [e1,e2];exact h
theorem take_flatten (P:List (List Tm))(k:Nat)(h:k < P.length):(P.take (k+1)).flatten=(P.take k).flatten++P[k]:=by rw [take_add P k h,List.flatten_append,List.flatten_cons,List.flatten_nil,List.append_nil]
theorem flatten_at (P:List (List Tm))(k:Nat)(h:k < P.length):P.flatten=(P.take k).flatten++P[k]++(P.drop (k+1)).flatten:=by
 have e:P=P.take k++(P[k]::P.drop (k+1)):=by rw [←List.drop_eq_getElem_cons h,List.take_append_drop]
 have:=congrArg List.flatten e
 rw [List.flatten_append,List.flatten_cons] at this
 rw [List.append_assoc];exact this
section
variable {w w':World}{B:Nat}{v v':Value}{tv tv2:List (Value×Int)}{l m:List Tm}
theorem TimesOwn.adds (h:TimesOwn w B v tv l)(hr:RowsOf w tv2 m)(ho:RowsOff v tv2)(hg:w.grownBy w' v.ownBlock)(hv:∀ k,v'.ownBlock=some k→v.ownBlock=some k∨w.heap.size≤k)(hO:Own w' B 2 v' (l.length+m.length) (timesV tv++timesV tv2)) :
  TimesOwn w' B v' (tv++tv2) (l++m):=by
 refine ⟨?_,(h.rows.offs hg h.off).append (hr.offs hg ho),fun t ht=>?_⟩
 ·rw [timesV_append,List.length_append];exact hO
 ·rcases List.mem_append.1 ht with ht|ht
  ·obtain ⟨x,_,hx,_⟩:=h.rows.mem t ht
   exact (h.off t ht).turned hx hv
  ·obtain ⟨x,_,hx,_⟩:=hr.mem t ht
   exact (ho t ht).turned hx hv
end
structure BlksOwn (w:World) (B:Nat) (v:Value) (tv:List (Value×Blk)):Prop where
 own:Own w B 3 v tv.length (blksV tv)
 cols:∀ t∈tv,StrsIn w t.1 t.2.2.1
 off:∀ t∈tv,RowOff v t.1
theorem lit_blk (w:World)(T:TypeId)(t:Value×Blk):SliceOf (w.alloc (.cells #[.int .i64 t.2.1,t.1,.string t.2.2.2] T)) 3 (.slice (some ⟨w.heap.size,0,none⟩) 1 1) 1 (blkC t) :=
 (Own.lit (B:=0) (size:=3) w #[.int .i64 t.2.1,t.1,.string t.2.2.2] T 1 (Nat.zero_le _) (by unfold maxLen;omega) rfl).slice
theorem one_blk {w:World}{t:Value×Blk}(h:StrsIn w t.1 t.2.2.1):∀ u∈blkC t,u.oneCell'=true:=by
 intro u hu
 unfold blkC at hu
 simp only [List.mem_cons,List.not_mem_nil,or_false] at hu
 rcases hu with rfl|rfl|rfl
 ·rfl
 ·obtain ⟨A,c,e,_⟩:=h.at_
  rw [e];rfl
 ·rfl
section
variable {w w':World}{B:Nat}{v v':Value}{tv:List (Value×Blk)}
theorem BlksOwn.nil_ (w:World)(B:Nat):BlksOwn w B (.slice none 0 0) []:=⟨Own.nil_ _ _ _,fun _ h=>absurd h (by simp),fun _ h=>absurd h (by simp)⟩
theorem BlksOwn.later (h:BlksOwn w B v tv)(hb:Below w.heap.size w w'):BlksOwn w' B v tv:=⟨h.own.later hb,fun t ht=>StrsIn.kept (h.cols t ht) hb,h.off⟩
theorem BlksOwn.add (h:BlksOwn w B v tv){t:Value×Blk}(hs:StrsIn w t.1 t.2.2.1)(ho:RowOff v t.1)(hg:w.grownBy w' v.ownBlock)(hv:∀ k,v'.ownBlock=some k→v.ownBlock=some k∨w.heap.size≤k)(hO:Own w' B 3 v' (tv.length+1) (blksV tv++blkC t)) :
  BlksOwn w' B v' (tv++[t]):=by
 refine ⟨?_,fun u hu=>?_,fun u hu=>?_⟩
 ·rw [List.length_append,blksV_append]
  have e:blksV [t]=blkC t:=by simp [blksV]
  rw [e];exact hO
 ·rcases List.mem_append.1 hu with hu|hu
  ·exact StrsIn.off (h.cols u hu) (h.off u hu) hg
  ·rw [List.mem_singleton.1 hu];exact StrsIn.off hs ho hg
 ·rcases List.mem_append.1 hu with hu|hu
  ·exact (h.off u hu).turned (h.cols u hu) hv
  ·rw [List.mem_singleton.1 hu];exact ho.turned hs hv
end
theorem Tryz.infoCc72:(Tryz.prog.info? 72).map (fun i=>(i.zero,i.size,i.bytes))=some (some (.agg #[.int .i64 0,.slice none 0 0,.string ⟨#[]⟩]),3,48):=by kernel_rfl
def blksL (P:List (List Tm))(K:Nat):List Blk:=P.map fun p=>blockOf p K
theorem blksL_snoc (P:List (List Tm))(K k:Nat)(h:k < P.length):blksL (P.take (k+1)) K=blksL (P.take k) K++[blockOf P[k] K]:=by
 unfold blksL
 rw [take_add P k h,List.map_append];rfl
theorem piece_mem {l:List Tm}{p:List Tm}(h:p∈cutL l){t:Tm}(ht:t∈p):t∈l:=by
 rw [←cutL_flatten l]
 exact List.mem_flatten_of_mem h ht
theorem piece_small {l:List Tm}{p:List Tm}(h:p∈cutL l):p.length≤l.length:=by
 have:=piece_le h
 rwa [cutL_flatten] at this
theorem piece_inr {l:List Tm}{p:List Tm}(h:p∈cutL l)(hr:InR (l.map Prod.snd)):InR (p.map Prod.snd):=fun n hn=>by
 obtain ⟨t,ht,rfl⟩:=List.mem_map.1 hn
 exact hr _ (List.mem_map_of_mem (piece_mem h ht))
def BlocksEnd (w:World)(b:List Blk)(e:Ending)(w':World):Prop:=∃ v,e=.returned v∧BlksIn w' v b∧Below w.heap.size w w'
def BlocksNew (w:World)(b:List Blk)(e:Ending)(w':World):Prop :=
 ∃ v tv,e=.returned v∧tv.map Prod.snd=b∧SliceOf w' 3 v b.length (blksV tv)∧(∀ t∈tv,StrsIn w' t.1 t.2.2.1)∧(∀ t∈tv,Fresh w.heap.size t.1)∧Fresh w.heap.size v∧Below w.heap.size w w'
set_option maxHeartbeats 2000000 in
set_option maxRecDepth 100000 in
theorem ref_blocks_new {w:World}{v:Value}{l:List Tm}(h:TimesIn w v l)(K:Nat)(hK:∀ t∈l,K≤t.1.length∧∀ c∈t.1,c.size≤1000000)(hKb:K≤1000000)(hl:l.length≤4096)(hr:InR (l.map Prod.snd)) :
  Calls Tryz.prog 27 #[v,.int .i64 K] w (BlocksNew w (blksL (cutL l) K)):=by
 obtain ⟨b0,hi,bz0,bz1,bz2⟩:=info_parts Tryz.infoCc72
 obtain ⟨hb,hB⟩:=start w
 have HCUT:=Lib.hid (ref_cut_calls h (by omega) (fun t ht c hc=>(hK t ht).2 c hc))
 obtain ⟨tvl,A,cap,rfl,_,_⟩:=times_at h
 have HOF:Hid (∀ p∈cutL l,∀ w' v',TimesIn w' v' p→Calls Tryz.prog 49 #[v',.int .i64 K] w' (OfNew w' p K)):=fun p hp w' v' hv =>
  ref_block_of_new hv K (fun t ht=>hK t (piece_mem hp ht)) hKb (Nat.le_trans (piece_small hp) hl) (piece_inr hp hr)
 have hPL:(cutL l).length≤4096:=Nat.le_trans (cutL_length_le l) hl
 clear h hK hr
 generalize cutL l=P at *
 unfold BlocksNew
 go_enter Tryz.func27,Tryz.ntmps27
 go_wp2_with fail
 refine HCUT.out.mono ?_
 rintro e w1 ⟨v1,rfl,hP,hq⟩
 obtain ⟨A1,p1,rfl,hat⟩:=pieces_at hP
 have HAT:=Lib.hid hat
 replace hb:=hb.trans (hq.mono hB)
 have HB:=Lib.hid hb
 have HWS:=Lib.hid hq.size
 clear hP hat hq HCUT hb hB
 go_wp2_with fail
 go_loopw [5,7] (fun x i wr=>∃ k:Nat,k≤P.length∧i=.int .i64 k∧(∃ tv,BlksOwn wr w1.heap.size x tv∧Hid (tv.map Prod.snd=blksL (P.take k) K)∧Hid (∀ t∈tv,Fresh w.heap.size t.1))∧Below w1.heap.size w1 wr) (fun _ i _=>P.length-(intOf i).toNat)
 case atStart=>exact ⟨0,Nat.zero_le _,rfl,⟨[],BlksOwn.nil_ _ _,rfl,fun _ h=>absurd h (by simp)⟩,.refl _ _⟩
 case round =>
  obtain ⟨k,hk,rfl,⟨tv,hO,HE,HFT⟩,hb⟩:=hrel
  have hB:=hb.size
  by_cases hlt:k < P.length
  ·obtain ⟨b,off,rfl,hbl,hc⟩:=HAT.out k hlt
   obtain ⟨pv,hpv,c1⟩:=hc k hlt
   have x1:=(hb.cell (p:=⟨b,off+k,none⟩) hbl).trans c1
   have HO:=Lib.hid (HOF.out P[k] (List.getElem_mem hlt) wr pv (hpv.kept hb))
   have HNX:=Lib.hid (blksL_snoc P K k hlt)
   have hlen:tv.length=k:=by
    have:=congrArg List.length HE.out
    rw [List.length_map] at this
    rw [this];unfold blksL;rw [List.length_map,List.length_take];omega
   have HLEN:=Lib.hid hlen
   have HOWN:=Lib.hid hO
   obtain ⟨A9,p9,rfl⟩:=hO.own.len
   obtain ⟨tvp,Ap,pp,rfl,_,_⟩:=times_at hpv
   clear c1 hc hpv hO
   generalize P[k]=p at *
   clear hlen
   go_wp2_with fail
   refine HO.out.mono ?_
   rintro e w3 ⟨cv,rfl,hcs,hfr,hq⟩
   obtain ⟨Ac,pc,rfl,hone⟩:=one_at hcs
   clear hone
   have hO3:=HOWN.out.later hq
   have hb3:=hb.trans (hq.mono hB)
   have hqa:Below w3.heap.size w3 (w3.alloc (.cells #[.int .i64 (blockOf p K).1,.slice Ac (colsT p K).length pc,.string (blockOf p K).2.2] 72)):=Below.alloc (.refl _ _) (Nat.le_refl _) _
   have HO4:=Lib.hid (hO3.later hqa)
   have HB4:=Lib.hid (hb3.trans (hqa.mono hb3.size))
   have HS4:Hid (StrsIn (w3.alloc (.cells #[.int .i64 (blockOf p K).1,.slice Ac (colsT p K).length pc,.string (blockOf p K).2.2] 72)) (.slice Ac (colsT p K).length pc) (blockOf p K).2.1):=StrsIn.kept hcs hqa
   have HLIT:=Lib.hid (lit_blk w3 72 (.slice Ac (colsT p K).length pc,blockOf p K))
   have HONE:=Lib.hid (one_blk (w:=w3) (t:=(.slice Ac (colsT p K).length pc,blockOf p K)) hcs)
   have HOFF:=Lib.hid (RowOff.of_fresh (v:=.slice A9 tv.length p9) hfr (fun j hj=>(HOWN.out.own.lt j hj).2))
   have HFW:Hid (Fresh w.heap.size (.slice Ac (colsT p K).length pc)):=hfr.mono (by have:=HWS.out;omega)
   clear hcs hfr hq hO3 hb3 hqa HOWN x1 hb hB
   unfold blkC at HLIT HONE
   unfold blkA
   dsimp only at HLIT HONE ⊢
   generalize (colsT p K).length=cl at *
   generalize blockOf p K=bk at *
   obtain ⟨bn,bc,bs⟩:=bk
   dsimp only at *
   go_wp2_with (at_builtin;refine wpList_append_src rfl (.tmp 16) (.tmp 23) 25 rfl 72 b0 (.agg #[.int .i64 0,.slice none 0 0,.string ⟨#[]⟩]) 3 48 Tryz.underlying25 hi bz0 bz1 bz2 rfl (by decide) (B:=w1.heap.size) (.slice A9 tv.length p9) tv.length (blksV tv) rfl HO4.out.own (.slice (some ⟨w3.heap.size,0,none⟩) 1 1) 1 [.int .i64 bn,.slice Ac cl pc,.string bs] rfl HLIT.out HONE.out (by unfold maxLen;have:=HLEN.out;omega) (by have:=HLEN.out;omega) HB4.out.size ?_)
   intro v7 w7 hO7 hg7 ha7
   have HN:=Lib.hid (HO4.out.add (t:=(.slice Ac cl pc,(bn,bc,bs))) HS4.out HOFF.out hg7 (by simpa using ha7) hO7)
   have hbn:=HB4.out.grown hg7 HB4.out.size (fun q hq=>(HO4.out.own.lt q hq).1)
   have HE2:Hid ((tv++[(Value.slice Ac cl pc,(bn,bc,bs))]).map Prod.snd=blksL (P.take (k+1)) K):=by
    show _=_
    rw [HNX.out,List.map_append,HE.out];rfl
   have HFT2:Hid (∀ t∈tv++[(Value.slice Ac cl pc,(bn,bc,bs))],Fresh w.heap.size t.1):=fun t ht=>by
    rcases List.mem_append.1 ht with ht|ht
    ·exact HFT.out t ht
    ·rw [List.mem_singleton.1 ht];exact HFW.out
   clear hO7 hg7 ha7 HO4 HLIT HONE HOFF HS4 HB4
   go_wp2
   go_roundw
   case rel=>exact ⟨k+1,by omega,by go_num,⟨_,HN.out,HE2,HFT2⟩,hbn⟩
   case measure=>simp [intOf];omega
  ·obtain rfl:k=P.length:=by omega
   rw [List.take_length] at HE
   have hlen:tv.length=(blksL P K).length:=by rw [←HE.out,List.length_map]
   have HOW:=Lib.hid hO
   have HCO:=Lib.hid hO.cols
   have hbe:=HB.out.trans (hb.mono HB.out.size)
   have HLEN:=Lib.hid hlen
   clear hO hlen
   go_wp2
   go_ret
   exact ⟨_,tv,rfl,HE.out,HLEN.out▸HOW.out.own.slice,HCO.out,HFT.out,fun q hq=>Nat.le_trans HWS.out (HOW.out.own.lt q hq).1,hbe⟩
theorem ref_blocks_calls {w:World}{v:Value}{l:List Tm}(h:TimesIn w v l)(K:Nat)(hK:∀ t∈l,K≤t.1.length∧∀ c∈t.1,c.size≤1000000)(hKb:K≤1000000)(hl:l.length≤4096)(hr:InR (l.map Prod.snd)) :
  Calls Tryz.prog 27 #[v,.int .i64 K] w (BlocksEnd w (blksL (cutL l) K)) :=
 (ref_blocks_new h K hK hKb hl hr).mono fun _ _ ⟨v,tv,he,h1,h2,h3,_,_,hb⟩=>⟨v,he,⟨tv,h1,h2,h3⟩,hb⟩
def AllEnd (w:World)(P:List (List Tm))(e:Ending)(w':World):Prop :=
 ∃ v,e=.returned (.tuple #[v,.int .i64 (if rightW P.flatten=true then 0 else 2)])∧TimesIn w' v (if rightW P.flatten=true then P.flatten else [])∧Below w.heap.size w w'
theorem all_no {w w':World}{P:List (List Tm)}(h:rightW P.flatten=false)(hb:Below w.heap.size w w'):AllEnd w P (.returned (.tuple #[.slice none 0 0,.int .i64 2])) w':=by
 refine ⟨.slice none 0 0,?_,?_,hb⟩
 ·rw [h];rfl
 ·rw [h];exact TimesIn.nil_ _ _ _
theorem all_yes {w w':World}{P:List (List Tm)}{v:Value}(h:rightW P.flatten=true)(hv:TimesIn w' v P.flatten)(hb:Below w.heap.size w w'):AllEnd w P (.returned (.tuple #[v,.int .i64 0])) w':=by
 refine ⟨v,?_,?_,hb⟩
 ·rw [h];rfl
 ·rw [h];exact hv
theorem blksL_length (P:List (List Tm))(K:Nat):(blksL P K).length=P.length:=List.length_map _
theorem blksL_get (P:List (List Tm))(K k:Nat)(h:k < (blksL P K).length):(blksL P K)[k]=blockOf (P[k]'(by rw [blksL_length] at h;exact h)) K:=by simp [blksL]
theorem blksL_at {w:World}{v:Value}{P:List (List Tm)}{K:Nat}(h:BlksIn w v (blksL P K)):∃ A cap,v=.slice A P.length cap ∧
  (∀ k (hk:k < P.length),∃ b off,A=some ⟨b,off,none⟩∧b < w.heap.size∧∃ rv,StrsIn w rv (colsT P[k] K)∧w.cell? ⟨b,off+k*3,none⟩=some (.int .i64 P[k].length)∧w.cell? ⟨b,off+k*3+1,none⟩=some rv ∧
   w.cell? ⟨b,off+k*3+2,none⟩=some (.string (shelfB (P[k].map Prod.snd)))):=by
 obtain ⟨A,cap,e,hat⟩:=blks_at h
 rw [blksL_length] at e
 refine ⟨A,cap,e,fun k hk=>?_⟩
 have hk2:k < (blksL P K).length:=by rw [blksL_length];exact hk
 obtain ⟨b,off,ea,hb,hc⟩:=hat k hk2
 obtain ⟨rv,h1,h2,h3,h4⟩:=hc k hk2
 simp only [blksL_get P K k hk2] at h1 h2 h3 h4
 exact ⟨b,off,ea,hb,rv,h1,h2,h3,h4⟩
set_option maxHeartbeats 4000000 in
set_option maxRecDepth 100000 in
theorem ref_all_calls {w:World}{vb vc:Value}{P:List (List Tm)}{cols:List (Int×Bool)}(hvb:BlksIn w vb (blksL P cols.length))(hvc:ColsIn w vc cols)(hP:∀ p∈P,GoodP p cols)(hl:P.flatten.length≤1000000)(hPl:P.length≤1000000)(hcK:cols.length≤1000000) :
  Calls Tryz.prog 43 #[vb,vc] w (AllEnd w P):=by
 obtain ⟨m0,hm,mz0,mz1,mz2⟩:=info_parts Tryz.infoCb46
 obtain ⟨hb,hB⟩:=start w
 obtain ⟨A1,p1,rfl,hat⟩:=blksL_at hvb
 obtain ⟨A2,p2,rfl,hone2⟩:=cols_at hvc
 have HAT:=Lib.hid hat
 have HVC:=Lib.hid hvc
 have HPG:=Lib.hid hP
 have HFL:Hid (∀ k,k < P.length→((P.take k).flatten).length+P[k]!.length≤1000000):=fun k hk=>by
  have:=congrArg List.length (flatten_at P k hk)
  rw [List.length_append,List.length_append] at this
  rw [getElem!_pos P k hk]
  omega
 clear hvb hat hvc hP hone2
 go_enter Tryz.func43,Tryz.ntmps43
 go_wp2
 go_loopw [6,7] (fun x i wr=>∃ k:Nat,k≤P.length∧i=.int .i64 k∧(∃ tv,TimesOwn wr w.heap.size x tv (P.take k).flatten)∧Hid (RightP (P.take k).flatten)∧Below w.heap.size w wr) (fun _ i _=>P.length-(intOf i).toNat)
 case atStart=>exact ⟨0,Nat.zero_le _,rfl,⟨[],TimesOwn.nil_ _ _⟩,RightP.nil,hb⟩
 case round =>
  clear hb hB
  obtain ⟨k,hk,rfl,⟨tv,hT⟩,HRP,hb⟩:=hrel
  have hB:=hb.size
  by_cases hlt:k < P.length
  ·obtain ⟨b,off,rfl,hbl,rv,hrs,c0,c1,c2⟩:=HAT.out k hlt
   have x0:=(hb.cell (p:=⟨b,off+k*3,none⟩) hbl).trans c0
   have x1:=(hb.cell (p:=⟨b,off+k*3+1,none⟩) hbl).trans c1
   have x2:=(hb.cell (p:=⟨b,off+k*3+2,none⟩) hbl).trans c2
   obtain ⟨hg1,hg2,hg3,hg4,hg5⟩:=HPG.out P[k] (List.getElem_mem hlt)
   have HRW:=Lib.hid (ref_block_rows_calls (w:=wr) (vb:=.agg #[.int .i64 P[k].length,rv,.string (shelfB (P[k].map Prod.snd))]) (l:=P[k]) ⟨rv,rfl,StrsIn.kept hrs hb⟩ (HVC.out.kept hb) hg2 hg3 hg4 hg5 hcK)
   have HTF:=Lib.hid (take_flatten P k hlt)
   have HFA:=Lib.hid (flatten_at P k hlt)
   have hlen:=HFL.out k hlt
   rw [getElem!_pos P k hlt] at hlen
   have HGR:=Lib.hid (good_rightP hg1)
   have hpl:=good_len hg1
   have HG1:=Lib.hid hg1
   obtain ⟨Ar,pr,rfl,hone⟩:=one_at hrs
   clear c0 c1 c2 hrs hg2 hg3 hg5 hone hg1
   generalize (colsT P[k] cols.length).length=rl at *
   generalize shelfB (P[k].map Prod.snd)=s at *
   generalize (P.drop (k+1)).flatten=rest at *
   generalize hpk:P[k]=p at *
   clear hpk
   generalize (P.take k).flatten=a at *
   have HT:=Lib.hid hT
   obtain ⟨A9,p9,rfl⟩:=hT.slice
   clear hT
   go_wp2_with fail
   refine HRW.out.mono ?_
   rintro e w3 ⟨v3,he,hN,hq⟩
   rw [HG1.out] at he hN
   rw [if_pos rfl] at he hN
   subst he
   obtain ⟨tv2,hs2,hr2,hf2,hfv⟩:=hN
   obtain ⟨A5,p5,e5,hat5⟩:=hs2.at_
   subst e5
   have HT3:=Lib.hid (HT.out.later hq)
   have HB3:=Lib.hid (hb.trans (hq.mono hB))
   have HOFF:Hid (RowsOff (.slice A9 a.length p9) tv2):=fun t ht=>RowOff.of_fresh (hf2 t ht) (fun j hj=>(HT.out.own.lt j hj).2)
   have HS2:=Lib.hid hs2
   have HR2:=Lib.hid hr2
   have HAT5:=Lib.hid hat5
   clear hs2 hr2 hf2 hfv hat5 hq hb hB HRW HT x0 x1 x2
   generalize hal:a.length=al at *
   have HAL:=Lib.hid hal
   clear hal
   by_cases ha0:al=0
   case' pos =>
    have g0:decide (0 < al)=false:=by rw [decide_eq_false_iff_not];omega
    have HRN:Hid (RightP (P.take (k+1)).flatten):=by
     show RightP _
     rw [HTF.out];exact right_glue HRP.out HGR.out (fun h1 _=>absurd h1 (by have:=HAL.out;omega))
    clear ha0
    go_wp2_with fail
    refine wp_region_quiet_below (by kernel_rfl) (by kernel_rfl) ?_
    repeat (first|go_big_quiet_skip|(go_big_quiet_want;go_big_quiet_op;go_big_quiet_on))
    refine wpQuiet_nil ?_
    rintro w6 ⟨p6,hw6⟩
    have hq6:Below w3.heap.size w3 w6:=hw6▸below_regrown w3 p6.d p6.os
    clear hw6
   case' neg =>
    have g0:decide (0 < al)=true:=by rw [decide_eq_true_eq];omega
    have hal1:al-1 < a.length:=by have:=HAL.out;omega
    obtain ⟨g,offg,capg,e9,_⟩:=HT3.out.some_ (by have:=HAL.out;omega)
    rw [HAL.out] at e9
    simp only [Value.slice.injEq,true_and] at e9
    obtain ⟨rfl,rfl⟩:=e9
    have HT4:=HT3.out
    obtain ⟨ra,hra,_,_,z0,_⟩:=HT4.at_ (al-1) hal1
    obtain ⟨b5,off5,rfl,hb5,hc5⟩:=HAT5.out hpl
    have z1:=hc5 0 _ (timesV_get tv2 0 (by rw [HR2.out.length];exact hpl)).1
    rw [Nat.add_zero] at z1
    have h5l:=HR2.out.get 0 (by rw [HR2.out.length];exact hpl) hpl
    obtain ⟨rb,hrb⟩:∃ rb,rb=(tv2[0]'(by rw [HR2.out.length];exact hpl)).1:=⟨_,rfl⟩
    rw [←hrb] at z1 h5l
    have hrs5:=h5l.1
    have HCMP:Hid (∀ w',Below w3.heap.size w3 w'→GivesAt Tryz.prog 64 #[ra,rb] w' (.int .i64 (cmpL (a[al-1]'hal1).1 (p[0]'hpl).1))):=fun w' hw=>ref_compare_calls (StrsIn.kept hra hw) (StrsIn.kept hrs5 hw)
    have HGL:Hid (cmpL (a[al-1]'hal1).1 (p[0]'hpl).1 = -1→RightP (a++p)):=fun h=>right_glue HRP.out HGR.out (fun h1 h2=>by have:=HAL.out;simp only [←this] at h;exact h)
    have HUG:Hid (¬cmpL (a[al-1]'hal1).1 (p[0]'hpl).1 = -1→rightW P.flatten=false):=fun h=>by
     rw [HFA.out]
     exact right_unglue (by omega) hpl (by have:=HAL.out;simp only [←this] at h;exact h)
    have hrg:=(cmpL_range (a[al-1]'hal1).1 (p[0]'hpl).1).1
    generalize cmpL (a[al-1]'hal1).1 (p[0]'hpl).1=cm at *
    have e0:=fun d os=>cell_regrown z0 d os
    have e1:=fun d os=>cell_regrown z1 d os
    have q1:IntKind.i64.wrap ((al:Int)-1)=((al-1:Nat):Int):=by rw [IntKind.wrap_i64];omega
    have q2:(0:Int)≤((al-1:Nat):Int):=by omega
    have q3:((al-1:Nat):Int) < (al:Int):=by omega
    have q4:(((al-1:Nat):Int)).toNat=al-1:=by omega
    have q5:(0:Int) < (p.length:Int):=by omega
    clear hra hrs5 h5l hrb HT4 hc5
    by_cases hcm:0≤cm
    case' pos =>
     have g1:decide (0≤cm)=true:=decide_eq_true hcm
     have HNO:=Lib.hid (HUG.out (by omega))
     clear ha0 hcm
     go_wp2_with fail
     refine wp_region_quiet_below (by kernel_rfl) (by kernel_rfl) ?_
     repeat (first|go_big_quiet_skip|(go_big_quiet_want;go_big_quiet_op;first|go_big_quiet_on|(apply Exists.intro;refine ⟨fun _=>?_,?_⟩;(first|(go_at_call 64;exact Calls.regrown_of (HCMP.out _ (below_regrown w3 _ _))));go_big_quiet_on)))
     refine wpQuiet_nil ?_
     rintro w6 ⟨p6,hw6⟩
     have hq6:Below w3.heap.size w3 w6:=hw6▸below_regrown w3 p6.d p6.os
     clear hw6
     have hbe:=HB3.out.trans (hq6.mono HB3.out.size)
     clear hq6 e0 e1 z0 z1
     go_wp2
     go_ret2
     exact all_no HNO.out hbe
    case' neg =>
     have g1:decide (0≤cm)=false:=decide_eq_false hcm
     have HRN:Hid (RightP (P.take (k+1)).flatten):=by
      show RightP _
      rw [HTF.out];exact HGL.out (by omega)
     clear ha0 hcm
     go_wp2_with fail
     refine wp_region_quiet_below (by kernel_rfl) (by kernel_rfl) ?_
     repeat (first|go_big_quiet_skip|(go_big_quiet_want;go_big_quiet_op;first|go_big_quiet_on|(apply Exists.intro;refine ⟨fun _=>?_,?_⟩;(first|(go_at_call 64;exact Calls.regrown_of (HCMP.out _ (below_regrown w3 _ _))));go_big_quiet_on)))
     refine wpQuiet_nil ?_
     rintro w6 ⟨p6,hw6⟩
     have hq6:Below w3.heap.size w3 w6:=hw6▸below_regrown w3 p6.d p6.os
     clear hw6
     clear e0 e1 z0 z1
   all_goals
    have HT6:=Lib.hid (HT3.out.later hq6)
    have hO6:=HT6.out.own
    rw [HAL.out] at hO6
    have HO6:=Lib.hid hO6
    have HS6:=Lib.hid (SliceOf.later HS2.out hq6)
    have HR6:=Lib.hid (HR2.out.kept hq6)
    have HB6:=Lib.hid (HB3.out.trans (hq6.mono HB3.out.size))
    clear hO6 hq6
    go_wp2_with (at_builtin;refine wpList_append_src rfl (.tmp 46) (.tmp 47) 26 rfl 46 m0 (.agg #[.slice none 0 0,.int .i64 0]) 2 32 Tryz.underlying26 hm mz0 mz1 mz2 rfl (by decide) (B:=w.heap.size) _ al (timesV tv) rfl HO6.out _ p.length (timesV tv2) rfl HS6.out (RowsOf.one_cell HR6.out) (by unfold maxLen;omega) (by omega) HB6.out.size ?_)
    intro v7 w7 hO7 hg7 ha7
    have HT7:Hid (∃ tv,TimesOwn w7 w.heap.size v7 tv (P.take (k+1)).flatten):=by
     refine ⟨tv++tv2,?_⟩
     rw [HTF.out]
     exact HT6.out.adds HR6.out HOFF.out hg7 ha7 (by rw [HAL.out];exact hO7)
    have hbn:=HB6.out.grown hg7 HB6.out.size (fun q hq=>(HT6.out.own.lt q hq).1)
    clear hO7 hg7 ha7
    go_wp2
    go_roundw
    case rel=>exact ⟨k+1,by omega,by go_num,HT7.out,HRN,hbn⟩
    case measure=>simp [intOf];omega
  ·obtain rfl:k=P.length:=by omega
   rw [List.take_length] at HRP hT
   have HYES:Hid (rightW P.flatten=true):=decide_eq_true HRP.out
   have HTI:=Lib.hid hT.times
   obtain ⟨A9,p9,rfl⟩:=hT.slice
   clear hT
   go_wp2
   go_ret2
   exact all_yes HYES.out HTI.out hb
end Go.Proofs.YtafmbnafibahkaaGreat
