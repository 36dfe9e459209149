/- The contract of layer 13's own Blocks. -/
import Derived.Test.YtafmbnafibahkaaGreatGWeighRef
import Derived.Test.YtafmbnafibahkaaGreatGCutRef
import Derived.Test.YtafmbnafibahkaaGreatGWeighFns
import Derived.Test.YtafmbnafibahkaaGreatGWeighSmall
import Derived.Test.YtafmbnafibahkaaGreatGBlockOwn
import Derived.Test.YtafmbnafibahkaaGreatGCutBlocks
namespace Go.Proofs.YtafmbnafibahkaaGreat
open Go Go.RowKit
set_option maxHeartbeats 400000 in
theorem cut_next_calls (w:World)(n:Nat)(b:UInt8)(hn:n < 18446744073709551616):Reads Tryz.prog 140 #[.int .u64 (n:Int),.int .u8 (b.toNat:Int)] w (.int .u64 (mixN n b:Nat)):=by
 have HV:=Lib.hid (mix_val n b hn)
 unfold Reads
 go_enter Tryz.func140,Tryz.ntmps140
 go_wp2
 go_ret
 exact ⟨ret_int HV.out,rfl⟩
theorem cut_next_zero (w:World)(n:Nat)(hn:n < 18446744073709551616):Reads Tryz.prog 140 #[.int .u64 (n:Int),.int .u8 0] w (.int .u64 (mixN n 0:Nat)):=cut_next_calls w n 0 hn
theorem mix_next (l:List UInt8)(n j:Nat)(h:j < l.length):(l.take (j+1)).foldl mixN n=mixN ((l.take j).foldl mixN n) l[j]:=by rw [take_add l j h,List.foldl_append,List.foldl_cons,List.foldl_nil]
set_option maxHeartbeats 1000000 in
theorem cut_number_calls {w:World}{v:Value}{r:List ByteArray}(h:StrsIn w v r)(hs:∀ c∈r,c.size≤1000000):GivesAt Tryz.prog 106 #[v] w (.int .u64 (numN r)):=by
 have hm:=h.2.1
 unfold maxLen at hm
 obtain ⟨hb,hB⟩:=start w
 obtain ⟨A,cap,rfl,hat⟩:=one_at h
 have HAT:=Lib.hid hat
 have HS:=Lib.hid hs
 clear h hat hs
 unfold GivesAt
 go_enter Tryz.func106,Tryz.ntmps106
 go_wp2
 go_loopw [3,5,10] (fun u _ i wr=>∃ k:Nat,k≤r.length∧i=.int .i64 k∧u=.int .u64 (hashN (r.take k))∧Below w.heap.size w wr) (fun _ _ i _=>r.length-(intOf i).toNat)
 case atStart=>exact ⟨0,Nat.zero_le _,rfl,rfl,hb⟩
 case round =>
  clear hb hB
  obtain ⟨k,hk,rfl,rfl,hb⟩:=hrel
  have hB:=hb.size
  by_cases hlt:k < r.length
  ·obtain ⟨b,off,rfl,hbl,hc⟩:=HAT.out k hlt
   have x1:=(hb.cell (p:=⟨b,off+k,none⟩) hbl).trans (hc k hlt)
   have hsz:=HS.out _ (List.getElem_mem hlt)
   have HT:=Lib.hid (hash_take r k hlt)
   have hN:=hashN_lt (r.take k)
   generalize hashN (r.take k)=n at *
   generalize r[k]=c at *
   clear hc
   have HM:Hid (mixN (c.data.toList.foldl mixN n) 0=mixText n c):=rfl
   have hcl:c.data.toList.length≤1000000:=by rw [data_size];exact hsz
   go_wp2_with (refine wpList_bytes rfl _ 9 97 5 rfl Tryz.underlying9 Tryz.underlying97 Tryz.underlying5 c rfl w.heap.size hB (by unfold maxLen;omega) ?_)
   intro v1 w1 hO1 hq1
   have HB1:=Lib.hid (hb.trans (hq1.mono hB))
   generalize c.data.toList=l at *
   obtain ⟨A1,p1,rfl,hat1⟩:=one_at (f:=fun b:UInt8=>Value.int .u8 (b.toNat:Int)) hO1.slice
   have HAT1:=Lib.hid hat1
   clear hO1 hat1 hq1 hb hB x1 hsz
   go_wp2
   go_loop [3,7,17] (fun u _ i=>∃ j:Nat,j≤l.length∧i=.int .i64 j∧u=.int .u64 (((l.take j).foldl mixN n:Nat):Int)) (fun _ _ i=>l.length-(intOf i).toNat)
   case atStart=>exact ⟨0,Nat.zero_le _,rfl,rfl⟩
   case round =>
    obtain ⟨j,hj,rfl,rfl⟩:=hrel
    by_cases hjt:j < l.length
    ·obtain ⟨b1,off1,rfl,hbl1,hc1⟩:=HAT1.out j hjt
     have y1:=hc1 j hjt
     have HM2:=Lib.hid (mix_next l n j hjt)
     have hM:=mixes_lt (l.take j) n hN
     have HNX:=Lib.hid (cut_next_calls w1 _ l[j] hM)
     clear hc1
     generalize (l.take j).foldl mixN n=m at *
     generalize l[j]=x at *
     go_wp2_with (go_at_call 140;refine HNX.out.step ?_)
     go_round
     case rel=>exact ⟨j+1,by omega,by go_num,by rw [HM2.out]⟩
     case measure=>simp [intOf];omega
    ·obtain rfl:j=l.length:=by omega
     have hM:=mixes_lt l n hN
     rw [List.take_length]
     have HNX:=Lib.hid (cut_next_zero w1 _ hM)
     generalize l.foldl mixN n=m at *
     go_wp2_with (go_at_call 140;refine HNX.out.step ?_)
     go_roundw
     case rel=>exact ⟨k+1,by omega,by go_num,by rw [HM.out,HT.out],HB1.out⟩
     case measure=>simp [intOf];omega
  ·obtain rfl:k=r.length:=by omega
   have hN:=hashN_lt r
   have HT:=Lib.hid (List.take_length (l:=r))
   have HV:=Lib.hid (num_val _ hN)
   rw [List.take_length]
   have HE:Hid ((hashN r ^^^ (hashN r / 4294967296):Nat)=numN r):=rfl
   generalize hashN r=n at *
   go_wp2
   go_ret
   exact ⟨ret_int (by rw [←HE.out,←HV.out]),hb⟩
set_option maxHeartbeats 400000 in
theorem cut_begins_calls {w:World}{v:Value}{r:List ByteArray}(h:StrsIn w v r)(hs:∀ c∈r,c.size≤1000000):GivesAt Tryz.prog 81 #[v] w (.bool (begR r)):=by
 have HN:=Lib.hid (cut_number_calls h hs)
 obtain ⟨hb,hB⟩:=start w
 have hA:=and_7 _ (numN_lt r)
 have HV:=Lib.hid (beg_val r)
 obtain ⟨A,cap,rfl,_⟩:=one_at h
 clear h hs
 generalize numN r=n at *
 unfold GivesAt
 go_enter Tryz.func81,Tryz.ntmps81
 go_wp2_with (go_at_call 106;refine HN.out.step (w0:=w) (B:=w.heap.size) hb hB ?_;clear hb hB;intro w' hb hB)
 go_ret
 exact ⟨ret_bool (by rw [←HV.out]),hb⟩
section
variable {w w':World}
theorem AllRows.mem:∀ {X:List (List (Value×Int))}{P:List (List Tm)},AllRows w X P→∀ x∈X,∃ p∈P,RowsOf w x p
 | [],[],_,x,hx=>absurd hx (by simp)
 | y::_,p::_,h,x,hx=>by
  rcases List.mem_cons.1 hx with rfl|hx
  ·exact ⟨p,List.mem_cons_self ..,h.1⟩
  ·obtain ⟨q,hq,k⟩:=AllRows.mem h.2 x hx
   exact ⟨q,List.mem_cons_of_mem _ hq,k⟩
 | [],_::_,h,_,_=>h.elim
 | _::_,[],h,_,_=>h.elim
theorem AllRows.kept (hb:Below w.heap.size w w'):∀ {X:List (List (Value×Int))}{P:List (List Tm)},AllRows w X P→AllRows w' X P
 | [],[],_=>trivial
 | _::_,_::_,h=>⟨h.1.kept hb,AllRows.kept hb h.2⟩
 | [],_::_,h=>h.elim
 | _::_,[],h=>h.elim
theorem AllRows.offs {v:Value}(hg:w.grownBy w' v.ownBlock):∀ {X:List (List (Value×Int))}{P:List (List Tm)},AllRows w X P→(∀ x∈X,RowsOff v x)→AllRows w' X P
 | [],[],_,_=>trivial
 | _::_,_::_,h,ho=>⟨h.1.offs hg (ho _ (List.mem_cons_self ..)),AllRows.offs hg h.2 fun x hx=>ho x (List.mem_cons_of_mem _ hx)⟩
 | [],_::_,h,_=>h.elim
 | _::_,[],h,_=>h.elim
theorem AllRows.row {X:List (List (Value×Int))}{P:List (List Tm)}(h:AllRows w X P){x:List (Value×Int)}(hx:x∈X){t:Value×Int}(ht:t∈x):∃ r,StrsIn w t.1 r:=by
 obtain ⟨p,_,hp⟩:=h.mem x hx
 obtain ⟨y,_,hy,_⟩:=hp.mem t ht
 exact ⟨y.1,hy⟩
structure PCopied (w:World) (B:Nat) (v:Value) (tv:List Value) (X:List (List (Value×Int))) (P:List (List Tm)):Prop where
 g:PGrown w B v tv X
 rows:AllRows w X P
 off:∀ x∈X,RowsOff v x
 offs:∀ x∈X,∀ u∈tv,RowsOff u x
section
variable {B:Nat}{v:Value}{tv:List Value}{X:List (List (Value×Int))}{P:List (List Tm)}
theorem PCopied.nil_ (w:World)(B:Nat):PCopied w B (.slice none 0 0) [] [] []:=⟨PGrown.nil_ w B,trivial,fun _ h=>absurd h (by simp),fun _ h=>absurd h (by simp)⟩
theorem PCopied.later (h:PCopied w B v tv X P)(hb:Below w.heap.size w w'):PCopied w' B v tv X P:=⟨h.g.later hb,h.rows.kept hb,h.off,h.offs⟩
theorem PCopied.drew (h:PCopied w B v tv X P):PCopied w.drew B v tv X P:=h.later (Below.drew (.refl _ _))
theorem PCopied.pieces (h:PCopied w B v tv X P):PiecesIn w v P:=h.g.pieces h.rows (.refl _ _)
theorem PCopied.push {v':Value}(h:PCopied w B v tv X P)(hg:w.grownBy w' v.ownBlock)(hv:∀ k,v'.ownBlock=some k→v.ownBlock=some k∨w.heap.size≤k)(hO:Own w' B 1 v' (tv.length+1) (tv++[.slice none 0 0])) :
  PCopied w' B v' (tv++[.slice none 0 0]) (X++[[]]) (P++[[]]):=by
 refine ⟨h.g.push hg hv hO,(h.rows.offs hg h.off).append (AllRows.one trivial),fun x hx t ht=>?_,fun x hx u hu t ht=>?_⟩
 ·rcases List.mem_append.1 hx with hx|hx
  ·obtain ⟨r,hr⟩:=h.rows.row hx ht
   exact (h.off x hx t ht).turned hr hv
  ·rw [List.mem_singleton.1 hx] at ht;simp at ht
 ·rcases List.mem_append.1 hx with hx|hx
  ·rcases List.mem_append.1 hu with hu|hu
   ·exact h.offs x hx u hu t ht
   ·rw [List.mem_singleton.1 hu];exact RowOff.of_nil
  ·rw [List.mem_singleton.1 hx] at ht;simp at ht
theorem PCopied.grew {tq:List Value}{u u' rv:Value}{Y:List (List (Value×Int))}{y:List (Value×Int)}{Q:List (List Tm)}{q:List Tm}{g off cap n:Nat}{c:Int}{row:List ByteArray}
  (h:PCopied w B (.slice (some ⟨g,off,none⟩) n cap) (tq++[u]) (Y++[y]) (Q++[q])) (hg:w.grownBy w' u.ownBlock)
  (hu:∀ k,u'.ownBlock=some k→u.ownBlock=some k∨w.heap.size≤k) (hO:Own w' B 2 u' (y.length+1) (timesV y++[rv,.int .i64 c])) (hs:StrsIn w rv row)
  (ho:RowOff (.slice (some ⟨g,off,none⟩) n cap) rv) (hos:∀ k∈tq++[u],RowOff k rv) :
  PCopied (w'.setCell ⟨g,off+tq.length,none⟩ u') B (.slice (some ⟨g,off,none⟩) n cap) (tq++[u']) (Y++[y++[(rv,c)]]) (Q++[q++[(row,c)]]):=by
 have hg2:=setCells_grown g [u'] (off+tq.length) w'
 simp only [World.setCells] at hg2
 have hum:u∈tq++[u]:=by simp
 have hqm:∀ k∈tq,k∈tq++[u]:=fun k hk=>List.mem_append_left _ hk
 obtain ⟨Y2,y2,e,hY,hy⟩:=h.rows.snoc
 obtain ⟨rfl,e2⟩:=List.append_inj' e rfl
 simp only [List.cons.injEq,and_true] at e2
 subst e2
 have hYm:∀ x∈Y,x∈Y++[y]:=fun x hx=>List.mem_append_left _ hx
 have hym:y∈Y++[y]:=by simp
 have w1Y:AllRows (w'.setCell ⟨g,off+tq.length,none⟩ u') Y Q:=AllRows.offs (v:=.slice (some ⟨g,off,none⟩) n cap) hg2 (hY.offs hg fun x hx=>h.offs x (hYm x hx) u hum) fun x hx=>h.off x (hYm x hx)
 have w1y:RowsOf (w'.setCell ⟨g,off+tq.length,none⟩ u') y q:=RowsOf.offs (v:=.slice (some ⟨g,off,none⟩) n cap) hg2 (hy.offs hg (h.offs y hym u hum)) (h.off y hym)
 have w1s:StrsIn (w'.setCell ⟨g,off+tq.length,none⟩ u') rv row:=StrsIn.off (v:=.slice (some ⟨g,off,none⟩) n cap) (StrsIn.off hs (hos u hum) hg) ho hg2
 refine ⟨h.g.grew hg hu hO,w1Y.append (AllRows.one (w1y.append (RowsOf.one w1s))),fun x hx t ht=>?_,fun x hx k hk t ht=>?_⟩
 ·rcases List.mem_append.1 hx with hx|hx
  ·exact h.off x (hYm x hx) t ht
  ·rw [List.mem_singleton.1 hx] at ht
   rcases List.mem_append.1 ht with ht|ht
   ·exact h.off y hym t ht
   ·rw [List.mem_singleton.1 ht];exact ho
 ·have each:∀ k0∈tq++[u],RowOff k0 t.1:=by
   intro k0 hk0
   rcases List.mem_append.1 hx with hx|hx
   ·exact h.offs x (hYm x hx) k0 hk0 t ht
   ·rw [List.mem_singleton.1 hx] at ht
    rcases List.mem_append.1 ht with ht|ht
    ·exact h.offs y hym k0 hk0 t ht
    ·rw [List.mem_singleton.1 ht];exact hos k0 hk0
  rcases List.mem_append.1 hk with hk|hk
  ·exact each k (hqm k hk)
  ·rw [List.mem_singleton.1 hk]
   have hst:∃ r,StrsIn w t.1 r:=by
    rcases List.mem_append.1 hx with hx|hx
    ·exact h.rows.row (hYm x hx) ht
    ·rw [List.mem_singleton.1 hx] at ht
     rcases List.mem_append.1 ht with ht|ht
     ·exact h.rows.row hym ht
     ·rw [List.mem_singleton.1 ht];exact ⟨row,hs⟩
   obtain ⟨r,hr⟩:=hst
   exact (each u hum).turned hr hu
end
end
set_option maxHeartbeats 4000000 in
set_option maxRecDepth 100000 in
theorem cut_cut_calls {w:World}{v:Value}{l:List Tm}(h:TimesIn w v l)(hl:l.length≤4096)(hs:∀ t∈l,∀ c∈t.1,c.size≤1000000)(hS:ShortR l):Calls Tryz.prog 59 #[v] w (CutEnd w (cutL l)):=by
 obtain ⟨n0,hn,nz0,nz1,nz2⟩:=info_parts Tryz.infoCa26
 obtain ⟨m0,hm,mz0,mz1,mz2⟩:=info_parts Tryz.infoCb46
 obtain ⟨hb,hB⟩:=start w
 obtain ⟨tvl,A,cap,rfl,_,hat⟩:=times_at h
 have HAT:=Lib.hid hat
 have HSZ:=Lib.hid hs
 have HSH:=Lib.hid hS
 clear h hat hs hS
 unfold CutEnd
 go_enter Tryz.func59,Tryz.ntmps59
 go_wp2
 go_loopw [3,4,5,9] (fun x _ _ i wr=>∃ k:Nat,k≤l.length∧i=.int .i64 k∧(∃ tv X,PCopied wr w.heap.size x tv X (cutL (l.take k)))∧Below w.heap.size w wr) (fun _ _ _ i _=>l.length-(intOf i).toNat)
 case atStart=>exact ⟨0,Nat.zero_le _,rfl,⟨[],[],PCopied.nil_ _ _⟩,hb⟩
 case round =>
  clear hb hB
  obtain ⟨k,hk,rfl,⟨tv,X,hP⟩,hb⟩:=hrel
  have hB:=hb.size
  obtain ⟨A9,p9,rfl⟩:=hP.g.own.len
  by_cases hlt:k < l.length
  ·obtain ⟨b,off,rfl,hbl,hc⟩:=HAT.out k hlt
   obtain ⟨rv,hrs,htv,c1,c2⟩:=hc k hlt
   have hrs1:=StrsIn.kept hrs hb
   have HSR:=Lib.hid (HSH.out _ (List.getElem_mem hlt))
   have HCS:=Lib.hid (HSZ.out _ (List.getElem_mem hlt))
   have HCUT:Hid (cutL (l.take (k+1))=addCut (cutL (l.take k)) l[k]):=by show _=_;rw [take_add l k hlt,cutL_snoc]
   have HCE:Hid (cutL (l.take k)=[]↔k=0):=by
    refine ⟨fun e=>?_,fun e=>by subst e;rfl⟩
    have:=cutL_flatten (l.take k)
    rw [e] at this
    have h2:=congrArg List.length this
    simp at h2
    omega
   have hXL:X.length≤k:=by rw [hP.rows.length];exact Nat.le_trans (cutL_length_le _) (by rw [List.length_take];omega)
   have hXS:∀ y∈X,y.length≤k:=fun y hy=>by
    obtain ⟨j,hj,rfl⟩:=List.mem_iff_getElem.1 hy
    have hj2:j < (cutL (l.take k)).length:=by rw [←hP.rows.length];exact hj
    have e1:=(hP.rows.get j hj hj2).length
    have e2:((cutL (l.take k))[j]).length≤((cutL (l.take k)).flatten).length:=by
     exact piece_le (List.getElem_mem hj2)
    rw [cutL_flatten,List.length_take] at e2
    omega
   generalize cutL (l.take k)=P at *
   have HXS:=Lib.hid hXS
   obtain ⟨Ar,pr,rfl,hone⟩:=one_at hrs
   have x1:=(hb.cell (p:=⟨b,off+k*2,none⟩) hbl).trans c1
   have x2:=(hb.cell (p:=⟨b,off+k*2+1,none⟩) hbl).trans c2
   have hrs0:=hrs
   clear c1 c2 hc htv hrs hXS hone
   generalize l[k]=t at *
   obtain ⟨row,n⟩:=t
   dsimp only at *
   have i0:(0:Int)≤(k:Int):=by omega
   have i1:(k:Int) < (l.length:Int):=by omega
   have hq0:Below wr.heap.size wr (wr.alloc (.cells #[.slice Ar row.length pr,.int .i64 n] 46)):=Below.alloc (.refl _ _) (Nat.le_refl _) _
   have HRX:Hid (StrsIn (wr.alloc (.cells #[.slice Ar row.length pr,.int .i64 n] 46)) (.slice Ar row.length pr) row):=StrsIn.kept hrs1 hq0
   have HBX:Hid (BoxOf (wr.alloc (.cells #[.slice Ar row.length pr,.int .i64 n] 46)) wr.heap.size (.slice Ar row.length pr) n):=box_tm _ _ _ _
   have HPX:=Lib.hid (hP.later hq0)
   have HBB:=Lib.hid (hb.trans (hq0.mono hB))
   have HXV:Hid (∀ j,(Value.slice A9 tv.length p9).ownBlock=some j→j < wr.heap.size):=fun j hj=>(hP.g.own.lt j hj).2
   have hsz0:(wr.alloc (.cells #[.slice Ar row.length pr,.int .i64 n] 46)).heap.size=wr.heap.size+1:=by simp
   have HSZ0:=Lib.hid hsz0
   have HF:Hid (GivesAt Tryz.prog 81 #[.slice Ar row.length pr] (wr.alloc (.cells #[.slice Ar row.length pr,.int .i64 n] 46)) (.bool (begR row))):=cut_begins_calls HRX.out HCS.out
   have HQ0:=Lib.hid hq0
   have HRS0:=Lib.hid hrs0
   clear hq0 hP hb hrs1 hrs0
   by_cases hk0:k=0
   case' pos =>
    have d0:((k:Int)==0)=true:=by rw [beq_iff_eq];omega
    have HNEW:Hid (cutL (l.take (k+1))=P++[[]++[(row,n)]]):=HCUT.out.trans (addCut_new (.inl (HCE.out.2 hk0)))
    clear hk0
    have HP2:=Lib.hid HPX.out
    have HBX2:=Lib.hid HBX.out
    have HRX2:=Lib.hid HRX.out
    have HBB2:=Lib.hid HBB.out
    clear HPX HBX HRX HBB HF
    have HLEN:=Lib.hid HP2.out.g.len
    have hqa:Below (wr.alloc (.cells #[.slice Ar row.length pr,.int .i64 n] 46)).heap.size (wr.alloc (.cells #[.slice Ar row.length pr,.int .i64 n] 46)) ((wr.alloc (.cells #[.slice Ar row.length pr,.int .i64 n] 46)).alloc (.cells #[.slice none 0 0] 26)):=Below.alloc (.refl _ _) (Nat.le_refl _) _
    have HPa:=Lib.hid (HP2.out.later hqa)
    have HBXa:=Lib.hid (HBX2.out.later hqa)
    have HRXa:Hid (StrsIn ((wr.alloc (.cells #[.slice Ar row.length pr,.int .i64 n] 46)).alloc (.cells #[.slice none 0 0] 26)) (.slice Ar row.length pr) row):=StrsIn.kept HRX2.out hqa
    have HBBa:=Lib.hid (HBB2.out.trans (hqa.mono HBB2.out.size))
    have HLIT:Hid (SliceOf ((wr.alloc (.cells #[.slice Ar row.length pr,.int .i64 n] 46)).alloc (.cells #[.slice none 0 0] 26)) 1 (.slice (some ⟨wr.heap.size+1,0,none⟩) 1 1) 1 [.slice none 0 0]):=(by show SliceOf _ _ _ _ _;simpa using lit_ones (fun _:Unit=>Value.slice none 0 0) (wr.alloc (.cells #[.slice Ar row.length pr,.int .i64 n] 46)) 26 [()] (by show 1≤1000;decide))
    clear hqa HP2 HBX2 HRX2 HBB2
    go_wp2_with (at_builtin;refine wpList_append_src rfl (.tmp 21) (.tmp 22) 73 rfl 26 n0 (.slice none 0 0) 1 24 Tryz.underlying73 hn nz0 nz1 nz2 rfl (by decide) (B:=w.heap.size) (.slice A9 tv.length p9) tv.length tv rfl HPa.out.g.own (.slice (some ⟨wr.heap.size+1,0,none⟩) 1 1) 1 [.slice none 0 0] rfl HLIT.out one_nil (by unfold maxLen;have:=HLEN.out;omega) (by have:=HLEN.out;omega) HBBa.out.size ?_)
    intro v7 wq hO7 hg7 ha7
    have hPG:=HPa.out.push hg7 (by simpa using ha7) hO7
    have hbq:=HBBa.out.grown hg7 HBBa.out.size (fun q hq=>(HPa.out.g.own.lt q hq).1)
    have hbx:BoxOf wq wr.heap.size (.slice Ar row.length pr) n:=Own.other HBXa.out hg7 (fun j hj e=>by
     have h1:=HXV.out j e.symm
     simp only [Value.ownBlock,Option.some.injEq] at hj
     omega)
    have hrq:StrsIn wq (.slice Ar row.length pr) row:=StrsIn.kept HRS0.out hbq
    have HQL:Hid (tv.length≤k∧([]:List (Value×Int)).length≤k):=⟨by rw [HLEN.out];exact hXL,Nat.zero_le _⟩
    obtain ⟨tq,u,Y,y,Q,q,e1,e2,e3,e4,e5,e6⟩:∃ tq u Y y Q q,tq=tv∧u=Value.slice none 0 0∧Y=X∧y=([]:List (Value×Int))∧Q=P∧q=([]:List Tm):=⟨_,_,_,_,_,_,rfl,rfl,rfl,rfl,rfl,rfl⟩
    rw [←e1,←e2,←e3,←e4,←e5,←e6] at hPG
    replace HNEW:Hid (cutL (l.take (k+1))=Q++[q++[(row,n)]]):=by show _=_;rw [e5,e6];exact HNEW.out
    rw [←e1,←e4] at HQL
    clear hO7 hg7 ha7 HPa HLIT e1 e2 e3 e4 e5 e6 HLEN HBXa HRXa HBBa HXS d0
    clear x1 x2
   case' neg =>
    have d0:((k:Int)==0)=false:=by rw [beq_eq_false_iff_ne];omega
    cases hbk:begR row
    case' true =>
     rw [hbk] at HF
     have HNEW:Hid (cutL (l.take (k+1))=P++[[]++[(row,n)]]):=HCUT.out.trans (addCut_new (.inr hbk))
     clear hk0 hbk
     go_wp2_with (first|(go_at_call 81;refine HF.out.stepB (w0:=wr) (B:=wr.heap.size) HQ0.out (by have:=HQ0.out.size;exact this) ?_;intro w2 hb2 hB2 hq2;have HP2:=Lib.hid (HPX.out.later hq2);have HBX2:=Lib.hid (HBX.out.later hq2);have HRX2:Hid (StrsIn w2 (.slice Ar row.length pr) row):=StrsIn.kept HRX.out hq2;have HBB2:=Lib.hid (HBB.out.trans (hq2.mono HBB.out.size));clear hb2 hB2 hq2 HPX HBX HRX HBB x1 x2;have HLEN:=Lib.hid HP2.out.g.len;have hqa:Below (w2).heap.size (w2) ((w2).alloc (.cells #[.slice none 0 0] 26)):=Below.alloc (.refl _ _) (Nat.le_refl _) _;have HPa:=Lib.hid (HP2.out.later hqa);have HBXa:=Lib.hid (HBX2.out.later hqa);have HRXa:Hid (StrsIn ((w2).alloc (.cells #[.slice none 0 0] 26)) (.slice Ar row.length pr) row):=StrsIn.kept HRX2.out hqa;have HBBa:=Lib.hid (HBB2.out.trans (hqa.mono HBB2.out.size));have HLIT:Hid (SliceOf ((w2).alloc (.cells #[.slice none 0 0] 26)) 1 (.slice (some ⟨w2.heap.size,0,none⟩) 1 1) 1 [.slice none 0 0]):=(by show SliceOf _ _ _ _ _;simpa using lit_ones (fun _:Unit=>Value.slice none 0 0) (w2) 26 [()] (by show 1≤1000;decide));clear hqa HP2 HBX2 HRX2 HBB2)|(at_builtin;refine wpList_append_src rfl (.tmp 21) (.tmp 22) 73 rfl 26 n0 (.slice none 0 0) 1 24 Tryz.underlying73 hn nz0 nz1 nz2 rfl (by decide) (B:=w.heap.size) (.slice A9 tv.length p9) tv.length tv rfl HPa.out.g.own (.slice (some ⟨w2.heap.size,0,none⟩) 1 1) 1 [.slice none 0 0] rfl HLIT.out one_nil (by unfold maxLen;have:=HLEN.out;omega) (by have:=HLEN.out;omega) HBBa.out.size ?_))
     intro v7 wq hO7 hg7 ha7
     have hPG:=HPa.out.push hg7 (by simpa using ha7) hO7
     have hbq:=HBBa.out.grown hg7 HBBa.out.size (fun q hq=>(HPa.out.g.own.lt q hq).1)
     have hbx:BoxOf wq wr.heap.size (.slice Ar row.length pr) n:=Own.other HBXa.out hg7 (fun j hj e=>by
      have h1:=HXV.out j e.symm
      simp only [Value.ownBlock,Option.some.injEq] at hj
      omega)
     have hrq:StrsIn wq (.slice Ar row.length pr) row:=StrsIn.kept HRS0.out hbq
     have HQL:Hid (tv.length≤k∧([]:List (Value×Int)).length≤k):=⟨by rw [HLEN.out];exact hXL,Nat.zero_le _⟩
     obtain ⟨tq,u,Y,y,Q,q,e1,e2,e3,e4,e5,e6⟩:∃ tq u Y y Q q,tq=tv∧u=Value.slice none 0 0∧Y=X∧y=([]:List (Value×Int))∧Q=P∧q=([]:List Tm):=⟨_,_,_,_,_,_,rfl,rfl,rfl,rfl,rfl,rfl⟩
     rw [←e1,←e2,←e3,←e4,←e5,←e6] at hPG
     replace HNEW:Hid (cutL (l.take (k+1))=Q++[q++[(row,n)]]):=by show _=_;rw [e5,e6];exact HNEW.out
     rw [←e1,←e4] at HQL
     clear hO7 hg7 ha7 HPa HLIT e1 e2 e3 e4 e5 e6 HLEN HBXa HRXa HBBa HXS d0
    case' false =>
     rw [hbk] at HF
     obtain ⟨vx,hvx⟩:∃ vx,vx=Value.slice A9 tv.length p9:=⟨_,rfl⟩
     rw [←hvx] at HPX HXV ⊢
     clear hvx
     rcases snoc_or P with hP0 | ⟨Q,q,hQ⟩
     case' inl=>exact absurd (HCE.out.1 hP0) hk0
     case' inr =>
      subst hQ
      have HNEW:Hid (cutL (l.take (k+1))=Q++[q++[(row,n)]]):=HCUT.out.trans (addCut_last Q q hbk)
      obtain ⟨Y,y,hXe,hY,hy⟩:=HPX.out.rows.snoc
      subst hXe
      have hlen:=HPX.out.g.len
      obtain ⟨tq,u,hte⟩:∃ tq u,tv=tq++[u]:=by
       rcases List.eq_nil_or_concat tv with e | ⟨tq,u,e⟩
       ·rw [e] at hlen;simp at hlen
       ·exact ⟨tq,u,by simpa using e⟩
      subst hte
      have HQL:Hid (tq.length≤k∧y.length≤k):=⟨by simp at hlen hXL;omega,HXS.out y (by simp)⟩
      obtain ⟨hlq0,hu0,g0,offg0,capg0,hv0,hh0⟩:=HPX.out.g.last
      clear hlq0 hu0 hh0
      subst hv0
      obtain ⟨M0,hM0⟩:∃ M0,tq.length+1=M0:=⟨_,rfl⟩
      rw [hM0] at HPX HXV ⊢
      have qm:IntKind.i64.wrap ((M0:Int)-1)=((tq.length:Nat):Int):=by rw [IntKind.wrap_i64];have:=HQL.out.1;omega
      clear hM0
      clear hk0 hY hy hlen HXS hbk
      go_wp2_with (go_at_call 81;refine HF.out.stepB (w0:=wr) (B:=wr.heap.size) HQ0.out (by have:=HQ0.out.size;exact this) ?_;intro w2 hb2 hB2 hq2;have HP2:=Lib.hid (HPX.out.later hq2);have HBX2:=Lib.hid (HBX.out.later hq2);have HRX2:Hid (StrsIn w2 (.slice Ar row.length pr) row):=StrsIn.kept HRX.out hq2;have HBB2:=Lib.hid (HBB.out.trans (hq2.mono HBB.out.size));clear hb2 hB2 hq2 HPX HBX HRX HBB x1 x2)
      obtain ⟨wq,hwq⟩:∃ wq,wq=w2:=⟨w2,rfl⟩
      subst hwq
      have hPG:=HP2.out
      have hbq:=HBB2.out
      have hbx:=HBX2.out
      have hrq:StrsIn wq (.slice Ar row.length pr) row:=HRX2.out
      clear HP2 HBX2 HRX2 HBB2
   all_goals
    obtain ⟨hlq,hu,g,offg,capg,hve,hBg,hgl,cg,fg,hne⟩:=hPG.g.last
    obtain ⟨M,hM⟩:∃ M,tq.length+1=M:=⟨_,rfl⟩
    rw [hM] at hve
    first|subst hve|(simp only [Value.slice.injEq,Option.some.injEq,Addr.mk.injEq,and_true] at hve;obtain ⟨⟨hg1,hg2⟩,hg3,hg4⟩:=hve;replace hg1:=hg1.symm;replace hg2:=hg2.symm;replace hg3:=hg3.symm;replace hg4:=hg4.symm;subst hg1;subst hg2;subst hg3;subst hg4)
    obtain ⟨Au,pu,rfl⟩:=hu.len
    obtain ⟨hq1,hq2⟩:=HQL.out
    obtain ⟨z0,z1,_,_⟩:=hbx.cells
    have HRF:Hid (∀ v',Fresh wq.heap.size v'→RowOff (.slice (some ⟨g,offg,none⟩) M capg) v'∧∀ j∈tq++[Value.slice Au y.length pu],RowOff j v'):=fun v' hf=>⟨RowOff.of_fresh hf (fun j hj=>by simp only [Value.ownBlock,Option.some.injEq] at hj;omega),fun j hj=>by
     obtain ⟨i,hi,rfl⟩:=List.mem_iff_getElem.1 hj
     exact RowOff.of_fresh hf (fun b hb=>((hPG.g.inn i hi (by have:=hPG.g.len;omega)).lt b hb).2)⟩
    have HPG:=Lib.hid hPG
    have HBQ:=Lib.hid hbq
    have HU:=Lib.hid hu
    have HBg:=Lib.hid hBg
    have HCG:=Lib.hid cg
    have HZ0:=Lib.hid z0
    have HZ1:=Lib.hid z1
    have hb0:Below wq.heap.size wq wq.drew:=Below.drew (.refl _ _)
    have HB0:=Lib.hid hb0
    have HCL:=Lib.hid (clone_row_calls (w:=wq.drew) (StrsIn.kept hrq hb0) HSR.out)
    unfold GivesOwnRow at HCL
    clear hPG hbq hu hlq hne HQL hbx hrq hb0
    generalize hml:tq.length=m at *
    have HML:=Lib.hid hml
    clear hml
    have q1:IntKind.i64.wrap ((M:Int)-1)=(m:Int):=by rw [IntKind.wrap_i64];omega
    have q2:(0:Int)≤(m:Int):=by omega
    have q3:(m:Int) < (M:Int):=by omega
    generalize hyl:y.length=yl at *
    have HYL:=Lib.hid hyl
    clear hyl
    generalize hyx:timesV y=yv at *
    have HYX:=Lib.hid hyx
    clear hM hyx
    go_wp2_with fail
    go_region_law (first
     | (refine step_append_src rfl (.tmp 32) (.tmp 39) 26 rfl 46 m0 (.agg #[.slice none 0 0,.int .i64 0]) 2 32 Tryz.underlying26 hm mz0 mz1 mz2 rfl (by decide) (.slice Au yl pu) yl yv ?_ ((HU.out.later HQ4.out).alloc _) (.slice (some ⟨w4.heap.size,0,none⟩) 1 1) 1 [.slice A5 row.length p5,.int .i64 n] ?_ HLIT2.out HONE.out ?_ ?_ ?_ ?_;rfl;rfl;(focus (unfold maxLen;omega));omega;(focus (have h1:=HB4.out.size;simp;omega));intro v7 w7 hO7 hg7 ha7;obtain ⟨A7,p7,rfl⟩:=hO7.len;obtain ⟨s7,f7⟩:=HPG4.out.g.slot hg7;rw [HML.out] at s7 f7)
     | (go_simp;go_at_call 58;refine HCL.out.mono ?_;rintro e w4 ⟨A5,p5,rfl,hs5,hf5,hq40⟩;have HQ4:=Lib.hid (HB0.out.trans hq40);have y0:=cell_kept HCG.out HQ4.out;have y1:=cell_kept HZ0.out HQ4.out;have y2:=cell_kept HZ1.out HQ4.out;have HLIT2:=Lib.hid (lit_tm w4 46 (.slice A5 row.length p5) n);have HONE:=Lib.hid (one_tm hs5 n);have hqa:Below w4.heap.size w4 (w4.alloc (.cells #[.slice A5 row.length p5,.int .i64 n] 46)):=Below.alloc (.refl _ _) (Nat.le_refl _) _;have z4:=cell_kept y0 hqa;have z5:=cell_kept y1 hqa;have z6:=cell_kept y2 hqa;have HPG4:=Lib.hid ((HPG.out.later HQ4.out).later hqa);have HB4:=Lib.hid (HBQ.out.trans (HQ4.out.mono HBQ.out.size));have HS5:Hid (StrsIn (w4.alloc (.cells #[.slice A5 row.length p5,.int .i64 n] 46)) (.slice A5 row.length p5) row):=StrsIn.kept hs5 hqa;have HFR:Hid (Fresh wq.heap.size (.slice A5 row.length p5)):=hf5;clear hs5 hf5 hq40 hqa))
    all_goals
     have hgr:=HPG4.out.grew (u':=.slice A7 (yl+1) p7) (rv:=.slice A5 row.length p5) (row:=row) (c:=n) hg7 ha7 (by rw [HYL.out,HYX.out];exact hO7) HS5.out (HRF.out _ HFR.out).1 (HRF.out _ HFR.out).2
     rw [HML.out] at hgr
     have HGR:Hid (∃ tv X,PCopied (w7.setCell ⟨g,offg+m,none⟩ (.slice A7 (yl+1) p7)) w.heap.size (.slice (some ⟨g,offg,none⟩) M capg) tv X (cutL (l.take (k+1)))):=by
      rw [HNEW.out]
      exact ⟨_,_,hgr⟩
     have hbn:=((HB4.out.alloc HB4.out.size _).grown hg7 (by have:=HB4.out.size;simp;omega) (fun j hj=>(HU.out.lt j hj).1)).setCell (p:=⟨g,offg+m,none⟩) HBg.out (.slice A7 (yl+1) p7)
     clear s7 f7 hg7 ha7 hO7 hgr
     go_wp2
     go_roundw
     case rel=>exact ⟨k+1,by omega,by go_num,HGR.out,hbn⟩
     case measure=>simp [intOf];omega
  ·obtain rfl:k=l.length:=by omega
   rw [List.take_length] at hP
   have HPI:=Lib.hid hP.pieces
   clear hP
   go_wp2
   go_ret
   exact ⟨_,rfl,HPI.out,hb⟩
set_option maxHeartbeats 2000000 in
set_option maxRecDepth 100000 in
theorem cut_blocks_new {w:World}{v:Value}{l:List Tm}(h:TimesIn w v l)(K:Nat)(hK:∀ t∈l,K≤t.1.length∧∀ c∈t.1,c.size≤1000000)(hKb:K≤1000000)(hl:l.length≤4096)(hr:InR (l.map Prod.snd))(hS:ShortR l) :
  Calls Tryz.prog 41 #[v,.int .i64 K] w (BlocksNew w (blksL (cutL l) K)):=by
 obtain ⟨b0,hi,bz0,bz1,bz2⟩:=info_parts Tryz.infoCc72
 obtain ⟨hb,hB⟩:=start w
 have HCUT:=Lib.hid (cut_cut_calls h hl (fun t ht c hc=>(hK t ht).2 c hc) hS)
 obtain ⟨tvl,A,cap,rfl,_,_⟩:=times_at h
 have HOF:Hid (∀ p∈cutL l,∀ w' v',TimesIn w' v' p→Calls Tryz.prog 60 #[v',.int .i64 K] w' (OfNew w' p K)):=fun p hp w' v' hv =>
  block_of_new hv K (fun t ht=>hK t (piece_mem hp ht)) hKb (Nat.le_trans (piece_small hp) hl) (piece_inr hp hr)
 have hPL:(cutL l).length≤4096:=Nat.le_trans (cutL_length_le l) hl
 clear h hK hr hS
 generalize cutL l=P at *
 unfold BlocksNew
 go_enter Tryz.func41,Tryz.ntmps41
 go_wp2_with fail
 refine HCUT.out.mono ?_
 rintro e w1 ⟨v1,rfl,hP,hq⟩
 obtain ⟨A1,p1,rfl,hat⟩:=pieces_at hP
 have HAT:=Lib.hid hat
 replace hb:=hb.trans (hq.mono hB)
 have HB:=Lib.hid hb
 have HWS:=Lib.hid hq.size
 clear hP hat hq HCUT hb hB
 go_wp2_with fail
 go_loopw [5,7,11] (fun x _ i wr=>∃ k:Nat,k≤P.length∧i=.int .i64 k∧(∃ tv,BlksOwn wr w1.heap.size x tv∧Hid (tv.map Prod.snd=blksL (P.take k) K)∧Hid (∀ t∈tv,Fresh w.heap.size t.1))∧Below w1.heap.size w1 wr) (fun _ _ i _=>P.length-(intOf i).toNat)
 case atStart=>exact ⟨0,Nat.zero_le _,rfl,⟨[],BlksOwn.nil_ _ _,rfl,fun _ h=>absurd h (by simp)⟩,.refl _ _⟩
 case round =>
  obtain ⟨k,hk,rfl,⟨tv,hO,HE,HFT⟩,hb⟩:=hrel
  have hB:=hb.size
  by_cases hlt:k < P.length
  ·obtain ⟨b,off,rfl,hbl,hc⟩:=HAT.out k hlt
   obtain ⟨pv,hpv,c1⟩:=hc k hlt
   have x1:=(hb.cell (p:=⟨b,off+k,none⟩) hbl).trans c1
   have HO:=Lib.hid (HOF.out P[k] (List.getElem_mem hlt) wr pv (hpv.kept hb))
   have HNX:=Lib.hid (blksL_snoc P K k hlt)
   have hlen:tv.length=k:=by
    have:=congrArg List.length HE.out
    rw [List.length_map] at this
    rw [this];unfold blksL;rw [List.length_map,List.length_take];omega
   have HLEN:=Lib.hid hlen
   have HOWN:=Lib.hid hO
   obtain ⟨A9,p9,rfl⟩:=hO.own.len
   obtain ⟨tvp,Ap,pp,rfl,_,_⟩:=times_at hpv
   clear c1 hc hpv hO
   generalize P[k]=p at *
   clear hlen
   go_wp2_with fail
   refine HO.out.mono ?_
   rintro e w3 ⟨cv,rfl,hcs,hfr,hq⟩
   obtain ⟨Ac,pc,rfl,hone⟩:=one_at hcs
   clear hone
   have hO3:=HOWN.out.later hq
   have hb3:=hb.trans (hq.mono hB)
   have hqa:Below w3.heap.size w3 (w3.alloc (.cells #[.int .i64 (blockOf p K).1,.slice Ac (colsT p K).length pc,.string (blockOf p K).2.2] 72)):=Below.alloc (.refl _ _) (Nat.le_refl _) _
   have HO4:=Lib.hid (hO3.later hqa)
   have HB4:=Lib.hid (hb3.trans (hqa.mono hb3.size))
   have HS4:Hid (StrsIn (w3.alloc (.cells #[.int .i64 (blockOf p K).1,.slice Ac (colsT p K).length pc,.string (blockOf p K).2.2] 72)) (.slice Ac (colsT p K).length pc) (blockOf p K).2.1):=StrsIn.kept hcs hqa
   have HLIT:=Lib.hid (lit_blk w3 72 (.slice Ac (colsT p K).length pc,blockOf p K))
   have HONE:=Lib.hid (one_blk (w:=w3) (t:=(.slice Ac (colsT p K).length pc,blockOf p K)) hcs)
   have HOFF:=Lib.hid (RowOff.of_fresh (v:=.slice A9 tv.length p9) hfr (fun j hj=>(HOWN.out.own.lt j hj).2))
   have HFW:Hid (Fresh w.heap.size (.slice Ac (colsT p K).length pc)):=hfr.mono (by have:=HWS.out;omega)
   clear hcs hfr hq hO3 hb3 hqa HOWN x1 hb hB
   unfold blkC at HLIT HONE
   unfold blkA
   dsimp only at HLIT HONE ⊢
   generalize (colsT p K).length=cl at *
   generalize blockOf p K=bk at *
   obtain ⟨bn,bc,bs⟩:=bk
   dsimp only at *
   go_wp2_with (at_builtin;refine wpList_append_src rfl (.tmp 15) (.tmp 19) 25 rfl 72 b0 (.agg #[.int .i64 0,.slice none 0 0,.string ⟨#[]⟩]) 3 48 Tryz.underlying25 hi bz0 bz1 bz2 rfl (by decide) (B:=w1.heap.size) (.slice A9 tv.length p9) tv.length (blksV tv) rfl HO4.out.own (.slice (some ⟨w3.heap.size,0,none⟩) 1 1) 1 [.int .i64 bn,.slice Ac cl pc,.string bs] rfl HLIT.out HONE.out (by unfold maxLen;have:=HLEN.out;omega) (by have:=HLEN.out;omega) HB4.out.size ?_)
   intro v7 w7 hO7 hg7 ha7
   have HN:=Lib.hid (HO4.out.add (t:=(.slice Ac cl pc,(bn,bc,bs))) HS4.out HOFF.out hg7 (by simpa using ha7) hO7)
   have hbn:=HB4.out.grown hg7 HB4.out.size (fun q hq=>(HO4.out.own.lt q hq).1)
   have HE2:Hid ((tv++[(Value.slice Ac cl pc,(bn,bc,bs))]).map Prod.snd=blksL (P.take (k+1)) K):=by
    show _=_
    rw [HNX.out,List.map_append,HE.out];rfl
   have HFT2:Hid (∀ t∈tv++[(Value.slice Ac cl pc,(bn,bc,bs))],Fresh w.heap.size t.1):=fun t ht=>by
    rcases List.mem_append.1 ht with ht|ht
    ·exact HFT.out t ht
    ·rw [List.mem_singleton.1 ht];exact HFW.out
   clear hO7 hg7 ha7 HO4 HLIT HONE HOFF HS4 HB4
   go_wp2
   go_roundw
   case rel=>exact ⟨k+1,by omega,by go_num,⟨_,HN.out,HE2,HFT2⟩,hbn⟩
   case measure=>simp [intOf];omega
  ·obtain rfl:k=P.length:=by omega
   rw [List.take_length] at HE
   have hlen:tv.length=(blksL P K).length:=by rw [←HE.out,List.length_map]
   have HBI:Hid (SliceOf wr 3 _ (blksL P K).length (blksV tv)):=hlen▸hO.own.slice
   have HCO:=Lib.hid hO.cols
   have HOW:=Lib.hid hO
   have hbe:=HB.out.trans (hb.mono HB.out.size)
   have HLEN:=Lib.hid hlen
   clear hO hlen
   go_wp2
   go_ret
   exact ⟨_,tv,rfl,HE.out,HBI.out,HCO.out,HFT.out,fun q hq=>Nat.le_trans HWS.out (HOW.out.own.lt q hq).1,hbe⟩
end Go.Proofs.YtafmbnafibahkaaGreat
