/- The contracts of layer 14's own functions: Apply, and all together. -/
import Derived.Test.YtafmbnafibahkaaGreatGWeighFns
import Derived.Test.YtafmbnafibahkaaGreatGWeighLib
import Derived.Test.YtafmbnafibahkaaGreatGWeighOwn
import Derived.Test.YtafmbnafibahkaaGreatGCutOwn
import Derived.Test.YtafmbnafibahkaaGreatGCutOwnA
import Derived.Test.YtafmbnafibahkaaGreatGShapeZ
import Derived.Test.YtafmbnafibahkaaGreatGTableRef
import Derived.Test.YtafmbnafibahkaaGreatGZCalm
import Derived.Deep.RegionLaw
namespace Go.Proofs.YtafmbnafibahkaaGreat
open Go Go.RowKit
set_option maxHeartbeats 1000000 in
theorem clone_cols_calls {w:World}{v:Value}{l:List (Int×Bool)}(h:ColsIn w v l)(hl:l.length≤1000000):Calls Tryz.prog 33 #[v] w fun e w'=>∃ A p,e=.returned (.slice A l.length p)∧ColsIn w' (.slice A l.length p) l∧Fresh w.heap.size (.slice A l.length p)∧Below w.heap.size w w':=by
 obtain ⟨i0,hi,hz0,hz1,hz2⟩:=info_parts Tryz.infoCn58
 obtain ⟨hb,hB⟩:=start w
 obtain ⟨A,c,rfl,hat⟩:=clone_cells h
 have H:=Lib.hid h
 cases A with
 | none =>
  have h0:l=[]:=List.eq_nil_of_length_eq_zero (hat rfl)
  subst h0
  clear hat h
  have q22:∀ (w:World) (a:Option Addr) (n c n' c':Nat),(binOp .eql 22 (.slice a n c) (.slice none n' c')).run Tryz.prog w=.ok (.bool a.isNone) w:=fun w a n c n' c'=>Lib.run_eql_slice_nil w _ _ a n c n' c' Tryz.underlying22
  go_enter Tryz.func33,Tryz.ntmps33
  go_wp2
  go_ret
  exact ⟨_,_,rfl,nil_cols _ _ _,fresh_nil _,hb⟩
 | some ad =>
  clear hat h
  have q22:∀ (w:World) (a:Option Addr) (n c n' c':Nat),(binOp .eql 22 (.slice a n c) (.slice none n' c')).run Tryz.prog w=.ok (.bool a.isNone) w:=fun w a n c n' c'=>Lib.run_eql_slice_nil w _ _ a n c n' c' Tryz.underlying22
  go_enter Tryz.func33,Tryz.ntmps33
  go_wp2_with (at_builtin;refine wpList_append_src rfl (.tmp 5) (.tmp 6) 22 rfl 58 i0 (.agg #[.int .u8 0,.bool false]) 2 2 Tryz.underlying22 hi hz0 hz1 hz2 rfl (by decide) (B:=w.heap.size) _ 0 [] rfl (own_empty 2 (Nat.le_refl _) (by simp)) _ l.length (colsV l) rfl (SliceOf.alloc H.out _) (one_cols _) (by unfold maxLen;omega) (by omega) (by simp) ?_)
  intro v7 w7 hO7 hg7 _
  have hb7:=boxed_below hg7
  have hO:Own w7 w.heap.size 2 v7 l.length (colsV l):=by simpa using hO7
  clear hO7 hg7 hb hB
  obtain ⟨A9,p9,rfl⟩:=hO.len
  have HF:Hid (Fresh w.heap.size (.slice A9 l.length p9)):=fun k hk=>(hO.lt k hk).1
  have HS:Hid (ColsIn w7 (.slice A9 l.length p9) l):=hO.slice
  clear hO
  go_wp2
  go_ret
  exact ⟨_,_,rfl,HS.out,HF.out,hb7⟩
theorem clone_cells3 {w:World}{v:Value}{n:Nat}{xs:List Value}(h:SliceOf w 3 v n xs):∃ A c,v=.slice A n c∧(A=none→n=0):=by
 obtain ⟨A,c,e,hat⟩:=h.at_
 refine ⟨A,c,e,fun h0=>?_⟩
 rcases Nat.eq_zero_or_pos n with hn|hn
 ·exact hn
 ·obtain ⟨b,off,e1,_⟩:=hat hn
  rw [h0] at e1;cases e1
set_option maxHeartbeats 1000000 in
theorem clone_blks_calls {w:World}{v:Value}{n:Nat}{xs:List Value}(h:SliceOf w 3 v n xs)(h1:∀ u∈xs,u.oneCell'=true)(hl:n≤1000000):Calls Tryz.prog 57 #[v] w fun e w'=>∃ A p,e=.returned (.slice A n p)∧Own w' w.heap.size 3 (.slice A n p) n xs∧Below w.heap.size w w':=by
 obtain ⟨i0,hi,hz0,hz1,hz2⟩:=info_parts Tryz.infoCc72
 obtain ⟨hb,hB⟩:=start w
 obtain ⟨A,c,rfl,hat⟩:=clone_cells3 h
 have H:=Lib.hid h
 have H1:=Lib.hid h1
 clear h1
 cases A with
 | none =>
  have h0:=hat rfl
  subst h0
  have hx:xs=[]:=List.eq_nil_of_length_eq_zero (by have:=h.1;omega)
  subst hx
  clear hat h
  have q22:∀ (w:World) (a:Option Addr) (n c n' c':Nat),(binOp .eql 25 (.slice a n c) (.slice none n' c')).run Tryz.prog w=.ok (.bool a.isNone) w:=fun w a n c n' c'=>Lib.run_eql_slice_nil w _ _ a n c n' c' Tryz.underlying25
  go_enter Tryz.func57,Tryz.ntmps57
  go_wp2
  go_ret
  exact ⟨_,_,rfl,Own.nil_ _ _ _,hb⟩
 | some ad =>
  clear hat h
  have q22:∀ (w:World) (a:Option Addr) (n c n' c':Nat),(binOp .eql 25 (.slice a n c) (.slice none n' c')).run Tryz.prog w=.ok (.bool a.isNone) w:=fun w a n c n' c'=>Lib.run_eql_slice_nil w _ _ a n c n' c' Tryz.underlying25
  go_enter Tryz.func57,Tryz.ntmps57
  go_wp2_with (at_builtin;refine wpList_append_src rfl (.tmp 5) (.tmp 6) 25 rfl 72 i0 (.agg #[.int .i64 0,.slice none 0 0,.string ⟨#[]⟩]) 3 48 Tryz.underlying25 hi hz0 hz1 hz2 rfl (by decide) (B:=w.heap.size) _ 0 [] rfl (own_empty 3 (Nat.le_refl _) (by simp)) _ n xs rfl (SliceOf.alloc H.out _) H1.out (by unfold maxLen;omega) (by omega) (by simp) ?_)
  intro v7 w7 hO7 hg7 _
  have hb7:=boxed_below hg7
  have hO:Own w7 w.heap.size 3 v7 n xs:=by simpa using hO7
  clear hO7 hg7 hb hB
  obtain ⟨A9,p9,rfl⟩:=hO.len
  have HO:=Lib.hid hO
  clear hO
  go_wp2
  go_ret
  exact ⟨_,_,rfl,HO.out,hb7⟩
def CopyS (B:Nat)(wr:World)(bv:Value)(tv0:List (Value×Blk))(k:Nat):Prop :=
 ∃ tn:List (Value×Blk),tn.length=k∧tn.map Prod.snd=(tv0.map Prod.snd).take k∧Own wr B 3 bv tv0.length (blksV (tn++tv0.drop k))∧∀ t∈tn,StrsIn wr t.1 t.2.2.1∧Fresh B t.1∧RowOff bv t.1
theorem blksV_set1:∀ (tv:List (Value×Blk))(k:Nat)(u:Value),(blksV tv).set (k*3+1) u=blksV (tv.set k (u,(tv[k]?.getD (u,(0,[],⟨#[]⟩))).2))
 | [],k,u=>by simp [blksV]
 | t::tv,0,u=>rfl
 | t::tv,k+1,u=>by
  have e1:(k+1)*3+1=(k*3+1)+3:=by omega
  rw [e1]
  show .int .i64 t.2.1::t.1::.string t.2.2.2::(blksV tv).set (k*3+1) u=_
  rw [blksV_set1 tv k u]
  rfl
theorem drop_set_snoc {tv0 tn:List (Value×Blk)}{k:Nat}(hk:k < tv0.length)(hl:tn.length=k)(u:Value):(tn++tv0.drop k).set k (u,((tn++tv0.drop k)[k]?.getD (u,(0,[],⟨#[]⟩))).2)=(tn++[(u,tv0[k].2)])++tv0.drop (k+1):=by
 subst hl
 have e:tv0.drop tn.length=tv0[tn.length]::tv0.drop (tn.length+1):=List.drop_eq_getElem_cons hk
 rw [e,List.set_append_right _ _ (Nat.le_refl _),List.getElem?_append_right (Nat.le_refl _),Nat.sub_self,List.append_assoc]
 rfl
theorem CopyS.start {B:Nat}{wr:World}{bv:Value}{tv0:List (Value×Blk)}(h:Own wr B 3 bv tv0.length (blksV tv0)):CopyS B wr bv tv0 0 :=
 ⟨[],rfl,by simp,by simpa using h,fun t ht=>absurd ht (by simp)⟩
theorem CopyS.next {B g off cap k:Nat}{wr wx:World}{A:Option Addr}{p m:Nat}{tv0:List (Value×Blk)}(h:CopyS B wr (.slice (some ⟨g,off,none⟩) tv0.length cap) tv0 k)(hk:k < tv0.length)(hq:Below wr.heap.size wr wx)
  (hs:StrsIn wx (.slice A m p) (tv0[k].2.2.1)) (hf:Fresh wr.heap.size (.slice A m p)) (hB:B≤wr.heap.size):CopyS B (wx.setCell ⟨g,off+k*3+1,none⟩ (.slice A m p)) (.slice (some ⟨g,off,none⟩) tv0.length cap) tv0 (k+1):=by
 obtain ⟨tn,h1,h2,h3,h4⟩:=h
 have hO:=h3.later hq
 have hlt:=(h3.lt g rfl).2
 have hst:=Own.stored hO (k*3+1) (by omega) (.slice A m p)
 rw [blksV_set1,drop_set_snoc hk h1,←Nat.add_assoc] at hst
 have hoff:RowOff (.slice (some ⟨g,off,none⟩) tv0.length cap) (.slice A m p):=RowOff.of_fresh hf fun j hj=>by
  simp only [Value.ownBlock,Option.some.injEq] at hj;omega
 have hgr:wx.grownBy (wx.setCell ⟨g,off+k*3+1,none⟩ (.slice A m p)) (some g):=setCells_grown g [.slice A m p] (off+k*3+1) wx
 refine ⟨tn++[(.slice A m p,tv0[k].2)],by simp [h1],?_,hst,fun t ht=>?_⟩
 ·rw [List.map_append,h2,take_add _ k (by simpa using hk)];simp
 ·rcases List.mem_append.1 ht with ht|ht
  ·obtain ⟨k1,k2,k3⟩:=h4 t ht
   exact ⟨StrsIn.off (v:=.slice (some ⟨g,off,none⟩) tv0.length cap) (StrsIn.kept k1 hq) k3 hgr,k2,k3⟩
  ·rw [List.mem_singleton.1 ht]
   exact ⟨StrsIn.off (v:=.slice (some ⟨g,off,none⟩) tv0.length cap) hs hoff hgr,hf.mono hB,hoff⟩
theorem CopyS.later {B k:Nat}{wr wx:World}{bv:Value}{tv0:List (Value×Blk)}(h:CopyS B wr bv tv0 k)(hq:Below wr.heap.size wr wx):CopyS B wx bv tv0 k:=by
 obtain ⟨tn,h1,h2,h3,h4⟩:=h
 exact ⟨tn,h1,h2,h3.later hq,fun t ht=>⟨StrsIn.kept (h4 t ht).1 hq,(h4 t ht).2⟩⟩
theorem CopyS.at_ {B k:Nat}{wr:World}{bv:Value}{tv0:List (Value×Blk)}(h:CopyS B wr bv tv0 k)(hk:k < tv0.length):∃ g off cap,bv=.slice (some ⟨g,off,none⟩) tv0.length cap∧B≤g∧g < wr.heap.size∧wr.cell? ⟨g,off+k*3,none⟩=some (.int .i64 tv0[k].2.1)∧wr.cell? ⟨g,off+k*3+1,none⟩=some tv0[k].1∧wr.cell? ⟨g,off+k*3+2,none⟩=some (.string tv0[k].2.2.2)∧wr.frozen? ⟨g,off+k*3+1,none⟩=false:=by
 obtain ⟨tn,h1,h2,h3,h4⟩:=h
 have h3':=h3
 rcases h3.2.2 with ⟨_,e⟩ | ⟨g,off,cap,rfl,_⟩
 ·omega
 obtain ⟨k1,k2,k3,k4,k5⟩:=h3'.parts
 have hl:k < (tn++tv0.drop k).length:=by simp;omega
 have he:(tn++tv0.drop k)[k]'hl=tv0[k]:=by
  rw [List.getElem_append_right (by omega)]
  simp [h1]
 have hv:=blksV_get (tn++tv0.drop k) k hl
 rw [he] at hv
 exact ⟨g,off,cap,rfl,k1,k2,k4 _ _ hv.1,by rw [Nat.add_assoc];exact k4 _ _ hv.2.1,by rw [Nat.add_assoc];exact k4 _ _ hv.2.2,by rw [Nat.add_assoc];exact (k5 (k*3+1) (by omega)).2⟩
theorem CopyS.done {B:Nat}{wr:World}{bv:Value}{tv0:List (Value×Blk)}(Q:Value→Prop)(h:CopyS B wr bv tv0 tv0.length)(hQ:∀ u,Fresh B u→Q u):BlksQ Q wr bv (tv0.map Prod.snd):=by
 obtain ⟨tn,h1,h2,h3,h4⟩:=h
 rw [List.take_of_length_le (by simp)] at h2
 have hl:(tv0.map Prod.snd).length=tv0.length:=by simp
 refine ⟨tn,h2,?_,fun t ht=>(h4 t ht).1,fun t ht=>hQ _ (h4 t ht).2.1⟩
 rw [hl]
 have:=h3.slice
 rw [List.drop_length,List.append_nil] at this
 exact this
theorem CopyS.over {B O:Nat}{wr we:World}{bv:Value}{tv0:List (Value×Blk)}{Q:Value→Prop}(h:CopyS B wr bv tv0 tv0.length)(hg:wr.grownBy we (some O))(hO:O < B)(hQ:∀ u,Fresh B u→Q u):BlksQ Q we bv (tv0.map Prod.snd):=by
 have hf:Fresh B bv:=by
  obtain ⟨_,_,_,h3,_⟩:=h
  exact fun k hk=>(h3.lt k hk).1
 obtain ⟨tv,h1,h2,h3,h4⟩:=h.done (fun u=>Fresh B u) fun _ h=>h
 exact ⟨tv,h1,SliceOf.fresh h2 hf hg hO,fun t ht=>SliceOf.fresh (h3 t ht) (h4 t ht) hg hO,fun t ht=>hQ _ (h4 t ht)⟩
theorem one_blks {w:World}{tv:List (Value×Blk)}(h:∀ t∈tv,StrsIn w t.1 t.2.2.1):∀ u∈blksV tv,u.oneCell'=true:=by
 intro u hu
 unfold blksV at hu
 rw [List.mem_flatMap] at hu
 obtain ⟨t,ht,hu⟩:=hu
 exact one_blk (h t ht) u hu
theorem TBox.blk {w w':World}{O C:Nat}{n:ByteArray}{cv bv tv:Value}(h:TBox w O n cv bv tv)(hb:Below C w w')(hC:O < C):TBox w' O n cv bv tv :=
 Own.keep h hb.size fun k hk=>hb.block k (by simp only [Value.ownBlock,Option.some.injEq] at hk;omega)
def BlksF (B:Nat)(w:World)(v:Value)(l:List Blk):Prop:=∃ tv:List (Value×Blk),tv.map Prod.snd=l∧SliceOf w 3 v l.length (blksV tv)∧(∀ t∈tv,StrsIn w t.1 t.2.2.1)∧(∀ t∈tv,Fresh B t.1)∧Fresh B v
theorem BlksF.kept {B:Nat}{w w':World}{v:Value}{l:List Blk}(h:BlksF B w v l)(hb:Below w.heap.size w w'):BlksF B w' v l:=by
 obtain ⟨tv,h1,h2,h3,h4⟩:=h
 exact ⟨tv,h1,SliceOf.later h2 hb,fun t ht=>StrsIn.kept (h3 t ht) hb,h4⟩
theorem BlksF.over {B O:Nat}{w w':World}{v:Value}{l:List Blk}{Q:Value→Prop}(h:BlksF B w v l)(hg:w.grownBy w' (some O))(hO:O < B)(hQ:∀ u,Fresh B u→Q u):BlksQ Q w' v l:=by
 obtain ⟨tv,h1,h2,h3,h4,h5⟩:=h
 exact ⟨tv,h1,SliceOf.fresh h2 h5 hg hO,fun t ht=>SliceOf.fresh (h3 t ht) (h4 t ht) hg hO,fun t ht=>hQ _ (h4 t ht)⟩
theorem TBox.put1 {w:World}{O:Nat}{n:ByteArray}{cv bv tv:Value}(h:TBox w O n cv bv tv)(v:Value):TBox (w.setCell ⟨O,1,none⟩ v) O n v bv tv:=by
 have:=Own.stored h 1 (by decide) v
 simp only [Nat.zero_add] at this
 exact this
set_option maxHeartbeats 4000000 in
set_option maxRecDepth 100000 in
theorem table_copied_q (Q:Value→Prop){w:World}{v:Value}{t:Tbl}(h:TblInQ Q w v t)(hcl:t.cols.length≤1000)(hrl:(cutL t.R).length≤1000)(hcs:∀ b∈blksL (cutL t.R) t.cols.length,b.2.1.length≤1000000)(hQ:∀ u,Fresh w.heap.size u→Q u) :
  Calls Tryz.prog 40 #[v] w fun e w'=>∃ v',e=.returned v'∧TblInQ Q w' v' t∧Below w.heap.size w w':=by
 obtain ⟨cv,bv,tv,rfl,hT⟩:=h
 obtain ⟨⟨Ac,pc,rfl⟩,⟨Ab,pb,rfl⟩,⟨At,pt,rfl⟩⟩:=hT.of.slices
 obtain ⟨tv0,e0,hs0,hc0,_⟩:=hT.blks
 have HL0:=Lib.hid e0
 have hn:(cutL t.R).length=tv0.length:=by
  have:=congrArg List.length e0
  obtain ⟨A,c,e1,_⟩:=hs0.at_
  injection e1 with _ e2
  simp only [List.length_map] at this
  omega
 rw [←e0] at hcs hs0
 generalize (cutL t.R).length=n0 at *
 subst hn
 rw [List.length_map] at hs0
 have hq0:Below w.heap.size w (w.alloc (.cells #[.string t.name,.slice Ac t.cols.length pc,.slice Ab tv0.length pb,.slice At t.T.length pt] 28)):=Below.alloc (.refl _ _) (Nat.le_refl _) _
 have hqz:Below (w.alloc (.cells #[.string t.name,.slice Ac t.cols.length pc,.slice Ab tv0.length pb,.slice At t.T.length pt] 28)).heap.size (w.alloc (.cells #[.string t.name,.slice Ac t.cols.length pc,.slice Ab tv0.length pb,.slice At t.T.length pt] 28)) ((w.alloc (.cells #[.string t.name,.slice Ac t.cols.length pc,.slice Ab tv0.length pb,.slice At t.T.length pt] 28)).alloc (.cells #[.string ⟨#[]⟩,.slice none 0 0,.slice none 0 0,.slice none 0 0] 28)):=Below.alloc (.refl _ _) (Nat.le_refl _) _
 have hx:=(tbox_lit w 28 t.name (.slice Ac t.cols.length pc) (.slice Ab tv0.length pb) (.slice At t.T.length pt)).later hqz
 have hz:=tbox_lit (w.alloc (.cells #[.string t.name,.slice Ac t.cols.length pc,.slice Ab tv0.length pb,.slice At t.T.length pt] 28)) 28 ⟨#[]⟩ (.slice none 0 0) (.slice none 0 0) (.slice none 0 0)
 have hsz:(w.alloc (.cells #[.string t.name,.slice Ac t.cols.length pc,.slice Ab tv0.length pb,.slice At t.T.length pt] 28)).heap.size=w.heap.size+1:=by simp
 rw [hsz] at hz
 have hsz2:((w.alloc (.cells #[.string t.name,.slice Ac t.cols.length pc,.slice Ab tv0.length pb,.slice At t.T.length pt] 28)).alloc (.cells #[.string ⟨#[]⟩,.slice none 0 0,.slice none 0 0,.slice none 0 0] 28)).heap.size=w.heap.size+2:=by simp
 have hb:=hq0.trans (hqz.mono hq0.size)
 have HTAIL:=Lib.hid hT.tail
 have HQ:=Lib.hid hQ
 have HCS:=Lib.hid hcs
 have HC0:=Lib.hid hc0
 have HS0:=Lib.hid hs0
 have HCL:=Lib.hid (clone_cols_calls (hT.cols.kept hb) (by omega))
 clear hT hq0 hqz hsz hQ hcs hc0 hs0 e0
 go_enter Tryz.func40,Tryz.ntmps40
 obtain ⟨x0,x1,x2,x3,_⟩:=hx.cells
 obtain ⟨f0,f1,f2,f3⟩:=hx.free
 go_wp2_with fail
 generalize (w.alloc (.cells #[.string t.name,.slice Ac t.cols.length pc,.slice Ab tv0.length pb,.slice At t.T.length pt] 28)).alloc (.cells #[.string ⟨#[]⟩,.slice none 0 0,.slice none 0 0,.slice none 0 0] 28)=w1 at *
 clear x0 x1 x2 x3 f0 f1 f2 f3
 refine HCL.out.mono ?_
 rintro e w2 ⟨A2,p2,rfl,hs2,hf2,hq2⟩
 have hx2:=hx.later hq2
 have hx2b:=hx2.put1 (.slice A2 t.cols.length p2)
 have hgr2:=setCells_grown w.heap.size [Value.slice A2 t.cols.length p2] 1 w2
 simp only [World.setCells] at hgr2
 have hz2:=(hz.later hq2).other hgr2 (by simp)
 have hb2:=(hb.trans (hq2.mono hb.size)).setCell (p:=⟨w.heap.size,1,none⟩) (Nat.le_refl _) (.slice A2 t.cols.length p2)
 have hs2b:ColsIn (w2.setCell ⟨w.heap.size,1,none⟩ (.slice A2 t.cols.length p2)) (.slice A2 t.cols.length p2) t.cols:=SliceOf.fresh hs2 hf2 hgr2 (by omega)
 have hsz3:w.heap.size+2≤(w2.setCell ⟨w.heap.size,1,none⟩ (.slice A2 t.cols.length p2)).heap.size:=by have:=hq2.size;simp;omega
 have hf2b:Fresh (w.heap.size+2) (.slice A2 t.cols.length p2):=hf2.mono (by omega)
 have HCB:=Lib.hid (clone_blks_calls (SliceOf.later HS0.out hb2) (one_blks (fun t ht=>StrsIn.kept (HC0.out t ht) hb2)) (by omega))
 obtain ⟨x0,x1,x2,x3,_⟩:=hx2.cells
 obtain ⟨f0,f1,f2,f3⟩:=hx2.free
 obtain ⟨y0,y1,y2,y3,_⟩:=hx2b.cells
 clear hq2 hs2 hf2 hx hz hb HCL hgr2 hsz2 hx2
 go_wp2_with fail
 generalize w2.setCell ⟨w.heap.size,1,none⟩ (.slice A2 t.cols.length p2)=w3 at *
 clear x0 x1 x2 x3 f0 f1 f2 f3 y0 y1 y2 y3
 refine HCB.out.mono ?_
 rintro e w4 ⟨A4,p4,rfl,hO4,hq4⟩
 have hx4:=hx2b.later hq4
 have hx5:=hx4.put2 (.slice A4 tv0.length p4)
 have hgr4:=setCells_grown w.heap.size [Value.slice A4 tv0.length p4] 2 w4
 simp only [World.setCells] at hgr4
 have hz5:=(hz2.later hq4).other hgr4 (by simp)
 have hb5:=(hb2.trans (hq4.mono hb2.size)).setCell (p:=⟨w.heap.size,2,none⟩) (Nat.le_refl _) (.slice A4 tv0.length p4)
 have hO5:=hO4.other hgr4 (fun k hk e=>by have:=(hO4.lt k hk).1;injection e with e;omega)
 have HCOL:Hid (∀ wr,Below w3.heap.size (w4.setCell ⟨w.heap.size,2,none⟩ (.slice A4 tv0.length p4)) wr→ColsIn wr (.slice A2 t.cols.length p2) t.cols):=fun wr hbr =>
  SliceOf.keepOwn hs2b (Nat.le_trans (Nat.le_trans hq4.size hgr4.size) hbr.size) fun k hk hlt=>by
   rw [hbr.block k hlt,hgr4.block k (Nat.lt_of_lt_of_le hlt hq4.size) (fun e=>by have:=hf2b k hk;injection e with e;omega),hq4.block k hlt]
 have hB5:w3.heap.size≤(w4.setCell ⟨w.heap.size,2,none⟩ (.slice A4 tv0.length p4)).heap.size:=Nat.le_trans hq4.size hgr4.size
 obtain ⟨x0,x1,x2,x3,_⟩:=hx4.cells
 obtain ⟨f0,f1,f2,f3⟩:=hx4.free
 obtain ⟨y0,y1,y2,y3,_⟩:=hx5.cells
 have HF2:=Lib.hid hf2b
 clear hq4 hO4 hgr4 hx4 hx2b hz2 hb2 hs2b hf2b HCB
 go_wp2
 generalize w4.setCell ⟨w.heap.size,2,none⟩ (.slice A4 tv0.length p4)=w5 at *
 generalize w3.heap.size=B4 at *
 clear x0 x1 x2 x3 f0 f1 f2 f3 y0 y1 y2 y3
 have HX5:=Lib.hid hx5
 have HZ5:=Lib.hid hz5
 have HB5:=Lib.hid hb5
 have HSTART:=Lib.hid (CopyS.start hO5)
 have HB45:=Lib.hid hB5
 have HSZ:=Lib.hid hsz3
 clear hx5 hz5 hb5 hO5 hB5 hsz3
 go_loopw [16] (fun i wr=>∃ k:Nat,k≤tv0.length∧i=.int .i64 k∧Hid (Below B4 w5 wr)∧Hid (CopyS B4 wr (.slice A4 tv0.length p4) tv0 k)) (fun i _=>tv0.length-(intOf i).toNat)
 case atStart=>exact ⟨0,Nat.zero_le _,rfl,Below.refl _ _,HSTART.out⟩
 case round =>
  obtain ⟨k,hk,rfl,HB,HS⟩:=hrel
  by_cases hlt:k < tv0.length
  ·obtain ⟨g,off,cap,e,hBg,hg,c0,c1,c2,fr1⟩:=HS.out.at_ hlt
   injection e with e1 _ e3
   subst e1 e3
   have HBW:=Lib.hid (HB5.out.trans (HB.out.mono (by have:=HSZ.out;omega)))
   have hx6:=HX5.out.blk HB.out (by have:=HSZ.out;omega)
   have hsr:StrsIn wr tv0[k].1 tv0[k].2.2.1:=StrsIn.kept (HC0.out _ (List.getElem_mem hlt)) HBW.out
   have hlen:tv0[k].2.2.1.length≤1000000:=HCS.out tv0[k].2 (List.mem_map_of_mem (List.getElem_mem hlt))
   have HNX:Hid (∀ (wx:World) (A:Option Addr) (p m:Nat),Below wr.heap.size wr wx→StrsIn wx (.slice A m p) tv0[k].2.2.1→Fresh wr.heap.size (.slice A m p)→CopyS B4 (wx.setCell ⟨g,off+k*3+1,none⟩ (.slice A m p)) (.slice (some ⟨g,off,none⟩) tv0.length p4) tv0 (k+1)):=fun wx A p m hq hs hf=>HS.out.next hlt hq hs hf (Nat.le_trans HB45.out HB.out.size)
   obtain ⟨Ar,pr,er,-⟩:=one_at hsr
   rw [er] at c1 hsr
   clear er
   have i0:(0:Int)≤(k:Int):=by omega
   have i1:(k:Int) < (tv0.length:Int):=by omega
   have HSR0:=Lib.hid hsr
   have HLEN:=Lib.hid hlen
   clear hsr hlen
   generalize tv0[k].2.2.1=cols at *
   obtain ⟨ml,hml⟩:∃ ml,cols.length=ml:=⟨_,rfl⟩
   have HML:=Lib.hid hml
   rw [hml] at c1 HSR0
   clear hml
   generalize tv0[k].2.1=rows at *
   generalize tv0[k].2.2.2=txt at *
   have HB6:=Lib.hid (Below.alloc (.refl wr.heap.size wr) (Nat.le_refl _) (.cells #[.int .i64 rows,.slice Ar ml pr,.string txt] 72))
   have B1:Hid ((wr.alloc (.cells #[.int .i64 rows,.slice Ar ml pr,.string txt] 72)).cell? ⟨wr.heap.size,1,none⟩=some (.slice Ar ml pr)):=by show _=_;simp [go_sem]
   have HX6:=Lib.hid (hx6.later HB6.out)
   have HSR:=Lib.hid (StrsIn.kept HSR0.out HB6.out)
   have HOB:Hid (wr.heap.size < (wr.alloc (.cells #[.int .i64 rows,.slice Ar ml pr,.string txt] 72)).heap.size):=by show _ < _;simp
   have HGL:=Lib.hid (Nat.lt_of_lt_of_le hg HB6.out.size)
   have HB45R:=Lib.hid (Nat.le_trans HB45.out HB.out.size)
   have C1:=Lib.hid ((HB6.out.cell (p:=⟨g,off+k*3+1,none⟩) hg).trans c1)
   have F1:=Lib.hid ((HB6.out.frozen (p:=⟨g,off+k*3+1,none⟩) hg).trans fr1)
   obtain ⟨x0,x1,x2,x3,_⟩:=hx6.cells
   clear hx6
   go_wp2_with fail
   generalize wr.alloc (.cells #[.int .i64 rows,.slice Ar ml pr,.string txt] 72)=w6 at *
   clear x0 x1 x2 x3 c0 c1 c2 fr1
   refine wp_region_calm (offC w6) (fun k=>k==8) (fun _=>false) anyE true (by kernel_rfl) (by kernel_rfl) (by kernel_rfl) (by kernel_rfl) (by intro m hm;revert hm;simp;try omega) (offC_stable _) (offC_start _) ?_
   refine calm_fixA rfl rfl ?_
   apply Exists.intro
   refine ⟨fun a wz hc hk hf K hK=>?_,?_⟩
   ·have h1:=hk 1 (by kernel_rfl)
    clear hk hf hc
    go_simp
    exact hK _ _ (Below.refl _ _) rfl
   refine calm_fixA rfl rfl ?_
   apply Exists.intro
   refine ⟨fun a wz hc hk hf K hK=>?_,?_⟩
   ·have hb:Below w6.heap.size w6 wz:=hc rfl
    have h21:=held_isV hf 0 rfl (by kernel_rfl)
    clear hk hf hc
    obtain ⟨_,_,y2,_,_⟩:=(HX6.out.later hb).cells
    go_simp
    exact hK _ _ (Below.refl _ _) rfl
   refine calm_fixA rfl rfl ?_
   apply Exists.intro
   refine ⟨fun a wz hc hk hf K hK=>?_,?_⟩
   ·have h3:=hk 3 (by kernel_rfl)
    clear hk hf hc
    go_simp
    exact hK _ _ (Below.refl _ _) rfl
   refine calm_fixA rfl rfl ?_
   apply Exists.intro
   refine ⟨fun a wz hc hk hf K hK=>?_,?_⟩
   ·have h4:=hk 4 (by kernel_rfl)
    clear hk hf hc
    go_simp
    exact hK _ _ (Below.refl _ _) rfl
   refine calm_fixA rfl rfl ?_
   apply Exists.intro
   refine ⟨fun a wz hc hk hf K hK=>?_,?_⟩
   ·have hb:Below w6.heap.size w6 wz:=hc rfl
    have h24:=held_isV hf 0 rfl (by kernel_rfl)
    clear hk hf hc
    have y5:=(hb.cell (p:=⟨wr.heap.size,1,none⟩) HOB.out).trans B1.out
    go_simp
    exact hK _ _ (Below.refl _ _) rfl
   refine calm_varA (fun v wx=>∃ A p,v=.slice A ml p∧Hid (StrsIn wx (.slice A ml p) cols)∧Fresh w6.heap.size (.slice A ml p)) rfl rfl (fun v wa wb hq h=>by obtain ⟨A,p,e,h1,h2⟩:=h;exact ⟨A,p,e,StrsIn.kept h1.out hq,h2⟩) (fun a wz hc hk hf K hK=>?_) ?_
   ·have hb:Below w6.heap.size w6 wz:=hc rfl
    have h25:=held_isV hf 0 rfl (by kernel_rfl)
    clear hk hf hc
    go_simp
    refine Calls.mono (clone_row_calls (StrsIn.kept HSR.out hb) HLEN.out) ?_
    rintro e w1 ⟨A,p,rfl,h1,h2,hq⟩
    rw [HML.out] at h1 h2 ⊢
    exact hK _ _ hq (fun _=>⟨A,p,rfl,h1,h2.mono hb.size⟩)
   refine calm_fixA rfl rfl ?_
   apply Exists.intro
   refine ⟨fun a wz hc hk hf K hK=>?_,?_⟩
   ·have h22:=held_isV hf 4 rfl (by kernel_rfl)
    have h23:=held_isV hf 3 rfl (by kernel_rfl)
    clear hk hf hc
    go_simp
    exact hK _ _ (Below.refl _ _) rfl
   refine calm_fixA rfl rfl ?_
   apply Exists.intro
   refine ⟨fun a wz hc hk hf K hK=>?_,?_⟩
   ·have h27:=held_isV hf 0 rfl (by kernel_rfl)
    clear hk hf hc
    go_simp
    exact hK _ _ (Below.refl _ _) rfl
   refine calm_storeA (fun w0=>Hid (CopyS B4 w0 (.slice (some ⟨g,off,none⟩) tv0.length p4) tv0 (k+1))∧Below B4 w5 w0) rfl (fun m h=>by simpa using h) (fun a wz hb hk hf K hK=>?_) ?_
   ·have h28:=held_isV hf 0 rfl (by kernel_rfl)
    obtain ⟨v26,h26,S26⟩:=held_at hf 2 rfl (by kernel_rfl)
    clear hk hf
    obtain ⟨A,p,rfl,h1,h2⟩:=S26 rfl
    have y5:=(hb.cell (p:=⟨g,off+k*3+1,none⟩) HGL.out).trans C1.out
    have z5:=(hb.frozen (p:=⟨g,off+k*3+1,none⟩) HGL.out).trans F1.out
    go_simp
    exact hK undef _ ⟨HNX.out _ A p ml (HB6.out.trans (hb.mono HB6.out.size)) h1.out (h2.mono HB6.out.size),((HB.out.trans (HB6.out.mono HB45R.out)).trans (hb.mono (Nat.le_trans HB45R.out HB6.out.size))).setCell (p:=⟨g,off+k*3+1,none⟩) hBg _⟩
   refine calm_nil ⟨keeps_one (m:=8) (fun k h=>by simpa using h) ⟨.inr (loose_isV _),.inr (loose_isV _),.inr (loose_isV _),.inr (loose_isV _),.inr (loose_isV _),.inr (loose_ahead _),.inr (loose_isV _),.inr (loose_isV _),.inl rfl,trivial⟩,?_⟩
   intro wz hc
   simp only [lexL,calmEnd]
   rintro _ rfl _ rfl _ rfl _ rfl _ rfl v26 S26 _ rfl _ rfl _ hst8
   obtain ⟨w7,⟨hC7,hb7⟩,hq7⟩:=hst8 rfl
   have HB7:=Lib.hid (hb7.trans (hq7.mono (Nat.le_trans HB45.out hb7.size)))
   have HC7:=Lib.hid (CopyS.later hC7.out hq7)
   clear hst8 hC7 hb7 hq7 hc S26
   simp only [Act.put,List.setIfInBounds_toArray,List.set_cons_zero,List.set_cons_succ]
   go_wp2
   go_roundw
   case rel=>exact ⟨k+1,by omega,by go_num,HB7.out,HC7.out⟩
   case measure=>simp [intOf];omega
  ·obtain rfl:k=tv0.length:=by omega
   have hx6:=HX5.out.blk HB.out (by have:=HSZ.out;omega)
   have hz6:=HZ5.out.blk HB.out (by have:=HSZ.out;omega)
   have hbw:=HB5.out.trans (HB.out.mono (by have:=HSZ.out;omega))
   have hgr:=setCells_grown (w.heap.size+1) [Value.string t.name,.slice A2 t.cols.length p2,.slice A4 tv0.length p4,.slice At t.T.length pt] 0 wr
   simp only [World.setCells,Nat.zero_add,Nat.reduceAdd] at hgr
   have hz7:=hz6.putAll t.name (.slice A2 t.cols.length p2) (.slice A4 tv0.length p4) (.slice At t.T.length pt)
   have HBE:=Lib.hid (below_four hbw (Nat.le_succ _) (.string t.name) (.slice A2 t.cols.length p2) (.slice A4 tv0.length p4) (.slice At t.T.length pt))
   have HCOLW:=Lib.hid (SliceOf.fresh (HCOL.out wr HB.out) HF2.out hgr (by omega))
   have HBLK:=Lib.hid (HS.out.over hgr (by have:=HSZ.out;omega) fun u hu=>HQ.out u (hu.mono (by have:=HSZ.out;omega)))
   obtain ⟨x0,x1,x2,x3,_⟩:=hx6.cells
   obtain ⟨g0,g1,g2,g3,_⟩:=hz6.cells
   obtain ⟨k0,k1,k2,k3⟩:=hz6.free
   clear hx6 hz6 hbw hgr HX5 HZ5
   go_wp2
   obtain ⟨v0,v1,v2,v3,_⟩:=hz7.cells
   refine ⟨rfl,.agg #[.string t.name,.slice A2 t.cols.length p2,.slice A4 tv0.length p4,.slice At t.T.length pt],?_,_,rfl,⟨_,_,_,rfl,⟨?_,?_,?_⟩⟩,HBE.out⟩
   ·simp [results,Tryz.results40,go_sem,v0,v1,v2,v3]
   ·exact HCOLW.out
   ·have:=HBLK.out
    rw [HL0.out] at this
    exact this
   ·exact HTAIL.out.kept HBE.out
def oftenN (n:Int):Bool:=decide (1048576 < n)||decide (n < -1048576)
theorem often_eq (l:List Tm):oftenB l=l.any fun t=>oftenN t.2:=rfl
set_option maxHeartbeats 400000 in
theorem often_calls (A:Option Addr)(c p:Nat)(n:Int):Gives Tryz.prog 37 #[.agg #[.slice A c p,.int .i64 n]] (.bool (oftenN n)):=by
 intro w
 obtain ⟨hb,hB⟩:=start w
 by_cases h1:1048576 < n
 ·have d1:decide (1048576 < n)=true:=decide_eq_true h1
  have HE:=Lib.hid (show oftenN n=true by unfold oftenN;rw [d1];rfl)
  clear h1
  go_enter Tryz.func37,Tryz.ntmps37
  go_wp2
  go_ret
  exact ⟨ret_bool HE.out.symm,hb.alloc hB _⟩
 ·have d1:decide (1048576 < n)=false:=decide_eq_false h1
  by_cases h2:n < -1048576
  ·have d2:decide (n < -1048576)=true:=decide_eq_true h2
   have HE:=Lib.hid (show oftenN n=true by unfold oftenN;rw [d1,d2];rfl)
   clear h1 h2
   go_enter Tryz.func37,Tryz.ntmps37
   go_wp2
   go_ret
   exact ⟨ret_bool HE.out.symm,hb.alloc hB _⟩
  ·have d2:decide (n < -1048576)=false:=decide_eq_false h2
   have HE:=Lib.hid (show oftenN n=false by unfold oftenN;rw [d1,d2];rfl)
   clear h1 h2
   go_enter Tryz.func37,Tryz.ntmps37
   go_wp2
   go_ret
   exact ⟨ret_bool HE.out.symm,hb.alloc hB _⟩
theorem enters_often:∀ args w,(callFunc 37 args).run Tryz.prog w=.ok (.enter 37 args) w:=enters_of Tryz.func37 (by kernel_rfl) rfl
theorem pred_often:PredN Tryz.prog 37 oftenN:=often_calls
theorem any_idx {q:Int→Bool}{l:List Tm}{z:Int}(h:IdxEnd q l z):decide (0≤z)=l.any fun t=>q t.2:=by
 rcases h with ⟨rfl,h⟩ | ⟨k,hk,rfl,h,_⟩
 ·have:(l.any fun t=>q t.2)=false:=by rw [List.any_eq_false];intro x hx;rw [h x hx];decide
  rw [this];rfl
 ·have:(l.any fun t=>q t.2)=true:=List.any_eq_true.2 ⟨_,List.getElem_mem hk,h⟩
  rw [this]
  exact decide_eq_true (by omega)
set_option maxHeartbeats 400000 in
theorem often_contains {w:World}{v:Value}{l:List Tm}(h:TimesIn w v l):GivesAt Tryz.prog 36 #[v,.func (.func 37) #[] #[]] w (.bool (oftenB l)):=by
 have hq:=windex_calls _ _ enters_often pred_often h
 obtain ⟨A,cap,rfl⟩:∃ A cap,v=.slice A l.length cap:=by obtain ⟨tv,A,cap,e,_⟩:=times_at h;exact ⟨A,cap,e⟩
 clear h
 unfold GivesAt
 go_enter Tryz.func36,Tryz.ntmps36
 go_wp2_with (go_at_call 53;refine hq.mono ?_;rintro e w2 ⟨z,rfl,hz,hb⟩;have HZ:=Lib.hid (any_idx hz);clear hz)
 go_ret
 exact ⟨ret_bool HZ.out,hb⟩
def mayN (l:List Tm):Int:=if wholeW l=true then (if 200 < l.length∨oftenB l=true then 8 else 0) else 6
theorem often_over {l:List Tm}(h:wholeW l=true):oftenB l=overB l:=by
 unfold wholeW at h
 rw [List.all_eq_true] at h
 unfold oftenB overB
 rw [Bool.eq_iff_iff,List.any_eq_true,List.any_eq_true]
 constructor
 ·rintro ⟨x,hx,h1⟩
  refine ⟨x,hx,?_⟩
  have h2:=h x hx
  simp only [Bool.or_eq_true,decide_eq_true_eq] at h1 h2 ⊢
  omega
 ·rintro ⟨x,hx,h1⟩
  exact ⟨x,hx,by rw [h1];rfl⟩
theorem may_apply {t:Tbl}{l:List Tm}(h:checkN t.cols l=0):applyN t l=mayN (sumW t.rows l):=by
 unfold applyN mayN
 rw [if_pos h]
 by_cases hw:wholeW (sumW t.rows l)=true
 ·rw [if_pos hw,if_pos hw,often_over hw]
  simp only [or_comm]
 ·rw [if_neg hw,if_neg hw]
set_option maxHeartbeats 1000000 in
theorem table_may_calls {w:World}{v:Value}{l:List Tm}(h:TimesIn w v l):GivesAt Tryz.prog 38 #[v] w (.int .i64 (mayN l)):=by
 have hm:=h.len
 unfold maxLen at hm
 obtain ⟨hb,hB⟩:=start w
 have HH:=Lib.hid h
 have HW:=Lib.hid (weigh_whole_calls h)
 obtain ⟨A,cap,rfl⟩:∃ A cap,v=.slice A l.length cap:=by obtain ⟨tv,A,cap,e,_⟩:=times_at h;exact ⟨A,cap,e⟩
 clear h
 unfold GivesAt
 cases hw:wholeW l with
 | false =>
  have HE:=Lib.hid (show mayN l=6 by unfold mayN;rw [hw];rfl)
  rw [hw] at HW
  clear hw
  go_enter Tryz.func38,Tryz.ntmps38
  go_wp2_with (go_at_call 54;refine HW.out.step (w0:=w) (B:=w.heap.size) hb hB ?_;clear hb hB;intro w2 hb hB)
  go_ret
  exact ⟨ret_int HE.out.symm,hb⟩
 | true =>
  rw [hw] at HW
  by_cases hl:200 < l.length
  ·have HE:=Lib.hid (show mayN l=8 by unfold mayN;rw [if_pos hw,if_pos (.inl hl)])
   have d1:decide ((200:Int) < (l.length:Int))=true:=decide_eq_true (by omega)
   clear hw hl
   go_enter Tryz.func38,Tryz.ntmps38
   go_wp2_with (go_at_call 54;refine HW.out.step (w0:=w) (B:=w.heap.size) hb hB ?_;clear hb hB;intro w2 hb hB)
   go_ret
   exact ⟨ret_int HE.out.symm,hb⟩
  ·have d1:decide ((200:Int) < (l.length:Int))=false:=decide_eq_false (by omega)
   have HC:Hid (∀ w',Below w.heap.size w w'→GivesAt Tryz.prog 36 #[.slice A l.length cap,.func (.func 37) #[] #[]] w' (.bool (oftenB l))):=fun w' hq=>often_contains (HH.out.kept hq)
   cases ho:oftenB l with
   | true =>
    have HE:=Lib.hid (show mayN l=8 by unfold mayN;rw [if_pos hw,if_pos (.inr ho)])
    rw [ho] at HC
    clear hw hl ho
    go_enter Tryz.func38,Tryz.ntmps38
    go_wp2_with (first|(go_at_call 54;refine HW.out.step (w0:=w) (B:=w.heap.size) hb hB ?_;clear hb hB;intro w2 hb hB)|(go_at_call 36;refine (HC.out _ hb).step (w0:=w) (B:=w.heap.size) hb hB ?_;clear hb hB;intro w3 hb hB))
    go_ret
    exact ⟨ret_int HE.out.symm,hb⟩
   | false =>
    have HE:=Lib.hid (show mayN l=0 by unfold mayN;rw [if_pos hw,if_neg (by rw [ho];simp;omega)])
    rw [ho] at HC
    clear hw hl ho
    go_enter Tryz.func38,Tryz.ntmps38
    go_wp2_with (first|(go_at_call 54;refine HW.out.step (w0:=w) (B:=w.heap.size) hb hB ?_;clear hb hB;intro w2 hb hB)|(go_at_call 36;refine (HC.out _ hb).step (w0:=w) (B:=w.heap.size) hb hB ?_;clear hb hB;intro w3 hb hB))
    go_ret
    exact ⟨ret_int HE.out.symm,hb⟩
set_option maxHeartbeats 2000000 in
set_option maxRecDepth 100000 in
theorem table_check_calls {w:World}{v vl:Value}{t:Tbl}{l:List Tm}(h:TblIn w v t)(hl:TimesIn w vl l):GivesAt Tryz.prog 13 #[v,vl] w (.int .i64 (checkN t.cols l)):=by
 have hm:=hl.len
 unfold maxLen at hm
 obtain ⟨cv,bv,tv,rfl,hT⟩:=h
 obtain ⟨⟨Ac,pc,rfl⟩,⟨Ab,pb,rfl⟩,⟨At,pt,rfl⟩⟩:=hT.slices
 have hq0:Below w.heap.size w (w.alloc (.cells #[.string t.name,.slice Ac t.cols.length pc,.slice Ab (cutL t.R).length pb,.slice At t.T.length pt] 28)):=Below.alloc (.refl _ _) (Nat.le_refl _) _
 have hx:=tbox_lit w 28 t.name (.slice Ac t.cols.length pc) (.slice Ab (cutL t.R).length pb) (.slice At t.T.length pt)
 have HC:=Lib.hid (hT.cols.kept hq0)
 have HL0:=Lib.hid (hl.kept hq0)
 obtain ⟨tvl,A,cap,rfl,_,hat⟩:=times_at HL0.out
 have HAT:=Lib.hid hat
 have HB:=Lib.hid hq0
 clear hT hq0 hat hl
 unfold GivesAt
 go_enter Tryz.func13,Tryz.ntmps13
 go_wp2
 generalize w.alloc (.cells #[.string t.name,.slice Ac t.cols.length pc,.slice Ab (cutL t.R).length pb,.slice At t.T.length pt] 28)=w1 at *
 have HX:=Lib.hid hx
 clear hx
 go_loopw [10] (fun i wr=>∃ k:Nat,k≤l.length∧i=.int .i64 k∧Hid (rowsN t.cols (l.take k)=0)∧Below w1.heap.size w1 wr) (fun i _=>l.length-(intOf i).toNat)
 case atStart=>exact ⟨0,Nat.zero_le _,rfl,rfl,.refl _ _⟩
 case round =>
  obtain ⟨k,hk,rfl,HS,hb⟩:=hrel
  have hB:=hb.size
  by_cases hlt:k < l.length
  ·obtain ⟨b,off,rfl,hbl,hc⟩:=HAT.out k hlt
   obtain ⟨rv,hrs,htv,c1,c2⟩:=hc k hlt
   have x1:=(hb.cell (p:=⟨b,off+k*2,none⟩) hbl).trans c1
   have x2:=(hb.cell (p:=⟨b,off+k*2+1,none⟩) hbl).trans c2
   obtain ⟨_,z1,_,_,hz⟩:=(HX.out.later hb).cells
   have HROW:Hid (∀ W,Below w1.heap.size w1 W→GivesAt Tryz.prog 35 #[.slice Ac t.cols.length pc,rv] W (.int .i64 (rowN t.cols l[k].1))):=fun W hW=>shape_row_calls (HC.out.kept hW) (StrsIn.kept hrs hW)
   have HN:=Lib.hid (rowsN_next (cols:=t.cols) hlt HS.out)
   have HA:=Lib.hid (rowsN_at (cols:=t.cols) hlt HS.out)
   obtain ⟨Ar,pr,ear,hone⟩:=one_at hrs
   subst ear
   have i0:(0:Int)≤(k:Int):=by omega
   have i1:(k:Int) < (l.length:Int):=by omega
   clear hc c1 c2 htv hrs hone
   generalize l[k].1.length=rl at *
   generalize l[k].2=rn at *
   by_cases hr:rowN t.cols l[k].1=0
   ·have HN1:=Lib.hid (HN.out hr)
    rw [hr] at HROW
    have hba:=hb.alloc hB (.cells #[.slice Ar rl pr,.int .i64 rn] 46)
    clear HN HA hr
    go_wp2_with (go_at_call 35;refine (HROW.out _ hba).step (w0:=w1) (B:=w1.heap.size) hba hba.size ?_;clear hba hb hB x1 x2 z1;intro w2 hb hB)
    go_roundw
    case rel=>exact ⟨k+1,by omega,by go_num,HN1.out,hb⟩
    case measure=>simp [intOf];omega
   ·have HA1:=Lib.hid (HA.out hr)
    have d1:(rowN t.cols l[k].1 != 0)=true:=by simp [hr]
    have hba:=hb.alloc hB (.cells #[.slice Ar rl pr,.int .i64 rn] 46)
    clear HN HA hr
    generalize rowN t.cols l[k].1=rr at *
    go_wp2_with (go_at_call 35;refine (HROW.out _ hba).step (w0:=w1) (B:=w1.heap.size) hba hba.size ?_;clear hba hb hB x1 x2 z1;intro w2 hb hB)
    go_ret
    exact ⟨ret_int HA1.out.symm,HB.out.trans (hb.mono HB.out.size)⟩
  ·obtain rfl:k=l.length:=by omega
   rw [List.take_length] at HS
   have HCF:Hid (GivesAt Tryz.prog 36 #[.slice A l.length cap,.func (.func 37) #[] #[]] wr (.bool (oftenB l))):=often_contains (HL0.out.kept hb)
   cases ho:oftenB l with
   | true =>
    have HE:=Lib.hid (show checkN t.cols l=8 by unfold checkN;rw [if_pos HS.out,if_pos ho])
    rw [ho] at HCF
    clear ho
    go_wp2_with (go_at_call 36;refine HCF.out.step (w0:=w1) (B:=w1.heap.size) hb hB ?_;clear hb hB;intro w2 hb hB)
    go_ret
    exact ⟨ret_int HE.out.symm,HB.out.trans (hb.mono HB.out.size)⟩
   | false =>
    have HE:=Lib.hid (show checkN t.cols l=0 by unfold checkN;rw [if_pos HS.out,if_neg (by rw [ho];decide)])
    rw [ho] at HCF
    clear ho
    go_wp2_with (go_at_call 36;refine HCF.out.step (w0:=w1) (B:=w1.heap.size) hb hB ?_;clear hb hB;intro w2 hb hB)
    go_ret
    exact ⟨ret_int HE.out.symm,HB.out.trans (hb.mono HB.out.size)⟩
set_option maxHeartbeats 2000000 in
set_option maxRecDepth 100000 in
theorem table_new_calls {w:World}{vc:Value}{name:ByteArray}{cols:List (Int×Bool)}(hc:ColsIn w vc cols)(hl:cols.length≤1000)(_hs:name.size≤1000000):Calls Tryz.prog 9 #[.string name,vc] w (TNewEnd w name cols):=by
 have hq0:Below w.heap.size w (w.alloc (.cells #[.string ⟨#[]⟩,.slice none 0 0,.slice none 0 0,.slice none 0 0] 28)):=Below.alloc (.refl _ _) (Nat.le_refl _) _
 have hz:=tbox_lit w 28 ⟨#[]⟩ (.slice none 0 0) (.slice none 0 0) (.slice none 0 0)
 have hsz:w.heap.size+1≤(w.alloc (.cells #[.string ⟨#[]⟩,.slice none 0 0,.slice none 0 0,.slice none 0 0] 28)).heap.size:=by simp
 have HC0:=Lib.hid hc
 have HN:=Lib.hid (shape_name_calls name)
 have HR:Hid (∀ w',Below w.heap.size w w'→GivesAt Tryz.prog 32 #[vc] w' (.bool (rightC cols))):=fun w' hb=>shape_right_calls (hc.kept hb)
 obtain ⟨Ac,pc,rfl,_⟩:=cols_at hc
 clear hc
 unfold TNewEnd
 cases hn:nameB name with
 | false =>
  rw [hn] at HN
  have HE:=Lib.hid (newN_no (name:=name) (cols:=cols) (by rw [hn];simp))
  clear hn
  go_enter Tryz.func9,Tryz.ntmps9
  go_wp2_with fail
  generalize w.alloc (.cells #[.string ⟨#[]⟩,.slice none 0 0,.slice none 0 0,.slice none 0 0] 28)=w1 at *
  refine HN.out.stepB (w0:=w) (B:=w.heap.size) hq0 (by omega) ?_
  intro w3 hb3 _ hq3
  have hz3:=hz.later hq3
  clear hz hq0 HN hq3
  obtain ⟨g0,g1,g2,g3,_⟩:=hz3.cells
  obtain ⟨k0,k1,k2,k3⟩:=hz3.free
  have hz5:=hz3.putAll ⟨#[]⟩ (.slice none 0 0) (.slice none 0 0) (.slice none 0 0)
  have HB5:=Lib.hid (below_four hb3 (Nat.le_refl _) (.string ⟨#[]⟩) (.slice none 0 0) (.slice none 0 0) (.slice none 0 0))
  clear hz3 hb3
  go_wp2
  obtain ⟨v0,v1,v2,v3,_⟩:=hz5.cells
  refine ⟨rfl,.tuple #[.agg #[.string ⟨#[]⟩,.slice none 0 0,.slice none 0 0,.slice none 0 0],.int .i64 1],?_,_,by rw [HE.out],?_,HB5.out⟩
  ·simp [results,Tryz.results9,go_sem,v0,v1,v2,v3]
  ·rw [newA_no HE.out];exact tbl_zero _
 | true =>
  rw [hn] at HN
  cases hr:rightC cols with
  | false =>
   rw [hr] at HR
   have HE:=Lib.hid (newN_no (name:=name) (cols:=cols) (by rw [hr];simp))
   clear hn hr
   go_enter Tryz.func9,Tryz.ntmps9
   go_wp2_with fail
   generalize w.alloc (.cells #[.string ⟨#[]⟩,.slice none 0 0,.slice none 0 0,.slice none 0 0] 28)=w1 at *
   refine HN.out.stepB (w0:=w) (B:=w.heap.size) hq0 (by omega) ?_
   intro w2 hb2 _ hq2
   have hz2:=hz.later hq2
   clear hz hq0 HN hq2
   go_wp2_with fail
   refine (HR.out _ hb2).stepB (w0:=w) (B:=w.heap.size) hb2 hb2.size ?_
   intro w3 hb3 _ hq3
   have hz3:=hz2.later hq3
   clear hz2 hb2 HR hq3
   obtain ⟨g0,g1,g2,g3,_⟩:=hz3.cells
   obtain ⟨k0,k1,k2,k3⟩:=hz3.free
   have hz5:=hz3.putAll ⟨#[]⟩ (.slice none 0 0) (.slice none 0 0) (.slice none 0 0)
   have HB5:=Lib.hid (below_four hb3 (Nat.le_refl _) (.string ⟨#[]⟩) (.slice none 0 0) (.slice none 0 0) (.slice none 0 0))
   clear hz3 hb3
   go_wp2
   obtain ⟨v0,v1,v2,v3,_⟩:=hz5.cells
   refine ⟨rfl,.tuple #[.agg #[.string ⟨#[]⟩,.slice none 0 0,.slice none 0 0,.slice none 0 0],.int .i64 1],?_,_,by rw [HE.out],?_,HB5.out⟩
   ·simp [results,Tryz.results9,go_sem,v0,v1,v2,v3]
   ·rw [newA_no HE.out];exact tbl_zero _
  | true =>
   rw [hr] at HR
   have HE:=Lib.hid (newN_yes hn hr)
   clear hn hr
   go_enter Tryz.func9,Tryz.ntmps9
   go_wp2_with fail
   generalize w.alloc (.cells #[.string ⟨#[]⟩,.slice none 0 0,.slice none 0 0,.slice none 0 0] 28)=w1 at *
   refine HN.out.stepB (w0:=w) (B:=w.heap.size) hq0 (by omega) ?_
   intro w2 hb2 _ hq2
   have hz2:=hz.later hq2
   have hs2:=Nat.le_trans hsz hq2.size
   clear hz hq0 HN hq2
   go_wp2_with fail
   refine (HR.out _ hb2).stepB (w0:=w) (B:=w.heap.size) hb2 hb2.size ?_
   intro w3 hb3 _ hq3
   have hz3:=hz2.later hq3
   have hs3:=Nat.le_trans hs2 hq3.size
   clear hz2 hb2 HR hq3 hs2 hsz
   have HCL:=Lib.hid (clone_cols_calls (HC0.out.kept hb3) (by omega))
   have HS3:=Lib.hid hs3
   clear hs3
   go_wp2_with fail
   refine HCL.out.mono ?_
   rintro e w7 ⟨A7,p7,rfl,hc7,hf7,hq7⟩
   have hz7:=hz3.later hq7
   have hb7:=hb3.trans (hq7.mono hb3.size)
   obtain ⟨g0,g1,g2,g3,_⟩:=hz7.cells
   obtain ⟨k0,k1,k2,k3⟩:=hz7.free
   have hz5:=hz7.putAll name (.slice A7 cols.length p7) (.slice none 0 0) (.slice none 0 0)
   have HB5:=Lib.hid (below_four hb7 (Nat.le_refl _) (.string name) (.slice A7 cols.length p7) (.slice none 0 0) (.slice none 0 0))
   have hg5:=setCells_grown w.heap.size [Value.string name,.slice A7 cols.length p7,.slice none 0 0,.slice none 0 0] 0 w7
   simp only [World.setCells,Nat.zero_add,Nat.reduceAdd] at hg5
   have HC5:=Lib.hid (SliceOf.fresh hc7 hf7 hg5 (by have:=HS3.out;omega))
   clear hc7 hf7 hq7 hz7 hb7 hg5 hz3 hb3 HCL
   go_wp2
   obtain ⟨v0,v1,v2,v3,_⟩:=hz5.cells
   refine ⟨rfl,.tuple #[.agg #[.string name,.slice A7 cols.length p7,.slice none 0 0,.slice none 0 0],.int .i64 0],?_,_,by rw [HE.out],?_,HB5.out⟩
   ·simp [results,Tryz.results9,go_sem,v0,v1,v2,v3]
   ·rw [newA_yes HE.out];exact ⟨_,_,_,rfl,⟨HC5.out,BlksIn.nil_ _ _ _,TimesIn.nil_ _ _ _⟩⟩
set_option maxHeartbeats 1000000 in
set_option maxRecDepth 100000 in
theorem table_rows_calls {w:World}{v:Value}{t:Tbl}(h:TblIn w v t)(hg:GoodT t):Calls Tryz.prog 19 #[v] w (TRowsEnd w t):=by
 obtain ⟨cv,bv,tv,rfl,hT⟩:=h
 obtain ⟨⟨Ac,pc,rfl⟩,⟨Ab,pb,rfl⟩,⟨At,pt,rfl⟩⟩:=hT.slices
 have hq0:Below w.heap.size w (w.alloc (.cells #[.string t.name,.slice Ac t.cols.length pc,.slice Ab (cutL t.R).length pb,.slice At t.T.length pt] 28)):=Below.alloc (.refl _ _) (Nat.le_refl _) _
 have hx:=tbox_lit w 28 t.name (.slice Ac t.cols.length pc) (.slice Ab (cutL t.R).length pb) (.slice At t.T.length pt)
 have HT:=Lib.hid (hT.kept hq0)
 have HG:=Lib.hid hg
 have HALL:=Lib.hid (cut_all_calls (P:=cutL t.R) HT.out.blks HT.out.cols hg.goodP (by rw [cutL_flatten];have:=hg.few;omega) (by have:=hg.few_cut;omega) (by have:=hg.cols;omega))
 have HB:=Lib.hid hq0
 clear hT hg hq0
 unfold TRowsEnd
 go_enter Tryz.func19,Tryz.ntmps19
 obtain ⟨_,x1,x2,_,_⟩:=hx.cells
 go_wp2_with fail
 generalize w.alloc (.cells #[.string t.name,.slice Ac t.cols.length pc,.slice Ab (cutL t.R).length pb,.slice At t.T.length pt] 28)=w1 at *
 clear x1 x2
 refine HALL.out.mono ?_
 rintro e w2 ⟨v2,he,hv2,hq2⟩
 rw [if_pos HG.out.flat] at he hv2
 rw [cutL_flatten] at hv2
 subst he
 have hx2:=hx.later hq2
 obtain ⟨z0,z1,z2,z3,_⟩:=hx2.cells
 have HB2:=Lib.hid (HB.out.trans (hq2.mono HB.out.size))
 have hb0:Below w2.heap.size w2 w2.drew:=Below.drew (.refl _ _)
 have HB0:=Lib.hid hb0
 have HSUM:=Lib.hid (weigh_sum_calls (hv2.kept hb0) ((HT.out.tail.kept hq2).kept hb0) (by have:=HG.out.few;have:=HG.out.tlen;omega) (by have:=there_wt HG.out.there HG.out.few;have:=HG.out.twt;omega) (short_fits HG.out.fits HG.out.cols) (short_fits HG.out.tfits HG.out.cols))
 have HZ2:=Lib.hid z2
 have HZ3:=Lib.hid z3
 obtain ⟨A2,p2,e2⟩:∃ A2 p2,v2=.slice A2 t.R.length p2:=by obtain ⟨_,A2,p2,e,_⟩:=times_at hv2;exact ⟨A2,p2,e⟩
 subst e2
 clear hv2 hq2 hx hx2 hb0 HALL HT z0 z1
 generalize t.R.length=rl at *
 generalize t.T.length=tl at *
 go_wp2_with fail
 go_region_law (go_simp;go_at_call 39;refine HSUM.out.mono ?_;rintro e w4 ⟨v4,rfl,h4,hq40⟩;have HQ4:=Lib.hid (HB0.out.trans hq40);have y2:=cell_kept HZ2.out HQ4.out;have y3:=cell_kept HZ3.out HQ4.out;have H4:=Lib.hid h4;clear h4 hq40)
 all_goals
  have hb4:=HB2.out.trans (HQ4.out.mono HB2.out.size)
  obtain ⟨A4,p4,e4⟩:∃ A4 p4,v4=.slice A4 (sumW t.R t.T).length p4:=by obtain ⟨_,A4,p4,e,_⟩:=times_at H4.out;exact ⟨A4,p4,e⟩
  subst e4
  clear y2 y3 z2 z3 HZ2 HZ3
  go_wp2
  go_ret2
  exact ⟨_,rfl,H4.out,hb4⟩
set_option maxHeartbeats 1000000 in
set_option maxRecDepth 100000 in
theorem table_pack_q (Q:Value→Prop){w:World}{v:Value}{t:Tbl}(h:TblIn w v t)(hg:GoodT t)(hQ:∀ u,Fresh w.heap.size u→Q u):Calls Tryz.prog 17 #[v] w (TPackQ Q w t):=by
 obtain ⟨cv,bv,tv,rfl,hT⟩:=h
 obtain ⟨⟨Ac,pc,rfl⟩,⟨Ab,pb,rfl⟩,⟨At,pt,rfl⟩⟩:=hT.slices
 have hq0:Below w.heap.size w (w.alloc (.cells #[.string t.name,.slice Ac t.cols.length pc,.slice Ab (cutL t.R).length pb,.slice At t.T.length pt] 28)):=Below.alloc (.refl _ _) (Nat.le_refl _) _
 have hqz:Below (w.alloc (.cells #[.string t.name,.slice Ac t.cols.length pc,.slice Ab (cutL t.R).length pb,.slice At t.T.length pt] 28)).heap.size (w.alloc (.cells #[.string t.name,.slice Ac t.cols.length pc,.slice Ab (cutL t.R).length pb,.slice At t.T.length pt] 28)) ((w.alloc (.cells #[.string t.name,.slice Ac t.cols.length pc,.slice Ab (cutL t.R).length pb,.slice At t.T.length pt] 28)).alloc (.cells #[.string ⟨#[]⟩,.slice none 0 0,.slice none 0 0,.slice none 0 0] 28)):=Below.alloc (.refl _ _) (Nat.le_refl _) _
 have hx:=(tbox_lit w 28 t.name (.slice Ac t.cols.length pc) (.slice Ab (cutL t.R).length pb) (.slice At t.T.length pt)).later hqz
 have hz:=tbox_lit (w.alloc (.cells #[.string t.name,.slice Ac t.cols.length pc,.slice Ab (cutL t.R).length pb,.slice At t.T.length pt] 28)) 28 ⟨#[]⟩ (.slice none 0 0) (.slice none 0 0) (.slice none 0 0)
 have hsz:(w.alloc (.cells #[.string t.name,.slice Ac t.cols.length pc,.slice Ab (cutL t.R).length pb,.slice At t.T.length pt] 28)).heap.size=w.heap.size+1:=by simp
 rw [hsz] at hz
 have hsz2:((w.alloc (.cells #[.string t.name,.slice Ac t.cols.length pc,.slice Ab (cutL t.R).length pb,.slice At t.T.length pt] 28)).alloc (.cells #[.string ⟨#[]⟩,.slice none 0 0,.slice none 0 0,.slice none 0 0] 28)).heap.size=w.heap.size+2:=by simp
 have hb:=hq0.trans (hqz.mono hq0.size)
 have HT0:=Lib.hid hT
 have HT:=Lib.hid (hT.kept hb)
 have HG:=Lib.hid hg
 have HQ:=Lib.hid hQ
 have HRW:=Lib.hid (table_rows_calls (w:=(w.alloc (.cells #[.string t.name,.slice Ac t.cols.length pc,.slice Ab (cutL t.R).length pb,.slice At t.T.length pt] 28)).alloc (.cells #[.string ⟨#[]⟩,.slice none 0 0,.slice none 0 0,.slice none 0 0] 28)) ⟨_,_,_,rfl,HT.out⟩ hg)
 unfold TRowsEnd at HRW
 clear hT hg hq0 hqz hsz hQ
 unfold TPackQ
 go_enter Tryz.func17,Tryz.ntmps17
 obtain ⟨x0,x1,x2,x3,_⟩:=hx.cells
 go_wp2_with fail
 generalize (w.alloc (.cells #[.string t.name,.slice Ac t.cols.length pc,.slice Ab (cutL t.R).length pb,.slice At t.T.length pt] 28)).alloc (.cells #[.string ⟨#[]⟩,.slice none 0 0,.slice none 0 0,.slice none 0 0] 28)=w1 at *
 clear x0 x1 x2 x3
 refine HRW.out.mono ?_
 rintro e w2 ⟨v2,rfl,hv2,hq2⟩
 have hx2:=hx.later hq2
 have hz2:=hz.later hq2
 have hb2:=hb.trans (hq2.mono hb.size)
 have hs2:w.heap.size+2≤w2.heap.size:=by have:=hq2.size;omega
 obtain ⟨A2,p2,e2⟩:∃ A2 p2,v2=.slice A2 t.rows.length p2:=by obtain ⟨_,A2,p2,e,_⟩:=times_at hv2;exact ⟨A2,p2,e⟩
 subst e2
 have HX2:=Lib.hid hx2
 have HZ2:=Lib.hid hz2
 have HB2:=Lib.hid hb2
 have HS2:=Lib.hid hs2
 have HV2:=Lib.hid hv2
 have HTC:=Lib.hid (HT0.out.cols.kept hb2)
 have HBL:Hid (∀ wz,Below w2.heap.size w2 wz→Calls Tryz.prog 41 #[.slice A2 t.rows.length p2,.int .i64 t.cols.length] wz (BlocksNew wz (blksL (cutL t.rows) t.cols.length))):=fun wz hb=>cut_blocks_new (hv2.kept hb) t.cols.length (sizes_fits HG.out.rfits) (by have:=HG.out.cols;omega) (by have:=HG.out.rfew;omega) (wt_range (by have:=there_wt HG.out.rthere HG.out.rfew;omega)) (short_fits HG.out.rfits HG.out.cols)
 unfold BlocksNew at HBL
 have HCL6:=Lib.hid HG.out.cols
 clear hv2 hq2 hx hz hb HRW HT hsz2 hx2 hz2 hb2 hs2
 generalize t.rows.length=rl at *
 go_wp2_with fail
 refine wp_region_calm (offC w2) (fun k=>k==11) (fun _=>false) anyE true (by kernel_rfl) (by kernel_rfl) (by kernel_rfl) (by kernel_rfl) (by intro m hm;revert hm;simp;try omega) (offC_stable _) (offC_start _) ?_
 refine calm_fixA rfl rfl ?_
 apply Exists.intro
 refine ⟨fun a wz hc hk hf K hK=>?_,?_⟩
 ·have h1:=hk 1 (by kernel_rfl)
  clear hk hf hc
  go_simp
  exact hK _ _ (Below.refl _ _) rfl
 refine calm_fixA rfl rfl ?_
 apply Exists.intro
 refine ⟨fun a wz hc hk hf K hK=>?_,?_⟩
 ·have hb:Below w2.heap.size w2 wz:=hc rfl
  have h10:=held_isV hf 0 rfl (by kernel_rfl)
  clear hk hf hc
  obtain ⟨x0,x1,_,_,_⟩:=(HX2.out.later hb).cells
  go_simp
  exact hK _ _ (Below.refl _ _) rfl
 refine calm_fixA rfl rfl ?_
 apply Exists.intro
 refine ⟨fun a wz hc hk hf K hK=>?_,?_⟩
 ·have h1:=hk 1 (by kernel_rfl)
  clear hk hf hc
  go_simp
  exact hK _ _ (Below.refl _ _) rfl
 refine calm_fixA rfl rfl ?_
 apply Exists.intro
 refine ⟨fun a wz hc hk hf K hK=>?_,?_⟩
 ·have hb:Below w2.heap.size w2 wz:=hc rfl
  have h12:=held_isV hf 0 rfl (by kernel_rfl)
  clear hk hf hc
  obtain ⟨x0,x1,_,_,_⟩:=(HX2.out.later hb).cells
  go_simp
  exact hK _ _ (Below.refl _ _) rfl
 refine calm_varA (fun v wx=>∃ A p,v=.slice A t.cols.length p∧Hid (ColsIn wx (.slice A t.cols.length p) t.cols)∧Fresh w2.heap.size (.slice A t.cols.length p)) rfl rfl (fun v wa wb hq h=>by obtain ⟨A,p,e,h1,h2⟩:=h;exact ⟨A,p,e,ColsIn.kept h1.out hq,h2⟩) (fun a wz hc hk hf K hK=>?_) ?_
 ·have hb:Below w2.heap.size w2 wz:=hc rfl
  have h13:=held_isV hf 0 rfl (by kernel_rfl)
  clear hk hf hc
  go_simp
  refine Calls.mono (clone_cols_calls (HTC.out.kept hb) (by have:=HCL6.out;omega)) ?_
  rintro e w1 ⟨A,p,rfl,h1,h2,hq⟩
  exact hK _ _ hq (fun _=>⟨A,p,rfl,h1,h2.mono hb.size⟩)
 refine calm_fixA rfl rfl ?_
 apply Exists.intro
 refine ⟨fun a wz hc hk hf K hK=>?_,?_⟩
 ·have h3:=hk 3 (by kernel_rfl)
  clear hk hf hc
  go_simp
  exact hK _ _ (Below.refl _ _) rfl
 refine calm_fixA rfl rfl ?_
 apply Exists.intro
 refine ⟨fun a wz hc hk hf K hK=>?_,?_⟩
 ·have h1:=hk 1 (by kernel_rfl)
  clear hk hf hc
  go_simp
  exact hK _ _ (Below.refl _ _) rfl
 refine calm_fixA rfl rfl ?_
 apply Exists.intro
 refine ⟨fun a wz hc hk hf K hK=>?_,?_⟩
 ·have hb:Below w2.heap.size w2 wz:=hc rfl
  have h16:=held_isV hf 0 rfl (by kernel_rfl)
  clear hk hf hc
  obtain ⟨x0,x1,_,_,_⟩:=(HX2.out.later hb).cells
  go_simp
  exact hK _ _ (Below.refl _ _) rfl
 refine calm_fixA rfl rfl ?_
 apply Exists.intro
 refine ⟨fun a wz hc hk hf K hK=>?_,?_⟩
 ·have h17:=held_isV hf 0 rfl (by kernel_rfl)
  clear hk hf hc
  go_simp
  exact hK _ _ (Below.refl _ _) rfl
 refine calm_varA (fun v wx=>∃ A p,v=.slice A (blksL (cutL t.rows) t.cols.length).length p∧BlksF w2.heap.size wx (.slice A (blksL (cutL t.rows) t.cols.length).length p) (blksL (cutL t.rows) t.cols.length)) rfl rfl (fun v wa wb hq h=>by obtain ⟨A,p,e,h1⟩:=h;exact ⟨A,p,e,h1.kept hq⟩) (fun a wz hc hk hf K hK=>?_) ?_
 ·have hb:Below w2.heap.size w2 wz:=hc rfl
  have h15:=held_isV hf 3 rfl (by kernel_rfl)
  have h18:=held_isV hf 0 rfl (by kernel_rfl)
  clear hk hf hc
  go_simp
  refine Calls.mono (HBL.out _ hb) ?_
  rintro e w1 ⟨v1,tv1,rfl,e1,h1,h2,h3,h4,hq⟩
  obtain ⟨A,p,rfl,-⟩:=h1.at_
  exact hK _ _ hq (fun _=>⟨A,p,rfl,⟨tv1,e1,h1,h2,fun t ht=>(h3 t ht).mono hb.size,h4.mono hb.size⟩⟩)
 refine calm_varA (fun v wx=>∃ A p A2 p2,v=.agg #[.string t.name,.slice A t.cols.length p,.slice A2 (blksL (cutL t.rows) t.cols.length).length p2,.slice none 0 0]∧Hid (ColsIn wx (.slice A t.cols.length p) t.cols)∧Fresh w2.heap.size (.slice A t.cols.length p)∧BlksF w2.heap.size wx (.slice A2 (blksL (cutL t.rows) t.cols.length).length p2) (blksL (cutL t.rows) t.cols.length)) rfl rfl (fun v wa wb hq h=>by obtain ⟨A,p,A2,p2,e,h1,h2,h3⟩:=h;exact ⟨A,p,A2,p2,e,ColsIn.kept h1.out hq,h2,h3.kept hq⟩) (fun a wz hc hk hf K hK=>?_) ?_
 ·have hb:Below w2.heap.size w2 wz:=hc rfl
  have h11:=held_isV hf 8 rfl (by kernel_rfl)
  obtain ⟨v14,h14,S14⟩:=held_at hf 5 rfl (by kernel_rfl)
  obtain ⟨v19,h19,S19⟩:=held_at hf 0 rfl (by kernel_rfl)
  clear hk hf hc
  obtain ⟨A14,p14,rfl,s14,f14⟩:=S14 rfl
  obtain ⟨A19,p19,rfl,s19⟩:=S19 rfl
  go_simp
  exact hK _ _ (Below.refl _ _) (fun _=>⟨A14,p14,A19,p19,rfl,s14,f14,s19⟩)
 refine calm_storeA (fun w0=>∃ A p A2 p2,TBox w0 (w.heap.size+1) t.name (.slice A t.cols.length p) (.slice A2 (blksL (cutL t.rows) t.cols.length).length p2) (.slice none 0 0)∧TblQ Q w0 (.slice A t.cols.length p) (.slice A2 (blksL (cutL t.rows) t.cols.length).length p2) (.slice none 0 0) (packT t)∧Below w.heap.size w w0) rfl (fun m h=>by simpa using h) (fun a wz hb hk hf K hK=>?_) ?_
 ·have h2:=hk 2 (by kernel_rfl)
  obtain ⟨v20,h20,S20⟩:=held_at hf 0 rfl (by kernel_rfl)
  clear hk hf
  obtain ⟨A,p,A2,p2,rfl,h1,h2,h3⟩:=S20 rfl
  have hz:=HZ2.out.later hb
  obtain ⟨g0,g1,g2,g3,_⟩:=hz.cells
  obtain ⟨k0,k1,k2,k3⟩:=hz.free
  have hz5:=hz.putAll t.name (.slice A t.cols.length p) (.slice A2 (blksL (cutL t.rows) t.cols.length).length p2) (.slice none 0 0)
  have hgB:=setCells_grown (w.heap.size+1) [Value.string t.name,.slice A t.cols.length p,.slice A2 (blksL (cutL t.rows) t.cols.length).length p2,.slice none 0 0] 0 wz
  simp only [World.setCells,Nat.zero_add,Nat.reduceAdd] at hgB
  have hbe:=below_four (HB2.out.trans (hb.mono HB2.out.size)) (Nat.le_succ _) (.string t.name) (.slice A t.cols.length p) (.slice A2 (blksL (cutL t.rows) t.cols.length).length p2) (.slice none 0 0)
  have hE:TblQ Q ((((wz.setCell ⟨w.heap.size+1,0,none⟩ (.string t.name)).setCell ⟨w.heap.size+1,1,none⟩ (.slice A t.cols.length p)).setCell ⟨w.heap.size+1,2,none⟩ (.slice A2 (blksL (cutL t.rows) t.cols.length).length p2)).setCell ⟨w.heap.size+1,3,none⟩ (.slice none 0 0)) (.slice A t.cols.length p) (.slice A2 (blksL (cutL t.rows) t.cols.length).length p2) (.slice none 0 0) (packT t) :=
   ⟨SliceOf.fresh h1.out h2 hgB (by have:=HS2.out;omega),h3.over hgB (by have:=HS2.out;omega) (fun u hu=>HQ.out u (hu.mono HB2.out.size)),TimesQ.nil_ _ _ _ _⟩
  have HE:=Lib.hid hE
  have HZ5:=Lib.hid hz5
  have HBE:=Lib.hid hbe
  clear hE hz5 hbe hgB h1 h2 h3 hz
  go_simp
  exact hK undef _ ⟨A,p,A2,p2,HZ5.out,HE.out,HBE.out⟩
 refine calm_nil ⟨keeps_one (m:=11) (fun k h=>by simpa using h) ⟨.inr (loose_isV _),.inr (loose_isV _),.inr (loose_isV _),.inr (loose_isV _),.inr (loose_ahead _),.inr (loose_isV _),.inr (loose_isV _),.inr (loose_isV _),.inr (loose_isV _),.inr (loose_ahead _),.inr (loose_ahead _),.inl rfl,trivial⟩,?_⟩
 intro wz hc
 simp only [lexL,calmEnd]
 rintro _ rfl _ rfl _ rfl _ rfl v14 S14 _ rfl _ rfl _ rfl _ rfl v19 S19 v20 S20 _ hst11
 obtain ⟨w7,⟨A7,p7,A8,p8,hz7,hT7,hb7⟩,hq7⟩:=hst11 rfl
 have hz8:=hz7.later hq7
 have HT8:=Lib.hid (hT7.kept hq7)
 have HB8:=Lib.hid (hb7.trans (hq7.mono hb7.size))
 clear hst11 hz7 hT7 hb7 hq7 hc S14 S19 S20
 simp only [Act.put,List.setIfInBounds_toArray,List.set_cons_zero,List.set_cons_succ]
 go_wp2
 obtain ⟨v0,v1,v2,v3,_⟩:=hz8.cells
 refine ⟨rfl,.agg #[.string t.name,.slice A7 t.cols.length p7,.slice A8 (blksL (cutL t.rows) t.cols.length).length p8,.slice none 0 0],?_,_,rfl,⟨_,_,_,rfl,HT8.out⟩,HB8.out⟩
 simp [results,Tryz.results17,go_sem,v0,v1,v2,v3]
theorem BlksQ.oldQ {Q Q':Value→Prop}{w w':World}{v:Value}{l:List Blk}(h:BlksQ Q w v l)(hb:Below w.heap.size w w')(hQ:∀ u r,StrsIn w u r→Q u→Q' u):BlksQ Q' w' v l:=by
 obtain ⟨tv,h1,h2,h3,h4⟩:=h
 exact ⟨tv,h1,SliceOf.later h2 hb,fun t ht=>StrsIn.kept (h3 t ht) hb,fun t ht=>hQ _ _ (h3 t ht) (h4 t ht)⟩
theorem TblQ.oldQ {Q Q':Value→Prop}{w w':World}{cv bv tv:Value}{t:Tbl}(h:TblQ Q w cv bv tv t)(hb:Below w.heap.size w w')(hQ:∀ u r,StrsIn w u r→Q u→Q' u):TblQ Q' w' cv bv tv t :=
 ⟨h.cols.kept hb,h.blks.oldQ hb hQ,h.tail.oldQ hb hQ⟩
theorem blksCols_few {l:List Blk}{K:Nat}{P:List (List Tm)}(e:l=blksL P K)(hP:K≤1000000):∀ b∈l,b.2.1.length≤1000000:=by
 subst e
 intro b hb
 unfold blksL at hb
 rw [List.mem_map] at hb
 obtain ⟨p,_,rfl⟩:=hb
 show (blockOf p K).2.1.length≤_
 unfold blockOf
 simp;omega
set_option maxHeartbeats 4000000 in
set_option maxRecDepth 100000 in
theorem table_apply_q (Q:Value→Prop){w:World}{v vl:Value}{t:Tbl}{l:List Tm}(h:TblInQ Q w v t)(hg:GoodT t)(hQ:∀ u,Fresh w.heap.size u→Q u)(hl:TimesQ Q w vl l)(hll:l.length≤1000):Calls Tryz.prog 15 #[v,vl] w (TApplyQ Q w t l):=by
 obtain ⟨cv,bv,tv,rfl,hT⟩:=h
 obtain ⟨⟨Ac,pc,rfl⟩,⟨Ab,pb,rfl⟩,⟨At,pt,rfl⟩⟩:=hT.of.slices
 have hq0:Below w.heap.size w (w.alloc (.cells #[.string t.name,.slice Ac t.cols.length pc,.slice Ab (cutL t.R).length pb,.slice At t.T.length pt] 28)):=Below.alloc (.refl _ _) (Nat.le_refl _) _
 have hqz:Below (w.alloc (.cells #[.string t.name,.slice Ac t.cols.length pc,.slice Ab (cutL t.R).length pb,.slice At t.T.length pt] 28)).heap.size (w.alloc (.cells #[.string t.name,.slice Ac t.cols.length pc,.slice Ab (cutL t.R).length pb,.slice At t.T.length pt] 28)) ((w.alloc (.cells #[.string t.name,.slice Ac t.cols.length pc,.slice Ab (cutL t.R).length pb,.slice At t.T.length pt] 28)).alloc (.cells #[.string ⟨#[]⟩,.slice none 0 0,.slice none 0 0,.slice none 0 0] 28)):=Below.alloc (.refl _ _) (Nat.le_refl _) _
 have hx:=(tbox_lit w 28 t.name (.slice Ac t.cols.length pc) (.slice Ab (cutL t.R).length pb) (.slice At t.T.length pt)).later hqz
 have hni:=(NoInt.box w 28 t.name Ac Ab At t.cols.length (cutL t.R).length t.T.length pc pb pt).later (by simp) hqz
 have hz:=tbox_lit (w.alloc (.cells #[.string t.name,.slice Ac t.cols.length pc,.slice Ab (cutL t.R).length pb,.slice At t.T.length pt] 28)) 28 ⟨#[]⟩ (.slice none 0 0) (.slice none 0 0) (.slice none 0 0)
 have hnz:=NoInt.box (w.alloc (.cells #[.string t.name,.slice Ac t.cols.length pc,.slice Ab (cutL t.R).length pb,.slice At t.T.length pt] 28)) 28 ⟨#[]⟩ none none none 0 0 0 0 0 0
 have hsz:(w.alloc (.cells #[.string t.name,.slice Ac t.cols.length pc,.slice Ab (cutL t.R).length pb,.slice At t.T.length pt] 28)).heap.size=w.heap.size+1:=by simp
 rw [hsz] at hz hnz
 have hsz2:((w.alloc (.cells #[.string t.name,.slice Ac t.cols.length pc,.slice Ab (cutL t.R).length pb,.slice At t.T.length pt] 28)).alloc (.cells #[.string ⟨#[]⟩,.slice none 0 0,.slice none 0 0,.slice none 0 0] 28)).heap.size=w.heap.size+2:=by simp
 have hb:=hq0.trans (hqz.mono hq0.size)
 have HT0:=Lib.hid hT
 have HL0:=Lib.hid hl
 have HG:=Lib.hid hg
 have HCK:=Lib.hid (table_check_calls (w:=(w.alloc (.cells #[.string t.name,.slice Ac t.cols.length pc,.slice Ab (cutL t.R).length pb,.slice At t.T.length pt] 28)).alloc (.cells #[.string ⟨#[]⟩,.slice none 0 0,.slice none 0 0,.slice none 0 0] 28)) ⟨_,_,_,rfl,hT.of.kept hb⟩ (hl.times.kept hb))
 obtain ⟨Al,pl,eal⟩:∃ Al pl,vl=.slice Al l.length pl:=by obtain ⟨_,A,p,e,_⟩:=times_at hl.times;exact ⟨A,p,e⟩
 subst eal
 have HQ:=Lib.hid hQ
 clear hT hg hq0 hqz hsz hl hQ
 unfold TApplyQ
 go_enter Tryz.func15,Tryz.ntmps15
 obtain ⟨x0,x1,x2,x3,_⟩:=hx.cells
 go_wp2_with fail
 generalize (w.alloc (.cells #[.string t.name,.slice Ac t.cols.length pc,.slice Ab (cutL t.R).length pb,.slice At t.T.length pt] 28)).alloc (.cells #[.string ⟨#[]⟩,.slice none 0 0,.slice none 0 0,.slice none 0 0] 28)=w2 at *
 clear x0 x1 x2 x3
 refine HCK.out.stepB (w0:=w) (B:=w.heap.size) hb (by omega) ?_
 intro w3 hb3 _ hq3
 have hx3:=hx.later hq3
 have hz3:=hz.later hq3
 have hni3:=hni.later (by omega) hq3
 have hnz3:=hnz.later (by omega) hq3
 have hs3:w.heap.size+2≤w3.heap.size:=by have:=hq3.size;omega
 clear hx hz hb HCK hq3 hni hnz hsz2
 by_cases hc:checkN t.cols l=0
 ·have d1:(checkN t.cols l != 0)=false:=by simp [hc]
  have HC:=Lib.hid hc
  have HRW:=Lib.hid (table_rows_calls (w:=w3) ⟨_,_,_,rfl,HT0.out.of.kept hb3⟩ HG.out)
  unfold TRowsEnd at HRW
  obtain ⟨x0,x1,x2,x3,_⟩:=hx3.cells
  clear hc
  go_wp2_with fail
  refine HRW.out.mono ?_
  rintro e w4 ⟨v4,rfl,hv4,hq4⟩
  have hx4:=hx3.later hq4
  have hz4:=hz3.later hq4
  have hb4:=hb3.trans (hq4.mono hb3.size)
  have hni4:=hni3.later (by omega) hq4
  have hnz4:=hnz3.later (by omega) hq4
  have hs4:w.heap.size+2≤w4.heap.size:=Nat.le_trans hs3 hq4.size
  have hck:checkN t.cols l=0:=HC.out
  have hwt:=apply_wt HG.out hck hll
  have HSM:=Lib.hid (weigh_sum_calls hv4 (HL0.out.times.kept hb4) (by have:=HG.out.rfew;omega) hwt.1 (short_fits HG.out.rfits HG.out.cols) (short_fits (check_zero hck).1 HG.out.cols))
  obtain ⟨A4,p4,e4⟩:∃ A4 p4,v4=.slice A4 t.rows.length p4:=by obtain ⟨_,A4,p4,e,_⟩:=times_at hv4;exact ⟨A4,p4,e⟩
  subst e4
  have HWT:=Lib.hid hwt.2
  have HCK:=Lib.hid hck
  clear hv4 hq4 hx3 hz3 hb3 hni3 hnz3 hs3 x0 x1 x2 x3 HRW HC hck hwt
  generalize t.rows.length=rl at *
  go_wp2_with fail
  refine HSM.out.stepB (w0:=w) (B:=w.heap.size) hb4 (by omega) ?_
  intro v5 w5 hv5 hb5 _ hq5
  have hx5:=hx4.later hq5
  have hz5:=hz4.later hq5
  have hni5:=hni4.later (by omega) hq5
  have hnz5:=hnz4.later (by omega) hq5
  have hs5:w.heap.size+2≤w5.heap.size:=Nat.le_trans hs4 hq5.size
  have HWH:=Lib.hid (table_may_calls hv5)
  have HV5:=Lib.hid hv5
  obtain ⟨A5,p5,e5⟩:∃ A5 p5,v5=.slice A5 (sumW t.rows l).length p5:=by obtain ⟨_,A5,p5,e,_⟩:=times_at hv5;exact ⟨A5,p5,e⟩
  subst e5
  clear hv5 hq5 hx4 hz4 hb4 hni4 hnz4 hs4 HSM
  generalize (sumW t.rows l).length=sl at *
  go_wp2_with fail
  refine HWH.out.stepB (w0:=w) (B:=w.heap.size) hb5 (by omega) ?_
  intro w6 hb6 _ hq6
  have hx6:=hx5.later hq6
  have hz6:=hz5.later hq6
  have hni6:=hni5.later (by omega) hq6
  have hnz6:=hnz5.later (by omega) hq6
  have hs6:w.heap.size+2≤w6.heap.size:=Nat.le_trans hs5 hq6.size
  have HE:=Lib.hid (may_apply HCK.out)
  clear hq6 hx5 hz5 hb5 hni5 hnz5 hs5 HWH HV5
  by_cases hm:mayN (sumW t.rows l)=0
  ·have d2:(mayN (sumW t.rows l) != 0)=false:=by simp [hm]
   have HE0:Hid (applyN t l=0):=HE.out.trans hm
   clear hm
   generalize mayN (sumW t.rows l)=mn at *
   have HTW:Hid (TblQ (awayQ Q w.heap.size) w6 (.slice Ac t.cols.length pc) (.slice Ab (cutL t.R).length pb) (.slice At t.T.length pt) t):=HT0.out.oldQ hb6 fun u r hu hq=>⟨⟨box_below hu (Nat.le_refl _),box_below hu (Nat.le_succ _)⟩,hq⟩
   have HQW:Hid (∀ wx,Below w.heap.size w wx→w.heap.size+2≤wx.heap.size→∀ u,Fresh wx.heap.size u→awayQ Q w.heap.size u):=fun wx hbx hsx u hu=>⟨⟨box_fresh hu (by omega),box_fresh hu (by omega)⟩,HQ.out u (hu.mono hbx.size)⟩
   have HCP:=Lib.hid (table_copied_q (awayQ Q w.heap.size) (w:=w6) ⟨_,_,_,rfl,HTW.out⟩ (by have:=HG.out.cols;omega) (by have:=HG.out.few_cut;omega) (blksCols_few rfl (by have:=HG.out.cols;omega)) (HQW.out w6 hb6 hs6))
   have HLQ:Hid (TimesQ (awayQ Q w.heap.size) w6 (.slice Al l.length pl) l):=TimesQ.oldQ HL0.out hb6 fun u r hu hq=>⟨⟨box_below hu (Nat.le_refl _),box_below hu (Nat.le_succ _)⟩,hq⟩
   obtain ⟨x0,x1,x2,x3,_⟩:=hx6.cells
   obtain ⟨f0,f1,f2,f3⟩:=hx6.free
   go_wp2_with fail
   refine HCP.out.mono ?_
   rintro e w7 ⟨v7,rfl,⟨cv7,bv7,tv7,rfl,hT7⟩,hq7⟩
   obtain ⟨⟨A1,p1,rfl⟩,⟨A2,p2,rfl⟩,⟨A3,p3,rfl⟩⟩:=hT7.of.slices
   have hx7:=hx6.later hq7
   have hz7:=hz6.later hq7
   have hb7:=hb6.trans (hq7.mono hb6.size)
   have hni7:=hni6.later (by omega) hq7
   have hnz7:=hnz6.later (by omega) hq7
   have hs7:w.heap.size+2≤w7.heap.size:=Nat.le_trans hs6 hq7.size
   have hgA:=setCells_grown w.heap.size [Value.string t.name,.slice A1 t.cols.length p1,.slice A2 (cutL t.R).length p2,.slice A3 t.T.length p3] 0 w7
   simp only [World.setCells,Nat.zero_add,Nat.reduceAdd] at hgA
   have hx8:=hx7.putAll t.name (.slice A1 t.cols.length p1) (.slice A2 (cutL t.R).length p2) (.slice A3 t.T.length p3)
   have hni8:=hni7.putAll (n':=t.name) (A1:=A1) (n1:=t.cols.length) (p1:=p1) (A2:=A2) (n2:=(cutL t.R).length) (p2:=p2) (A3:=A3) (n3:=t.T.length) (p3:=p3) hx7
   have hz8:=hz7.other hgA (by simp)
   have hnz8:=hnz7.other (by omega) hgA (by simp)
   have hb8:=below_four hb7 (Nat.le_refl _) (.string t.name) (.slice A1 t.cols.length p1) (.slice A2 (cutL t.R).length p2) (.slice A3 t.T.length p3)
   have hT8:=hT7.boxed (O:=w.heap.size) (fun u hu=>hu.1.1) hni7 hgA
   have hl8:=(HLQ.out.kept hq7).boxed (O:=w.heap.size) (fun u hu=>hu.1.1) hni7 hgA
   have hs8:w.heap.size+2≤((((w7.setCell ⟨w.heap.size,0,none⟩ (.string t.name)).setCell ⟨w.heap.size,1,none⟩ (.slice A1 t.cols.length p1)).setCell ⟨w.heap.size,2,none⟩ (.slice A2 (cutL t.R).length p2)).setCell ⟨w.heap.size,3,none⟩ (.slice A3 t.T.length p3)).heap.size:=Nat.le_trans hs7 hgA.size
   obtain ⟨y0,y1,y2,y3,_⟩:=hx7.cells
   obtain ⟨e0,e1,e2,e3⟩:=hx7.free
   obtain ⟨u0,u1,u2,u3,_⟩:=hx8.cells
   clear x0 x1 x2 x3 f0 f1 f2 f3 hx6 hz6 hb6 hni6 hnz6 hs6 hq7 hx7 hz7 hb7 hni7 hnz7 hs7 hT7 hgA HCP
   go_wp2_with fail
   generalize (((w7.setCell ⟨w.heap.size,0,none⟩ (.string t.name)).setCell ⟨w.heap.size,1,none⟩ (.slice A1 t.cols.length p1)).setCell ⟨w.heap.size,2,none⟩ (.slice A2 (cutL t.R).length p2)).setCell ⟨w.heap.size,3,none⟩ (.slice A3 t.T.length p3)=w8 at *
   clear y0 y1 y2 y3 e0 e1 e2 e3 u0 u1 u2 u3
   have HSM:=Lib.hid (weigh_sum_q (awayQ Q w.heap.size) (HQW.out w8 hb8 hs8) hT8.tail.times hl8.times (by have:=HG.out.tlen;omega) HWT.out (short_fits HG.out.tfits HG.out.cols) (short_fits (check_zero HCK.out).1 HG.out.cols))
   unfold GivesTimesQ at HSM
   refine HSM.out.mono ?_
   rintro e w9 ⟨v9,rfl,hv9,hq9⟩
   obtain ⟨A9,p9,rfl⟩:∃ A9 p9,v9=.slice A9 (sumW t.T l).length p9:=by obtain ⟨_,A,p,e,_⟩:=times_at hv9.times;exact ⟨A,p,e⟩
   have hx9:=hx8.later hq9
   have hz9:=hz8.later hq9
   have hni9:=hni8.later (by omega) hq9
   have hnz9:=hnz8.later (by omega) hq9
   have hs9:w.heap.size+2≤w9.heap.size:=Nat.le_trans hs8 hq9.size
   have hgB:=setCells_grown w.heap.size [Value.slice A9 (sumW t.T l).length p9] 3 w9
   simp only [World.setCells] at hgB
   have hx10:=hx9.put3 (.slice A9 (sumW t.T l).length p9)
   have hz10:=hz9.other hgB (by simp)
   have hnz10:=hnz9.other (by omega) hgB (by simp)
   have hb10:=(hb8.trans (hq9.mono hb8.size)).setCell (p:=⟨w.heap.size,3,none⟩) (Nat.le_refl _) (.slice A9 (sumW t.T l).length p9)
   have hc10:=(hT8.cols.kept hq9).boxed hni9 hgB
   have hk10:=(hT8.blks.kept hq9).boxed (O:=w.heap.size) (fun u hu=>hu.1.1) hni9 hgB
   have hv10:=hv9.boxed (O:=w.heap.size) (fun u hu=>hu.1.1) hni9 hgB
   have hgC:=setCells_grown (w.heap.size+1) [Value.string t.name,.slice A1 t.cols.length p1,.slice A2 (cutL t.R).length p2,.slice A9 (sumW t.T l).length p9] 0 (w9.setCell ⟨w.heap.size,3,none⟩ (.slice A9 (sumW t.T l).length p9))
   simp only [World.setCells,Nat.zero_add,Nat.reduceAdd] at hgC
   have hz11:=hz10.putAll t.name (.slice A1 t.cols.length p1) (.slice A2 (cutL t.R).length p2) (.slice A9 (sumW t.T l).length p9)
   have HB11:=Lib.hid (below_four hb10 (Nat.le_succ _) (.string t.name) (.slice A1 t.cols.length p1) (.slice A2 (cutL t.R).length p2) (.slice A9 (sumW t.T l).length p9))
   have HC11:=Lib.hid (hc10.boxed hnz10 hgC)
   have HK11:=Lib.hid ((hk10.boxed (O:=w.heap.size+1) (fun u hu=>hu.1.2) hnz10 hgC).mono (Q':=Q) fun u hu=>hu.2)
   have HV11:=Lib.hid ((hv10.boxed (O:=w.heap.size+1) (fun u hu=>hu.1.2) hnz10 hgC).mono (Q':=Q) fun u hu=>hu.2)
   obtain ⟨y0,y1,y2,y3,_⟩:=hx9.cells
   obtain ⟨_,_,_,e3⟩:=hx9.free
   obtain ⟨u0,u1,u2,u3,_⟩:=hx10.cells
   obtain ⟨g0,g1,g2,g3,_⟩:=hz10.cells
   obtain ⟨k0,k1,k2,k3⟩:=hz10.free
   clear hx8 hz8 hni8 hnz8 hs8 hT8 hl8 hb8 hq9 hx9 hz9 hni9 hnz9 hs9 hgB hx10 hz10 hnz10 hb10 hc10 hk10 hv10 hgC hv9 HSM
   generalize (sumW t.T l).length=tl at *
   go_wp2
   obtain ⟨v0,v1,v2,v3,_⟩:=hz11.cells
   refine ⟨rfl,.tuple #[.agg #[.string t.name,.slice A1 t.cols.length p1,.slice A2 (cutL t.R).length p2,.slice A9 tl p9],.int .i64 0],?_,_,by rw [HE0.out],?_,HB11.out⟩
   ·simp [results,Tryz.results15,go_sem,v0,v1,v2,v3]
   ·have e1:applyT t l={ t with T:=sumW t.T l }:=if_pos HE0.out
    rw [e1]
    exact ⟨_,_,_,rfl,⟨HC11.out,HK11.out,HV11.out⟩⟩
  ·have d2:(mayN (sumW t.rows l) != 0)=true:=by simp [hm]
   have HMZ:=Lib.hid hm
   clear hm hni6 hnz6 hs6
   obtain ⟨x0,x1,x2,x3,_⟩:=hx6.cells
   obtain ⟨y0,y1,y2,y3,_⟩:=hx6.cells
   obtain ⟨g0,g1,g2,g3,_⟩:=hz6.cells
   obtain ⟨k0,k1,k2,k3⟩:=hz6.free
   have hz5:=hz6.putAll t.name (.slice Ac t.cols.length pc) (.slice Ab (cutL t.R).length pb) (.slice At t.T.length pt)
   have HB5:=Lib.hid (below_four hb6 (Nat.le_succ _) (.string t.name) (.slice Ac t.cols.length pc) (.slice Ab (cutL t.R).length pb) (.slice At t.T.length pt))
   have HNE:Hid (applyN t l≠0):=fun e=>HMZ.out (HE.out.symm.trans e)
   clear hx6 hz6 hb6
   go_wp2
   obtain ⟨v0,v1,v2,v3,_⟩:=hz5.cells
   refine ⟨rfl,.tuple #[.agg #[.string t.name,.slice Ac t.cols.length pc,.slice Ab (cutL t.R).length pb,.slice At t.T.length pt],.int .i64 (mayN (sumW t.rows l))],?_,_,by rw [Hid.out HE],?_,HB5.out⟩
   ·simp [results,Tryz.results15,go_sem,v0,v1,v2,v3]
   ·rw [applyT_no HNE.out];exact ⟨_,_,_,rfl,HT0.out.kept HB5.out⟩
 ·have d1:(checkN t.cols l != 0)=true:=by simp [hc]
  have HCZ:=Lib.hid hc
  have HE:=Lib.hid (applyN_check hc)
  clear hc hni3 hnz3
  obtain ⟨y0,y1,y2,y3,_⟩:=hx3.cells
  obtain ⟨g0,g1,g2,g3,_⟩:=hz3.cells
  obtain ⟨k0,k1,k2,k3⟩:=hz3.free
  have hz5:=hz3.putAll t.name (.slice Ac t.cols.length pc) (.slice Ab (cutL t.R).length pb) (.slice At t.T.length pt)
  have HB5:=Lib.hid (below_four hb3 (Nat.le_succ _) (.string t.name) (.slice Ac t.cols.length pc) (.slice Ab (cutL t.R).length pb) (.slice At t.T.length pt))
  have HNE:Hid (applyN t l≠0):=fun e=>HCZ.out (HE.out.symm.trans e)
  clear hx3 hz3 hb3
  go_wp2
  obtain ⟨v0,v1,v2,v3,_⟩:=hz5.cells
  refine ⟨rfl,.tuple #[.agg #[.string t.name,.slice Ac t.cols.length pc,.slice Ab (cutL t.R).length pb,.slice At t.T.length pt],.int .i64 (checkN t.cols l)],?_,_,by rw [Hid.out HE],?_,HB5.out⟩
  ·simp [results,Tryz.results15,go_sem,v0,v1,v2,v3]
  ·rw [applyT_no HNE.out];exact ⟨_,_,_,rfl,HT0.out.kept HB5.out⟩
theorem table_apply_calls {w:World}{v vl:Value}{t:Tbl}{l:List Tm}(h:TblIn w v t)(hg:GoodT t)(hl:TimesIn w vl l)(hll:l.length≤1000):Calls Tryz.prog 15 #[v,vl] w (TApplyEnd w t l):=by
 refine (table_apply_q (fun _=>True) h.trueQ hg (fun _ _=>trivial) hl.trueQ hll).mono ?_
 rintro e w1 ⟨v1,he,h1,hb⟩
 exact ⟨v1,he,h1.tbl,hb⟩
end Go.Proofs.YtafmbnafibahkaaGreat
