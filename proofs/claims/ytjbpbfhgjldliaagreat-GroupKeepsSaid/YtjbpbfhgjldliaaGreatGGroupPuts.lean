/- The contract of layer 21's own put: all batches, one behind the other. -/
import Derived.Test.YtjbpbfhgjldliaaGreatGTimes
import Derived.Test.YtjbpbfhgjldliaaGreatGWeighFns
import Derived.Test.YtjbpbfhgjldliaaGreatGZFoldPure
import Derived.Test.YtjbpbfhgjldliaaGreatGGroupKin
import Derived.Test.YtjbpbfhgjldliaaGreatGPairOn
import Derived.Test.YtjbpbfhgjldliaaGreatGWeighSmall
import Derived.Test.YtjbpbfhgjldliaaGreatGGroupOwn
import Derived.Shelf.Abstract
namespace Go.Proofs.YtjbpbfhgjldliaaGreat
open Go Go.RowKit
theorem clone_cellsP {w:World}{v:Value}{n:Nat}{xs:List Value}(h:SliceOf w 4 v n xs):∃ A c,v=.slice A n c∧(A=none→n=0):=by
 obtain ⟨A,c,e,hat⟩:=h.at_
 refine ⟨A,c,e,fun h0=>?_⟩
 rcases Nat.eq_zero_or_pos n with hn|hn
 ·exact hn
 ·obtain ⟨b,off,e1,_⟩:=hat hn
  rw [h0] at e1;cases e1
set_option maxHeartbeats 1000000 in
theorem clone_parts_calls {w:World}{v:Value}{n:Nat}{xs:List Value}(h:SliceOf w 4 v n xs)(h1:∀ u∈xs,u.oneCell'=true)(hl:n≤1000000):Calls Tryz.prog 56 #[v] w fun e w'=>∃ v,e=.returned v∧Own w' w.heap.size 4 v n xs∧Below w.heap.size w w':=by
 obtain ⟨i0,hi,hz0,hz1,hz2⟩:=info_parts Tryz.infoG72
 obtain ⟨hb,hB⟩:=start w
 obtain ⟨A,c,rfl,hat⟩:=clone_cellsP h
 have H:=Lib.hid h
 have H1:=Lib.hid h1
 clear h1
 cases A with
 | none =>
  have h0:=hat rfl
  subst h0
  have hx:xs=[]:=List.eq_nil_of_length_eq_zero (by have:=h.1;omega)
  subst hx
  clear hat h
  have q22:∀ (w:World) (a:Option Addr) (n c n' c':Nat),(binOp .eql 44 (.slice a n c) (.slice none n' c')).run Tryz.prog w=.ok (.bool a.isNone) w:=fun w a n c n' c'=>Lib.run_eql_slice_nil w _ _ a n c n' c' Tryz.underlying44
  go_enter Tryz.func56,Tryz.ntmps56
  go_wp2
  go_ret
  exact ⟨_,rfl,Own.nil_ _ _ _,hb⟩
 | some ad =>
  clear hat h
  have q22:∀ (w:World) (a:Option Addr) (n c n' c':Nat),(binOp .eql 44 (.slice a n c) (.slice none n' c')).run Tryz.prog w=.ok (.bool a.isNone) w:=fun w a n c n' c'=>Lib.run_eql_slice_nil w _ _ a n c n' c' Tryz.underlying44
  go_enter Tryz.func56,Tryz.ntmps56
  go_wp2_with (at_builtin;refine wpList_append_src rfl (.tmp 5) (.tmp 6) 44 rfl 72 i0 (.agg #[.int .i64 0,.int .i64 0,.int .u64 0,.slice none 0 0]) 4 48 Tryz.underlying44 hi hz0 hz1 hz2 rfl (by decide) (B:=w.heap.size) _ 0 [] rfl (own_empty 4 (Nat.le_refl _) (by simp)) (.slice (some ad) n c) n xs rfl (SliceOf.alloc H.out _) H1.out (by unfold maxLen;omega) (by omega) (by simp) ?_)
  intro v7 w7 hO7 hg7 _
  have hb7:=boxed_below hg7
  have hO:Own w7 w.heap.size 4 v7 n xs:=by simpa using hO7
  clear hO7 hg7 hb hB
  obtain ⟨A9,p9,rfl⟩:=hO.len
  have HO:=Lib.hid hO
  clear hO
  go_wp2
  go_ret
  exact ⟨_,rfl,HO.out,hb7⟩
def CopyG (w:World)(l:List Tm)(e:Ending)(w':World):Prop:=∃ u,e=.returned u∧timesK.In (Fresh w.heap.size) w' u l∧Below w.heap.size w w'
set_option maxHeartbeats 4000000 in
set_option maxRecDepth 100000 in
theorem gcopied_calls {w:World}{v:Value}{l:List Tm}(h:TimesIn w v l)(hl:l.length≤1000000)(hS:ShortR l):Calls Tryz.prog 57 #[v] w (CopyG w l):=by
 obtain ⟨us0,hu0,hsl0,hr0,_⟩:=timesK_any h
 have hul:us0.length=l.length:=by rw [←hu0,List.length_map]
 have hcl:=clone_times_calls hsl0 (Kin.flat_one_cell hr0) hl
 have HR0:=Lib.hid (fun t ht=>timesK.lain (hr0 t ht))
 have HU0:=Lib.hid hu0
 have HUL:=Lib.hid hul
 have HSH:=Lib.hid hS
 have HLL:=Lib.hid hl
 obtain ⟨A0,p0,rfl⟩:=times_slice h
 clear h hsl0 hr0 hu0 hS
 unfold GivesOwnCells at hcl
 go_enter Tryz.func57,Tryz.ntmps57
 go_wp2_with fail
 refine hcl.mono ?_
 clear hcl
 rintro e w1 ⟨v1,rfl,hO1,hb1⟩
 have hM1:timesK.Mine (fun _=>True) w1 w.heap.size v1 us0:=by
  refine ⟨by rw [hul];exact hO1,fun t ht=>?_⟩
  exact timesK.mono (timesK.kept (HR0.out t ht) hb1) fun u hu=>⟨trivial,hu.2.apart fun k hk=>(hO1.lt k hk).1⟩
 obtain ⟨A1,p1,rfl⟩:=hO1.len
 have HM1:=Lib.hid hM1
 have HB1:=Lib.hid hb1
 clear hO1 hb1 hM1
 go_wp2
 go_loopw [9] (fun i wr=>∃ (k:Nat) (us:List (Value×Tm)),k≤l.length∧i=.int .i64 k∧us.length=l.length∧us.map Prod.snd=l∧Hid (timesK.Mine (fun _=>True) wr w.heap.size (.slice A1 l.length p1) us)∧Hid (∀ j t,j < k→us[j]? = some t→Fresh w.heap.size t.1)∧Hid (Below w.heap.size w wr)) (fun i _=>l.length-(intOf i).toNat)
 case atStart=>exact ⟨0,us0,Nat.zero_le _,rfl,HUL.out,HU0.out,HM1,fun j t h=>absurd h (by omega),HB1⟩
 case round =>
  clear HM1 HB1 HU0 HUL HR0
  obtain ⟨k,us,hk,rfl,hul2,hus,HM,HF,HB⟩:=hrel
  have hll:=HLL.out
  by_cases hlt:k < l.length
  ·have hku:k < us.length:=by omega
   obtain ⟨g,off,cap,e9⟩:=HM.out.some_ (by omega)
   obtain ⟨rfl,rfl⟩:A1=some ⟨g,off,none⟩∧p1=cap:=by injection e9 with a _ b;exact ⟨a,b⟩
   obtain ⟨hcs,hBg,hgl,-,-⟩:=HM.out.at_ k hku
   have y0:wr.cell? ⟨g,off+k*2+0,none⟩=some _∧wr.frozen? ⟨g,off+k*2+0,none⟩=false:=hcs 0 _ rfl
   obtain ⟨y0,f0⟩:=y0
   rw [Nat.add_zero] at y0 f0
   have hrk:=HM.out.each _ (List.getElem_mem hku)
   have hmk:us[k].2∈l:=by rw [←hus];exact List.mem_map.2 ⟨_,List.getElem_mem hku,rfl⟩
   have hsk:=hrk.1
   have HSK:=Lib.hid (HSH.out _ hmk)
   have HGK:Hid (us[k]? = some us[k]):=List.getElem?_eq_getElem hku
   have HKU:Hid (k < us.length):=hku
   have HLK:Hid (k < l.length):=hlt
   have i1:(k:Int) < (l.length:Int):=by omega
   have HCL:=Lib.hid (clone_row_calls hsk HSK.out)
   obtain ⟨Ar,pr,er,_⟩:=one_at hsk
   rw [er] at y0 HCL
   have HBG:Hid (w.heap.size≤g∧g < wr.heap.size):=⟨hBg,hgl⟩
   clear hcs hrk hmk hsk e9 er hBg hgl
   have HSET:Hid (∀ (W:World) (rv:Value),timesK.Mine (fun _=>True) W w.heap.size (.slice (some ⟨g,off,none⟩) l.length p1) us→StrsIn W rv us[k].2.1→RowOff (.slice (some ⟨g,off,none⟩) l.length p1) rv →
     timesK.Mine (fun _=>True) (W.setCell ⟨g,off+k*2,none⟩ rv) w.heap.size (.slice (some ⟨g,off,none⟩) l.length p1) (us.set k (rv,us[k].2))):=fun W rv hM hs ho=>by
    have:=hM.put k hku 0 (by decide) (t':=(rv,us[k].2)) (u:=rv) rfl ⟨hs,trivial,ho⟩
    exact this
   generalize us[k]=t at *
   obtain ⟨rv0,row,n⟩:=t
   dsimp only at *
   unfold GivesOwnRow at HCL
   go_wp2_with fail
   refine Calls.mono HCL.out ?_
   rintro e w5 ⟨A5,p5,rfl,hs5,hf5,hq5⟩
   have HM5:=Lib.hid (HM.out.later hq5)
   have y5:=cell_kept y0 hq5
   have f5:=(hq5.frozen (p:=⟨g,off+k*2,none⟩) HBG.out.2).trans f0
   have HN:=Lib.hid (HSET.out w5 (.slice A5 row.length p5) HM5.out hs5 (RowOff.of_fresh hf5 fun j hj=>by
    simp only [Value.ownBlock,Option.some.injEq] at hj
    have:=HBG.out.2
    omega))
   have HFN:Hid (∀ j t,j < k+1→(us.set k (.slice A5 row.length p5,(row,n)))[j]? = some t→Fresh w.heap.size t.1):=fun j t hj ht=>by
    by_cases e:j=k
    ·subst e
     rw [List.getElem?_set_self HKU.out] at ht
     rw [←Option.some.inj ht]
     exact hf5.mono HB.out.size
    ·rw [List.getElem?_set_ne (fun h=>e h.symm)] at ht
     exact HF.out j t (by omega) ht
   have HUN:Hid ((us.set k (.slice A5 row.length p5,(row,n))).map Prod.snd=l):=by
    show _=_
    rw [List.map_set,←hus]
    refine List.ext_getElem? fun j=>?_
    by_cases e:j=k
    ·subst e
     rw [List.getElem?_set_self (by rw [List.length_map];exact HKU.out),List.getElem?_map,HGK.out];rfl
    ·rw [List.getElem?_set_ne (fun h=>e h.symm)]
   have HB5:=Lib.hid ((HB.out.trans (hq5.mono HB.out.size)).setCell (p:=⟨g,off+k*2,none⟩) HBG.out.1 (.slice A5 row.length p5))
   have hgl5:=Nat.lt_of_lt_of_le HBG.out.2 hq5.size
   clear hs5 hf5 hq5 y0 f0 HCL
   go_wp2
   go_roundw
   case rel=>exact ⟨k+1,us.set k (.slice A5 row.length p5,(row,n)),HLK.out,by go_num,by rw [List.length_set];exact hul2,HUN.out,HN,HFN,HB5⟩
   case measure=>have:=HLK.out;simp [intOf];omega
  ·obtain rfl:k=l.length:=by omega
   have HT:Hid (timesK.In (Fresh w.heap.size) wr (.slice A1 l.length p1) l):=by
    refine ⟨us,hus,by rw [←hul2] ;have:=HM.out.own.slice;rw [hul2] at this ⊢;exact this,fun t ht=>?_,fun j hj=>(HM.out.lt j hj).1⟩
    obtain ⟨j,hj,rfl⟩:=List.getElem_of_mem ht
    exact ⟨(HM.out.each _ ht).1,HF.out j _ (by omega) (List.getElem?_eq_getElem hj)⟩
   go_wp2
   go_ret
   exact ⟨_,rfl,HT.out,HB.out⟩
theorem groupK_lit (w:World)(T:TypeId)(t:GV):SliceOf (w.alloc (.cells #[t.1,.int .i64 t.2.2.n,t.2.1] T)) 3 (.slice (some ⟨w.heap.size,0,none⟩) 1 1) 1 (groupK.cells t) :=
 (Own.lit (B:=0) (size:=3) w #[t.1,.int .i64 t.2.2.n,t.2.1] T 1 (Nat.zero_le _) (by unfold maxLen;omega) rfl).slice
theorem Tryz.infoG46:(Tryz.prog.info? 46).map (fun i=>(i.zero,i.size,i.bytes))=some (some (.agg #[.slice none 0 0,.int .i64 0,.slice none 0 0]),3,56):=by kernel_rfl
structure MineI {τ α:Type} (K:Kin τ α) (QI:Nat→Value→Prop) (w:World) (B:Nat) (v:Value) (tv:List τ):Prop where
 own:Own w B K.size v tv.length (K.flat tv)
 each:∀ j (hj:j < tv.length),K.R (fun u=>QI j u∧RowOff v u) w tv[j]
section
variable {τ α:Type}{K:Kin τ α}{QI QJ:Nat→Value→Prop}{Q:Value→Prop}{w w':World}{v:Value}{tv:List τ}{B:Nat}
theorem MineI.later (h:MineI K QI w B v tv)(hb:Below w.heap.size w w'):MineI K QI w' B v tv:=⟨h.own.later hb,fun j hj=>K.kept (h.each j hj) hb⟩
theorem MineI.of (h:K.Mine Q w B v tv)(hq:∀ j u,Q u→QI j u):MineI K QI w B v tv:=⟨h.own,fun j hj=>K.mono (h.each _ (List.getElem_mem hj)) fun _ hu=>⟨hq j _ hu.1,hu.2⟩⟩
theorem MineI.mine (h:MineI K QI w B v tv)(hq:∀ j u,j < tv.length→QI j u→Q u):K.Mine Q w B v tv:=⟨h.own,fun t ht=>by
 obtain ⟨j,hj,rfl⟩:=List.getElem_of_mem ht
 exact K.mono (h.each j hj) fun _ hu=>⟨hq j _ hj hu.1,hu.2⟩⟩
theorem MineI.any (h:MineI K QI w B v tv):K.Mine (fun _=>True) w B v tv:=h.mine fun _ _ _ _=>trivial
theorem MineI.put {g off n cap:Nat}(h:MineI K QI w B (.slice (some ⟨g,off,none⟩) n cap) tv)(j:Nat)(hj:j < tv.length)(i:Nat)(hi:i < K.size){t':τ}{u:Value}(e:K.cells t'=(K.cells tv[j]).set i u)(hr:K.R (fun u=>QJ j u∧RowOff (.slice (some ⟨g,off,none⟩) n cap) u) w t')
  (hq:∀ k u,k≠j→QI k u→QJ k u):MineI K QJ (w.setCell ⟨g,off+(j*K.size+i),none⟩ u) B (.slice (some ⟨g,off,none⟩) n cap) (tv.set j t'):=by
 have h1:=h.any.put j hj i hi e (K.mono hr fun _ hu=>⟨trivial,hu.2⟩)
 have hgr:w.grownBy (w.setCell ⟨g,off+(j*K.size+i),none⟩ u) (some g):=setCells_grown g [u] (off+(j*K.size+i)) w
 refine ⟨h1.own,fun k hk=>?_⟩
 rw [List.length_set] at hk
 rw [List.getElem_set]
 split
 ·rename_i e2;subst e2
  exact K.off (v:=.slice (some ⟨g,off,none⟩) n cap) hr (fun _ hu=>hu.2) hgr
 ·rename_i hne
  exact K.mono (K.off (v:=.slice (some ⟨g,off,none⟩) n cap) (h.each k hk) (fun _ hu=>hu.2) hgr) fun _ hu=>⟨hq k _ (fun e2=>hne e2.symm) hu.1,hu.2⟩
end
def GrpR (B:Nat)(g:GroupP)(pv:Value):Value→World→Prop:=fun v w=>∃ A p,v=.agg #[.slice A g.key.length p,.int .i64 g.n,pv]∧StrsIn w (.slice A g.key.length p) g.key∧Fresh B (.slice A g.key.length p)
theorem GrpR.kept {B:Nat}{g:GroupP}{pv:Value}:∀ (v:Value)(w w':World),Below w.heap.size w w'→GrpR B g pv v w→GrpR B g pv v w':=fun v w w' hb h=>by
 obtain ⟨A,p,e,h1,h2⟩:=h
 exact ⟨A,p,e,StrsIn.kept h1 hb,h2⟩
def OneG (B:Nat)(g:GroupP)(pv:Value):Value→World→Prop:=fun v w=>∃ A p,SliceOf w 3 v 1 (groupK.cells (.slice A g.key.length p,pv,g))∧StrsIn w (.slice A g.key.length p) g.key∧Fresh B (.slice A g.key.length p)
theorem OneG.kept {B:Nat}{g:GroupP}{pv:Value}:∀ (v:Value)(w w':World),Below w.heap.size w w'→OneG B g pv v w→OneG B g pv v w':=fun v w w' hb h=>by
 obtain ⟨A,p,e,h1,h2⟩:=h
 exact ⟨A,p,SliceOf.later e hb,StrsIn.kept h1 hb,h2⟩
def appG (Q:Value→Prop)(w0 w6:World)(v0:Value)(tv:List GV)(g:GroupP):MSpec:=fun _ v w=>∃ t:GV,t.2.2=g∧groupK.Mine Q w w0.heap.size v (tv++[t])∧w6.grownBy w v0.ownBlock∧∀ k,v.ownBlock=some k→v0.ownBlock=some k∨w6.heap.size≤k
theorem stable_appG {Q:Value→Prop}{w0 w6:World}{v0:Value}{tv:List GV}{g:GroupP}:StableM (appG Q w0 w6 v0 tv g):=fun _ v w w' hb h=>by
 obtain ⟨t,h1,h2,h3,h4⟩:=h
 exact ⟨t,h1,h2.later hb,ggrown_trans h3 (below_grown (row:=none) hb) (fun k hk=>by cases hk),h4⟩
def CopyF (g:GroupP):Prop:=g.key.length≤1000000∧g.parts.length≤1000000∧∀ p∈g.parts,p.cells.length≤1000000∧ShortR p.cells
def CopiesG (Q:Value→Prop)(w0 w:World)(v0:Value)(tv:List GV)(l:List GroupP)(e:Ending)(w':World):Prop :=
 ∃ v us,e=.returned v∧us.map groupK.pr=l∧groupK.Mine Q w' w0.heap.size v (tv++us)∧w.grownBy w' v0.ownBlock∧∀ k,v.ownBlock=some k→v0.ownBlock=some k∨w.heap.size≤k
theorem part_at {Q:Value→Prop}{w:World}{v:Value}{l:List PartP}(h:partK.In Q w v l):∃ us:List (Value×PartP),us.map Prod.snd=l∧SliceOf w 4 v l.length (partK.flat us)∧(∀ t∈us,partK.R Q w t)∧Q v:=h
set_option maxHeartbeats 8000000 in
set_option maxRecDepth 100000 in
theorem gcopies_calls {Q:Value→Prop}{w0 w:World}{tov lv:Value}{tv:List GV}{l:List GroupP}(hb0:Below w0.heap.size w0 w)(hT:groupK.Mine Q w w0.heap.size tov tv)(h:groupK.In (fun _=>True) w0 lv l)(hQ:∀ u,Fresh w.heap.size u→Q u)(hf:∀ g∈l,CopyF g)(hl:tv.length+l.length≤1000000) :
  Calls Tryz.prog 43 #[tov,lv] w (CopiesG Q w0 w tov tv l):=by
 obtain ⟨i0,hi,hz0,hz1,hz2⟩:=info_parts Tryz.infoG46
 obtain ⟨gtv,A,cap,_,rfl,_,_,hat⟩:=h.at_
 have HAT:=Lib.hid hat
 have HFF:=Lib.hid hf
 have HLL:=Lib.hid hl
 have HQ0:=Lib.hid hQ
 have HBW:=Lib.hid hb0
 obtain ⟨At,ct,rfl⟩:=hT.slice
 have HT0:=Lib.hid hT
 clear h hat hf hQ hT hb0
 go_enter Tryz.func43,Tryz.ntmps43
 go_wp2
 go_loopw [0,11] (fun x i wr=>∃ (k:Nat) (us:List GV),k≤l.length∧i=.int .i64 k∧us.map groupK.pr=l.take k∧Hid (groupK.Mine Q wr w0.heap.size x (tv++us))∧Hid (w.grownBy wr (Value.slice At tv.length ct).ownBlock)∧Hid (∀ k,x.ownBlock=some k→(Value.slice At tv.length ct).ownBlock=some k∨w.heap.size≤k)) (fun _ i _=>l.length-(intOf i).toNat)
 case atStart=>exact ⟨0,[],Nat.zero_le _,rfl,rfl,by rw [List.append_nil];exact HT0,Lib.hid (below_grown (.refl _ _)),fun k hk=>.inl hk⟩
 case round =>
  obtain ⟨k,us,hk,rfl,hus,HM,HG,HV⟩:=hrel
  have HBR:Hid (Below w0.heap.size w0 wr):=HBW.out.grown HG.out HBW.out.size fun j hj=>(HT0.out.lt j hj).1
  obtain ⟨tvc,htvc⟩:∃ tvc,tv++us=tvc:=⟨_,rfl⟩
  have HTC:=Lib.hid htvc
  rw [htvc] at HM
  have htl:tvc.length=tv.length+k:=by
   have:=congrArg List.length hus
   rw [List.length_map,List.length_take] at this
   rw [←htvc,List.length_append]
   omega
  obtain ⟨A9,p9,rfl⟩:=HM.out.slice
  have hll:=HLL.out
  by_cases hlt:k < l.length
  ·obtain ⟨b,off,rfl,hbl,hc⟩:=HAT.out k hlt
   obtain ⟨⟨kv,pv,g0⟩,_,_,hg0,hr0,hc0⟩:=hc k hlt
   change g0=_ at hg0
   obtain ⟨Ak,pk,Ap,pp,rfl,rfl,hk0,_,hp0⟩:=group_open hr0
   have x0:=(HBR.out.cell (p:=⟨b,off+k*3+0,none⟩) hbl).trans (hc0 0 _ rfl)
   have x1:=(HBR.out.cell (p:=⟨b,off+k*3+1,none⟩) hbl).trans (hc0 1 _ rfl)
   have x2:=(HBR.out.cell (p:=⟨b,off+k*3+2,none⟩) hbl).trans (hc0 2 _ rfl)
   rw [Nat.add_zero] at x0
   dsimp only at x0 x1 x2
   have HTK:Hid (l.take (k+1)=l.take k++[g0]):=by
    show _=_
    rw [take_add l k hlt,hg0]
   have HFG:=Lib.hid (HFF.out _ (List.getElem_mem hlt))
   rw [←hg0] at HFG
   have HTL:Hid (tvc.length+1≤1000000):=by show _≤_;omega
   have HLK:Hid (k < l.length):=hlt
   have i1:(k:Int) < (l.length:Int):=by omega
   have hq0:=Below.alloc (.refl wr.heap.size wr) (Nat.le_refl _) (.cells #[.slice Ak g0.key.length pk,.int .i64 g0.n,.slice Ap g0.parts.length pp] 46)
   have z0:=box_cell wr 46 #[.slice Ak g0.key.length pk,.int .i64 g0.n,.slice Ap g0.parts.length pp] 0 _ rfl
   have z1:=box_cell wr 46 #[.slice Ak g0.key.length pk,.int .i64 g0.n,.slice Ap g0.parts.length pp] 1 _ rfl
   have z2:=box_cell wr 46 #[.slice Ak g0.key.length pk,.int .i64 g0.n,.slice Ap g0.parts.length pp] 2 _ rfl
   have hbw:=HBR.out.trans (hq0.mono HBR.out.size)
   obtain ⟨ps0,hps0,hpsl,hpsr,_⟩:=part_at (hp0.kept hbw)
   have hpl:ps0.length=g0.parts.length:=by rw [←hps0,List.length_map]
   have HCL:=Lib.hid (clone_parts_calls hpsl (Kin.flat_one_cell hpsr) HFG.out.2.1)
   have HPR:=Lib.hid (fun t ht=>partK.lain (hpsr t ht))
   have HPS:=Lib.hid hps0
   have HPL:=Lib.hid hpl
   have HK0:=Lib.hid (StrsIn.kept hk0 hbw)
   have HQ0w:=Lib.hid hq0
   have HZ0:=Lib.hid z0
   have HZ1:=Lib.hid z1
   have HZ2:=Lib.hid z2
   have HVRR:Hid (∀ k,(Value.slice A9 tvc.length p9).ownBlock=some k→k < wr.heap.size):=fun k hk=>(HM.out.lt k hk).2
   clear hc hr0 hc0 hg0 hk0 hp0 hq0 hbw hpsl hpsr hps0 hpl hlt htvc htl
   go_wp2_with fail
   refine Calls.mono HCL.out ?_
   rintro e w3 ⟨v3,rfl,hO3,hb3⟩
   have hq3:=HQ0w.out.trans (hb3.mono HQ0w.out.size)
   have HWQ:=Lib.hid hb3
   have HI3:Hid (MineI partK (fun j u=>j < 0→Fresh wr.heap.size u) w3 (wr.alloc (.cells #[.slice Ak g0.key.length pk,.int .i64 g0.n,.slice Ap g0.parts.length pp] 46)).heap.size v3 ps0):=by
    refine ⟨by rw [HPL.out];exact hO3,fun j hj=>partK.mono (partK.kept (HPR.out _ (List.getElem_mem hj)) hb3) fun u hu=>⟨fun h=>absurd h (by omega),hu.2.apart fun k hk=>(hO3.lt k hk).1⟩⟩
   obtain ⟨A3,p3,rfl⟩:=hO3.len
   have HQ3:=Lib.hid hq3
   generalize hgen:wr.alloc _=w2 at *
   clear hO3 hb3 hq3 hgen x0 x1 x2 z0 z1 z2 HCL HPR
   go_wp2_with fail
   generalize hwro:wr=wo at *
   clear hwro
   go_loopw [20] (fun i wr=>∃ (m:Nat) (ps:List (Value×PartP)),m≤g0.parts.length∧i=.int .i64 m∧ps.length=g0.parts.length∧ps.map Prod.snd=g0.parts∧Hid (MineI partK (fun j u=>j < m→Fresh wo.heap.size u) wr w2.heap.size (.slice A3 g0.parts.length p3) ps)∧Hid (Below w2.heap.size w2 wr)) (fun i _=>g0.parts.length-(intOf i).toNat)
   case atStart=>exact ⟨0,ps0,Nat.zero_le _,rfl,HPL.out,HPS.out,HI3,HWQ⟩
   case round =>
    obtain ⟨m,ps,hm,rfl,hpl2,hps2,HI,HB2⟩:=hrel
    have hgpl:=HFG.out.2.1
    by_cases hmt:m < g0.parts.length
    ·have hmp:m < ps.length:=by omega
     obtain ⟨g,go,gc,e9⟩:=HI.out.any.some_ (by omega)
     obtain ⟨rfl,rfl⟩:A3=some ⟨g,go,none⟩∧p3=gc:=by injection e9 with a _ b;exact ⟨a,b⟩
     obtain ⟨hcs,hBg,hgl,-,-⟩:=HI.out.any.at_ m hmp
     have y3:wr.cell? ⟨g,go+m*4+3,none⟩=some _∧wr.frozen? ⟨g,go+m*4+3,none⟩=false:=hcs 3 _ rfl
     obtain ⟨y3,f3⟩:=y3
     have hrm:=HI.out.each m hmp
     have hmem:ps[m].2∈g0.parts:=by rw [←hps2];exact List.mem_map.2 ⟨_,List.getElem_mem hmp,rfl⟩
     have HCF:=Lib.hid (HFG.out.2.2 _ hmem)
     have htm:TimesIn wr ps[m].1 ps[m].2.cells:=timesK_times hrm
     have HCP:=Lib.hid (gcopied_calls htm HCF.out.1 HCF.out.2)
     obtain ⟨Ac,pc,ec⟩:=times_slice htm
     rw [ec] at y3 HCP
     have HGM:Hid (ps[m]? = some ps[m]):=List.getElem?_eq_getElem hmp
     have HMP:Hid (m < ps.length):=hmp
     have HMT:Hid (m < g0.parts.length):=hmt
     have j1:(m:Int) < (g0.parts.length:Int):=by omega
     have HBG:Hid (w2.heap.size≤g∧g < wr.heap.size):=⟨hBg,hgl⟩
     have HSET:Hid (∀ (W:World) (cv:Value),MineI partK (fun j u=>j < m→Fresh wo.heap.size u) W w2.heap.size (.slice (some ⟨g,go,none⟩) g0.parts.length p3) ps→timesK.In (fun u=>Fresh wo.heap.size u∧RowOff (.slice (some ⟨g,go,none⟩) g0.parts.length p3) u) W cv ps[m].2.cells →
       MineI partK (fun j u=>j < m+1→Fresh wo.heap.size u) (W.setCell ⟨g,go+m*4+3,none⟩ cv) w2.heap.size (.slice (some ⟨g,go,none⟩) g0.parts.length p3) (ps.set m (cv,ps[m].2))):=fun W cv hM hs=>by
      have:=hM.put (QJ:=fun j u=>j < m+1→Fresh wo.heap.size u) m hmp 3 (by decide) (t':=(cv,ps[m].2)) (u:=cv) rfl (hs.mono fun u hu=>⟨fun _=>hu.1,hu.2⟩) (fun k u hk hq hlt=>hq (by omega))
      rw [←Nat.add_assoc] at this
      exact this
     clear hcs hrm hmem htm ec hBg hgl e9 hmt
     generalize ps[m]=t at *
     obtain ⟨cv0,q0⟩:=t
     dsimp only at *
     go_wp2_with fail
     refine Calls.mono HCP.out ?_
     rintro e w5 ⟨u5,rfl,hT5,hq5⟩
     obtain ⟨A5,p5,rfl⟩:=hT5.slice
     have y5:=cell_kept y3 hq5
     have f5:=(hq5.frozen (p:=⟨g,go+m*4+3,none⟩) HBG.out.2).trans f3
     have HN:=Lib.hid (HSET.out w5 (.slice A5 q0.cells.length p5) (HI.out.later hq5) (hT5.mono fun u hu=>⟨hu.mono (Nat.le_trans HQ0w.out.size HB2.out.size),RowOff.of_fresh hu fun j hj=>by
      simp only [Value.ownBlock,Option.some.injEq] at hj
      have:=HBG.out.2
      omega⟩))
     have HUN:Hid ((ps.set m (.slice A5 q0.cells.length p5,q0)).map Prod.snd=g0.parts):=by
      show _=_
      rw [List.map_set,←hps2]
      refine List.ext_getElem? fun j=>?_
      by_cases e:j=m
      ·subst e
       rw [List.getElem?_set_self (by rw [List.length_map];exact HMP.out),List.getElem?_map,HGM.out];rfl
      ·rw [List.getElem?_set_ne (fun h=>e h.symm)]
     have hgw:w2.heap.size≤g:=HBG.out.1
     have HB5:=Lib.hid ((HB2.out.trans (hq5.mono HB2.out.size)).setCell (p:=⟨g,go+m*4+3,none⟩) hgw (.slice A5 q0.cells.length p5))
     have hgl5:=Nat.lt_of_lt_of_le HBG.out.2 hq5.size
     clear hT5 hq5 y3 f3 HCP
     go_wp2
     go_roundw
     case rel=>exact ⟨m+1,ps.set m (.slice A5 q0.cells.length p5,q0),HMT.out,by go_num,by rw [List.length_set];exact hpl2,HUN.out,HN,HB5⟩
     case measure=>have:=HMT.out;simp [intOf];omega
    ·obtain rfl:m=g0.parts.length:=by omega
     have HP7:Hid (partK.In (Fresh wo.heap.size) wr (.slice A3 g0.parts.length p3) g0.parts):=by
      have h1:=HI.out.mine (Q:=Fresh wo.heap.size) fun j u hj hq=>hq (by omega)
      have h2:=h1.in_ (fun k hk=>Nat.le_trans HQ0w.out.size (h1.lt k hk).1)
      have h3:ps.map partK.pr=g0.parts:=hps2
      rw [h3] at h2
      exact h2
     have hq6:=HQ0w.out.trans (HB2.out.mono HQ0w.out.size)
     have HKY:=Lib.hid (StrsIn.kept HK0.out HB2.out)
     have HX0:=Lib.hid (cell_kept HZ0.out HB2.out)
     have HX1:=Lib.hid (cell_kept HZ1.out HB2.out)
     have HX2:=Lib.hid (cell_kept HZ2.out HB2.out)
     have HOW:=Lib.hid (HM.out.later hq6)
     have HVB:Hid (∀ k,(Value.slice A9 tvc.length p9).ownBlock=some k→k < wr.heap.size):=fun k hk=>Nat.lt_of_lt_of_le (HVRR.out k hk) hq6.size
     have HVR:=HVRR
     have HSWR:=Lib.hid HG.out.size
     have HSW:=Lib.hid (Nat.le_trans HG.out.size hq6.size)
     have HB0:=Lib.hid (HBR.out.trans (hq6.mono HBR.out.size))
     have HGW:Hid (w.grownBy wr (Value.slice At tv.length ct).ownBlock):=Lib.hid (ggrown_trans HG.out (below_grown (row:=none) hq6) fun k hk=>by cases hk)
     have HQQ:=HQ0
     generalize wr=w6 at *
     clear hq6 HI HM HZ0 HZ1 HZ2 HQ3 HWQ HPS
     go_wp2_with fail
     refine wp_region_m (offM 9 w6) (fun k=>k==9) (fun k m=>(m==9&&[0,1,2,3,4,5,6,7,8].contains k)) (fun k m=>(m==9&&[10].contains k)) (fun _ _ _ _=>True) (by kernel_rfl) (by kernel_rfl) (by kernel_rfl) (by kernel_rfl) (by intro m hm;revert hm;simp;try omega) (offM_stable _ _) (offM_start _ _) ?_
     refine m_fix rfl ?_
     apply Exists.intro
     refine ⟨fun ph a wz hp hc hk hf K hK=>?_,?_⟩
     ·have h0:=hk 0 (by kernel_rfl)
      clear hk hf hc
      go_simp
      exact hK _ _ (Below.refl _ _) rfl
     refine m_fix rfl ?_
     apply Exists.intro
     refine ⟨fun ph a wz hp hc hk hf K hK=>?_,?_⟩
     ·have h6:=hk 6 (by kernel_rfl)
      clear hk hf hc
      go_simp
      exact hK _ _ (Below.refl _ _) rfl
     refine m_fix rfl ?_
     apply Exists.intro
     refine ⟨fun ph a wz hp hc hk hf K hK=>?_,?_⟩
     ·have hb:Below w6.heap.size w6 wz:=hc (hp.1 9 rfl rfl)
      have h35:=mheld_isV hf 0 rfl (by kernel_rfl)
      clear hk hf hc
      have c0:=cell_kept HX0.out hb
      have c1:=cell_kept HX1.out hb
      have c2:=cell_kept HX2.out hb
      go_simp
      exact hK _ _ (Below.refl _ _) rfl
     refine m_var (tillM 9 (RowR w6.heap.size g0.key)) rfl (stable_tillM RowR.kept) (fun ph a wz hp hc hk hf K hK=>?_) ?_
     ·have hb:Below w6.heap.size w6 wz:=hc (hp.1 9 rfl rfl)
      have h36:=mheld_isV hf 0 rfl (by kernel_rfl)
      clear hk hf
      have c0:=cell_kept HX0.out hb
      have c1:=cell_kept HX1.out hb
      have c2:=cell_kept HX2.out hb
      go_simp
      refine Calls.mono (clone_row_calls (StrsIn.kept HKY.out hb) HFG.out.1) ?_
      rintro e w9 ⟨A9,p9,rfl,hs9,hf9,hq⟩
      exact hK _ _ hq (fun _=>⟨A9,p9,rfl,hs9,hf9.mono hb.size⟩)
     refine m_fix rfl ?_
     apply Exists.intro
     refine ⟨fun ph a wz hp hc hk hf K hK=>?_,?_⟩
     ·have h6:=hk 6 (by kernel_rfl)
      clear hk hf hc
      go_simp
      exact hK _ _ (Below.refl _ _) rfl
     refine m_fix rfl ?_
     apply Exists.intro
     refine ⟨fun ph a wz hp hc hk hf K hK=>?_,?_⟩
     ·have hb:Below w6.heap.size w6 wz:=hc (hp.1 9 rfl rfl)
      have h38:=mheld_isV hf 0 rfl (by kernel_rfl)
      clear hk hf hc
      have c0:=cell_kept HX0.out hb
      have c1:=cell_kept HX1.out hb
      have c2:=cell_kept HX2.out hb
      go_simp
      exact hK _ _ (Below.refl _ _) rfl
     refine m_fix rfl ?_
     apply Exists.intro
     refine ⟨fun ph a wz hp hc hk hf K hK=>?_,?_⟩
     ·have h7:=hk 7 (by kernel_rfl)
      clear hk hf hc
      go_simp
      exact hK _ _ (Below.refl _ _) rfl
     refine m_var (tillM 9 (GrpR w6.heap.size g0 (.slice A3 g0.parts.length p3))) rfl (stable_tillM GrpR.kept) (fun ph a wz hp hc hk hf K hK=>?_) ?_
     ·have hb:Below w6.heap.size w6 wz:=hc (hp.1 9 rfl rfl)
      obtain ⟨v37,h37,S37⟩:=mheld_at hf 3 rfl (by kernel_rfl)
      replace S37:=S37 (hp.1 9 rfl rfl)
      have h39:=mheld_isV hf 1 rfl (by kernel_rfl)
      have h40:=mheld_isV hf 0 rfl (by kernel_rfl)
      clear hk hf
      have c0:=cell_kept HX0.out hb
      have c1:=cell_kept HX1.out hb
      have c2:=cell_kept HX2.out hb
      obtain ⟨A8,p8,rfl,s8,f8⟩:=S37
      go_simp
      exact hK _ _ (Below.refl _ _) (fun _=>⟨A8,p8,rfl,s8,f8⟩)
     refine m_var (tillM 9 (OneG w6.heap.size g0 (.slice A3 g0.parts.length p3))) rfl (stable_tillM OneG.kept) (fun ph a wz hp hc hk hf K hK=>?_) ?_
     ·have hb:Below w6.heap.size w6 wz:=hc (hp.1 9 rfl rfl)
      obtain ⟨v41,h41,S41⟩:=mheld_at hf 0 rfl (by kernel_rfl)
      replace S41:=S41 (hp.1 9 rfl rfl)
      clear hk hf
      have c0:=cell_kept HX0.out hb
      have c1:=cell_kept HX1.out hb
      have c2:=cell_kept HX2.out hb
      obtain ⟨A8,p8,rfl,s8,f8⟩:=S41
      go_simp
      exact hK _ _ (Below.alloc (.refl _ _) (Nat.le_refl _) _) (fun _=>⟨A8,p8,groupK_lit _ _ (_,_,_),SliceOf.alloc s8 _,f8⟩)
     refine m_store (appG Q w0 w6 (.slice A9 tvc.length p9) tvc g0) rfl stable_appG (fun ph a wz hp hph hc hk hf K hK=>?_) ?_
     ·have hb:Below w6.heap.size w6 wz:=hc hph
      have h34:=mheld_isV hf 8 rfl (by kernel_rfl)
      obtain ⟨v42,h42,S42⟩:=mheld_at hf 0 rfl (by kernel_rfl)
      replace S42:=S42 hph
      clear hk hf
      obtain ⟨A8,p8,s8,t8,f8⟩:=S42
      have hT8:=HOW.out.later hb
      have hO8:=hT8.own
      have hr8:groupK.R (fun u=>Q u∧RowOff (.slice A9 tvc.length p9) u) wz (.slice A8 g0.key.length p8,.slice A3 g0.parts.length p3,g0):=by
       refine group_of t8 ⟨HQQ.out _ (f8.mono HSW.out),RowOff.of_fresh f8 fun k hk=>HVB.out k hk⟩ ((HP7.out.kept hb).mono fun u hu=>⟨HQQ.out _ (hu.mono HSWR.out),RowOff.of_fresh hu fun k hk=>HVR.out k hk⟩)
      refine step_append_srcS rfl (.tmp 34) (.tmp 42) 29 rfl 46 i0 (.agg #[.slice none 0 0,.int .i64 0,.slice none 0 0]) 3 56 Tryz.underlying29 hi hz0 hz1 hz2 rfl (by decide) (B:=w0.heap.size) (.slice A9 tvc.length p9) tvc.length (groupK.flat tvc) ?_ hO8 _ 1 (groupK.cells (.slice A8 g0.key.length p8,.slice A3 g0.parts.length p3,g0)) ?_ s8 (groupK.one hr8) ?_ ?_ ?_ fun v' w' r1 r2 r3 r4=>?_
      ·simp [Act.eval,h34]
      ·simp [Act.eval,h42]
      ·have:=HTL.out;unfold maxLen;omega
      ·have:=HTL.out;omega
      ·exact Nat.le_trans HB0.out.size hb.size
      exact hK _ _ trivial (fun h=>by rw [setP_self] at h;cases h) ⟨_,rfl,hT8.add hr8 r2 r3 r1 rfl,ggrown_trans (below_grown hb) r2 fun k hk=>.inl hk,fun k hk=>(r3 k hk).imp id fun h=>Nat.le_trans hb.size h⟩
     refine m_var (appG Q w0 w6 (.slice A9 tvc.length p9) tvc g0) rfl stable_appG (fun ph a wz hp hc hk hf K hK=>?_) ?_
     ·obtain ⟨v43,h43,S43⟩:=mheld_at hf 0 rfl (by kernel_rfl)
      clear hk hf
      go_simp
      exact hK _ _ (Below.refl _ _) S43
     refine m_nil ?_
     refine ⟨keeps_m (fun m hm=>?_),?_⟩
     ·have hm2:m=9:=by simpa [or_assoc] using hm
      rcases hm2 with rfl
      ·exact ⟨.inr (.inr (keep_isV _)),.inr (.inr (keep_isV _)),.inr (.inr (keep_isV _)),.inr (.inr keep_till_self),.inr (.inr (keep_isV _)),.inr (.inr (keep_isV _)),.inr (.inr (keep_isV _)),.inr (.inr keep_till_self),.inr (.inr keep_till_self),.inl rfl,.inr (.inl rfl),trivial⟩
     intro ph w7 hps hc
     simp only [mlexL,mEnd]
     rintro _ rfl _ rfl _ rfl v37 S37 _ rfl _ rfl _ rfl v41 S41 v42 S42 v43 S43 v0 S0
     obtain ⟨t7,ht7,hm7,hg7,hv7⟩:=S0
     have HM7:=Lib.hid hm7
     have HG7:=Lib.hid hg7
     have HV7:=Lib.hid hv7
     have HT7:=Lib.hid ht7
     clear hc hps S37 S41 S42 S43 hm7 hg7 hv7 ht7
     simp only [Act.put,List.setIfInBounds_toArray,List.set_cons_zero,List.set_cons_succ]
     have HTT:Hid ((us++[t7]).map groupK.pr=l.take (k+1)):=by
      show _=_
      rw [List.map_append,hus,HTK.out]
      congr 1
      show [t7.2.2]=_
      rw [HT7.out]
     have HMN:Hid (groupK.Mine Q w7 w0.heap.size v0 (tv++(us++[t7]))):=by
      rw [←List.append_assoc,HTC.out];exact HM7
     have HGN:=Lib.hid (ggrown_trans HGW.out HG7.out fun k hk=>HV.out k hk)
     have HVN:Hid (∀ k,v0.ownBlock=some k→(Value.slice At tv.length ct).ownBlock=some k∨w.heap.size≤k):=fun k hk=>by
      rcases HV7.out k hk with h|h
      ·exact HV.out k h
      ·exact .inr (Nat.le_trans HSW.out h)
     clear HM7 HG7 HV7
     go_wp2
     go_roundw
     case rel=>exact ⟨k+1,us++[t7],HLK.out,by go_num,HTT.out,HMN,HGN,HVN⟩
     case measure=>have:=HLK.out;simp [intOf];omega
  ·obtain rfl:k=l.length:=by omega
   rw [List.take_length] at hus
   go_wp2
   go_ret
   exact ⟨_,us,rfl,hus,by rw [HTC.out];exact HM.out,HG.out,HV.out⟩
structure PlaceK (l:List GroupP) (key:List ByteArray) (i j:Nat):Prop where
 le:i≤j
 len:j≤l.length
 ahead:∀ (t:Nat) (h:t < l.length),t < i→cmpL l[t].key key = -1
 behind:∀ (t:Nat) (h:t < l.length),j≤t→¬cmpL l[t].key key = -1
def RightK (l:List GroupP):Prop:=l.Pairwise fun a b=>cmpL a.key b.key = -1
theorem PlaceK.first (l:List GroupP)(key:List ByteArray):PlaceK l key 0 l.length:=⟨Nat.zero_le _,Nat.le_refl _,fun t _ h=>absurd h (by omega),fun t h h2=>absurd h (by omega)⟩
theorem PlaceK.right {l:List GroupP}{key:List ByteArray}{i j h:Nat}(hp:PlaceK l key i j)(hr:RightK l)(_:i≤h)(h2:h < j)(hl:h < l.length)(hc:cmpL l[h].key key = -1):PlaceK l key (h+1) j where
 le:=h2
 len:=hp.len
 ahead t ht hlt:=by
  by_cases e:t=h
  ·subst e;exact hc
  ·exact cmpL_chain _ _ _ (List.pairwise_iff_getElem.1 hr t h ht hl (by omega)) hc
 behind:=hp.behind
theorem PlaceK.left {l:List GroupP}{key:List ByteArray}{i j h:Nat}(hp:PlaceK l key i j)(hr:RightK l)(h1:i≤h)(h2:h < j)(hl:h < l.length)(hc:¬cmpL l[h].key key = -1):PlaceK l key i h where
 le:=h1
 len:=by have:=hp.len;omega
 ahead:=hp.ahead
 behind t ht hle:=by
  by_cases e:t=h
  ·subst e;exact hc
  ·intro h3
   exact hc (cmpL_chain _ _ _ (List.pairwise_iff_getElem.1 hr h t hl ht (by omega)) h3)
def FindEnd (w:World)(l:List GroupP)(key:List ByteArray)(e:Ending)(w':World):Prop :=
 ∃ (k:Nat) (z:Bool),e=.returned (.tuple #[.int .i64 k,.bool z])∧PlaceK l key k k∧(z=true↔∃ h:k < l.length,(l[k]'h).key=key)∧Below w.heap.size w w'
theorem gfind1_calls {w:World}{A B Ap:Option Addr}{p q pp:Nat}{a b:List ByteArray}(n:Int)(m:Nat)(ha:StrsIn w (.slice A a.length p) a)(hb:StrsIn w (.slice B b.length q) b) :
  GivesAt Tryz.prog 31 #[.agg #[.slice A a.length p,.int .i64 n,.slice Ap m pp],.slice B b.length q] w (.int .i64 (cmpL a b)):=by
 have hq:=Below.alloc (.refl w.heap.size w) (Nat.le_refl _) (.cells #[.slice A a.length p,.int .i64 n,.slice Ap m pp] 46)
 have h:=compare_calls (StrsIn.kept ha hq) (StrsIn.kept hb hq)
 have z0:=box_cell w 46 #[.slice A a.length p,.int .i64 n,.slice Ap m pp] 0 _ rfl
 have HQ:=Lib.hid hq
 have HC:=Lib.hid h
 clear ha hb hq h
 generalize cmpL a b=z at *
 unfold GivesAt
 go_enter Tryz.func31,Tryz.ntmps31
 go_wp2_with (go_at_call 32;refine HC.out.step ?_)
 go_ret
 exact ⟨rfl,HQ.out⟩
theorem enters_find1:∀ args w,(callFunc 31 args).run Tryz.prog w=.ok (.enter 31 args) w:=enters_of Tryz.func31 (by kernel_rfl) rfl
set_option maxHeartbeats 4000000 in
set_option maxRecDepth 100000 in
theorem gsearch_calls {w:World}{v kv:Value}{l:List GroupP}{key:List ByteArray}(h:groupK.In (fun _=>True) w v l)(hr:RightK l)(hx:StrsIn w kv key)(hl:l.length≤1000000) :
  Calls Tryz.prog 30 #[v,kv,.func (.func 31) #[] #[]] w (FindEnd w l key):=by
 have eg:=enters_find1
 obtain ⟨gtv,A,cap,_,rfl,_,_,hat⟩:=h.at_
 obtain ⟨Ax,px,rfl,_⟩:=one_at hx
 have HAT:=Lib.hid hat
 have HR:=Lib.hid hr
 have HX:=Lib.hid hx
 clear h hat hr hx
 unfold FindEnd
 go_enter Tryz.func30,Tryz.ntmps30
 go_wp2
 go_loopw [9,10,11] (fun i j _ wr=>∃ I J:Nat,i=.int .i64 I∧j=.int .i64 J∧Hid (PlaceK l key I J)∧Hid (Below w.heap.size w wr)) (fun i j _ _=>(intOf j).toNat-(intOf i).toNat)
 case atStart=>exact ⟨0,l.length,rfl,rfl,PlaceK.first l key,.refl _ _⟩
 case round =>
  obtain ⟨I,J,rfl,rfl,HP,HB⟩:=hrel
  have hIJ:=HP.out.le
  have hJl:=HP.out.len
  by_cases hlt:I < J
  ·have hh1:I≤(I+J) / 2:=by omega
   have hh2:(I+J) / 2 < J:=by omega
   obtain ⟨K,hK⟩:∃ K,K=(I+J) / 2:=⟨_,rfl⟩
   rw [←hK] at hh1 hh2
   have hKl:K < l.length:=by omega
   have q1:IntKind.i64.wrap ((I:Int)+(J:Int))=(I:Int)+(J:Int):=IntWalk.i64_in _ (by omega)
   have q2:IntKind.u64.wrap ((I:Int)+(J:Int))=(I:Int)+(J:Int):=by rw [IntKind.wrap_u64];omega
   have q3:((I:Int)+(J:Int)) / 2=(K:Int):=by omega
   have d1:decide ((I:Int) < (J:Int))=true:=by rw [decide_eq_true_eq];omega
   clear hK
   obtain ⟨b,off,rfl,hbl,hc⟩:=HAT.out K hKl
   obtain ⟨⟨gk,gp,g0⟩,_,_,hg0,hr0,hc0⟩:=hc K hKl
   change g0=_ at hg0
   obtain ⟨Ak,pk,Ap,pp,rfl,rfl,hk0,_,hp0⟩:=group_open hr0
   have x0:=(HB.out.cell (p:=⟨b,off+K*3+0,none⟩) hbl).trans (hc0 0 _ rfl)
   have x1:=(HB.out.cell (p:=⟨b,off+K*3+1,none⟩) hbl).trans (hc0 1 _ rfl)
   have x2:=(HB.out.cell (p:=⟨b,off+K*3+2,none⟩) hbl).trans (hc0 2 _ rfl)
   rw [Nat.add_zero] at x0
   dsimp only at x0 x1 x2
   have HCQ:=Lib.hid (gfind1_calls (Ap:=Ap) (pp:=pp) g0.n g0.parts.length (StrsIn.kept hk0 HB.out) (StrsIn.kept HX.out HB.out))
   have hrg:=cmpL_range l[K].key key
   have HPR:=Lib.hid (HP.out.right HR.out hh1 hh2 hKl)
   have HPL:=Lib.hid (HP.out.left HR.out hh1 hh2 hKl)
   rw [←hg0] at hrg HPR HPL
   clear hc hc0 hr0 hk0 hp0 hg0
   by_cases hcm:cmpL g0.key key = -1
   ·have HI:=Lib.hid (HPR.out hcm)
    have d2:decide (cmpL g0.key key < 0)=true:=by rw [decide_eq_true_eq];omega
    clear HPR HPL hcm hrg
    generalize cmpL g0.key key=z at *
    go_wp2_with (go_at_fn 31;refine HCQ.out.mono ?_;rintro e w3 ⟨rfl,hq3⟩;have HB3:=Lib.hid (HB.out.trans (hq3.mono HB.out.size));clear hq3)
    go_roundw
    case rel=>exact ⟨K+1,J,by go_num,rfl,HI,HB3⟩
    case measure=>simp [intOf];omega
   ·have HI:=Lib.hid (HPL.out hcm)
    have d2:decide (cmpL g0.key key < 0)=false:=by rw [decide_eq_false_iff_not];omega
    clear HPR HPL hcm hrg
    generalize cmpL g0.key key=z at *
    go_wp2_with (go_at_fn 31;refine HCQ.out.mono ?_;rintro e w3 ⟨rfl,hq3⟩;have HB3:=Lib.hid (HB.out.trans (hq3.mono HB.out.size));clear hq3)
    go_roundw
    case rel=>exact ⟨I,K,rfl,by go_num,HI,HB3⟩
    case measure=>simp [intOf];omega
  ·obtain rfl:I=J:=by omega
   by_cases hKl:I < l.length
   ·have d1:decide ((I:Int) < (l.length:Int))=true:=by rw [decide_eq_true_eq];omega
    have d0:decide ((I:Int) < (I:Int))=false:=by rw [decide_eq_false_iff_not];omega
    obtain ⟨b,off,rfl,hbl,hc⟩:=HAT.out I hKl
    obtain ⟨⟨gk,gp,g0⟩,_,_,hg0,hr0,hc0⟩:=hc I hKl
    change g0=_ at hg0
    obtain ⟨Ak,pk,Ap,pp,rfl,rfl,hk0,_,hp0⟩:=group_open hr0
    have x0:=(HB.out.cell (p:=⟨b,off+I*3+0,none⟩) hbl).trans (hc0 0 _ rfl)
    have x1:=(HB.out.cell (p:=⟨b,off+I*3+1,none⟩) hbl).trans (hc0 1 _ rfl)
    have x2:=(HB.out.cell (p:=⟨b,off+I*3+2,none⟩) hbl).trans (hc0 2 _ rfl)
    rw [Nat.add_zero] at x0
    dsimp only at x0 x1 x2
    have HCQ:=Lib.hid (gfind1_calls (Ap:=Ap) (pp:=pp) g0.n g0.parts.length (StrsIn.kept hk0 HB.out) (StrsIn.kept HX.out HB.out))
    have hzr:=cmpL_zero g0.key key
    have HZ:Hid ((cmpL g0.key key==0)=true↔∃ h:I < l.length,(l[I]'h).key=key):=by
     show _↔_
     rw [beq_iff_eq,hzr,hg0]
     exact ⟨fun e=>⟨hKl,e⟩,fun ⟨_,e⟩=>e⟩
    have i1:(I:Int) < (l.length:Int):=by omega
    clear hc hc0 hr0 hk0 hp0 hg0 hzr
    generalize hz0:cmpL g0.key key=z at *
    clear hz0
    go_wp2_with (go_at_fn 31;refine HCQ.out.mono ?_;rintro e w3 ⟨rfl,hq3⟩;have HB3:=Lib.hid (HB.out.trans (hq3.mono HB.out.size));clear hq3)
    go_ret2
    exact ⟨I,z==0,rfl,HP.out,HZ.out,HB3.out⟩
   ·obtain rfl:I=l.length:=by omega
    have d1:decide ((l.length:Int) < (l.length:Int))=false:=by rw [decide_eq_false_iff_not];omega
    go_wp2
    go_ret2
    exact ⟨l.length,false,rfl,HP.out,⟨fun h=>absurd h (by decide),fun ⟨h,_⟩=>absurd h (by omega)⟩,HB.out⟩
set_option maxHeartbeats 1000000 in
theorem gfind_calls {w:World}{v kv:Value}{l:List GroupP}{key:List ByteArray}(h:groupK.In (fun _=>True) w v l)(hr:RightK l)(hx:StrsIn w kv key)(hl:l.length≤1000000) :
  Calls Tryz.prog 16 #[v,kv] w (FindEnd w l key):=by
 have HC:=Lib.hid (gsearch_calls h hr hx hl)
 obtain ⟨A,cap,rfl⟩:=h.slice
 obtain ⟨Ax,px,rfl,_⟩:=one_at hx
 clear h hr hx
 go_enter Tryz.func16,Tryz.ntmps16
 go_wp2_with fail
 refine Calls.mono HC.out ?_
 rintro e w2 ⟨k,z,rfl,hp,hz,hb⟩
 have HP:=Lib.hid hp
 have HZ:=Lib.hid hz
 have HB:=Lib.hid hb
 clear hp hz hb HC
 go_wp2
 go_ret2
 exact ⟨k,z,rfl,HP.out,HZ.out,HB.out⟩
def lessN (l:List GroupP)(key:List ByteArray):Nat:=(l.takeWhile fun g=>decide (cmpL g.key key = -1)).length
def hitG (l:List GroupP)(key:List ByteArray):Option GroupP:=match l[lessN l key]? with
 | some g=>if g.key=key then some g else none
 | none=>none
def bareG (key:List ByteArray):GroupP:=⟨key,0,[]⟩
def newG (gs:List (Int×Int))(l:List GroupP)(b:List ByteArray×List Tm):GroupP:=withG ((hitG l b.1).getD (bareG b.1)) gs b.2
def restG (l:List GroupP)(key:List ByteArray):List GroupP:=l.drop (if (hitG l key).isSome then lessN l key+1 else lessN l key)
def mergeG (gs:List (Int×Int)):List (List ByteArray×List Tm)→List GroupP→List GroupP
 | [],l=>l
 | b::bs,l=>l.take (lessN l b.1)++newG gs l b::mergeG gs bs (restG l b.1)
def aheadG:List (List ByteArray×List Tm)→List GroupP→List GroupP
 | [],_=>[]
 | b::bs,l=>(hitG l b.1).toList++aheadG bs (restG l b.1)
def behindG (gs:List (Int×Int)):List (List ByteArray×List Tm)→List GroupP→List GroupP
 | [],_=>[]
 | b::bs,l=>(if (newG gs l b).n=0 then [] else [newG gs l b])++behindG gs bs (restG l b.1)
theorem takeWhile_len {α:Type}(p:α→Bool):∀ (t:List α)(m:Nat),m≤t.length→(∀ j (h:j < t.length),j < m→p t[j]=true)→(∀ h:m < t.length,p t[m]=false)→(t.takeWhile p).length=m
 | [],m,hm,_,_=>by simp at hm;subst hm;rfl
 | y::t,0,_,_,h=>by
  rw [List.takeWhile_cons,if_neg (by rw [show p y=false from h (by simp)];decide)];rfl
 | y::t,m+1,hm,ha,h=>by
  have hy:p y=true:=ha 0 (by simp) (by omega)
  rw [List.takeWhile_cons,if_pos hy,List.length_cons,takeWhile_len p t m (by simpa using hm) (fun j hj hjm=>ha (j+1) (by simpa using hj) (by omega)) fun hm2=>h (by simpa using hm2)]
theorem place_less {l:List GroupP}{key:List ByteArray}{k:Nat}(h:PlaceK l key k k):lessN l key=k :=
 takeWhile_len _ l k h.len (fun j hj hjk=>decide_eq_true (h.ahead j hj hjk)) fun hk=>decide_eq_false (h.behind k hk (Nat.le_refl _))
theorem hit_yes {l:List GroupP}{key:List ByteArray}{k:Nat}(h:PlaceK l key k k)(hk:k < l.length)(e:l[k].key=key):hitG l key=some l[k]:=by
 unfold hitG
 rw [place_less h,List.getElem?_eq_getElem hk]
 exact if_pos e
theorem hit_no {l:List GroupP}{key:List ByteArray}{k:Nat}(h:PlaceK l key k k)(e:¬∃ hk:k < l.length,l[k].key=key):hitG l key=none:=by
 unfold hitG
 rw [place_less h]
 by_cases hk:k < l.length
 ·rw [List.getElem?_eq_getElem hk]
  exact if_neg fun h=>e ⟨hk,h⟩
 ·rw [List.getElem?_eq_none (by omega)]
def Off3 (X:Value→Prop)(a b c:Value)(u:Value):Prop:=X u∧RowOff a u∧RowOff b u∧RowOff c u
structure TriG (X:Value→Prop) (w wr:World) (a b c:Value) (ta tb tc:List GV):Prop where
 fst:groupK.Mine (Off3 X a b c) wr w.heap.size a ta
 snd:groupK.Mine (Off3 X a b c) wr w.heap.size b tb
 trd:groupK.Mine (Off3 X a b c) wr w.heap.size c tc
 ab:∀ k,a.ownBlock=some k→b.ownBlock≠some k
 ac:∀ k,a.ownBlock=some k→c.ownBlock≠some k
 bc:∀ k,b.ownBlock=some k→c.ownBlock≠some k
 below:Below w.heap.size w wr
section
variable {X Y:Value→Prop}{w wr wx:World}{a b c a':Value}{ta tb tc ta':List GV}
theorem TriG.later (h:TriG X w wr a b c ta tb tc)(hq:Below wr.heap.size wr wx):TriG X w wx a b c ta tb tc:=⟨h.fst.later hq,h.snd.later hq,h.trd.later hq,h.ab,h.ac,h.bc,h.below.trans (hq.mono h.below.size)⟩
theorem TriG.mono (h:TriG X w wr a b c ta tb tc)(hx:∀ u,X u→Y u):TriG Y w wr a b c ta tb tc:=by
 have k:∀ u,Off3 X a b c u→Off3 Y a b c u:=fun u hu=>⟨hx u hu.1,hu.2⟩
 exact ⟨h.fst.mono k,h.snd.mono k,h.trd.mono k,h.ab,h.ac,h.bc,h.below⟩
theorem TriG.lain (h:TriG X w wr a b c ta tb tc):TriG (fun u=>X u∧Lain wr u) w wr a b c ta tb tc:=by
 have k:∀ u,(Off3 X a b c u∧Lain wr u)→Off3 (fun u=>X u∧Lain wr u) a b c u:=fun u hu=>⟨⟨hu.1.1,hu.2⟩,hu.1.2⟩
 exact ⟨h.fst.lain.mono k,h.snd.lain.mono k,h.trd.lain.mono k,h.ab,h.ac,h.bc,h.below⟩
theorem TriG.swap (h:TriG X w wr a b c ta tb tc):TriG X w wr b a c tb ta tc:=by
 have k:∀ u,Off3 X a b c u→Off3 X b a c u:=fun u hu=>⟨hu.1,hu.2.2.1,hu.2.1,hu.2.2.2⟩
 exact ⟨h.snd.mono k,h.fst.mono k,h.trd.mono k,fun j hj e=>h.ab j e hj,h.bc,h.ac,h.below⟩
theorem TriG.turn (h:TriG X w wr a b c ta tb tc):TriG X w wr c a b tc ta tb:=by
 have k:∀ u,Off3 X a b c u→Off3 X c a b u:=fun u hu=>⟨hu.1,hu.2.2.2,hu.2.1,hu.2.2.1⟩
 exact ⟨h.trd.mono k,h.fst.mono k,h.snd.mono k,fun j hj e=>h.ac j e hj,fun j hj e=>h.bc j e hj,h.ab,h.below⟩
theorem TriG.nil_ (w:World):TriG (fun _=>True) w w (.slice none 0 0) (.slice none 0 0) (.slice none 0 0) [] [] [] :=
 ⟨Kin.Mine.nil_ _ _ _,Kin.Mine.nil_ _ _ _,Kin.Mine.nil_ _ _ _,fun k hk=>by simp [Value.ownBlock] at hk,fun k hk=>by simp [Value.ownBlock] at hk,fun k hk=>by simp [Value.ownBlock] at hk,.refl _ _⟩
theorem TriG.step (h:TriG X w wr a b c ta tb tc)(hm:groupK.Mine (fun u=>X u∧RowOff b u∧RowOff c u) wx w.heap.size a' ta')(hg:wr.grownBy wx a.ownBlock)(hv:∀ k,a'.ownBlock=some k→a.ownBlock=some k∨wr.heap.size≤k):TriG X w wx a' b c ta' tb tc:=by
 have hl:=h.lain
 have k:∀ u,Off3 (fun u=>X u∧Lain wr u) a b c u→Off3 X a' b c u:=fun u hu=>⟨hu.1.1,hu.2.1.step hu.1.2 hv,hu.2.2⟩
 refine ⟨⟨hm.own,fun t ht=>groupK.mono (hm.each t ht) fun _ hu=>⟨⟨hu.1.1,hu.2,hu.1.2⟩,hu.2⟩⟩,(hl.snd.beside (fun u hu=>hu.2.1) (fun j hj=>h.ab j hj) hg).mono k,(hl.trd.beside (fun u hu=>hu.2.1) (fun j hj=>h.ac j hj) hg).mono k,fun j hj e=>?_,fun j hj e=>?_,h.bc,h.below.grown hg h.below.size fun j hj=>(h.fst.lt j hj).1⟩
 ·rcases hv j hj with e2|e2
  ·exact h.ab j e2 e
  ·have:=(h.snd.lt j e).2;omega
 ·rcases hv j hj with e2|e2
  ·exact h.ac j e2 e
  ·have:=(h.trd.lt j e).2;omega
theorem TriG.beside {v0:Value}(h:TriG X w wr a b c ta tb tc)(hq:∀ u,X u→RowOff v0 u)(h1:∀ k,v0.ownBlock=some k→w.heap.size≤k∧a.ownBlock≠some k∧b.ownBlock≠some k∧c.ownBlock≠some k)(hg:wr.grownBy wx v0.ownBlock):TriG X w wx a b c ta tb tc :=
 ⟨h.fst.beside (fun _ hu=>hq _ hu.1) (fun k hk=>(h1 k hk).2.1) hg,h.snd.beside (fun _ hu=>hq _ hu.1) (fun k hk=>(h1 k hk).2.2.1) hg,h.trd.beside (fun _ hu=>hq _ hu.1) (fun k hk=>(h1 k hk).2.2.2) hg,h.ab,h.ac,h.bc,h.below.grown hg h.below.size fun k hk=>(h1 k hk).1⟩
theorem TriG.add (h:TriG X w wr a b c ta tb tc){n:Nat}{t:GV}(hk:groupK.R (Off3 X a b c) wr t)(hg:wr.grownBy wx a.ownBlock)(hv:∀ k,a'.ownBlock=some k→a.ownBlock=some k∨wr.heap.size≤k)(hO:Own wx w.heap.size 3 a' n (groupK.flat ta++groupK.cells t))(hn:n=ta.length+1):TriG X w wx a' b c (ta++[t]) tb tc :=
 h.step ((h.fst.mono fun _ hu=>⟨hu.1,hu.2.2⟩).add (groupK.mono hk fun _ hu=>⟨⟨hu.1,hu.2.2⟩,hu.2.1⟩) hg hv hO hn) hg hv
theorem TriG.lt (h:TriG X w wr a b c ta tb tc):(∀ k,a.ownBlock=some k→w.heap.size≤k∧k < wr.heap.size)∧(∀ k,b.ownBlock=some k→w.heap.size≤k∧k < wr.heap.size)∧∀ k,c.ownBlock=some k→w.heap.size≤k∧k < wr.heap.size:=⟨h.fst.lt,h.snd.lt,h.trd.lt⟩
theorem TriG.old (h:TriG X w wr a b c ta tb tc){u:Value}(hu:Lain w u):RowOff a u∧RowOff b u∧RowOff c u:=⟨hu.apart fun k hk=>(h.fst.lt k hk).1,hu.apart fun k hk=>(h.snd.lt k hk).1,hu.apart fun k hk=>(h.trd.lt k hk).1⟩
theorem TriG.new (h:TriG X w wr a b c ta tb tc){u:Value}(hu:Fresh wr.heap.size u):RowOff a u∧RowOff b u∧RowOff c u:=⟨RowOff.of_fresh hu fun k hk=>(h.fst.lt k hk).2,RowOff.of_fresh hu fun k hk=>(h.snd.lt k hk).2,RowOff.of_fresh hu fun k hk=>(h.trd.lt k hk).2⟩
end
theorem gunder_elem:Tryz.prog.underlying 29=some (.slice (Tryz.prog.elem 29)):=by kernel_rfl
theorem gelem:Tryz.prog.elem 29=46:=by kernel_rfl
theorem gslice_back (W:World)(A:Option Addr)(n cap k:Nat)(hk:k≤n):(Instr.sliceAt 29 (.slice A n cap) (some (.int .i64 k)) none none).run Tryz.prog W=.ok (.slice (if cap=k then A else A.map (·.add (k*3))) (n-k) (cap-k)) W:=by
 rw [run_sliceAt_slice _ _ _ _ _ _ gunder_elem,run_slice_l _ _ _ _ _ gunder_elem _ _ (by omega) (by omega),gelem,Tryz.sizeOf46]
 simp [Result.andThen,sliced]
theorem gslice_front (W:World)(A:Option Addr)(n cap k:Nat)(hk:k≤cap):(Instr.sliceAt 29 (.slice A n cap) none (some (.int .i64 k)) none).run Tryz.prog W=.ok (.slice A k cap) W:=by
 rw [run_sliceAt_slice _ _ _ _ _ _ gunder_elem,run_slice_h _ _ _ _ _ gunder_elem _ _ (by omega) (by omega),gelem,Tryz.sizeOf46]
 have e:∀ a:Addr,a.add 0=a:=fun a=>by unfold Addr.add;simp
 cases A <;> simp [Result.andThen,sliced,e]
theorem Kin.In.room {τ α:Type}{K:Kin τ α}{Q:Value→Prop}{w:World}{A:Option Addr}{n cap:Nat}{l:List α}(h:K.In Q w (.slice A n cap) l):l.length≤cap:=by
 obtain ⟨tv,_,h2,_⟩:=h
 obtain ⟨_,_,A',cap',e,hr,_⟩:=h2
 cases e
 exact hr
theorem Kin.In.back {τ α:Type}{K:Kin τ α}{w:World}{A:Option Addr}{cap k:Nat}{l:List α}(h:K.In (fun _=>True) w (.slice A l.length cap) l)(hk:k≤l.length) :
  K.In (fun _=>True) w (.slice (if cap=k then A else A.map (·.add (k*K.size))) (l.length-k) (cap-k)) (l.drop k):=by
 by_cases hlt:k < l.length
 ·have hr:=h.room
  obtain ⟨_,A',cap',_,e,_,_,hat⟩:=h.at_
  obtain ⟨b,off,ea,_,_⟩:=hat k hlt
  injection e with e1 _ e3
  subst e1 e3
  subst ea
  rw [if_neg (by omega)]
  exact h.drop hk (fun _=>by rw [Option.map_some,Addr.add_lit]) trivial
 ·have:l.length-k=0:=by omega
  rw [this,List.drop_of_length_le (by omega)]
  exact Kin.In.nil_ _ _ _ _ trivial
theorem fit_copy {g:GroupP}(h:FitG g)(h2:g.parts.length≤1000000):CopyF g:=⟨h.2.1,h2,fun p hp=>⟨Nat.le_trans (h.2.2 p hp).2.1 (by decide),(h.2.2 p hp).2.2.2⟩⟩
def copM (w w3:World)(v0:Value)(Q:Value→Prop)(tg:List GV)(L:List GroupP):MSpec:=fun _ v wx=>∃ us:List GV,us.map groupK.pr=L∧groupK.Mine Q wx w.heap.size v (tg++us)∧w3.grownBy wx v0.ownBlock∧∀ k,v.ownBlock=some k→v0.ownBlock=some k∨w3.heap.size≤k
theorem stable_copM {w w3:World}{v0:Value}{Q:Value→Prop}{tg:List GV}{L:List GroupP}:StableM (copM w w3 v0 Q tg L):=fun _ v wx wy hb h=>by
 obtain ⟨us,h1,h2,h3,h4⟩:=h
 exact ⟨us,h1,h2.later hb,ggrown_trans h3 (below_grown (row:=none) hb) (fun k hk=>by cases hk),h4⟩
def FitB (b:List ByteArray×List Tm):Prop:=b.1.length≤1000000∧b.2.length≤100000∧wtW b.2≤1152921504606846976
def PutsEnd (w:World)(gs:List (Int×Int))(bs:List (List ByteArray×List Tm))(l:List GroupP)(e:Ending)(w':World):Prop :=
 ∃ g a b,e=.returned (.tuple #[g,a,b])∧groupK.In (fun _=>True) w' g ((mergeG gs bs l).filter fun g=>!(g.n==0))∧groupK.In (fun _=>True) w' a (aheadG bs l)∧groupK.In (fun _=>True) w' b (behindG gs bs l)∧Below w.heap.size w w'
theorem merge_step {gs:List (Int×Int)}{bs bs':List (List ByteArray×List Tm)}{l A U L R:List GroupP}{k:Nat}{bt:List ByteArray×List Tm}{G:GroupP}(h1:mergeG gs bs l=A++mergeG gs (bs.drop k) L)(hb:bs.drop k=bt::bs')(hu:L.take (lessN L bt.1)=U)(hn:newG gs L bt=G)(hr:restG L bt.1=R) :
  mergeG gs bs l=(A++U++[G])++mergeG gs bs' R:=by
 rw [h1,hb]
 show A++(L.take (lessN L bt.1)++newG gs L bt::mergeG gs bs' (restG L bt.1))=_
 rw [hu,hn,hr]
 simp
theorem ahead_step {bs bs':List (List ByteArray×List Tm)}{l A L R:List GroupP}{k:Nat}{bt:List ByteArray×List Tm}{o:Option GroupP}(h1:aheadG bs l=A++aheadG (bs.drop k) L)(hb:bs.drop k=bt::bs')(hn:hitG L bt.1=o)(hr:restG L bt.1=R) :
  aheadG bs l=(A++o.toList)++aheadG bs' R:=by
 rw [h1,hb]
 show A++((hitG L bt.1).toList++aheadG bs' (restG L bt.1))=_
 rw [hn,hr]
 simp
theorem behind_step {gs:List (Int×Int)}{bs bs':List (List ByteArray×List Tm)}{l A L R:List GroupP}{k:Nat}{bt:List ByteArray×List Tm}{G:GroupP}(h1:behindG gs bs l=A++behindG gs (bs.drop k) L)(hb:bs.drop k=bt::bs')(hn:newG gs L bt=G)(hr:restG L bt.1=R) :
  behindG gs bs l=(A++if G.n=0 then [] else [G])++behindG gs bs' R:=by
 rw [h1,hb]
 show A++((if (newG gs L bt).n=0 then [] else [newG gs L bt])++behindG gs bs' (restG L bt.1))=_
 rw [hn,hr]
 simp
theorem cell_by {w w':World}{a:Addr}{v:Value}{row:Option Nat}(h:w.cell? a=some v)(hg:w.grownBy w' row)(hne:some a.block≠row):w'.cell? a=some v:=(World.cell?_of_block (hg.block _ (block_lt_of_cell h) hne)).trans h
theorem drop_cons {α:Type}(l:List α)(k:Nat)(h:k < l.length):l.drop k=l[k]::l.drop (k+1):=List.drop_eq_getElem_cons h
set_option maxHeartbeats 16000000 in
set_option maxRecDepth 100000 in
theorem gputs_calls {w:World}{lv agv bsv:Value}{l:List GroupP}{gs:List (Int×Int)}{bs:List (List ByteArray×List Tm)}(h:groupK.In (fun _=>True) w lv l)(hr:RightK l)(ha:OnIn w agv gs)(hb:batchK.In (fun _=>True) w bsv bs)(hf:∀ g∈l,FitG g∧g.parts.length≤1000000)(hfb:∀ b∈bs,FitB b)(hl:l.length+bs.length≤1000000)(hgs:gs.length≤1000000) :
  Calls Tryz.prog 24 #[lv,agv,bsv] w (PutsEnd w gs bs l):=by
 obtain ⟨i0,hi,hz0,hz1,hz2⟩:=info_parts Tryz.infoG46
 obtain ⟨btv,Ab,cb,_,rfl,_,_,hbat⟩:=hb.at_
 have HBAT:=Lib.hid hbat
 have HAG:=Lib.hid ha
 have HF:=Lib.hid hf
 have HFB:=Lib.hid hfb
 have HLL:=Lib.hid hl
 have HRL:=Lib.hid hr
 obtain ⟨Al,cl,rfl⟩:=h.slice
 obtain ⟨Aa,ca,rfl⟩:=ha.slice
 have H0:=Lib.hid h
 clear h hr ha hb hf hfb hbat
 go_enter Tryz.func24,Tryz.ntmps24
 go_wp2
 go_loopw [0,6,7,8,16] (fun x gv av bv i wr=>∃ (k d:Nat) (tg ta tb:List GV),k≤bs.length∧d≤l.length∧i=.int .i64 k∧Hid (groupK.In (fun _=>True) w x (l.drop d))∧Hid (TriG (fun _=>True) w wr gv av bv tg ta tb)∧Hid (mergeG gs bs l=tg.map groupK.pr++mergeG gs (bs.drop k) (l.drop d))∧Hid (aheadG bs l=ta.map groupK.pr++aheadG (bs.drop k) (l.drop d))∧Hid (behindG gs bs l=tb.map groupK.pr++behindG gs (bs.drop k) (l.drop d))∧Hid (tg.length≤d+k∧ta.length≤k∧tb.length≤k)) (fun _ _ _ _ i _=>bs.length-(intOf i).toNat)
 case atStart=>exact ⟨0,0,[],[],[],Nat.zero_le _,Nat.zero_le _,rfl,H0,Lib.hid (TriG.nil_ w),Lib.hid rfl,Lib.hid rfl,Lib.hid rfl,Lib.hid ⟨by simp,by simp,by simp⟩⟩
 case round =>
  obtain ⟨k,d,tg,ta,tb,hk,hd,rfl,HX,HT,HE1,HE2,HE3,HNN⟩:=hrel
  have hll:=HLL.out
  obtain ⟨L,hL⟩:∃ L,l.drop d=L:=⟨_,rfl⟩
  have HLD:=Lib.hid hL
  rw [hL] at HX HE1 HE2 HE3
  have HLS:Hid (L.length=l.length-d∧RightK L∧∀ g∈L,g∈l):=by
   rw [←hL]
   exact ⟨List.length_drop,HRL.out.sublist (List.drop_sublist _ _),fun g hg=>List.mem_of_mem_drop hg⟩
  obtain ⟨Ax,cx,rfl⟩:=HX.out.slice
  obtain ⟨Ag,pg,rfl⟩:=HT.out.fst.slice
  obtain ⟨Aq,pq,rfl⟩:=HT.out.snd.slice
  obtain ⟨Ar,pr,rfl⟩:=HT.out.trd.slice
  clear hL
  have HRM:=Lib.hid HX.out.room
  by_cases hlt:k < bs.length
  ·obtain ⟨bb,bo,rfl,hbl,hbc⟩:=HBAT.out k hlt
   obtain ⟨⟨kv,rv,bt⟩,_,_,hb0,hbr,hbx⟩:=hbc k hlt
   change bt=_ at hb0
   obtain ⟨Ak,pk,Ay,py,rfl,rfl,hbk,_,hby⟩:=batch_open hbr
   have hbw:=HT.out.below
   have x0:=(hbw.cell (p:=⟨bb,bo+k*2+0,none⟩) hbl).trans (hbx 0 _ rfl)
   have x1:=(hbw.cell (p:=⟨bb,bo+k*2+1,none⟩) hbl).trans (hbx 1 _ rfl)
   rw [Nat.add_zero] at x0
   dsimp only at x0 x1
   have HDB:Hid (bs.drop k=bt::bs.drop (k+1)):=by
    show _=_
    rw [drop_cons bs k hlt,hb0]
   have HFK:=Lib.hid (HFB.out _ (List.getElem_mem hlt))
   rw [←hb0] at HFK
   have HBK:=Lib.hid hbk
   have HBY:=Lib.hid hby
   have HLK:Hid (k < bs.length):=hlt
   have i1:(k:Int) < (bs.length:Int):=by omega
   clear hbc hbr hbx hb0 hbk hby
   have hq2:=Below.alloc (.refl wr.heap.size wr) (Nat.le_refl _) (.cells #[.slice Ak bt.1.length pk,.slice Ay bt.2.length py] 88)
   have z0:=box_cell wr 88 #[.slice Ak bt.1.length pk,.slice Ay bt.2.length py] 0 _ rfl
   have z1:=box_cell wr 88 #[.slice Ak bt.1.length pk,.slice Ay bt.2.length py] 1 _ rfl
   have hbw2:=hbw.trans (hq2.mono hbw.size)
   have HFI:=Lib.hid (gfind_calls (HX.out.kept hbw2) HLS.out.2.1 (StrsIn.kept HBK.out hbw2) (by have:=HLS.out.1;omega))
   have HQ2:=Lib.hid hq2
   have HZ0:=Lib.hid z0
   have HZ1:=Lib.hid z1
   clear hbw2 hbw hlt
   go_wp2_with fail
   refine Calls.mono HFI.out ?_
   rintro e w3 ⟨KK,z,rfl,hpl,hz,hq3⟩
   have HT3:=Lib.hid ((HT.out.later HQ2.out).later hq3)
   have HKL:=Lib.hid hpl.len
   have HPL:=Lib.hid hpl
   have HZZ:=Lib.hid hz
   have HZ0:=Lib.hid (cell_kept HZ0.out hq3)
   have HZ1:=Lib.hid (cell_kept HZ1.out hq3)
   clear hpl hz hq3 hq2 x0 x1 z0 z1 HFI HQ2
   have HTF:Hid (groupK.In (fun _=>True) w (.slice Ax KK cx) (L.take KK)):=HX.out.take HKL.out trivial
   have HCF:Hid (∀ g∈L.take KK,CopyF g):=fun g hg=>by
    have:=HF.out g (HLS.out.2.2 g (List.mem_of_mem_take hg))
    exact fit_copy this.1 this.2
   have HLN:Hid (tg.length+L.length≤1000000):=by
    show _≤_
    have:=HNN.out.1
    have:=HLS.out.1
    omega
   have HXB:Hid (groupK.In (fun _=>True) w (.slice (if cx=KK then Ax else Ax.map (·.add (KK*3))) (L.length-KK) (cx-KK)) (L.drop KK)):=HX.out.back HKL.out
   go_wp2_with fail
   refine wp_region_m (offM 4 w3) (fun k=>k==4) (fun k m=>(m==4&&[0,1,2,3].contains k)) (fun k m=>(m==4&&[8,9].contains k)) (fun _ _ _ _=>True) (by kernel_rfl) (by kernel_rfl) (by kernel_rfl) (by kernel_rfl) (by intro m hm;revert hm;simp;try omega) (offM_stable _ _) (offM_start _ _) ?_
   refine m_fix rfl ?_
   apply Exists.intro
   refine ⟨fun ph a wz hp hc hk hf K hK=>?_,?_⟩
   ·have h6:=hk 6 (by kernel_rfl)
    clear hk hf hc
    go_simp
    exact hK _ _ (Below.refl _ _) rfl
   refine m_fix rfl ?_
   apply Exists.intro
   refine ⟨fun ph a wz hp hc hk hf K hK=>?_,?_⟩
   ·have h0:=hk 0 (by kernel_rfl)
    clear hk hf hc
    go_simp
    exact hK _ _ (Below.refl _ _) rfl
   refine m_fix rfl ?_
   apply Exists.intro
   refine ⟨fun ph a wz hp hc hk hf K hK=>?_,?_⟩
   ·have h11:=hk 11 (by kernel_rfl)
    clear hk hf hc
    go_simp
    exact hK _ _ (Below.refl _ _) rfl
   refine m_fix rfl ?_
   apply Exists.intro
   refine ⟨fun ph a wz hp hc hk hf K hK=>?_,?_⟩
   ·have hb:Below w3.heap.size w3 wz:=hc (hp.1 4 rfl rfl)
    have h28:=mheld_isV hf 1 rfl (by kernel_rfl)
    have h29:=mheld_isV hf 0 rfl (by kernel_rfl)
    clear hk hf hc
    have q1:=gslice_front wz Ax L.length cx KK (Nat.le_trans HKL.out HRM.out)
    go_simp
    exact hK _ _ (Below.refl _ _) rfl
   refine m_store (copM w w3 (.slice Ag tg.length pg) (fun u=>True∧RowOff (.slice Aq ta.length pq) u∧RowOff (.slice Ar tb.length pr) u) tg (L.take KK)) rfl stable_copM (fun ph a wz hp hph hc hk hf K hK=>?_) ?_
   ·have hb:Below w3.heap.size w3 wz:=hc hph
    have h27:=mheld_isV hf 3 rfl (by kernel_rfl)
    have h30:=mheld_isV hf 0 rfl (by kernel_rfl)
    clear hk hf
    have hT:=HT3.out.later hb
    have hc4:=gcopies_calls (Q:=fun u=>True∧RowOff (.slice Aq ta.length pq) u∧RowOff (.slice Ar tb.length pr) u) (w0:=w) (w:=wz) (tov:=.slice Ag tg.length pg) (lv:=.slice Ax KK cx) hT.below (hT.fst.mono fun u hu=>⟨trivial,hu.2.2⟩) (HTF.out) (fun u hu=>⟨trivial,(hT.new hu).2⟩) HCF.out (by rw [List.length_take];have:=HLN.out;omega)
    go_simp
    refine Calls.mono hc4 ?_
    rintro e w9 ⟨v9,us9,rfl,h1,h2,h3,h4⟩
    exact hK _ _ trivial (fun h=>by rw [setP_self] at h;cases h) ⟨us9,h1,h2,ggrown_trans (below_grown hb) h3 fun k hk=>.inl hk,fun k hk=>(h4 k hk).imp id fun h=>Nat.le_trans hb.size h⟩
   refine m_fix rfl ?_
   apply Exists.intro
   refine ⟨fun ph a wz hp hc hk hf K hK=>?_,?_⟩
   ·have h0:=hk 0 (by kernel_rfl)
    clear hk hf hc
    go_simp
    exact hK _ _ (Below.refl _ _) rfl
   refine m_fix rfl ?_
   apply Exists.intro
   refine ⟨fun ph a wz hp hc hk hf K hK=>?_,?_⟩
   ·have h11:=hk 11 (by kernel_rfl)
    clear hk hf hc
    go_simp
    exact hK _ _ (Below.refl _ _) rfl
   refine m_fix rfl ?_
   apply Exists.intro
   refine ⟨fun ph a wz hp hc hk hf K hK=>?_,?_⟩
   ·have h32:=mheld_isV hf 1 rfl (by kernel_rfl)
    have h33:=mheld_isV hf 0 rfl (by kernel_rfl)
    clear hk hf hc
    have q1:=gslice_back wz Ax L.length cx KK HKL.out
    go_simp
    exact hK _ _ (Below.refl _ _) rfl
   refine m_var (copM w w3 (.slice Ag tg.length pg) (fun u=>True∧RowOff (.slice Aq ta.length pq) u∧RowOff (.slice Ar tb.length pr) u) tg (L.take KK)) rfl stable_copM (fun ph a wz hp hc hk hf K hK=>?_) ?_
   ·obtain ⟨v31,h31,S31⟩:=mheld_at hf 3 rfl (by kernel_rfl)
    clear hk hf
    go_simp
    exact hK _ _ (Below.refl _ _) S31
   refine m_fix rfl ?_
   apply Exists.intro
   refine ⟨fun ph a wz hp hc hk hf K hK=>?_,?_⟩
   ·have h34:=mheld_isV hf 1 rfl (by kernel_rfl)
    clear hk hf hc
    go_simp
    exact hK _ _ (Below.refl _ _) rfl
   refine m_nil ?_
   refine ⟨keeps_m (fun m hm=>?_),?_⟩
   ·have hm2:m=4:=by simpa [or_assoc] using hm
    rcases hm2 with rfl
    ·exact ⟨.inr (.inr (keep_isV _)),.inr (.inr (keep_isV _)),.inr (.inr (keep_isV _)),.inr (.inr (keep_isV _)),.inl rfl,.inr (.inr (keep_isV _)),.inr (.inr (keep_isV _)),.inr (.inr (keep_isV _)),.inr (.inl rfl),.inr (.inl rfl),trivial⟩
   intro ph w4 hps hc
   simp only [mlexL,mEnd]
   rintro _ rfl _ rfl _ rfl _ rfl v31 S31 _ rfl _ rfl _ rfl v6 S6 _ rfl
   obtain ⟨us,hus,hM,hgr,htu⟩:=S6
   have HT4:=Lib.hid (HT3.out.step hM hgr htu)
   have HUS:=Lib.hid hus
   have HGR5:=Lib.hid hgr
   have HTU5:=Lib.hid htu
   obtain ⟨A6,p6,rfl⟩:=hM.slice
   clear hc hps S31 hM hgr htu hus
   simp only [Act.put,List.setIfInBounds_toArray,List.set_cons_zero,List.set_cons_succ]
   have HBC0:Hid (w4.cell? ⟨wr.heap.size,0,none⟩=some (.slice Ak bt.1.length pk)):=cell_by HZ0.out HGR5.out fun e=>by
    have:=(HT.out.lt.1 _ e.symm).2
    dsimp only at this
    omega
   have HBC1:Hid (w4.cell? ⟨wr.heap.size,1,none⟩=some (.slice Ay bt.2.length py)):=cell_by HZ1.out HGR5.out fun e=>by
    have:=(HT.out.lt.1 _ e.symm).2
    dsimp only at this
    omega
   have HLE:Hid (L.take (lessN L bt.1)=us.map groupK.pr∧lessN L bt.1=KK):=⟨by rw [place_less HPL.out,HUS.out],place_less HPL.out⟩
   have HHY:Hid (∀ (h:KK < L.length),L[KK].key=bt.1→hitG L bt.1=some L[KK]):=fun h e=>hit_yes HPL.out h e
   have HHN:Hid ((¬∃ h:KK < L.length,L[KK].key=bt.1)→hitG L bt.1=none):=fun e=>hit_no HPL.out e
   have hld:L.length-KK=(L.drop KK).length:=List.length_drop.symm
   rw [hld] at HXB ⊢
   generalize (if cx=KK then Ax else Ax.map (·.add (KK*3)))=A5 at *
   generalize cx-KK=c5 at *
   obtain ⟨LD,hLD⟩:∃ LD,L.drop KK=LD:=⟨_,rfl⟩
   have HLDD:=Lib.hid hLD
   rw [hLD] at HXB ⊢
   obtain ⟨tgu,htgu⟩:∃ tgu,tg++us=tgu:=⟨_,rfl⟩
   have HTGU:=Lib.hid htgu
   rw [htgu] at HT4 ⊢
   clear hld hLD htgu
   have hq5:=Below.alloc (.refl w4.heap.size w4) (Nat.le_refl _) (.cells #[.slice Ak bt.1.length pk,.int .i64 0,.slice none 0 0] 46)
   have HT5:Hid (TriG (fun u=>RowOff (cboxV w4.heap.size) u) w (w4.alloc (.cells #[.slice Ak bt.1.length pk,.int .i64 0,.slice none 0 0] 46)) (.slice A6 tgu.length p6) (.slice Aq ta.length pq) (.slice Ar tb.length pr) tgu ta tb):=(HT4.out.lain.mono fun u hu=>hu.2.apart fun k hk=>by
    simp only [Value.ownBlock,Option.some.injEq] at hk
    omega).later hq5
   have HBX:Hid (CBox (w4.alloc (.cells #[.slice Ak bt.1.length pk,.int .i64 0,.slice none 0 0] 46)) w4.heap.size [.slice Ak bt.1.length pk,.int .i64 0,.slice none 0 0]):=cbox_lit _ _ _
   have HGB0:Hid (w.heap.size≤w4.heap.size):=HT4.out.below.size
   have HO1:Hid (∀ k,(Value.slice A6 tgu.length p6).ownBlock=some k→k≠w4.heap.size):=fun k hk e=>by have:=(HT4.out.lt.1 k hk).2;omega
   have HO2:Hid (∀ k,(Value.slice Aq ta.length pq).ownBlock=some k→k≠w4.heap.size):=fun k hk e=>by have:=(HT4.out.lt.2.1 k hk).2;omega
   have HO3:Hid (∀ k,(Value.slice Ar tb.length pr).ownBlock=some k→k≠w4.heap.size):=fun k hk e=>by have:=(HT4.out.lt.2.2 k hk).2;omega
   have HY5:=Lib.hid (cell_kept HBC1.out hq5)
   have HWRG:Hid (wr.heap.size < w4.heap.size):=block_lt_of_cell HBC0.out
   have HO2W:Hid (∀ k,(Value.slice Aq ta.length pq).ownBlock=some k→k < wr.heap.size):=fun k hk=>(HT.out.lt.2.1 k hk).2
   have hbc0:=HBC0.out
   clear hq5 HT3 HT
   cases z with
   | true =>
    obtain ⟨hK,hKe⟩:=HZZ.out.1 rfl
    have hh0:=HHY.out hK hKe
    have hpos:0 < LD.length:=by rw [←HLDD.out,List.length_drop];omega
    have HXC:=Lib.hid (HXB.out.back (k:=1) (by omega))
    obtain ⟨_,A',c',_,e5,_,_,hat⟩:=HXB.out.at_
    obtain ⟨rfl,rfl⟩:A5=A'∧c5=c':=by injection e5 with a _ b;exact ⟨a,b⟩
    obtain ⟨b,off,rfl,hbl5,hc5⟩:=hat 0 hpos
    obtain ⟨⟨kv0,pv0,g0⟩,_,_,hg0,hr0,hx0⟩:=hc5 0 hpos
    change g0=_ at hg0
    obtain ⟨A0,p0,A1,p1,rfl,rfl,_,_,_⟩:=group_open hr0
    have hl0:LD[0]=L[KK]:=by
     have:LD[0]? = L[KK]? := by rw [←HLDD.out,List.getElem?_drop];rfl
     rw [List.getElem?_eq_getElem hpos,List.getElem?_eq_getElem hK] at this
     exact Option.some.inj this
    have HHIT:Hid (hitG L bt.1=some g0):=by rw [hg0,hl0];exact hh0
    have HRS:Hid (restG L bt.1=l.drop (d+KK+1)∧d+KK+1≤l.length∧LD.drop 1=l.drop (d+KK+1)):=by
     have e1:LD.drop 1=l.drop (d+KK+1):=by rw [←HLDD.out,←HLD.out,List.drop_drop,List.drop_drop,Nat.add_assoc]
     refine ⟨?_,?_,e1⟩
     ·unfold restG
      rw [hh0,HLE.out.2]
      show L.drop (KK+1)=_
      rw [←HLD.out,List.drop_drop,Nat.add_assoc]
     ·have:=HLS.out.1
      omega
    have HF0:Hid (FitG g0):=by
     have:=HF.out g0 (HLS.out.2.2 g0 (by rw [hg0,hl0];exact List.getElem_mem hK))
     exact this.1
    have HR0:=Lib.hid hr0
    have hbw4:=HT4.out.below
    have HX0:Hid (w4.cell? ⟨b,off,none⟩=some (.slice A0 g0.key.length p0)):=(hbw4.cell (p:=⟨b,off,none⟩) hbl5).trans (hx0 0 _ rfl)
    have HX1:Hid (w4.cell? ⟨b,off+1,none⟩=some (.int .i64 g0.n)):=(hbw4.cell (p:=⟨b,off+1,none⟩) hbl5).trans (hx0 1 _ rfl)
    have HX2:Hid (w4.cell? ⟨b,off+2,none⟩=some (.slice A1 g0.parts.length p1)):=(hbw4.cell (p:=⟨b,off+2,none⟩) hbl5).trans (hx0 2 _ rfl)
    have hq5:=Below.alloc (.refl w4.heap.size w4) (Nat.le_refl _) (.cells #[.slice Ak bt.1.length pk,.int .i64 0,.slice none 0 0] 46)
    replace HX0:=Lib.hid (cell_kept HX0.out hq5)
    replace HX1:=Lib.hid (cell_kept HX1.out hq5)
    replace HX2:=Lib.hid (cell_kept HX2.out hq5)
    have HPOS:Hid (1≤LD.length):=hpos
    obtain ⟨A51,hA51⟩:∃ A51,(if c5=1 then (some ⟨b,off,none⟩:Option Addr) else (some ⟨b,off,none⟩:Option Addr).map (·.add (1*3)))=A51:=⟨_,rfl⟩
    have HQ1:Hid (∀ W,(Instr.sliceAt 29 (.slice (some ⟨b,off,none⟩) LD.length c5) (some (.int .i64 1)) none none).run Tryz.prog W=.ok (.slice A51 (LD.length-1) (c5-1)) W):=fun W=>by
     rw [←hA51]
     exact gslice_back W (some ⟨b,off,none⟩) LD.length c5 1 HPOS.out
    replace HXC:Hid (groupK.In (fun _=>True) w (.slice A51 (LD.length-1) (c5-1)) (LD.drop 1)):=by rw [←hA51];exact HXC
    clear hA51
    have HLDL:Hid (LD.length+KK=L.length):=by rw [←HLDD.out,List.length_drop];show _=_;omega
    have i2:(0:Int) < (LD.length:Int):=by omega
    clear hc5 hx0 hr0 hg0 hl0 hat hbw4 hh0 hK hKe e5 hpos hq5 HHY HHN HZZ
    go_wp2_with fail
    generalize hgb:w4.heap.size=gb at *
    generalize w4.alloc _=w5 at *
    clear hgb hbc0
    refine wp_region_calm (offC w5) (fun k=>k==5) (fun k=>k==3||k==4||k==6) anyE true (by kernel_rfl) (by kernel_rfl) (by kernel_rfl) (by kernel_rfl) (by intro m hm;revert hm;simp;try omega) (offC_stable _) (offC_start _) ?_
    refine calm_fixA rfl rfl ?_
    apply Exists.intro
    refine ⟨fun a wz hc hk hf K hK=>?_,?_⟩
    ·have h0:=hk 0 (by kernel_rfl)
     clear hk hf hc
     go_simp
     exact hK _ _ (Below.refl _ _) rfl
    refine calm_fixA rfl rfl ?_
    apply Exists.intro
    refine ⟨fun a wz hc hk hf K hK=>?_,?_⟩
    ·have hb:Below w5.heap.size w5 wz:=hc rfl
     have h39:=held_isV hf 0 rfl (by kernel_rfl)
     clear hk hf hc
     have hp0:0 < LD.length:=HPOS.out
     go_simp
     exact hK _ _ (Below.refl _ _) rfl
    refine calm_fixA rfl rfl ?_
    apply Exists.intro
    refine ⟨fun a wz hc hk hf K hK=>?_,?_⟩
    ·have hb:Below w5.heap.size w5 wz:=hc rfl
     have h40:=held_isV hf 0 rfl (by kernel_rfl)
     clear hk hf hc
     have x0:=cell_kept HX0.out hb
     have x1:=cell_kept HX1.out hb
     have x2:=cell_kept HX2.out hb
     go_simp
     exact hK _ _ (Below.refl _ _) rfl
    refine calm_fix rfl ?_
    apply Exists.intro
    refine ⟨fun ph a wz hl hc hk hf K hK=>?_,?_⟩
    ·have h0:=hk 0 (by kernel_rfl)
     clear hk hf hc hl
     go_simp
     exact hK _ _ (Below.refl _ _) rfl
    refine calm_fix rfl ?_
    apply Exists.intro
    refine ⟨fun ph a wz hl hc hk hf K hK=>?_,?_⟩
    ·have h42:=held_isV hf 0 rfl (by kernel_rfl)
     clear hk hf hc hl
     have q1:=HQ1.out wz
     go_simp
     exact hK _ _ (Below.refl _ _) rfl
    refine calm_storeA (fun wq=>∃ wp,Below w5.heap.size w5 wp∧wq=(((wp.setCell ⟨gb,0,none⟩ (.slice A0 g0.key.length p0)).setCell ⟨gb,1,none⟩ (.int .i64 g0.n)).setCell ⟨gb,2,none⟩ (.slice A1 g0.parts.length p1))) rfl (fun m h=>by simpa using h) (fun a wz hb hk hf K hK=>?_) ?_
    ·have h13:=hk 13 (by kernel_rfl)
     have h41:=held_isV hf 2 rfl (by kernel_rfl)
     clear hk hf
     obtain ⟨⟨c0,c1,c2⟩,f0,f1,f2⟩:=(HBX.out.kept hb).three
     have HBZ:=Lib.hid hb
     clear hb
     go_simp
     exact hK undef _ ⟨wz,HBZ.out,rfl⟩
    refine calm_fix rfl ?_
    apply Exists.intro
    refine ⟨fun ph a wz hl hc hk hf K hK=>?_,?_⟩
    ·have h43:=held_isV hf 1 rfl (by kernel_rfl)
     clear hk hf hc hl
     go_simp
     exact hK _ _ (Below.refl _ _) rfl
    refine calm_nil ?_
    refine ⟨keeps_one (m:=5) (fun k h=>by simpa using h) ⟨.inr (loose_isV _),.inr (loose_isV _),.inr (loose_isV _),.inr (loose_isV _),.inr (loose_isV _),.inl rfl,.inr (loose_isV _),trivial⟩,?_⟩
    intro wa hc
    simp only [lexL,calmEnd]
    rintro _ rfl _ rfl _ rfl _ rfl _ rfl _ hst5 _ rfl
    obtain ⟨wq,⟨wp,hwp,rfl⟩,hq⟩:=hst5 rfl
    simp only [Act.put,List.setIfInBounds_toArray,List.set_cons_zero,List.set_cons_succ]
    have HBX6:=Lib.hid (((HBX.out.kept hwp).three_put (a':=.slice A0 g0.key.length p0) (b':=.int .i64 g0.n) (c':=.slice A1 g0.parts.length p1)).kept hq)
    have hg8:=three_grown wp gb (.slice A0 g0.key.length p0) (.int .i64 g0.n) (.slice A1 g0.parts.length p1)
    have HTA:=Lib.hid (((HT5.out.later hwp).beside (v0:=cboxV gb) (fun u hu=>hu) (fun k hk=>by
     simp only [Value.ownBlock,Option.some.injEq] at hk
     subst hk
     exact ⟨HGB0.out,fun e=>HO1.out _ e rfl,fun e=>HO2.out _ e rfl,fun e=>HO3.out _ e rfl⟩) hg8).later hq)
    have HYA:=Lib.hid (cell_kept (cell_by (cell_kept HY5.out hwp) hg8 fun e=>by
     have:=Option.some.inj e
     dsimp only at this
     have:=HWRG.out
     omega) hq)
    clear hwp hq hst5 hc hg8 HT5 HY5 HBX HX0 HX1 HX2
    have HLITA:=Lib.hid (groupK_lit wa 46 (.slice A0 g0.key.length p0,.slice A1 g0.parts.length p1,g0))
    have hqa:=Below.alloc (.refl wa.heap.size wa) (Nat.le_refl _) (.cells #[.slice A0 g0.key.length p0,.int .i64 g0.n,.slice A1 g0.parts.length p1] 46)
    have HTB:=Lib.hid (HTA.out.later hqa)
    have HRA:Hid (groupK.R (Off3 (fun u=>RowOff (cboxV gb) u) (.slice A6 tgu.length p6) (.slice Aq ta.length pq) (.slice Ar tb.length pr)) (wa.alloc (.cells #[.slice A0 g0.key.length p0,.int .i64 g0.n,.slice A1 g0.parts.length p1] 46)) (.slice A0 g0.key.length p0,.slice A1 g0.parts.length p1,g0)) :=
     groupK.kept (groupK.mono (groupK.lain HR0.out) fun u hu=>⟨hu.2.apart fun k hk=>by
      simp only [Value.ownBlock,Option.some.injEq] at hk
      have:=HGB0.out
      omega,HTA.out.old hu.2⟩) HTB.out.below
    have H1A:=Lib.hid (groupK.one HRA.out)
    have HTAL:Hid (ta.length≤1000000):=by
     have:=HNN.out
     show _≤_
     omega
    obtain ⟨⟨c0,c1,c2⟩,_⟩:=HBX6.out.three
    have hta:=HTAL.out
    go_wp2_with (at_builtin;refine wpList_append_src rfl (.tmp 44) (.tmp 46) 29 rfl 46 i0 (.agg #[.slice none 0 0,.int .i64 0,.slice none 0 0]) 3 56 Tryz.underlying29 hi hz0 hz1 hz2 rfl (by decide) (B:=w.heap.size) (.slice Aq ta.length pq) ta.length (groupK.flat ta) rfl (HTB.out.snd.own) (.slice (some ⟨wa.heap.size,0,none⟩) 1 1) 1 (groupK.cells (.slice A0 g0.key.length p0,.slice A1 g0.parts.length p1,g0)) rfl HLITA.out H1A.out (by unfold maxLen;omega) (by omega) HTB.out.below.size ?_)
    intro v2 w6 hO2 hg2 ha2
    obtain ⟨A2,p2,rfl⟩:=hO2.len
    have HT6:Hid (TriG (fun u=>RowOff (cboxV gb) u) w w6 (.slice A6 tgu.length p6) (.slice A2 (ta.length+1) p2) (.slice Ar tb.length pr) tgu (ta++[(.slice A0 g0.key.length p0,.slice A1 g0.parts.length p1,g0)]) tb):=by
     have hk2:groupK.R (Off3 (fun u=>RowOff (cboxV gb) u) (.slice Aq ta.length pq) (.slice A6 tgu.length p6) (.slice Ar tb.length pr)) _ _:=groupK.mono HRA.out fun u hu=>⟨hu.1,hu.2.2.1,hu.2.1,hu.2.2.2⟩
     exact (HTB.out.swap.add hk2 hg2 (fun k hk=>by simpa using ha2 k hk) hO2 rfl).swap
    have HSZA:Hid (gb < wa.heap.size∧wa.heap.size≤w6.heap.size):=⟨HBX6.out.lt,Nat.le_trans hqa.size hg2.size⟩
    have HBXA:=HBX6
    replace HBX6:=Lib.hid ((HBXA.out.kept hqa).other hg2 fun e=>HO2.out _ e rfl)
    have HY6:Hid (w6.cell? ⟨wr.heap.size,1,none⟩=some (.slice Ay bt.2.length py)):=cell_by (cell_kept HYA.out hqa) hg2 fun e=>by
     have:=HO2W.out _ e.symm
     dsimp only at this
     omega
    have HGB:Hid (gb < w6.heap.size∧w.heap.size≤gb):=⟨Nat.lt_of_lt_of_le HSZA.out.1 HSZA.out.2,HGB0.out⟩
    replace HO2:Hid (∀ k,(Value.slice A2 (ta.length+1) p2).ownBlock=some k→k≠gb):=fun k hk e=>by
     rcases ha2 k hk with h|h
     ·exact HO2.out k h e
     ·have:=HSZA.out
      have:=hqa.size
      omega
    clear hqa hO2 hg2 ha2 HTA HTB HYA HLITA H1A HRA c0 c1 c2 HBXA
    have HFW:=Lib.hid (gwith_calls (gv:=groupA (.slice A0 g0.key.length p0) (.slice A1 g0.parts.length p1) g0.n) (gs:=gs) ⟨_,_,rfl,groupK.kept (t:=(_,_,g0)) HR0.out HT6.out.below⟩ (HAG.out.kept HT6.out.below) (timesK_times (HBY.out.kept HT6.out.below)) HF0.out HFK.out.2.1 HFK.out.2.2 hgs)
    unfold groupA at HFW
    obtain ⟨⟨b0,b1,b2⟩,_⟩:=HBX6.out.three
    have y1:=HY6.out
    go_wp2_with fail
    refine Calls.mono HFW.out ?_
    rintro e w7 ⟨kv7,pv7,rfl,hr7,hq7⟩
    have HG7:Hid (newG gs L bt=withG g0 gs bt.2):=by
     show _=_
     unfold newG
     rw [HHIT.out];rfl
    obtain ⟨A7,p7,A8,p8,rfl,rfl,hk7,hf7,hp7⟩:=group_open hr7
    unfold groupA
    clear b0 b1 b2 y1 HFW hr7
    generalize withG g0 gs bt.2=G7 at *
    have hbx7:=HBX6.out.kept hq7
    obtain ⟨⟨c0,c1,c2⟩,f0,f1,f2⟩:=hbx7.three
    have hgr7:=three_grown w7 gb (.slice A7 G7.key.length p7) (.int .i64 G7.n) (.slice A8 G7.parts.length p8)
    have hst7:=hbx7.three_put (a':=.slice A7 G7.key.length p7) (b':=.int .i64 G7.n) (c':=.slice A8 G7.parts.length p8)
    have hoff:∀ u,Fresh w6.heap.size u→RowOff (cboxV gb) u:=fun u hu=>RowOff.of_fresh hu fun k hk=>by
     simp only [Value.ownBlock,Option.some.injEq] at hk
     have:=HGB.out.1
     omega
    have HT8:=Lib.hid ((HT6.out.later hq7).beside (v0:=cboxV gb) (fun u hu=>hu) (fun k hk=>by
     simp only [Value.ownBlock,Option.some.injEq] at hk
     subst hk
     exact ⟨HGB.out.2,fun e=>HO1.out _ e rfl,fun e=>HO2.out _ e rfl,fun e=>HO3.out _ e rfl⟩) hgr7)
    have hk8:=StrsIn.off hk7 (hoff _ hf7) hgr7
    have hp8:=hp7.off (v0:=cboxV gb) hoff hgr7
    have HOEF:Hid (∀ u,Fresh w6.heap.size u→Off3 (fun u=>RowOff (cboxV gb) u) (.slice A6 tgu.length p6) (.slice A2 (ta.length+1) p2) (.slice Ar tb.length pr) u):=fun u hu=>⟨hoff u hu,HT6.out.new hu⟩
    have HR8:=Lib.hid (group_of (g:=G7) hk8 (HOEF.out _ hf7) (hp8.mono fun u hu=>HOEF.out u hu))
    have HBX8:=Lib.hid hst7
    have HSZ8:Hid (w6.heap.size≤w7.heap.size∧gb < w7.heap.size):=⟨hq7.size,hbx7.lt⟩
    clear hbx7 hgr7 hst7 hk7 hf7 hp7 hk8 hp8 hq7 hoff HBX6 HT6 HR0 HY6
    have hsz8:w7.heap.size=((((w7.setCell ⟨gb,0,none⟩ (.slice A7 G7.key.length p7)).setCell ⟨gb,1,none⟩ (.int .i64 G7.n)).setCell ⟨gb,2,none⟩ (.slice A8 G7.parts.length p8)).heap.size):=by simp
    rw [hsz8] at HSZ8
    go_wp2_with fail
    generalize ((w7.setCell ⟨gb,0,none⟩ (.slice A7 G7.key.length p7)).setCell ⟨gb,1,none⟩ (.int .i64 G7.n)).setCell ⟨gb,2,none⟩ (.slice A8 G7.parts.length p8)=w8 at *
    clear hsz8
    have HLIT9:=Lib.hid (groupK_lit w8 46 (.slice A7 G7.key.length p7,.slice A8 G7.parts.length p8,G7))
    have hq9:=Below.alloc (.refl w8.heap.size w8) (Nat.le_refl _) (.cells #[.slice A7 G7.key.length p7,.int .i64 G7.n,.slice A8 G7.parts.length p8] 46)
    have HT9:=Lib.hid (HT8.out.later hq9)
    have HR9:=Lib.hid (groupK.kept HR8.out hq9)
    have H19:=Lib.hid (groupK.one HR8.out)
    have HTGL:Hid (tgu.length≤1000000):=by
     show _≤_
     have:=HLN.out
     have:=HKL.out
     have:us.length=KK:=by
      have:=congrArg List.length HUS.out
      rw [List.length_map,List.length_take] at this
      omega
     rw [←HTGU.out,List.length_append]
     omega
    have htgl:=HTGL.out
    go_wp2_with (at_builtin;refine wpList_append_src rfl (.tmp 53) (.tmp 55) 29 rfl 46 i0 (.agg #[.slice none 0 0,.int .i64 0,.slice none 0 0]) 3 56 Tryz.underlying29 hi hz0 hz1 hz2 rfl (by decide) (B:=w.heap.size) (.slice A6 tgu.length p6) tgu.length (groupK.flat tgu) rfl (HT9.out.fst.own) (.slice (some ⟨w8.heap.size,0,none⟩) 1 1) 1 (groupK.cells (.slice A7 G7.key.length p7,.slice A8 G7.parts.length p8,G7)) rfl HLIT9.out H19.out (by unfold maxLen;omega) (by omega) HT9.out.below.size ?_)
    intro v9 w9 hO9 hg9 ha9
    obtain ⟨A9,p9,rfl⟩:=hO9.len
    have HTC:=Lib.hid (HT9.out.add HR9.out hg9 (fun k hk=>by simpa using ha9 k hk) hO9 rfl)
    have HBX9:=Lib.hid ((HBX8.out.kept hq9).other hg9 fun e=>HO1.out _ e rfl)
    have HR10:Hid (groupK.R (Off3 (fun u=>RowOff (cboxV gb) u) (.slice A9 (tgu.length+1) p9) (.slice A2 (ta.length+1) p2) (.slice Ar tb.length pr)) w9 (.slice A7 G7.key.length p7,.slice A8 G7.parts.length p8,G7)):=by
     exact HTC.out.fst.each _ (by simp) |> fun h=>groupK.mono h fun u hu=>hu.1
    clear hq9 hO9 hg9 ha9 HLIT9 HR9 H19 HT9 HT8 HBX8 HR8 htgl
    have HNO:=Lib.hid (gnone_calls A7 A8 G7.key.length p7 G7.parts.length p8 G7.n)
    obtain ⟨⟨c0,c1,c2⟩,_⟩:=HBX9.out.three
    have HE1N:=Lib.hid (merge_step HE1.out HDB.out HLE.out.1 HG7.out HRS.out.1)
    have HE2N:=Lib.hid (ahead_step HE2.out HDB.out HHIT.out HRS.out.1)
    have HE3N:=Lib.hid (behind_step HE3.out HDB.out HG7.out HRS.out.1)
    have HMP:Hid (((tgu++[((.slice A7 G7.key.length p7,.slice A8 G7.parts.length p8,G7):GV)]).map groupK.pr)=tg.map groupK.pr++us.map groupK.pr++[G7]):=by
     show _=_
     rw [←HTGU.out,List.map_append,List.map_append];rfl
    rw [←HMP.out] at HE1N
    have HXN:Hid (groupK.In (fun _=>True) w (.slice A51 (LD.length-1) (c5-1)) (l.drop (d+KK+1))):=(by rw [←HRS.out.2.2];exact HXC)
    have HLN1:Hid (tgu.length+1≤(d+KK+1)+(k+1)):=by
     show _≤_
     have:=HNN.out.1
     have h2:us.length=KK:=by
      have:=congrArg List.length HUS.out
      rw [List.length_map,List.length_take] at this
      have:=HKL.out
      omega
     rw [←HTGU.out,List.length_append]
     omega
    have HSZ9:=Lib.hid HTC.out.below.size
    by_cases hz7:G7.n=0
    ·have g7:(G7.n==0)=true:=by simpa using hz7
     rw [if_pos hz7,List.append_nil] at HE3N
     rw [g7] at HNO
     clear g7 hz7
     go_wp2_with (go_at_call 44;refine Calls.mono (HNO.out _) ?_;rintro e w10 ⟨rfl,hq10⟩;have HTD:=Lib.hid (HTC.out.later hq10);clear hq10)
     go_roundw
     case rel=>exact ⟨k+1,(d+KK+1),_,_,_,HLK.out,HRS.out.2.1,by go_num,HXN,HTD.out.mono fun _ _=>trivial,HE1N,(by rw [List.map_append];exact HE2N),HE3N,⟨by rw [List.length_append];exact HLN1.out,by rw [List.length_append];have:=HNN.out.2.1;show ta.length+1≤k+1;omega,by have:=HNN.out.2.2;omega⟩⟩
     case measure=>have:=HLK.out;simp [intOf];omega
    ·have g7:(G7.n==0)=false:=by simpa using hz7
     rw [if_neg hz7] at HE3N
     rw [g7] at HNO
     clear g7 hz7
     have HTBL:Hid (tb.length≤1000000):=by
      have:=HNN.out
      show _≤_
      omega
     have htbl:=HTBL.out
     go_wp2_with (first
      | (go_at_call 44
         refine Calls.mono (HNO.out _) ?_
         rintro e w10 ⟨rfl,hq10⟩
         have HTD:=Lib.hid (HTC.out.later hq10)
         have HBX10:=Lib.hid (HBX9.out.kept hq10)
         have HR11:=Lib.hid (groupK.kept HR10.out hq10)
         have HLITB:=Lib.hid (groupK_lit w10 46 (.slice A7 G7.key.length p7,.slice A8 G7.parts.length p8,G7))
         have hqb:=Below.alloc (.refl w10.heap.size w10) (Nat.le_refl _) (.cells #[.slice A7 G7.key.length p7,.int .i64 G7.n,.slice A8 G7.parts.length p8] 46)
         have HTE:=Lib.hid (HTD.out.turn.later hqb)
         have HRB:Hid (groupK.R (Off3 (fun u=>RowOff (cboxV gb) u) (.slice Ar tb.length pr) (.slice A9 (tgu.length+1) p9) (.slice A2 (ta.length+1) p2)) _ _):=Lib.hid (groupK.kept (groupK.mono HR11.out fun u hu=>⟨hu.1,hu.2.2.2,hu.2.1,hu.2.2.1⟩) hqb)
         have H1B:=Lib.hid (groupK.one HR11.out)
         clear hq10 hqb c0 c1 c2
         obtain ⟨⟨c0,c1,c2⟩,_⟩:=HBX10.out.three)
      | (at_builtin
         refine wpList_append_src rfl (.tmp 60) (.tmp 62) 29 rfl 46 i0 (.agg #[.slice none 0 0,.int .i64 0,.slice none 0 0]) 3 56 Tryz.underlying29 hi hz0 hz1 hz2 rfl (by decide) (B:=w.heap.size) (.slice Ar tb.length pr) tb.length (groupK.flat tb) rfl (HTE.out.fst.own) (.slice (some ⟨w10.heap.size,0,none⟩) 1 1) 1 (groupK.cells (.slice A7 G7.key.length p7,.slice A8 G7.parts.length p8,G7)) rfl HLITB.out H1B.out (by unfold maxLen;omega) (by omega) HTE.out.below.size ?_))
     intro v11 w11 hO11 hg11 ha11
     obtain ⟨A11,p11,rfl⟩:=hO11.len
     have HTF2:=Lib.hid ((HTE.out.add HRB.out hg11 (fun k hk=>by simpa using ha11 k hk) hO11 rfl).turn.turn)
     clear hO11 hg11 ha11 c0 c1 c2
     go_wp2
     go_roundw
     case rel=>exact ⟨k+1,(d+KK+1),_,_,_,HLK.out,HRS.out.2.1,by go_num,HXN,HTF2.out.mono fun _ _=>trivial,HE1N,(by rw [List.map_append];exact HE2N),(by rw [List.map_append];exact HE3N),⟨by rw [List.length_append];exact HLN1.out,by rw [List.length_append];have:=HNN.out.2.1;show ta.length+1≤k+1;omega,by rw [List.length_append];have:=HNN.out.2.2;show tb.length+1≤k+1;omega⟩⟩
     case measure=>have:=HLK.out;simp [intOf];omega
   | false =>
    have hnh:=HHN.out fun e=>by have:=HZZ.out.2 e;cases this
    have HHIT:Hid (hitG L bt.1=none):=hnh
    have HRS:Hid (restG L bt.1=l.drop (d+KK)∧d+KK≤l.length∧LD=l.drop (d+KK)):=by
     have e1:LD=l.drop (d+KK):=by rw [←HLDD.out,←HLD.out,List.drop_drop]
     refine ⟨?_,?_,e1⟩
     ·unfold restG
      rw [hnh,HLE.out.2,←e1,←HLDD.out];rfl
     ·have:=HLS.out.1
      have:=HKL.out
      omega
    have HF0:Hid (FitG (bareG bt.1)):=⟨by show (0:Int).natAbs≤_;decide,HFK.out.1,fun p hp=>absurd hp (by simp [bareG])⟩
    have HR0:Hid (groupK.R (fun _=>True) w (.slice Ak bt.1.length pk,.slice none 0 0,bareG bt.1)):=group_of HBK.out trivial (Kin.In.nil_ _ _ _ _ trivial)
    have HBX6:=HBX
    have HT6:=HT5
    have HY6:=HY5
    have HGB:Hid (w4.heap.size < (w4.alloc (.cells #[.slice Ak bt.1.length pk,.int .i64 0,.slice none 0 0] 46)).heap.size∧w.heap.size≤w4.heap.size):=⟨by simp,HGB0.out⟩
    have y5:=HY6.out
    clear hnh HHY HHN HZZ HBX HT5 HY5
    go_wp2_with fail
    clear y5
    generalize hgb:w4.heap.size=gb at *
    generalize w4.alloc _=w6 at *
    clear hgb hbc0
    have HFW:=Lib.hid (gwith_calls (gv:=groupA (.slice Ak bt.1.length pk) (.slice none 0 0) 0) (gs:=gs) ⟨_,_,rfl,groupK.kept (t:=(_,_,(bareG bt.1))) HR0.out HT6.out.below⟩ (HAG.out.kept HT6.out.below) (timesK_times (HBY.out.kept HT6.out.below)) HF0.out HFK.out.2.1 HFK.out.2.2 hgs)
    unfold groupA at HFW
    obtain ⟨⟨b0,b1,b2⟩,_⟩:=HBX6.out.three
    have y1:=HY6.out
    refine Calls.mono HFW.out ?_
    rintro e w7 ⟨kv7,pv7,rfl,hr7,hq7⟩
    have HG7:Hid (newG gs L bt=withG (bareG bt.1) gs bt.2):=by
     show _=_
     unfold newG
     rw [HHIT.out];rfl
    obtain ⟨A7,p7,A8,p8,rfl,rfl,hk7,hf7,hp7⟩:=group_open hr7
    unfold groupA
    clear b0 b1 b2 y1 HFW hr7
    generalize withG (bareG bt.1) gs bt.2=G7 at *
    have hbx7:=HBX6.out.kept hq7
    obtain ⟨⟨c0,c1,c2⟩,f0,f1,f2⟩:=hbx7.three
    have hgr7:=three_grown w7 gb (.slice A7 G7.key.length p7) (.int .i64 G7.n) (.slice A8 G7.parts.length p8)
    have hst7:=hbx7.three_put (a':=.slice A7 G7.key.length p7) (b':=.int .i64 G7.n) (c':=.slice A8 G7.parts.length p8)
    have hoff:∀ u,Fresh w6.heap.size u→RowOff (cboxV gb) u:=fun u hu=>RowOff.of_fresh hu fun k hk=>by
     simp only [Value.ownBlock,Option.some.injEq] at hk
     have:=HGB.out.1
     omega
    have HT8:=Lib.hid ((HT6.out.later hq7).beside (v0:=cboxV gb) (fun u hu=>hu) (fun k hk=>by
     simp only [Value.ownBlock,Option.some.injEq] at hk
     subst hk
     exact ⟨HGB.out.2,fun e=>HO1.out _ e rfl,fun e=>HO2.out _ e rfl,fun e=>HO3.out _ e rfl⟩) hgr7)
    have hk8:=StrsIn.off hk7 (hoff _ hf7) hgr7
    have hp8:=hp7.off (v0:=cboxV gb) hoff hgr7
    have HOEF:Hid (∀ u,Fresh w6.heap.size u→Off3 (fun u=>RowOff (cboxV gb) u) (.slice A6 tgu.length p6) (.slice Aq ta.length pq) (.slice Ar tb.length pr) u):=fun u hu=>⟨hoff u hu,HT6.out.new hu⟩
    have HR8:=Lib.hid (group_of (g:=G7) hk8 (HOEF.out _ hf7) (hp8.mono fun u hu=>HOEF.out u hu))
    have HBX8:=Lib.hid hst7
    have HSZ8:Hid (w6.heap.size≤w7.heap.size∧gb < w7.heap.size):=⟨hq7.size,hbx7.lt⟩
    clear hbx7 hgr7 hst7 hk7 hf7 hp7 hk8 hp8 hq7 hoff HBX6 HT6 HR0 HY6
    have hsz8:w7.heap.size=((((w7.setCell ⟨gb,0,none⟩ (.slice A7 G7.key.length p7)).setCell ⟨gb,1,none⟩ (.int .i64 G7.n)).setCell ⟨gb,2,none⟩ (.slice A8 G7.parts.length p8)).heap.size):=by simp
    rw [hsz8] at HSZ8
    go_wp2_with fail
    generalize ((w7.setCell ⟨gb,0,none⟩ (.slice A7 G7.key.length p7)).setCell ⟨gb,1,none⟩ (.int .i64 G7.n)).setCell ⟨gb,2,none⟩ (.slice A8 G7.parts.length p8)=w8 at *
    clear hsz8
    have HLIT9:=Lib.hid (groupK_lit w8 46 (.slice A7 G7.key.length p7,.slice A8 G7.parts.length p8,G7))
    have hq9:=Below.alloc (.refl w8.heap.size w8) (Nat.le_refl _) (.cells #[.slice A7 G7.key.length p7,.int .i64 G7.n,.slice A8 G7.parts.length p8] 46)
    have HT9:=Lib.hid (HT8.out.later hq9)
    have HR9:=Lib.hid (groupK.kept HR8.out hq9)
    have H19:=Lib.hid (groupK.one HR8.out)
    have HTGL:Hid (tgu.length≤1000000):=by
     show _≤_
     have:=HLN.out
     have:=HKL.out
     have:us.length=KK:=by
      have:=congrArg List.length HUS.out
      rw [List.length_map,List.length_take] at this
      omega
     rw [←HTGU.out,List.length_append]
     omega
    have htgl:=HTGL.out
    go_wp2_with (at_builtin;refine wpList_append_src rfl (.tmp 53) (.tmp 55) 29 rfl 46 i0 (.agg #[.slice none 0 0,.int .i64 0,.slice none 0 0]) 3 56 Tryz.underlying29 hi hz0 hz1 hz2 rfl (by decide) (B:=w.heap.size) (.slice A6 tgu.length p6) tgu.length (groupK.flat tgu) rfl (HT9.out.fst.own) (.slice (some ⟨w8.heap.size,0,none⟩) 1 1) 1 (groupK.cells (.slice A7 G7.key.length p7,.slice A8 G7.parts.length p8,G7)) rfl HLIT9.out H19.out (by unfold maxLen;omega) (by omega) HT9.out.below.size ?_)
    intro v9 w9 hO9 hg9 ha9
    obtain ⟨A9,p9,rfl⟩:=hO9.len
    have HTC:=Lib.hid (HT9.out.add HR9.out hg9 (fun k hk=>by simpa using ha9 k hk) hO9 rfl)
    have HBX9:=Lib.hid ((HBX8.out.kept hq9).other hg9 fun e=>HO1.out _ e rfl)
    have HR10:Hid (groupK.R (Off3 (fun u=>RowOff (cboxV gb) u) (.slice A9 (tgu.length+1) p9) (.slice Aq ta.length pq) (.slice Ar tb.length pr)) w9 (.slice A7 G7.key.length p7,.slice A8 G7.parts.length p8,G7)):=by
     exact HTC.out.fst.each _ (by simp) |> fun h=>groupK.mono h fun u hu=>hu.1
    clear hq9 hO9 hg9 ha9 HLIT9 HR9 H19 HT9 HT8 HBX8 HR8 htgl
    have HNO:=Lib.hid (gnone_calls A7 A8 G7.key.length p7 G7.parts.length p8 G7.n)
    obtain ⟨⟨c0,c1,c2⟩,_⟩:=HBX9.out.three
    have HE1N:=Lib.hid (merge_step HE1.out HDB.out HLE.out.1 HG7.out HRS.out.1)
    have HE2N:=Lib.hid (ahead_step HE2.out HDB.out HHIT.out HRS.out.1)
    have HE3N:=Lib.hid (behind_step HE3.out HDB.out HG7.out HRS.out.1)
    have HMP:Hid (((tgu++[((.slice A7 G7.key.length p7,.slice A8 G7.parts.length p8,G7):GV)]).map groupK.pr)=tg.map groupK.pr++us.map groupK.pr++[G7]):=by
     show _=_
     rw [←HTGU.out,List.map_append,List.map_append];rfl
    rw [←HMP.out] at HE1N
    have HXN:Hid (groupK.In (fun _=>True) w (.slice A5 LD.length c5) (l.drop (d+KK))):=(by rw [←HRS.out.2.2];exact HXB)
    have HLN1:Hid (tgu.length+1≤(d+KK)+(k+1)):=by
     show _≤_
     have:=HNN.out.1
     have h2:us.length=KK:=by
      have:=congrArg List.length HUS.out
      rw [List.length_map,List.length_take] at this
      have:=HKL.out
      omega
     rw [←HTGU.out,List.length_append]
     omega
    have HSZ9:=Lib.hid HTC.out.below.size
    by_cases hz7:G7.n=0
    ·have g7:(G7.n==0)=true:=by simpa using hz7
     rw [if_pos hz7,List.append_nil] at HE3N
     rw [g7] at HNO
     clear g7 hz7
     go_wp2_with (go_at_call 44;refine Calls.mono (HNO.out _) ?_;rintro e w10 ⟨rfl,hq10⟩;have HTD:=Lib.hid (HTC.out.later hq10);clear hq10)
     go_roundw
     case rel=>exact ⟨k+1,(d+KK),_,_,_,HLK.out,HRS.out.2.1,by go_num,HXN,HTD.out.mono fun _ _=>trivial,HE1N,(by have h:=HE2N.out;rw [Option.toList_none,List.append_nil] at h;exact h),HE3N,⟨by rw [List.length_append];exact HLN1.out,by have:=HNN.out.2.1;omega,by have:=HNN.out.2.2;omega⟩⟩
     case measure=>have:=HLK.out;simp [intOf];omega
    ·have g7:(G7.n==0)=false:=by simpa using hz7
     rw [if_neg hz7] at HE3N
     rw [g7] at HNO
     clear g7 hz7
     have HTBL:Hid (tb.length≤1000000):=by
      have:=HNN.out
      show _≤_
      omega
     have htbl:=HTBL.out
     go_wp2_with (first
      | (go_at_call 44
         refine Calls.mono (HNO.out _) ?_
         rintro e w10 ⟨rfl,hq10⟩
         have HTD:=Lib.hid (HTC.out.later hq10)
         have HBX10:=Lib.hid (HBX9.out.kept hq10)
         have HR11:=Lib.hid (groupK.kept HR10.out hq10)
         have HLITB:=Lib.hid (groupK_lit w10 46 (.slice A7 G7.key.length p7,.slice A8 G7.parts.length p8,G7))
         have hqb:=Below.alloc (.refl w10.heap.size w10) (Nat.le_refl _) (.cells #[.slice A7 G7.key.length p7,.int .i64 G7.n,.slice A8 G7.parts.length p8] 46)
         have HTE:=Lib.hid (HTD.out.turn.later hqb)
         have HRB:Hid (groupK.R (Off3 (fun u=>RowOff (cboxV gb) u) (.slice Ar tb.length pr) (.slice A9 (tgu.length+1) p9) (.slice Aq ta.length pq)) _ _):=Lib.hid (groupK.kept (groupK.mono HR11.out fun u hu=>⟨hu.1,hu.2.2.2,hu.2.1,hu.2.2.1⟩) hqb)
         have H1B:=Lib.hid (groupK.one HR11.out)
         clear hq10 hqb c0 c1 c2
         obtain ⟨⟨c0,c1,c2⟩,_⟩:=HBX10.out.three)
      | (at_builtin
         refine wpList_append_src rfl (.tmp 60) (.tmp 62) 29 rfl 46 i0 (.agg #[.slice none 0 0,.int .i64 0,.slice none 0 0]) 3 56 Tryz.underlying29 hi hz0 hz1 hz2 rfl (by decide) (B:=w.heap.size) (.slice Ar tb.length pr) tb.length (groupK.flat tb) rfl (HTE.out.fst.own) (.slice (some ⟨w10.heap.size,0,none⟩) 1 1) 1 (groupK.cells (.slice A7 G7.key.length p7,.slice A8 G7.parts.length p8,G7)) rfl HLITB.out H1B.out (by unfold maxLen;omega) (by omega) HTE.out.below.size ?_))
     intro v11 w11 hO11 hg11 ha11
     obtain ⟨A11,p11,rfl⟩:=hO11.len
     have HTF2:=Lib.hid ((HTE.out.add HRB.out hg11 (fun k hk=>by simpa using ha11 k hk) hO11 rfl).turn.turn)
     clear hO11 hg11 ha11 c0 c1 c2
     go_wp2
     go_roundw
     case rel=>exact ⟨k+1,(d+KK),_,_,_,HLK.out,HRS.out.2.1,by go_num,HXN,HTF2.out.mono fun _ _=>trivial,HE1N,(by have h:=HE2N.out;rw [Option.toList_none,List.append_nil] at h;exact h),(by rw [List.map_append];exact HE3N),⟨by rw [List.length_append];exact HLN1.out,by have:=HNN.out.2.1;omega,by rw [List.length_append];have:=HNN.out.2.2;show tb.length+1≤k+1;omega⟩⟩
     case measure=>have:=HLK.out;simp [intOf];omega
  ·obtain rfl:k=bs.length:=by omega
   rw [List.drop_length] at HE1 HE2 HE3
   have HM:Hid (mergeG gs bs l=tg.map groupK.pr++L):=HE1
   have HA:Hid (aheadG bs l=ta.map groupK.pr):=by
    show _=_
    rw [HE2.out];exact List.append_nil _
   have HB:Hid (behindG gs bs l=tb.map groupK.pr):=by
    show _=_
    rw [HE3.out];exact List.append_nil _
   have HLN:Hid (tg.length+L.length≤1000000):=by
    show _≤_
    have:=HNN.out.1
    have:=HLS.out.1
    omega
   have hc:=gcopies_calls (Q:=fun u=>True∧RowOff (.slice Aq ta.length pq) u∧RowOff (.slice Ar tb.length pr) u) (w0:=w) (w:=wr) (tov:=.slice Ag tg.length pg) (lv:=.slice Ax L.length cx) HT.out.below (HT.out.fst.mono fun u hu=>⟨trivial,hu.2.2⟩) HX.out (fun u hu=>⟨trivial,(HT.out.new hu).2⟩) (fun g hg=>by
    have:=HF.out g (HLS.out.2.2 g hg)
    exact fit_copy this.1 this.2) HLN.out
   go_wp2_with fail
   refine Calls.mono hc ?_
   rintro e w5 ⟨v5,us,rfl,hus,hM5,hgr,htu⟩
   obtain ⟨tgu,htgu⟩:∃ tgu,tg++us=tgu:=⟨_,rfl⟩
   have HTGU:=Lib.hid htgu
   rw [htgu] at hM5
   have HT5:=Lib.hid (HT.out.step hM5 hgr htu)
   have hd:=gdelete_calls HT5.out.fst HT5.out.below.size
   obtain ⟨A5,p5,rfl⟩:=hM5.slice
   have HUS:=Lib.hid hus
   clear hc hus hM5 hgr htu htgu
   go_wp2_with fail
   refine Calls.mono hd ?_
   rintro e w6 ⟨u6,rfl,hin,hb6,hg6⟩
   have HIN:Hid (groupK.In (fun _=>True) w6 u6 ((mergeG gs bs l).filter fun g=>!(g.n==0))):=by
    show groupK.In _ _ _ _
    have e2:(keepG tgu).map groupK.pr=(tgu.map groupK.pr).filter fun g=>!(g.n==0):=keepG_map _
    rw [e2,←HTGU.out,List.map_append,HUS.out] at hin
    rw [HM.out];exact hin
   have HAI:Hid (groupK.In (fun _=>True) w6 (.slice Aq ta.length pq) (aheadG bs l)):=by
    show groupK.In _ _ _ _
    rw [HA.out]
    exact ((HT5.out.snd.beside (fun u hu=>hu.2.1) (fun j hj=>HT5.out.ab j hj) hg6).mono fun _ _=>trivial).in_ trivial
   have HBI:Hid (groupK.In (fun _=>True) w6 (.slice Ar tb.length pr) (behindG gs bs l)):=by
    show groupK.In _ _ _ _
    rw [HB.out]
    exact ((HT5.out.trd.beside (fun u hu=>hu.2.1) (fun j hj=>HT5.out.ac j hj) hg6).mono fun _ _=>trivial).in_ trivial
   have HB6:=Lib.hid (HT5.out.below.trans hb6)
   obtain ⟨A6,p6,e6⟩:=HIN.out.slice
   subst e6
   clear hin hg6 hd hb6
   go_wp2
   go_ret3
   exact ⟨.slice A6 ((mergeG gs bs l).filter fun g=>!(g.n==0)).length p6,_,_,rfl,HIN.out,HAI.out,HBI.out,HB6.out⟩
end Go.Proofs.YtjbpbfhgjldliaaGreat
