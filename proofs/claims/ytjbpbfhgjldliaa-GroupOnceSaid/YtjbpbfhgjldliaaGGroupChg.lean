/- The contract of layer 21's own Change. -/
import Derived.Test.YtjbpbfhgjldliaaGZCalm
import Derived.Test.YtjbpbfhgjldliaaGWeighFns
import Derived.Test.YtjbpbfhgjldliaaGWideB
import Derived.Test.YtjbpbfhgjldliaaGGroupKin
import Derived.Test.YtjbpbfhgjldliaaGPairOn
import Derived.Test.YtjbpbfhgjldliaaGGroupBat
import Derived.Test.YtjbpbfhgjldliaaGWeighSmall
import Derived.Test.YtjbpbfhgjldliaaGWeighOwn
import Derived.Test.YtjbpbfhgjldliaaGGroupOwn
import Derived.Test.YtjbpbfhgjldliaaGGroupPuts
import Derived.Lib.MinMax
namespace Go.Proofs.Ytjbpbfhgjldliaa
open Go Go.RowKit
def atG (l:List Tm)(p:Int):ByteArray:=if 0≤p then cellD ((l[p.toNat]?.map (·.1)).getD []) 0 else eB
theorem atG_in {l:List Tm}{j:Nat}(h:j < l.length)(h0:0 < l[j].1.length):atG l (j:Int)=l[j].1[0]:=by
 unfold atG
 rw [if_pos (by omega),Int.toNat_natCast,List.getElem?_eq_getElem h]
 exact cellD_first _ h0
theorem atG_empty {l:List Tm}{j:Nat}(h:j < l.length)(h0:l[j].1.length=0):atG l (j:Int)=eB:=by
 unfold atG
 rw [if_pos (by omega),Int.toNat_natCast,List.getElem?_eq_getElem h]
 show cellD l[j].1 0=eB
 rw [List.eq_nil_of_length_eq_zero h0];rfl
theorem atG_out {l:List Tm}{p:Int}(h:p < 0∨(l.length:Int)≤p):atG l p=eB:=by
 unfold atG
 split
 ·rw [List.getElem?_eq_none (by omega)];rfl
 ·rfl
theorem atG_first (l:List Tm):atG l 0=cellD ((l.head?.map (·.1)).getD []) 0:=by
 unfold atG
 rw [if_pos (by decide)]
 cases l <;> rfl
theorem atG_last (l:List Tm):atG l ((l.length:Int)-1)=cellD ((l.getLast?.map (·.1)).getD []) 0:=by
 unfold atG
 cases l with
 | nil=>rfl
 | cons x l =>
  rw [if_pos (by simp only [List.length_cons];omega),List.getLast?_eq_getElem?]
  have:((((x::l).length:Nat):Int)-1).toNat=(x::l).length-1:=by simp only [List.length_cons];omega
  rw [this]
set_option maxHeartbeats 1000000 in
theorem gcellAt_calls {w:World}{v:Value}{l:List Tm}(p:Int)(h:TimesIn w v l):GivesAt Try.prog 49 #[v,.int .i64 p] w (.string (atG l p)):=by
 have hm:=h.len
 unfold maxLen at hm
 obtain ⟨tv,A,cap,rfl,_,hat⟩:=times_at h
 have HB:=Lib.hid (Below.refl w.heap.size w)
 unfold GivesAt
 by_cases h0:p < 0
 ·rw [atG_out (.inl h0)]
  have d1:decide (p < 0)=true:=decide_eq_true h0
  clear hat h
  go_enter Try.func49,Try.ntmps49
  go_wp2
  go_ret
  exact ⟨rfl,HB.out⟩
 ·obtain ⟨j,rfl⟩:∃ j:Nat,p=j:=⟨p.toNat,by omega⟩
  have d1:decide ((j:Int) < 0)=false:=decide_eq_false h0
  by_cases hj:j < l.length
  ·have d2:decide ((l.length:Int)≤j)=false:=by rw [decide_eq_false_iff_not];omega
   obtain ⟨b,off,rfl,hbl,hc⟩:=hat j hj
   obtain ⟨rv,hs,_,c1,_⟩:=hc j hj
   have i1:(j:Int) < (l.length:Int):=by omega
   obtain ⟨A2,p2,rfl,hat2⟩:=one_at hs
   by_cases hz:l[j].1.length=0
   ·rw [atG_empty hj hz]
    rw [hz] at c1
    clear hat h hat2 hc hs hz
    go_enter Try.func49,Try.ntmps49
    go_wp2
    go_ret
    exact ⟨rfl,HB.out⟩
   ·rw [atG_in hj (by omega)]
    obtain ⟨b2,o2,rfl,_,hc2⟩:=hat2 0 (by omega)
    have y0:=hc2 0 (by omega)
    rw [Nat.add_zero] at y0
    obtain ⟨m,hm2⟩:∃ m,l[j].1.length=m:=⟨_,rfl⟩
    rw [hm2] at c1
    have hmp:m≠0:=by omega
    have i3:(0:Int) < (m:Int):=by omega
    have d3:((m:Int)==0)=false:=by rw [beq_eq_false_iff_ne];omega
    generalize l[j].1[0]'_=s at *
    clear hat h hat2 hc hs hz hc2 hm2
    go_enter Try.func49,Try.ntmps49
    go_wp2
    go_ret
    exact ⟨rfl,HB.out⟩
  ·rw [atG_out (.inr (by omega))]
   have d2:decide ((l.length:Int)≤j)=true:=by rw [decide_eq_true_eq];omega
   clear hat h
   go_enter Try.func49,Try.ntmps49
   go_wp2
   go_ret
   exact ⟨rfl,HB.out⟩
def errG (o:Option ByteArray):Int:=match o with|some _=>0|none=>7
def gotG (o:Option ByteArray):ByteArray:=match o with|some c=>c|none=>eB
theorem valG_1 (n:Int)(p:PartP):valG n p 1=some (cellInt n):=if_pos rfl
theorem valG_0 (n:Int)(p:PartP){way:Int}(h:way≠1)(h0:p.n=0):valG n p way=some eB:=by unfold valG;rw [if_neg h,if_pos h0]
theorem valG_3 (n:Int)(p:PartP)(h0:p.n≠0):valG n p 3=some (atG p.cells 0):=by unfold valG;rw [if_neg (by decide),if_neg h0,if_pos rfl,atG_first]
theorem valG_4 (n:Int)(p:PartP)(h0:p.n≠0):valG n p 4=some (atG p.cells ((p.cells.length:Int)-1)):=by unfold valG;rw [if_neg (by decide),if_neg h0,if_neg (by decide),if_pos rfl,atG_last]
theorem valG_2 (n:Int)(p:PartP){way:Int}(h:way≠1)(h3:way≠3)(h4:way≠4)(h0:p.n≠0):valG n p way=numW p.s:=by unfold valG;rw [if_neg h,if_neg h0,if_neg h3,if_neg h4]
set_option maxHeartbeats 4000000 in
set_option maxRecDepth 100000 in
theorem gvalue_calls {w:World}{v:Value}{p:PartP}(n way:Int)(h:PartIn (fun _=>True) w v p)(h0 : -9223372036854775808≤n)(h1:n≤9223372036854775807) :
  GivesAt Try.prog 32 #[.int .i64 n,v,.int .i64 way] w (.tuple #[.string (gotG (valG n p way)),.int .i64 (errG (valG n p way))]):=by
 obtain ⟨cv,rfl,hcv⟩:=h
 obtain ⟨Ac,pc,rfl⟩:=hcv.slice
 have hml:=hcv.len
 unfold maxLen at hml
 have V1:=valG_1 n p
 have V0:=fun way (h:way≠1) h0=>valG_0 n p (way:=way) h h0
 have V3:=valG_3 n p
 have V4:=valG_4 n p
 have V2:=fun way h h3 h4 h0=>valG_2 n p (way:=way) h h3 h4 h0
 obtain ⟨pn,ps,pcl⟩:=p
 dsimp only at *
 have HIN:=Lib.hid (toW_in ps)
 have HNW:Hid (numW ps=if fitsD (toW ps) then some (cellInt (intD (toW ps))) else none):=Lib.hid rfl
 have HWI:=Lib.hid (wide_int_calls HIN.out)
 obtain ⟨⟨s1,s2⟩,hss⟩:∃ s,toW ps=s:=⟨_,rfl⟩
 unfold partA
 dsimp only
 rw [hss] at HWI HNW HIN ⊢
 have hq0:=Below.alloc (.refl w.heap.size w) (Nat.le_refl _) (.cells #[.int .i64 pn,.int .i64 s1,.int .u64 s2,.slice Ac pcl.length pc] 60)
 have HCV:=Lib.hid (timesK_times (hcv.kept hq0))
 have HB:=Lib.hid hq0
 have a0:=box_cell w 60 #[.int .i64 pn,.int .i64 s1,.int .u64 s2,.slice Ac pcl.length pc] 0 _ rfl
 have a1:=box_cell w 60 #[.int .i64 pn,.int .i64 s1,.int .u64 s2,.slice Ac pcl.length pc] 1 _ rfl
 have a2:=box_cell w 60 #[.int .i64 pn,.int .i64 s1,.int .u64 s2,.slice Ac pcl.length pc] 2 _ rfl
 have a3:=box_cell w 60 #[.int .i64 pn,.int .i64 s1,.int .u64 s2,.slice Ac pcl.length pc] 3 _ rfl
 have HIT:=Lib.hid (int_calls n h0 h1)
 clear hcv hq0 hss
 unfold wV at HWI
 dsimp only at HWI
 by_cases w1:way=1
 ·subst w1
  rw [V1]
  clear V0 V1 V2 V3 V4
  show GivesAt _ _ _ _ (.tuple #[.string (cellInt n),.int .i64 0])
  generalize cellInt n=c at *
  unfold GivesAt
  go_enter Try.func32,Try.ntmps32
  go_wp2_with fail
  refine Calls.mono (HIT.out _) ?_
  rintro e w2 ⟨rfl,hq⟩
  have HB2:=Lib.hid (HB.out.trans (hq.mono HB.out.size))
  clear a0 a1 a2 a3 hq
  go_wp2
  go_ret2
  exact ⟨rfl,HB2.out⟩
 ·have g1:(way==1)=false:=by simpa using w1
  by_cases z0:pn=0
  ·rw [V0 way w1 z0]
   subst z0
   clear V0 V1 V2 V3 V4
   show GivesAt _ _ _ _ (.tuple #[.string ⟨#[]⟩,.int .i64 0])
   unfold GivesAt
   go_enter Try.func32,Try.ntmps32
   have HB2:=HB
   go_wp2
   go_ret2
   exact ⟨rfl,HB2.out⟩
  ·have gz:(pn==0)=false:=by simpa using z0
   by_cases w3:way=3
   ·subst w3
    rw [V3 z0]
    have HC:=Lib.hid (gcellAt_calls 0 HCV.out)
    clear V0 V1 V2 V3 V4
    show GivesAt _ _ _ _ (.tuple #[.string (atG pcl 0),.int .i64 0])
    generalize atG pcl 0=c at *
    unfold GivesAt
    go_enter Try.func32,Try.ntmps32
    go_wp2_with fail
    refine Calls.mono (HC.out) ?_
    rintro e w2 ⟨rfl,hq⟩
    have HB2:=Lib.hid (HB.out.trans (hq.mono HB.out.size))
    clear a0 a1 a2 a3 hq
    go_wp2
    go_ret2
    exact ⟨rfl,HB2.out⟩
   ·have g3:(way==3)=false:=by simpa using w3
    by_cases w4:way=4
    ·subst w4
     rw [V4 z0]
     have HC:=Lib.hid (gcellAt_calls ((pcl.length:Int)-1) HCV.out)
     have q1:IntKind.i64.wrap ((pcl.length:Int)-1)=(pcl.length:Int)-1:=IntWalk.i64_in _ (by omega)
     clear V0 V1 V2 V3 V4
     show GivesAt _ _ _ _ (.tuple #[.string (atG pcl ((pcl.length:Int)-1)),.int .i64 0])
     generalize atG pcl ((pcl.length:Int)-1)=c at *
     unfold GivesAt
     go_enter Try.func32,Try.ntmps32
     go_wp2_with fail
     refine Calls.mono (HC.out) ?_
     rintro e w2 ⟨rfl,hq⟩
     have HB2:=Lib.hid (HB.out.trans (hq.mono HB.out.size))
     clear a0 a1 a2 a3 hq
     go_wp2
     go_ret2
     exact ⟨rfl,HB2.out⟩
    ·have g4:(way==4)=false:=by simpa using w4
     rw [V2 way w1 w3 w4 z0,HNW.out]
     clear V0 V1 V2 V3 V4
     cases hf:fitsD (s1,s2) with
     | true =>
      have he:errD (s1,s2)=0:=by unfold errD;rw [hf];rfl
      have hi : -9223372036854775808≤intD (s1,s2)∧intD (s1,s2)≤9223372036854775807:=by
       unfold intD
       rw [hf]
       unfold fitsD at hf
       rw [Bool.and_eq_true,decide_eq_true_eq,decide_eq_true_eq] at hf
       exact hf
      rw [he] at HWI
      have HI:=Lib.hid (int_calls _ hi.1 hi.2)
      clear he hi hf HIN HNW
      generalize intD (s1,s2)=z at *
      show GivesAt _ _ _ _ (.tuple #[.string (cellInt z),.int .i64 0])
      generalize cellInt z=c at *
      unfold GivesAt
      go_enter Try.func32,Try.ntmps32
      go_wp2_with fail
      refine Calls.mono (HWI.out _) ?_
      rintro e w2 ⟨rfl,hq⟩
      have HB2:=Lib.hid (HB.out.trans (hq.mono HB.out.size))
      clear a0 a1 a2 a3 hq
      go_wp2_with fail
      refine Calls.mono (HI.out _) ?_
      rintro e w3 ⟨rfl,hq⟩
      have HB3:=Lib.hid (HB2.out.trans (hq.mono HB2.out.size))
      clear hq
      go_wp2
      go_ret2
      exact ⟨rfl,HB3.out⟩
     | false =>
      have he:errD (s1,s2)=7:=by unfold errD;rw [hf];rfl
      rw [he] at HWI
      clear he hf HIN HNW
      show GivesAt _ _ _ _ (.tuple #[.string ⟨#[]⟩,.int .i64 7])
      generalize intD (s1,s2)=z at *
      unfold GivesAt
      go_enter Try.func32,Try.ntmps32
      go_wp2_with fail
      refine Calls.mono (HWI.out _) ?_
      rintro e w2 ⟨rfl,hq⟩
      have HB2:=Lib.hid (HB.out.trans (hq.mono HB.out.size))
      clear a0 a1 a2 a3 hq
      go_wp2
      go_ret2
      exact ⟨rfl,HB2.out⟩
set_option maxHeartbeats 1000000 in
theorem clone_row_own {w:World}{v:Value}{l:List ByteArray}(h:StrsIn w v l)(hl:l.length≤1000000):Calls Try.prog 31 #[v] w fun e w'=>∃ v,e=.returned v∧Own w' w.heap.size 1 v l.length (l.map Value.string)∧Below w.heap.size w w':=by
 obtain ⟨i0,hi,hz0,hz1,hz2⟩:=info_parts Try.infoWS9
 obtain ⟨hb,hB⟩:=start w
 obtain ⟨A,c,rfl,hat⟩:=one_at h
 have H:=Lib.hid h
 cases A with
 | none =>
  have h0:l=[]:=by
   cases l with
   | nil=>rfl
   | cons x l=>obtain ⟨b,off,e,_⟩:=hat 0 (by simp);exact absurd e (by simp)
  subst h0
  clear hat h
  have q22:∀ (w:World) (a:Option Addr) (n c n' c':Nat),(binOp .eql 22 (.slice a n c) (.slice none n' c')).run Try.prog w=.ok (.bool a.isNone) w:=fun w a n c n' c'=>Lib.run_eql_slice_nil w _ _ a n c n' c' Try.underlying22
  go_enter Try.func31,Try.ntmps31
  go_wp2
  go_ret
  exact ⟨_,rfl,Own.nil_ _ _ _,hb⟩
 | some ad =>
  clear hat h
  have q22:∀ (w:World) (a:Option Addr) (n c n' c':Nat),(binOp .eql 22 (.slice a n c) (.slice none n' c')).run Try.prog w=.ok (.bool a.isNone) w:=fun w a n c n' c'=>Lib.run_eql_slice_nil w _ _ a n c n' c' Try.underlying22
  go_enter Try.func31,Try.ntmps31
  go_wp2_with (at_builtin;refine wpList_append_src rfl (.tmp 5) (.tmp 6) 22 rfl 9 i0 (.string ⟨#[]⟩) 1 16 Try.underlying22 hi hz0 hz1 hz2 rfl (by decide) (B:=w.heap.size) _ 0 [] rfl (own_empty 1 (Nat.le_refl _) (by simp)) _ l.length (l.map Value.string) rfl (SliceOf.alloc H.out _) (one_texts _) (by unfold maxLen;omega) (by omega) (by simp) ?_)
  intro v7 w7 hO7 hg7 _
  have hb7:=boxed_below hg7
  have hO:Own w7 w.heap.size 1 v7 l.length (l.map Value.string):=by simpa using hO7
  clear hO7 hg7 hb hB
  obtain ⟨A9,p9,rfl⟩:=hO.len
  have HO:=Lib.hid hO
  clear hO
  go_wp2
  go_ret
  exact ⟨_,rfl,HO.out,hb7⟩
def RowEndG (w:World)(o:Option (List ByteArray))(e:Ending)(w':World):Prop:=match o with
 | some r=>(∃ v,e=.returned (.tuple #[v,.int .i64 0])∧StrsIn w' v r∧Fresh w.heap.size v)∧Below w.heap.size w w'
 | none=>e=.returned (.tuple #[.slice none 0 0,.int .i64 7])∧Below w.heap.size w w'
theorem vals_nil (n:Int)(ps:List PartP):valsG n ps []=some []:=by cases ps <;> rfl
theorem vals_end (n:Int)(ps:List PartP)(gs:List (Int×Int))(h:ps=[]∨gs=[]):valsG n ps gs=some []:=by
 rcases h with rfl|rfl
 ·cases gs <;> rfl
 ·exact vals_nil n ps
theorem vals_next (n:Int)(ps:List PartP)(gs:List (Int×Int))(k:Nat)(h1:k < ps.length)(h2:k < gs.length):valsG n (ps.drop k) (gs.drop k)=match valG n ps[k] gs[k].1 with
  | none=>none
  | some c=>(valsG n (ps.drop (k+1)) (gs.drop (k+1))).map (c::·):=by
 rw [List.drop_eq_getElem_cons h1,List.drop_eq_getElem_cons h2];rfl
theorem strs_one_cell (s:ByteArray):∀ u∈[Value.string s],u.oneCell'=true:=fun u hu=>by rw [List.mem_singleton.1 hu];rfl
set_option maxHeartbeats 4000000 in
set_option maxRecDepth 100000 in
theorem growg_calls {w:World}{gv av:Value}{G:GroupP}{gs:List (Int×Int)}(hg:GroupIn (fun _=>True) w gv G)(ha:OnIn w av gs)(hn0 : -9223372036854775808≤G.n)(hn1:G.n≤9223372036854775807)(hkl:G.key.length≤1000000)(hgs:gs.length≤1000000) :
  Calls Try.prog 19 #[gv,av] w (RowEndG w (rowG gs G)):=by
 obtain ⟨i0,hi,hz0,hz1,hz2⟩:=info_parts Try.infoWS9
 obtain ⟨Ak,pk,Ap,pp,rfl,hkey,_,hparts⟩:=group_in_open hg
 obtain ⟨ptv,Ap',pp',hpe,e1,_,_,hpat⟩:=hparts.at_
 obtain ⟨rfl,rfl⟩:Ap'=Ap∧pp'=pp:=by injection e1 with a _ b;exact ⟨a.symm,b.symm⟩
 obtain ⟨Aa,ca,rfl,_,haat⟩:=on_at ha
 have hq0:=Below.alloc (.refl w.heap.size w) (Nat.le_refl _) (.cells #[.slice Ak G.key.length pk,.int .i64 G.n,.slice Ap' G.parts.length pp'] 30)
 have BX0:=Lib.hid (box_cell w 30 #[.slice Ak G.key.length pk,.int .i64 G.n,.slice Ap' G.parts.length pp'] 0 _ rfl)
 have BX1:=Lib.hid (box_cell w 30 #[.slice Ak G.key.length pk,.int .i64 G.n,.slice Ap' G.parts.length pp'] 1 _ rfl)
 have BX2:=Lib.hid (box_cell w 30 #[.slice Ak G.key.length pk,.int .i64 G.n,.slice Ap' G.parts.length pp'] 2 _ rfl)
 have HCL:=Lib.hid (clone_row_own (StrsIn.kept hkey hq0) hkl)
 have HB0:=Lib.hid hq0
 have HPAT:=Lib.hid hpat
 have HAAT:=Lib.hid haat
 have HN0:=Lib.hid hn0
 have HN1:=Lib.hid hn1
 have hpl:=hparts.len
 unfold maxLen at hpl
 have hal:=ha.len
 unfold maxLen at hal
 have HRE:Hid (rowG gs G=(valsG G.n G.parts gs).map (G.key++·)):=Lib.hid rfl
 clear hg ha hq0 hpat haat hkey hparts e1
 go_enter Try.func19,Try.ntmps19
 have b0:=BX0.out
 have b2:=BX2.out
 go_wp2_with fail
 generalize World.alloc w _=w1 at *
 refine Calls.mono HCL.out ?_
 rintro e w2 ⟨v2,rfl,hO2,hb2⟩
 have HB2:=Lib.hid hb2
 have HO2:=Lib.hid hO2
 obtain ⟨A2,p2,rfl⟩:=hO2.len
 clear b0 b2 hO2 hb2 HCL
 have b2:=cell_kept BX2.out HB2.out
 obtain ⟨M,hM⟩:∃ M:Nat,M=min gs.length G.parts.length:=⟨_,rfl⟩
 have HM:Hid (M≤gs.length∧M≤G.parts.length∧(M=gs.length∨M=G.parts.length)):=by
  show _∧_
  omega
 have hmi:min (gs.length:Int) (G.parts.length:Int)=(M:Int):=by omega
 go_wp2_with fail
 go_loopw [6,19] (fun x i wr=>∃ (k:Nat) (vs:List ByteArray),k≤M∧i=.int .i64 k∧vs.length=k∧Hid (valsG G.n G.parts gs=(valsG G.n (G.parts.drop k) (gs.drop k)).map (vs++·))∧Hid (Own wr w1.heap.size 1 x (G.key.length+k) ((G.key++vs).map Value.string))∧Hid (Below w1.heap.size w1 wr)) (fun _ i _=>M-(intOf i).toNat)
 case atStart=>exact ⟨0,[],Nat.zero_le _,rfl,rfl,Lib.hid (by simp),by simpa using HO2,HB2⟩
 case round =>
  obtain ⟨k,vs,hk,rfl,hvl,HV,hO,HBR⟩:=hrel
  obtain ⟨A9,p9,rfl⟩:=hO.len
  have HSZR:=Lib.hid HBR.out.size
  by_cases hlt:k < M
  ·have hk1:k < gs.length:=Nat.lt_of_lt_of_le hlt HM.out.1
   have hk2:k < G.parts.length:=Nat.lt_of_lt_of_le hlt HM.out.2.1
   have hbw:=HB0.out.trans (HBR.out.mono HB0.out.size)
   obtain ⟨bp,op,rfl,hpl,hpc⟩:=HPAT.out k hk2
   obtain ⟨⟨cv,q0⟩,_,_,hq0,hr0,hc0⟩:=hpc k hk2
   change q0=_ at hq0
   change timesK.In _ w cv q0.cells at hr0
   obtain ⟨ba,oa,rfl,hal2,hac⟩:=HAAT.out k hk1
   obtain ⟨a0,_⟩:=hac k hk1
   have HA0:=Lib.hid ((hbw.cell (p:=⟨ba,oa+k*2,none⟩) hal2).trans a0)
   have x0:=(hbw.cell (p:=⟨bp,op+k*4+0,none⟩) hpl).trans (hc0 0 _ rfl)
   rw [Nat.add_zero] at x0
   have HX0:=Lib.hid x0
   have HX1:=Lib.hid ((hbw.cell (p:=⟨bp,op+k*4+1,none⟩) hpl).trans (hc0 1 _ rfl))
   have HX2:=Lib.hid ((hbw.cell (p:=⟨bp,op+k*4+2,none⟩) hpl).trans (hc0 2 _ rfl))
   have HX3:=Lib.hid ((hbw.cell (p:=⟨bp,op+k*4+3,none⟩) hpl).trans (hc0 3 _ rfl))
   have HNX:=Lib.hid (vals_next G.n G.parts gs k hk2 hk1)
   rw [←hq0] at HNX
   have HR0:=Lib.hid (hr0.kept hbw)
   have HLK:Hid (k < M):=hlt
   have i1:(k:Int) < (M:Int):=by omega
   have i2:(k:Int) < (gs.length:Int):=by omega
   have i3:(k:Int) < (G.parts.length:Int):=by omega
   clear hac hpc hc0 hr0 hq0 a0 x0 hbw hlt
   generalize gs[k]=a at *
   obtain ⟨way,col⟩:=a
   dsimp only at *
   have BX0:=Lib.hid (cell_kept BX0.out HBR.out)
   have BX1:=Lib.hid (cell_kept BX1.out HBR.out)
   have BX2:=Lib.hid (cell_kept BX2.out HBR.out)
   have HVL:Hid (∀ W,Below wr.heap.size wr W→GivesAt Try.prog 32 #[.int .i64 G.n,partA cv q0,.int .i64 way] W (.tuple #[.string (gotG (valG G.n q0 way)),.int .i64 (errG (valG G.n q0 way))])):=fun W hW=>gvalue_calls G.n way ⟨cv,rfl,HR0.out.kept hW⟩ HN0.out HN1.out
   have HOR:=Lib.hid hO
   unfold partA at HVL
   generalize toW q0.s=s0 at *
   obtain ⟨s1,s2⟩:=s0
   obtain ⟨o,ho⟩:∃ o,valG G.n q0 way=o:=⟨_,rfl⟩
   rw [ho] at HVL HNX
   clear ho hO b2
   go_wp2_with fail
   refine wp_region_calm (offC wr) (fun _=>false) (fun _=>false) anyE false (by kernel_rfl) (by kernel_rfl) (by kernel_rfl) (by kernel_rfl) (by intro m hm;revert hm;simp;try omega) (offC_stable _) (offC_start _) ?_
   refine calm_fixA rfl rfl ?_
   apply Exists.intro
   refine ⟨fun a wz hc hk hf K hK=>?_,?_⟩
   ·have h2:=hk 2 (by kernel_rfl)
    clear hk hf hc
    go_simp
    exact hK _ _ (Below.refl _ _) rfl
   refine calm_fixA rfl rfl ?_
   apply Exists.intro
   refine ⟨fun a wz hc hk hf K hK=>?_,?_⟩
   ·have hb:Below wr.heap.size wr wz:=hc rfl
    have h23:=held_isV hf 0 rfl (by kernel_rfl)
    clear hk hf hc
    have b0:=cell_kept BX0.out hb
    have b1:=cell_kept BX1.out hb
    have b2:=cell_kept BX2.out hb
    have x0:=cell_kept HX0.out hb
    have x1:=cell_kept HX1.out hb
    have x2:=cell_kept HX2.out hb
    have x3:=cell_kept HX3.out hb
    have a0:=cell_kept HA0.out hb
    go_simp
    exact hK _ _ (Below.refl _ _) rfl
   refine calm_fixA rfl rfl ?_
   apply Exists.intro
   refine ⟨fun a wz hc hk hf K hK=>?_,?_⟩
   ·have h2:=hk 2 (by kernel_rfl)
    clear hk hf hc
    go_simp
    exact hK _ _ (Below.refl _ _) rfl
   refine calm_fixA rfl rfl ?_
   apply Exists.intro
   refine ⟨fun a wz hc hk hf K hK=>?_,?_⟩
   ·have hb:Below wr.heap.size wr wz:=hc rfl
    have h25:=held_isV hf 0 rfl (by kernel_rfl)
    clear hk hf hc
    have b0:=cell_kept BX0.out hb
    have b1:=cell_kept BX1.out hb
    have b2:=cell_kept BX2.out hb
    have x0:=cell_kept HX0.out hb
    have x1:=cell_kept HX1.out hb
    have x2:=cell_kept HX2.out hb
    have x3:=cell_kept HX3.out hb
    have a0:=cell_kept HA0.out hb
    go_simp
    exact hK _ _ (Below.refl _ _) rfl
   refine calm_fixA rfl rfl ?_
   apply Exists.intro
   refine ⟨fun a wz hc hk hf K hK=>?_,?_⟩
   ·have h7:=hk 7 (by kernel_rfl)
    clear hk hf hc
    go_simp
    exact hK _ _ (Below.refl _ _) rfl
   refine calm_fixA rfl rfl ?_
   apply Exists.intro
   refine ⟨fun a wz hc hk hf K hK=>?_,?_⟩
   ·have h26:=held_isV hf 1 rfl (by kernel_rfl)
    have h27:=held_isV hf 0 rfl (by kernel_rfl)
    clear hk hf hc
    go_simp
    exact hK _ _ (Below.refl _ _) rfl
   refine calm_fixA rfl rfl ?_
   apply Exists.intro
   refine ⟨fun a wz hc hk hf K hK=>?_,?_⟩
   ·have hb:Below wr.heap.size wr wz:=hc rfl
    have h28:=held_isV hf 0 rfl (by kernel_rfl)
    clear hk hf hc
    have b0:=cell_kept BX0.out hb
    have b1:=cell_kept BX1.out hb
    have b2:=cell_kept BX2.out hb
    have x0:=cell_kept HX0.out hb
    have x1:=cell_kept HX1.out hb
    have x2:=cell_kept HX2.out hb
    have x3:=cell_kept HX3.out hb
    have a0:=cell_kept HA0.out hb
    go_simp
    exact hK _ _ (Below.refl _ _) rfl
   refine calm_fixA rfl rfl ?_
   apply Exists.intro
   refine ⟨fun a wz hc hk hf K hK=>?_,?_⟩
   ·have h1:=hk 1 (by kernel_rfl)
    clear hk hf hc
    go_simp
    exact hK _ _ (Below.refl _ _) rfl
   refine calm_fixA rfl rfl ?_
   apply Exists.intro
   refine ⟨fun a wz hc hk hf K hK=>?_,?_⟩
   ·have h7:=hk 7 (by kernel_rfl)
    clear hk hf hc
    go_simp
    exact hK _ _ (Below.refl _ _) rfl
   refine calm_fixA rfl rfl ?_
   apply Exists.intro
   refine ⟨fun a wz hc hk hf K hK=>?_,?_⟩
   ·have h30:=held_isV hf 1 rfl (by kernel_rfl)
    have h31:=held_isV hf 0 rfl (by kernel_rfl)
    clear hk hf hc
    go_simp
    exact hK _ _ (Below.refl _ _) rfl
   refine calm_fixA rfl rfl ?_
   apply Exists.intro
   refine ⟨fun a wz hc hk hf K hK=>?_,?_⟩
   ·have h32:=held_isV hf 0 rfl (by kernel_rfl)
    clear hk hf hc
    go_simp
    exact hK _ _ (Below.refl _ _) rfl
   refine calm_fixA rfl rfl ?_
   apply Exists.intro
   refine ⟨fun a wz hc hk hf K hK=>?_,?_⟩
   ·have hb:Below wr.heap.size wr wz:=hc rfl
    have h33:=held_isV hf 0 rfl (by kernel_rfl)
    clear hk hf hc
    have b0:=cell_kept BX0.out hb
    have b1:=cell_kept BX1.out hb
    have b2:=cell_kept BX2.out hb
    have x0:=cell_kept HX0.out hb
    have x1:=cell_kept HX1.out hb
    have x2:=cell_kept HX2.out hb
    have x3:=cell_kept HX3.out hb
    have a0:=cell_kept HA0.out hb
    go_simp
    exact hK _ _ (Below.refl _ _) rfl
   refine calm_fixA rfl rfl ?_
   apply Exists.intro
   refine ⟨fun a wz hc hk hf K hK=>?_,?_⟩
   ·have hb:Below wr.heap.size wr wz:=hc rfl
    have h24:=held_isV hf 10 rfl (by kernel_rfl)
    have h29:=held_isV hf 5 rfl (by kernel_rfl)
    have h34:=held_isV hf 0 rfl (by kernel_rfl)
    clear hk hf hc
    go_simp
    refine Calls.mono (HVL.out wz hb) ?_
    rintro e w1 ⟨rfl,hq⟩
    exact hK _ _ hq rfl
   refine calm_fixA rfl rfl ?_
   apply Exists.intro
   refine ⟨fun a wz hc hk hf K hK=>?_,?_⟩
   ·have h35:=held_isV hf 0 rfl (by kernel_rfl)
    clear hk hf hc
    go_simp
    exact hK _ _ (Below.refl _ _) rfl
   refine calm_fixA rfl rfl ?_
   apply Exists.intro
   refine ⟨fun a wz hc hk hf K hK=>?_,?_⟩
   ·have h22:=held_isV hf 0 rfl (by kernel_rfl)
    clear hk hf hc
    go_simp
    exact hK _ _ (Below.refl _ _) rfl
   refine calm_fixA rfl rfl ?_
   apply Exists.intro
   refine ⟨fun a wz hc hk hf K hK=>?_,?_⟩
   ·have h22:=held_isV hf 1 rfl (by kernel_rfl)
    clear hk hf hc
    go_simp
    exact hK _ _ (Below.refl _ _) rfl
   refine calm_fixA rfl rfl ?_
   apply Exists.intro
   refine ⟨fun a wz hc hk hf K hK=>?_,?_⟩
   ·have h36:=held_isV hf 1 rfl (by kernel_rfl)
    clear hk hf hc
    go_simp
    exact hK _ _ (Below.refl _ _) rfl
   refine calm_fixA rfl rfl ?_
   apply Exists.intro
   refine ⟨fun a wz hc hk hf K hK=>?_,?_⟩
   ·have h37:=held_isV hf 1 rfl (by kernel_rfl)
    clear hk hf hc
    go_simp
    exact hK _ _ (Below.refl _ _) rfl
   refine calm_nil ?_
   refine ⟨keeps_none,?_⟩
   intro w4 hc
   simp only [lexL,calmEnd]
   rintro _ rfl _ rfl _ rfl _ rfl _ rfl _ rfl _ rfl _ rfl _ rfl _ rfl _ rfl _ rfl _ rfl _ rfl _ rfl _ rfl _ rfl _ rfl
   have hb4:Below wr.heap.size wr w4:=hc rfl
   have HO4:=Lib.hid (HOR.out.later hb4)
   have HB4:=Lib.hid (HBR.out.trans (hb4.mono HBR.out.size))
   have HQ4:=Lib.hid hb4.size
   clear hc hb4
   simp only [Act.put,List.setIfInBounds_toArray,List.set_cons_zero,List.set_cons_succ]
   cases o with
   | none =>
    have HN:Hid (rowG gs G=none):=by
     show _=_
     rw [HRE.out,HV.out,HNX.out];rfl
    have HE:Hid (errG none=7):=Lib.hid rfl
    rw [HE.out]
    go_wp2
    go_ret2
    rw [HN.out]
    exact ⟨rfl,HB0.out.trans (HB4.out.mono HB0.out.size)⟩
   | some c =>
    have HVN:Hid (valsG G.n G.parts gs=(valsG G.n (G.parts.drop (k+1)) (gs.drop (k+1))).map ((vs++[c])++·)):=by
     show _=_
     rw [HV.out,HNX.out]
     show ((valsG G.n (G.parts.drop (k+1)) (gs.drop (k+1))).map (c::·)).map (vs++·)=_
     rw [Option.map_map]
     congr 1
     funext x
     simp
    have HE:Hid (errG (some c)=0∧gotG (some c)=c):=⟨rfl,rfl⟩
    rw [HE.out.1,HE.out.2]
    have HLIT:Hid (SliceOf (w4.alloc (.cells #[.string c] 9)) 1 (.slice (some ⟨w4.heap.size,0,none⟩) 1 1) 1 [.string c]):=lit_ones Value.string w4 9 [c] (by simp)
    have hq4:=Below.alloc (.refl w4.heap.size w4) (Nat.le_refl _) (.cells #[.string c] 9)
    have HO5:=Lib.hid (HO4.out.later hq4)
    have HB5:=Lib.hid (HB4.out.trans (hq4.mono HB4.out.size))
    have HS5:=Lib.hid (Nat.le_trans HSZR.out (Nat.le_trans HQ4.out hq4.size))
    have HKL:=Lib.hid hkl
    have H1:=Lib.hid (strs_one_cell c)
    have hkl2:=HKL.out
    clear hq4
    go_wp2_with (at_builtin;refine wpList_append_src rfl (.tmp 41) (.tmp 43) 22 rfl 9 i0 (.string ⟨#[]⟩) 1 16 Try.underlying22 hi hz0 hz1 hz2 rfl (by decide) (B:=w1.heap.size) (.slice A9 (G.key.length+k) p9) (G.key.length+k) ((G.key++vs).map Value.string) rfl HO5.out (.slice (some ⟨w4.heap.size,0,none⟩) 1 1) 1 [.string c] rfl HLIT.out H1.out (by unfold maxLen;omega) (by omega) HS5.out ?_)
    intro v7 w7 hO7 hg7 ha7
    have HO7:Hid (Own w7 w1.heap.size 1 v7 (G.key.length+(k+1)) ((G.key++(vs++[c])).map Value.string)):=by
     show Own _ _ _ _ _ _
     rw [←Nat.add_assoc]
     simpa using hO7
    have HB7:Hid (Below w1.heap.size w1 w7):=Lib.hid (HB5.out.grown hg7 HS5.out fun j hj=>(HO5.out.lt j hj).1)
    clear hO7 hg7 ha7
    go_wp2
    go_roundw
    case rel=>exact ⟨k+1,vs++[c],HLK.out,by go_num,by rw [List.length_append,hvl];rfl,HVN,HO7.out,HB7⟩
    case measure=>have:=HLK.out;simp [intOf];omega
  ·obtain rfl:k=M:=by omega
   have HN:Hid (rowG gs G=some (G.key++vs)):=by
    show _=_
    rw [HRE.out,HV.out,vals_end _ _ _ (by
     rcases HM.out.2.2 with h|h
     ·exact .inr (List.drop_of_length_le (by omega))
     ·exact .inl (List.drop_of_length_le (by omega)))]
    simp
   have HS:Hid (StrsIn wr (.slice A9 (G.key.length+k) p9) (G.key++vs)):=strs_of hO (by rw [List.length_append,hvl])
   have HF:Hid (Fresh w.heap.size (.slice A9 (G.key.length+k) p9)):=fun k hk=>Nat.le_trans HB0.out.size (hO.lt k hk).1
   have HBZ:=Lib.hid (HB0.out.trans (HBR.out.mono HB0.out.size))
   clear hO
   go_wp2
   go_ret2
   rw [HN.out]
   exact ⟨⟨_,rfl,HS.out,HF.out⟩,HBZ.out⟩
def toldP (gs:List (Int×Int))(n:Int):List GroupP→Option (List Tm)
 | []=>some []
 | g::l=>match rowG gs g with
  | none=>none
  | some r=>(toldP gs n l).map ((r,n)::·)
def ToldEnd (w:World)(o:Option (List Tm))(e:Ending)(w':World):Prop:=match o with
 | some L=>(∃ v,e=.returned (.tuple #[v,.int .i64 0])∧TimesIn w' v L)∧Below w.heap.size w w'
 | none=>e=.returned (.tuple #[.slice none 0 0,.int .i64 7])∧Below w.heap.size w w'
theorem told_next (gs:List (Int×Int))(n:Int)(l:List GroupP)(k:Nat)(h:k < l.length):toldP gs n (l.drop k)=match rowG gs l[k] with
  | none=>none
  | some r=>(toldP gs n (l.drop (k+1))).map ((r,n)::·):=by
 rw [List.drop_eq_getElem_cons h];rfl
theorem told_length {gs:List (Int×Int)}{n:Int}:∀ {l:List GroupP}{L:List Tm},toldP gs n l=some L→L.length=l.length
 | [],L,h=>by cases h;rfl
 | g::l,L,h=>by
  change (match rowG gs g with|none=>none|some r=>(toldP gs n l).map ((r,n)::·))=some L at h
  cases hr:rowG gs g with
  | none=>rw [hr] at h;cases h
  | some r =>
   rw [hr] at h
   cases ht:toldP gs n l with
   | none=>rw [ht] at h;cases h
   | some M =>
    rw [ht] at h
    cases h
    rw [List.length_cons,List.length_cons,told_length ht]
def TellG (g:GroupP):Prop:=-9223372036854775808≤g.n∧g.n≤9223372036854775807∧g.key.length≤1000000
set_option maxHeartbeats 4000000 in
set_option maxRecDepth 100000 in
theorem gtold_calls {w:World}{lv av:Value}{l:List GroupP}{gs:List (Int×Int)}(n:Int)(h:groupK.In (fun _=>True) w lv l)(ha:OnIn w av gs)(ht:∀ g∈l,TellG g)(hl:l.length≤1000000)(hgs:gs.length≤1000000) :
  Calls Try.prog 28 #[lv,av,.int .i64 n] w (ToldEnd w (toldP gs n l)):=by
 obtain ⟨i0,hi,hz0,hz1,hz2⟩:=info_parts Try.infoM33
 obtain ⟨gtv,A,cap,hge,rfl,_,_,hat⟩:=h.at_
 obtain ⟨Aa,ca,rfl⟩:=ha.slice
 have HAT:=Lib.hid hat
 have HA:=Lib.hid ha
 have HT:=Lib.hid ht
 have HLL:=Lib.hid hl
 clear h hat ha ht
 go_enter Try.func28,Try.ntmps28
 go_wp2
 go_loopw [8,15] (fun x i wr=>∃ (k:Nat) (L:List Tm),k≤l.length∧i=.int .i64 k∧L.length=k∧Hid (toldP gs n l=(toldP gs n (l.drop k)).map (L++·))∧Hid (GrowN w L x wr)) (fun _ i _=>l.length-(intOf i).toNat)
 case atStart=>exact ⟨0,[],Nat.zero_le _,rfl,rfl,Lib.hid (by simp),Lib.hid (GrowN.nil_ w)⟩
 case round =>
  obtain ⟨k,L,hk,rfl,hLl,HV,HG⟩:=hrel
  have HBR:=Lib.hid HG.out.below
  have HGLT0:=Lib.hid HG.out.lt
  obtain ⟨A9,p9,rfl⟩:=HG.out.slice
  have hll:=HLL.out
  by_cases hlt:k < l.length
  ·obtain ⟨b,off,rfl,hbl,hc⟩:=HAT.out k hlt
   obtain ⟨⟨kv,pv,g0⟩,_,_,hg0,hr0,hc0⟩:=hc k hlt
   change g0=_ at hg0
   obtain ⟨Ak,pk,Ap,pp,rfl,rfl,hk0,_,hp0⟩:=group_open hr0
   have x0:=(HBR.out.cell (p:=⟨b,off+k*3+0,none⟩) hbl).trans (hc0 0 _ rfl)
   have x1:=(HBR.out.cell (p:=⟨b,off+k*3+1,none⟩) hbl).trans (hc0 1 _ rfl)
   have x2:=(HBR.out.cell (p:=⟨b,off+k*3+2,none⟩) hbl).trans (hc0 2 _ rfl)
   rw [Nat.add_zero] at x0
   dsimp only at x0 x1 x2
   have HNX:=Lib.hid (told_next gs n l k hlt)
   have HTK:=Lib.hid (HT.out _ (List.getElem_mem hlt))
   rw [←hg0] at HNX HTK
   have i1:(k:Int) < (l.length:Int):=by omega
   have HLK:Hid (k < l.length):=hlt
   have hq0:=Below.alloc (.refl wr.heap.size wr) (Nat.le_refl _) (.cells #[.slice Ak g0.key.length pk,.int .i64 g0.n,.slice Ap g0.parts.length pp] 30)
   have HQ0:=Lib.hid hq0
   have z0:=box_cell wr 30 #[.slice Ak g0.key.length pk,.int .i64 g0.n,.slice Ap g0.parts.length pp] 0 _ rfl
   have z1:=box_cell wr 30 #[.slice Ak g0.key.length pk,.int .i64 g0.n,.slice Ap g0.parts.length pp] 1 _ rfl
   have z2:=box_cell wr 30 #[.slice Ak g0.key.length pk,.int .i64 g0.n,.slice Ap g0.parts.length pp] 2 _ rfl
   have hbw:=HBR.out.trans (hq0.mono HBR.out.size)
   have HRW:=Lib.hid (growg_calls (gv:=groupA (.slice Ak g0.key.length pk) (.slice Ap g0.parts.length pp) g0.n) ⟨_,_,rfl,groupK.kept (t:=(.slice Ak g0.key.length pk,.slice Ap g0.parts.length pp,g0)) hr0 hbw⟩ (HA.out.kept hbw) HTK.out.1 HTK.out.2.1 HTK.out.2.2 hgs)
   unfold groupA at HRW
   clear hc hr0 hc0 hg0 hk0 hp0 hq0 hbw
   go_wp2_with fail
   refine Calls.mono HRW.out ?_
   intro e w3 hend
   obtain ⟨o,ho⟩:∃ o,rowG gs g0=o:=⟨_,rfl⟩
   rw [ho] at hend HNX
   clear HRW ho x0 x1 x2 z0 z1 z2 hlt
   cases o with
   | none =>
    obtain ⟨rfl,hq⟩:=hend
    have HN:Hid (toldP gs n l=none):=by
     show _=_
     rw [HV.out,HNX.out];rfl
    have HBZ:=Lib.hid ((HBR.out.trans (HQ0.out.mono HBR.out.size)).trans (hq.mono (HBR.out.trans (HQ0.out.mono HBR.out.size)).size))
    clear hq
    go_wp2
    go_ret2
    rw [HN.out]
    exact ⟨rfl,HBZ.out⟩
   | some r =>
    obtain ⟨⟨rv,rfl,hs3,hf3⟩,hq⟩:=hend
    obtain ⟨A3,p3,rfl,_⟩:=one_at hs3
    have hq3:=HQ0.out.trans (hq.mono HQ0.out.size)
    have HG3:=Lib.hid (GrowN.kept _ _ _ hq3 HG.out)
    have HVN:Hid (toldP gs n l=(toldP gs n (l.drop (k+1))).map ((L++[(r,n)])++·)):=by
     show _=_
     rw [HV.out,HNX.out]
     show ((toldP gs n (l.drop (k+1))).map ((r,n)::·)).map (L++·)=_
     rw [Option.map_map]
     congr 1
     funext x
     simp
    obtain ⟨tv8,hT8,hF8,hB8⟩:=HG3.out
    have hO8:=hT8.own
    rw [hLl] at hO8
    have hq4:=Below.alloc (.refl w3.heap.size w3) (Nat.le_refl _) (.cells #[.slice A3 r.length p3,.int .i64 n] 33)
    have HO8:=Lib.hid (hO8.later hq4)
    have HT8:=Lib.hid (hT8.later hq4)
    have HF8:=Lib.hid hF8
    have HB4:=Lib.hid (hB8.trans (hq4.mono hB8.size))
    have HLIT:=Lib.hid (lit_tm w3 33 (.slice A3 r.length p3) n)
    have H1:=Lib.hid (one_tm hs3 n)
    have HS3:=Lib.hid (StrsIn.kept hs3 hq4)
    have HF3:=Lib.hid (hf3.mono HQ0.out.size)
    rw [hLl]
    clear hs3 hf3 hq hq3 hT8 hF8 hB8 hO8 hq4
    go_wp2_with (at_builtin;refine wpList_append_src rfl (.tmp 28) (.tmp 32) 24 rfl 33 i0 (.agg #[.slice none 0 0,.int .i64 0]) 2 32 Try.underlying24 hi hz0 hz1 hz2 rfl (by decide) (B:=w.heap.size) (.slice A9 k p9) k (timesV tv8) rfl HO8.out (.slice (some ⟨w3.heap.size,0,none⟩) 1 1) 1 [.slice A3 r.length p3,.int .i64 n] rfl HLIT.out H1.out (by unfold maxLen;omega) (by omega) HB4.out.size ?_)
    intro v7 w7 hO7 hg7 ha7
    have HG7:Hid (GrowN w (L++[(r,n)]) v7 w7):=by
     have hx:=HT8.out
     rw [hLl] at hx
     exact GrowN.add hx HF8.out HB4.out HS3.out (HF3.out.mono HBR.out.size) (RowOff.of_fresh HF3.out fun k hk=>by have:=HGLT0.out;rw [hLl] at this;exact this k hk) hg7 (fun k hk=>by have:=ha7 k hk;simpa using this) hO7 (by rw [hLl])
    clear hO7 hg7 ha7
    obtain ⟨A5,p5,e5⟩:=HG7.out.slice
    go_wp2
    go_roundw
    case rel=>exact ⟨k+1,L++[(r,n)],HLK.out,by go_num,by rw [List.length_append,hLl];rfl,HVN,HG7⟩
    case measure=>have:=HLK.out;simp [intOf];omega
  ·obtain rfl:k=l.length:=by omega
   have HN:Hid (toldP gs n l=some L):=by
    show _=_
    rw [HV.out,List.drop_length]
    simp [toldP]
   have HTT:=Lib.hid HG.out.new.times
   go_wp2
   go_ret2
   rw [HN.out]
   exact ⟨⟨.slice A9 L.length p9,rfl,HTT.out⟩,HBR.out⟩
theorem hit_mem {l:List GroupP}{key:List ByteArray}{g:GroupP}(h:hitG l key=some g):g∈l∧g.key=key:=by
 unfold hitG at h
 cases hk:l[lessN l key]? with
 | none=>rw [hk] at h;cases h
 | some x =>
  rw [hk] at h
  dsimp only at h
  split at h
  ·cases h
   exact ⟨List.mem_of_getElem? hk,by assumption⟩
  ·cases h
theorem rest_mem {l:List GroupP}{key:List ByteArray}{g:GroupP}(h:g∈restG l key):g∈l:=List.mem_of_mem_drop h
theorem ahead_mem:∀ (bs:List BP)(l:List GroupP),∀ g∈aheadG bs l,g∈l
 | [],_,g,h=>absurd h (by simp [aheadG])
 | b::bs,l,g,h=>by
  rcases List.mem_append.1 (show g∈(hitG l b.1).toList++aheadG bs (restG l b.1) from h) with h|h
  ·cases hh:hitG l b.1 with
   | none=>rw [hh] at h;exact absurd h (by simp)
   | some x =>
    rw [hh] at h
    rw [List.mem_singleton.1 h]
    exact (hit_mem hh).1
  ·exact rest_mem (ahead_mem bs _ g h)
theorem ahead_length:∀ (bs:List BP)(l:List GroupP),(aheadG bs l).length≤bs.length
 | [],_=>Nat.le_refl _
 | b::bs,l=>by
  have:=ahead_length bs (restG l b.1)
  show ((hitG l b.1).toList++aheadG bs (restG l b.1)).length≤bs.length+1
  rw [List.length_append]
  have h2:(hitG l b.1).toList.length≤1:=by cases hitG l b.1 <;> simp
  omega
theorem behind_mem (gs:List (Int×Int)):∀ (bs:List BP)(l:List GroupP),∀ g∈behindG gs bs l,∃ b∈bs,∃ G,(G∈l∨G=bareG b.1)∧g=withG G gs b.2
 | [],_,g,h=>absurd h (by simp [behindG])
 | b::bs,l,g,h=>by
  rcases List.mem_append.1 (show g∈(if (newG gs l b).n=0 then [] else [newG gs l b])++behindG gs bs (restG l b.1) from h) with h|h
  ·split at h
   ·exact absurd h (by simp)
   ·rw [List.mem_singleton.1 h]
    refine ⟨b,List.mem_cons_self ..,_,?_,rfl⟩
    cases hh:hitG l b.1 with
    | none=>exact .inr rfl
    | some x=>exact .inl (hit_mem hh).1
  ·obtain ⟨c,hc,G,hG,e⟩:=behind_mem gs bs _ g h
   exact ⟨c,List.mem_cons_of_mem _ hc,G,hG.imp rest_mem id,e⟩
theorem behind_length (gs:List (Int×Int)):∀ (bs:List BP)(l:List GroupP),(behindG gs bs l).length≤bs.length
 | [],_=>Nat.le_refl _
 | b::bs,l=>by
  have:=behind_length gs bs (restG l b.1)
  show ((if (newG gs l b).n=0 then [] else [newG gs l b])++behindG gs bs (restG l b.1)).length≤bs.length+1
  rw [List.length_append]
  have h2:(if (newG gs l b).n=0 then [] else [newG gs l b]).length≤1:=by split <;> simp
  omega
theorem told_rows {gs:List (Int×Int)}{n:Int}:∀ {l:List GroupP}{L:List Tm},toldP gs n l=some L→∀ x∈L,x.2=n∧∃ g∈l,rowG gs g=some x.1
 | [],L,h=>by cases h;exact fun x hx=>absurd hx (by simp)
 | g::l,L,h=>by
  change (match rowG gs g with|none=>none|some r=>(toldP gs n l).map ((r,n)::·))=some L at h
  cases hr:rowG gs g with
  | none=>rw [hr] at h;cases h
  | some r =>
   rw [hr] at h
   cases ht:toldP gs n l with
   | none=>rw [ht] at h;cases h
   | some M =>
    rw [ht] at h
    cases h
    intro x hx
    rcases List.mem_cons.1 hx with rfl|hx
    ·exact ⟨rfl,g,List.mem_cons_self ..,hr⟩
    ·obtain ⟨h1,g2,h2,h3⟩:=told_rows ht x hx
     exact ⟨h1,g2,List.mem_cons_of_mem _ h2,h3⟩
theorem vals_le (n:Int):∀ (ps:List PartP)(gs:List (Int×Int))(vs:List ByteArray),valsG n ps gs=some vs→vs.length≤gs.length
 | ps,[],vs,h=>by rw [vals_nil] at h;cases h;exact Nat.le_refl _
 | [],a::gs,vs,h=>by cases h;exact Nat.zero_le _
 | p::ps,a::gs,vs,h=>by
  change (match valG n p a.1 with|none=>none|some c=>(valsG n ps gs).map (c::·))=some vs at h
  cases hv:valG n p a.1 with
  | none=>rw [hv] at h;cases h
  | some c =>
   rw [hv] at h
   cases hr:valsG n ps gs with
   | none=>rw [hr] at h;cases h
   | some us =>
    rw [hr] at h
    cases h
    have:=vals_le n ps gs us hr
    simp only [List.length_cons];omega
theorem row_le {gs:List (Int×Int)}{g:GroupP}{r:List ByteArray}(h:rowG gs g=some r):r.length≤g.key.length+gs.length:=by
 unfold rowG at h
 cases hv:valsG g.n g.parts gs with
 | none=>rw [hv] at h;cases h
 | some vs =>
  rw [hv] at h
  cases h
  have:=vals_le _ _ _ _ hv
  rw [List.length_append];omega
theorem wt_const {n:Int}{l:List Tm}(h:∀ x∈l,x.2=n):wtW l=l.length*n.natAbs:=by
 induction l with
 | nil=>simp [wtW]
 | cons x l ih =>
  simp only [wtW,List.length_cons,Nat.add_mul]
  rw [ih fun y hy=>h y (List.mem_cons_of_mem _ hy),h x (List.mem_cons_self ..)]
  omega
theorem wt_sub {A:List BP}{b:BP}(h:b∈A):wtW b.2≤wtW (A.flatMap (·.2)):=by
 induction A with
 | nil=>exact absurd h (by simp)
 | cons a A ih =>
  rw [List.flatMap_cons,wtW_append]
  rcases List.mem_cons.1 h with rfl|h
  ·omega
  ·have:=ih h;omega
theorem wt_perm2 {a b:List Tm}(h:a.Perm b):wtW a=wtW b:=by
 induction h with
 | nil=>rfl
 | cons x _ ih=>simp only [wtW];rw [ih]
 | swap x y l=>simp only [wtW];omega
 | trans _ _ ih1 ih2=>rw [ih1,ih2]
theorem each_flat (by_:List Int)(l:List Tm):(eachB by_ l).flatMap (·.2)=okL by_ l:=by
 unfold eachB
 rw [List.flatMap_map]
 induction okL by_ l with
 | nil=>rfl
 | cons x t ih=>rw [List.flatMap_cons,ih];rfl
theorem ok_wt (by_:List Int)(l:List Tm):wtW (okL by_ l)≤wtW l:=by
 induction l with
 | nil=>exact Nat.le_refl _
 | cons x t ih =>
  unfold okL at *
  rw [List.filter_cons]
  split <;> simp only [wtW] <;> omega
theorem okL_lengthG (by_:List Int)(l:List Tm):(okL by_ l).length≤l.length:=List.length_filter_le ..
theorem flat_perm {A B:List BP}(h:A.Perm B):(A.flatMap (·.2)).Perm (B.flatMap (·.2)):=by
 induction h with
 | nil=>exact .refl _
 | cons x _ ih=>simp only [List.flatMap_cons];exact ih.append_left _
 | swap x y l =>
  simp only [List.flatMap_cons,←List.append_assoc]
  exact List.perm_append_comm.append_right _
 | trans _ _ h1 h2=>exact h1.trans h2
theorem stepB_keys (acc:List BP)(b x:BP)(h:x∈stepB acc b):(∃ y∈acc,y.1=x.1)∨x.1=b.1:=by
 rcases List.eq_nil_or_concat acc with rfl | ⟨a,t,rfl⟩
 ·rw [stepB_nil] at h
  rw [List.mem_singleton.1 h];exact .inr rfl
 ·rw [List.concat_eq_append] at h ⊢
  by_cases e:t.1=b.1
  ·rw [stepB_same a t b e] at h
   rcases List.mem_append.1 h with h|h
   ·exact .inl ⟨x,List.mem_append_left _ h,rfl⟩
   ·rw [List.mem_singleton.1 h];exact .inr e
  ·rw [stepB_new a t b e] at h
   rcases List.mem_append.1 h with h|h
   ·exact .inl ⟨x,h,rfl⟩
   ·rw [List.mem_singleton.1 h];exact .inr rfl
theorem joinB_keys (E:List BP):∀ x∈joinB E,∃ y∈E,y.1=x.1:=by
 have k:∀ (E acc:List BP),∀ x∈E.foldl stepB acc,(∃ y∈acc,y.1=x.1)∨∃ y∈E,y.1=x.1:=by
  intro E
  induction E with
  | nil=>exact fun acc x hx=>.inl ⟨x,hx,rfl⟩
  | cons b E ih =>
   intro acc x hx
   rw [List.foldl_cons] at hx
   rcases ih _ x hx with ⟨y,hy,e⟩ | ⟨y,hy,e⟩
   ·rcases stepB_keys acc b y hy with ⟨z,hz,e2⟩|e2
    ·exact .inl ⟨z,hz,e2.trans e⟩
    ·exact .inr ⟨b,List.mem_cons_self ..,(e2.symm.trans e)⟩
   ·exact .inr ⟨y,List.mem_cons_of_mem _ hy,e⟩
 intro x hx
 rcases k E [] x hx with ⟨y,hy,_⟩|h
 ·exact absurd hy (by simp)
 ·exact h
theorem batches_fit {by_:List Int}{more:List Tm}{E:List BP}(hp:E.Perm (eachB by_ more))(hb:by_.length≤1000000)(hl:more.length≤100000)(hw:wtW more≤1152921504606846976):∀ b∈joinB E,FitB b:=fun b h=>by
 refine ⟨?_,?_,?_⟩
 ·obtain ⟨y,hy,e⟩:=joinB_keys E b h
  obtain ⟨x,hx,rfl⟩:=List.mem_map.1 (hp.mem_iff.1 hy)
  rw [←e]
  show (pickF x.1 by_).length≤_
  rw [pickF_length];exact hb
 ·have h1:=mem_flat_le h
  rw [joinB_flat,(flat_perm hp).length_eq,each_flat] at h1
  have h2:=okL_lengthG by_ more
  omega
 ·have h1:=wt_sub h
  rw [joinB_flat,wt_perm2 (flat_perm hp),each_flat] at h1
  have h2:=ok_wt by_ more
  omega
def ChangeEnd (w:World)(lv:Value)(l:List GroupP)(by_:List Int)(gs:List (Int×Int))(more:List Tm)(e:Ending)(w':World):Prop :=
 ∃ E:List BP,E.Perm (eachB by_ more)∧E.Pairwise (fun a b=>¬cmpL b.1 a.1 = -1)∧Below w.heap.size w w'∧match toldP gs (-1) (aheadG (joinB E) l),toldP gs 1 (behindG gs (joinB E) l) with
  | some go,some co=>∃ gv rv,e=.returned (.tuple #[gv,rv,.int .i64 (joinB E).length,.int .i64 0])∧groupK.In (fun _=>True) w' gv ((mergeG gs (joinB E) l).filter fun g=>!(g.n==0))∧TimesIn w' rv (sumW go co)
  | _,_=>e=.returned (.tuple #[lv,.slice none 0 0,.int .i64 0,.int .i64 7])
theorem results_tmp4 {fn:Func}{t u v x:Tmp}(h:fn.results = #[.tmp t,.tmp u,.tmp v,.tmp x])(tmps:Array Value)(P:Program)(w:World) :
  (results fn tmps).run P w=.ok (.tuple #[tmps.getD t undef,tmps.getD u undef,tmps.getD v undef,tmps.getD x undef]) w:=by
 simp [results,h]
theorem each_lengthC {by_:List Int}{l:List Tm}{E:List BP}(hp:E.Perm (eachB by_ l)):(joinB E).length≤l.length:=by
 have h1:=joinB_length E
 have h2:=each_length by_ l
 rw [hp.length_eq] at h1
 omega
set_option maxHeartbeats 8000000 in
set_option maxRecDepth 100000 in
theorem gchange_calls {w:World}{lv bv agv mv:Value}{l:List GroupP}{by_:List Int}{gs:List (Int×Int)}{more:List Tm}(h:groupK.In (fun _=>True) w lv l)(hr:RightK l)(hb:IntsIn w bv by_)(ha:OnIn w agv gs)(hm:TimesIn w mv more)(hf:∀ g∈l,FitG g∧g.parts.length≤1000000∧g.key.length+gs.length≤1000000)
  (hbl:by_.length+gs.length≤1000000) (hl:l.length+more.length≤400000) (hml:more.length≤100000) (hmw:wtW more≤1152921504606846976) :
  Calls Try.prog 12 #[lv,bv,agv,mv] w (ChangeEnd w lv l by_ gs more):=by
 obtain ⟨Al,cl,rfl⟩:=h.slice
 obtain ⟨Aa,ca,rfl⟩:=ha.slice
 obtain ⟨Ac,cc,rfl,_⟩:=one_at hb
 obtain ⟨Am,cm,rfl⟩:=times_slice hm
 have HL:=Lib.hid h
 have HA:=Lib.hid ha
 have HF:=Lib.hid hf
 have HR:=Lib.hid hr
 have HML:=Lib.hid hml
 have HMW:=Lib.hid hmw
 have HBT:=Lib.hid (gbatches_calls hm hb (by omega) (by omega))
 clear h hr hb ha hm hf hml hmw
 go_enter Try.func12,Try.ntmps12
 go_wp2_with fail
 refine Calls.mono HBT.out ?_
 rintro e w1 ⟨bsv,E,rfl,hpe,hso,hin,hq1⟩
 have HFB:=Lib.hid (batches_fit hpe (by omega) HML.out HMW.out)
 have HBL:=Lib.hid (each_lengthC hpe)
 have HPE:=Lib.hid hpe
 have HSO:=Lib.hid hso
 have HQ1:=Lib.hid hq1
 have HPU:=Lib.hid (gputs_calls (gs:=gs) (HL.out.kept hq1) HR.out (HA.out.kept hq1) hin (fun g hg=>⟨(HF.out g hg).1,(HF.out g hg).2.1⟩) HFB.out (by have:=HBL.out;omega) (by omega))
 obtain ⟨Ab,cb,rfl⟩:=hin.slice
 clear hpe hso hin hq1 HBT
 obtain ⟨bs,hbs⟩:∃ bs,joinB E=bs:=⟨_,rfl⟩
 have HBS:=Lib.hid hbs
 rw [hbs] at HFB HBL HPU ⊢
 clear hbs
 go_wp2_with fail
 refine Calls.mono HPU.out ?_
 rintro e w2 ⟨g2,a2,b2,rfl,hg2,ha2,hb2,hq2⟩
 have HQ2:=Lib.hid (HQ1.out.trans (hq2.mono HQ1.out.size))
 have HG2:=Lib.hid hg2
 have HA2:=Lib.hid ha2
 have HB2:=Lib.hid hb2
 have HTA:Hid (∀ g∈aheadG bs l,TellG g∧g.key.length+gs.length≤1000000):=fun g hg=>by
  have:=HF.out g (ahead_mem bs l g hg)
  have h2:=this.1.1
  exact ⟨⟨by omega,by omega,this.1.2.1⟩,this.2.2⟩
 have HTB:Hid (∀ g∈behindG gs bs l,TellG g∧g.key.length+gs.length≤1000000):=fun g hg=>by
  obtain ⟨b,hb,G,hG,rfl⟩:=behind_mem gs bs l g hg
  have h1:=HFB.out b hb
  have h2:=gmany_le b.2
  have h3:=h1.2.2
  have h4:G.n.natAbs≤1152921504606846976∧G.key.length≤1000000∧G.key.length+gs.length≤1000000:=by
   rcases hG with hG|rfl
   ·have:=HF.out G hG
    exact ⟨this.1.1,this.1.2.1,this.2.2⟩
   ·refine ⟨by show (0:Int).natAbs≤_;decide,h1.1,?_⟩
    obtain ⟨y,hy,e⟩:=joinB_keys E b (by rw [HBS.out];exact hb)
    obtain ⟨x,hx,rfl⟩:=List.mem_map.1 (HPE.out.mem_iff.1 hy)
    show b.1.length+gs.length≤_
    rw [←e]
    show (pickF x.1 by_).length+gs.length≤_
    rw [pickF_length];exact hbl
  refine ⟨⟨?_,?_,h4.2.1⟩,h4.2.2⟩
  ·show _≤G.n+manyL b.2
   omega
  ·show G.n+manyL b.2≤_
   omega
 have HLA:=Lib.hid (ahead_length bs l)
 have HLB:=Lib.hid (behind_length gs bs l)
 have HTO:=Lib.hid (gtold_calls (gs:=gs) (-1) ha2 (HA.out.kept HQ2.out) (fun g hg=>(HTA.out g hg).1) (by have:=HLA.out;have:=HBL.out;omega) (by omega))
 obtain ⟨A3,c3,rfl⟩:=hg2.slice
 obtain ⟨A4,c4,rfl⟩:=ha2.slice
 obtain ⟨A5,c5,rfl⟩:=hb2.slice
 have HEND:Hid (∀ e w',Below w.heap.size w w'→(match toldP gs (-1) (aheadG bs l),toldP gs 1 (behindG gs bs l) with
  | some go,some co=>∃ gv rv,e=Ending.returned (.tuple #[gv,rv,.int .i64 bs.length,.int .i64 0])∧groupK.In (fun _=>True) w' gv ((mergeG gs bs l).filter fun g=>!(g.n==0))∧TimesIn w' rv (sumW go co)
  | _,_=>e=Ending.returned (.tuple #[.slice Al l.length cl,.slice none 0 0,.int .i64 0,.int .i64 7]))→ChangeEnd w (.slice Al l.length cl) l by_ gs more e w'):=fun e w' h1 h2=>⟨E,HPE.out,HSO.out,h1,by rw [HBS.out];exact h2⟩
 generalize hM:(mergeG gs bs l).filter (fun g=>!(g.n==0))=M at *
 generalize hAA:aheadG bs l=AA at *
 generalize hBB:behindG gs bs l=BB at *
 obtain ⟨nb,hnb⟩:∃ nb,bs.length=nb:=⟨_,rfl⟩
 rw [hnb] at HEND ⊢
 clear hg2 ha2 hb2 hq2 HPU hM hAA hBB
 go_wp2_with fail
 refine Calls.mono HTO.out ?_
 intro e w3 he3
 cases ho:toldP gs (-1) AA with
 | none =>
  rw [ho] at he3 HEND
  obtain ⟨rfl,hq3⟩:=he3
  have HF3:=Lib.hid (HEND.out _ w3 (HQ2.out.trans (hq3.mono HQ2.out.size)) rfl)
  clear HTO ho hq3 HEND
  go_wp2
  try simp only [Exit.inBlock,Exit.then]
  refine bodyPost_ret (results_tmp4 rfl _ _ _) rfl ?_
  exact HF3.out
 | some go =>
  rw [ho] at he3 HEND
  obtain ⟨⟨v3,rfl,ht3⟩,hq3⟩:=he3
  have HQ3:=Lib.hid (HQ2.out.trans (hq3.mono HQ2.out.size))
  have HGO:=Lib.hid (told_rows ho)
  have HGL:=Lib.hid (told_length ho)
  have HT3:=Lib.hid ht3
  have HG3:=Lib.hid (HG2.out.kept hq3)
  have HTP:=Lib.hid (gtold_calls (gs:=gs) 1 (HB2.out.kept hq3) (HA.out.kept HQ3.out) (fun g hg=>(HTB.out g hg).1) (by have:=HLB.out;have:=HBL.out;omega) (by omega))
  obtain ⟨A6,c6,rfl⟩:=times_slice ht3
  clear HTO ho hq3 ht3
  go_wp2_with fail
  refine Calls.mono HTP.out ?_
  intro e w4 he4
  cases ho4:toldP gs 1 BB with
  | none =>
   rw [ho4] at he4 HEND
   obtain ⟨rfl,hq4⟩:=he4
   have HF4:=Lib.hid (HEND.out _ w4 (HQ3.out.trans (hq4.mono HQ3.out.size)) rfl)
   clear HTP ho4 hq4 HEND
   go_wp2
   try simp only [Exit.inBlock,Exit.then]
   refine bodyPost_ret (results_tmp4 rfl _ _ _) rfl ?_
   exact HF4.out
  | some co =>
   rw [ho4] at he4 HEND
   obtain ⟨⟨v4,rfl,ht4⟩,hq4⟩:=he4
   have HQ4:=Lib.hid (HQ3.out.trans (hq4.mono HQ3.out.size))
   have hco:=told_rows ho4
   have hcl:=told_length ho4
   have hgw:=wt_const fun x hx=>(HGO.out x hx).1
   have hcw:=wt_const fun x hx=>(hco x hx).1
   have h1:=HGL.out
   have h2:=HLA.out
   have h3:=HLB.out
   have h4:=HBL.out
   have HSM:=Lib.hid (weigh_sum_calls (HT3.out.kept hq4) ht4 (by omega) (by rw [hgw,hcw];simp;omega) (fun x hx=>by
    obtain ⟨_,g,hg,hrw⟩:=HGO.out x hx
    exact Nat.le_trans (row_le hrw) (HTA.out g hg).2) (fun x hx=>by
    obtain ⟨_,g,hg,hrw⟩:=hco x hx
    exact Nat.le_trans (row_le hrw) (HTB.out g hg).2))
   have HG4:=Lib.hid (HG3.out.kept hq4)
   obtain ⟨A7,c7,rfl⟩:=times_slice ht4
   unfold GivesTimes at HSM
   clear HTP ho4 hq4 ht4 hco hcl hgw hcw h1 h2 h3 h4
   go_wp2_with fail
   refine Calls.mono HSM.out ?_
   rintro e w5 ⟨v5,rfl,ht5,hq5⟩
   obtain ⟨A8,c8,rfl⟩:=times_slice ht5
   have HF5:=Lib.hid (HEND.out (.returned (.tuple #[.slice A3 M.length c3,.slice A8 (sumW go co).length c8,.int .i64 nb,.int .i64 0])) w5 (HQ4.out.trans (hq5.mono HQ4.out.size)) ⟨_,_,rfl,HG4.out.kept hq5,ht5⟩)
   clear ht5 hq5 HEND HSM
   go_wp2
   try simp only [Exit.inBlock,Exit.then]
   refine bodyPost_ret (results_tmp4 rfl _ _ _) rfl ?_
   exact HF5.out
end Go.Proofs.Ytjbpbfhgjldliaa
