/- The contract of the answer's Meets of layer 19. -/
import Derived.Test.YtjbpbfhgjldliaaGreatGStrs
import Derived.Test.YtjbpbfhgjldliaaGreatGTimes
import Derived.Test.YtjbpbfhgjldliaaGreatGOpen
import Derived.Test.YtjbpbfhgjldliaaGreatGZCalm
import Derived.Test.YtjbpbfhgjldliaaGreatGGroupKin
namespace Go.Proofs.YtjbpbfhgjldliaaGreat
open Go Go.RowKit
def onV (on:List Cl):List Value:=on.flatMap fun c=>[.int .i64 c.1,.int .i64 c.2]
def OnIn (w:World)(v:Value)(on:List Cl):Prop:=SliceOf w 2 v on.length (onV on)
theorem onV_cons (c:Cl)(on:List Cl):onV (c::on)=.int .i64 c.1::.int .i64 c.2::onV on:=rfl
theorem onV_length (on:List Cl):(onV on).length=on.length*2:=by
 induction on with
 | nil=>rfl
 | cons t tv ih=>rw [onV_cons,List.length_cons,List.length_cons,ih,List.length_cons];omega
theorem onV_get:∀ (on:List Cl)(j:Nat)(h:j < on.length),(onV on)[j*2]? = some (.int .i64 on[j].1)∧(onV on)[j*2+1]? = some (.int .i64 on[j].2)
 | [],j,h=>absurd h (by simp)
 | c::on,0,_=>⟨rfl,rfl⟩
 | c::on,j+1,h=>by
  have:=onV_get on j (by simpa using h)
  have e1:(j+1)*2=j*2+2:=by omega
  rw [e1]
  exact this
theorem take_onV:∀ (on:List Cl)(k:Nat),(onV on).take (k*2)=onV (on.take k)
 | [],k=>by rw [List.take_nil];exact List.take_nil
 | _::_,0=>rfl
 | t::tv,k+1=>by
  have e1:(k+1)*2=k*2+2:=by omega
  rw [e1]
  show Value.int .i64 t.1::Value.int .i64 t.2::(onV tv).take (k*2)=Value.int .i64 t.1::.int .i64 t.2::onV (tv.take k)
  rw [take_onV tv k]
theorem drop_onV:∀ (on:List Cl)(k:Nat),(onV on).drop (k*2)=onV (on.drop k)
 | [],k=>by rw [List.drop_nil];exact List.drop_nil
 | _::_,0=>rfl
 | t::tv,k+1=>by
  have e1:(k+1)*2=k*2+2:=by omega
  rw [e1]
  show (onV tv).drop (k*2)=onV (tv.drop k)
  rw [drop_onV tv k]
section
variable {w w':World}
theorem OnIn.kept {v:Value}{on:List Cl}(h:OnIn w v on)(hb:Below w.heap.size w w'):OnIn w' v on:=SliceOf.later h hb
theorem OnIn.nil_ (w:World)(A:Option Addr)(cap:Nat):OnIn w (.slice A 0 cap) []:=SliceOf.nil_ _ _ _ _
theorem OnIn.len {v:Value}{on:List Cl}(h:OnIn w v on):on.length≤maxLen:=h.2.1
theorem OnIn.slice {v:Value}{on:List Cl}(h:OnIn w v on):∃ A p,v=.slice A on.length p:=by
 obtain ⟨_,_,A,p,e,_⟩:=h
 exact ⟨A,p,e⟩
theorem on_at {v:Value}{on:List Cl}(h:OnIn w v on):∃ A cap,v=.slice A on.length cap∧on.length≤cap ∧
  (∀ k,k < on.length→∃ b off,A=some ⟨b,off,none⟩∧b < w.heap.size∧∀ j (hj:j < on.length),w.cell? ⟨b,off+j*2,none⟩=some (.int .i64 on[j].1)∧w.cell? ⟨b,off+j*2+1,none⟩=some (.int .i64 on[j].2)):=by
 obtain ⟨_,_,A,cap,e,hr,h4⟩:=h
 refine ⟨A,cap,e,hr,fun k hk=>?_⟩
 obtain ⟨b,off,ea,hb,hc⟩:=h4 (by omega)
 refine ⟨b,off,ea,hb,fun j hj=>?_⟩
 have hv:=onV_get on j hj
 exact ⟨hc _ _ hv.1,hc _ _ hv.2⟩
theorem OnIn.front {A:Option Addr}{n cap m:Nat}{on:List Cl}(h:OnIn w (.slice A n cap) on)(hm:m≤on.length):OnIn w (.slice A m cap) (on.take m):=by
 obtain ⟨A',p,e⟩:=h.slice
 cases e
 have:=SliceOf.frontN h hm
 rw [take_onV] at this
 unfold OnIn
 rw [List.length_take,Nat.min_eq_left hm]
 exact this
theorem OnIn.back {b off n cap m:Nat}{on:List Cl}(h:OnIn w (.slice (some ⟨b,off,none⟩) n cap) on)(hm:m≤on.length){A:Option Addr}(hA:m < on.length→A=some ⟨b,off+m*2,none⟩):OnIn w (.slice A (on.length-m) (cap-m)) (on.drop m):=by
 obtain ⟨A',p,e⟩:=h.slice
 cases e
 have:=SliceOf.backN h hm hA
 rw [drop_onV] at this
 unfold OnIn
 rw [List.length_drop]
 exact this
theorem lit_on (w:World)(T:TypeId)(on:List Cl)(h:on.length≤1000):OnIn (w.alloc (.cells (onV on).toArray T)) (.slice (some ⟨w.heap.size,0,none⟩) on.length on.length) on :=
 (Own.lit (B:=0) (size:=2) w (onV on).toArray T on.length (Nat.zero_le _) (by unfold maxLen;omega) (by rw [List.size_toArray,onV_length])).slice
end
theorem box_cell (w:World)(T:TypeId)(cs:Array Value)(j:Nat)(u:Value)(h:cs[j]? = some u):(w.alloc (.cells cs T)).cell? ⟨w.heap.size,j,none⟩=some u:=by
 unfold World.cell?
 rw [(MapKept.heap_alloc w _).1]
 exact h
theorem text_some {s:ByteArray}(h:s≠⟨#[]⟩):s.toList.isEmpty=false:=by
 cases e:s.toList.isEmpty with
 | false=>rfl
 | true =>
  refine absurd (bytes_ext ?_) h
  have:s.toList=[]:=List.isEmpty_iff.1 e
  rw [ByteArray.toList_eq] at this
  rw [this]
theorem meet1_eq (a b:List ByteArray)(c:Cl):meet1 a b c=(decide (atF a c.1≠⟨#[]⟩)&&decide (atF a c.1=atF b c.2)):=rfl
theorem Tryz.infoP9:(Tryz.prog.info? 9).map (fun i=>(i.zero,i.size,i.bytes))=some (some (.string ⟨#[]⟩),1,16):=by kernel_rfl
def zeroCells (n:Nat):List Value:=List.replicate n (Value.string ⟨#[]⟩)
def PickNew (w:World)(row:List ByteArray)(cols:List Int)(e:Ending)(w':World):Prop :=
 ∃ v,e=.returned (.tuple #[v,.bool (pickOk row cols)])∧StrsIn w' v (pickL row cols)∧Fresh w.heap.size v∧Below w.heap.size w w'
theorem pick_no {w w':World}{row:List ByteArray}{cols:List Int}(h:pickOk row cols=false)(hb:Below w.heap.size w w'):PickNew w row cols (.returned (.tuple #[.slice none 0 0,.bool false])) w' :=
 ⟨_,by rw [h],by rw [pickL_no h];exact SliceOf.nil_ _ _ _ _,fresh_nil _,hb⟩
theorem pick_yes {w w':World}{row:List ByteArray}{cols:List Int}{v:Value}(h:pickOk row cols=true)(hv:StrsIn w' v (pickF row cols))(hf:Fresh w.heap.size v)(hb:Below w.heap.size w w'):PickNew w row cols (.returned (.tuple #[v,.bool true])) w' :=
 ⟨_,by rw [h],by rw [pickL_yes h];exact hv,hf,hb⟩
set_option maxHeartbeats 1000000 in
set_option maxRecDepth 100000 in
theorem shape_pick_new {w:World}{vr vc:Value}{row:List ByteArray}{cols:List Int}(hr:StrsIn w vr row)(hc:IntsIn w vc cols)(hn:cols.length≤1000000) :
  Calls Tryz.prog 40 #[vr,vc] w (PickNew w row cols):=by
 obtain ⟨j0,hj,jz0,jz1,jz2⟩:=info_parts Tryz.infoP9
 obtain ⟨hb,hB⟩:=start w
 obtain ⟨A1,cap1,rfl,hat1⟩:=one_at hr
 obtain ⟨A2,cap2,rfl,hat2⟩:=one_at hc
 have HAT1:=Lib.hid hat1
 have HAT2:=Lib.hid hat2
 clear hr hc hat1 hat2
 go_enter Tryz.func40,Tryz.ntmps40
 go_wp2_with (at_make;refine wpList_make_full _ rfl _ _ 41 rfl w.heap.size 9 j0 (.string ⟨#[]⟩) 1 Tryz.underlying41 hj jz0 jz1 .i64 .i64 _ _ cols.length rfl rfl rfl rfl (by rw [jz2];omega) (by unfold maxLen;omega) hB ?_)
 intro w1 hrow hg1
 rw [toList_madeCells_one] at hrow
 have hO:Own w1 w.heap.size 1 (.slice (some ⟨w.heap.size,0,none⟩) cols.length cols.length) cols.length (zeroCells cols.length):=Own.of_row (B:=w.heap.size) hrow (by unfold maxLen;omega) (Nat.le_refl _)
 have hb1:Below w.heap.size w w1:=hb.grown hg1 hB (fun k hk=>by cases hk)
 clear hrow hg1 hb hB
 have HX:=Lib.hid (show ((pickF row cols).map Value.string).length=cols.length by rw [List.length_map,pickF_length])
 have HZ:=Lib.hid (show (zeroCells cols.length).length=cols.length from List.length_replicate)
 go_wp2
 go_loopw [14] (fun i wr=>∃ k:Nat,k≤cols.length∧i=.int .i64 k∧Hid (∀ c∈cols.take k,0≤c∧c < row.length)∧Own wr w.heap.size 1 (.slice (some ⟨w.heap.size,0,none⟩) cols.length cols.length) cols.length (((pickF row cols).map Value.string).take k++(zeroCells cols.length).drop k)∧Below w.heap.size w wr) (fun i _=>cols.length-(intOf i).toNat)
 case atStart=>exact ⟨0,Nat.zero_le _,rfl,fun c hc=>absurd hc (by simp),by simpa using hO,hb1⟩
 case round =>
  clear hO hb1
  obtain ⟨k,hk,rfl,HS,hO,hb⟩:=hrel
  by_cases hlt:k < cols.length
  ·obtain ⟨b,off,rfl,hbl,hc⟩:=HAT2.out k hlt
   have hx:=(hb.cell (p:=⟨b,off+k,none⟩) hbl).trans (hc k hlt)
   have HT:=Lib.hid (take_add cols k hlt)
   have HM:=Lib.hid (List.getElem_mem hlt)
   have HG:=Lib.hid (fun j hj=>pickF_get row cols k hlt j hj)
   clear hc
   generalize cols[k]=c at *
   by_cases h0:c < 0
   ·have d1:decide (c < 0)=true:=decide_eq_true h0
    have HD:=Lib.hid (pickOk_not HM.out (row:=row) (by omega))
    clear hO
    go_wp2
    go_ret2
    exact pick_no HD.out hb
   ·have d1:decide (c < 0)=false:=decide_eq_false h0
    by_cases h1:c < row.length
    ·obtain ⟨j,rfl⟩:∃ j:Nat,c=j:=⟨c.toNat,by omega⟩
     have hjr:j < row.length:=by omega
     have d2:decide ((row.length:Int)≤j)=false:=by rw [decide_eq_false_iff_not];omega
     obtain ⟨b2,off2,rfl,hbl2,hc2⟩:=HAT1.out j hjr
     have hx2:=(hb.cell (p:=⟨b2,off2+j,none⟩) hbl2).trans (hc2 j hjr)
     have HY:=Lib.hid (HG.out j hjr rfl)
     obtain ⟨hs1,hs2⟩:=hO.fillCell HX.out HZ.out hlt
     have hz8:(zeroCells cols.length)[k]'(by rw [HZ.out];exact hlt)=Value.string ⟨#[]⟩:=by unfold zeroCells;rw [List.getElem_replicate]
     rw [hz8] at hs1
     have HO':=Lib.hid (hO.filled HX.out HZ.out hlt (u:=.string row[j]) HY.out)
     have hbb:=hb.setCell (Nat.le_refl w.heap.size) (p:=⟨w.heap.size,k,none⟩) (.string row[j])
     have HI:Hid (∀ d∈cols.take (k+1),0≤d∧d < row.length):=by
      intro d hd
      rw [HT.out] at hd
      rcases List.mem_append.1 hd with hd|hd
      ·exact HS.out d hd
      ·rw [List.mem_singleton.1 hd];omega
     clear hc2 hO HY HG HM HT hz8
     generalize row[j]=s at *
     go_wp2
     go_roundw
     case rel=>exact ⟨k+1,by omega,by go_num,HI,HO'.out,hbb⟩
     case measure=>simp [intOf];omega
    ·have d2:decide ((row.length:Int)≤c)=true:=by rw [decide_eq_true_eq];omega
     have HD:=Lib.hid (pickOk_not HM.out (row:=row) (by omega))
     clear hO
     go_wp2
     go_ret2
     exact pick_no HD.out hb
  ·obtain rfl:k=cols.length:=by omega
   have HD:=Lib.hid (pickOk_of (row:=row) (by have:=HS.out;rwa [List.take_length] at this))
   have H2:=Lib.hid (strs_of (hO.full HX.out HZ.out) (pickF_length row cols).symm)
   clear hO
   go_wp2
   go_ret2
   exact pick_yes HD.out H2.out (fresh_at (Nat.le_refl _)) hb
theorem pickF_step (row:List ByteArray)(cols:List Int)(k:Nat)(hk:k < cols.length)(j:Nat)(hj:j < row.length)(e:cols[k]=j):(pickF row (cols.take (k+1))).map Value.string=(pickF row (cols.take k)).map Value.string++[Value.string row[j]]:=by
 rw [pickF_snoc row cols k hk j hj e,List.map_append];rfl
set_option maxHeartbeats 1000000 in
set_option maxRecDepth 100000 in
theorem ref_shape_pick_new {w:World}{vr vc:Value}{row:List ByteArray}{cols:List Int}(hr:StrsIn w vr row)(hc:IntsIn w vc cols)(hn:cols.length≤1000000) :
  Calls Tryz.prog 20 #[vr,vc] w (PickNew w row cols):=by
 obtain ⟨j0,hj,jz0,jz1,jz2⟩:=info_parts Tryz.infoP9
 obtain ⟨hb,hB⟩:=start w
 obtain ⟨A1,cap1,rfl,hat1⟩:=one_at hr
 obtain ⟨A2,cap2,rfl,hat2⟩:=one_at hc
 have HAT1:=Lib.hid hat1
 have HAT2:=Lib.hid hat2
 clear hr hc hat1 hat2
 go_enter Tryz.func20,Tryz.ntmps20
 go_wp2
 go_loopw [6,7] (fun x i wr=>∃ k:Nat,k≤cols.length∧i=.int .i64 k∧Hid (∀ c∈cols.take k,0≤c∧c < row.length)∧Own wr w.heap.size 1 x k ((pickF row (cols.take k)).map Value.string)∧Below w.heap.size w wr) (fun _ i _=>cols.length-(intOf i).toNat)
 case atStart=>exact ⟨0,Nat.zero_le _,rfl,fun c hc=>absurd hc (by simp),Own.nil_ _ _ _,hb⟩
 case round =>
  clear hb hB
  obtain ⟨k,hk,rfl,HS,hO,hb⟩:=hrel
  have hB:=hb.size
  by_cases hlt:k < cols.length
  ·obtain ⟨b,off,rfl,hbl,hc⟩:=HAT2.out k hlt
   have hx:=(hb.cell (p:=⟨b,off+k,none⟩) hbl).trans (hc k hlt)
   have HT:=Lib.hid (take_add cols k hlt)
   have HM:=Lib.hid (List.getElem_mem hlt)
   have HG:=Lib.hid (fun j hj=>pickF_step row cols k hlt j hj)
   clear hc
   generalize cols[k]=c at *
   by_cases h0:c < 0
   ·have d1:decide (c < 0)=true:=decide_eq_true h0
    have HD:=Lib.hid (pickOk_not HM.out (row:=row) (by omega))
    clear hO
    go_wp2
    go_ret2
    exact pick_no HD.out hb
   ·have d1:decide (c < 0)=false:=decide_eq_false h0
    by_cases h1:c < row.length
    ·obtain ⟨j,rfl⟩:∃ j:Nat,c=j:=⟨c.toNat,by omega⟩
     have hjr:j < row.length:=by omega
     have d2:decide ((row.length:Int)≤j)=false:=by rw [decide_eq_false_iff_not];omega
     obtain ⟨b2,off2,rfl,hbl2,hc2⟩:=HAT1.out j hjr
     have hx2:=(hb.cell (p:=⟨b2,off2+j,none⟩) hbl2).trans (hc2 j hjr)
     have HY:=Lib.hid (HG.out j hjr rfl)
     have HI:Hid (∀ d∈cols.take (k+1),0≤d∧d < row.length):=by
      intro d hd
      rw [HT.out] at hd
      rcases List.mem_append.1 hd with hd|hd
      ·exact HS.out d hd
      ·rw [List.mem_singleton.1 hd];omega
     clear hc2 HG HM HT
     generalize row[j]=s at *
     generalize (pickF row (cols.take k)).map Value.string=xs at *
     obtain ⟨A9,p9,rfl⟩:=hO.len
     go_wp2_with (at_builtin;refine wpList_append_Own rfl _ _ 41 rfl 9 j0 (.string ⟨#[]⟩) 1 16 Tryz.underlying41 hj jz0 jz1 jz2 rfl (by decide) _ _ _ rfl (Own.alloc hO _) ⟨wr.heap.size,0,none⟩ 1 1 [_] rfl rfl (one_new _ _ _) (one_str _) ?c1 ?c2 (below_alloc hb hB _).2 ?_)
     case c1=>unfold maxLen;omega
     case c2=>omega
     intro v3 w3 hO3 hg3
     have hb3:=(Own.alloc hO (.cells #[Value.string s] 9)).grown (below_alloc hb hB _).1 (below_alloc hb hB _).2 hg3
     have HX:=Lib.hid hO3
     clear hO hb hB hg3 hO3
     go_wp2
     go_roundw
     case rel=>exact ⟨k+1,by omega,by go_num,HI,by rw [HY.out];exact HX.out,hb3⟩
     case measure=>simp [intOf];omega
    ·have d2:decide ((row.length:Int)≤c)=true:=by rw [decide_eq_true_eq];omega
     have HD:=Lib.hid (pickOk_not HM.out (row:=row) (by omega))
     clear hO
     go_wp2
     go_ret2
     exact pick_no HD.out hb
  ·obtain rfl:k=cols.length:=by omega
   have HD:=Lib.hid (pickOk_of (row:=row) (by have:=HS.out;rwa [List.take_length] at this))
   rw [List.take_length] at hO
   have H2:=Lib.hid (strs_of hO (pickF_length row cols).symm)
   have HF:Hid (Fresh w.heap.size u6):=fun k hk=>(hO.lt k hk).1
   obtain ⟨A9,p9,rfl⟩:=hO.len
   clear hO
   go_wp2
   go_ret2
   exact pick_yes HD.out H2.out HF.out hb
theorem lit_col (w:World)(T:TypeId)(c:Int):IntsIn (w.alloc (.cells #[.int .i64 c] T)) (.slice (some ⟨w.heap.size,0,none⟩) 1 1) [c]:=lit_ones (Value.int .i64) w T [c] (by simp)
end Go.Proofs.YtjbpbfhgjldliaaGreat
