/- The contract of the answer's Pick of layer 9. -/
import Derived.Test.YtaoeikeobfllkaaGZShapePick
namespace Go.Proofs.Ytaoeikeobfllkaa
open Go Go.RowKit
theorem pickF_step (row:List ByteArray)(cols:List Int)(k:Nat)(hk:k < cols.length)(j:Nat)(hj:j < row.length)(e:cols[k]=j):(pickF row (cols.take (k+1))).map Value.string=(pickF row (cols.take k)).map Value.string++[Value.string row[j]]:=by
 rw [pickF_snoc row cols k hk j hj e,List.map_append];rfl
set_option maxHeartbeats 1000000 in
set_option maxRecDepth 100000 in
theorem ref_shape_pick_new {w:World}{vr vc:Value}{row:List ByteArray}{cols:List Int}(hr:StrsIn w vr row)(hc:IntsIn w vc cols)(hn:cols.length≤1000000) :
  Calls Try.prog 19 #[vr,vc] w (PickNew w row cols):=by
 obtain ⟨j0,hj,jz0,jz1,jz2⟩:=info_parts Try.infoP9
 obtain ⟨hb,hB⟩:=start w
 obtain ⟨A1,cap1,rfl,hat1⟩:=one_at hr
 obtain ⟨A2,cap2,rfl,hat2⟩:=one_at hc
 have HAT1:=Lib.hid hat1
 have HAT2:=Lib.hid hat2
 clear hr hc hat1 hat2
 go_enter Try.func19,Try.ntmps19
 go_wp2
 go_loopw [6,7] (fun x i wr=>∃ k:Nat,k≤cols.length∧i=.int .i64 k∧Hid (∀ c∈cols.take k,0≤c∧c < row.length)∧Own wr w.heap.size 1 x k ((pickF row (cols.take k)).map Value.string)∧Below w.heap.size w wr) (fun _ i _=>cols.length-(intOf i).toNat)
 case atStart=>exact ⟨0,Nat.zero_le _,rfl,fun c hc=>absurd hc (by simp),Own.nil_ _ _ _,hb⟩
 case round =>
  clear hb hB
  obtain ⟨k,hk,rfl,HS,hO,hb⟩:=hrel
  have hB:=hb.size
  by_cases hlt:k < cols.length
  ·obtain ⟨b,off,rfl,hbl,hc⟩:=HAT2.out k hlt
   have hx:=(hb.cell (p:=⟨b,off+k,none⟩) hbl).trans (hc k hlt)
   have HT:=Lib.hid (take_add cols k hlt)
   have HM:=Lib.hid (List.getElem_mem hlt)
   have HG:=Lib.hid (fun j hj=>pickF_step row cols k hlt j hj)
   clear hc
   generalize cols[k]=c at *
   by_cases h0:c < 0
   ·have d1:decide (c < 0)=true:=decide_eq_true h0
    have HD:=Lib.hid (pickOk_not HM.out (row:=row) (by omega))
    clear hO
    go_wp2
    go_ret2
    exact pick_no HD.out hb
   ·have d1:decide (c < 0)=false:=decide_eq_false h0
    by_cases h1:c < row.length
    ·obtain ⟨j,rfl⟩:∃ j:Nat,c=j:=⟨c.toNat,by omega⟩
     have hjr:j < row.length:=by omega
     have d2:decide ((row.length:Int)≤j)=false:=by rw [decide_eq_false_iff_not];omega
     obtain ⟨b2,off2,rfl,hbl2,hc2⟩:=HAT1.out j hjr
     have hx2:=(hb.cell (p:=⟨b2,off2+j,none⟩) hbl2).trans (hc2 j hjr)
     have HY:=Lib.hid (HG.out j hjr rfl)
     have HI:Hid (∀ d∈cols.take (k+1),0≤d∧d < row.length):=by
      intro d hd
      rw [HT.out] at hd
      rcases List.mem_append.1 hd with hd|hd
      ·exact HS.out d hd
      ·rw [List.mem_singleton.1 hd];omega
     clear hc2 HG HM HT
     generalize row[j]=s at *
     generalize (pickF row (cols.take k)).map Value.string=xs at *
     obtain ⟨A9,p9,rfl⟩:=hO.len
     go_wp2_with (at_builtin;refine wpList_append_Own rfl _ _ 27 rfl 9 j0 (.string ⟨#[]⟩) 1 16 Try.underlying27 hj jz0 jz1 jz2 rfl (by decide) _ _ _ rfl (Own.alloc hO _) ⟨wr.heap.size,0,none⟩ 1 1 [_] rfl rfl (one_new _ _ _) (one_str _) ?c1 ?c2 (below_alloc hb hB _).2 ?_)
     case c1=>unfold maxLen;omega
     case c2=>omega
     intro v3 w3 hO3 hg3
     have hb3:=(Own.alloc hO (.cells #[Value.string s] 9)).grown (below_alloc hb hB _).1 (below_alloc hb hB _).2 hg3
     have HX:=Lib.hid hO3
     clear hO hb hB hg3 hO3
     go_wp2
     go_roundw
     case rel=>exact ⟨k+1,by omega,by go_num,HI,by rw [HY.out];exact HX.out,hb3⟩
     case measure=>simp [intOf];omega
    ·have d2:decide ((row.length:Int)≤c)=true:=by rw [decide_eq_true_eq];omega
     have HD:=Lib.hid (pickOk_not HM.out (row:=row) (by omega))
     clear hO
     go_wp2
     go_ret2
     exact pick_no HD.out hb
  ·obtain rfl:k=cols.length:=by omega
   have HD:=Lib.hid (pickOk_of (row:=row) (by have:=HS.out;rwa [List.take_length] at this))
   rw [List.take_length] at hO
   have H2:=Lib.hid (strs_of hO (pickF_length row cols).symm)
   have HF:Hid (Fresh w.heap.size u6):=fun k hk=>(hO.lt k hk).1
   obtain ⟨A9,p9,rfl⟩:=hO.len
   clear hO
   go_wp2
   go_ret2
   exact pick_yes HD.out H2.out HF.out hb
end Go.Proofs.Ytaoeikeobfllkaa
