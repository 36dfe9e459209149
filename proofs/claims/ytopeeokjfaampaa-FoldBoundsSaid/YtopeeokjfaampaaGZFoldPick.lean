/- Layer 9's Pick, told as a slice that the call owns. -/
import Derived.Test.YtopeeokjfaampaaGZShapePick
namespace Go.Proofs.Ytopeeokjfaampaa
open Go Go.RowKit
set_option maxHeartbeats 1000000 in
set_option maxRecDepth 100000 in
theorem shape_pick_own {w:World}{vr vc:Value}{row:List ByteArray}{cols:List Int}(hr:StrsIn w vr row)(hc:IntsIn w vc cols)(hn:cols.length≤1000000)(hy:pickOk row cols=true) :
  Calls Try.prog 25 #[vr,vc] w (fun e w'=>∃ v,e=.returned (.tuple #[v,.bool true])∧Own w' w.heap.size 1 v cols.length ((pickF row cols).map Value.string)∧Below w.heap.size w w'):=by
 obtain ⟨j0,hj,jz0,jz1,jz2⟩:=info_parts Try.infoP9
 obtain ⟨hb,hB⟩:=start w
 obtain ⟨A1,cap1,rfl,hat1⟩:=one_at hr
 obtain ⟨A2,cap2,rfl,hat2⟩:=one_at hc
 have HAT1:=Lib.hid hat1
 have HAT2:=Lib.hid hat2
 have HY:=Lib.hid hy
 clear hr hc hat1 hat2 hy
 go_enter Try.func25,Try.ntmps25
 go_wp2_with (at_make;refine wpList_make_full _ rfl _ _ 25 rfl w.heap.size 9 j0 (.string ⟨#[]⟩) 1 Try.underlying25 hj jz0 jz1 .i64 .i64 _ _ cols.length rfl rfl rfl rfl (by rw [jz2];omega) (by unfold maxLen;omega) hB ?_)
 intro w1 hrow hg1
 rw [toList_madeCells_one] at hrow
 have hO:Own w1 w.heap.size 1 (.slice (some ⟨w.heap.size,0,none⟩) cols.length cols.length) cols.length (zeroCells cols.length):=Own.of_row (B:=w.heap.size) hrow (by unfold maxLen;omega) (Nat.le_refl _)
 have hb1:Below w.heap.size w w1:=hb.grown hg1 hB (fun k hk=>by cases hk)
 clear hrow hg1 hb hB
 have HX:=Lib.hid (show ((pickF row cols).map Value.string).length=cols.length by rw [List.length_map,pickF_length])
 have HZ:=Lib.hid (show (zeroCells cols.length).length=cols.length from List.length_replicate)
 go_wp2
 go_loopw [14] (fun i wr=>∃ k:Nat,k≤cols.length∧i=.int .i64 k∧Hid (∀ c∈cols.take k,0≤c∧c < row.length)∧Own wr w.heap.size 1 (.slice (some ⟨w.heap.size,0,none⟩) cols.length cols.length) cols.length (((pickF row cols).map Value.string).take k++(zeroCells cols.length).drop k)∧Below w.heap.size w wr) (fun i _=>cols.length-(intOf i).toNat)
 case atStart=>exact ⟨0,Nat.zero_le _,rfl,fun c hc=>absurd hc (by simp),by simpa using hO,hb1⟩
 case round =>
  clear hO hb1
  obtain ⟨k,hk,rfl,HS,hO,hb⟩:=hrel
  by_cases hlt:k < cols.length
  ·obtain ⟨b,off,rfl,hbl,hc⟩:=HAT2.out k hlt
   have hx:=(hb.cell (p:=⟨b,off+k,none⟩) hbl).trans (hc k hlt)
   have HT:=Lib.hid (take_add cols k hlt)
   have HM:=Lib.hid (List.getElem_mem hlt)
   have HG:=Lib.hid (fun j hj=>pickF_get row cols k hlt j hj)
   clear hc
   generalize cols[k]=c at *
   by_cases h0:c < 0
   ·have d1:decide (c < 0)=true:=decide_eq_true h0
    have HD:=Lib.hid (pickOk_not HM.out (row:=row) (by omega))
    exact absurd HY.out (by rw [HD.out];decide)
   ·have d1:decide (c < 0)=false:=decide_eq_false h0
    by_cases h1:c < row.length
    ·obtain ⟨j,rfl⟩:∃ j:Nat,c=j:=⟨c.toNat,by omega⟩
     have hjr:j < row.length:=by omega
     have d2:decide ((row.length:Int)≤j)=false:=by rw [decide_eq_false_iff_not];omega
     obtain ⟨b2,off2,rfl,hbl2,hc2⟩:=HAT1.out j hjr
     have hx2:=(hb.cell (p:=⟨b2,off2+j,none⟩) hbl2).trans (hc2 j hjr)
     have HY:=Lib.hid (HG.out j hjr rfl)
     obtain ⟨hs1,hs2⟩:=hO.fillCell HX.out HZ.out hlt
     have hz8:(zeroCells cols.length)[k]'(by rw [HZ.out];exact hlt)=Value.string ⟨#[]⟩:=by unfold zeroCells;rw [List.getElem_replicate]
     rw [hz8] at hs1
     have HO':=Lib.hid (hO.filled HX.out HZ.out hlt (u:=.string row[j]) HY.out)
     have hbb:=hb.setCell (Nat.le_refl w.heap.size) (p:=⟨w.heap.size,k,none⟩) (.string row[j])
     have HI:Hid (∀ d∈cols.take (k+1),0≤d∧d < row.length):=by
      intro d hd
      rw [HT.out] at hd
      rcases List.mem_append.1 hd with hd|hd
      ·exact HS.out d hd
      ·rw [List.mem_singleton.1 hd];omega
     clear hc2 hO HY HG HM HT hz8
     generalize row[j]=s at *
     go_wp2
     go_roundw
     case rel=>exact ⟨k+1,by omega,by go_num,HI,HO'.out,hbb⟩
     case measure=>simp [intOf];omega
    ·have d2:decide ((row.length:Int)≤c)=true:=by rw [decide_eq_true_eq];omega
     have HD:=Lib.hid (pickOk_not HM.out (row:=row) (by omega))
     exact absurd HY.out (by rw [HD.out];decide)
  ·obtain rfl:k=cols.length:=by omega
   have H2:=Lib.hid (hO.full HX.out HZ.out)
   clear hO
   go_wp2
   go_ret2
   exact ⟨_,rfl,H2.out,hb⟩
end Go.Proofs.Ytopeeokjfaampaa
