/- A number's cell is told by its number; no program. -/
import Derived.Test.YtafmbnafibahkaaGreatGRuns
import Derived.Test.YtafmbnafibahkaaGreatGSteps
namespace Go.Proofs.YtafmbnafibahkaaGreat
open Go Go.RowKit
theorem list_nine (s:ByteArray)(h:s.size=9):s.data.toList=[s.data.toList.getD 0 0,s.data.toList.getD 1 0,s.data.toList.getD 2 0,s.data.toList.getD 3 0,s.data.toList.getD 4 0,
  s.data.toList.getD 5 0,s.data.toList.getD 6 0,s.data.toList.getD 7 0,s.data.toList.getD 8 0]:=by
 have hl:s.data.toList.length=9:=by rw [Array.length_toList];exact h
 match hd:s.data.toList,hl with
 | [a,b,c,d,e,f,g,h,i],_=>rfl
theorem toList_cellInt (n:Int):(cellInt n).toList=105::(bytesOf (n+offs)).map fun n=>UInt8.ofNat n.toNat:=by
 rw [ByteArray.toList_eq];rfl
theorem byteI_ofNat (s:ByteArray)(i:Nat):UInt8.ofNat (byteI s i).toNat=s.data.toList.getD i 0:=by
 unfold byteI
 rw [Int.toNat_natCast,UInt8.ofNat_toNat]
theorem cellInt_numOf (s:ByteArray)(h:isInt s=true):(cellInt (numOf s)).toList=s.toList:=by
 unfold isInt at h
 simp only [Bool.and_eq_true,beq_iff_eq] at h
 obtain ⟨hk,hs⟩:=h
 rw [toList_cellInt,ByteArray.toList_eq,list_nine s hs]
 have b1:=byteI_range s 1
 have b2:=byteI_range s 2
 have b3:=byteI_range s 3
 have b4:=byteI_range s 4
 have b5:=byteI_range s 5
 have b6:=byteI_range s 6
 have b7:=byteI_range s 7
 have b8:=byteI_range s 8
 rw [←byteI_ofNat s 0,←byteI_ofNat s 1,←byteI_ofNat s 2,←byteI_ofNat s 3,←byteI_ofNat s 4,←byteI_ofNat s 5,←byteI_ofNat s 6,←byteI_ofNat s 7,←byteI_ofNat s 8]
 have e0:byteI s 0=105:=hk
 rw [e0]
 unfold bytesOf numOf
 generalize byteI s 1=c1 at *
 generalize byteI s 2=c2 at *
 generalize byteI s 3=c3 at *
 generalize byteI s 4=c4 at *
 generalize byteI s 5=c5 at *
 generalize byteI s 6=c6 at *
 generalize byteI s 7=c7 at *
 generalize byteI s 8=c8 at *
 have ez:(((((((c1*256+c2)*256+c3)*256+c4)*256+c5)*256+c6)*256+c7)*256+c8)-offs+offs=(((((((c1*256+c2)*256+c3)*256+c4)*256+c5)*256+c6)*256+c7)*256+c8):=by omega
 rw [ez]
 generalize hu:(((((((c1*256+c2)*256+c3)*256+c4)*256+c5)*256+c6)*256+c7)*256+c8)=u
 have d1:u / 72057594037927936 % 256=c1:=by omega
 have d2:u / 281474976710656 % 256=c2:=by omega
 have d3:u / 1099511627776 % 256=c3:=by omega
 have d4:u / 4294967296 % 256=c4:=by omega
 have d5:u / 16777216 % 256=c5:=by omega
 have d6:u / 65536 % 256=c6:=by omega
 have d7:u / 256 % 256=c7:=by omega
 have d8:u % 256=c8:=by omega
 rw [d1,d2,d3,d4,d5,d6,d7,d8]
 rfl
theorem cellInt_right (n:Int):rightB (cellInt n)=true:=by
 unfold rightB
 rw [kind_cellInt,size_cellInt]
 simp
theorem cellInt_back {s:ByteArray}(h:isInt s=true):cellInt (numOf s)=s:=by
 have:=cellInt_numOf s h
 rw [ByteArray.toList_eq,ByteArray.toList_eq] at this
 exact ba_ext this
theorem nums_back {l:List ByteArray}(h:mayL l=true):(numsL l).map cellInt=l:=by
 unfold numsL
 rw [List.map_map]
 conv=>rhs;rw [←List.map_id l]
 exact List.map_congr_left fun c hc=>cellInt_back (mayL_of h c hc)
end Go.Proofs.YtafmbnafibahkaaGreat
