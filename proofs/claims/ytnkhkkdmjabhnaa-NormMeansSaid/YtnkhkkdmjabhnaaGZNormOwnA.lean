/- Layer 17's own ofTwo, head, True, comparePrints, samePrint. -/
import Derived.Test.YtnkhkkdmjabhnaaGVary
import Derived.Test.YtnkhkkdmjabhnaaGStrs
import Derived.Test.YtnkhkkdmjabhnaaGZNormParts
import Derived.Test.YtnkhkkdmjabhnaaGZStableSort
import Derived.Test.YtnkhkkdmjabhnaaGZTermEnd
import Derived.Test.YtnkhkkdmjabhnaaGZTermOwn
namespace Go.Proofs.Ytnkhkkdmjabhnaa
open Go Go.RowKit
def twoOf (o:Int)(t:Trm):Bool:=decide (t.op=o)&&decide (t.kids.length=2)
set_option maxHeartbeats 1000000 in
theorem of_two_calls {w:World}{v:Value}{t:Trm}(h:TermIn w v t)(o:Int):GivesAt Try.prog 43 #[v,.int .u8 o] w (.bool (twoOf o t)):=by
 obtain ⟨hb,hB⟩:=start w
 obtain ⟨kv,rfl,-,hk⟩:=h
 obtain ⟨op,col,cell,ks⟩:=t
 obtain ⟨A,cap,rfl,-⟩:=kids_at hk
 dsimp only [trmA,Trm.op,Trm.col,Trm.cell,Trm.kids]
 clear hk
 unfold GivesAt
 have ha:=Below.alloc (.refl w.heap.size w) (Nat.le_refl _) (.cells #[.int .u8 op,.int .i64 col,.string cell,.slice A ks.length cap] 24)
 by_cases h1:op=o
 ·have d1:(op==o)=true:=by simp [h1]
  by_cases h2:ks.length=2
  ·have d2:((ks.length:Int)==2)=true:=by simp;omega
   have HR:Hid (twoOf o (.mk op col cell ks)=true):=by show (decide (op=o)&&decide (ks.length=2))=true;simp [h1,h2]
   clear h1 h2
   generalize ks.length=n at *
   go_enter Try.func43,Try.ntmps43
   go_wp2
   go_ret
   rw [HR.out]
   exact ⟨rfl,ha⟩
  ·have d2:((ks.length:Int)==2)=false:=by simp;omega
   have HR:Hid (twoOf o (.mk op col cell ks)=false):=by show (decide (op=o)&&decide (ks.length=2))=false;simp [h2]
   clear h1 h2
   generalize ks.length=n at *
   go_enter Try.func43,Try.ntmps43
   go_wp2
   go_ret
   rw [HR.out]
   exact ⟨rfl,ha⟩
 ·have d1:(op==o)=false:=by simp [h1]
  have HR:Hid (twoOf o (.mk op col cell ks)=false):=by show (decide (op=o)&&decide (ks.length=2))=false;simp [h1]
  clear h1
  generalize ks.length=n at *
  go_enter Try.func43,Try.ntmps43
  go_wp2
  go_ret
  rw [HR.out]
  exact ⟨rfl,ha⟩
theorem byte_back {op:Int}(h0:0≤op)(h1:op≤255):((UInt8.ofNat op.toNat).toNat:Int)=op:=by rw [toNat_ofNat (by omega)];omega
theorem own_byte (w:World)(T:TypeId){op:Int}(h0:0≤op)(h1:op≤255){B:Nat}(hB:B≤w.heap.size):OwnB (w.alloc (.cells #[.int .u8 op] T)) B (.slice (some ⟨w.heap.size,0,none⟩) 1 1) [UInt8.ofNat op.toNat]:=by
 have h:=Own.lit (B:=B) (size:=1) w #[.int .u8 op] T 1 hB (by unfold maxLen;omega) rfl
 unfold OwnB
 have e:bytesV [UInt8.ofNat op.toNat]=[Value.int .u8 op]:=by
  show [Value.int .u8 ((UInt8.ofNat op.toNat).toNat:Int)]=_
  rw [byte_back h0 h1]
 rw [e];exact h
theorem len_add {L:List UInt8}{k m:Nat}{s:ByteArray}(h:L.length≤k)(hs:s.size≤m):(L++s.data.toList).length≤k+m:=by
 rw [List.length_append]
 exact Nat.add_le_add h hs
set_option maxHeartbeats 4000000 in
set_option maxRecDepth 100000 in
theorem head_calls {w:World}{v:Value}{t:Trm}(h:TermIn w v t)(hc:t.cell.size≤1000000000)(hn:t.kids.length≤1000000000):GivesAt Try.prog 41 #[v] w (.string (mkB (headL t.op t.col t.cell t.kids.length))):=by
 obtain ⟨i0,hi,hz0,hz1,hz2⟩:=info_parts Try.infoB5
 obtain ⟨kv,rfl,ho,hk⟩:=h
 obtain ⟨op,col,cell,ks⟩:=t
 obtain ⟨A,cap,rfl,-⟩:=kids_at hk
 dsimp only [trmA,Trm.op,Trm.col,Trm.cell,Trm.kids] at *
 obtain ⟨o0,o1,o2,o3⟩:=ho
 replace o0:0≤op:=o0
 replace o1:op≤255:=o1
 replace o2 : -9223372036854775808≤col:=o2
 replace o3:col≤9223372036854775807:=o3
 clear hk
 generalize ks.length=n at *
 unfold GivesAt
 have hx:=trmbox_lit w 24 op col cell (.slice A n cap)
 have hs1:(w.alloc (.cells #[.int .u8 op,.int .i64 col,.string cell,.slice A n cap] 24)).heap.size=w.heap.size+1:=by simp
 have ha:=Below.alloc (.refl w.heap.size w) (Nat.le_refl _) (.cells #[.int .u8 op,.int .i64 col,.string cell,.slice A n cap] 24)
 have ha2:=Below.alloc (.refl _ (w.alloc (.cells #[.int .u8 op,.int .i64 col,.string cell,.slice A n cap] 24))) (Nat.le_refl _) (.cells #[.int .u8 op] 5)
 have hO:=own_byte (w.alloc (.cells #[.int .u8 op,.int .i64 col,.string cell,.slice A n cap] 24)) 5 o0 o1 (B:=w.heap.size+1) (by rw [hs1];exact Nat.le_refl _)
 rw [hs1] at hO
 have HX:=Lib.hid (hx.later ha2)
 obtain ⟨L0,HL0⟩:∃ x,Hid (x=[UInt8.ofNat op.toNat]):=⟨_,rfl⟩
 rw [←HL0.out] at hO
 have HO:=Lib.hid hO
 have HLN:Hid (L0.length≤1):=by rw [HL0.out];exact Nat.le_refl _
 have HB:=Lib.hid (ha.trans (ha2.mono ha.size))
 have HS:Hid (w.heap.size+2≤((w.alloc (.cells #[.int .u8 op,.int .i64 col,.string cell,.slice A n cap] 24)).alloc (.cells #[.int .u8 op] 5)).heap.size):=by show _≤_;simp
 obtain ⟨c0,c1,c2,c3,-⟩:=HX.out.cells
 clear hx ha ha2 hO hs1
 have HFO:=Lib.hid (fold_calls col o2 o3)
 have HRG:=Lib.hid (foldI_range col o2 o3)
 have e99:(op==99)=decide (op=99):=by by_cases h:op=99 <;> simp [h]
 have e107:(op==107)=decide (op=107):=by by_cases h:op=107 <;> simp [h]
 by_cases h99:op=99
 ·obtain ⟨c,hc2⟩:∃ c:Nat,foldI col=c:=⟨(foldI col).toNat,by have:=HRG.out;omega⟩
  have HRES:Hid (headL op col cell n=[UInt8.ofNat op.toNat]++vp c++vp n):=by
   show headL op col cell n=_
   unfold headL fieldL
   rw [if_pos h99,hc2];simp
  have HN:=Lib.hid (print_calls c (by have:=HRG.out;omega))
  have HL:Hid ((vp c).length≤10):=vp_len_10 (by have:=HRG.out;omega)
  rw [hc2] at HFO
  subst h99
  clear e99 e107 o0 o1 hc2 HRG
  go_enter Try.func41,Try.ntmps41
  go_wp2_with fail
  generalize World.alloc (World.alloc w _) _=w2 at *
  clear c0 c1 c2 c3
  refine (HFO.out _).mono ?_
  rintro e w3 ⟨rfl,rfl⟩
  go_wp2_with fail
  refine (HN.out).stepB (w0:=w2) (B:=w2.heap.size) (.refl _ _) (Nat.le_refl _) ?_
  intro w4 _ _ hq
  have HXn:=Lib.hid (HX.out.later hq)
  have HOn:=Lib.hid (HO.out.later hq)
  have HBn:=Lib.hid (HB.out.trans (hq.mono HB.out.size))
  have HSn:Hid (w.heap.size+2≤w4.heap.size):=Nat.le_trans HS.out hq.size
  clear HX HO HB HS hq
  have HX:=HXn
  have HO:=HOn
  have HB:=HBn
  have HS:=HSn
  clear HXn HOn HBn HSn
  obtain ⟨c0,c1,c2,c3,-⟩:=HX.out.cells
  go_wp2_with (at_builtin;refine wpList_append_Own_string rfl _ _ 42 9 rfl 5 i0 Try.underlying42 Try.underlying9 hi hz0 hz1 hz2 _ _ rfl HO.out (printB c) rfl ?bnd (by have:=HS.out;omega) ?_)
  case bnd=>have h0:(printB c).data.toList.length=(printB c).size:=rfl;have hl:=HLN.out;have h9:_:=(show (printB c).size≤1000000000 from by have h9:(printB c).size=(vp c).length:=print_len c;have:=HL.out;omega);omega
  clear c0 c1 c2 c3
  intro v5 w5 hO5 hg5
  obtain ⟨L5,HL5⟩:∃ x,Hid (x=L0++(printB c).data.toList):=⟨_,rfl⟩
  rw [←HL5.out] at hO5
  have HLNn:=len_add HLN.out (s:=printB c) (m:=1000000000) (by exact (show (printB c).size≤1000000000 from by have h9:(printB c).size=(vp c).length:=print_len c;have:=HL.out;omega))
  clear HLN
  have HLN:=Lib.hid HLNn
  rw [←HL5.out] at HLN
  clear HLNn
  have HXn:=Lib.hid (HX.out.other hg5 (fun e=>by have:=(HO.out.lt _ e).1;omega))
  have HBn:=Lib.hid (HB.out.grown hg5 HB.out.size (fun k hk=>by have:=(HO.out.lt k hk).1;omega))
  have HSn:Hid (w.heap.size+2≤w5.heap.size):=Nat.le_trans HS.out hg5.size
  clear HX HO HB HS hg5
  have HX:=HXn
  have HO:=Lib.hid hO5
  have HB:=HBn
  have HS:=HSn
  clear HXn HBn HSn hO5
  obtain ⟨_,_,e5⟩:=HO.out.len
  subst e5
  obtain ⟨c0,c1,c2,c3,-⟩:=HX.out.cells
  go_wp2_with fail
  refine (print_calls n (by omega)).stepB (w0:=w5) (B:=w5.heap.size) (.refl _ _) (Nat.le_refl _) ?_
  intro w8 _ _ hq
  have HXn:=Lib.hid (HX.out.later hq)
  have HOn:=Lib.hid (HO.out.later hq)
  have HBn:=Lib.hid (HB.out.trans (hq.mono HB.out.size))
  have HSn:Hid (w.heap.size+2≤w8.heap.size):=Nat.le_trans HS.out hq.size
  clear HX HO HB HS hq
  have HX:=HXn
  have HO:=HOn
  have HB:=HBn
  have HS:=HSn
  clear HXn HOn HBn HSn
  obtain ⟨c0,c1,c2,c3,-⟩:=HX.out.cells
  go_wp2_with (at_builtin;refine wpList_append_Own_string rfl _ _ 42 9 rfl 5 i0 Try.underlying42 Try.underlying9 hi hz0 hz1 hz2 _ _ rfl HO.out (printB n) rfl ?bnd (by have:=HS.out;omega) ?_)
  case bnd=>have h0:(printB n).data.toList.length=(printB n).size:=rfl;have hl:=HLN.out;have h9:_:=(show (printB n).size≤1000000000 from by have h9:(printB n).size=(vp n).length:=print_len n;have:=vp_len_10 (n:=n) (by omega);omega);omega
  clear c0 c1 c2 c3
  intro v9 w9 hO5 hg5
  obtain ⟨L9,HL9⟩:∃ x,Hid (x=L5++(printB n).data.toList):=⟨_,rfl⟩
  rw [←HL9.out] at hO5
  have HLNn:=len_add HLN.out (s:=printB n) (m:=1000000000) (by exact (show (printB n).size≤1000000000 from by have h9:(printB n).size=(vp n).length:=print_len n;have:=vp_len_10 (n:=n) (by omega);omega))
  clear HLN
  have HLN:=Lib.hid HLNn
  rw [←HL9.out] at HLN
  clear HLNn
  have HXn:=Lib.hid (HX.out.other hg5 (fun e=>by have:=(HO.out.lt _ e).1;omega))
  have HBn:=Lib.hid (HB.out.grown hg5 HB.out.size (fun k hk=>by have:=(HO.out.lt k hk).1;omega))
  have HSn:Hid (w.heap.size+2≤w9.heap.size):=Nat.le_trans HS.out hg5.size
  clear HX HO HB HS hg5
  have HX:=HXn
  have HO:=Lib.hid hO5
  have HB:=HBn
  have HS:=HSn
  clear HXn HBn HSn hO5
  obtain ⟨_,_,e5⟩:=HO.out.len
  subst e5
  obtain ⟨c0,c1,c2,c3,-⟩:=HX.out.cells
  have HE:=Lib.hid (run_string_own HO.out 42 9 5 Try.underlying42 Try.underlying5 Try.underlying9)
  have hconv:=HE.out
  clear HE c0 c1 c2 c3
  go_wp2
  go_ret
  exact ⟨ret_str (by rw [HRES.out,HL9.out,HL5.out,HL0.out];rfl),HB.out⟩
 ·by_cases h107:op=107
  ·have HRES:Hid (headL op col cell n=[UInt8.ofNat op.toNat]++vp cell.size++cell.data.toList++vp n):=by
    show headL op col cell n=_
    unfold headL fieldL
    rw [if_neg h99,if_pos h107];simp
   have HN:=Lib.hid (print_calls cell.size (by omega))
   have HL:Hid ((vp cell.size).length≤10):=vp_len_10 (by omega)
   subst h107
   have d99:((107:Int)==99)=false:=by decide
   have d107:((107:Int)==107)=true:=by decide
   clear e99 e107 o0 o1 HRG h99
   go_enter Try.func41,Try.ntmps41
   go_wp2_with fail
   generalize World.alloc (World.alloc w _) _=w2 at *
   clear c0 c1 c2 c3
   refine (HN.out).stepB (w0:=w2) (B:=w2.heap.size) (.refl _ _) (Nat.le_refl _) ?_
   intro w4 _ _ hq
   have HXn:=Lib.hid (HX.out.later hq)
   have HOn:=Lib.hid (HO.out.later hq)
   have HBn:=Lib.hid (HB.out.trans (hq.mono HB.out.size))
   have HSn:Hid (w.heap.size+2≤w4.heap.size):=Nat.le_trans HS.out hq.size
   clear HX HO HB HS hq
   have HX:=HXn
   have HO:=HOn
   have HB:=HBn
   have HS:=HSn
   clear HXn HOn HBn HSn
   obtain ⟨c0,c1,c2,c3,-⟩:=HX.out.cells
   go_wp2_with (at_builtin;refine wpList_append_Own_string rfl _ _ 42 9 rfl 5 i0 Try.underlying42 Try.underlying9 hi hz0 hz1 hz2 _ _ rfl HO.out (printB cell.size) rfl ?bnd (by have:=HS.out;omega) ?_)
   case bnd=>have h0:(printB cell.size).data.toList.length=(printB cell.size).size:=rfl;have hl:=HLN.out;have h9:_:=(show (printB cell.size).size≤1000000000 from by have h9:(printB cell.size).size=(vp cell.size).length:=print_len cell.size;have:=HL.out;omega);omega
   clear c0 c1 c2 c3
   intro v5 w5 hO5 hg5
   obtain ⟨L5,HL5⟩:∃ x,Hid (x=L0++(printB cell.size).data.toList):=⟨_,rfl⟩
   rw [←HL5.out] at hO5
   have HLNn:=len_add HLN.out (s:=printB cell.size) (m:=1000000000) (by exact (show (printB cell.size).size≤1000000000 from by have h9:(printB cell.size).size=(vp cell.size).length:=print_len cell.size;have:=HL.out;omega))
   clear HLN
   have HLN:=Lib.hid HLNn
   rw [←HL5.out] at HLN
   clear HLNn
   have HXn:=Lib.hid (HX.out.other hg5 (fun e=>by have:=(HO.out.lt _ e).1;omega))
   have HBn:=Lib.hid (HB.out.grown hg5 HB.out.size (fun k hk=>by have:=(HO.out.lt k hk).1;omega))
   have HSn:Hid (w.heap.size+2≤w5.heap.size):=Nat.le_trans HS.out hg5.size
   clear HX HO HB HS hg5
   have HX:=HXn
   have HO:=Lib.hid hO5
   have HB:=HBn
   have HS:=HSn
   clear HXn HBn HSn hO5
   obtain ⟨_,_,e5⟩:=HO.out.len
   subst e5
   obtain ⟨c0,c1,c2,c3,-⟩:=HX.out.cells
   go_wp2_with (at_builtin;refine wpList_append_Own_string rfl _ _ 42 9 rfl 5 i0 Try.underlying42 Try.underlying9 hi hz0 hz1 hz2 _ _ rfl HO.out (cell) rfl ?bnd (by have:=HS.out;omega) ?_)
   case bnd=>have h0:(cell).data.toList.length=(cell).size:=rfl;have hl:=HLN.out;have h9:_:=(show cell.size≤1000000000 from by omega);omega
   clear c0 c1 c2 c3
   intro v6 w6 hO5 hg5
   obtain ⟨L6,HL6⟩:∃ x,Hid (x=L5++(cell).data.toList):=⟨_,rfl⟩
   rw [←HL6.out] at hO5
   have HLNn:=len_add HLN.out (s:=cell) (m:=1000000000) (by exact (show cell.size≤1000000000 from by omega))
   clear HLN
   have HLN:=Lib.hid HLNn
   rw [←HL6.out] at HLN
   clear HLNn
   have HXn:=Lib.hid (HX.out.other hg5 (fun e=>by have:=(HO.out.lt _ e).1;omega))
   have HBn:=Lib.hid (HB.out.grown hg5 HB.out.size (fun k hk=>by have:=(HO.out.lt k hk).1;omega))
   have HSn:Hid (w.heap.size+2≤w6.heap.size):=Nat.le_trans HS.out hg5.size
   clear HX HO HB HS hg5
   have HX:=HXn
   have HO:=Lib.hid hO5
   have HB:=HBn
   have HS:=HSn
   clear HXn HBn HSn hO5
   obtain ⟨_,_,e5⟩:=HO.out.len
   subst e5
   obtain ⟨c0,c1,c2,c3,-⟩:=HX.out.cells
   go_wp2_with fail
   refine (print_calls n (by omega)).stepB (w0:=w6) (B:=w6.heap.size) (.refl _ _) (Nat.le_refl _) ?_
   intro w8 _ _ hq
   have HXn:=Lib.hid (HX.out.later hq)
   have HOn:=Lib.hid (HO.out.later hq)
   have HBn:=Lib.hid (HB.out.trans (hq.mono HB.out.size))
   have HSn:Hid (w.heap.size+2≤w8.heap.size):=Nat.le_trans HS.out hq.size
   clear HX HO HB HS hq
   have HX:=HXn
   have HO:=HOn
   have HB:=HBn
   have HS:=HSn
   clear HXn HOn HBn HSn
   obtain ⟨c0,c1,c2,c3,-⟩:=HX.out.cells
   go_wp2_with (at_builtin;refine wpList_append_Own_string rfl _ _ 42 9 rfl 5 i0 Try.underlying42 Try.underlying9 hi hz0 hz1 hz2 _ _ rfl HO.out (printB n) rfl ?bnd (by have:=HS.out;omega) ?_)
   case bnd=>have h0:(printB n).data.toList.length=(printB n).size:=rfl;have hl:=HLN.out;have h9:_:=(show (printB n).size≤1000000000 from by have h9:(printB n).size=(vp n).length:=print_len n;have:=vp_len_10 (n:=n) (by omega);omega);omega
   clear c0 c1 c2 c3
   intro v9 w9 hO5 hg5
   obtain ⟨L9,HL9⟩:∃ x,Hid (x=L6++(printB n).data.toList):=⟨_,rfl⟩
   rw [←HL9.out] at hO5
   have HLNn:=len_add HLN.out (s:=printB n) (m:=1000000000) (by exact (show (printB n).size≤1000000000 from by have h9:(printB n).size=(vp n).length:=print_len n;have:=vp_len_10 (n:=n) (by omega);omega))
   clear HLN
   have HLN:=Lib.hid HLNn
   rw [←HL9.out] at HLN
   clear HLNn
   have HXn:=Lib.hid (HX.out.other hg5 (fun e=>by have:=(HO.out.lt _ e).1;omega))
   have HBn:=Lib.hid (HB.out.grown hg5 HB.out.size (fun k hk=>by have:=(HO.out.lt k hk).1;omega))
   have HSn:Hid (w.heap.size+2≤w9.heap.size):=Nat.le_trans HS.out hg5.size
   clear HX HO HB HS hg5
   have HX:=HXn
   have HO:=Lib.hid hO5
   have HB:=HBn
   have HS:=HSn
   clear HXn HBn HSn hO5
   obtain ⟨_,_,e5⟩:=HO.out.len
   subst e5
   obtain ⟨c0,c1,c2,c3,-⟩:=HX.out.cells
   have HE:=Lib.hid (run_string_own HO.out 42 9 5 Try.underlying42 Try.underlying5 Try.underlying9)
   have hconv:=HE.out
   clear HE c0 c1 c2 c3
   go_wp2
   go_ret
   exact ⟨ret_str (by rw [HRES.out,HL9.out,HL6.out,HL5.out,HL0.out];rfl),HB.out⟩
  ·have HRES:Hid (headL op col cell n=[UInt8.ofNat op.toNat]++vp n):=by
    show headL op col cell n=_
    unfold headL fieldL
    rw [if_neg h99,if_neg h107];simp
   have d99:(op==99)=false:=by simp [h99]
   have d107:(op==107)=false:=by simp [h107]
   clear e99 e107 o0 o1 HRG h99 h107
   go_enter Try.func41,Try.ntmps41
   go_wp2_with fail
   generalize World.alloc (World.alloc w _) _=w2 at *
   clear c0 c1 c2 c3
   refine (print_calls n (by omega)).stepB (w0:=w2) (B:=w2.heap.size) (.refl _ _) (Nat.le_refl _) ?_
   intro w8 _ _ hq
   have HXn:=Lib.hid (HX.out.later hq)
   have HOn:=Lib.hid (HO.out.later hq)
   have HBn:=Lib.hid (HB.out.trans (hq.mono HB.out.size))
   have HSn:Hid (w.heap.size+2≤w8.heap.size):=Nat.le_trans HS.out hq.size
   clear HX HO HB HS hq
   have HX:=HXn
   have HO:=HOn
   have HB:=HBn
   have HS:=HSn
   clear HXn HOn HBn HSn
   obtain ⟨c0,c1,c2,c3,-⟩:=HX.out.cells
   go_wp2_with (at_builtin;refine wpList_append_Own_string rfl _ _ 42 9 rfl 5 i0 Try.underlying42 Try.underlying9 hi hz0 hz1 hz2 _ _ rfl HO.out (printB n) rfl ?bnd (by have:=HS.out;omega) ?_)
   case bnd=>have h0:(printB n).data.toList.length=(printB n).size:=rfl;have hl:=HLN.out;have h9:_:=(show (printB n).size≤1000000000 from by have h9:(printB n).size=(vp n).length:=print_len n;have:=vp_len_10 (n:=n) (by omega);omega);omega
   clear c0 c1 c2 c3
   intro v9 w9 hO5 hg5
   obtain ⟨L9,HL9⟩:∃ x,Hid (x=L0++(printB n).data.toList):=⟨_,rfl⟩
   rw [←HL9.out] at hO5
   have HLNn:=len_add HLN.out (s:=printB n) (m:=1000000000) (by exact (show (printB n).size≤1000000000 from by have h9:(printB n).size=(vp n).length:=print_len n;have:=vp_len_10 (n:=n) (by omega);omega))
   clear HLN
   have HLN:=Lib.hid HLNn
   rw [←HL9.out] at HLN
   clear HLNn
   have HXn:=Lib.hid (HX.out.other hg5 (fun e=>by have:=(HO.out.lt _ e).1;omega))
   have HBn:=Lib.hid (HB.out.grown hg5 HB.out.size (fun k hk=>by have:=(HO.out.lt k hk).1;omega))
   have HSn:Hid (w.heap.size+2≤w9.heap.size):=Nat.le_trans HS.out hg5.size
   clear HX HO HB HS hg5
   have HX:=HXn
   have HO:=Lib.hid hO5
   have HB:=HBn
   have HS:=HSn
   clear HXn HBn HSn hO5
   obtain ⟨_,_,e5⟩:=HO.out.len
   subst e5
   obtain ⟨c0,c1,c2,c3,-⟩:=HX.out.cells
   have HE:=Lib.hid (run_string_own HO.out 42 9 5 Try.underlying42 Try.underlying5 Try.underlying9)
   have hconv:=HE.out
   clear HE c0 c1 c2 c3
   go_wp2
   go_ret
   exact ⟨ret_str (by rw [HRES.out,HL9.out,HL0.out];rfl),HB.out⟩
theorem true_calls (w:World):Calls Try.prog 18 #[] w (TermEndQ (fun u=>u=.slice none 0 0) w trueT):=by
 have ho:okT trueT:=true_ok.ok
 have HO:=Lib.hid ho
 have HB:=Lib.hid (bool_calls true)
 clear ho
 obtain ⟨hb,hB⟩:=start w
 unfold TermEndQ
 go_enter Try.func18,Try.ntmps18
 have hr:=trmbox_lit w 24 0 0 ⟨#[]⟩ (.slice none 0 0)
 have HR:=Lib.hid hr
 have HA:=Lib.hid (Below.alloc (.refl w.heap.size w) (Nat.le_refl _) (.cells #[.int .u8 0,.int .i64 0,.string ⟨#[]⟩,.slice none 0 0] 24))
 clear hr hb hB
 go_wp2_with fail
 generalize World.alloc w _=w1 at *
 refine HB.out.stepB (w0:=w1) (B:=w1.heap.size) (.refl _ _) (Nat.le_refl _) ?_
 intro w2 _ _ hq
 have hr2:=HR.out.later hq
 obtain ⟨c0,c1,c2,c3,-⟩:=hr2.cells
 obtain ⟨f0,f1,f2,f3⟩:=hr2.free
 have HP:=Lib.hid (hr2.putAll 107 0 (boolCell true) (.slice none 0 0))
 have hb2:=HA.out.trans (hq.mono HA.out.size)
 have HBE:=Lib.hid ((((hb2.setCell (p:=⟨w.heap.size,0,none⟩) (Nat.le_refl _) (.int .u8 107)).setCell (p:=⟨w.heap.size,1,none⟩) (Nat.le_refl _) (.int .i64 0)).setCell (p:=⟨w.heap.size,2,none⟩) (Nat.le_refl _) (.string (boolCell true))).setCell (p:=⟨w.heap.size,3,none⟩) (Nat.le_refl _) (.slice none 0 0))
 clear hr2 hb2 hq HR HA
 go_wp2
 clear c0 c1 c2 c3 f0 f1 f2 f3
 obtain ⟨g0,g1,g2,g3,_⟩:=HP.out.cells
 refine ⟨rfl,trmA (.slice none 0 0,trueT),?_,_,rfl,⟨_,rfl,HO.out,KidsQ.nil_ _ _ _ _ rfl⟩,HBE.out⟩
 simp [results,Try.results18,go_sem,trmA,trueT,yesC,Trm.op,Trm.col,Trm.cell,g0,g1,g2,g3]
theorem ref_true_calls (w:World):Calls Try.prog 19 #[] w (TermEndQ (fun u=>u=.slice none 0 0) w trueT):=by
 have ho:okT trueT:=true_ok.ok
 have HO:=Lib.hid ho
 have HB:=Lib.hid (ref_bool_calls true)
 clear ho
 obtain ⟨hb,hB⟩:=start w
 unfold TermEndQ
 go_enter Try.func19,Try.ntmps19
 have hr:=trmbox_lit w 24 0 0 ⟨#[]⟩ (.slice none 0 0)
 have HR:=Lib.hid hr
 have HA:=Lib.hid (Below.alloc (.refl w.heap.size w) (Nat.le_refl _) (.cells #[.int .u8 0,.int .i64 0,.string ⟨#[]⟩,.slice none 0 0] 24))
 clear hr hb hB
 go_wp2_with fail
 generalize World.alloc w _=w1 at *
 refine HB.out.stepB (w0:=w1) (B:=w1.heap.size) (.refl _ _) (Nat.le_refl _) ?_
 intro w2 _ _ hq
 have hr2:=HR.out.later hq
 obtain ⟨c0,c1,c2,c3,-⟩:=hr2.cells
 obtain ⟨f0,f1,f2,f3⟩:=hr2.free
 have HP:=Lib.hid (hr2.putAll 107 0 (boolCell true) (.slice none 0 0))
 have hb2:=HA.out.trans (hq.mono HA.out.size)
 have HBE:=Lib.hid ((((hb2.setCell (p:=⟨w.heap.size,0,none⟩) (Nat.le_refl _) (.int .u8 107)).setCell (p:=⟨w.heap.size,1,none⟩) (Nat.le_refl _) (.int .i64 0)).setCell (p:=⟨w.heap.size,2,none⟩) (Nat.le_refl _) (.string (boolCell true))).setCell (p:=⟨w.heap.size,3,none⟩) (Nat.le_refl _) (.slice none 0 0))
 clear hr2 hb2 hq HR HA
 go_wp2
 clear c0 c1 c2 c3 f0 f1 f2 f3
 obtain ⟨g0,g1,g2,g3,_⟩:=HP.out.cells
 refine ⟨rfl,trmA (.slice none 0 0,trueT),?_,_,rfl,⟨_,rfl,HO.out,KidsQ.nil_ _ _ _ _ rfl⟩,HBE.out⟩
 simp [results,Try.results19,go_sem,trmA,trueT,yesC,Trm.op,Trm.col,Trm.cell,g0,g1,g2,g3]
theorem two_grow (w:World)(o1 o2:Obj):(w.alloc o1).alloc o2=Go.Sort.grow (w.drewN 0) #[o1,o2]:=by
 rw [Go.Sort.alloc_eq_grow,Go.Sort.alloc_eq_grow,Go.Sort.grow_grow]
 rfl
set_option maxHeartbeats 1000000 in
theorem compare_prints_lays (x y:PartV)(w:World):Calls Try.prog 31 #[.agg (encV x).toArray,.agg (encV y).toArray] w fun e w'=>e=.returned (.int .i64 (cb x.pr.data.toList y.pr.data.toList))∧∃ q os',w'=Go.Sort.grow (w.drewN q) os':=by
 have HC:=Lib.hid (Try.strings_Compare x.pr y.pr)
 obtain ⟨tx,⟨ox,cx,bx,kx⟩,Ax,nx,px,rx⟩:=x
 obtain ⟨ty,⟨oy,cy,b_y,ky⟩,Ay,ny,p_y,ry⟩:=y
 dsimp only [encV,Trm.op,Trm.col,Trm.cell] at *
 go_enter Try.func31,Try.ntmps31
 go_wp2_with fail
 refine (HC.out _).mono ?_
 rintro e w2 ⟨rfl,rfl⟩
 go_wp2
 go_ret
 exact ⟨rfl,0,#[.cells #[.int .u8 ox,.int .i64 cx,.string bx,.slice Ax nx px,.string rx] 52,.cells #[.int .u8 oy,.int .i64 cy,.string b_y,.slice Ay ny p_y,.string ry] 52],two_grow w _ _⟩
set_option maxHeartbeats 1000000 in
theorem same_print_lays (x y:PartV)(w:World):Calls Try.prog 33 #[.agg (encV x).toArray,.agg (encV y).toArray] w fun e w'=>e=.returned (.bool (x.pr.toList==y.pr.toList))∧∃ q os',w'=Go.Sort.grow (w.drewN q) os':=by
 obtain ⟨tx,⟨ox,cx,bx,kx⟩,Ax,nx,px,rx⟩:=x
 obtain ⟨ty,⟨oy,cy,b_y,ky⟩,Ay,ny,p_y,ry⟩:=y
 dsimp only [encV,Trm.op,Trm.col,Trm.cell] at *
 go_enter Try.func33,Try.ntmps33
 go_wp2
 go_ret
 exact ⟨rfl,0,#[.cells #[.int .u8 ox,.int .i64 cx,.string bx,.slice Ax nx px,.string rx] 52,.cells #[.int .u8 oy,.int .i64 cy,.string b_y,.slice Ay ny p_y,.string ry] 52],two_grow w _ _⟩
end Go.Proofs.Ytnkhkkdmjabhnaa
