/- Layer 16's laws: great. -/
import Derived.Test.YtegpikfgajoopaaGZKindsLawsPure
import Derived.Test.YtegpikfgajoopaaGZKindsOwn
import Derived.Test.YtegpikfgajoopaaGZKindsParts
namespace Go.Proofs.Ytegpikfgajoopaa
open Go Go.RowKit
mutual
def greatK (deep:Nat):Trm→Bool
 | .mk _ _ cell ks=>decide (40 < deep)||(decide (4 < ks.length)||(decide (100 < cell.size)||(greatKs (deep+1) ks||decide (60 < wrap64 (sizeTs ks:Nat)))))
def greatKs (deep:Nat):List Trm→Bool
 | []=>false
 | k::ks=>greatK deep k||greatKs deep ks
end
theorem greatKs_any (deep:Nat):∀ ks:List Trm,greatKs deep ks=ks.any (greatK deep)
 | []=>rfl
 | k::ks=>by rw [greatKs,greatKs_any deep ks];rfl
theorem sizeTs_le {n:Nat}:∀ ks:List Trm,(∀ k∈ks,sizeT k≤n)→sizeTs ks≤ks.length*n
 | [],_=>by rw [sizeTs];exact Nat.zero_le _
 | k::ks,h=>by
  rw [sizeTs,List.length_cons,Nat.add_mul,Nat.one_mul]
  have h1:=h k (List.mem_cons_self ..)
  have h2:=sizeTs_le ks fun k' hk'=>h k' (List.mem_cons_of_mem _ hk')
  omega
theorem greatK_size (t:Trm):∀ deep,greatK deep t=false→sizeT t≤61:=by
 refine Trm.ind (P:=fun t=>∀ deep,greatK deep t=false→sizeT t≤61) (fun t ih=>?_) t
 intro deep h
 obtain ⟨op,col,cell,ks⟩:=t
 rw [greatK] at h
 simp only [Bool.or_eq_false_iff,decide_eq_false_iff_not] at h
 obtain ⟨_,h2,_,h4,h5⟩:=h
 rw [greatKs_any,List.any_eq_false] at h4
 have h6:=sizeTs_le (n:=61) ks fun k hk=>ih k hk (deep+1) (by simpa using h4 k hk)
 have h7:ks.length*61≤4*61:=Nat.mul_le_mul_right _ (by omega)
 rw [sizeT]
 unfold wrap64 at h5
 omega
def GreatKAt (t:Trm):Prop:=∀ (w:World)(v:Value)(deep:Nat),deep≤41→TermIn w v t→GivesAt Try.prog 7 #[v,.int .i64 deep] w (.bool (greatK deep t))
set_option maxHeartbeats 2000000 in
theorem great16_calls (t:Trm):GreatKAt t:=by
 refine Trm.ind (P:=GreatKAt) (fun t ih=>?_) t
 intro w v deep hd ht
 obtain ⟨op,col,cell,ks⟩:=t
 obtain ⟨kv,rfl,ho,hk⟩:=ht
 replace hk:KidsIn w kv ks:=hk
 have hm:=hk.len
 unfold maxLen at hm
 obtain ⟨A,cap,rfl,hat⟩:=kids_at hk
 have HAT:=Lib.hid hat
 have HIH:Hid (∀ k∈ks,GreatKAt k):=fun k hk=>ih k hk
 have hb:=Below.alloc (.refl w.heap.size w) (Nat.le_refl _) (.cells #[.int .u8 op,.int .i64 col,.string cell,.slice A ks.length cap] 24)
 have hB:=hb.size
 have HX:=Lib.hid (trmbox_lit w 24 op col cell (.slice A ks.length cap))
 have hv0:greatK deep (.mk op col cell ks)=(decide (40 < deep)||(decide (4 < ks.length)||(decide (100 < cell.size)||(greatKs (deep+1) ks||decide (60 < wrap64 (sizeTs ks:Nat)))))):=by rw [greatK]
 rw [hv0]
 dsimp only [trmA,Trm.op,Trm.col,Trm.cell]
 unfold GivesAt
 clear ho hk hat ih hv0
 by_cases g1:40 < deep
 ·have d1:decide ((40:Int) < (deep:Int))=true:=decide_eq_true (by omega)
  have e1:decide (40 < deep)=true:=decide_eq_true g1
  rw [e1,Bool.true_or]
  go_enter Try.func7,Try.ntmps7
  go_wp2
  go_ret
  exact ⟨rfl,hb⟩
 ·have d1:decide ((40:Int) < (deep:Int))=false:=decide_eq_false (by omega)
  have e1:decide (40 < deep)=false:=decide_eq_false g1
  rw [e1,Bool.false_or]
  by_cases g2:4 < ks.length
  ·have d2:decide ((4:Int) < (ks.length:Int))=true:=decide_eq_true (by omega)
   have e2:decide (4 < ks.length)=true:=decide_eq_true g2
   rw [e2,Bool.true_or]
   go_enter Try.func7,Try.ntmps7
   go_wp2
   go_ret
   exact ⟨rfl,hb⟩
  ·have d2:decide ((4:Int) < (ks.length:Int))=false:=decide_eq_false (by omega)
   have e2:decide (4 < ks.length)=false:=decide_eq_false g2
   rw [e2,Bool.false_or]
   by_cases g3:100 < cell.size
   ·have d3:decide ((100:Int) < (cell.size:Int))=true:=decide_eq_true (by omega)
    have e3:decide (100 < cell.size)=true:=decide_eq_true g3
    rw [e3,Bool.true_or]
    go_enter Try.func7,Try.ntmps7
    go_wp2
    go_ret
    exact ⟨rfl,hb⟩
   ·have d3:decide ((100:Int) < (cell.size:Int))=false:=decide_eq_false (by omega)
    have e3:decide (100 < cell.size)=false:=decide_eq_false g3
    rw [e3,Bool.false_or]
    have HD:Hid (deep+1≤41):=Lib.hid (by omega)
    have hdi:(deep:Int)≤40:=by omega
    have hdj:(0:Int)≤deep:=by omega
    clear g1 g2 g3 hd
    have HB1:=Lib.hid hb
    go_enter Try.func7,Try.ntmps7
    go_wp2
    clear hb hB
    generalize w.alloc _=w1 at *
    go_loopw [5,6] (fun n i wr=>∃ j:Nat,j≤ks.length∧i=.int .i64 j∧n=.int .i64 (wrap64 ((sizeTs (ks.take j):Nat):Int))∧Hid (greatKs (deep+1) (ks.take j)=false)∧Below w1.heap.size w1 wr) (fun _ i _=>ks.length-(intOf i).toNat)
    case atStart=>exact ⟨0,Nat.zero_le _,rfl,by rw [List.take_zero,sizeTs];exact congrArg (Value.int .i64) (by unfold wrap64;decide),by rw [List.take_zero];exact Lib.hid rfl,.refl _ _⟩
    case round =>
     obtain ⟨j,hj,rfl,rfl,HG,hbr⟩:=hrel
     have hb:=HB1.out.trans (hbr.mono HB1.out.size)
     have hB:=hb.size
     have hBr:=hbr.size
     obtain ⟨y0,y1,y2,y3,_⟩:=(HX.out.later hbr).cells
     by_cases hlt:j < ks.length
     ·obtain ⟨b,off,ea,hb0,hc⟩:=HAT.out j hlt
      subst ea
      obtain ⟨kkv,ok,hkk,c0,c1,c2,c3⟩:=hc j hlt
      have x0:=(hb.cell (p:=⟨b,off+j*4,none⟩) hb0).trans c0
      have x1:=(hb.cell (p:=⟨b,off+j*4+1,none⟩) hb0).trans c1
      have x2:=(hb.cell (p:=⟨b,off+j*4+2,none⟩) hb0).trans c2
      have x3:=(hb.cell (p:=⟨b,off+j*4+3,none⟩) hb0).trans c3
      have HC0:=Lib.hid c0
      have HC1:=Lib.hid c1
      have HC2:=Lib.hid c2
      have HC3:=Lib.hid c3
      have HL0:=Lib.hid hb0
      have i0:(0:Int)≤(j:Int):=by omega
      have i1:(j:Int) < (ks.length:Int):=by omega
      have hcc:=HIH.out ks[j] (List.getElem_mem hlt) wr (trmA (kkv,ks[j])) (deep+1) HD.out ⟨kkv,rfl,ok,hkk.kept hb⟩
      rw [show ((deep+1:Nat):Int)=(deep:Int)+1 by omega] at hcc
      have HZ:Hid (∀ W,Below w.heap.size w W→GivesAt Try.prog 18 #[trmA (kkv,ks[j])] W (.int .i64 (wrap64 (sizeT ks[j]:Nat)))):=fun W hW=>ref_size_calls ks[j] W _ ⟨kkv,rfl,ok,hkk.kept hW⟩
      dsimp only [trmA] at hcc HZ
      have HC:=Lib.hid hcc
      obtain ⟨Ak,pk,rfl,-⟩:=kids_at hkk
      have HTK:Hid (greatKs (deep+1) (ks.take (j+1))=greatK (deep+1) ks[j]):=Lib.hid (by rw [greatKs_any,take_add ks j hlt,List.any_append,←greatKs_any,HG.out];simp)
      have HTE:Hid (greatK (deep+1) ks[j]=true→greatKs (deep+1) ks=true):=fun h=>by rw [greatKs_any,List.any_eq_true];exact ⟨ks[j],List.getElem_mem hlt,h⟩
      have HST:=Lib.hid (sizeTs_step hlt)
      clear hc c0 c1 c2 c3 hkk ok hcc hb0
      generalize ks[j].kids.length=nk at *
      generalize ks[j].op=ok1 at *
      generalize ks[j].col=ok2 at *
      generalize ks[j].cell=ok3 at *
      generalize sizeT ks[j]=sk at *
      generalize greatK (deep+1) ks[j]=g at *
      cases g with
      | true =>
       have HTF:=Lib.hid (HTE.out rfl)
       clear HTE
       go_wp2_with (go_at_call 7;refine HC.out.step (w0:=w) (B:=w.heap.size) hb hB ?_;clear hb hB x0 x1 x2 x3 y0 y1 y2 y3;intro w3 hb hB)
       go_ret
       exact ⟨ret_bool (by rw [HTF.out,Bool.true_or]),hb⟩
      | false =>
       go_wp2_with fail
       refine HC.out.stepB (w0:=w1) (B:=w1.heap.size) hbr hBr ?_
       clear hb hB hbr hBr x0 x1 x2 x3 y0 y1 y2 y3
       intro w3 hbr hBr _
       have hb:=HB1.out.trans (hbr.mono HB1.out.size)
       have x0:=(hb.cell (p:=⟨b,off+j*4,none⟩) HL0.out).trans HC0.out
       have x1:=(hb.cell (p:=⟨b,off+j*4+1,none⟩) HL0.out).trans HC1.out
       have x2:=(hb.cell (p:=⟨b,off+j*4+2,none⟩) HL0.out).trans HC2.out
       have x3:=(hb.cell (p:=⟨b,off+j*4+3,none⟩) HL0.out).trans HC3.out
       obtain ⟨y0,y1,y2,y3,_⟩:=(HX.out.later hbr).cells
       have HZ3:=Lib.hid (HZ.out _ hb)
       clear hb
       go_wp2_with (go_at_call 18;refine HZ3.out.step (w0:=w1) (B:=w1.heap.size) hbr hBr ?_;clear hbr hBr x0 x1 x2 x3 y0 y1 y2 y3;intro w4 hbr hBr)
       go_roundw
       case rel=>exact ⟨j+1,by omega,by go_num,by rw [HST.out,←wrap_plus],HTK,hbr⟩
       case measure=>simp [intOf];omega
     ·obtain rfl:j=ks.length:=by omega
      rw [List.take_length] at HG ⊢
      go_wp2
      go_ret
      exact ⟨ret_bool (by rw [HG.out,Bool.false_or]),hb⟩
end Go.Proofs.Ytegpikfgajoopaa
