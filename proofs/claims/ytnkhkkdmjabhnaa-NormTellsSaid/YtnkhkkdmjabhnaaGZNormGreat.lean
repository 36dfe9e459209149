/- Layer 17's laws: great, col, two. -/
import Derived.Test.YtnkhkkdmjabhnaaGZNormPartsRef
namespace Go.Proofs.Ytnkhkkdmjabhnaa
open Go Go.RowKit
mutual
def greatN (deep:Nat):Trm→Bool
 | .mk _ _ cell ks=>decide (8 < deep)||(decide (4 < ks.length)||(decide (100 < cell.size)||greatNs (deep+1) ks))
def greatNs (deep:Nat):List Trm→Bool
 | []=>false
 | k::ks=>greatN deep k||greatNs deep ks
end
theorem greatNs_any (deep:Nat):∀ ks:List Trm,greatNs deep ks=ks.any (greatN deep)
 | []=>rfl
 | k::ks=>by rw [greatNs,greatNs_any deep ks];rfl
theorem flat_len (n:Nat):∀ ls:List (List UInt8),(∀ l∈ls,l.length≤n)→ls.flatten.length≤ls.length*n
 | [],_=>by simp
 | l::ls,h=>by
  rw [List.flatten_cons,List.length_append,List.length_cons,Nat.add_mul,Nat.one_mul]
  have h1:=h l List.mem_cons_self
  have h2:=flat_len n ls fun l' hl=>h l' (List.mem_cons_of_mem _ hl)
  omega
theorem flat_lenT (n:Nat):∀ ls:List (List Trm),(∀ l∈ls,l.length≤n)→ls.flatten.length≤ls.length*n
 | [],_=>by simp
 | l::ls,h=>by
  rw [List.flatten_cons,List.length_append,List.length_cons,Nat.add_mul,Nat.one_mul]
  have h1:=h l List.mem_cons_self
  have h2:=flat_lenT n ls fun l' hl=>h l' (List.mem_cons_of_mem _ hl)
  omega
theorem head_le {op col:Int}{cell:ByteArray}{n:Nat}(h1 : -9223372036854775808≤col)(h2:col≤9223372036854775807)(hc:cell.size≤100)(hn:n≤1000):(headL op col cell n).length≤121:=by
 have hf:=foldI_range col h1 h2
 have a1:(vp (foldI col).toNat).length≤10:=vp_len_10 (by omega)
 have a2:(vp cell.size).length≤10:=vp_len_10 (by omega)
 have a3:(vp n).length≤10:=vp_len_10 (by omega)
 have a4:cell.data.toList.length≤100:=by rw [Array.length_toList];exact hc
 unfold headL fieldL
 split
 ·simp only [List.length_cons,List.length_append];omega
 ·split
  ·simp only [List.length_cons,List.length_append];omega
  ·simp only [List.length_cons,List.length_append,List.length_nil];omega
theorem greatN_len (t:Trm):OkA t→∀ deep k,deep+k=9→greatN deep t=false→(printL t).length+121≤121*4 ^ k∧(leavesT t).length≤2 ^ k∧Sm17 t:=by
 refine Trm.ind (P:=fun t=>OkA t→∀ deep k,deep+k=9→greatN deep t=false→(printL t).length+121≤121*4 ^ k∧(leavesT t).length≤2 ^ k∧Sm17 t) (fun t ih=>?_) t
 intro ho deep k hd h
 have h0:=ho.ok
 unfold okT at h0
 have hih:∀ x∈t.kids,∀ k',deep+1+k'=9→(printL x).length+121≤121*4 ^ k'∧(leavesT x).length≤2 ^ k'∧Sm17 x:=by
  intro x hx k' hk'
  refine ih x hx (ho.kid hx) (deep+1) k' hk' ?_
  obtain ⟨op,col,cell,ks⟩:=t
  rw [greatN,Bool.or_eq_false_iff,Bool.or_eq_false_iff,Bool.or_eq_false_iff,greatNs_any,List.any_eq_false] at h
  simpa using h.2.2.2 x hx
 have hg:¬8 < deep∧¬4 < t.kids.length∧¬100 < t.cell.size:=by
  obtain ⟨op,col,cell,ks⟩:=t
  rw [greatN,Bool.or_eq_false_iff,Bool.or_eq_false_iff,Bool.or_eq_false_iff] at h
  exact ⟨of_decide_eq_false h.1,of_decide_eq_false h.2.1,of_decide_eq_false h.2.2.1⟩
 obtain ⟨k,rfl⟩:∃ j,k=j+1:=⟨k-1,by omega⟩
 have hh:(headL t.op t.col t.cell t.kids.length).length≤121:=head_le h0.2.2.1 h0.2.2.2 (by omega) (by omega)
 have hp4:1≤4 ^ k:=Nat.one_le_pow _ _ (by decide)
 have hp2:1≤2 ^ k:=Nat.one_le_pow _ _ (by decide)
 have hk9:4 ^ (k+1)≤4 ^ 9:=Nat.pow_le_pow_right (by decide) (by omega)
 have e4:4 ^ (k+1)=4 ^ k*4:=Nat.pow_succ ..
 have e2:2 ^ (k+1)=2 ^ k*2:=Nat.pow_succ ..
 have hP:(printL t).length+121≤121*4 ^ (k+1):=by
  rw [printL_eq,List.length_append,flat_swap_length]
  have hf:=flat_len (121*4 ^ k-121) (t.kids.map printL) fun l hl=>by
   obtain ⟨x,hx,rfl⟩:=List.mem_map.1 hl
   have:=(hih x hx k (by omega)).1
   omega
  rw [List.length_map] at hf
  have:t.kids.length*(121*4 ^ k-121)≤4*(121*4 ^ k-121):=Nat.mul_le_mul_right _ (by omega)
  omega
 have h9:(printL t).length≤1000000000:=by
  have:(4:Nat) ^ 9=262144:=by decide
  omega
 refine ⟨hP,?_,.mk ho.ok (by omega) (by omega) h9 fun x hx=>(hih x hx k (by omega)).2.2⟩
 rw [leaves_eq]
 split
 ·next h2 =>
  have hf:=flat_lenT (2 ^ k) (t.kids.map leavesT) fun l hl=>by
   obtain ⟨x,hx,rfl⟩:=List.mem_map.1 hl
   exact (hih x hx k (by omega)).2.1
  rw [List.length_map,h2.2] at hf
  omega
 ·split <;> simp <;> omega
theorem term_okA:∀ (t:Trm){w:World}{v:Value},TermIn w v t→OkA t:=by
 intro t
 induction t using Trm.ind with
 | h t ih =>
  intro w v ⟨kv,_,ho,hk⟩
  refine .mk ho fun k hk2=>?_
  obtain ⟨tv,e,_,_,h3⟩:=KidsQ.parts hk
  rw [←e] at hk2
  obtain ⟨u,hu,rfl⟩:=List.mem_map.1 hk2
  exact ih u.2 (by rw [←e];exact List.mem_map_of_mem hu) ⟨u.1,rfl,(h3 u hu).1,(h3 u hu).2⟩
theorem greatN_sm {w:World}{v:Value}{t:Trm}{deep:Nat}(ht:TermIn w v t)(hd:deep≤8)(h:greatN deep t=false):(printL t).length≤40000000∧(leavesT t).length≤512∧Sm17 t:=by
 obtain ⟨h1,h2,h3⟩:=greatN_len t (term_okA t ht) deep (9-deep) (by omega) h
 have hk9:4 ^ (9-deep)≤4 ^ 9:=Nat.pow_le_pow_right (by decide) (by omega)
 have hk2:2 ^ (9-deep)≤2 ^ 9:=Nat.pow_le_pow_right (by decide) (by omega)
 have:(4:Nat) ^ 9=262144:=by decide
 have:(2:Nat) ^ 9=512:=by decide
 exact ⟨by omega,by omega,h3⟩
def GreatNAt (t:Trm):Prop:=∀ (w:World)(v:Value)(deep:Nat),deep≤9→TermIn w v t→GivesAt Try.prog 8 #[v,.int .i64 deep] w (.bool (greatN deep t))
set_option maxHeartbeats 2000000 in
theorem great17_calls (t:Trm):GreatNAt t:=by
 refine Trm.ind (P:=GreatNAt) (fun t ih=>?_) t
 intro w v deep hd ht
 obtain ⟨op,col,cell,ks⟩:=t
 obtain ⟨kv,rfl,ho,hk⟩:=ht
 replace hk:KidsIn w kv ks:=hk
 have hm:=hk.len
 unfold maxLen at hm
 obtain ⟨A,cap,rfl,hat⟩:=kids_at hk
 have HAT:=Lib.hid hat
 have HIH:Hid (∀ k∈ks,GreatNAt k):=fun k hk=>ih k hk
 have hb:=Below.alloc (.refl w.heap.size w) (Nat.le_refl _) (.cells #[.int .u8 op,.int .i64 col,.string cell,.slice A ks.length cap] 24)
 have hB:=hb.size
 have HX:=Lib.hid (trmbox_lit w 24 op col cell (.slice A ks.length cap))
 have hv0:greatN deep (.mk op col cell ks)=(decide (8 < deep)||(decide (4 < ks.length)||(decide (100 < cell.size)||greatNs (deep+1) ks))):=by rw [greatN]
 rw [hv0]
 dsimp only [trmA,Trm.op,Trm.col,Trm.cell]
 unfold GivesAt
 clear ho hk hat ih hv0
 by_cases g1:8 < deep
 ·have d1:decide ((8:Int) < (deep:Int))=true:=decide_eq_true (by omega)
  have e1:decide (8 < deep)=true:=decide_eq_true g1
  rw [e1,Bool.true_or]
  go_enter Try.func8,Try.ntmps8
  go_wp2
  go_ret
  exact ⟨rfl,hb⟩
 ·have d1:decide ((8:Int) < (deep:Int))=false:=decide_eq_false (by omega)
  have e1:decide (8 < deep)=false:=decide_eq_false g1
  rw [e1,Bool.false_or]
  by_cases g2:4 < ks.length
  ·have d2:decide ((4:Int) < (ks.length:Int))=true:=decide_eq_true (by omega)
   have e2:decide (4 < ks.length)=true:=decide_eq_true g2
   rw [e2,Bool.true_or]
   go_enter Try.func8,Try.ntmps8
   go_wp2
   go_ret
   exact ⟨rfl,hb⟩
  ·have d2:decide ((4:Int) < (ks.length:Int))=false:=decide_eq_false (by omega)
   have e2:decide (4 < ks.length)=false:=decide_eq_false g2
   rw [e2,Bool.false_or]
   by_cases g3:100 < cell.size
   ·have d3:decide ((100:Int) < (cell.size:Int))=true:=decide_eq_true (by omega)
    have e3:decide (100 < cell.size)=true:=decide_eq_true g3
    rw [e3,Bool.true_or]
    go_enter Try.func8,Try.ntmps8
    go_wp2
    go_ret
    exact ⟨rfl,hb⟩
   ·have d3:decide ((100:Int) < (cell.size:Int))=false:=decide_eq_false (by omega)
    have e3:decide (100 < cell.size)=false:=decide_eq_false g3
    rw [e3,Bool.false_or]
    have HD:Hid (deep+1≤9):=Lib.hid (by omega)
    have hdi:(deep:Int)≤8:=by omega
    have hdj:(0:Int)≤deep:=by omega
    clear g1 g2 g3 hd
    have HB1:=Lib.hid hb
    go_enter Try.func8,Try.ntmps8
    go_wp2
    clear hb hB
    generalize w.alloc _=w1 at *
    go_loopw [5] (fun i wr=>∃ j:Nat,j≤ks.length∧i=.int .i64 j∧Hid (greatNs (deep+1) (ks.take j)=false)∧Below w1.heap.size w1 wr) (fun i _=>ks.length-(intOf i).toNat)
    case atStart=>exact ⟨0,Nat.zero_le _,rfl,by rw [List.take_zero];exact Lib.hid rfl,.refl _ _⟩
    case round =>
     obtain ⟨j,hj,rfl,HG,hbr⟩:=hrel
     have hb:=HB1.out.trans (hbr.mono HB1.out.size)
     have hB:=hb.size
     have hBr:=hbr.size
     obtain ⟨y0,y1,y2,y3,_⟩:=(HX.out.later hbr).cells
     by_cases hlt:j < ks.length
     ·obtain ⟨b,off,ea,hb0,hc⟩:=HAT.out j hlt
      subst ea
      obtain ⟨kkv,ok,hkk,c0,c1,c2,c3⟩:=hc j hlt
      have x0:=(hb.cell (p:=⟨b,off+j*4,none⟩) hb0).trans c0
      have x1:=(hb.cell (p:=⟨b,off+j*4+1,none⟩) hb0).trans c1
      have x2:=(hb.cell (p:=⟨b,off+j*4+2,none⟩) hb0).trans c2
      have x3:=(hb.cell (p:=⟨b,off+j*4+3,none⟩) hb0).trans c3
      have HC0:=Lib.hid c0
      have HC1:=Lib.hid c1
      have HC2:=Lib.hid c2
      have HC3:=Lib.hid c3
      have HL0:=Lib.hid hb0
      have i0:(0:Int)≤(j:Int):=by omega
      have i1:(j:Int) < (ks.length:Int):=by omega
      have hcc:=HIH.out ks[j] (List.getElem_mem hlt) wr (trmA (kkv,ks[j])) (deep+1) HD.out ⟨kkv,rfl,ok,hkk.kept hb⟩
      rw [show ((deep+1:Nat):Int)=(deep:Int)+1 by omega] at hcc
      dsimp only [trmA] at hcc
      have HC:=Lib.hid hcc
      obtain ⟨Ak,pk,rfl,-⟩:=kids_at hkk
      have HTK:Hid (greatNs (deep+1) (ks.take (j+1))=greatN (deep+1) ks[j]):=Lib.hid (by rw [greatNs_any,take_add ks j hlt,List.any_append,←greatNs_any,HG.out];simp)
      have HTE:Hid (greatN (deep+1) ks[j]=true→greatNs (deep+1) ks=true):=fun h=>by rw [greatNs_any,List.any_eq_true];exact ⟨ks[j],List.getElem_mem hlt,h⟩
      clear hc c0 c1 c2 c3 hkk ok hcc hb0
      generalize ks[j].kids.length=nk at *
      generalize ks[j].op=ok1 at *
      generalize ks[j].col=ok2 at *
      generalize ks[j].cell=ok3 at *
      generalize greatN (deep+1) ks[j]=g at *
      cases g with
      | true =>
       have HTF:=Lib.hid (HTE.out rfl)
       clear HTE
       go_wp2_with (go_at_call 8;refine HC.out.step (w0:=w) (B:=w.heap.size) hb hB ?_;clear hb hB x0 x1 x2 x3 y0 y1 y2 y3;intro w3 hb hB)
       go_ret
       exact ⟨ret_bool (by rw [HTF.out]),hb⟩
      | false =>
       go_wp2_with (go_at_call 8;refine HC.out.stepB (w0:=w1) (B:=w1.heap.size) hbr hBr ?_;clear hb hB hbr hBr x0 x1 x2 x3 y0 y1 y2 y3;intro w3 hbr hBr _)
       go_roundw
       case rel=>exact ⟨j+1,by omega,by go_num,HTK,hbr⟩
       case measure=>simp [intOf];omega
     ·obtain rfl:j=ks.length:=by omega
      rw [List.take_length] at HG
      go_wp2
      go_ret
      exact ⟨ret_bool (by rw [HG.out]),hb⟩
theorem col17_calls (c:Int)(h1 : -9223372036854775808≤c)(h2:c≤9223372036854775807)(w:World):Calls Try.prog 24 #[.int .i64 c] w (TermEnd w (colT15 c)):=by
 have ho:okT (colT15 c):=⟨by show (0:Int)≤99;decide,by show (99:Int)≤255;decide,h1,h2⟩
 have HO:=Lib.hid ho
 clear ho h1 h2
 obtain ⟨hb,hB⟩:=start w
 unfold TermEnd TermEndQ
 go_enter Try.func24,Try.ntmps24
 go_wp2
 refine ⟨rfl,trmA (.slice none 0 0,colT15 c),?_,_,rfl,⟨_,rfl,HO.out,KidsIn.nil_ _ _ _⟩,hb.alloc hB _⟩
 simp [results,Try.results24,go_sem,trmA,colT15,Trm.op,Trm.col,Trm.cell,noC]
theorem two17_q (Q:Value→Prop)(op:Int)(h1:0≤op)(h2:op≤255){a b:Trm}{w:World}{va vb:Value}(ha:TermQ Q w va a)(hbt:TermQ Q w vb b)(hQ:∀ u,Fresh w.heap.size u→Q u):Calls Try.prog 22 #[.int .u8 op,va,vb] w (TermEndQ Q w (twoT15 op a b)):=by
 have ho:okT (twoT15 op a b):=⟨h1,h2,by show (-9223372036854775808:Int)≤0;decide,by show (0:Int)≤9223372036854775807;decide⟩
 have HO:=Lib.hid ho
 obtain ⟨kv,rfl,hoa,hk⟩:=ha
 obtain ⟨ku,rfl,hob,hku⟩:=hbt
 have HK:=Lib.hid hk
 have HOA:=Lib.hid hoa
 have HU:=Lib.hid hku
 have HOB:=Lib.hid hob
 obtain ⟨A,cap,rfl,-⟩:=kids_at hk
 obtain ⟨D,dap,rfl,-⟩:=kids_at hku
 clear ho h1 h2 hk hoa hku hob
 obtain ⟨hb,hB⟩:=start w
 have hb0:=hb.alloc hB (.cells #[.int .u8 a.op,.int .i64 a.col,.string a.cell,.slice A a.kids.length cap] 24)
 have hb1:=hb0.alloc hb0.size (.cells #[.int .u8 b.op,.int .i64 b.col,.string b.cell,.slice D b.kids.length dap] 24)
 have hb2:=hb1.alloc hb1.size (.cells #[.int .u8 op,.int .i64 0,.string ⟨#[]⟩,.slice (some ⟨w.heap.size+1+1+1,0,none⟩) 2 2] 24)
 have HKK:=Lib.hid (kids_litQ (Q:=Q) 24 [(.slice A a.kids.length cap,a),(.slice D b.kids.length dap,b)] (fun t ht=>by
  rcases List.mem_cons.1 ht with rfl|ht
  ·exact ⟨HOA.out,HK.out.kept hb2⟩
  ·rw [List.mem_singleton.1 ht];exact ⟨HOB.out,HU.out.kept hb2⟩) (by show 2≤1000;decide) rfl (N:=w.heap.size+1+1+1) (by simp) rfl #[.int .u8 a.op,.int .i64 a.col,.string a.cell,.slice A a.kids.length cap,.int .u8 b.op,.int .i64 b.col,.string b.cell,.slice D b.kids.length dap] rfl (hQ _ fun k hk=>by simp only [Value.ownBlock,Option.some.injEq] at hk;omega))
 have HB3:=Lib.hid (hb2.alloc hb2.size (.cells #[.int .u8 a.op,.int .i64 a.col,.string a.cell,.slice A a.kids.length cap,.int .u8 b.op,.int .i64 b.col,.string b.cell,.slice D b.kids.length dap] 24))
 clear hb0 hb1 hb2
 dsimp only [trmA]
 unfold TermEndQ
 go_enter Try.func22,Try.ntmps22
 go_wp2
 refine ⟨rfl,trmA (.slice (some ⟨w.heap.size+1+1+1,0,none⟩) 2 2,twoT15 op a b),?_,_,rfl,⟨_,rfl,HO.out,HKK.out⟩,HB3.out⟩
 simp [results,Try.results22,go_sem,trmA,twoT15,Trm.op,Trm.col,Trm.cell,noC]
theorem two17_calls (op:Int)(h1:0≤op)(h2:op≤255){a b:Trm}{w:World}{va vb:Value}(ha:TermIn w va a)(hbt:TermIn w vb b):Calls Try.prog 22 #[.int .u8 op,va,vb] w (TermEnd w (twoT15 op a b)) :=
 two17_q (fun _=>True) op h1 h2 ha hbt fun _ _=>trivial
end Go.Proofs.Ytnkhkkdmjabhnaa
