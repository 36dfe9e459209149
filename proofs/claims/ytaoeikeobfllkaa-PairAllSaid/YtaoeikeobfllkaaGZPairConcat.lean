/- The contracts of the library's Grow of nothing and Concat of two, at texts, and of layer 19's together. -/
import Derived.Test.YtaoeikeobfllkaaGWeighFns
import Derived.Test.YtaoeikeobfllkaaGWeighOwn
import Derived.Test.YtaoeikeobfllkaaGZShapePick
import Derived.Lib.AppendZerosOnto
namespace Go.Proofs.Ytaoeikeobfllkaa
open Go Go.RowKit
set_option maxHeartbeats 2000000 in
set_option maxRecDepth 100000 in
theorem grow_strs (w:World)(n:Nat)(hn:n≤2000000):Calls Try.prog 40 #[.slice none 0 0,.int .i64 n] w fun e w'=>∃ v,e=.returned v∧Own w' w.heap.size 1 v 0 []∧Below w.heap.size w w':=by
 obtain ⟨i0,hi,hz0,hz1,hz2⟩:=info_parts Try.infoP9
 obtain ⟨hb,hB⟩:=start w
 rcases Nat.eq_zero_or_pos n with h0|h0
 ·subst h0
  go_enter Try.func40,Try.ntmps40
  go_wp2
  go_ret
  exact ⟨_,rfl,Own.nil_ _ _ _,hb⟩
 ·have h:=fun ty=>Lib.run_append_grow_zeros (P:=Try.prog) w 27 3 ty 9 i0 (.string ⟨#[]⟩) .i64 .i64 Try.underlying27 Try.underlying3 hi hz0 none 0 0 [] (run_firstCells_none _ _ _ _ _) n h0 (by omega) (by omega) (by omega) (by rw [hz2];omega) (growslice_fits (by omega) (by rw [hz2];omega))
  simp only [Nat.zero_add] at h
  have hG:=grownCap_ge w n 0 9
  have hG2:=grownCap_le_maxLen w n 0 9 (by unfold maxLen;omega)
  generalize grownCap w n 0 9=G at *
  have hO:Own (w.drew.alloc (.cells ((([]:List Value).toArray++Builtin.zeroCells (Value.string ⟨#[]⟩).cells n)++Builtin.zeroCells (Value.string ⟨#[]⟩).cells (G-n)) 9)) w.heap.size 1 (.slice (some ⟨w.heap.size,0,none⟩) 0 G) 0 [] :=
   Own.of_row (World.ownsRow_made w.drew _ G (Nat.le_refl _) hG2 (by simp [Builtin.zeroCells,Value.cells];omega)) (Nat.zero_le _) (Nat.le_refl _)
  have hb1:Below w.heap.size w (w.drew.alloc (.cells ((([]:List Value).toArray++Builtin.zeroCells (Value.string ⟨#[]⟩).cells n)++Builtin.zeroCells (Value.string ⟨#[]⟩).cells (G-n)) 9)):=hb.drew.alloc (Nat.le_refl _) _
  generalize w.drew.alloc (.cells ((([]:List Value).toArray++Builtin.zeroCells (Value.string ⟨#[]⟩).cells n)++Builtin.zeroCells (Value.string ⟨#[]⟩).cells (G-n)) 9)=w1 at *
  have HO:=Lib.hid hO
  clear hO hG2
  have d1:decide ((n:Int) < 0)=false:=by rw [decide_eq_false_iff_not];omega
  have d2:decide (0 < (n:Int))=true:=by rw [decide_eq_true_eq];omega
  have q1:IntKind.i64.wrap (n:Int)=(n:Int):=IntWalk.i64_in _ (by omega)
  go_enter Try.func40,Try.ntmps40
  go_wp2_with (at_builtin;refine Lib.wpList_append_run _ rfl _ _ _ _ rfl _ _ rfl rfl _ _ (h _) ?_)
  all_goals
   go_ret
   exact ⟨_,rfl,HO.out,hb1⟩
set_option maxHeartbeats 2000000 in
set_option maxRecDepth 100000 in
theorem concat_strs {w:World}{g:Nat}{va vb:Value}{a b:List ByteArray}(_hg:g < w.heap.size)(h0:w.cell? ⟨g,0,none⟩=some va)(h1:w.cell? ⟨g,1,none⟩=some vb)(ha:StrsIn w va a)(hb':StrsIn w vb b)(hl:a.length+b.length≤1000000) :
  GivesOwnRow Try.prog 34 #[.slice (some ⟨g,0,none⟩) 2 2] w (a++b):=by
 obtain ⟨i0,hi,hz0,hz1,hz2⟩:=info_parts Try.infoP9
 obtain ⟨hb,hB⟩:=start w
 have hsa:=ha
 have hsb:=hb'
 have ka:=one_texts a
 have kb:=one_texts b
 obtain ⟨Aa,ca,rfl,_⟩:=one_at hsa
 obtain ⟨Ab,cb,rfl,_⟩:=one_at hsb
 have HG:=Lib.hid (grow_strs w (a.length+b.length) (by omega))
 have H0:=Lib.hid h0
 have H1:=Lib.hid h1
 have HSA:=Lib.hid hsa
 have HSB:=Lib.hid hsb
 have KA:=Lib.hid ka
 have KB:=Lib.hid kb
 clear hsa hsb ka kb
 unfold GivesOwnRow
 go_enter Try.func34,Try.ntmps34
 go_wp2
 rw [Int.natCast_add] at HG
 have q1:IntKind.i64.wrap (a.length:Int)=(a.length:Int):=IntWalk.i64_in _ (by omega)
 have q2:IntKind.i64.wrap ((a.length:Int)+(b.length:Int))=(a.length:Int)+(b.length:Int):=IntWalk.i64_in _ (by omega)
 have d1:decide ((a.length:Int) < 0)=false:=by rw [decide_eq_false_iff_not];omega
 have d2:decide ((a.length:Int)+(b.length:Int) < 0)=false:=by rw [decide_eq_false_iff_not];omega
 refine wp_loop_rounds 3 ?_
 rw [rounds_succ]
 go_wp2
 rw [rounds_succ]
 go_wp2
 rw [rounds_succ]
 go_wp2_with fail
 refine HG.out.mono ?_
 rintro e w2 ⟨v2,rfl,hO2,hb2⟩
 have e0:=cell_kept H0.out hb2
 have e1:=cell_kept H1.out hb2
 have HO2:=Lib.hid hO2
 obtain ⟨A2,p2,rfl⟩:=hO2.len
 clear hO2 h0 h1
 go_wp2
 refine wp_loop_rounds 3 ?_
 rw [rounds_succ]
 go_wp2_with (at_builtin;refine wpList_append_src rfl (.tmp 31) (.tmp 32) 27 rfl 9 i0 (.string ⟨#[]⟩) 1 16 Try.underlying27 hi hz0 hz1 hz2 rfl (by decide) (B:=w.heap.size) (.slice A2 0 p2) 0 [] rfl HO2.out (.slice Aa a.length ca) a.length (a.map Value.string) rfl (SliceOf.later HSA.out hb2) KA.out (by unfold maxLen;omega) (by omega) hb2.size ?_)
 intro v3 w3 hO3 hg3 _
 have hb3:=hb2.grown hg3 hb2.size (fun j hj=>(HO2.out.lt j hj).1)
 have e2:=cell_kept H0.out hb3
 have e3:=cell_kept H1.out hb3
 have HO3:=Lib.hid hO3
 obtain ⟨A3,p3,rfl⟩:=hO3.len
 clear hO3 hg3 e0 e1 HO2
 go_wp2
 rw [rounds_succ]
 go_wp2_with (at_builtin;refine wpList_append_src rfl (.tmp 31) (.tmp 32) 27 rfl 9 i0 (.string ⟨#[]⟩) 1 16 Try.underlying27 hi hz0 hz1 hz2 rfl (by decide) (B:=w.heap.size) (.slice A3 a.length p3) a.length (a.map Value.string) rfl HO3.out (.slice Ab b.length cb) b.length (b.map Value.string) rfl (SliceOf.later HSB.out hb3) KB.out (by unfold maxLen;omega) (by omega) hb3.size ?_)
 intro v4 w4 hO4 hg4 _
 have hb4:=hb3.grown hg4 hb3.size (fun j hj=>(HO3.out.lt j hj).1)
 rw [←List.map_append,←List.length_append] at hO4
 have HT:Hid (StrsIn w4 v4 (a++b)):=strs_of hO4 rfl
 have HF:Hid (Fresh w.heap.size v4):=fun k hk=>(hO4.lt k hk).1
 obtain ⟨A4,p4,rfl⟩:=hO4.len
 clear hO4 hg4 e2 e3 HO3
 go_wp2
 rw [rounds_succ]
 go_wp2
 go_ret
 exact ⟨_,_,rfl,HT.out,HF.out,hb4⟩
end Go.Proofs.Ytaoeikeobfllkaa
