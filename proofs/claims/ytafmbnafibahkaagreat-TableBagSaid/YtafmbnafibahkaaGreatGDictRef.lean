/- The contracts of the answer's Place, alike and Print of layer 5. -/
import Derived.Test.YtafmbnafibahkaaGreatGStrs
import Derived.Test.YtafmbnafibahkaaGreatGDict
import Derived.Test.YtafmbnafibahkaaGreatGDictPrint
import Derived.Test.YtafmbnafibahkaaGreatGShelfRead
namespace Go.Proofs.YtafmbnafibahkaaGreat
open Go Go.RowKit
theorem Tryz.infoW9:(Tryz.prog.info? 9).map (fun i=>(i.zero,i.size,i.bytes))=some (some (.string ⟨#[]⟩),1,16):=by kernel_rfl
theorem insW_at:∀ (ws:List ByteArray)(c:ByteArray)(k:Nat),k≤ws.length→(∀ (j:Nat)(h:j < ws.length),j < k→ltB ws[j] c=true)→(∀ h:k < ws.length,ltB ws[k] c=false) →
  insW ws c=if h:k < ws.length then (if ws[k]=c then ws else ws.take k++[c]++ws.drop k) else ws.take k++[c]++ws.drop k
 | [],c,k,hk,_,_=>by
  obtain rfl:k=0:=by simpa using hk
  simp [insW]
 | w::ws,c,0,_,_,h2=>by
  have:=h2 (by simp)
  simp only [List.getElem_cons_zero] at this
  simp [insW,this]
 | w::ws,c,k+1,hk,h1,h2=>by
  have h0:=h1 0 (by simp) (by omega)
  simp only [List.getElem_cons_zero] at h0
  have ih:=insW_at ws c k (by simpa using hk) (fun j h hj=>by have:=h1 (j+1) (by simpa using h) (by omega);simpa using this) (fun h=>by have:=h2 (by simpa using h);simpa using this)
  unfold insW
  rw [if_pos h0,ih]
  by_cases hlt:k < ws.length
  ·rw [dif_pos hlt,dif_pos (show k+1 < (w::ws).length by simpa using hlt)]
   simp only [List.getElem_cons_succ]
   by_cases e:ws[k]=c
   ·rw [if_pos e,if_pos e]
   ·rw [if_neg e,if_neg e];simp
  ·rw [dif_neg hlt,dif_neg (show ¬k+1 < (w::ws).length by simpa using hlt)];simp
theorem words_take (l:List ByteArray)(k:Nat)(h:k < l.length):wordsOf (l.take (k+1))=insW (wordsOf (l.take k)) l[k]:=by
 rw [List.take_add_one,List.getElem?_eq_getElem h];exact wordsOf_snoc _ _
theorem one_strs (l:List ByteArray):∀ u∈l.map Value.string,u.oneCell'=true:=by
 intro u hu
 obtain ⟨x,_,rfl⟩:=List.mem_map.1 hu
 rfl
theorem one_in {w:World}{X:Nat}{c:ByteArray}(h:w.cell? ⟨X,0,none⟩=some (.string c))(hX:X < w.heap.size):SliceOf w 1 (.slice (some ⟨X,0,none⟩) 1 1) 1 ([c].map Value.string) :=
 ⟨rfl,by unfold maxLen;omega,_,1,rfl,Nat.le_refl _,fun _=>⟨X,0,rfl,hX,fun i u hu=>by
  cases i with
  | zero=>simp only [List.map_cons,List.map_nil,List.getElem?_cons_zero,Option.some.injEq] at hu;rw [←hu];exact h
  | succ i=>simp at hu⟩⟩
theorem cell_other {w w':World}{row:Option Nat}{X:Nat}{v:Value}(hg:w.grownBy w' row)(hX:X < w.heap.size)(hne:some X≠row)(h:w.cell? ⟨X,0,none⟩=some v):w'.cell? ⟨X,0,none⟩=some v:=by
 rw [World.cell?_of_block (w:=w) (a:=⟨X,0,none⟩) (hg.block X hX hne)];exact h
theorem own_cut {w:World}{B g o n cap:Nat}{ws:List ByteArray}(h:Own w B 1 (.slice (some ⟨g,o,none⟩) n cap) n (ws.map Value.string))(j:Nat)(hj:j≤ws.length) :
  SliceOf w 1 (.slice (some ⟨g,o,none⟩) j cap) j ((ws.take j).map Value.string)∧SliceOf w 1 (.slice (if cap=j then some ⟨g,o,none⟩ else some ⟨g,o+j,none⟩) (n-j) (cap-j)) (n-j) ((ws.drop j).map Value.string):=by
 obtain ⟨h1,h2,h3,h4,h5⟩:=h.parts
 have hm:=h.2.1
 have hl:ws.length=n:=by have:=h.1;simpa using this
 refine ⟨⟨by rw [List.length_map,List.length_take];omega,by omega,_,cap,rfl,by omega,fun _=>⟨g,o,rfl,h2,fun i u hu=>h4 i u ?_⟩⟩,⟨by rw [List.length_map,List.length_drop];omega,by omega,_,cap-j,rfl,by omega,fun h0=>⟨g,o+j,if_neg (by omega),h2,fun i u hu=>?_⟩⟩⟩
 ·rw [List.map_take] at hu
  obtain ⟨k1,k2⟩:=List.getElem?_eq_some_iff.1 hu
  rw [List.length_take] at k1
  rw [List.getElem?_take_of_lt (by omega)] at hu
  exact hu
 ·rw [List.map_drop,List.getElem?_drop] at hu
  rw [Nat.add_assoc]
  exact h4 _ u hu
set_option maxHeartbeats 2000000 in
set_option maxRecDepth 100000 in
theorem ref_words_calls {w:World}{v:Value}{l:List ByteArray}(h:StrsIn w v l)(hl:l.length≤1000000) :
  Calls Tryz.prog 155 #[v] w fun e w'=>∃ v',e=.returned v'∧Own w' w.heap.size 1 v' (wordsOf l).length ((wordsOf l).map Value.string)∧Below w.heap.size w w':=by
 obtain ⟨i0,hi,hz0,hz1,hz2⟩:=info_parts Tryz.infoW9
 have HV:=Lib.hid h
 obtain ⟨A,cap,rfl,hat⟩:=one_at h
 have HAT:=Lib.hid hat
 clear h hat
 go_enter Tryz.func155,Tryz.ntmps155
 go_wp2
 go_loopw [3,4] (fun v i wr=>∃ k:Nat,k≤l.length∧i=.int .i64 k∧Own wr w.heap.size 1 v (wordsOf (l.take k)).length ((wordsOf (l.take k)).map Value.string)∧Hid (wordsOf (l.take k)=[]→v=.slice none 0 0)∧Below w.heap.size w wr) (fun _ i _=>l.length-(intOf i).toNat)
 case atStart=>exact ⟨0,Nat.zero_le _,rfl,Own.nil_ _ _ _,fun _=>rfl,.refl _ _⟩
 case round =>
  obtain ⟨k,hk,rfl,hO,HN,hb⟩:=hrel
  by_cases hlt:k < l.length
  ·have HT:=Lib.hid (words_take l k hlt)
   have hwl:=wordsOf_length (l.take k)
   rw [List.length_take] at hwl
   generalize wordsOf (l.take k)=ws at *
   have hwl2:ws.length≤1000000:=by omega
   obtain ⟨b,off,rfl,hbl,hc⟩:=HAT.out k hlt
   have hx:=(hb.cell (p:=⟨b,off+k,none⟩) hbl).trans (hc k hlt)
   generalize l[k]=c at *
   have HX:=Lib.hid hx
   clear hc hwl hx
   by_cases hne:ws=[]
   ·have hv:=HN.out hne
    subst hne
    have HI:Hid (insW [] c=[c]):=rfl
    subst hv
    have hx:=HX.out
    clear HN hO
    go_wp2
    go_loopw [5] (fun s wq=>s=.int .i64 0∧∃ q:Nat,wq=wr.drewN q) (fun _ _=>0)
    case atStart=>exact ⟨rfl,0,rfl⟩
    case round =>
     obtain ⟨rfl,q,rfl⟩:=hrel
     go_wp2
     go_quiet (fail)
     go_wp2
     go_quiet (fail)
     go_wp2_with fail
     simp only [World.drewN_drewN]
     generalize hwz:World.drewN wr _=wz
     have hbz:Below w.heap.size w wz:=hwz▸below_drewN hb _
     have hxz:wz.cell? ⟨b,off+k,none⟩=some (.string c):=by rw [←hwz];exact hx
     have hbl2:b < wz.heap.size:=Nat.lt_of_lt_of_le hbl hbz.size
     have HBZ:=Lib.hid hbz
     have k0:(0:Int)≤(k:Int):=by omega
     have k1:(k:Int) < (l.length:Int):=by omega
     have hS1:Hid (SliceOf wz 1 (.slice none 0 0) 0 (([]:List ByteArray).map Value.string)):=SliceOf.nil_ _ _ _ _
     have hS2:=Lib.hid hS1.out
     have hx':=Lib.hid hxz
     clear hwz hbz hx hb
     go_region_held3 (fun w'=>w'.cell? ⟨b,off+k,none⟩=some (.string c)) (first|go_keep|exact (hb1.cell (p:=⟨b,off+k,none⟩) hbl2).trans hx'.out|exact (hb2.cell (p:=⟨b,off+k,none⟩) hbl2).trans hx'.out|exact (hb3.cell (p:=⟨b,off+k,none⟩) hbl2).trans hx'.out)
      ((first|(refine step_append_src ?_ (.tmp 44) (.tmp 47) 44 ?_ 9 i0 (.string ⟨#[]⟩) 1 16 Tryz.underlying44 hi hz0 hz1 hz2 rfl (Nat.le_refl 1) (B:=wz.heap.size) (.slice (some ⟨wz.heap.size,0,none⟩) 0 0) 0 [] ?_ (own_empty 1 ?_ ?_) (.slice none 0 0) 0 (([]:List ByteArray).map Value.string) ?_ (SliceOf.later hS1.out ?_) (one_strs _) ?_ ?_ ?_ ?_;rfl;rfl;rfl;(focus (go_size;done));(focus (go_size;done));rfl;(focus (go_grown;done));(focus (unfold maxLen;omega));omega;(focus (go_size;done));(intro v1 w1 hO1 hg1 ha1;have hb1:Below wz.heap.size wz w1:=Below.grown (by go_grown) hg1 (by go_size) (fun k hk=>by simp only [Value.ownBlock,Option.some.injEq] at hk;omega);have hz1':=hb1.size;have hzz:=hg1.size;simp at hzz))|(refine step_append_src ?_ (.tmp 44) (.tmp 47) 44 ?_ 9 i0 (.string ⟨#[]⟩) 1 16 Tryz.underlying44 hi hz0 hz1 hz2 rfl (Nat.le_refl 1) (B:=wz.heap.size) (.slice (some ⟨wz.heap.size+1,0,none⟩) 0 0) 0 [] ?_ (own_empty 1 ?_ ?_) (.slice none 0 0) 0 (([]:List ByteArray).map Value.string) ?_ (SliceOf.later hS1.out ?_) (one_strs _) ?_ ?_ ?_ ?_;rfl;rfl;rfl;(focus (go_size;done));(focus (go_size;done));rfl;(focus (go_grown;done));(focus (unfold maxLen;omega));omega;(focus (go_size;done));(intro v1 w1 hO1 hg1 ha1;have hb1:Below wz.heap.size wz w1:=Below.grown (by go_grown) hg1 (by go_size) (fun k hk=>by simp only [Value.ownBlock,Option.some.injEq] at hk;omega);have hz1':=hb1.size;have hzz:=hg1.size;simp at hzz))|(refine step_append_src ?_ (.tmp 48) (.tmp 53) 44 ?_ 9 i0 (.string ⟨#[]⟩) 1 16 Tryz.underlying44 hi hz0 hz1 hz2 rfl (Nat.le_refl 1) (B:=wz.heap.size) v1 _ _ ?_ (hO1.later ?_) (.slice (some ⟨w1.heap.size,0,none⟩) 1 1) 1 ([c].map Value.string) ?_ ?_ (one_strs _) ?_ ?_ ?_ ?_;rfl;rfl;rfl;(focus (go_grown;done));rfl;(exact lit_ones Value.string w1 9 [c] (by simp));(focus (unfold maxLen;omega));omega;(focus (go_size;done));(intro v2 w2 hO2 hg2 ha2;have hb2:Below wz.heap.size wz w2:=Below.grown (by go_grown) hg2 (by go_size) (fun k hk=>(hO1.lt k hk).1);have hz2':=hb2.size))|(refine step_append_src ?_ (.tmp 48) (.tmp 53) 44 ?_ 9 i0 (.string ⟨#[]⟩) 1 16 Tryz.underlying44 hi hz0 hz1 hz2 rfl (Nat.le_refl 1) (B:=wz.heap.size) v1 _ _ ?_ (hO1.later ?_) (.slice (some ⟨wz.heap.size+1,0,none⟩) 1 1) 1 ([c].map Value.string) ?_ ?_ (one_strs _) ?_ ?_ ?_ ?_;rfl;rfl;rfl;(focus (go_grown;done));rfl;(focus (refine one_in (cell_other hg1 ?_ ?_ ?_) ?_ <;> first|(simp [Value.ownBlock];done)|(simp;omega)|(go_size;done)));(focus (unfold maxLen;omega));omega;(focus (go_size;done));(intro v2 w2 hO2 hg2 ha2;have hb2:Below wz.heap.size wz w2:=Below.grown (by go_grown) hg2 (by go_size) (fun k hk=>(hO1.lt k hk).1);have hz2':=hb2.size))|(refine step_append_src ?_ (.tmp 48) (.tmp 53) 44 ?_ 9 i0 (.string ⟨#[]⟩) 1 16 Tryz.underlying44 hi hz0 hz1 hz2 rfl (Nat.le_refl 1) (B:=wz.heap.size) v1 _ _ ?_ (hO1.later ?_) (.slice (some ⟨wz.heap.size,0,none⟩) 1 1) 1 ([c].map Value.string) ?_ ?_ (one_strs _) ?_ ?_ ?_ ?_;rfl;rfl;rfl;(focus (go_grown;done));rfl;(focus (refine one_in (cell_other hg1 ?_ ?_ ?_) ?_ <;> first|(simp [Value.ownBlock];done)|(simp;omega)|(go_size;done)));(focus (unfold maxLen;omega));omega;(focus (go_size;done));(intro v2 w2 hO2 hg2 ha2;have hb2:Below wz.heap.size wz w2:=Below.grown (by go_grown) hg2 (by go_size) (fun k hk=>(hO1.lt k hk).1);have hz2':=hb2.size))|(refine step_append_src ?_ (.tmp 54) (.tmp 57) 44 ?_ 9 i0 (.string ⟨#[]⟩) 1 16 Tryz.underlying44 hi hz0 hz1 hz2 rfl (Nat.le_refl 1) (B:=wz.heap.size) v2 _ _ ?_ hO2 (.slice none 0 0) 0 (([]:List ByteArray).map Value.string) ?_ (SliceOf.later hS2.out hb2) (one_strs _) ?_ ?_ ?_ ?_;rfl;rfl;rfl;rfl;(focus (unfold maxLen;omega));omega;(focus (go_size;done));(intro v3 w3 hO3 hg3 ha3;have hb3:Below wz.heap.size wz w3:=Below.grown hb2 hg3 (by go_size) (fun k hk=>(hO2.lt k hk).1)))))
     all_goals
      go_wp2
      go_roundw
      case rel =>
       refine ⟨k+1,by omega,by go_num,?_,?_,HBZ.out.trans (hb3.mono HBZ.out.size)⟩
       ·rw [HT.out,HI.out]
        exact hO3.mono HBZ.out.size
       ·rw [HT.out,HI.out];exact fun h=>by simp at h
      case measure=>simp [intOf];omega
   obtain ⟨g,o,cap1,rfl⟩:=hO.some_ (List.length_pos_iff.2 hne)
   have HNE:=Lib.hid hne
   clear hne HN
   go_wp2
   go_loopw [5] (fun s wq=>∃ j q:Nat,j≤ws.length∧s=.int .i64 j∧Hid (∀ (i:Nat) (h:i < ws.length),i < j→ltB ws[i] c=true)∧wq=wr.drewN q) (fun s _=>ws.length-(intOf s).toNat)
   case atStart=>exact ⟨0,0,Nat.zero_le _,rfl,fun i h hi=>absurd hi (by omega),rfl⟩
   case round =>
    obtain ⟨j,q,hj,rfl,HL,rfl⟩:=hrel
    have hx:=HX.out
    have HY:Hid (∀ (h:j < ws.length),wr.cell? ⟨g,o+j,none⟩=some (.string ws[j])):=fun h=>hO.parts.2.2.2.1 j (.string ws[j]) (by rw [List.getElem?_map,List.getElem?_eq_getElem h];rfl)
    have hcase:(∃ h:j < ws.length,Op.bytesLess ws[j].toList c.toList=true)∨(∃ h:j < ws.length,Op.bytesLess ws[j].toList c.toList=false∧ws[j]=c∧insW ws c=ws) ∨
      (∃ h:j < ws.length,Op.bytesLess ws[j].toList c.toList=false∧ws[j]≠c∧Hid (insW ws c=ws.take j++[c]++ws.drop j))∨(j=ws.length∧Hid (insW ws c=ws.take j++[c]++ws.drop j)):=by
     by_cases hjl:j < ws.length
     ·cases hlt2:Op.bytesLess ws[j].toList c.toList with
      | true=>exact .inl ⟨hjl,hlt2⟩
      | false =>
       have HINS:=insW_at ws c j hj HL.out (fun _=>hlt2)
       rw [dif_pos hjl] at HINS
       by_cases e:ws[j]=c
       ·rw [if_pos e] at HINS;exact .inr (.inl ⟨hjl,hlt2,e,HINS⟩)
       ·rw [if_neg e] at HINS;exact .inr (.inr (.inl ⟨hjl,hlt2,e,HINS⟩))
     ·have HINS:=insW_at ws c j hj HL.out (fun h=>absurd h hjl)
      rw [dif_neg hjl] at HINS
      exact .inr (.inr (.inr ⟨by omega,HINS⟩))
    rcases hcase with ⟨hjl,hlt2⟩ | ⟨hjl,hlt2,e1,HI⟩ | ⟨hjl,hlt2,e1,HI⟩ | ⟨hjl,HI⟩
    ·have hy:=HY.out hjl
     have HNX:=Lib.hid (fun (h:ltB ws[j] c=true) (i:Nat) (hi:i < ws.length) (hij:i < j+1)=>show ltB ws[i] c=true by
      by_cases e:i=j
      ·subst e;exact h
      ·exact HL.out i hi (by omega))
     go_wp2
     go_quiet (fail)
     go_wp2
     go_roundw
     case rel=>exact ⟨j+1,_,by omega,by go_num,HNX.out hlt2,rfl⟩
     case measure=>simp [intOf];omega
    ·have hy:=HY.out hjl
     have q1:((j:Int)==(ws.length:Int))=false:=by rw [beq_eq_false_iff_ne];omega
     have q2:(j==ws.length)=false:=by rw [beq_eq_false_iff_ne];omega
     have g1:(ws[j].toList==c.toList)=true:=by rw [e1];simp
     have g2:(ws[j].toList != c.toList)=false:=by rw [e1];simp
     have HI':=Lib.hid HI
     clear HI e1
     go_wp2
     go_quiet (fail)
     go_wp2
     go_quiet (fail)
     go_wp2
     go_roundw
     case rel =>
      refine ⟨k+1,by omega,by go_num,?_,?_,below_drewN hb _⟩
      ·rw [HT.out,HI'.out];exact hO.drewN _
      ·rw [HT.out,HI'.out];exact fun h=>absurd h HNE.out
     case measure=>simp [intOf];omega
    case' inr.inr.inl =>
     have hy:=HY.out hjl
     have q1:((j:Int)==(ws.length:Int))=false:=by rw [beq_eq_false_iff_ne];omega
     have q2:(j==ws.length)=false:=by rw [beq_eq_false_iff_ne];omega
     obtain ⟨_,g1,g2⟩:=(str_ne_cases ws[j] c).resolve_left (fun x=>e1 x.1)
     clear e1
    case' inr.inr.inr =>
     have q1:((j:Int)==(ws.length:Int))=true:=by rw [beq_iff_eq];omega
     have q2:(j==ws.length)=true:=by rw [beq_iff_eq];omega
     have d1:decide ((j:Int) < (ws.length:Int))=false:=by rw [decide_eq_false_iff_not];omega
     have d2:decide (j < ws.length)=false:=by rw [decide_eq_false_iff_not];omega
     clear hjl
    all_goals
     go_wp2
     go_quiet (fail)
     go_wp2
     go_quiet (fail)
     go_wp2_with fail
     simp only [World.drewN_drewN]
     generalize hwz:World.drewN wr _=wz
     have hbz:Below w.heap.size w wz:=hwz▸below_drewN hb _
     have hOz:Own wz w.heap.size 1 (.slice (some ⟨g,o,none⟩) ws.length cap1) ws.length (ws.map Value.string):=hwz▸hO.drewN _
     have hxz:wz.cell? ⟨b,off+k,none⟩=some (.string c):=by rw [←hwz];exact hx
     have hbl2:b < wz.heap.size:=Nat.lt_of_lt_of_le hbl hbz.size
     obtain ⟨hs1,hs2⟩:=own_cut hOz j hj
     have HBZ:=Lib.hid hbz
     have hcap:ws.length≤cap1:=hOz.parts.2.2.1
     have j0:(0:Int)≤(j:Int):=by omega
     have j1:(j:Int)≤(ws.length:Int):=by omega
     have j2:(j:Int)≤(cap1:Int):=by omega
     have k0:(0:Int)≤(k:Int):=by omega
     have k1:(k:Int) < (l.length:Int):=by omega
     have hS1:=Lib.hid hs1
     have hS2:=Lib.hid hs2
     have hx':=Lib.hid hxz
     clear hwz hbz hOz hx hb hO hs1 hs2 q1 q2
     go_region_held3 (fun w'=>w'.cell? ⟨b,off+k,none⟩=some (.string c)) (first|go_keep|exact (hb1.cell (p:=⟨b,off+k,none⟩) hbl2).trans hx'.out|exact (hb2.cell (p:=⟨b,off+k,none⟩) hbl2).trans hx'.out|exact (hb3.cell (p:=⟨b,off+k,none⟩) hbl2).trans hx'.out)
      ((first|(refine step_append_src ?_ (.tmp 44) (.tmp 47) 44 ?_ 9 i0 (.string ⟨#[]⟩) 1 16 Tryz.underlying44 hi hz0 hz1 hz2 rfl (Nat.le_refl 1) (B:=wz.heap.size) (.slice (some ⟨wz.heap.size,0,none⟩) 0 0) 0 [] ?_ (own_empty 1 ?_ ?_) (.slice (some ⟨g,o,none⟩) j cap1) j ((ws.take j).map Value.string) ?_ (SliceOf.later hS1.out ?_) (one_strs _) ?_ ?_ ?_ ?_;rfl;rfl;rfl;(focus (go_size;done));(focus (go_size;done));rfl;(focus (go_grown;done));(focus (unfold maxLen;omega));omega;(focus (go_size;done));(intro v1 w1 hO1 hg1 ha1;have hb1:Below wz.heap.size wz w1:=Below.grown (by go_grown) hg1 (by go_size) (fun k hk=>by simp only [Value.ownBlock,Option.some.injEq] at hk;omega);have hz1':=hb1.size;have hzz:=hg1.size;simp at hzz))|(refine step_append_src ?_ (.tmp 44) (.tmp 47) 44 ?_ 9 i0 (.string ⟨#[]⟩) 1 16 Tryz.underlying44 hi hz0 hz1 hz2 rfl (Nat.le_refl 1) (B:=wz.heap.size) (.slice (some ⟨wz.heap.size+1,0,none⟩) 0 0) 0 [] ?_ (own_empty 1 ?_ ?_) (.slice (some ⟨g,o,none⟩) j cap1) j ((ws.take j).map Value.string) ?_ (SliceOf.later hS1.out ?_) (one_strs _) ?_ ?_ ?_ ?_;rfl;rfl;rfl;(focus (go_size;done));(focus (go_size;done));rfl;(focus (go_grown;done));(focus (unfold maxLen;omega));omega;(focus (go_size;done));(intro v1 w1 hO1 hg1 ha1;have hb1:Below wz.heap.size wz w1:=Below.grown (by go_grown) hg1 (by go_size) (fun k hk=>by simp only [Value.ownBlock,Option.some.injEq] at hk;omega);have hz1':=hb1.size;have hzz:=hg1.size;simp at hzz))|(refine step_append_src ?_ (.tmp 48) (.tmp 53) 44 ?_ 9 i0 (.string ⟨#[]⟩) 1 16 Tryz.underlying44 hi hz0 hz1 hz2 rfl (Nat.le_refl 1) (B:=wz.heap.size) v1 _ _ ?_ (hO1.later ?_) (.slice (some ⟨w1.heap.size,0,none⟩) 1 1) 1 ([c].map Value.string) ?_ ?_ (one_strs _) ?_ ?_ ?_ ?_;rfl;rfl;rfl;(focus (go_grown;done));rfl;(exact lit_ones Value.string w1 9 [c] (by simp));(focus (unfold maxLen;omega));omega;(focus (go_size;done));(intro v2 w2 hO2 hg2 ha2;have hb2:Below wz.heap.size wz w2:=Below.grown (by go_grown) hg2 (by go_size) (fun k hk=>(hO1.lt k hk).1);have hz2':=hb2.size))|(refine step_append_src ?_ (.tmp 48) (.tmp 53) 44 ?_ 9 i0 (.string ⟨#[]⟩) 1 16 Tryz.underlying44 hi hz0 hz1 hz2 rfl (Nat.le_refl 1) (B:=wz.heap.size) v1 _ _ ?_ (hO1.later ?_) (.slice (some ⟨wz.heap.size+1,0,none⟩) 1 1) 1 ([c].map Value.string) ?_ ?_ (one_strs _) ?_ ?_ ?_ ?_;rfl;rfl;rfl;(focus (go_grown;done));rfl;(focus (refine one_in (cell_other hg1 ?_ ?_ ?_) ?_ <;> first|(simp [Value.ownBlock];done)|(simp;omega)|(go_size;done)));(focus (unfold maxLen;omega));omega;(focus (go_size;done));(intro v2 w2 hO2 hg2 ha2;have hb2:Below wz.heap.size wz w2:=Below.grown (by go_grown) hg2 (by go_size) (fun k hk=>(hO1.lt k hk).1);have hz2':=hb2.size))|(refine step_append_src ?_ (.tmp 48) (.tmp 53) 44 ?_ 9 i0 (.string ⟨#[]⟩) 1 16 Tryz.underlying44 hi hz0 hz1 hz2 rfl (Nat.le_refl 1) (B:=wz.heap.size) v1 _ _ ?_ (hO1.later ?_) (.slice (some ⟨wz.heap.size,0,none⟩) 1 1) 1 ([c].map Value.string) ?_ ?_ (one_strs _) ?_ ?_ ?_ ?_;rfl;rfl;rfl;(focus (go_grown;done));rfl;(focus (refine one_in (cell_other hg1 ?_ ?_ ?_) ?_ <;> first|(simp [Value.ownBlock];done)|(simp;omega)|(go_size;done)));(focus (unfold maxLen;omega));omega;(focus (go_size;done));(intro v2 w2 hO2 hg2 ha2;have hb2:Below wz.heap.size wz w2:=Below.grown (by go_grown) hg2 (by go_size) (fun k hk=>(hO1.lt k hk).1);have hz2':=hb2.size))|(refine step_append_src ?_ (.tmp 54) (.tmp 57) 44 ?_ 9 i0 (.string ⟨#[]⟩) 1 16 Tryz.underlying44 hi hz0 hz1 hz2 rfl (Nat.le_refl 1) (B:=wz.heap.size) v2 _ _ ?_ hO2 (.slice (if cap1=j then some ⟨g,o,none⟩ else some ⟨g,o+j,none⟩) (ws.length-j) (cap1-j)) (ws.length-j) ((ws.drop j).map Value.string) ?_ (SliceOf.later hS2.out hb2) (one_strs _) ?_ ?_ ?_ ?_;rfl;rfl;rfl;rfl;(focus (unfold maxLen;omega));omega;(focus (go_size;done));(intro v3 w3 hO3 hg3 ha3;have hb3:Below wz.heap.size wz w3:=Below.grown hb2 hg3 (by go_size) (fun k hk=>(hO2.lt k hk).1)))))
     all_goals
      go_wp2
      go_roundw
      case rel =>
       refine ⟨k+1,by omega,by go_num,?_,?_,HBZ.out.trans (hb3.mono HBZ.out.size)⟩
       ·rw [HT.out,HI.out]
        have h:=hO3.mono HBZ.out.size
        rw [List.nil_append,←List.map_append,←List.map_append] at h
        have hl3:(ws.take j++[c]++ws.drop j).length=0+j+1+(ws.length-j):=by rw [List.length_append,List.length_append,List.length_take,List.length_drop,List.length_singleton];omega
        rw [hl3];exact h
       ·rw [HT.out,HI.out];exact fun h=>by simp at h
      case measure=>simp [intOf];omega
  ·obtain rfl:k=l.length:=by omega
   rw [List.take_length] at hO
   obtain ⟨A1,c1,rfl⟩:=hO.len
   go_wp2
   go_ret
   exact ⟨_,rfl,hO,hb⟩
theorem placeI_at {ws:List ByteArray}{c:ByteArray}{k:Nat}(hk:k < ws.length)(h:ws[k]=c)(hl:∀ (j:Nat)(hj:j < ws.length),j < k→ws[j]≠c):placeI ws c=k:=by
 obtain ⟨q,e,hq,hg⟩:=placeI_mem (ws:=ws) (c:=c) (h▸List.getElem_mem hk)
 have hp:placeN ws c=some q:=by
  unfold placeI at e
  cases hp:placeN ws c with
  | none=>rw [hp] at e;exact absurd e (by show ¬(-1:Int)=_;omega)
  | some x=>rw [hp] at e;have e':(x:Int)=q:=e;exact congrArg some (by omega)
 have h2:=(placeN_some ws c q hp).2
 rw [e]
 rcases Nat.lt_trichotomy k q with hlt|rfl|hlt
 ·exact absurd (by rw [List.getElem?_eq_getElem hk,h]) (h2 k hlt)
 ·rfl
 ·exact absurd (by rw [List.getElem?_eq_getElem hq] at hg;simpa using hg) (hl q hq hlt)
theorem placeI_no {ws:List ByteArray}{c:ByteArray}(hl:∀ (j:Nat)(hj:j < ws.length),ws[j]≠c):placeI ws c = -1:=by
 have:placeN ws c=none:=(placeN_none ws c).2 fun hm=>by
  obtain ⟨j,hj,e⟩:=List.mem_iff_getElem.1 hm
  exact hl j hj e
 unfold placeI;rw [this]
set_option maxHeartbeats 1000000 in
theorem ref_place_calls {w:World}{v:Value}{ws:List ByteArray}(h:StrsIn w v ws)(c:ByteArray):Reads Tryz.prog 156 #[v,.string c] w (.int .i64 (placeI ws c)):=by
 have hm:=h.len
 unfold maxLen at hm
 obtain ⟨A,cap,rfl,hat⟩:=one_at h
 have HAT:=Lib.hid hat
 clear h hat
 unfold Reads
 go_enter Tryz.func156,Tryz.ntmps156
 go_wp2
 go_loop [5] (fun i=>∃ k:Nat,k≤ws.length∧i=.int .i64 k∧Hid (∀ (j:Nat) (hj:j < ws.length),j < k→ws[j]≠c)) (fun i=>ws.length-(intOf i).toNat)
 case atStart=>exact ⟨0,by omega,rfl,fun j hj h0=>absurd h0 (by omega)⟩
 case round =>
  obtain ⟨k,hk,rfl,HL⟩:=hrel
  by_cases hlt:k < ws.length
  ·obtain ⟨b,off,rfl,hbl,hc⟩:=HAT.out k hlt
   have hx:=hc k hlt
   clear hc
   rcases str_ne_cases ws[k] c with ⟨e,g1,g2⟩ | ⟨e,g1,g2⟩
   ·have HP:=Lib.hid (placeI_at hlt e HL.out)
    clear e
    go_wp2
    go_ret
    exact ⟨ret_int HP.out.symm,rfl⟩
   ·have HN:Hid (∀ (j:Nat) (hj:j < ws.length),j < k+1→ws[j]≠c):=fun j hj h1=>by
     by_cases ejk:j=k
     ·subst ejk;exact e
     ·exact HL.out j hj (by omega)
    clear e
    go_wp2
    go_round
    case rel=>exact ⟨k+1,by omega,by go_num,HN.out⟩
    case measure=>simp [intOf];omega
  ·have HP:=Lib.hid (placeI_no (ws:=ws) (c:=c) fun j hj=>HL.out j hj (by omega))
   go_wp2
   go_ret
   exact ⟨ret_int HP.out.symm,rfl⟩
theorem Tryz.infoJ3:(Tryz.prog.info? 3).map (fun i=>(i.zero,i.size,i.bytes))=some (some (.int .i64 0),1,8):=by kernel_rfl
set_option maxHeartbeats 1000000 in
set_option maxRecDepth 100000 in
theorem ref_dict_print_calls {w:World}{v:Value}{l:List ByteArray}(h:StrsIn w v l)(hlen:l.length≤4096)(hs:∀ c∈l,c.size≤1000000):GivesAt Tryz.prog 126 #[v] w (.string (dictB l)):=by
 obtain ⟨i0,hi,hz0,hz1,hz2⟩:=info_parts Tryz.infoJ3
 have HW:=Lib.hid (ref_words_calls h (by omega))
 have HS:Hid (∀ c∈wordsOf l,c.size≤1000000):=fun c hc=>hs c (((wordsOf_spec l).2 c).1 hc)
 have hwl:=wordsOf_length l
 have HR:=Lib.hid (places_range l (by omega))
 have HPL:=Lib.hid (show (placesOf l).length=l.length by unfold placesOf;rw [List.length_map])
 have HB:=Lib.hid (dictB_parts l)
 have hsb:=shelfB_most (placesOf l) HR.out
 have HPG:Hid (∀ (k:Nat) (hk:k < l.length),((placesOf l).map (Value.int .i64))[k]? = some (.int .i64 (placeI (wordsOf l) l[k]))):=by
  intro k hk;unfold placesOf;rw [List.getElem?_map,List.getElem?_map,List.getElem?_eq_getElem hk];rfl
 have HV:=Lib.hid h
 obtain ⟨A,cap,rfl,hatl⟩:=one_at h
 have HATL:=Lib.hid hatl
 clear h hs hatl
 unfold GivesAt
 go_enter Tryz.func126,Tryz.ntmps126
 go_wp2_with fail
 refine HW.out.mono ?_
 rintro e w1 ⟨v1,rfl,hO1,hb⟩
 have HV1:=Lib.hid (StrsIn.kept HV.out hb)
 have HW1:Hid (StrsIn w1 v1 (wordsOf l)):=hO1.slice
 have HB0:=Lib.hid hb
 clear HW hO1 HV
 generalize wordsOf l=ws at *
 obtain ⟨A1,cap1,rfl,hat⟩:=one_at HW1.out
 have HAT:=Lib.hid hat
 have hw:IntKind.u64.wrap (ws.length:Int)=(ws.length:Int):=wrap_lt _ (by omega)
 have p1:=Lib.hid (ref_print_calls ws.length (by omega))
 have hz:(printB ws.length).size≤10:=by rw [print_len];exact vp_len_10 (by omega)
 clear hat hb
 go_wp2_with (go_at_call 98;refine p1.out.step (w0:=w1) (B:=w1.heap.size) (.refl _ _) (Nat.le_refl _) ?_;intro w2 hq _)
 clear hw
 have HP0:Hid (printB ws.length=mkB (vp ws.length++(ws.take 0).flatMap cellP)):=by show _=_;simp;rfl
 go_loopw [4,5] (fun v i wr=>∃ k:Nat,k≤ws.length∧i=.int .i64 k∧v=.string (mkB (vp ws.length++(ws.take k).flatMap cellP))∧Below w1.heap.size w1 wr) (fun _ i _=>ws.length-(intOf i).toNat)
 case atStart=>exact ⟨0,Nat.zero_le _,rfl,by rw [HP0.out],hq⟩
 case round =>
  clear hq
  obtain ⟨k,hk,rfl,rfl,hb1⟩:=hrel
  have hB:=hb1.size
  have hcz:=cells_size (ws.take k) (fun c hc=>HS.out c (List.mem_of_mem_take hc))
  rw [List.length_take] at hcz
  have hcz2:((ws.take k).flatMap cellP).length≤1000010*4096:=Nat.le_trans hcz (Nat.mul_le_mul_left _ (by omega))
  clear hcz
  have hlz:(mkB (vp ws.length++(ws.take k).flatMap cellP)).size≤1000010*4097:=by rw [mkB_size,List.length_append];rw [print_len] at hz;omega
  clear hcz2
  by_cases hlt:k < ws.length
  ·obtain ⟨b,off,rfl,hbl,hc⟩:=HAT.out k hlt
   have hx:=(hb1.cell (p:=⟨b,off+k,none⟩) hbl).trans (hc k hlt)
   have HT:=Lib.hid (show mkB (vp ws.length++(ws.take k).flatMap cellP)++mkB (cellP ws[k])=mkB (vp ws.length++(ws.take (k+1)).flatMap cellP) by
    rw [mkB_append,cells_take ws k hlt,List.append_assoc];rfl)
   have hr1:=HS.out _ (List.getElem_mem hlt)
   have p2:=Lib.hid (ref_runs_cell_calls ws[k] (by omega))
   have z1:(mkB (cellP ws[k])).size≤1000010:=by rw [mkB_size];have:=(cellP_length ws[k]).resolve_right (by omega);omega
   generalize mkB (cellP ws[k])=X at *
   generalize mkB (vp ws.length++(ws.take k).flatMap cellP)=L at *
   have t1:¬9223372036854775807 < L.size+X.size:=by omega
   clear hc
   go_wp2_with (go_at_call 154;refine p2.out.step (w0:=w1) (B:=w1.heap.size) hb1 hB ?_;clear hb1 hB;intro w5 hb1 hB)
   go_roundw
   case rel=>exact ⟨k+1,by omega,by go_num,by rw [HT.out],hb1⟩
   case measure=>simp [intOf];omega
  ·obtain rfl:k=ws.length:=by omega
   rw [List.take_length] at hlz ⊢
   generalize hL:mkB (vp ws.length++ws.flatMap cellP)=L at *
   obtain ⟨w3,hw3⟩:∃ w3,w3=wr:=⟨_,rfl⟩
   subst hw3
   have HB1:=Lib.hid hb1
   clear hL
   go_wp2
   go_loopw [6,7] (fun v i wr=>∃ k:Nat,k≤l.length∧i=.int .i64 k∧Own wr w3.heap.size 1 v k (((placesOf l).map (Value.int .i64)).take k)∧Below w3.heap.size w3 wr) (fun _ i _=>l.length-(intOf i).toNat)
   case atStart=>exact ⟨0,Nat.zero_le _,rfl,Own.nil_ _ _ _,.refl _ _⟩
   case round =>
    clear hb1
    obtain ⟨k,hk,rfl,hO,hb2⟩:=hrel
    have hB2:=hb2.size
    by_cases hlt2:k < l.length
    ·obtain ⟨b,off,rfl,hbl,hc⟩:=HATL.out k hlt2
     have hbw:b < w1.heap.size:=Nat.lt_of_lt_of_le hbl HB0.out.size
     have hx1:=(HB0.out.cell (p:=⟨b,off+k,none⟩) hbl).trans (hc k hlt2)
     have hx2:=(HB1.out.cell (p:=⟨b,off+k,none⟩) hbw).trans hx1
     have hx:=(hb2.cell (p:=⟨b,off+k,none⟩) (Nat.lt_of_lt_of_le hbw HB1.out.size)).trans hx2
     have H3:=Lib.hid (ref_place_calls (StrsIn.kept HW1.out (HB1.out.trans (hb2.mono HB1.out.size))) l[k])
     have HG:=HPG.out k hlt2
     have HT2:=Lib.hid (show ((placesOf l).map (Value.int .i64)).take (k+1)=((placesOf l).map (Value.int .i64)).take k++[.int .i64 (placeI ws l[k])] by
      rw [List.take_add_one,HG];rfl)
     generalize ((placesOf l).map (Value.int .i64)).take k=xs at *
     generalize l[k]=c at *
     generalize placeI ws c=pl at *
     obtain ⟨A3,c3,rfl⟩:=hO.len
     clear hc hx1 hx2 HG
     go_wp2_with (first|(go_at_call 156;refine H3.out.step ?_)|(at_builtin;refine wpList_append_Own rfl _ _ 92 rfl 3 i0 (.int .i64 0) 1 8 Tryz.underlying92 hi hz0 hz1 hz2 rfl (by decide) _ _ _ rfl (Own.alloc hO _) ⟨wr.heap.size,0,none⟩ 1 1 [_] rfl rfl (one_new _ _ _) (one_int _ _) ?c1 ?c2 (Nat.le_trans hB2 (by simp)) ?_))
     case c1=>unfold maxLen;omega
     case c2=>omega
     intro v4 w4 hO4 hg4
     have hb4:=(hb2.alloc hB2 (.cells #[Value.int .i64 pl] 3)).grown hg4 (Nat.le_trans hB2 (by simp)) (fun j hj=>(hO.lt j hj).1)
     clear hO hg4 hb2 hB2 hx
     go_wp2
     go_roundw
     case rel=>exact ⟨k+1,by omega,by go_num,by rw [HT2.out];exact hO4,hb4⟩
     case measure=>simp [intOf];omega
    ·obtain rfl:k=l.length:=by omega
     rw [List.take_of_length_le (by rw [List.length_map,HPL.out];exact Nat.le_refl _)] at hO
     have hO':=Lib.hid hO
     obtain ⟨A3,c3,rfl⟩:=hO.len
     have hii:IntsIn wr (.slice A3 l.length c3) (placesOf l):=by unfold IntsIn;rw [HPL.out];exact hO'.out.slice
     have H4:=Lib.hid (ref_shelf_print_calls hii HR.out (by rw [HPL.out];exact hlen))
     have t2:¬9223372036854775807 < L.size+(shelfB (placesOf l)).size:=by have:=HPL.out;omega
     have hbb:=Lib.hid (HB0.out.trans ((HB1.out.trans (hb2.mono HB1.out.size)).mono HB0.out.size))
     have HB':=Lib.hid HB.out
     generalize shelfB (placesOf l)=SB at *
     clear hO hii hsb
     go_wp2_with (go_at_call 70;refine H4.out.step (w0:=wr) (B:=wr.heap.size) (.refl _ _) (Nat.le_refl _) ?_;intro w6 hq6 _)
     go_ret
     exact ⟨ret_str HB'.out,hbb.out.trans (hq6.mono hbb.out.size)⟩
end Go.Proofs.YtafmbnafibahkaaGreat
