/- The contract of layer 19's keyOf: a row's cells in its side's columns, as an array. -/
import Derived.Test.YtaoeikeobfllkaaGZPairAt
namespace Go.Proofs.Ytaoeikeobfllkaa
open Go Go.RowKit
def selC (s:Nat)(c:Cl):Int:=if s=0 then c.1 else c.2
theorem cell_sel {w:World}{b off:Nat}{c:Cl}(s:Nat)(hs:s < 2)(h1:w.cell? ⟨b,off,none⟩=some (.int .i64 c.1))(h2:w.cell? ⟨b,off+1,none⟩=some (.int .i64 c.2)):w.cell? ⟨b,off+s,none⟩=some (.int .i64 (selC s c)):=by
 rcases (by omega:s=0∨s=1) with rfl|rfl
 ·exact h1
 ·exact h2
def keyV (k:List ByteArray):Value:=.agg (k.map Value.string).toArray
def noKey:List ByteArray:=List.replicate 6 ⟨#[]⟩
def keyR (row:List ByteArray)(cs:List Int):List ByteArray:=if keyOk row cs=true then keyL row cs else noKey
theorem keyR_yes {row:List ByteArray}{cs:List Int}(h:keyOk row cs=true):keyR row cs=keyL row cs:=by unfold keyR;rw [if_pos h]
theorem keyR_no {row:List ByteArray}{cs:List Int}(h:keyOk row cs=false):keyR row cs=noKey:=by unfold keyR;rw [if_neg (by rw [h];decide)]
theorem keyOk_take (row:List ByteArray)(cs:List Int)(k:Nat)(h:k < cs.length):keyOk row (cs.take (k+1))=(keyOk row (cs.take k)&&decide (atF row cs[k]≠⟨#[]⟩)):=by
 unfold keyOk
 rw [List.take_add_one,List.getElem?_eq_getElem h,Option.toList_some,List.all_append]
 simp
theorem keyOk_not {row:List ByteArray}{cs:List Int}{c:Int}(hc:c∈cs)(h:atF row c=⟨#[]⟩):keyOk row cs=false:=by
 unfold keyOk
 rw [List.all_eq_false]
 exact ⟨c,hc,by rw [h];decide⟩
theorem keyL_take (row:List ByteArray)(cs:List Int)(k:Nat)(h:k < cs.length)(h6:cs.length≤6):(keyL row (cs.take (k+1))).map Value.string=((keyL row (cs.take k)).map Value.string).set k (.string (atF row cs[k])):=by
 rw [←List.map_set]
 congr 1
 unfold keyL
 rw [List.take_add_one,List.getElem?_eq_getElem h,Option.toList_some,List.map_append,List.length_append,List.length_take,Nat.min_eq_left (by omega),List.set_append_right _ _ (by rw [List.length_map,List.length_take];omega),List.length_map,List.length_take,Nat.min_eq_left (by omega),Nat.sub_self,List.append_assoc]
 congr 1
 obtain ⟨j,hj⟩:∃ j,6-k=j+1:=⟨6-k-1,by omega⟩
 rw [hj,show 6-(k+[cs[k]].length)=j by simp;omega,List.replicate_succ]
 rfl
theorem six {α:Type}:∀ {l:List α},l.length=6→∃ a b c d e f,l=[a,b,c,d,e,f]
 | [a,b,c,d,e,f],_=>⟨a,b,c,d,e,f,rfl⟩
def KeyEnd (w:World)(row:List ByteArray)(cs:List Int)(e:Ending)(w':World):Prop:=e=.returned (.tuple #[keyV (keyR row cs),.bool (keyOk row cs)])∧Below w.heap.size w w'
set_option maxHeartbeats 4000000 in
set_option maxRecDepth 100000 in
theorem pkey_calls {w:World}{vr vo:Value}{row:List ByteArray}{on:List Cl}(s:Nat)(hs:s < 2)(hr:StrsIn w vr row)(ho:OnIn w vo on)(hl:on.length≤6):Calls Try.prog 23 #[vr,vo,.int .i64 s] w (KeyEnd w row (on.map (selC s))):=by
 obtain ⟨Ao,co,rfl,_,hato⟩:=on_at ho
 obtain ⟨Ar,cr,rfl,_⟩:=one_at hr
 have HR:=Lib.hid hr
 have HAT:=Lib.hid hato
 have HL6:=Lib.hid hl
 have q1:Own (w.alloc (.cells #[.string ⟨#[]⟩,.string ⟨#[]⟩,.string ⟨#[]⟩,.string ⟨#[]⟩,.string ⟨#[]⟩,.string ⟨#[]⟩] 48)) w.heap.size 6 (.slice (some ⟨w.heap.size,0,none⟩) 1 1) 1 [.string ⟨#[]⟩,.string ⟨#[]⟩,.string ⟨#[]⟩,.string ⟨#[]⟩,.string ⟨#[]⟩,.string ⟨#[]⟩]:=Own.lit (B:=w.heap.size) (size:=6) w #[.string ⟨#[]⟩,.string ⟨#[]⟩,.string ⟨#[]⟩,.string ⟨#[]⟩,.string ⟨#[]⟩,.string ⟨#[]⟩] 48 1 (Nat.le_refl _) (by unfold maxLen;omega) rfl
 have hb1:=Below.alloc (.refl w.heap.size w) (Nat.le_refl _) (.cells #[.string ⟨#[]⟩,.string ⟨#[]⟩,.string ⟨#[]⟩,.string ⟨#[]⟩,.string ⟨#[]⟩,.string ⟨#[]⟩] 48)
 have q2:Own ((w.alloc (.cells #[.string ⟨#[]⟩,.string ⟨#[]⟩,.string ⟨#[]⟩,.string ⟨#[]⟩,.string ⟨#[]⟩,.string ⟨#[]⟩] 48)).alloc (.cells #[.string ⟨#[]⟩,.string ⟨#[]⟩,.string ⟨#[]⟩,.string ⟨#[]⟩,.string ⟨#[]⟩,.string ⟨#[]⟩] 48)) w.heap.size 6 (.slice (some ⟨w.heap.size+1,0,none⟩) 1 1) 1 [.string ⟨#[]⟩,.string ⟨#[]⟩,.string ⟨#[]⟩,.string ⟨#[]⟩,.string ⟨#[]⟩,.string ⟨#[]⟩]:=by
  have:=Own.lit (B:=w.heap.size) (size:=6) (w.alloc (.cells #[.string ⟨#[]⟩,.string ⟨#[]⟩,.string ⟨#[]⟩,.string ⟨#[]⟩,.string ⟨#[]⟩,.string ⟨#[]⟩] 48)) #[.string ⟨#[]⟩,.string ⟨#[]⟩,.string ⟨#[]⟩,.string ⟨#[]⟩,.string ⟨#[]⟩,.string ⟨#[]⟩] 48 1 (by simp) (by unfold maxLen;omega) rfl
  simpa using this
 have hq:=Below.alloc (.refl (w.alloc (.cells #[.string ⟨#[]⟩,.string ⟨#[]⟩,.string ⟨#[]⟩,.string ⟨#[]⟩,.string ⟨#[]⟩,.string ⟨#[]⟩] 48)).heap.size (w.alloc (.cells #[.string ⟨#[]⟩,.string ⟨#[]⟩,.string ⟨#[]⟩,.string ⟨#[]⟩,.string ⟨#[]⟩,.string ⟨#[]⟩] 48))) (Nat.le_refl _) (.cells #[.string ⟨#[]⟩,.string ⟨#[]⟩,.string ⟨#[]⟩,.string ⟨#[]⟩,.string ⟨#[]⟩,.string ⟨#[]⟩] 48)
 have q1':=q1.later hq
 have hb2:=hb1.trans (hq.mono hb1.size)
 clear hr ho hato q1 hb1 hq
 unfold KeyEnd
 go_enter Try.func23,Try.ntmps23
 go_wp2
 generalize (w.alloc (.cells #[.string ⟨#[]⟩,.string ⟨#[]⟩,.string ⟨#[]⟩,.string ⟨#[]⟩,.string ⟨#[]⟩,.string ⟨#[]⟩] 48)).alloc (.cells #[.string ⟨#[]⟩,.string ⟨#[]⟩,.string ⟨#[]⟩,.string ⟨#[]⟩,.string ⟨#[]⟩,.string ⟨#[]⟩] 48)=w2 at *
 go_loopw [13] (fun i wr=>∃ k:Nat,k≤on.length∧i=.int .i64 k∧Hid (keyOk row ((on.map (selC s)).take k)=true)∧Hid (Own wr w.heap.size 6 (.slice (some ⟨w.heap.size,0,none⟩) 1 1) 1 [.string ⟨#[]⟩,.string ⟨#[]⟩,.string ⟨#[]⟩,.string ⟨#[]⟩,.string ⟨#[]⟩,.string ⟨#[]⟩])∧Hid (Own wr w.heap.size 6 (.slice (some ⟨w.heap.size+1,0,none⟩) 1 1) 1 ((keyL row ((on.map (selC s)).take k)).map Value.string))∧Hid (Below w.heap.size w wr)) (fun i _=>on.length-(intOf i).toNat)
 case atStart=>exact ⟨0,Nat.zero_le _,rfl,Lib.hid rfl,Lib.hid q1',Lib.hid q2,Lib.hid hb2⟩
 case round =>
  clear q1' q2 hb2
  obtain ⟨k,hk,rfl,HM,HQ1,HQ2,HB⟩:=hrel
  by_cases hlt:k < on.length
  ·obtain ⟨bo,off,rfl,hbl,hc⟩:=HAT.out k hlt
   obtain ⟨c1,c2⟩:=hc k hlt
   have x1:=(HB.out.cell (p:=⟨bo,off+k*2,none⟩) hbl).trans c1
   have x2:=(HB.out.cell (p:=⟨bo,off+k*2+1,none⟩) hbl).trans c2
   have hlm:k < (on.map (selC s)).length:=by rw [List.length_map];exact hlt
   have HT:=Lib.hid (keyOk_take row (on.map (selC s)) k hlm)
   rw [HM.out,Bool.true_and] at HT
   have HN:=Lib.hid (fun h=>keyOk_not (row:=row) (List.getElem_mem hlm) h)
   have HKT:=Lib.hid (keyL_take row (on.map (selC s)) k hlm (by rw [List.length_map];exact HL6.out))
   have HLK:Hid (k < on.length):=hlt
   have i1:(k:Int) < (on.length:Int):=by omega
   have i2:(k:Int) < 6:=by omega
   have hsel:(on.map (selC s))[k]=selC s on[k]:=List.getElem_map ..
   rw [hsel] at HT HN HKT
   have HLL:Hid (((keyL row ((on.map (selC s)).take k)).map Value.string).length=6):=by
    show _=_
    rw [List.length_map,keyL_length (by rw [List.length_take,List.length_map];omega)]
   clear hc c1 c2 hlm hsel
   generalize on[k]=cc at *
   have HS:=Lib.hid (cell_sel (c:=cc) (w:=wr.alloc (.cells #[.int .i64 cc.1,.int .i64 cc.2] 33)) (b:=wr.heap.size) (off:=0) s hs (box_cell wr 33 #[.int .i64 cc.1,.int .i64 cc.2] 0 _ rfl) (box_cell wr 33 #[.int .i64 cc.1,.int .i64 cc.2] 1 _ rfl))
   have HC1:=Lib.hid (fun W (hW:Below w.heap.size w W)=>pat_calls (selC s cc) (StrsIn.kept HR.out hW))
   generalize selC s cc=sc at *
   obtain ⟨c0,c1⟩:=cc
   dsimp only at *
   generalize atF row sc=t at *
   have hqa:=Below.alloc (.refl wr.heap.size wr) (Nat.le_refl _) (.cells #[.int .i64 c0,.int .i64 c1] 33)
   have hbx:=Lib.hid (HB.out.trans (hqa.mono HB.out.size))
   replace HQ1:=Lib.hid (HQ1.out.later hqa)
   replace HQ2:=Lib.hid (HQ2.out.later hqa)
   have z1:=HS.out
   have i3:(s:Int) < 2:=by omega
   rw [Nat.zero_add] at z1
   clear hqa HS HB
   go_wp2_with fail
   refine (HC1.out _ hbx.out).mono ?_
   rintro e w3 ⟨rfl,hq⟩
   replace HQ1:=Lib.hid (HQ1.out.later hq)
   replace HQ2:=Lib.hid (HQ2.out.later hq)
   have hb3:=Lib.hid (hbx.out.trans (hq.mono hbx.out.size))
   clear HC1 hq z1 hbx x1 x2
   have hg2:w3.grownBy (w3.setCell ⟨w.heap.size+1,0+k,none⟩ (.string t)) (some (w.heap.size+1)):=setCells_grown (w.heap.size+1) [.string t] (0+k) w3
   obtain ⟨_,_,_,y2,y3⟩:=HQ2.out.parts
   have f9:=(y3 k (by omega)).2
   have e9:∃ u,w3.cell? ⟨w.heap.size+1,0+k,none⟩=some u:=⟨_,y2 k _ (List.getElem?_eq_getElem (by rw [HLL.out];omega))⟩
   obtain ⟨u9,e9⟩:=e9
   have hO2:=Own.stored HQ2.out k (by omega) (.string t)
   obtain ⟨_,_,_,y4,_⟩:=hO2.parts
   have z2:=y4 k (.string t) (by rw [List.getElem?_set_self (by rw [HLL.out];omega)])
   rw [←HKT.out] at hO2
   have hO1:=HQ1.out.other hg2 (fun k' hk' e=>by simp only [Value.ownBlock,Option.some.injEq] at hk' e;omega)
   have hb4:=hb3.out.setCell (Nat.le_succ _) (p:=⟨w.heap.size+1,0+k,none⟩) (.string t)
   simp only [Nat.zero_add] at hO1 hO2 hb4 f9 e9 z2
   replace HQ1:=Lib.hid hO1
   replace HQ2:=Lib.hid hO2
   have HBW:=Lib.hid hb4
   clear y2 y3 y4 hg2 hO1 hO2 hb4 hb3 HLL HKT
   by_cases he:t=⟨#[]⟩
   ·have HF:=Lib.hid (HN.out he)
    have HR1:=Lib.hid (keyR_no HF.out)
    clear HT HN
    subst he
    obtain ⟨_,r1,_,r2,r3⟩:=HQ1.out.parts
    have ze0:=r2 0 _ rfl
    have ze1:=r2 1 _ rfl
    have ze2:=r2 2 _ rfl
    have ze3:=r2 3 _ rfl
    have ze4:=r2 4 _ rfl
    have ze5:=r2 5 _ rfl
    have zf0:=(r3 0 (by decide)).2
    have zf1:=(r3 1 (by decide)).2
    have zf2:=(r3 2 (by decide)).2
    have zf3:=(r3 3 (by decide)).2
    have zf4:=(r3 4 (by decide)).2
    have zf5:=(r3 5 (by decide)).2
    simp only [Nat.zero_add] at ze0 ze1 ze2 ze3 ze4 ze5 zf0 zf1 zf2 zf3 zf4 zf5
    have hO4:=(Own.stored (Own.stored (Own.stored (Own.stored (Own.stored (Own.stored HQ1.out 0 (by decide) (.string ⟨#[]⟩)) 1 (by decide) (.string ⟨#[]⟩)) 2 (by decide) (.string ⟨#[]⟩)) 3 (by decide) (.string ⟨#[]⟩)) 4 (by decide) (.string ⟨#[]⟩)) 5 (by decide) (.string ⟨#[]⟩))
    have hb4:=((((((HBW.out.setCell (Nat.le_refl _) (p:=⟨w.heap.size,0+0,none⟩) (.string ⟨#[]⟩)).setCell (Nat.le_refl _) (p:=⟨w.heap.size,0+1,none⟩) (.string ⟨#[]⟩)).setCell (Nat.le_refl _) (p:=⟨w.heap.size,0+2,none⟩) (.string ⟨#[]⟩)).setCell (Nat.le_refl _) (p:=⟨w.heap.size,0+3,none⟩) (.string ⟨#[]⟩)).setCell (Nat.le_refl _) (p:=⟨w.heap.size,0+4,none⟩) (.string ⟨#[]⟩)).setCell (Nat.le_refl _) (p:=⟨w.heap.size,0+5,none⟩) (.string ⟨#[]⟩))
    simp only [Nat.zero_add] at hO4 hb4
    have HO:=Lib.hid hO4
    have HB4:=Lib.hid hb4
    clear hO4 hb4 r1 r2 r3
    go_wp2
    clear ze0 ze1 ze2 ze3 ze4 ze5 zf0 zf1 zf2 zf3 zf4 zf5
    have hO:=HO.out
    obtain ⟨_,r1,_,r2,r3⟩:=hO.parts
    have oe0:=r2 0 _ rfl
    have oe1:=r2 1 _ rfl
    have oe2:=r2 2 _ rfl
    have oe3:=r2 3 _ rfl
    have oe4:=r2 4 _ rfl
    have oe5:=r2 5 _ rfl
    simp only [Nat.zero_add] at oe0 oe1 oe2 oe3 oe4 oe5
    refine ⟨rfl,.tuple #[.agg #[.string ⟨#[]⟩,.string ⟨#[]⟩,.string ⟨#[]⟩,.string ⟨#[]⟩,.string ⟨#[]⟩,.string ⟨#[]⟩],.bool false],?_,by rw [HR1.out,HF.out];rfl,HB4.out⟩
    simp [results,Try.results23,go_sem,oe0,oe1,oe2,oe3,oe4,oe5]
   ·have e0:=text_some he
    have HX:=Lib.hid (HT.out.trans (decide_eq_true he))
    clear he HT HN
    have hml:=HL6.out
    go_wp2
    go_roundw
    case rel=>exact ⟨k+1,HLK.out,by go_num,HX,HQ1,HQ2,HBW⟩
    case measure=>have:=HLK.out;simp [intOf];omega
  ·obtain rfl:k=on.length:=by omega
   have HM2:Hid (keyOk row (on.map (selC s))=true):=by have:=HM.out;rwa [List.take_of_length_le (by rw [List.length_map];exact Nat.le_refl _)] at this
   rw [List.take_of_length_le (by rw [List.length_map];exact Nat.le_refl _)] at HQ2
   have HR1:=Lib.hid (keyR_yes HM2.out)
   have hk6:=keyL_length (a:=row) (cs:=on.map (selC s)) (by rw [List.length_map];exact HL6.out)
   generalize keyL row (on.map (selC s))=kl at *
   obtain ⟨k0,k1,k2,k3,k4,k5,rfl⟩:=six hk6
   have HBW:=HB
   clear HM hk6 HB
   obtain ⟨_,r1,_,r2,r3⟩:=HQ1.out.parts
   have ze0:=r2 0 _ rfl
   have ze1:=r2 1 _ rfl
   have ze2:=r2 2 _ rfl
   have ze3:=r2 3 _ rfl
   have ze4:=r2 4 _ rfl
   have ze5:=r2 5 _ rfl
   have zf0:=(r3 0 (by decide)).2
   have zf1:=(r3 1 (by decide)).2
   have zf2:=(r3 2 (by decide)).2
   have zf3:=(r3 3 (by decide)).2
   have zf4:=(r3 4 (by decide)).2
   have zf5:=(r3 5 (by decide)).2
   simp only [Nat.zero_add] at ze0 ze1 ze2 ze3 ze4 ze5 zf0 zf1 zf2 zf3 zf4 zf5
   obtain ⟨_,r1,_,r2,r3⟩:=HQ2.out.parts
   have ke0:=r2 0 _ rfl
   have ke1:=r2 1 _ rfl
   have ke2:=r2 2 _ rfl
   have ke3:=r2 3 _ rfl
   have ke4:=r2 4 _ rfl
   have ke5:=r2 5 _ rfl
   simp only [Nat.zero_add] at ke0 ke1 ke2 ke3 ke4 ke5
   have hO4:=(Own.stored (Own.stored (Own.stored (Own.stored (Own.stored (Own.stored HQ1.out 0 (by decide) (.string k0)) 1 (by decide) (.string k1)) 2 (by decide) (.string k2)) 3 (by decide) (.string k3)) 4 (by decide) (.string k4)) 5 (by decide) (.string k5))
   have hb4:=((((((HBW.out.setCell (Nat.le_refl _) (p:=⟨w.heap.size,0+0,none⟩) (.string k0)).setCell (Nat.le_refl _) (p:=⟨w.heap.size,0+1,none⟩) (.string k1)).setCell (Nat.le_refl _) (p:=⟨w.heap.size,0+2,none⟩) (.string k2)).setCell (Nat.le_refl _) (p:=⟨w.heap.size,0+3,none⟩) (.string k3)).setCell (Nat.le_refl _) (p:=⟨w.heap.size,0+4,none⟩) (.string k4)).setCell (Nat.le_refl _) (p:=⟨w.heap.size,0+5,none⟩) (.string k5))
   simp only [Nat.zero_add] at hO4 hb4
   have HO:=Lib.hid hO4
   have HB4:=Lib.hid hb4
   clear hO4 hb4 r1 r2 r3
   go_wp2
   clear ze0 ze1 ze2 ze3 ze4 ze5 zf0 zf1 zf2 zf3 zf4 zf5
   clear ke0 ke1 ke2 ke3 ke4 ke5
   have hO:=HO.out
   obtain ⟨_,r1,_,r2,r3⟩:=hO.parts
   have oe0:=r2 0 _ rfl
   have oe1:=r2 1 _ rfl
   have oe2:=r2 2 _ rfl
   have oe3:=r2 3 _ rfl
   have oe4:=r2 4 _ rfl
   have oe5:=r2 5 _ rfl
   simp only [Nat.zero_add] at oe0 oe1 oe2 oe3 oe4 oe5
   refine ⟨rfl,.tuple #[.agg #[.string k0,.string k1,.string k2,.string k3,.string k4,.string k5],.bool true],?_,by rw [HR1.out,HM2.out];rfl,HB4.out⟩
   simp [results,Try.results23,go_sem,oe0,oe1,oe2,oe3,oe4,oe5]
end Go.Proofs.Ytaoeikeobfllkaa
