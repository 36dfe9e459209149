/- The contract of the answer's Rows of layer 12, of a block that rows make. -/
import Derived.Test.YtafmbnafibahkaaGreatGStrs
import Derived.Test.YtafmbnafibahkaaGreatGTimes
import Derived.Test.YtafmbnafibahkaaGreatGBlocks
import Derived.Test.YtafmbnafibahkaaGreatGBlockUnder
import Derived.Test.YtafmbnafibahkaaGreatGShelfRead
import Derived.Test.YtafmbnafibahkaaGreatGColRef
import Derived.Deep.RegionWith
import Derived.Deep.RegionLaw
namespace Go.Proofs.YtafmbnafibahkaaGreat
open Go Go.RowKit
theorem Tryz.infoD9:(Tryz.prog.info? 9).map (fun i=>(i.zero,i.size,i.bytes))=some (some (.string ⟨#[]⟩),1,16):=by kernel_rfl
set_option maxHeartbeats 2000000 in
set_option maxRecDepth 100000 in
theorem ref_down_calls {w:World}{v:Value}{l:List Tm}(h:TimesIn w v l)(c:Nat)(hc:∀ t∈l,c < t.1.length)(hl:l.length≤1000000) :
  GivesStrs Tryz.prog 69 #[v,.int .i64 c] w (downL l c):=by
 obtain ⟨j0,hj,jz0,jz1,jz2⟩:=info_parts Tryz.infoD9
 obtain ⟨hb,hB⟩:=start w
 obtain ⟨tv,A1,cap1,rfl,_,hat1⟩:=times_at h
 have HAT1:=Lib.hid hat1
 have HC:=Lib.hid hc
 clear h hat1 hc
 unfold GivesStrs
 go_enter Tryz.func69,Tryz.ntmps69
 go_wp2
 go_loopw [5,6] (fun x i wr=>∃ k:Nat,k≤l.length∧i=.int .i64 k∧Own wr w.heap.size 1 x k (((downL l c).take k).map Value.string)∧Below w.heap.size w wr) (fun _ i _=>l.length-(intOf i).toNat)
 case atStart=>exact ⟨0,Nat.zero_le _,rfl,Own.nil_ _ _ _,hb⟩
 case round =>
  clear hb hB
  obtain ⟨k,hk,rfl,hO,hb⟩:=hrel
  have hB:=hb.size
  obtain ⟨A9,p9,rfl⟩:=hO.len
  by_cases hlt:k < l.length
  ·obtain ⟨b,off,rfl,hbl,hcc⟩:=HAT1.out k hlt
   obtain ⟨rv,s1,_,c1,c2⟩:=hcc k hlt
   have hcl:=HC.out _ (List.getElem_mem hlt)
   obtain ⟨A2,p2,rfl,hat2⟩:=one_at s1
   obtain ⟨b2,off2,rfl,hbl2,hc2⟩:=hat2 c hcl
   have x1:=(hb.cell (p:=⟨b,off+k*2,none⟩) hbl).trans c1
   have x2:=(hb.cell (p:=⟨b2,off2+c,none⟩) hbl2).trans (hc2 c hcl)
   have HT:=downL_take l c k hlt
   rw [List.getD_eq_getElem?_getD,List.getElem?_eq_getElem hcl,Option.getD_some] at HT
   have HX:Hid (((downL l c).take (k+1)).map Value.string=((downL l c).take k).map Value.string++[Value.string (l[k].1[c])]):=by show _=_;rw [HT,List.map_append];rfl
   clear hcc c1 c2 hc2 hat2 s1 HT
   generalize l[k].1[c]=s at *
   generalize ((downL l c).take k).map Value.string=xs at *
   obtain ⟨r,hr⟩:∃ r,l[k].1.length=r:=⟨_,rfl⟩
   rw [hr] at hcl x1
   clear hr
   have i0:(0:Int)≤(c:Int):=by omega
   have i1:(c:Int) < (r:Int):=by omega
   go_wp2_with (at_builtin;refine wpList_append_Own rfl _ _ 44 rfl 9 j0 (.string ⟨#[]⟩) 1 16 Tryz.underlying44 hj jz0 jz1 jz2 rfl (by decide) _ _ _ rfl (Own.alloc hO _) ⟨wr.heap.size,0,none⟩ 1 1 [_] rfl rfl (one_new _ _ _) (one_str _) ?c1 ?c2 (below_alloc hb hB _).2 ?_)
   case c1=>unfold maxLen;omega
   case c2=>omega
   intro v3 w3 hO3 hg3
   have hb3:=(Own.alloc hO (.cells #[Value.string s] 9)).grown (below_alloc hb hB _).1 (below_alloc hb hB _).2 hg3
   have HO3:=Lib.hid hO3
   clear hO hb hB hg3 x1 x2 hO3
   go_wp2
   go_roundw
   case rel=>exact ⟨k+1,by omega,by go_num,by rw [HX.out];exact HO3.out,hb3⟩
   case measure=>simp [intOf];omega
  ·obtain rfl:k=l.length:=by omega
   rw [List.take_of_length_le (by rw [downL_length];omega)] at hO
   have H2:=Lib.hid (strs_of hO (downL_length l c).symm)
   clear hO
   go_wp2
   go_ret
   exact ⟨_,rfl,H2.out,hb⟩
theorem Tryz.infoE3:(Tryz.prog.info? 3).map (fun i=>(i.zero,i.size,i.bytes))=some (some (.int .i64 0),1,8):=by kernel_rfl
def BBox (w:World)(B:Nat)(n:Int)(cv:Value)(s:ByteArray):Prop:=Own w B 3 (.slice (some ⟨B,0,none⟩) 1 1) 1 [.int .i64 n,cv,.string s]
section
variable {w w':World}{B:Nat}{n:Int}{cv:Value}{s:ByteArray}
theorem BBox.cells (h:BBox w B n cv s):w.cell? ⟨B,0,none⟩=some (.int .i64 n)∧w.cell? ⟨B,1,none⟩=some cv∧w.cell? ⟨B,2,none⟩=some (.string s)∧w.frozen? ⟨B,0,none⟩=false∧w.frozen? ⟨B,1,none⟩=false∧w.frozen? ⟨B,2,none⟩=false∧B < w.heap.size:=by
 obtain ⟨_,h2,_,hc,hr⟩:=Own.parts h
 have e0:=hc 0 _ rfl
 have e1:=hc 1 _ rfl
 have e2:=hc 2 _ rfl
 have f0:=(hr 0 (by decide)).2
 have f1:=(hr 1 (by decide)).2
 have f2:=(hr 2 (by decide)).2
 rw [Nat.zero_add] at e1 e2 f1 f2
 exact ⟨e0,e1,e2,f0,f1,f2,h2⟩
theorem BBox.later (h:BBox w B n cv s)(hb:Below w.heap.size w w'):BBox w' B n cv s:=Own.later h hb
theorem BBox.drew (h:BBox w B n cv s):BBox w.drew B n cv s:=Own.drew h
theorem BBox.other (h:BBox w B n cv s){row:Option Nat}(hg:w.grownBy w' row)(hne:row≠some B):BBox w' B n cv s :=
 Own.other h hg fun k hk e=>by
  simp only [Value.ownBlock,Option.some.injEq] at hk
  subst hk
  exact hne e.symm
theorem BBox.put1 (h:BBox w B n cv s)(cv':Value):BBox (w.setCell ⟨B,1,none⟩ cv') B n cv' s:=by
 have:=Own.stored h 1 (by decide) cv'
 simp only [Nat.zero_add] at this
 exact this
theorem BBox.put2 (h:BBox w B n cv s)(s':ByteArray):BBox (w.setCell ⟨B,2,none⟩ (.string s')) B n cv s':=by
 have:=Own.stored h 2 (by decide) (.string s')
 simp only [Nat.zero_add] at this
 exact this
theorem BBox.putAll (h:BBox w B n cv s)(n':Int)(cv':Value)(s':ByteArray):BBox (((w.setCell ⟨B,0,none⟩ (.int .i64 n')).setCell ⟨B,1,none⟩ cv').setCell ⟨B,2,none⟩ (.string s')) B n' cv' s':=by
 have:=Own.stored (Own.stored (Own.stored h 0 (by decide) (.int .i64 n')) 1 (by decide) cv') 2 (by decide) (.string s')
 simp only [Nat.zero_add] at this
 exact this
theorem bbox_lit (w:World)(T:TypeId)(n:Int)(cv:Value)(s:ByteArray):BBox (w.alloc (.cells #[.int .i64 n,cv,.string s] T)) w.heap.size n cv s :=
 Own.lit (size:=3) w #[.int .i64 n,cv,.string s] T 1 (Nat.le_refl _) (by unfold maxLen;omega) rfl
end
def OfNew (w:World)(l:List Tm)(K:Nat)(e:Ending)(w':World):Prop:=∃ cv,e=.returned (blkA (cv,blockOf l K))∧StrsIn w' cv (colsT l K)∧Fresh w.heap.size cv∧Below w.heap.size w w'
set_option maxHeartbeats 4000000 in
set_option maxRecDepth 100000 in
theorem ref_block_of_new {w:World}{v:Value}{l:List Tm}(h:TimesIn w v l)(K:Nat)(hK:∀ t∈l,K≤t.1.length∧∀ c∈t.1,c.size≤1000000)(hKb:K≤1000000)(hl:l.length≤4096)(hr:InR (l.map Prod.snd)) :
  Calls Tryz.prog 49 #[v,.int .i64 K] w (OfNew w l K):=by
 obtain ⟨j0,hj,jz0,jz1,jz2⟩:=info_parts Tryz.infoD9
 obtain ⟨k0,hk0,kz0,kz1,kz2⟩:=info_parts Tryz.infoE3
 have hlT:=h.len
 have HT0:=Lib.hid h
 have HKK:=Lib.hid hK
 have HR:=Lib.hid hr
 obtain ⟨tv,A1,cap1,rfl,_,_⟩:=times_at h
 have q:∀ (w:World) (o:Obj),Below w.heap.size w (w.alloc o):=fun w o=>Below.alloc (.refl _ _) (Nat.le_refl _) o
 have hz:=(bbox_lit w 72 0 (.slice none 0 0) ⟨#[]⟩).later (q _ (.cells #[.int .i64 l.length,.slice none 0 0,.string ⟨#[]⟩] 72))
 have ho:=bbox_lit (w.alloc (.cells #[.int .i64 0,.slice none 0 0,.string ⟨#[]⟩] 72)) 72 l.length (.slice none 0 0) ⟨#[]⟩
 have hb:=(q w (.cells #[.int .i64 0,.slice none 0 0,.string ⟨#[]⟩] 72)).alloc (by simp) (.cells #[.int .i64 l.length,.slice none 0 0,.string ⟨#[]⟩] 72)
 rw [show (w.alloc (.cells #[.int .i64 0,.slice none 0 0,.string ⟨#[]⟩] 72)).heap.size=w.heap.size+1 by simp] at ho
 have hsz:((w.alloc (.cells #[.int .i64 0,.slice none 0 0,.string ⟨#[]⟩] 72)).alloc (.cells #[.int .i64 l.length,.slice none 0 0,.string ⟨#[]⟩] 72)).heap.size=w.heap.size+2:=by simp
 clear h hK hr q
 go_enter Tryz.func49,Tryz.ntmps49
 go_wp2_with fail
 generalize (w.alloc (.cells #[.int .i64 0,.slice none 0 0,.string ⟨#[]⟩] 72)).alloc (.cells #[.int .i64 l.length,.slice none 0 0,.string ⟨#[]⟩] 72)=w2 at *
 go_loopw [6] (fun i wr=>∃ (k:Nat) (cv:Value),k≤K∧i=.int .i64 k∧BBox wr w.heap.size 0 (.slice none 0 0) ⟨#[]⟩∧BBox wr (w.heap.size+1) l.length cv ⟨#[]⟩∧Own wr (w.heap.size+2) 1 cv k ((colsT l k).map Value.string)∧w.heap.size+2≤wr.heap.size∧Below w.heap.size w wr) (fun i _=>K-(intOf i).toNat)
 case atStart=>exact ⟨0,.slice none 0 0,Nat.zero_le _,rfl,hz,ho,Own.nil_ _ _ _,by omega,hb⟩
 case round =>
  clear hz ho hb hsz
  obtain ⟨k,cv,hk,rfl,hz,ho,hO,hs2,hb⟩:=hrel
  by_cases hlt:k < K
  ·have HX:Hid ((colsT l (k+1)).map Value.string=(colsT l k).map Value.string++[Value.string (colB (downL l k))]):=colsT_next l k
   have HD:Hid (GivesStrs Tryz.prog 69 #[.slice A1 l.length cap1,.int .i64 k] wr.drew (downL l k)):=ref_down_calls ((HT0.out.kept hb).kept (Below.drew (.refl _ _))) k (fun t ht=>by have:=(HKK.out t ht).1;omega) (by omega)
   have HP:Hid (∀ (w':World) (v':Value),StrsIn w' v' (downL l k)→GivesAt Tryz.prog 68 #[v'] w' (.string (colB (downL l k)))):=fun w' v' h=>ref_col_print_calls h (by rw [downL_length];exact hl) (fun c hc=>by
    obtain ⟨t,ht,rfl⟩:=List.mem_map.1 hc
    obtain ⟨h1,h2⟩:=HKK.out t ht
    rw [List.getD_eq_getElem?_getD,List.getElem?_eq_getElem (by omega)]
    exact h2 _ (List.getElem_mem _))
   generalize downL l k=dl at *
   generalize colB dl=s at *
   generalize (colsT l k).map Value.string=xs at *
   obtain ⟨A9,p9,rfl⟩:=hO.len
   have HBX:=Lib.hid ho.drew
   have HO:=Lib.hid hO.drew
   have hb0:=Below.drew (.refl wr.heap.size wr)
   obtain ⟨_,x1,_,_,f1,_,_⟩:=ho.cells
   have HX1:=Lib.hid x1
   have HWR:=Lib.hid hs2
   have HNE:Hid ((Value.slice A9 k p9).ownBlock≠some (w.heap.size+1)):=fun e=>by have:=(hO.lt _ e).1;omega
   have HNE0:Hid ((Value.slice A9 k p9).ownBlock≠some w.heap.size):=fun e=>by have:=(hO.lt _ e).1;omega
   have HLT:Hid (∀ q,(Value.slice A9 k p9).ownBlock=some q→w.heap.size+2≤q):=fun q e=>(hO.lt q e).1
   have HZ:=Lib.hid hz.drew
   have HB:=Lib.hid hb.drew
   clear hz ho hO hb
   go_wp2_with fail
   go_region_law (first
    | (refine step_append_src rfl (.tmp 18) (.tmp 23) 44 rfl 9 j0 (.string ⟨#[]⟩) 1 16 Tryz.underlying44 hj jz0 jz1 jz2 rfl (by decide) (.slice A9 k p9) k xs ?_ ((HO.out.later HQ4.out).alloc _) (.slice (some ⟨w4.heap.size,0,none⟩) 1 1) 1 [.string s] ?_ (lit_ones Value.string w4 9 [s] (by show 1≤1000;decide)) (one_str _) ?_ ?_ ?_ ?_;rfl;rfl;(focus (unfold maxLen;omega));omega;(focus (have h1:=HQ4.out.size;have h2:=HWR.out;simp at h1 ⊢;omega));intro v5 w5 hO5 hg5 ha5;obtain ⟨A5,p5,rfl⟩:=hO5.len;have hbx:=(HBX.out.later (HQ4.out.alloc HQ4.out.size (.cells #[Value.string s] 9))).other hg5 HNE.out;obtain ⟨_,x5,_,_,f5,_,_⟩:=hbx.cells)
    | (go_simp;first
     | (go_at_call 69;refine HD.out.mono ?_;rintro e w3 ⟨v3,rfl,h3,hq3⟩;have y3:=cell_kept HX1.out (hb0.trans hq3);have HS3:=Lib.hid h3;have HQ3:=Lib.hid hq3)
     | (go_at_call 68;refine (HP.out _ _ HS3.out).mono ?_;rintro e w4 ⟨rfl,hq4⟩;have y4:=cell_kept HX1.out (hb0.trans (HQ3.out.trans (hq4.mono HQ3.out.size)));have z4:=cell_kept y4 (Below.alloc (.refl w4.heap.size w4) (Nat.le_refl _) (.cells #[Value.string s] 9));have HQ4:=Lib.hid (HQ3.out.trans (hq4.mono HQ3.out.size)))))
   all_goals
    have hqa:=HQ4.out.alloc HQ4.out.size (.cells #[Value.string s] 9)
    have hz:=(HZ.out.later hqa).other hg5 HNE0.out
    have hb:=(HB.out.trans (hqa.mono HB.out.size)).grown hg5 (by have h1:=hqa.size;have h2:=HWR.out;simp at h1 ⊢;omega) (fun k hk=>by have h1:=HLT.out k hk;omega)
    have hsz:=hg5.size
    have hsz2:=hqa.size
    have hg6:=setCells_grown (w.heap.size+1) [Value.slice A5 (k+1) p5] 1 w5
    simp only [World.setCells] at hg6
    have hz6:=hz.other hg6 (by simp)
    have ho6:=hbx.put1 (.slice A5 (k+1) p5)
    have hO6:=hO5.other hg6 (fun k hk e=>by have:=(hO5.lt k hk).1;simp at e;omega)
    have hb6:=hb.setCell (p:=⟨w.heap.size+1,1,none⟩) (Nat.le_succ _) (.slice A5 (k+1) p5)
    have hs6:w.heap.size+2≤(w5.setCell ⟨w.heap.size+1,1,none⟩ (.slice A5 (k+1) p5)).heap.size:=by have h2:=HWR.out;simp at hsz hsz2 ⊢;omega
    rw [←HX.out] at hO6
    clear hqa hz hb hsz hsz2 hg6 hbx x5 f5 hO5 hg5 ha5 y3 y4 z4 HX1 x1 f1
    go_wp2
    go_roundw
    case rel=>exact ⟨k+1,_,by omega,by go_num,hz6,ho6,hO6,hs6,hb6⟩
    case measure=>simp [intOf];omega
  ·obtain rfl:k=K:=by omega
   obtain ⟨A9,p9,rfl⟩:=hO.len
   have HCV:=Lib.hid (strs_of hO (colsT_length l k).symm)
   have HFR:Hid (Fresh (w.heap.size+2) (.slice A9 k p9)):=fun q e=>(hO.lt q e).1
   have HZ:=Lib.hid hz
   have HO:=Lib.hid ho
   clear hO hz ho
   obtain ⟨wa,hwa⟩:∃ wa,wa=wr:=⟨_,rfl⟩
   rw [←hwa] at HCV HZ HO hb hs2 ⊢
   clear hwa
   go_wp2
   go_loopw [7,8] (fun x i wr=>∃ j:Nat,j≤l.length∧i=.int .i64 j∧Own wr wa.heap.size 1 x j (((l.map Prod.snd).take j).map fun n=>Value.int .i64 n)∧Below wa.heap.size wa wr) (fun _ i _=>l.length-(intOf i).toNat)
   case atStart=>exact ⟨0,Nat.zero_le _,rfl,Own.nil_ _ _ _,.refl _ _⟩
   case round =>
    obtain ⟨j,hj2,rfl,hO,hb2⟩:=hrel
    have hB2:=hb2.size
    obtain ⟨A8,p8,rfl⟩:=hO.len
    obtain ⟨tv,Ax,cx,hAx,_,hat1⟩:=times_at (HT0.out.kept hb)
    simp only [Value.slice.injEq,true_and] at hAx
    obtain ⟨rfl,rfl⟩:=hAx
    have HAT1:=Lib.hid hat1
    clear hat1
    by_cases hlt:j < l.length
    ·obtain ⟨b,off,rfl,hbl,hcc⟩:=HAT1.out j hlt
     obtain ⟨rv,_,_,c1,c2⟩:=hcc j hlt
     have x2:=(hb2.cell (p:=⟨b,off+j*2+1,none⟩) hbl).trans c2
     have HX:Hid (((l.map Prod.snd).take (j+1)).map (fun n=>Value.int .i64 n)=((l.map Prod.snd).take j).map (fun n=>Value.int .i64 n)++[Value.int .i64 l[j].2]):=by
      show _=_
      rw [take_add _ j (by simpa using hlt),List.map_append];simp
     clear hcc c1 c2
     generalize l[j].2=m at *
     generalize ((l.map Prod.snd).take j).map (fun n=>Value.int .i64 n)=xs at *
     go_wp2_with (at_builtin;refine wpList_append_Own rfl _ _ 92 rfl 3 k0 (.int .i64 0) 1 8 Tryz.underlying92 hk0 kz0 kz1 kz2 rfl (by decide) _ _ _ rfl (Own.alloc hO _) ⟨wr.heap.size,0,none⟩ 1 1 [_] rfl rfl (one_new _ _ _) (one_int _ _) ?c1 ?c2 (below_alloc hb2 hB2 _).2 ?_)
     case c1=>unfold maxLen;omega
     case c2=>omega
     intro v3 w3 hO3 hg3
     have hb3:=(Own.alloc hO (.cells #[Value.int .i64 m] 3)).grown (below_alloc hb2 hB2 _).1 (below_alloc hb2 hB2 _).2 hg3
     have HO3:=Lib.hid hO3
     clear hO hb2 hB2 hg3 x2 hO3
     go_wp2
     go_roundw
     case rel=>exact ⟨j+1,by omega,by go_num,by rw [HX.out];exact HO3.out,hb3⟩
     case measure=>simp [intOf];omega
    ·obtain rfl:j=l.length:=by omega
     rw [List.take_of_length_le (by simp)] at hO
     have hI:IntsIn wr (.slice A8 l.length p8) (l.map Prod.snd):=by
      have:=hO.slice
      unfold IntsIn
      rw [List.length_map]
      exact this
     have HP:=Lib.hid (ref_shelf_print_calls hI HR.out (by rw [List.length_map];exact hl))
     have hoo:=HO.out.later hb2
     have hzz:=HZ.out.later hb2
     have HC2:=Lib.hid (StrsIn.kept HCV.out hb2)
     replace hb:=hb.trans (hb2.mono hb.size)
     clear hO hI hb2 hB2 HCV HZ HO
     go_wp2_with fail
     refine HP.out.stepB (w0:=wr) (B:=wr.heap.size) (.refl _ _) (Nat.le_refl _) ?_
     intro w4 _ _ hq
     replace hb:=hb.trans (hq.mono hb.size)
     replace hoo:=hoo.later hq
     replace hzz:=hzz.later hq
     have HC3:=Lib.hid (StrsIn.kept HC2.out hq)
     clear hq HC2 HP
     generalize hsE:shelfB (l.map Prod.snd)=s at *
     have HSE:=Lib.hid hsE
     clear hsE
     obtain ⟨y0,y1,y2,g0,g1,g2,_⟩:=hoo.cells
     have hgo:=setCells_grown (w.heap.size+1) [Value.string s] 2 w4
     simp only [World.setCells] at hgo
     have hz5:=hzz.other hgo (by simp)
     have ho5:=hoo.put2 s
     have hb5:=hb.setCell (p:=⟨w.heap.size+1,2,none⟩) (Nat.le_succ _) (.string s)
     have hC5:StrsIn (w4.setCell ⟨w.heap.size+1,2,none⟩ (.string s)) (.slice A9 k p9) (colsT l k):=SliceOf.fresh HC3.out HFR.out hgo (by omega)
     have HC5:=Lib.hid hC5
     clear hC5 HC3 hgo hb hoo hzz
     obtain ⟨z0,z1,z2,zf0,zf1,zf2,_⟩:=hz5.cells
     have hz6:=hz5.putAll l.length (.slice A9 k p9) s
     have hb6:=((hb5.setCell (p:=⟨w.heap.size,0,none⟩) (Nat.le_refl _) (.int .i64 l.length)).setCell (p:=⟨w.heap.size,1,none⟩) (Nat.le_refl _) (.slice A9 k p9)).setCell (p:=⟨w.heap.size,2,none⟩) (Nat.le_refl _) (.string s)
     have hg6:=setCells_grown w.heap.size [Value.int .i64 l.length,.slice A9 k p9,.string s] 0 (w4.setCell ⟨w.heap.size+1,2,none⟩ (.string s))
     simp only [World.setCells,Nat.zero_add,Nat.reduceAdd] at hg6
     have HC6:=Lib.hid (SliceOf.fresh HC5.out HFR.out hg6 (by omega))
     clear ho5 hb5 hz5 hg6 HC5
     go_wp2
     obtain ⟨z0,z1,z2,_⟩:=hz6.cells
     refine ⟨rfl,blkA (.slice A9 k p9,blockOf l k),?_,.slice A9 k p9,rfl,HC6.out,HFR.out.mono (by omega),hb6⟩
     simp [results,Tryz.results49,go_sem,z0,z1,z2,blkA,blockOf,HSE.out]
end Go.Proofs.YtafmbnafibahkaaGreat
