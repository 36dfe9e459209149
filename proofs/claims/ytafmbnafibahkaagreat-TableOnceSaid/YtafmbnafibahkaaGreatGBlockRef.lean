/- The contract of the answer's Rows of layer 12, of a block that rows make. -/
import Derived.Test.YtafmbnafibahkaaGreatGStrs
import Derived.Test.YtafmbnafibahkaaGreatGTimes
import Derived.Test.YtafmbnafibahkaaGreatGBlocks
import Derived.Test.YtafmbnafibahkaaGreatGBlockUnder
import Derived.Test.YtafmbnafibahkaaGreatGShelfRead
import Derived.Test.YtafmbnafibahkaaGreatGColRef
import Derived.Deep.RegionWith
import Derived.Deep.RegionLaw
namespace Go.Proofs.YtafmbnafibahkaaGreat
open Go Go.RowKit
theorem Tryz.infoD9:(Tryz.prog.info? 9).map (fun i=>(i.zero,i.size,i.bytes))=some (some (.string ⟨#[]⟩),1,16):=by kernel_rfl
set_option maxHeartbeats 2000000 in
set_option maxRecDepth 100000 in
theorem ref_down_calls {w:World}{v:Value}{l:List Tm}(h:TimesIn w v l)(c:Nat)(hc:∀ t∈l,c < t.1.length)(hl:l.length≤1000000) :
  GivesStrs Tryz.prog 69 #[v,.int .i64 c] w (downL l c):=by
 obtain ⟨j0,hj,jz0,jz1,jz2⟩:=info_parts Tryz.infoD9
 obtain ⟨hb,hB⟩:=start w
 obtain ⟨tv,A1,cap1,rfl,_,hat1⟩:=times_at h
 have HAT1:=Lib.hid hat1
 have HC:=Lib.hid hc
 clear h hat1 hc
 unfold GivesStrs
 go_enter Tryz.func69,Tryz.ntmps69
 go_wp2
 go_loopw [5,6] (fun x i wr=>∃ k:Nat,k≤l.length∧i=.int .i64 k∧Own wr w.heap.size 1 x k (((downL l c).take k).map Value.string)∧Below w.heap.size w wr) (fun _ i _=>l.length-(intOf i).toNat)
 case atStart=>exact ⟨0,Nat.zero_le _,rfl,Own.nil_ _ _ _,hb⟩
 case round =>
  clear hb hB
  obtain ⟨k,hk,rfl,hO,hb⟩:=hrel
  have hB:=hb.size
  obtain ⟨A9,p9,rfl⟩:=hO.len
  by_cases hlt:k < l.length
  ·obtain ⟨b,off,rfl,hbl,hcc⟩:=HAT1.out k hlt
   obtain ⟨rv,s1,_,c1,c2⟩:=hcc k hlt
   have hcl:=HC.out _ (List.getElem_mem hlt)
   obtain ⟨A2,p2,rfl,hat2⟩:=one_at s1
   obtain ⟨b2,off2,rfl,hbl2,hc2⟩:=hat2 c hcl
   have x1:=(hb.cell (p:=⟨b,off+k*2,none⟩) hbl).trans c1
   have x2:=(hb.cell (p:=⟨b2,off2+c,none⟩) hbl2).trans (hc2 c hcl)
   have HT:=downL_take l c k hlt
   rw [List.getD_eq_getElem?_getD,List.getElem?_eq_getElem hcl,Option.getD_some] at HT
   have HX:Hid (((downL l c).take (k+1)).map Value.string=((downL l c).take k).map Value.string++[Value.string (l[k].1[c])]):=by show _=_;rw [HT,List.map_append];rfl
   clear hcc c1 c2 hc2 hat2 s1 HT
   generalize l[k].1[c]=s at *
   generalize ((downL l c).take k).map Value.string=xs at *
   obtain ⟨r,hr⟩:∃ r,l[k].1.length=r:=⟨_,rfl⟩
   rw [hr] at hcl x1
   clear hr
   have i0:(0:Int)≤(c:Int):=by omega
   have i1:(c:Int) < (r:Int):=by omega
   go_wp2_with (at_builtin;refine wpList_append_Own rfl _ _ 44 rfl 9 j0 (.string ⟨#[]⟩) 1 16 Tryz.underlying44 hj jz0 jz1 jz2 rfl (by decide) _ _ _ rfl (Own.alloc hO _) ⟨wr.heap.size,0,none⟩ 1 1 [_] rfl rfl (one_new _ _ _) (one_str _) ?c1 ?c2 (below_alloc hb hB _).2 ?_)
   case c1=>unfold maxLen;omega
   case c2=>omega
   intro v3 w3 hO3 hg3
   have hb3:=(Own.alloc hO (.cells #[Value.string s] 9)).grown (below_alloc hb hB _).1 (below_alloc hb hB _).2 hg3
   have HO3:=Lib.hid hO3
   clear hO hb hB hg3 x1 x2 hO3
   go_wp2
   go_roundw
   case rel=>exact ⟨k+1,by omega,by go_num,by rw [HX.out];exact HO3.out,hb3⟩
   case measure=>simp [intOf];omega
  ·obtain rfl:k=l.length:=by omega
   rw [List.take_of_length_le (by rw [downL_length];omega)] at hO
   have H2:=Lib.hid (strs_of hO (downL_length l c).symm)
   clear hO
   go_wp2
   go_ret
   exact ⟨_,rfl,H2.out,hb⟩
theorem Tryz.infoE3:(Tryz.prog.info? 3).map (fun i=>(i.zero,i.size,i.bytes))=some (some (.int .i64 0),1,8):=by kernel_rfl
def BBox (w:World)(B:Nat)(n:Int)(cv:Value)(s:ByteArray):Prop:=Own w B 3 (.slice (some ⟨B,0,none⟩) 1 1) 1 [.int .i64 n,cv,.string s]
section
variable {w w':World}{B:Nat}{n:Int}{cv:Value}{s:ByteArray}
theorem BBox.cells (h:BBox w B n cv s):w.cell? ⟨B,0,none⟩=some (.int .i64 n)∧w.cell? ⟨B,1,none⟩=some cv∧w.cell? ⟨B,2,none⟩=some (.string s)∧w.frozen? ⟨B,0,none⟩=false∧w.frozen? ⟨B,1,none⟩=false∧w.frozen? ⟨B,2,none⟩=false∧B < w.heap.size:=by
 obtain ⟨_,h2,_,hc,hr⟩:=Own.parts h
 have e0:=hc 0 _ rfl
 have e1:=hc 1 _ rfl
 have e2:=hc 2 _ rfl
 have f0:=(hr 0 (by decide)).2
 have f1:=(hr 1 (by decide)).2
 have f2:=(hr 2 (by decide)).2
 rw [Nat.zero_add] at e1 e2 f1 f2
 exact ⟨e0,e1,e2,f0,f1,f2,h2⟩
theorem BBox.later (h:BBox w B n cv s)(hb:Below w.heap.size w w'):BBox w' B n cv s:=Own.later h hb
theorem BBox.drew (h:BBox w B n cv s):BBox w.drew B n cv s:=Own.drew h
theorem BBox.other (h:BBox w B n cv s){row:Option Nat}(hg:w.grownBy w' row)(hne:row≠some B):BBox w' B n cv s :=
 Own.other h hg fun k hk e=>by
  simp only [Value.ownBlock,Option.some.injEq] at hk
  subst hk
  exact hne e.symm
theorem BBox.put1 (h:BBox w B n cv s)(cv':Value):BBox (w.setCell ⟨B,1,none⟩ cv') B n cv' s:=by
 have:=Own.stored h 1 (by decide) cv'
 simp only [Nat.zero_add] at this
 exact this
theorem BBox.put2 (h:BBox w B n cv s)(s':ByteArray):BBox (w.setCell ⟨B,2,none⟩ (.string s')) B n cv s':=by
 have:=Own.stored h 2 (by decide) (.string s')
 simp only [Nat.zero_add] at this
 exact this
theorem BBox.putAll (h:BBox w B n cv s)(n':Int)(cv':Value)(s':ByteArray):BBox (((w.setCell ⟨B,0,none⟩ (.int .i64 n')).setCell ⟨B,1,none⟩ cv').setCell ⟨B,2,none⟩ (.string s')) B n' cv' s':=by
 have:=Own.stored (Own.stored (Own.stored h 0 (by decide) (.int .i64 n')) 1 (by decide) cv') 2 (by decide) (.string s')
 simp only [Nat.zero_add] at this
 exact this
theorem bbox_lit (w:World)(T:TypeId)(n:Int)(cv:Value)(s:ByteArray):BBox (w.alloc (.cells #[.int .i64 n,cv,.string s] T)) w.heap.size n cv s :=
 Own.lit (size:=3) w #[.int .i64 n,cv,.string s] T 1 (Nat.le_refl _) (by unfold maxLen;omega) rfl
end
def OfNew (w:World)(l:List Tm)(K:Nat)(e:Ending)(w':World):Prop:=∃ cv,e=.returned (blkA (cv,blockOf l K))∧StrsIn w' cv (colsT l K)∧Fresh w.heap.size cv∧Below w.heap.size w w'
set_option maxHeartbeats 4000000 in
set_option maxRecDepth 100000 in
theorem ref_block_of_new {w:World}{v:Value}{l:List Tm}(h:TimesIn w v l)(K:Nat)(hK:∀ t∈l,K≤t.1.length∧∀ c∈t.1,c.size≤1000000)(hKb:K≤1000000)(hl:l.length≤4096)(hr:InR (l.map Prod.snd)) :
  Calls Tryz.prog 49 #[v,.int .i64 K] w (OfNew w l K):=by
 obtain ⟨j0,hj,jz0,jz1,jz2⟩:=info_parts Tryz.infoD9
 obtain ⟨k0,hk0,kz0,kz1,kz2⟩:=info_parts Tryz.infoE3
 have hlT:=h.len
 have HT0:=Lib.hid h
 have HKK:=Lib.hid hK
 have HR:=Lib.hid hr
 obtain ⟨tv,A1,cap1,rfl,_,_⟩:=times_at h
 have q:∀ (w:World) (o:Obj),Below w.heap.size w (w.alloc o):=fun w o=>Below.alloc (.refl _ _) (Nat.le_refl _) o
 have hz:=(bbox_lit w 72 0 (.slice none 0 0) ⟨#[]⟩).later (q _ (.cells #[.int .i64 l.length,.slice none 0 0,.string ⟨#[]⟩] 72))
 have ho:=bbox_lit (w.alloc (.cells #[.int .i64 0,.slice none 0 0,.string ⟨#[]⟩] 72)) 72 l.length (.slice none 0 0) ⟨#[]⟩
 have hb:=(q w (.cells #[.int .i64 0,.slice none 0 0,.string ⟨#[]⟩] 72)).alloc (by simp) (.cells #[.int .i64 l.length,.slice none 0 0,.string ⟨#[]⟩] 72)
 rw [show (w.alloc (.cells #[.int .i64 0,.slice none 0 0,.string ⟨#[]⟩] 72)).heap.size=w.heap.size+1 by simp] at ho
 have hsz:((w.alloc (.cells #[.int .i64 0,.slice none 0 0,.string ⟨#[]⟩] 72)).alloc (.cells #[.int .i64 l.length,.slice none 0 0,.string ⟨#[]⟩] 72)).heap.size=w.heap.size+2:=by simp
 clear h hK hr q
 go_enter Tryz.func49,Tryz.ntmps49
 go_wp2_with fail
 generalize (w.alloc (.cells #[.int .i64 0,.slice none 0 0,.string ⟨#[]⟩] 72)).alloc (.cells #[.int .i64 l.length,.slice none 0 0,.string ⟨#[]⟩] 72)=w2 at *
 go_loopw [6] (fun i wr=>∃ (k:Nat) (cv:Value),k≤K∧i=.int .i64 k∧BBox wr w.heap.size 0 (.slice none 0 0) ⟨#[]⟩∧BBox wr (w.heap.size+1) l.length cv ⟨#[]⟩∧Own wr (w.heap.size+2) 1 cv k ((colsT l k).map Value.string)∧w.heap.size+2≤wr.heap.size∧Below w.heap.size w wr) (fun i _=>K-(intOf i).toNat)
 case atStart=>exact ⟨0,.slice none 0 0,Nat.zero_le _,rfl,hz,ho,Own.nil_ _ _ _,by omega,hb⟩
 case round =>
  clear hz ho hb hsz
  obtain ⟨k,cv,hk,rfl,hz,ho,hO,hs2,hb⟩:=hrel
  by_cases hlt:k < K
  ·have HX:Hid ((colsT l (k+1)).map Value.string=(colsT l k).map Value.string++[Value.string (colB (downL l k))]):=colsT_next l k
   have HD:Hid (GivesStrs Tryz.prog 69 #[.slice A1 l.length cap1,.int .i64 k] wr.drew (downL l k)):=ref_down_calls ((HT0.out.kept hb).kept (Below.drew (.refl _ _))) k (fun t ht=>by have:=(HKK.out t ht).1;omega) (by omega)
   have HP:Hid (∀ (w':World) (v':Value),StrsIn w' v' (downL l k)→GivesAt Tryz.prog 68 #[v'] w' (.string (colB (downL l k)))):=fun w' v' h=>ref_col_print_calls h (by rw [downL_length];exact hl) (fun c hc=>by
    obtain ⟨t,ht,rfl⟩:=List.mem_map.1 hc
    obtain ⟨h1,h2⟩:=HKK.out t ht
    rw [List.getD_eq_getElem?_getD,List.getElem?_eq_getElem (by omega)]
    exact h2 _ (List.getElem_mem _))
   generalize downL l k=dl at *
   generalize colB dl=s at *
   generalize (colsT l k).map Value.string=xs at *
   obtain ⟨A9,p9,rfl⟩:=hO.len
   have HBX:=Lib.hid ho.drew
   have HO:=Lib.hid hO.drew
   have hb0:=Below.drew (.refl wr.heap.size wr)
   obtain ⟨_,x1,_,_,f1,_,_⟩:=ho.cells
   have HX1:=Lib.hid x1
   have HWR:=Lib.hid hs2
   have HNE:Hid ((Value.slice A9 k p9).ownBlock≠some (w.heap.size+1)):=fun e=>by have:=(hO.lt _ e).1;omega
   have HNE0:Hid ((Value.slice A9 k p9).ownBlock≠some w.heap.size):=fun e=>by have:=(hO.lt _ e).1;omega
   have HLT:Hid (∀ q,(Value.slice A9 k p9).ownBlock=some q→w.heap.size+2≤q):=fun q e=>(hO.lt q e).1
   have HZ:=Lib.hid hz.drew
   have HB:=Lib.hid hb.drew
   clear hz ho hO hb
   go_wp2_with fail
   go_region_law (first
    | (refine step_append_src rfl (.tmp 18) (.tmp 23) 44 rfl 9 j0 (.string ⟨#[]⟩) 1 16 Tryz.underlying44 hj jz0 jz1 jz2 rfl (by decide) (.slice A9 k p9) k xs ?_ ((HO.out.later HQ4.out).alloc _) (.slice (some ⟨w4.heap.size,0,none⟩) 1 1) 1 [.string s] ?_ (lit_ones Value.string w4 9 [s] (by show 1≤1000;decide)) (one_str _) ?_ ?_ ?_ ?_;rfl;rfl;(focus (unfold maxLen;omega));omega;(focus (have h1:=HQ4.out.size;have h2:=HWR.out;simp at h1 ⊢;omega));intro v5 w5 hO5 hg5 ha5;obtain ⟨A5,p5,rfl⟩:=hO5.len;have hbx:=(HBX.out.later (HQ4.out.alloc HQ4.out.size (.cells #[Value.string s] 9))).other hg5 HNE.out;obtain ⟨_,x5,_,_,f5,_,_⟩:=hbx.cells)
    | (go_simp;first
     | (go_at_call 69;refine HD.out.mono ?_;rintro e w3 ⟨v3,rfl,h3,hq3⟩;have y3:=cell_kept HX1.out (hb0.trans hq3);have HS3:=Lib.hid h3;have HQ3:=Lib.hid hq3)
     | (go_at_call 68;refine (HP.out _ _ HS3.out).mono ?_;rintro e w4 ⟨rfl,hq4⟩;have y4:=cell_kept HX1.out (hb0.trans (HQ3.out.trans (hq4.mono HQ3.out.size)));have z4:=cell_kept y4 (Below.alloc (.refl w4.heap.size w4) (Nat.le_refl _) (.cells #[Value.string s] 9));have HQ4:=Lib.hid (HQ3.out.trans (hq4.mono HQ3.out.size)))))
   all_goals
    have hqa:=HQ4.out.alloc HQ4.out.size (.cells #[Value.string s] 9)
    have hz:=(HZ.out.later hqa).other hg5 HNE0.out
    have hb:=(HB.out.trans (hqa.mono HB.out.size)).grown hg5 (by have h1:=hqa.size;have h2:=HWR.out;simp at h1 ⊢;omega) (fun k hk=>by have h1:=HLT.out k hk;omega)
    have hsz:=hg5.size
    have hsz2:=hqa.size
    have hg6:=setCells_grown (w.heap.size+1) [Value.slice A5 (k+1) p5] 1 w5
    simp only [World.setCells] at hg6
    have hz6:=hz.other hg6 (by simp)
    have ho6:=hbx.put1 (.slice A5 (k+1) p5)
    have hO6:=hO5.other hg6 (fun k hk e=>by have:=(hO5.lt k hk).1;simp at e;omega)
    have hb6:=hb.setCell (p:=⟨w.heap.size+1,1,none⟩) (Nat.le_succ _) (.slice A5 (k+1) p5)
    have hs6:w.heap.size+2≤(w5.setCell ⟨w.heap.size+1,1,none⟩ (.slice A5 (k+1) p5)).heap.size:=by have h2:=HWR.out;simp at hsz hsz2 ⊢;omega
    rw [←HX.out] at hO6
    clear hqa hz hb hsz hsz2 hg6 hbx x5 f5 hO5 hg5 ha5 y3 y4 z4 HX1 x1 f1
    go_wp2
    go_roundw
    case rel=>exact ⟨k+1,_,by omega,by go_num,hz6,ho6,hO6,hs6,hb6⟩
    case measure=>simp [intOf];omega
  ·obtain rfl:k=K:=by omega
   obtain ⟨A9,p9,rfl⟩:=hO.len
   have HCV:=Lib.hid (strs_of hO (colsT_length l k).symm)
   have HFR:Hid (Fresh (w.heap.size+2) (.slice A9 k p9)):=fun q e=>(hO.lt q e).1
   have HZ:=Lib.hid hz
   have HO:=Lib.hid ho
   clear hO hz ho
   obtain ⟨wa,hwa⟩:∃ wa,wa=wr:=⟨_,rfl⟩
   rw [←hwa] at HCV HZ HO hb hs2 ⊢
   clear hwa
   go_wp2
   go_loopw [7,8] (fun x i wr=>∃ j:Nat,j≤l.length∧i=.int .i64 j∧Own wr wa.heap.size 1 x j (((l.map Prod.snd).take j).map fun n=>Value.int .i64 n)∧Below wa.heap.size wa wr) (fun _ i _=>l.length-(intOf i).toNat)
   case atStart=>exact ⟨0,Nat.zero_le _,rfl,Own.nil_ _ _ _,.refl _ _⟩
   case round =>
    obtain ⟨j,hj2,rfl,hO,hb2⟩:=hrel
    have hB2:=hb2.size
    obtain ⟨A8,p8,rfl⟩:=hO.len
    obtain ⟨tv,Ax,cx,hAx,_,hat1⟩:=times_at (HT0.out.kept hb)
    simp only [Value.slice.injEq,true_and] at hAx
    obtain ⟨rfl,rfl⟩:=hAx
    have HAT1:=Lib.hid hat1
    clear hat1
    by_cases hlt:j < l.length
    ·obtain ⟨b,off,rfl,hbl,hcc⟩:=HAT1.out j hlt
     obtain ⟨rv,_,_,c1,c2⟩:=hcc j hlt
     have x2:=(hb2.cell (p:=⟨b,off+j*2+1,none⟩) hbl).trans c2
     have HX:Hid (((l.map Prod.snd).take (j+1)).map (fun n=>Value.int .i64 n)=((l.map Prod.snd).take j).map (fun n=>Value.int .i64 n)++[Value.int .i64 l[j].2]):=by
      show _=_
      rw [take_add _ j (by simpa using hlt),List.map_append];simp
     clear hcc c1 c2
     generalize l[j].2=m at *
     generalize ((l.map Prod.snd).take j).map (fun n=>Value.int .i64 n)=xs at *
     go_wp2_with (at_builtin;refine wpList_append_Own rfl _ _ 92 rfl 3 k0 (.int .i64 0) 1 8 Tryz.underlying92 hk0 kz0 kz1 kz2 rfl (by decide) _ _ _ rfl (Own.alloc hO _) ⟨wr.heap.size,0,none⟩ 1 1 [_] rfl rfl (one_new _ _ _) (one_int _ _) ?c1 ?c2 (below_alloc hb2 hB2 _).2 ?_)
     case c1=>unfold maxLen;omega
     case c2=>omega
     intro v3 w3 hO3 hg3
     have hb3:=(Own.alloc hO (.cells #[Value.int .i64 m] 3)).grown (below_alloc hb2 hB2 _).1 (below_alloc hb2 hB2 _).2 hg3
     have HO3:=Lib.hid hO3
     clear hO hb2 hB2 hg3 x2 hO3
     go_wp2
     go_roundw
     case rel=>exact ⟨j+1,by omega,by go_num,by rw [HX.out];exact HO3.out,hb3⟩
     case measure=>simp [intOf];omega
    ·obtain rfl:j=l.length:=by omega
     rw [List.take_of_length_le (by simp)] at hO
     have hI:IntsIn wr (.slice A8 l.length p8) (l.map Prod.snd):=by
      have:=hO.slice
      unfold IntsIn
      rw [List.length_map]
      exact this
     have HP:=Lib.hid (ref_shelf_print_calls hI HR.out (by rw [List.length_map];exact hl))
     have hoo:=HO.out.later hb2
     have hzz:=HZ.out.later hb2
     have HC2:=Lib.hid (StrsIn.kept HCV.out hb2)
     replace hb:=hb.trans (hb2.mono hb.size)
     clear hO hI hb2 hB2 HCV HZ HO
     go_wp2_with fail
     refine HP.out.stepB (w0:=wr) (B:=wr.heap.size) (.refl _ _) (Nat.le_refl _) ?_
     intro w4 _ _ hq
     replace hb:=hb.trans (hq.mono hb.size)
     replace hoo:=hoo.later hq
     replace hzz:=hzz.later hq
     have HC3:=Lib.hid (StrsIn.kept HC2.out hq)
     clear hq HC2 HP
     generalize hsE:shelfB (l.map Prod.snd)=s at *
     have HSE:=Lib.hid hsE
     clear hsE
     obtain ⟨y0,y1,y2,g0,g1,g2,_⟩:=hoo.cells
     have hgo:=setCells_grown (w.heap.size+1) [Value.string s] 2 w4
     simp only [World.setCells] at hgo
     have hz5:=hzz.other hgo (by simp)
     have ho5:=hoo.put2 s
     have hb5:=hb.setCell (p:=⟨w.heap.size+1,2,none⟩) (Nat.le_succ _) (.string s)
     have hC5:StrsIn (w4.setCell ⟨w.heap.size+1,2,none⟩ (.string s)) (.slice A9 k p9) (colsT l k):=SliceOf.fresh HC3.out HFR.out hgo (by omega)
     have HC5:=Lib.hid hC5
     clear hC5 HC3 hgo hb hoo hzz
     obtain ⟨z0,z1,z2,zf0,zf1,zf2,_⟩:=hz5.cells
     have hz6:=hz5.putAll l.length (.slice A9 k p9) s
     have hb6:=((hb5.setCell (p:=⟨w.heap.size,0,none⟩) (Nat.le_refl _) (.int .i64 l.length)).setCell (p:=⟨w.heap.size,1,none⟩) (Nat.le_refl _) (.slice A9 k p9)).setCell (p:=⟨w.heap.size,2,none⟩) (Nat.le_refl _) (.string s)
     have hg6:=setCells_grown w.heap.size [Value.int .i64 l.length,.slice A9 k p9,.string s] 0 (w4.setCell ⟨w.heap.size+1,2,none⟩ (.string s))
     simp only [World.setCells,Nat.zero_add,Nat.reduceAdd] at hg6
     have HC6:=Lib.hid (SliceOf.fresh HC5.out HFR.out hg6 (by omega))
     clear ho5 hb5 hz5 hg6 HC5
     go_wp2
     obtain ⟨z0,z1,z2,_⟩:=hz6.cells
     refine ⟨rfl,blkA (.slice A9 k p9,blockOf l k),?_,.slice A9 k p9,rfl,HC6.out,HFR.out.mono (by omega),hb6⟩
     simp [results,Tryz.results49,go_sem,z0,z1,z2,blkA,blockOf,HSE.out]
theorem Tryz.infoG46:(Tryz.prog.info? 46).map (fun i=>(i.zero,i.size,i.bytes))=some (some (.agg #[.slice none 0 0,.int .i64 0]),2,32):=by kernel_rfl
def RowsEnd (w:World)(l:List Tm)(e:Ending)(w':World):Prop :=
 ∃ v,e=.returned (.tuple #[v,.int .i64 (if goodB l=true then 0 else 2)])∧TimesNew w' w.heap.size v (if goodB l=true then l else [])∧Below w.heap.size w w'
theorem rows_no {w w':World}{l:List Tm}(h:goodB l=false)(hb:Below w.heap.size w w'):RowsEnd w l (.returned (.tuple #[.slice none 0 0,.int .i64 2])) w':=by
 refine ⟨.slice none 0 0,?_,?_,hb⟩
 ·rw [h];rfl
 ·rw [h];exact TimesNew.nil_ _ _ _
theorem rows_yes {w w':World}{l:List Tm}{v:Value}(h:goodB l=true)(hv:TimesNew w' w.heap.size v l)(hb:Below w.heap.size w w'):RowsEnd w l (.returned (.tuple #[v,.int .i64 0])) w':=by
 refine ⟨v,?_,?_,hb⟩
 ·rw [h];rfl
 ·rw [h];exact hv
def RowsClear (b:Nat)(tv:List (Value×Int)):Prop:=∀ j (h:j < tv.length),tv[j].1.ownBlock≠some b
set_option maxHeartbeats 4000000 in
set_option maxRecDepth 100000 in
theorem ref_block_rows_calls {w:World}{vb vc:Value}{l:List Tm}{cols:List (Int×Bool)}(hvb:BlkIn w vb (blockOf l cols.length))(hvc:ColsIn w vc cols)(hR:RowsK l cols.length)
  (hkind:∀ c (h:c < cols.length),kindL (downL l c) cols[c].1 cols[c].2=true) (hl:l.length≤4096) (hN:InR (l.map Prod.snd)) (hcK:cols.length≤1000000) :
  Calls Tryz.prog 63 #[vb,vc] w (RowsEnd w l):=by
 obtain ⟨j0,hj,jz0,jz1,jz2⟩:=info_parts Tryz.infoD9
 obtain ⟨m0,hm,mz0,mz1,mz2⟩:=info_parts Tryz.infoG46
 obtain ⟨cv,rfl,hcv⟩:=hvb
 obtain ⟨A1,p1,rfl,hat1⟩:=one_at hcv
 have HAT1:Hid (∀ k,k < cols.length→∃ b off,A1=some ⟨b,off,none⟩∧b < w.heap.size∧∀ j,j < cols.length→w.cell? ⟨b,off+j,none⟩=some (.string (colB (downL l j)))):=fun k hk=>by
  obtain ⟨b,off,e,hb,hc⟩:=hat1 k (by show k < (colsT l cols.length).length;rw [colsT_length];exact hk)
  refine ⟨b,off,e,hb,fun j hj=>?_⟩
  have h2:j < (colsT l cols.length).length:=by rw [colsT_length];exact hj
  rw [hc j h2]
  exact congrArg (fun x=>some (Value.string x)) (colsT_get l cols.length j hj)
 rw [show (blockOf l cols.length).2.1.length=cols.length from colsT_length _ _]
 obtain ⟨A2,p2,rfl,hat2⟩:=cols_at hvc
 have HAT2:=Lib.hid hat2
 have HR:=Lib.hid hR
 have HKD:=Lib.hid hkind
 have hSA:ShelfAt (shelfB (l.map Prod.snd)).data.toList l.length (l.map Prod.snd) []:=⟨by omega,by omega,by rw [List.length_map],hN,by rw [shelfB_data,List.append_nil]⟩
 have hSZ:=shelfB_most (l.map Prod.snd) hN
 rw [List.length_map] at hSZ
 have HRD:=Lib.hid (fun b=>ref_shelf_read_some b (shelfB (l.map Prod.snd)) (by omega) hSA)
 clear hcv hvc hR hkind hat1 hat2 hSA hSZ hN
 unfold blkA
 rw [blockOf_eq]
 dsimp only
 generalize shelfB (l.map Prod.snd)=s at *
 obtain ⟨K,hK⟩:∃ K,cols.length=K:=⟨_,rfl⟩
 have HKL:=Lib.hid hK
 have q:∀ (w:World) (o:Obj),Below w.heap.size w (w.alloc o):=fun w o=>Below.alloc (.refl _ _) (Nat.le_refl _) o
 have ho:=(bbox_lit w 72 l.length (.slice A1 cols.length p1) s).later (q _ (.cells #[.string s,.bool false] 105))
 have hb:=(q w (.cells #[.int .i64 l.length,.slice A1 cols.length p1,.string s] 72)).alloc (by simp) (.cells #[.string s,.bool false] 105)
 have hT:=box_tape (w.alloc (.cells #[.int .i64 l.length,.slice A1 cols.length p1,.string s] 72)) s false 105
 rw [show (w.alloc (.cells #[.int .i64 l.length,.slice A1 cols.length p1,.string s] 72)).heap.size=w.heap.size+1 by simp] at hT
 rw [hK] at ho hb hT hcK ⊢
 clear hK q
 go_enter Tryz.func63,Tryz.ntmps63
 go_wp2_with fail
 generalize (w.alloc (.cells #[.int .i64 l.length,.slice A1 K p1,.string s] 72)).alloc (.cells #[.string s,.bool false] 105)=w1 at *
 obtain ⟨x0,x1,x2,_⟩:=ho.cells
 go_wp2_with fail
 refine (HRD.out (w.heap.size+1) w1 hT).mono ?_
 rintro e w2 ⟨v2,rfl,hi,hf,hT2,hg⟩
 have hs1:w.heap.size≤w1.heap.size:=hb.size
 replace ho:=ho.other hg (by simp)
 replace hb:=hb.grown hg hs1 (fun k hk=>by cases hk;exact Nat.le_succ _)
 have hD:=ref_tdone_calls (w.heap.size+1) (mkB []) false w2 hT2
 rw [show (mkB []).toList.isEmpty=true by rw [show mkB []=⟨#[]⟩ from rfl,empty_toList];rfl] at hD
 have HD:=Lib.hid hD
 clear hT hT2 hg hf x0 x1 x2 hs1 HRD hD
 obtain ⟨x0,x1,x2,_⟩:=ho.cells
 have HO:=Lib.hid ho
 have HB:=Lib.hid hb
 have HI:=Lib.hid hi
 have hlK:((K:Int) != (K:Int))=false:=by simp
 obtain ⟨A5,p5,hv2,_⟩:=one_at hi
 rw [List.length_map] at hv2
 by_cases h0:l.length=0
 ·obtain rfl:l=[]:=List.eq_nil_of_length_eq_zero h0
  subst hv2
  clear ho hb hi h0
  go_wp2_with (go_at_call 89;refine HD.out.mono ?_;rintro e w5 ⟨rfl,rfl⟩)
  go_ret2
  exact rows_no goodB_none HB.out
 ·have h1:0 < l.length:=by omega
  have d1:decide ((l.length:Int) < 1)=false:=by rw [decide_eq_false_iff_not];omega
  subst hv2
  clear ho hb hi h0
  go_wp2_with (first|(go_at_call 89;refine HD.out.mono ?_;rintro e w5 ⟨rfl,rfl⟩)|(at_make;refine wpList_make_full _ rfl _ _ 26 rfl w2.heap.size 46 m0 (.agg #[.slice none 0 0,.int .i64 0]) 2 Tryz.underlying26 hm mz0 mz1 .i64 .i64 _ _ l.length rfl rfl rfl rfl (by rw [mz2];omega) (by unfold maxLen;omega) (Nat.le_refl _) ?_))
  intro w3 hrow hg3
  have hrow':w3.ownsRow w2.heap.size 46 2 (.slice (some ⟨w2.heap.size,0,none⟩) l.length l.length) l.length (timesV (List.replicate l.length (.slice none 0 0,0))):=(made_times l.length)▸hrow
  have hGr:=Grown.made (Own.of_row (B:=w2.heap.size) hrow' (by unfold maxLen;omega) (Nat.le_refl _))
  rw [←rowsC_zero] at hGr
  have hq3:Below w2.heap.size w2 w3:=(Below.refl _ _).grown hg3 (Nat.le_refl _) (fun k hk=>by cases hk)
  clear hrow hrow' hg3
  go_wp2_with fail
  go_loopw [9] (fun i wr=>∃ c:Nat,c≤K∧i=.int .i64 c∧(∃ tv,Grown wr w2.heap.size w2.heap.size tv (rowsC l c 0)∧tv.map Prod.snd=List.replicate l.length 0)∧Below w2.heap.size w2 wr) (fun i _=>K-(intOf i).toNat)
  case atStart=>exact ⟨0,Nat.zero_le _,rfl,⟨_,hGr,by rw [List.map_replicate]⟩,hq3⟩
  case round =>
   clear hGr hq3
   obtain ⟨c,hc,rfl,⟨tv,hGr,hzs⟩,hq⟩:=hrel
   obtain ⟨y0,y1,y2,_⟩:=(HO.out.later hq).cells
   by_cases hlt:c < K
   ·have hltc:c < cols.length:=by rw [HKL.out];exact hlt
    obtain ⟨b1,off1,rfl,hbl1,hc1⟩:=HAT1.out c hltc
    have hbq:=HB.out.trans (hq.mono HB.out.size)
    have y3:=(hbq.cell (p:=⟨b1,off1+c,none⟩) hbl1).trans (hc1 c hltc)
    obtain ⟨b2,off2,rfl,hbl2,hc2⟩:=HAT2.out c hltc
    obtain ⟨c21,c22⟩:=hc2 c hltc
    have y4:=(hbq.cell (p:=⟨b2,off2+c*2,none⟩) hbl2).trans c21
    have y5:=(hbq.cell (p:=⟨b2,off2+c*2+1,none⟩) hbl2).trans c22
    have HKC:=Lib.hid (HKD.out c hltc)
    generalize cols[c]=cc at *
    obtain ⟨kd,nl⟩:=cc
    dsimp only at *
    have hlr:=downL_right HR.out hltc
    have hPA:=ref_parse_calls wr.drew (downL l c) (by rw [downL_length];exact hl) hlr
    rw [downL_length] at hPA
    have HPA:=Lib.hid hPA
    have HDL:Hid ((downL l c).length=l.length):=downL_length l c
    have HROW:Hid (∀ i,i < l.length→∃ hr:c < (rowAt l i).length,(downL l c)[i]? = some ((rowAt l i)[c])):=fun i hi=>by
     obtain ⟨hr,e⟩:=down_row HR.out hi hltc
     exact ⟨hr,by rw [List.getElem?_eq_getElem (by rw [downL_length];exact hi),e]⟩
    clear hc1 hc2 c21 c22 hPA hlr hltc
    generalize downL l c=dl at *
    generalize colB dl=cs at *
    have HGR:=Lib.hid hGr
    have HZS:=Lib.hid hzs
    have HQ:=Lib.hid hq
    have HY4:=Lib.hid y4
    have HY5:=Lib.hid y5
    clear hGr hzs hq hbq y4 y5
    have i0:(0:Int)≤(c:Int):=by omega
    have i1:(c:Int) < (K:Int):=by omega
    go_wp2_with fail
    go_region_with (go_at_call 90;refine HPA.out.mono ?_;rintro e w5 ⟨v5,rfl,h5,hf5,hq5⟩)
    all_goals
     have hqw:Below wr.heap.size wr w5:=(Below.drew (.refl _ _)).trans hq5
     have hgr5:=HGR.out.later hqw
     have hq25:=HQ.out.trans (hqw.mono HQ.out.size)
     have z4:=cell_kept HY4.out hqw
     have z5:=cell_kept HY5.out hqw
     obtain ⟨A6,p6,hv5,hat6⟩:=one_at h5
     have hdl:=HDL.out
     obtain ⟨b6,off6,rfl,hb6,hc6⟩:=hat6 0 (by omega)
     have hf6:wr.heap.size≤b6:=hf5 b6 (by rw [hv5];rfl)
     have HC6:Hid (∀ i,i < l.length→∃ hr:c < (rowAt l i).length,w5.cell? ⟨b6,off6+i,none⟩=some (.string (rowAt l i)[c])):=fun i hi=>by
      obtain ⟨hr,e⟩:=HROW.out i hi
      refine ⟨hr,?_⟩
      have:=hc6 i (by omega)
      rw [List.getElem?_eq_getElem (by omega)] at e
      rw [this,Option.some.inj e]
     have HKI:Hid (∀ w',Below w5.heap.size w5 w'→GivesAt Tryz.prog 91 #[.slice (some ⟨b6,off6,none⟩) l.length p6,.int .u8 kd,.bool nl] w' (.bool true)):=fun w' hw=>by
      have:=ref_kindL_calls (StrsIn.kept h5 hw) kd nl
      rwa [HKC.out,hv5,hdl] at this
     rw [hdl] at hv5
     subst hv5
     have e4:=fun d os=>cell_regrown z4 d os
     have e5:=fun d os=>cell_regrown z5 d os
     clear h5 hf5 hq5 hat6 hc6 hdl z4 z5 y0 y1 y2 y3
     go_wp2_with fail
     go_simp
     refine wp_region_quiet_below (by kernel_rfl) (by kernel_rfl) ?_
     repeat (first|go_big_quiet_skip|(go_big_quiet_want;go_big_quiet_op;first|go_big_quiet_on|(apply Exists.intro;refine ⟨fun _=>?_,?_⟩;(first|(go_at_call 91;exact Calls.regrown_of (HKI.out _ (below_regrown w5 _ _))));go_big_quiet_on)))
     refine wpQuiet_nil ?_
     rintro w6 ⟨p,hw6⟩
     have hq6:Below w5.heap.size w5 w6:=hw6▸below_regrown w5 p.d p.os
     clear hw6 e4 e5
     replace hgr5:=hgr5.later hq6
     replace hq25:=hq25.trans (hq6.mono hq25.size)
     have hb6':b6 < w6.heap.size:=Nat.lt_of_lt_of_le hb6 hq6.size
     have HC7:Hid (∀ i,i < l.length→∃ hr:c < (rowAt l i).length,w6.cell? ⟨b6,off6+i,none⟩=some (.string (rowAt l i)[c])):=fun i hi=>by
      obtain ⟨hr,e⟩:=HC6.out i hi
      exact ⟨hr,cell_kept e hq6⟩
     clear HC6 HKI hq6
     go_wp2_with fail
     obtain ⟨w9,hw9⟩:∃ w9,w9=wr:=⟨_,rfl⟩
     rw [←hw9] at HGR hf6
     have hoff:RowsClear b6 tv:=fun j hj e=>by
      have h2:j < (rowsC l c 0).length:=by have:=HGR.out.1;omega
      have:=(Own.lt (HGR.out.2.2.1 j hj h2).1 b6 e).2
      omega
     have hneO:w2.heap.size≠b6:=by have:=HGR.out.lt.1;omega
     have HZ2:=Lib.hid HZS.out
     clear HGR hf6 hqw HQ HY4 HY5 HROW HDL HZS hw9
     go_loopw [12] (fun i wr=>∃ k:Nat,k≤l.length∧i=.int .i64 k∧(∃ tv,Grown wr w2.heap.size w2.heap.size tv (rowsC l c k)∧tv.map Prod.snd=List.replicate l.length 0∧RowsClear b6 tv)∧b6 < wr.heap.size ∧
      Hid (∀ i,i < l.length→∃ hr:c < (rowAt l i).length,wr.cell? ⟨b6,off6+i,none⟩=some (.string (rowAt l i)[c]))∧Below w2.heap.size w2 wr) (fun i _=>l.length-(intOf i).toNat)
     case atStart=>exact ⟨0,Nat.zero_le _,rfl,⟨tv,hgr5,HZ2.out,hoff⟩,hb6',HC7,hq25⟩
     case round =>
      clear hgr5 hoff hb6' HC7 hq25 hb6 HZ2
      obtain ⟨k,hk,rfl,⟨tv2,hgr,hzs,hoff⟩,hb6,HC7,hq⟩:=hrel
      obtain ⟨y0,y1,y2,_⟩:=(HO.out.later hq).cells
      by_cases hlk:k < l.length
      ·have hkt:k < tv2.length:=by have:=hgr.1;rw [rowsC_length] at this;omega
       have hkr:k < (rowsC l c k).length:=by rw [rowsC_length];exact hlk
       obtain ⟨hr,hx⟩:=HC7.out k hlk
       obtain ⟨hra,hrb⟩:=rowsC_at l c k hlk hr
       have hown:=(hgr.2.2.1 k hkt hkr).1
       rw [hra,hrb] at hown
       have HN1:=Lib.hid (rowsC_next l c k hlk hr)
       obtain ⟨hce,_,_,_⟩:=hgr.cells k hkt
       obtain ⟨A9,p9,hv9⟩:=hown.len
       rw [hv9] at hown hce
       have HGA:=Lib.hid ((hgr.later (Below.alloc (.refl _ _) (Nat.le_refl _) (.cells #[Value.string (rowAt l k)[c]] 9))).drew)
       have HQA:=Lib.hid (Below.drew (hq.alloc hq.size (.cells #[Value.string (rowAt l k)[c]] 9)))
       have HO1:=Lib.hid ((Own.alloc hown (.cells #[Value.string (rowAt l k)[c]] 9)).drew)
       have HLIT:Hid (SliceOf ((wr.alloc (.cells #[Value.string (rowAt l k)[c]] 9)).drew) 1 (.slice (some ⟨wr.heap.size,0,none⟩) 1 1) 1 [Value.string (rowAt l k)[c]]):=(lit_ones Value.string wr 9 [(rowAt l k)[c]] (by show 1≤1000;decide)).drew
       have HV9:=Lib.hid hv9
       have HOFF:=Lib.hid hoff
       have HZ2:=Lib.hid hzs
       have HHR:=Lib.hid hra
       have hsz:w2.heap.size≤wr.heap.size:=hq.size
       generalize hxx:(rowAt l k)[c]=x at *
       generalize hxs:((rowAt l k).take c).map Value.string=xs at *
       have HXS:=Lib.hid hxs
       have HXX:=Lib.hid hxx
       have hce2:=cell_kept hce (Below.alloc (.refl wr.heap.size wr) (Nat.le_refl _) (.cells #[Value.string x] 9))
       clear hgr hq hown hv9 hoff hzs hra hrb hxx hxs
       go_wp2_with fail
       go_region_law (refine step_append_src rfl (.tmp 87) (.tmp 92) 44 rfl 9 j0 (.string ⟨#[]⟩) 1 16 Tryz.underlying44 hj jz0 jz1 jz2 rfl (by decide) (.slice A9 c p9) c xs ?_ HO1.out (.slice (some ⟨wr.heap.size,0,none⟩) 1 1) 1 [.string x] ?_ HLIT.out (one_str _) ?_ ?_ ?_ ?_;rfl;rfl;(focus (unfold maxLen;omega));omega;(focus (have h1:=HQA.out.size;exact h1));intro v7 w7 hO7 hg7 ha7;obtain ⟨A7,p7,rfl⟩:=hO7.len;have hg7':=HV9.out▸hg7;obtain ⟨s7,f7⟩:=HGA.out.slot k hkt hg7')
       all_goals
        have hgn:=HGA.out.grew k hkt hkr (v':=.slice A7 (c+1) p7) (x:=x) (by rw [HHR.out,List.length_take_of_le (by omega),HXS.out];exact hO7) hg7' (fun q hq=>by
         have:=ha7 q hq
         rwa [←HV9.out] at this)
        rw [HHR.out,HN1.out] at hgn
        have hzn:=snd_set_same hkt (.slice A7 (c+1) p7)
        rw [HZ2.out] at hzn
        have hne9:tv2[k].1.ownBlock≠some b6:=HOFF.out k hkt
        have hoffn:RowsClear b6 (tv2.set k (.slice A7 (c+1) p7,tv2[k].2)):=fun j hj e=>by
         rw [List.getElem_set] at e
         split at e
         ·rcases ha7 b6 e with h|h
          ·rw [←HV9.out] at h;exact hne9 h
          ·have:(wr.alloc (.cells #[Value.string x] 9)).heap.size≤b6:=h
           simp at this;omega
         ·exact HOFF.out j (by simpa using hj) e
        have hgs:=setCells_grown w2.heap.size [Value.slice A7 (c+1) p7] (k*2) w7
        simp only [World.setCells] at hgs
        have hCn:Hid (∀ i,i < l.length→∃ hr:c < (rowAt l i).length,(w7.setCell ⟨w2.heap.size,k*2,none⟩ (.slice A7 (c+1) p7)).cell? ⟨b6,off6+i,none⟩=some (.string (rowAt l i)[c])):=fun i hi=>by
         obtain ⟨hr2,e⟩:=HC7.out i hi
         have e2:((wr.alloc (.cells #[Value.string x] 9)).drew).cell? ⟨b6,off6+i,none⟩=some (.string (rowAt l i)[c]):=cell_kept e ((Below.alloc (.refl _ _) (Nat.le_refl _) _).drew)
         exact ⟨hr2,cell_beside hgs (cell_beside hg7' e2 hne9) (by simp;exact hneO)⟩
        have hbn:b6 < (w7.setCell ⟨w2.heap.size,k*2,none⟩ (.slice A7 (c+1) p7)).heap.size:=by
         have h1:(wr.alloc (.cells #[Value.string x] 9)).heap.size≤w7.heap.size:=hg7'.size
         simp at h1 ⊢;omega
        have hqn:=(HQA.out.grown hg7' HQA.out.size (fun q hq=>(Own.lt (HGA.out.2.2.1 k hkt hkr).1 q hq).1)).setCell (p:=⟨w2.heap.size,k*2,none⟩) (Nat.le_refl _) (.slice A7 (c+1) p7)
        clear s7 f7 hg7 hg7' ha7 hO7 hgs y0 y1 y2 hce hce2 hx HC7
        go_wp2
        go_roundw
        case rel=>exact ⟨k+1,by omega,by go_num,⟨_,hgn,hzn,hoffn⟩,hbn,hCn,hqn⟩
        case measure=>simp [intOf];omega
      ·obtain rfl:k=l.length:=by omega
       rw [rowsC_done] at hgr
       go_wp2
       go_roundw
       case rel=>exact ⟨c+1,by omega,by go_num,⟨tv2,hgr,hzs⟩,hq⟩
       case measure=>simp [intOf];omega
   ·obtain rfl:c=K:=by omega
    have hfull:rowsC l c 0=l.map Prod.fst:=rowsC_full (by have:=HR.out;rwa [HKL.out] at this)
    rw [hfull] at hGr
    rw [show l.length=(l.map Prod.snd).length by rw [List.length_map],←numsZ_zero] at hzs
    obtain ⟨w9,hw9⟩:∃ w9,w9=wr:=⟨_,rfl⟩
    have HIP:Hid (∃ b5 off5,A5=some ⟨b5,off5,none⟩∧b5 < w2.heap.size∧∀ j,j < l.length→w2.cell? ⟨b5,off5+j,none⟩=some (.int .i64 (numAt l j))):=by
     rcases HI.out.parts with ⟨hn,_⟩ | ⟨_,b5,off5,cap5,hv5,hb5,hc5⟩
     ·rw [List.map_eq_nil_iff] at hn;rw [hn] at h1;exact absurd h1 (by simp)
     ·simp only [Value.slice.injEq] at hv5
      refine ⟨b5,off5,hv5.1,hb5,fun j hj=>?_⟩
      rw [hc5 j (by rw [List.length_map];exact hj),List.getElem_map,numAt_get hj]
    obtain ⟨b5,off5,rfl,hb5,hc5⟩:=HIP.out
    have HC5:=Lib.hid hc5
    have HFU:=Lib.hid hfull
    clear hfull hc5 HIP HI hw9
    go_wp2_with fail
    go_loopw [13] (fun i wr=>∃ k:Nat,k≤l.length∧i=.int .i64 k∧(∃ tv,Grown wr w2.heap.size w2.heap.size tv (l.map Prod.fst)∧tv.map Prod.snd=numsZ (l.map Prod.snd) k)∧Hid (∀ j,j < k→okB l j=true)∧Below w2.heap.size w2 wr) (fun i _=>l.length-(intOf i).toNat)
    case atStart=>exact ⟨0,Nat.zero_le _,rfl,⟨tv,hGr,hzs⟩,fun j hj=>absurd hj (by omega),hq⟩
    case round =>
     clear hGr hzs hq y0 y1 y2
     obtain ⟨k,hk,rfl,⟨tv2,hgr,hns⟩,HOK,hq⟩:=hrel
     obtain ⟨y0,y1,y2,_⟩:=(HO.out.later hq).cells
     by_cases hlk:k < l.length
     ·have hkt:k < tv2.length:=by have:=hgr.1;rw [List.length_map] at this;omega
      have y3:=(hq.cell (p:=⟨b5,off5+k,none⟩) hb5).trans (HC5.out k hlk)
      obtain ⟨z0,z1,zf0,zf1⟩:=hgr.cells k hkt
      have hgn:=hgr.counted k hkt (numAt l k)
      have hnn:=snd_set (tv:=tv2) (k:=k) (tv2[k].1,numAt l k)
      rw [hns] at hnn
      have hnk:(l.map Prod.snd)[k]'(by rw [List.length_map];exact hlk)=numAt l k:=by rw [List.getElem_map,numAt_get hlk]
      have hnx:=numsZ_next (l.map Prod.snd) k (by rw [List.length_map];exact hlk)
      rw [hnk] at hnx
      dsimp only at hnn
      rw [hnx] at hnn
      have hqn:=hq.setCell (p:=⟨w2.heap.size,k*2+1,none⟩) (Nat.le_refl _) (.int .i64 (numAt l k))
      have hkn:k < (tv2.set k (tv2[k].1,numAt l k)).length:=by rw [List.length_set];exact hkt
      obtain ⟨u0,u1,_,_⟩:=hgn.cells k hkn
      have u5:=(hqn.cell (p:=⟨b5,off5+k,none⟩) hb5).trans (HC5.out k hlk)
      clear hnk hnx hns hgr hq
      generalize tv2.set k (tv2[k].1,numAt l k)=tvn at *
      have HRS:Hid (∀ j (hj:j < tvn.length),j < l.length→∀ w',Below (wr.setCell ⟨w2.heap.size,k*2+1,none⟩ (.int .i64 (numAt l k))).heap.size (wr.setCell ⟨w2.heap.size,k*2+1,none⟩ (.int .i64 (numAt l k))) w'→StrsIn w' tvn[j].1 (rowAt l j)):=fun j hj hjl w' hw=>by
       have h2:j < (l.map Prod.fst).length:=by rw [List.length_map];exact hjl
       have:=(hgn.2.2.1 j hj h2).1
       have e:(l.map Prod.fst)[j]=rowAt l j:=by rw [List.getElem_map,rowAt_get hjl]
       rw [e] at this
       exact StrsIn.kept (strs_of this rfl) hw
      have HOD:Hid (okB l k=(!(decide (numAt l k < 1)||(decide (0 < k)&&decide (0≤cmpL (rowAt l (k-1)) (rowAt l k)))))):=rfl
      have i0:(0:Int)≤(k:Int):=by omega
      have i1:(k:Int) < (l.length:Int):=by omega
      have hwr:((k:Int)-1:Int)≤4096:=by omega
      clear z0 zf0 y1 y2
      go_wp2_with fail
      clear z1 zf1 y0 y3
      generalize hnk:numAt l k=nk at *
      generalize wr.setCell ⟨w2.heap.size,k*2+1,none⟩ (.int .i64 nk)=wn at *
      have e5:=fun d os=>cell_regrown u5 d os
      have e0:=fun d os=>cell_regrown u0 d os
      by_cases hn1:nk < 1
      ·have g1:decide (nk < 1)=true:=decide_eq_true hn1
       have HD:Hid (goodB l=false):=goodB_no hlk (by rw [HOD.out,g1];rfl)
       clear hnk
       refine wp_region_quiet_below (by kernel_rfl) (by kernel_rfl) ?_
       repeat (first|go_big_quiet_skip|(go_big_quiet_want;go_big_quiet_op;go_big_quiet_on))
       refine wpQuiet_nil ?_
       rintro w6 ⟨p,hw6⟩
       have hq6:Below wn.heap.size wn w6:=hw6▸below_regrown wn p.d p.os
       clear hw6
       have hbe:=HB.out.trans ((hqn.trans (hq6.mono hqn.size)).mono HB.out.size)
       clear hgn hnn hqn hq6
       go_wp2
       go_ret2
       exact rows_no HD.out hbe
      ·have g1:decide (nk < 1)=false:=decide_eq_false hn1
       by_cases hk0:k=0
       ·have g2:decide ((0:Int) < (k:Int))=false:=by rw [decide_eq_false_iff_not];omega
        have g3:decide (0 < k)=false:=by rw [decide_eq_false_iff_not];omega
        have HOKN:Hid (∀ j,j < k+1→okB l j=true):=fun j hj=>by
         by_cases e:j=k
         ·subst e;rw [HOD.out];rw [g1,g3];rfl
         ·exact HOK.out j (by omega)
        clear hnk hk0
        refine wp_region_quiet_below (by kernel_rfl) (by kernel_rfl) ?_
        repeat (first|go_big_quiet_skip|(go_big_quiet_want;go_big_quiet_op;go_big_quiet_on))
        refine wpQuiet_nil ?_
        rintro w6 ⟨p,hw6⟩
        have hq6:Below wn.heap.size wn w6:=hw6▸below_regrown wn p.d p.os
        clear hw6
        replace hgn:=hgn.later hq6
        have hqm:=hqn.trans (hq6.mono hqn.size)
        clear hqn hq6
        go_wp2
        go_roundw
        case rel=>exact ⟨k+1,by omega,by go_num,⟨_,hgn,hnn⟩,HOKN,hqm⟩
        case measure=>simp [intOf];omega
       ·have g2:decide ((0:Int) < (k:Int))=true:=by rw [decide_eq_true_eq];omega
        have g3:decide (0 < k)=true:=by rw [decide_eq_true_eq];omega
        have hkp:k-1 < tvn.length:=by omega
        obtain ⟨t0,_,_,_⟩:=hgn.cells (k-1) hkp
        have HCMP:Hid (∀ w',Below wn.heap.size wn w'→GivesAt Tryz.prog 64 #[tvn[k-1].1,tvn[k].1] w' (.int .i64 (cmpL (rowAt l (k-1)) (rowAt l k)))):=fun w' hw =>
         ref_compare_calls (HRS.out (k-1) hkp (by omega) w' hw) (HRS.out k hkn hlk w' hw)
        have e1:=fun d os=>cell_regrown t0 d os
        have q1:IntKind.i64.wrap ((k:Int)-1)=((k-1:Nat):Int):=by rw [IntKind.wrap_i64];omega
        have q2:(0:Int)≤((k-1:Nat):Int):=by omega
        have q3:((k-1:Nat):Int) < (l.length:Int):=by omega
        have q4:(((k-1:Nat):Int)).toNat=k-1:=by omega
        clear hk0 hn1
        generalize hcm:cmpL (rowAt l (k-1)) (rowAt l k)=cm at *
        by_cases hc0:0≤cm
        ·have g4:decide (0≤cm)=true:=decide_eq_true hc0
         have HD:Hid (goodB l=false):=goodB_no hlk (by rw [HOD.out,g1,g3,g4];rfl)
         clear hnk hcm
         refine wp_region_quiet_below (by kernel_rfl) (by kernel_rfl) ?_
         repeat (first|go_big_quiet_skip|(go_big_quiet_want;go_big_quiet_op;first|go_big_quiet_on|(apply Exists.intro;refine ⟨fun _=>?_,?_⟩;(first|(go_at_call 64;exact Calls.regrown_of (HCMP.out _ (below_regrown wn _ _))));go_big_quiet_on)))
         refine wpQuiet_nil ?_
         rintro w6 ⟨p,hw6⟩
         have hq6:Below wn.heap.size wn w6:=hw6▸below_regrown wn p.d p.os
         clear hw6
         have hbe:=HB.out.trans ((hqn.trans (hq6.mono hqn.size)).mono HB.out.size)
         clear hgn hnn hqn hq6
         go_wp2
         go_ret2
         exact rows_no HD.out hbe
        ·have g4:decide (0≤cm)=false:=decide_eq_false hc0
         have HOKN:Hid (∀ j,j < k+1→okB l j=true):=fun j hj=>by
          by_cases e:j=k
          ·subst e;rw [HOD.out];rw [g1,g4,Bool.and_false];rfl
          ·exact HOK.out j (by omega)
         clear hnk hcm
         refine wp_region_quiet_below (by kernel_rfl) (by kernel_rfl) ?_
         repeat (first|go_big_quiet_skip|(go_big_quiet_want;go_big_quiet_op;first|go_big_quiet_on|(apply Exists.intro;refine ⟨fun _=>?_,?_⟩;(first|(go_at_call 64;exact Calls.regrown_of (HCMP.out _ (below_regrown wn _ _))));go_big_quiet_on)))
         refine wpQuiet_nil ?_
         rintro w6 ⟨p,hw6⟩
         have hq6:Below wn.heap.size wn w6:=hw6▸below_regrown wn p.d p.os
         clear hw6
         replace hgn:=hgn.later hq6
         have hqm:=hqn.trans (hq6.mono hqn.size)
         clear hqn hq6
         go_wp2
         go_roundw
         case rel=>exact ⟨k+1,by omega,by go_num,⟨_,hgn,hnn⟩,HOKN,hqm⟩
         case measure=>simp [intOf];omega
     ·obtain rfl:k=l.length:=by omega
      have hlen:tv2.length=l.length:=by have:=hgr.1;rwa [List.length_map] at this
      have hT:=hgr.new_ rfl (by rw [hns,show l.length=(l.map Prod.snd).length by rw [List.length_map],numsZ_full]) HB.out.size
      rw [hlen] at hT
      have HTI:=Lib.hid hT
      have HGD:=Lib.hid (goodB_yes h1 HOK.out)
      have hbe:=HB.out.trans (hq.mono HB.out.size)
      clear hT hgr hns hlen
      go_wp2
      go_ret2
      exact rows_yes HGD.out HTI.out hbe
end Go.Proofs.YtafmbnafibahkaaGreat
