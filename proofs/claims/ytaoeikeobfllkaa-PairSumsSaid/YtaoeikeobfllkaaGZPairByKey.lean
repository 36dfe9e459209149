/- The contract of layer 19's byKey: the second table's rows by their keys. -/
import Derived.Test.YtaoeikeobfllkaaGOpen
import Derived.Test.YtaoeikeobfllkaaGWeighOwn
import Derived.Test.YtaoeikeobfllkaaGZPairMap
import Derived.Test.YtaoeikeobfllkaaGZSieveGrow
namespace Go.Proofs.Ytaoeikeobfllkaa
open Go Go.RowKit
def ShortC (l:List Tm):Prop:=∀ x∈l,∀ c∈x.1,c.size≤maxLen
theorem atF_short {row:List ByteArray}(h:∀ c∈row,c.size≤maxLen)(c:Int):(atF row c).size≤maxLen:=by
 unfold atF
 split
 ·rename_i hc
  rw [List.getD_eq_getElem?_getD,List.getElem?_eq_getElem (by omega)]
  exact h _ (List.getElem_mem _)
 ·exact Nat.zero_le _
theorem keyL_texts {row:List ByteArray}{cs:List Int}(h:∀ c∈row,c.size≤maxLen)(hl:cs.length≤6):KeyTexts (keyL row cs):=by
 refine ⟨keyL_length hl,fun c hc=>?_⟩
 unfold keyL at hc
 rcases List.mem_append.1 hc with hc|hc
 ·obtain ⟨i,_,rfl⟩:=List.mem_map.1 hc
  exact atF_short h i
 ·rw [List.eq_of_mem_replicate hc]
  exact Nat.zero_le _
theorem Try.keyT19:KeyT Try.prog 48 9:=⟨deep_law_gate Try.laidOut (by decide +kernel) (by decide +kernel) (by kernel_rfl) (by kernel_rfl),Try.underlying48,Try.underlying9,(by kernel_rfl),(by kernel_rfl),(by kernel_rfl),(by decide +kernel)⟩
theorem Try.zeroL19 (u:World):(zeroValue 22).run Try.prog u=.ok (.slice none 0 0) u:=by kernel_rfl
theorem group_next (m:List Tm)(cs:List Int)(j:Nat)(h:j < m.length)(hk:keyOk m[j].1 cs=true):∀ k,putL (groupL (m.take j) cs) (keyL m[j].1 cs) (groupL (m.take j) cs (keyL m[j].1 cs)++[m[j]]) k=groupL (m.take (j+1)) cs k:=fun k=>by
 rw [group_take m cs k j h]
 unfold putL
 by_cases e:k=keyL m[j].1 cs
 ·rw [if_pos e,if_pos ⟨hk,e.symm⟩,e]
 ·rw [if_neg e,if_neg (fun h=>e h.2.symm),List.append_nil]
theorem group_skip (m:List Tm)(cs:List Int)(j:Nat)(h:j < m.length)(hk:keyOk m[j].1 cs=false):∀ k,groupL (m.take j) cs k=groupL (m.take (j+1)) cs k:=fun k=>by
 rw [group_take m cs k j h,if_neg (by rw [hk];simp),List.append_nil]
theorem slice_aside {w w':World}{size n b g p:Nat}{xs:List Value}(h:SliceOf w size (.slice (some ⟨g,0,none⟩) n p) n xs)(hg:w.grownBy w' (some b))(hne:g≠b):SliceOf w' size (.slice (some ⟨g,0,none⟩) n p) n xs :=
 SliceOf.keepOwn h hg.size fun k hk hlt=>hg.block k hlt fun e=>by
  simp only [Value.ownBlock,Option.some.injEq] at hk e
  omega
def ByKeyEnd (w:World)(m:List Tm)(cs:List Int)(e:Ending)(w':World):Prop:=∃ b,e=.returned (.map (some b))∧GroupsAt Try.prog 48 w' b m.length (groupL m cs)∧Below w.heap.size w w'
set_option maxHeartbeats 4000000 in
set_option maxRecDepth 100000 in
theorem by_key_calls {w:World}{vm vo:Value}{m:List Tm}{on:List Cl}(h:TimesIn w vm m)(ho:OnIn w vo on)(hl:on.length≤6)(hm:m.length≤1000000)(hS:ShortC m):Calls Try.prog 22 #[vm,vo] w (ByKeyEnd w m (on.map (selC 1))):=by
 obtain ⟨i0,hi,hz0,hz1,hz2⟩:=info_parts Try.infoM29
 have hmm:=@run_makeMap Try.prog
 obtain ⟨hb,hB⟩:=start w
 obtain ⟨tv0,A,cap,rfl,_,hat⟩:=times_at h
 have HAT:=Lib.hid hat
 have HON:=Lib.hid ho
 obtain ⟨Ao,po,rfl⟩:=ho.slice
 have HML:=Lib.hid hm
 have HL6:=Lib.hid hl
 have HSC:=Lib.hid hS
 have hg0:=GroupsAt.made Try.prog 48 w
 have hb1:=hb.alloc hB (.map #[] 0)
 have hll:(on.map (selC 1)).length≤6:=by rw [List.length_map];exact hl
 have HLL:=Lib.hid hll
 clear h ho hat hb hB hl hS hll
 unfold ByKeyEnd
 go_enter Try.func22,Try.ntmps22
 go_wp2
 go_loopw [13] (fun i wr=>∃ k:Nat,k≤m.length∧i=.int .i64 k∧Hid (GroupsAt Try.prog 48 wr w.heap.size k (groupL (m.take k) (on.map (selC 1))))∧Hid (Below w.heap.size w wr)) (fun i _=>m.length-(intOf i).toNat)
 case atStart=>exact ⟨0,Nat.zero_le _,rfl,Lib.hid hg0,Lib.hid hb1⟩
 case round =>
  clear hg0 hb1
  obtain ⟨k,hk,rfl,HG,HB⟩:=hrel
  by_cases hlt:k < m.length
  ·obtain ⟨b,off,rfl,hbl,hc⟩:=HAT.out k hlt
   obtain ⟨rv,hs,_,c1,c2⟩:=hc k hlt
   have x1:=(HB.out.cell (p:=⟨b,off+k*2,none⟩) hbl).trans c1
   have x2:=(HB.out.cell (p:=⟨b,off+k*2+1,none⟩) hbl).trans c2
   have hold:=Old.of hs
   obtain ⟨Ar,pr,rfl⟩:∃ Ar pr,rv=.slice Ar m[k].1.length pr:=by obtain ⟨Ar,pr,e,_⟩:=one_at hs;exact ⟨Ar,pr,e⟩
   have hqa:=Below.alloc (.refl wr.heap.size wr) (Nat.le_refl _) (.cells #[.slice Ar m[k].1.length pr,.int .i64 m[k].2] 29)
   have hbx:=HB.out.trans (hqa.mono HB.out.size)
   have hkey:=pkey_calls (s:=1) (by decide) (StrsIn.kept hs hbx) (HON.out.kept hbx) HL6.out
   have HGN:=Lib.hid (group_next m (on.map (selC 1)) k hlt)
   have HGS:=Lib.hid (group_skip m (on.map (selC 1)) k hlt)
   have HKT:=Lib.hid (keyL_texts (fun c hc=>HSC.out _ (List.getElem_mem hlt) c hc) HLL.out)
   have HLK:Hid (k < m.length):=hlt
   have HOLD:=Lib.hid hold
   have HS:=Lib.hid hs
   have i1:(k:Int) < (m.length:Int):=by omega
   have hkm:k < maxLen:=by have:=HML.out;unfold maxLen;omega
   have hgl:=group_length (m.take k) (on.map (selC 1)) (keyL m[k].1 (on.map (selC 1)))
   rw [List.length_take] at hgl
   have HGL:Hid ((groupL (m.take k) (on.map (selC 1)) (keyL m[k].1 (on.map (selC 1)))).length≤1000000):=by show _≤_;have:=HML.out;omega
   clear hc c1 c2 hs hgl hold
   generalize m[k]=x at *
   clear hlt
   obtain ⟨row,c⟩:=x
   dsimp only at *
   have HX0:=Lib.hid (box_cell wr 29 #[.slice Ar row.length pr,.int .i64 c] 0 _ rfl)
   have HX1:=Lib.hid (box_cell wr 29 #[.slice Ar row.length pr,.int .i64 c] 1 _ rfl)
   have HQA:=Lib.hid hqa
   have HBX:=Lib.hid hbx
   clear hqa hbx
   cases hy:keyOk row (on.map (selC 1)) with
   | true =>
    unfold KeyEnd at hkey
    rw [keyR_yes hy,hy] at hkey
    have HGN2:=Lib.hid (HGN.out hy)
    have hk6:=HKT.out.1
    generalize keyL row (on.map (selC 1))=kl at *
    obtain ⟨k0,k1,k2,k3,k4,k5,rfl⟩:=six hk6
    have hkey2:Calls Try.prog 23 #[.slice Ar row.length pr,.slice Ao on.length po,.int .i64 1] (wr.alloc (.cells #[.slice Ar row.length pr,.int .i64 c] 29)) fun e w'=>e=.returned (.tuple #[.agg #[.string k0,.string k1,.string k2,.string k3,.string k4,.string k5],.bool true])∧Below (wr.alloc (.cells #[.slice Ar row.length pr,.int .i64 c] 29)).heap.size (wr.alloc (.cells #[.slice Ar row.length pr,.int .i64 c] 29)) w':=hkey
    clear hkey HGN HGS hk6 hy
    go_wp2_with fail
    refine hkey2.mono ?_
    clear hkey2
    rintro e w3 ⟨rfl,hq⟩
    have y0:=cell_kept HX0.out hq
    have y1:=cell_kept HX1.out hq
    have hq3:=HQA.out.trans (hq.mono HQA.out.size)
    have hb3:=HB.out.trans (hq3.mono HB.out.size)
    have hq4:=Below.alloc (.refl w3.heap.size w3) (Nat.le_refl _) (.cells #[.string k0,.string k1,.string k2,.string k3,.string k4,.string k5] 48)
    have hb4:=hb3.trans (hq4.mono hb3.size)
    have z0:=cell_kept y0 hq4
    have z1:=cell_kept y1 hq4
    have hq5:=Below.alloc (.refl (w3.alloc (.cells #[.string k0,.string k1,.string k2,.string k3,.string k4,.string k5] 48)).heap.size (w3.alloc (.cells #[.string k0,.string k1,.string k2,.string k3,.string k4,.string k5] 48))) (Nat.le_refl _) (.cells #[.slice Ar row.length pr,.int .i64 c] 29)
    have hb5:=hb4.trans (hq5.mono hb4.size)
    have hG5:=((HG.out.kept hq3).kept hq4).kept hq5
    have hblt:w.heap.size < w3.heap.size+1:=by have:=(HG.out.kept hq3).lt;omega
    have hlit:=lit_tm (w3.alloc (.cells #[.string k0,.string k1,.string k2,.string k3,.string k4,.string k5] 48)) 29 (.slice Ar row.length pr) c
    have hs5:=StrsIn.kept HS.out hb5
    rw [show (w3.alloc (.cells #[.string k0,.string k1,.string k2,.string k3,.string k4,.string k5] 48)).heap.size=w3.heap.size+1 by simp] at hlit
    obtain ⟨v0,st,w6,tv,hrun,hg6,hs6,hT6,hO6,hback⟩:=hG5.entry Try.keyT19 Try.underlying45 Try.zeroL19 HKT.out hkm
    have hlit6:=slice_aside hlit hg6 (by omega)
    have hb6:=hb5.grown hg6 hb5.size (fun j hj=>by cases hj;exact Nat.le_refl _)
    have hs6':=StrsIn.off (v:=atB w.heap.size) hs5 (HOLD.out.off fun g hg=>by rw [atB_own] at hg;cases hg;exact Nat.le_refl _) hg6
    have H1:=Lib.hid (one_tm hs5 c)
    have HBACK:=Lib.hid hback
    have HT6:=Lib.hid hT6
    have HO6:=Lib.hid hO6
    have HB6:=Lib.hid hb6
    have HLIT:=Lib.hid hlit6
    have HS6:=Lib.hid hs6'
    have hrun':(Instr.mapEntry 45 (.map (some w.heap.size)) (.agg #[.string k0,.string k1,.string k2,.string k3,.string k4,.string k5])).run Try.prog ((w3.alloc (.cells #[.string k0,.string k1,.string k2,.string k3,.string k4,.string k5] 48)).alloc (.cells #[.slice Ar row.length pr,.int .i64 c] 29))=.ok (.tuple #[v0,.int .i64 (st:Nat)]) w6:=hrun
    have hlt6:w.heap.size+1≤w6.heap.size:=by have:=hg6.size;have:=hG5.lt;omega
    have HLT6:=Lib.hid hlt6
    clear hq hq3 hb3 hq4 hb4 hq5 hb5 hG5 hlit hs5 hrun hg6 hs6 hT6 hO6 hback hlit6 hb6 hs6' hblt HG HX0 HX1 HQA HBX
    have hml:=HML.out
    have hgl:=HGL.out
    go_wp2_with (first|(refine wpList_entry_run rfl _ _ 45 rfl _ _ _ rfl rfl hrun' ?_)|(at_builtin;refine wpList_append_src rfl (.tmp 27) (.tmp 29) 22 rfl 29 i0 (.agg #[.slice none 0 0,.int .i64 0]) 2 32 Try.underlying22 hi hz0 hz1 hz2 rfl (by decide) (B:=w.heap.size+1) v0 _ (timesV tv) rfl HT6.out.own (.slice (some ⟨w3.heap.size+1,0,none⟩) 1 1) 1 [.slice Ar row.length pr,.int .i64 c] rfl HLIT.out H1.out (by unfold maxLen;omega) (by omega) HLT6.out ?_))
    intro v7 w7 hO7 hg7 ha7
    have hb7:=HB6.out.grown hg7 HB6.out.size (fun j hj=>by have:=(HT6.out.own.lt j hj).1;omega)
    have hT7:=HT6.out.add HS6.out (HOLD.out.off fun g hg=>by have:=(HT6.out.own.lt g hg).1;omega) hg7 ha7 hO7 rfl
    obtain ⟨w8,hrun8,hg8,hG8⟩:=HBACK.out w7 v7 _ _ hg7 hT7 (fun u hu=>by
     rcases List.mem_append.1 hu with hu|hu
     ·exact HO6.out u hu
     ·rw [List.mem_singleton.1 hu];exact HOLD.out) ha7
    have hb8:=hb7.grown hg8 hb7.size (fun j hj=>by cases hj;exact Nat.le_refl _)
    have HG8:=Lib.hid (hG8.congr HGN2.out)
    have HB8:=Lib.hid hb8
    clear hrun' hO7 hg7 ha7 hb7 hT7 hg8 hG8 hb8 y0 y1 z0 z1 x1 x2
    go_wp2_with (refine wpList_stored_run rfl _ _ _ 45 rfl _ _ _ rfl rfl rfl hrun8 ?_)
    go_roundw
    case rel=>exact ⟨k+1,HLK.out,by go_num,HG8,HB8⟩
    case measure=>have:=HLK.out;simp [intOf];omega
   | false =>
    unfold KeyEnd at hkey
    rw [keyR_no hy,hy] at hkey
    have HGS2:=Lib.hid (HGS.out hy)
    have hkey2:Calls Try.prog 23 #[.slice Ar row.length pr,.slice Ao on.length po,.int .i64 1] (wr.alloc (.cells #[.slice Ar row.length pr,.int .i64 c] 29)) fun e w'=>e=.returned (.tuple #[.agg #[.string ⟨#[]⟩,.string ⟨#[]⟩,.string ⟨#[]⟩,.string ⟨#[]⟩,.string ⟨#[]⟩,.string ⟨#[]⟩],.bool false])∧Below (wr.alloc (.cells #[.slice Ar row.length pr,.int .i64 c] 29)).heap.size (wr.alloc (.cells #[.slice Ar row.length pr,.int .i64 c] 29)) w':=hkey
    clear hkey HGN HGS hy HKT HGL hkm
    go_wp2_with fail
    refine hkey2.mono ?_
    clear hkey2
    rintro e w3 ⟨rfl,hq⟩
    have hq3:=HQA.out.trans (hq.mono HQA.out.size)
    have hb3:=HB.out.trans (hq3.mono HB.out.size)
    have hq4:=Below.alloc (.refl w3.heap.size w3) (Nat.le_refl _) (.cells #[.string ⟨#[]⟩,.string ⟨#[]⟩,.string ⟨#[]⟩,.string ⟨#[]⟩,.string ⟨#[]⟩,.string ⟨#[]⟩] 48)
    have HB8:=Lib.hid (hb3.trans (hq4.mono hb3.size))
    have HG8:=Lib.hid ((((HG.out.kept hq3).kept hq4).congr HGS2.out).mono (Nat.le_succ k))
    clear hq hq3 hb3 hq4 HG HX0 HX1 HQA HBX x1 x2
    have hml:=HML.out
    go_wp2
    go_roundw
    case rel=>exact ⟨k+1,HLK.out,by go_num,HG8,HB8⟩
    case measure=>have:=HLK.out;simp [intOf];omega
  ·obtain rfl:k=m.length:=by omega
   rw [List.take_length] at HG
   go_wp2
   go_ret
   exact ⟨_,rfl,HG.out,HB.out⟩
end Go.Proofs.Ytaoeikeobfllkaa
