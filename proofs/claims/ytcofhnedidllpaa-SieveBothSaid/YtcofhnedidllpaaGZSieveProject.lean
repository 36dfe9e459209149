/- The contract of layer 18's own Project. -/
import Derived.Test.YtcofhnedidllpaaGWeighOwn
import Derived.Test.YtcofhnedidllpaaGZShapePickRef
import Derived.Test.YtcofhnedidllpaaGZSieveOwn
namespace Go.Proofs.Ytcofhnedidllpaa
open Go Go.RowKit
theorem PickNew.yes {w w':World}{row:List ByteArray}{cols:List Int}{e:Ending}(h:PickNew w row cols e w')(hy:pickOk row cols=true):∃ A p,e=.returned (.tuple #[.slice A (pickF row cols).length p,.bool true])∧StrsIn w' (.slice A (pickF row cols).length p) (pickF row cols)∧Fresh w.heap.size (.slice A (pickF row cols).length p)∧Below w.heap.size w w':=by
 obtain ⟨v,rfl,hs,hf,hb⟩:=h
 rw [hy]
 rw [pickL_yes hy] at hs
 obtain ⟨A,p,rfl,_⟩:=one_at hs
 exact ⟨A,p,rfl,hs,hf,hb⟩
theorem PickNew.no {w w':World}{row:List ByteArray}{cols:List Int}{e:Ending}(h:PickNew w row cols e w')(hy:pickOk row cols=false):∃ A p,e=.returned (.tuple #[.slice A 0 p,.bool false])∧Below w.heap.size w w':=by
 obtain ⟨v,rfl,hs,hf,hb⟩:=h
 rw [hy]
 rw [pickL_no hy] at hs
 obtain ⟨A,p,rfl,_⟩:=one_at hs
 exact ⟨A,p,rfl,hb⟩
theorem short_picked {cols:List Int}{l:List Tm}(h:cols.length≤1000000):ShortR (pickedS cols l):=fun x hx=>by rw [(mem_picked hx).1];exact h
set_option maxHeartbeats 4000000 in
set_option maxRecDepth 100000 in
theorem sieve_project_q (Q:Value→Prop){w:World}{v vc:Value}{l:List Tm}{cols:List Int}(hQ:∀ u,Fresh w.heap.size u→Q u)(h:TimesIn w v l)(hc:IntsIn w vc cols)(hl:l.length≤1000000)(hw:wtW l≤4611686018427387904)(hcl:cols.length≤1000000):GivesTimesQ Q Try.prog 14 #[v,vc] w (projS cols l):=by
 obtain ⟨i0,hi,hz0,hz1,hz2⟩:=info_parts Try.infoM40
 obtain ⟨tv,A,cap,rfl,_,hat⟩:=times_at h
 have HAT:=Lib.hid hat
 have HC:=Lib.hid hc
 obtain ⟨Ac,pc,rfl,_⟩:=one_at hc
 have HCL:=Lib.hid hcl
 have HLL:=Lib.hid hl
 have HW:=Lib.hid (Nat.le_trans (wt_picked cols l) hw)
 have HQQ:=Lib.hid hQ
 clear h hat hc hQ hw hcl
 unfold GivesTimesQ
 go_enter Try.func14,Try.ntmps14
 go_wp2
 go_loopw [5,7,12] (fun x _ i wr=>∃ k:Nat,k≤l.length∧i=.int .i64 k∧Hid (GrowN w (pickedS cols (l.take k)) x wr)) (fun _ _ i _=>l.length-(intOf i).toNat)
 case atStart=>exact ⟨0,Nat.zero_le _,rfl,Lib.hid (GrowN.nil_ w)⟩
 case round =>
  obtain ⟨k,hk,rfl,HG⟩:=hrel
  have hbw:=HG.out.below
  obtain ⟨A9,p9,e9⟩:=HG.out.slice
  by_cases hlt:k < l.length
  ·obtain ⟨b,off,rfl,hbl,hc⟩:=HAT.out k hlt
   obtain ⟨rv,hs,_,c1,c2⟩:=hc k hlt
   have x1:=(hbw.cell (p:=⟨b,off+k*2,none⟩) hbl).trans c1
   have x2:=(hbw.cell (p:=⟨b,off+k*2+1,none⟩) hbl).trans c2
   have HTK:=Lib.hid (picked_take cols l k hlt)
   have HS0:=Lib.hid (StrsIn.kept hs hbw)
   obtain ⟨Ar,pr,rfl⟩:∃ Ar pr,rv=.slice Ar l[k].1.length pr:=by obtain ⟨Ar,pr,e,_⟩:=one_at hs;exact ⟨Ar,pr,e⟩
   have hfl:=picked_length cols (l.take k)
   rw [List.length_take] at hfl
   have hll:=HLL.out
   obtain ⟨F,hF⟩:∃ F,pickedS cols (l.take k)=F:=⟨_,rfl⟩
   rw [hF] at HG HTK e9 hfl
   obtain ⟨m9,hm⟩:∃ m,F.length=m:=⟨_,rfl⟩
   have HM:Hid (F.length=m9):=hm
   rw [hm] at e9 hfl
   have HML:Hid (m9≤1000000):=by show _≤_;omega
   subst e9
   clear hc c1 c2 hs hfl hF hm hll
   generalize l[k]=x at *
   obtain ⟨row0,c⟩:=x
   dsimp only at *
   have hq0:=Below.alloc (.refl wr.heap.size wr) (Nat.le_refl _) (.cells #[.slice Ar row0.length pr,.int .i64 c] 40)
   have hcp:=shape_pick_new (StrsIn.kept HS0.out hq0) (IntsIn.kept HC.out (hbw.trans (hq0.mono hbw.size))) HCL.out
   have HBX0:=Lib.hid (box_tm wr 40 (.slice Ar row0.length pr) c)
   have HQ0:=Lib.hid hq0
   have HSZ:=Lib.hid (Nat.le_trans hbw.size hq0.size)
   have i1:(k:Int) < (l.length:Int):=by omega
   have HLK:Hid (k < l.length):=hlt
   clear hq0 hlt hk hbw
   cases hy:pickOk row0 cols with
   | true =>
    have HTN:=Lib.hid (HTK.out.trans (by rw [if_pos hy]))
    have hcq:=hcp.mono fun _ _ he=>he.yes hy
    clear hy HTK hcp
    generalize pickF row0 cols=row at *
    go_wp2_with fail
    refine hcq.mono ?_
    rintro e w3 ⟨A8,p8,rfl,hs3,hf3,hq⟩
    have HQ3:=Lib.hid (HQ0.out.trans (hq.mono HQ0.out.size))
    have hbx:=HBX0.out.later hq
    obtain ⟨z0,z1,_,_⟩:=hbx.cells
    replace HG:=Lib.hid (GrowN.kept _ _ _ HQ0.out HG.out)
    have HLT:=Lib.hid HG.out.lt
    have hoff:=RowOff.of_fresh hf3 HLT.out
    replace HG:=Lib.hid (GrowN.kept _ _ _ hq HG.out)
    have HB3:=Lib.hid HG.out.below
    obtain ⟨tv8,hT8,hF8,hB8⟩:=HG.out
    have hq4:=Below.alloc (.refl w3.heap.size w3) (Nat.le_refl _) (.cells #[.slice A8 row.length p8,.int .i64 c] 40)
    have hT9:=hT8.later hq4
    have HT9:=Lib.hid hT9
    have hO9:=hT9.own
    rw [HM.out] at hO9
    have HO9:=Lib.hid hO9
    have HB9:=Lib.hid (hB8.trans (hq4.mono hB8.size))
    have hs9:StrsIn (w3.alloc (.cells #[.slice A8 row.length p8,.int .i64 c] 40)) (.slice A8 row.length p8) row:=SliceOf.alloc hs3 _
    have HS9:=Lib.hid hs9
    have HLIT:=Lib.hid (lit_tm w3 40 (.slice A8 row.length p8) c)
    have H1:=Lib.hid (one_tm hs3 c)
    have HOFF:=Lib.hid hoff
    have HF9:=Lib.hid hF8
    have HFR:=Lib.hid (show Fresh w.heap.size (.slice A8 row.length p8) from hf3.mono HSZ.out)
    clear hT8 hT9 hO9 hs3 hs9 hf3 hq hq4 hoff hF8 hB8 hcq x1 x2 HQ0 HQ3 HBX0 HS0 HG HB3 HLT
    have hml:=HML.out
    go_wp2_with (at_builtin;refine wpList_append_src rfl (.tmp 24) (.tmp 29) 22 rfl 40 i0 (.agg #[.slice none 0 0,.int .i64 0]) 2 32 Try.underlying22 hi hz0 hz1 hz2 rfl (by decide) (B:=w.heap.size) (.slice A9 m9 p9) m9 (timesV tv8) rfl HO9.out (.slice (some ⟨w3.heap.size,0,none⟩) 1 1) 1 [.slice A8 row.length p8,.int .i64 c] rfl HLIT.out H1.out (by unfold maxLen;omega) (by omega) HB9.out.size ?_)
    intro v7 w7 hO7 hg7 ha7
    have HG7:=Lib.hid (GrowN.add HT9.out HF9.out HB9.out HS9.out HFR.out HOFF.out hg7 (by simpa using ha7) hO7 (by rw [HM.out]))
    rw [←HTN.out] at HG7
    clear hO7 hg7 ha7 z0 z1 hbx hml
    go_wp2
    go_roundw
    case rel=>exact ⟨k+1,HLK.out,by go_num,HG7⟩
    case measure=>have:=HLK.out;simp [intOf];omega
   | false =>
    have HTN:=Lib.hid (HTK.out.trans (by rw [if_neg (by rw [hy];decide),List.append_nil]))
    have hcq:=hcp.mono fun _ _ he=>he.no hy
    clear hy HTK hcp
    go_wp2_with fail
    refine hcq.mono ?_
    rintro e w3 ⟨A8,p8,rfl,hq⟩
    replace HG:=Lib.hid (GrowN.kept _ _ _ hq (GrowN.kept _ _ _ HQ0.out HG.out))
    rw [←HTN.out] at HG
    clear hq hcq x1 x2 HQ0 HBX0 HS0
    go_wp2
    go_roundw
    case rel=>exact ⟨k+1,HLK.out,by go_num,HG⟩
    case measure=>have:=HLK.out;simp [intOf];omega
  ·obtain rfl:k=l.length:=by omega
   rw [List.take_length] at HG e9
   have hfl:=picked_length cols l
   have hll:=HLL.out
   have hto:=weigh_of_q Q (fun u hu=>HQQ.out u (hu.mono HG.out.below.size)) HG.out.new.times (by omega) HW.out (short_picked HCL.out)
   have HB:=Lib.hid HG.out.below
   have HP:Hid (ofW (pickedS cols l)=projS cols l):=Lib.hid rfl
   clear hfl hll hbw
   generalize (pickedS cols l).length=m9 at *
   subst e9
   go_wp2_with fail
   refine hto.mono ?_
   rintro e w3 ⟨v3,rfl,hT3,hb3⟩
   rw [HP.out] at hT3
   have HT3:=Lib.hid hT3
   have HB3:=Lib.hid (HB.out.trans (hb3.mono HB.out.size))
   obtain ⟨A3,p3,e3⟩:=times_slice hT3.times
   generalize (projS cols l).length=n3 at *
   subst e3
   clear hto hT3 hb3
   go_wp2
   go_ret
   exact ⟨_,rfl,HT3.out,HB3.out⟩
theorem sieve_project_calls {w:World}{v vc:Value}{l:List Tm}{cols:List Int}(h:TimesIn w v l)(hc:IntsIn w vc cols)(hl:l.length≤1000000)(hw:wtW l≤4611686018427387904)(hcl:cols.length≤1000000):GivesTimes Try.prog 14 #[v,vc] w (projS cols l):=(sieve_project_q (fun _=>True) (fun _ _=>trivial) h hc hl hw hcl).gives
end Go.Proofs.Ytcofhnedidllpaa
