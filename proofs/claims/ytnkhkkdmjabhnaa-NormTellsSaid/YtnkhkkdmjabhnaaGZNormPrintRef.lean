/- The answer's Print of a term. -/
import Derived.Test.YtnkhkkdmjabhnaaGVary
import Derived.Test.YtnkhkkdmjabhnaaGZNormJoin
namespace Go.Proofs.Ytnkhkkdmjabhnaa
open Go Go.RowKit
theorem Try.infoSt9:(Try.prog.info? 9).map (fun i=>(i.zero,i.size,i.bytes))=some (some (.string ⟨#[]⟩),1,16):=by kernel_rfl
def prV (p:List UInt8):Value:=.string (mkB p)
def RPrintAt (t:Trm):Prop:=Sm17 t→∀ (w:World)(v:Value),TermIn w v t→GivesAt Try.prog 11 #[v] w (.string (mkB (printL t)))
set_option maxHeartbeats 8000000 in
set_option maxRecDepth 100000 in
theorem ref_nprint_at (t:Trm):RPrintAt t:=by
 refine Trm.ind (P:=RPrintAt) (fun t ih=>?_) t
 intro hs w v ht
 have mixed:Try.prog.follows Departure.mixedOrders=true:=by kernel_rfl
 obtain ⟨i0,hi,hz0,hz1,hz2⟩:=info_parts Try.infoSt9
 have HIH:Hid (∀ k (hk:k∈t.kids),∀ (W:World) (u:Value),TermIn W u k→GivesAt Try.prog 11 #[u] W (.string (mkB (printL k)))):=fun k hk=>ih k hk (hs.kid hk)
 have HPE:=Lib.hid (printL_eq t)
 obtain ⟨-,hcs,hkn,hpl,-⟩:=hs.parts
 obtain ⟨op,col,cell,ks⟩:=t
 obtain ⟨kv,rfl,ho,hk⟩:=ht
 dsimp only [trmA,Trm.op,Trm.col,Trm.cell,Trm.kids] at *
 obtain ⟨A,cap,rfl,-⟩:=kids_at hk
 obtain ⟨o0,o1,o2,o3⟩:=ho
 replace o0:0≤op:=o0
 replace o1:op≤255:=o1
 replace o2 : -9223372036854775808≤col:=o2
 replace o3:col≤9223372036854775807:=o3
 obtain ⟨n,hn⟩:∃ n,ks.length=n:=⟨_,rfl⟩
 have HN:Hid (ks.length=n):=hn
 rw [hn] at hk HPE hkn ⊢
 clear hn
 have HK:=Lib.hid hk
 have HSZ:Hid (cell.size≤1000000∧n≤1000∧(headL op col cell n).length+((swapL op (ks.map printL)).flatten).length≤1000000000):=by
  rw [HPE.out,List.length_append] at hpl
  exact ⟨hcs,hkn,hpl⟩
 have HRS:Hid (printL (.mk op col cell ks)=headL op col cell n++(swapL op (ks.map printL)).flatten):=HPE.out
 rw [HRS.out]
 clear HRS HPE hk ih hs hcs hkn hpl
 unfold GivesAt
 have hx:=trmbox_lit w 24 op col cell (.slice A n cap)
 have hs1:(w.alloc (.cells #[.int .u8 op,.int .i64 col,.string cell,.slice A n cap] 24)).heap.size=w.heap.size+1:=by simp
 have ha:=Below.alloc (.refl w.heap.size w) (Nat.le_refl _) (.cells #[.int .u8 op,.int .i64 col,.string cell,.slice A n cap] 24)
 have ha2:=Below.alloc (.refl _ (w.alloc (.cells #[.int .u8 op,.int .i64 col,.string cell,.slice A n cap] 24))) (Nat.le_refl _) (.cells #[.int .u8 op] 5)
 have hO:=own_byte (w.alloc (.cells #[.int .u8 op,.int .i64 col,.string cell,.slice A n cap] 24)) 5 o0 o1 (B:=w.heap.size+1) (by rw [hs1];exact Nat.le_refl _)
 rw [hs1] at hO
 have hconv:=run_string_own hO 42 9 5 Try.underlying42 Try.underlying5 Try.underlying9
 have HX:=Lib.hid (hx.later ha2)
 have HB:=Lib.hid (ha.trans (ha2.mono ha.size))
 obtain ⟨c0,c1,c2,c3,-⟩:=HX.out.cells
 obtain ⟨L0,HL0⟩:∃ L0:ByteArray,Hid (L0=mkB [UInt8.ofNat op.toNat]):=⟨_,rfl⟩
 have hcv:(⟨[UInt8.ofNat op.toNat].toArray⟩:ByteArray)=L0:=HL0.out.symm
 rw [hcv] at hconv
 have hz:L0.size=1:=by rw [HL0.out];rfl
 have HZ:Hid (L0.size≤1):=Nat.le_of_eq hz
 clear hx ha ha2 hO hs1 hcv hz
 have hnn9:n≤1000:=HSZ.out.2.1
 have hcs9:cell.size≤1000000:=HSZ.out.1
 have HFO:=Lib.hid (ref_fold_calls col o2 o3)
 have HRG:=Lib.hid (foldI_range col o2 o3)
 by_cases h99:op=99
 ·obtain ⟨c,hc2⟩:∃ c:Nat,foldI col=c:=⟨(foldI col).toNat,by have:=HRG.out;omega⟩
  have HHD:Hid (L0++printB c++printB n=mkB (headL op col cell n)):=by
   show _=_
   unfold headL fieldL
   rw [if_pos h99,hc2,HL0.out]
   show mkB _++mkB (vp c)++mkB (vp n)=_
   rw [mkB_append,mkB_append]
   simp
  have HP1:=Lib.hid (ref_print_calls c (by have:=HRG.out;omega))
  have hl1:(vp c).length≤10:=vp_len_10 (by have:=HRG.out;omega)
  have hz1c:(printB c).size≤10:=by rw [print_len];exact hl1
  rw [hc2] at HFO
  have ho:op=99:=h99
  subst h99
  clear o0 o1 hc2 HRG hl1
  go_enter Try.func11,Try.ntmps11
  go_wp2_with fail
  generalize World.alloc (World.alloc w _) _=w2 at *
  clear c0 c1 c2 c3
  refine (HFO.out _).mono ?_
  rintro e w3 ⟨rfl,rfl⟩
  go_wp2_with fail
  refine (HP1.out).stepB (w0:=w2) (B:=w2.heap.size) (.refl _ _) (Nat.le_refl _) ?_
  intro w4 _ _ hq
  have HXn:=Lib.hid (HX.out.later hq)
  have HBn:=Lib.hid (HB.out.trans (hq.mono HB.out.size))
  clear HX HB hq
  have HX:=HXn
  have HB:=HBn
  clear HXn HBn
  obtain ⟨c0,c1,c2,c3,-⟩:=HX.out.cells
  have hz0c:=HZ.out
  have t4:¬9223372036854775807 < L0.size+(printB c).size:=by omega
  obtain ⟨SA,hSA⟩:∃ x,Hid (x=L0++printB c):=⟨_,rfl⟩
  have HZP:Hid (SA.size≤100):=by rw [hSA.out];show _≤_;rw [ByteArray.size_append];omega
  have e4:L0++printB c=SA:=hSA.out.symm
  have hhd:=HHD.out
  rw [e4] at hhd
  clear HHD
  have HHD:=Lib.hid hhd
  clear hhd hz0c hz1c
  generalize printB c=pc at *
  go_wp2_with fail
  clear c0 c1 c2 c3 t4 e4
  have hzp:=HZP.out
  refine (ref_print_calls n (by have:=HSZ.out;omega)).stepB (w0:=w4) (B:=w4.heap.size) (.refl _ _) (Nat.le_refl _) ?_
  intro w8 _ _ hq
  have HXn:=Lib.hid (HX.out.later hq)
  have HBn:=Lib.hid (HB.out.trans (hq.mono HB.out.size))
  clear HX HB hq
  have HX:=HXn
  have HB:=HBn
  clear HXn HBn
  obtain ⟨c0,c1,c2,c3,-⟩:=HX.out.cells
  have hzn:(printB n).size≤10:=by rw [print_len];exact vp_len_10 (by have:=HSZ.out;omega)
  have t8:¬9223372036854775807 < (SA).size+(printB n).size:=by omega
  obtain ⟨HDB,hHDB⟩:∃ x,Hid (x=SA++printB n):=⟨_,rfl⟩
  have e8:SA++printB n=HDB:=hHDB.out.symm
  have HDE:Hid (HDB=mkB (headL 99 col cell n)):=by rw [hHDB.out];exact HHD.out
  go_wp2
  clear c0 c1 c2 c3 t8 e8 hzn
  clear hHDB HHD
  go_loopw [4,5] (fun kx ix wr=>∃ (i:Nat) (kl:Value),ix=.int .i64 i∧kx=kl∧i≤n∧Hid (Own wr (w.heap.size+1) 1 kl i (((ks.take i).map printL).map prV))∧Hid (TrmBox wr w.heap.size 99 col cell (.slice A n cap))∧Hid (Below w.heap.size w wr)) (fun _ ix _=>n-(intOf ix).toNat)
  case atStart=>exact ⟨0,_,rfl,rfl,Nat.zero_le _,Lib.hid (Own.nil_ _ _ _),HX,HB⟩
  case round =>
   clear HX HB
   obtain ⟨i,kl,rfl,ek,hin9,HO,HX,HB⟩:=hrel
   rw [ek]
   clear ek
   have hnn:=HSZ.out.2.1
   by_cases hlt:i < n
   ·have hik:i < ks.length:=by rw [HN.out];exact hlt
    obtain ⟨bA,oA,A3,p3,ea,hbA,hcA,htA⟩:=kid_cells HK.out hik
    subst ea
    have HC:=Lib.hid (HIH.out ks[i] (List.getElem_mem hik) wr _ (htA.kept HB.out))
    obtain ⟨k0,k1,k2,k3⟩:=hcA.kept hbA HB.out
    have HTK:Hid (((ks.take (i+1)).map printL).map prV=((ks.take i).map printL).map prV++[prV (printL ks[i])]):=by
     show _=_
     rw [List.take_add_one,List.getElem?_eq_getElem hik,List.map_append,List.map_append]
     rfl
    have i1:(i:Int) < (n:Int):=by omega
    have q1:IntKind.i64.wrap ((i:Int)+1)=(i:Int)+1:=by rw [IntKind.wrap_i64];omega
    have HLT:Hid (i < n):=hlt
    clear hcA htA hlt
    generalize printL ks[i]=pk at *
    generalize ks[i].kids.length=n3 at *
    generalize ks[i].op=o9 at *
    generalize ks[i].col=cc3 at *
    generalize ks[i].cell=b3 at *
    clear hik
    obtain ⟨c0,c1,c2,c3,-⟩:=HX.out.cells
    obtain ⟨kA,kp,ekl⟩:=HO.out.len
    subst ekl
    obtain ⟨XS,hXS⟩:∃ x,Hid (x=((ks.take i).map printL).map prV):=⟨_,rfl⟩
    rw [←hXS.out] at HO HTK
    unfold prV at HTK
    obtain ⟨pb,hpb⟩:∃ x,Hid (x=mkB pk):=⟨_,rfl⟩
    rw [←hpb.out] at HC HTK
    go_wp2_with fail
    clear c0 c1 c2 c3 k0 k1 k2 k3
    refine HC.out.stepB (w0:=wr) (B:=wr.heap.size) (.refl _ _) (Nat.le_refl _) ?_
    intro w5 _ _ hq
    have HO5:=Lib.hid (HO.out.later hq)
    have HX5:=Lib.hid (HX.out.later hq)
    have HB5:=Lib.hid (HB.out.trans (hq.mono HB.out.size))
    have hlit:SliceOf (w5.alloc (.cells #[.string pb] 9)) 1 (.slice (some ⟨w5.heap.size,0,none⟩) 1 1) 1 [.string pb]:=(Own.lit (B:=0) (size:=1) w5 #[.string pb] 9 1 (Nat.zero_le _) (by unfold maxLen;omega) rfl).slice
    have ha6:=Below.alloc (.refl w5.heap.size w5) (Nat.le_refl _) (.cells #[.string pb] 9)
    have HBL:=HX5.out.cells.2.2.2.2
    clear HO HX HB HC hq
    go_wp2_with (at_builtin;go_loud (refine wpList_append_src rfl (.tmp 47) (.tmp 54) 34 rfl 9 i0 (.string ⟨#[]⟩) 1 16 Try.underlying34 hi hz0 hz1 hz2 rfl (by decide) (B:=w.heap.size+1) _ i XS rfl (HO5.out.later ha6) _ 1 _ rfl hlit (fun u hu=>by rw [List.mem_singleton.1 hu];rfl) (by unfold maxLen;omega) (by omega) (by have:=ha6.size;omega) ?_))
    intro v9 w9 hO9 hg9 hn9
    have HO9:Hid (Own w9 (w.heap.size+1) 1 v9 (i+1) (((ks.take (i+1)).map printL).map prV)):=by
     have e:((ks.take (i+1)).map printL).map prV=XS++[.string pb]:=HTK.out
     show Own _ _ _ _ _ _
     rw [e];exact hO9
    have HX9:=Lib.hid ((HX5.out.later ha6).other hg9 (fun e=>by have:=(HO5.out.lt _ e).1;omega))
    have HB9:=Lib.hid ((HB5.out.trans (ha6.mono HB5.out.size)).grown hg9 (HB5.out.trans (ha6.mono HB5.out.size)).size (fun k hk=>by have:=(HO5.out.lt k hk).1;omega))
    obtain ⟨vA,vp9,e9⟩:=hO9.len
    subst e9
    clear hO9 hg9 hn9 hlit ha6 HBL HO5 HX5 HB5
    go_wp2
    go_roundw
    case rel=>exact ⟨i+1,_,by go_num,rfl,HLT.out,HO9,HX9,HB9⟩
    case measure=>have:=HLT.out;simp [intOf];omega
   ·obtain rfl:i=n:=by omega
    have HOA:Hid (Own wr (w.heap.size+1) 1 kl i ((ks.map printL).map prV)):=by
     have h:=HO.out
     rw [List.take_of_length_le (by rw [HN.out];exact Nat.le_refl _)] at h
     exact h
    clear HO hlt
    obtain ⟨kA,kp,ekl⟩:=HOA.out.len
    subst ekl
    have hOB:=HB
    obtain ⟨c0,c1,c2,c3,-⟩:=HX.out.cells
    have e0:∀ a,wr.drew.cell? a=wr.cell? a:=fun _=>rfl
    have dc0:=(e0 _).trans c0
    have HBD:=Lib.hid (HB.out.trans ((below_drew1 wr).mono HB.out.size))
    have h612:¬((99:Int)=61∧i=2):=fun e=>absurd e.1 (by decide)
    have HSW:Hid (swapL 99 (ks.map printL)=ks.map printL):=swap_not (by rw [List.length_map,HN.out];exact h612)
    have HOE:Hid (Own wr.drew (w.heap.size+1) 1 (.slice kA i kp) i ((swapL 99 (ks.map printL)).map prV)):=by
     rw [HSW.out]
     exact HOA.out.later (below_drew1 wr)
    have HBE:=HBD
    have d61:((99:Int)==61)=false:=by decide
    clear h612
    go_wp2_with fail
    go_big_region_o
    clear c0 c1 c2 c3 dc0 e0
    go_wp2
    clear HB HX HBD HOA
    generalize wr.drew=w9 at *
    go_loopw [3,6] (fun sx ix wq=>∃ (i9:Nat) (SB:ByteArray),sx=.string SB∧ix=.int .i64 i9∧i9≤i∧Hid (SB=mkB (headL 99 col cell i++((swapL 99 (ks.map printL)).take i9).flatten))∧Hid (Below w.heap.size w wq)∧Hid (w9.heap.size≤wq.heap.size∧Below w9.heap.size w9 wq)) (fun _ ix _=>i-(intOf ix).toNat)
    case atStart=>exact ⟨0,_,rfl,rfl,Nat.zero_le _,(by rw [List.take_zero,List.flatten_nil,List.append_nil];exact HDE),HBE,⟨Nat.le_refl _,.refl _ _⟩⟩
    case round =>
     obtain ⟨i9,SB,rfl,rfl,hi9,HSB,HBQ,HQQ⟩:=hrel
     have hsz:=HSZ.out
     by_cases hl9:i9 < i
     ·have hip:i9 < (swapL 99 (ks.map printL)).length:=by rw [swap_length,List.length_map,HN.out];exact hl9
      obtain ⟨gk,ok,ekA,hgk,hck⟩:∃ gk ok,kA=some ⟨gk,ok,none⟩∧gk < w9.heap.size∧w9.cell? ⟨gk,ok+i9,none⟩=some (.string (mkB (swapL 99 (ks.map printL))[i9])):=by
       obtain ⟨A',c',e,hat⟩:=HOE.out.slice.at_
       injection e with e1 e2 e3
       obtain ⟨gk,ok,e4,h5,h6⟩:=hat (by omega)
       exact ⟨gk,ok,e1.trans e4,h5,h6 i9 _ (by rw [List.getElem?_map,List.getElem?_eq_getElem hip];rfl)⟩
      subst ekA
      have hckr:=(HQQ.out.2.cell (p:=⟨gk,ok+i9,none⟩) hgk).trans hck
      have HFL:Hid (mkB (headL 99 col cell i++((swapL 99 (ks.map printL)).take i9).flatten)++mkB (swapL 99 (ks.map printL))[i9]=mkB (headL 99 col cell i++((swapL 99 (ks.map printL)).take (i9+1)).flatten)):=by
       show _=_
       rw [mkB_append,List.take_add_one,List.getElem?_eq_getElem hip,List.flatten_append,←List.append_assoc]
       simp
      have hfz:(mkB (headL 99 col cell i++((swapL 99 (ks.map printL)).take i9).flatten)).size+(mkB (swapL 99 (ks.map printL))[i9]).size≤1000000000:=by
       have e:=congrArg ByteArray.size HFL.out
       have h1:(mkB (headL 99 col cell i++((swapL 99 (ks.map printL)).take (i9+1)).flatten)).size≤1000000000:=by
        rw [mkB_size,List.length_append]
        have h2:(((swapL 99 (ks.map printL)).take (i9+1)).flatten).length≤((swapL 99 (ks.map printL)).flatten).length:=by
         have e9:swapL 99 (ks.map printL)=(swapL 99 (ks.map printL)).take (i9+1)++(swapL 99 (ks.map printL)).drop (i9+1):=(List.take_append_drop _ _).symm
         conv=>rhs;rw [e9,List.flatten_append,List.length_append]
         omega
        omega
       rw [ByteArray.size_append] at e
       omega
      rw [←HSB.out] at HFL hfz
      have HFL2:Hid (SB++mkB (swapL 99 (ks.map printL))[i9]=mkB (headL 99 col cell i++((swapL 99 (ks.map printL)).take (i9+1)).flatten)):=HFL.out
      have t9:¬9223372036854775807 < SB.size+(mkB (swapL 99 (ks.map printL))[i9]).size:=by omega
      generalize mkB (swapL 99 (ks.map printL))[i9]=PB at *
      clear hip
      have i1:(i9:Int) < (i:Int):=by omega
      have q1:IntKind.i64.wrap ((i9:Int)+1)=(i9:Int)+1:=by rw [IntKind.wrap_i64];omega
      have HLT:Hid (i9 < i):=hl9
      clear hfz hck hsz hl9 HFL hgk HSB
      go_wp2
      go_roundw
      case rel=>exact ⟨i9+1,_,rfl,by go_num,HLT.out,HFL2,HBQ,HQQ⟩
      case measure=>have:=HLT.out;simp [intOf];omega
     ·obtain rfl:i9=i:=by omega
      rw [List.take_of_length_le (by rw [swap_length,List.length_map,HN.out];exact Nat.le_refl _)] at HSB
      clear hl9 hsz
      go_wp2
      go_ret
      exact ⟨ret_str (HSB.out),HBQ.out⟩
 ·by_cases h107:op=107
  ·have HHD:Hid (L0++printB cell.size++cell++printB n=mkB (headL op col cell n)):=by
    show _=_
    unfold headL fieldL
    rw [if_neg h99,if_pos h107,HL0.out]
    show mkB _++mkB (vp cell.size)++cell++mkB (vp n)=_
    rw [mkB_append,←mkB_of cell,mkB_append,mkB_append]
    simp [mkB_of]
   have hcs:=HSZ.out.1
   have HP1:=Lib.hid (ref_print_calls cell.size (by omega))
   have hl1:(vp cell.size).length≤10:=vp_len_10 (by omega)
   have hz1c:(printB cell.size).size≤10:=by rw [print_len];exact hl1
   have d99:((107:Int)==99)=false:=by decide
   have d107:((107:Int)==107)=true:=by decide
   have wz6:IntKind.u64.wrap (cell.size:Int)=(cell.size:Int):=by rw [IntKind.wrap_u64];omega
   subst h107
   clear o0 o1 HRG hl1 h99
   go_enter Try.func11,Try.ntmps11
   go_wp2_with fail
   generalize World.alloc (World.alloc w _) _=w2 at *
   clear c0 c1 c2 c3
   have hz0c:=HZ.out
   have t4:¬9223372036854775807 < L0.size+(printB cell.size).size:=by omega
   have hzp1:(L0++printB cell.size).size≤100:=by rw [ByteArray.size_append];omega
   have t5:¬9223372036854775807 < L0.size+(printB cell.size).size+cell.size:=by omega
   obtain ⟨SA,hSA⟩:∃ x,Hid (x=L0++printB cell.size++cell):=⟨_,rfl⟩
   have HZP:Hid (SA.size≤10000000):=by rw [hSA.out];show _≤_;rw [ByteArray.size_append];omega
   have E4:Hid (L0++printB cell.size++cell=SA):=hSA.out.symm
   have hhd:=HHD.out
   rw [E4.out] at hhd
   clear HHD
   have HHD:=Lib.hid hhd
   clear hhd hz0c hz1c hzp1
   refine wp_region_calm (offC w2) (fun _=>false) (fun _=>false) anyE false (by kernel_rfl) (by kernel_rfl) (by kernel_rfl) (by kernel_rfl) (by intro m hm;revert hm;simp;try omega) (offC_stable _) (offC_start _) ?_
   refine calm_fixA rfl rfl ?_
   apply Exists.intro
   refine ⟨fun a wz hc hk hf K hK=>?_,?_⟩
   ·have h3:=hk 3 (by kernel_rfl)
    clear hk hf hc
    go_simp
    exact hK _ _ (Below.refl _ _) rfl
   refine calm_fixA rfl rfl ?_
   apply Exists.intro
   refine ⟨fun a wz hc hk hf K hK=>?_,?_⟩
   ·have h1:=hk 1 (by kernel_rfl)
    clear hk hf hc
    go_simp
    exact hK _ _ (Below.refl _ _) rfl
   refine calm_fixA rfl rfl ?_
   apply Exists.intro
   refine ⟨fun a wz hc hk hf K hK=>?_,?_⟩
   ·have hb:Below w2.heap.size w2 wz:=hc rfl
    have h24:=held_isV hf 0 rfl (by kernel_rfl)
    clear hk hf hc
    obtain ⟨c0,c1,c2,c3,-⟩:=(HX.out.later hb).cells
    go_simp
    exact hK _ _ (Below.refl _ _) rfl
   refine calm_fixA rfl rfl ?_
   apply Exists.intro
   refine ⟨fun a wz hc hk hf K hK=>?_,?_⟩
   ·have h25:=held_isV hf 0 rfl (by kernel_rfl)
    clear hk hf hc
    go_simp
    exact hK _ _ (Below.refl _ _) rfl
   refine calm_fixA rfl rfl ?_
   apply Exists.intro
   refine ⟨fun a wz hc hk hf K hK=>?_,?_⟩
   ·have h26:=held_isV hf 0 rfl (by kernel_rfl)
    clear hk hf hc
    go_simp
    exact hK _ _ (Below.refl _ _) rfl
   refine calm_fixA rfl rfl ?_
   apply Exists.intro
   refine ⟨fun a wz hc hk hf K hK=>?_,?_⟩
   ·have hb:Below w2.heap.size w2 wz:=hc rfl
    have h27:=held_isV hf 0 rfl (by kernel_rfl)
    clear hk hf hc
    go_simp
    refine Calls.mono (HP1.out wz) ?_
    rintro e w1 ⟨rfl,hq⟩
    exact hK _ _ hq rfl
   refine calm_fixA rfl rfl ?_
   apply Exists.intro
   refine ⟨fun a wz hc hk hf K hK=>?_,?_⟩
   ·have h23:=held_isV hf 5 rfl (by kernel_rfl)
    have h28:=held_isV hf 0 rfl (by kernel_rfl)
    clear hk hf hc
    go_simp
    exact hK _ _ (Below.refl _ _) rfl
   refine calm_fixA rfl rfl ?_
   apply Exists.intro
   refine ⟨fun a wz hc hk hf K hK=>?_,?_⟩
   ·have h1:=hk 1 (by kernel_rfl)
    clear hk hf hc
    go_simp
    exact hK _ _ (Below.refl _ _) rfl
   refine calm_fixA rfl rfl ?_
   apply Exists.intro
   refine ⟨fun a wz hc hk hf K hK=>?_,?_⟩
   ·have hb:Below w2.heap.size w2 wz:=hc rfl
    have h30:=held_isV hf 0 rfl (by kernel_rfl)
    clear hk hf hc
    obtain ⟨c0,c1,c2,c3,-⟩:=(HX.out.later hb).cells
    go_simp
    exact hK _ _ (Below.refl _ _) rfl
   refine calm_fixA rfl rfl ?_
   apply Exists.intro
   refine ⟨fun a wz hc hk hf K hK=>?_,?_⟩
   ·have h29:=held_isV hf 2 rfl (by kernel_rfl)
    have h31:=held_isV hf 0 rfl (by kernel_rfl)
    clear hk hf hc
    go_simp
    exact hK _ _ (Below.refl _ _) rfl
   refine calm_fixA rfl rfl ?_
   apply Exists.intro
   refine ⟨fun a wz hc hk hf K hK=>?_,?_⟩
   ·have h32:=held_isV hf 0 rfl (by kernel_rfl)
    clear hk hf hc
    go_simp
    exact hK _ _ (Below.refl _ _) rfl
   refine calm_nil ?_
   refine ⟨keeps_none,?_⟩
   intro w4 hc
   simp only [lexL,calmEnd]
   rintro _ rfl _ rfl _ rfl _ rfl _ rfl _ rfl _ rfl _ rfl _ rfl _ rfl _ rfl
   have hq:Below w2.heap.size w2 w4:=hc rfl
   have HXn:=Lib.hid (HX.out.later hq)
   have HBn:=Lib.hid (HB.out.trans (hq.mono HB.out.size))
   clear HX HB hq hc
   have HX:=HXn
   have HB:=HBn
   clear HXn HBn
   obtain ⟨c0,c1,c2,c3,-⟩:=HX.out.cells
   simp only [Act.put,List.setIfInBounds_toArray,List.set_cons_zero,List.set_cons_succ]
   rw [E4.out]
   go_wp2_with fail
   clear c0 c1 c2 c3 t4 t5
   have hzp:=HZP.out
   refine (ref_print_calls n (by have:=HSZ.out;omega)).stepB (w0:=w4) (B:=w4.heap.size) (.refl _ _) (Nat.le_refl _) ?_
   intro w8 _ _ hq
   have HXn:=Lib.hid (HX.out.later hq)
   have HBn:=Lib.hid (HB.out.trans (hq.mono HB.out.size))
   clear HX HB hq
   have HX:=HXn
   have HB:=HBn
   clear HXn HBn
   obtain ⟨c0,c1,c2,c3,-⟩:=HX.out.cells
   have hzn:(printB n).size≤10:=by rw [print_len];exact vp_len_10 (by have:=HSZ.out;omega)
   have t8:¬9223372036854775807 < (SA).size+(printB n).size:=by omega
   obtain ⟨HDB,hHDB⟩:∃ x,Hid (x=SA++printB n):=⟨_,rfl⟩
   have e8:SA++printB n=HDB:=hHDB.out.symm
   have HDE:Hid (HDB=mkB (headL 107 col cell n)):=by rw [hHDB.out];exact HHD.out
   go_wp2
   clear c0 c1 c2 c3 t8 e8 hzn
   clear hHDB HHD
   go_loopw [4,5] (fun kx ix wr=>∃ (i:Nat) (kl:Value),ix=.int .i64 i∧kx=kl∧i≤n∧Hid (Own wr (w.heap.size+1) 1 kl i (((ks.take i).map printL).map prV))∧Hid (TrmBox wr w.heap.size 107 col cell (.slice A n cap))∧Hid (Below w.heap.size w wr)) (fun _ ix _=>n-(intOf ix).toNat)
   case atStart=>exact ⟨0,_,rfl,rfl,Nat.zero_le _,Lib.hid (Own.nil_ _ _ _),HX,HB⟩
   case round =>
    clear HX HB
    obtain ⟨i,kl,rfl,ek,hin9,HO,HX,HB⟩:=hrel
    rw [ek]
    clear ek
    have hnn:=HSZ.out.2.1
    by_cases hlt:i < n
    ·have hik:i < ks.length:=by rw [HN.out];exact hlt
     obtain ⟨bA,oA,A3,p3,ea,hbA,hcA,htA⟩:=kid_cells HK.out hik
     subst ea
     have HC:=Lib.hid (HIH.out ks[i] (List.getElem_mem hik) wr _ (htA.kept HB.out))
     obtain ⟨k0,k1,k2,k3⟩:=hcA.kept hbA HB.out
     have HTK:Hid (((ks.take (i+1)).map printL).map prV=((ks.take i).map printL).map prV++[prV (printL ks[i])]):=by
      show _=_
      rw [List.take_add_one,List.getElem?_eq_getElem hik,List.map_append,List.map_append]
      rfl
     have i1:(i:Int) < (n:Int):=by omega
     have q1:IntKind.i64.wrap ((i:Int)+1)=(i:Int)+1:=by rw [IntKind.wrap_i64];omega
     have HLT:Hid (i < n):=hlt
     clear hcA htA hlt
     generalize printL ks[i]=pk at *
     generalize ks[i].kids.length=n3 at *
     generalize ks[i].op=o9 at *
     generalize ks[i].col=cc3 at *
     generalize ks[i].cell=b3 at *
     clear hik
     obtain ⟨c0,c1,c2,c3,-⟩:=HX.out.cells
     obtain ⟨kA,kp,ekl⟩:=HO.out.len
     subst ekl
     obtain ⟨XS,hXS⟩:∃ x,Hid (x=((ks.take i).map printL).map prV):=⟨_,rfl⟩
     rw [←hXS.out] at HO HTK
     unfold prV at HTK
     obtain ⟨pb,hpb⟩:∃ x,Hid (x=mkB pk):=⟨_,rfl⟩
     rw [←hpb.out] at HC HTK
     go_wp2_with fail
     clear c0 c1 c2 c3 k0 k1 k2 k3
     refine HC.out.stepB (w0:=wr) (B:=wr.heap.size) (.refl _ _) (Nat.le_refl _) ?_
     intro w5 _ _ hq
     have HO5:=Lib.hid (HO.out.later hq)
     have HX5:=Lib.hid (HX.out.later hq)
     have HB5:=Lib.hid (HB.out.trans (hq.mono HB.out.size))
     have hlit:SliceOf (w5.alloc (.cells #[.string pb] 9)) 1 (.slice (some ⟨w5.heap.size,0,none⟩) 1 1) 1 [.string pb]:=(Own.lit (B:=0) (size:=1) w5 #[.string pb] 9 1 (Nat.zero_le _) (by unfold maxLen;omega) rfl).slice
     have ha6:=Below.alloc (.refl w5.heap.size w5) (Nat.le_refl _) (.cells #[.string pb] 9)
     have HBL:=HX5.out.cells.2.2.2.2
     clear HO HX HB HC hq
     go_wp2_with (at_builtin;go_loud (refine wpList_append_src rfl (.tmp 47) (.tmp 54) 34 rfl 9 i0 (.string ⟨#[]⟩) 1 16 Try.underlying34 hi hz0 hz1 hz2 rfl (by decide) (B:=w.heap.size+1) _ i XS rfl (HO5.out.later ha6) _ 1 _ rfl hlit (fun u hu=>by rw [List.mem_singleton.1 hu];rfl) (by unfold maxLen;omega) (by omega) (by have:=ha6.size;omega) ?_))
     intro v9 w9 hO9 hg9 hn9
     have HO9:Hid (Own w9 (w.heap.size+1) 1 v9 (i+1) (((ks.take (i+1)).map printL).map prV)):=by
      have e:((ks.take (i+1)).map printL).map prV=XS++[.string pb]:=HTK.out
      show Own _ _ _ _ _ _
      rw [e];exact hO9
     have HX9:=Lib.hid ((HX5.out.later ha6).other hg9 (fun e=>by have:=(HO5.out.lt _ e).1;omega))
     have HB9:=Lib.hid ((HB5.out.trans (ha6.mono HB5.out.size)).grown hg9 (HB5.out.trans (ha6.mono HB5.out.size)).size (fun k hk=>by have:=(HO5.out.lt k hk).1;omega))
     obtain ⟨vA,vp9,e9⟩:=hO9.len
     subst e9
     clear hO9 hg9 hn9 hlit ha6 HBL HO5 HX5 HB5
     go_wp2
     go_roundw
     case rel=>exact ⟨i+1,_,by go_num,rfl,HLT.out,HO9,HX9,HB9⟩
     case measure=>have:=HLT.out;simp [intOf];omega
    ·obtain rfl:i=n:=by omega
     have HOA:Hid (Own wr (w.heap.size+1) 1 kl i ((ks.map printL).map prV)):=by
      have h:=HO.out
      rw [List.take_of_length_le (by rw [HN.out];exact Nat.le_refl _)] at h
      exact h
     clear HO hlt
     obtain ⟨kA,kp,ekl⟩:=HOA.out.len
     subst ekl
     have hOB:=HB
     obtain ⟨c0,c1,c2,c3,-⟩:=HX.out.cells
     have e0:∀ a,wr.drew.cell? a=wr.cell? a:=fun _=>rfl
     have dc0:=(e0 _).trans c0
     have HBD:=Lib.hid (HB.out.trans ((below_drew1 wr).mono HB.out.size))
     have h612:¬((107:Int)=61∧i=2):=fun e=>absurd e.1 (by decide)
     have HSW:Hid (swapL 107 (ks.map printL)=ks.map printL):=swap_not (by rw [List.length_map,HN.out];exact h612)
     have HOE:Hid (Own wr.drew (w.heap.size+1) 1 (.slice kA i kp) i ((swapL 107 (ks.map printL)).map prV)):=by
      rw [HSW.out]
      exact HOA.out.later (below_drew1 wr)
     have HBE:=HBD
     have d61:((107:Int)==61)=false:=by decide
     clear h612
     go_wp2_with fail
     go_big_region_o
     clear c0 c1 c2 c3 dc0 e0
     go_wp2
     clear HB HX HBD HOA
     generalize wr.drew=w9 at *
     go_loopw [3,6] (fun sx ix wq=>∃ (i9:Nat) (SB:ByteArray),sx=.string SB∧ix=.int .i64 i9∧i9≤i∧Hid (SB=mkB (headL 107 col cell i++((swapL 107 (ks.map printL)).take i9).flatten))∧Hid (Below w.heap.size w wq)∧Hid (w9.heap.size≤wq.heap.size∧Below w9.heap.size w9 wq)) (fun _ ix _=>i-(intOf ix).toNat)
     case atStart=>exact ⟨0,_,rfl,rfl,Nat.zero_le _,(by rw [List.take_zero,List.flatten_nil,List.append_nil];exact HDE),HBE,⟨Nat.le_refl _,.refl _ _⟩⟩
     case round =>
      obtain ⟨i9,SB,rfl,rfl,hi9,HSB,HBQ,HQQ⟩:=hrel
      have hsz:=HSZ.out
      by_cases hl9:i9 < i
      ·have hip:i9 < (swapL 107 (ks.map printL)).length:=by rw [swap_length,List.length_map,HN.out];exact hl9
       obtain ⟨gk,ok,ekA,hgk,hck⟩:∃ gk ok,kA=some ⟨gk,ok,none⟩∧gk < w9.heap.size∧w9.cell? ⟨gk,ok+i9,none⟩=some (.string (mkB (swapL 107 (ks.map printL))[i9])):=by
        obtain ⟨A',c',e,hat⟩:=HOE.out.slice.at_
        injection e with e1 e2 e3
        obtain ⟨gk,ok,e4,h5,h6⟩:=hat (by omega)
        exact ⟨gk,ok,e1.trans e4,h5,h6 i9 _ (by rw [List.getElem?_map,List.getElem?_eq_getElem hip];rfl)⟩
       subst ekA
       have hckr:=(HQQ.out.2.cell (p:=⟨gk,ok+i9,none⟩) hgk).trans hck
       have HFL:Hid (mkB (headL 107 col cell i++((swapL 107 (ks.map printL)).take i9).flatten)++mkB (swapL 107 (ks.map printL))[i9]=mkB (headL 107 col cell i++((swapL 107 (ks.map printL)).take (i9+1)).flatten)):=by
        show _=_
        rw [mkB_append,List.take_add_one,List.getElem?_eq_getElem hip,List.flatten_append,←List.append_assoc]
        simp
       have hfz:(mkB (headL 107 col cell i++((swapL 107 (ks.map printL)).take i9).flatten)).size+(mkB (swapL 107 (ks.map printL))[i9]).size≤1000000000:=by
        have e:=congrArg ByteArray.size HFL.out
        have h1:(mkB (headL 107 col cell i++((swapL 107 (ks.map printL)).take (i9+1)).flatten)).size≤1000000000:=by
         rw [mkB_size,List.length_append]
         have h2:(((swapL 107 (ks.map printL)).take (i9+1)).flatten).length≤((swapL 107 (ks.map printL)).flatten).length:=by
          have e9:swapL 107 (ks.map printL)=(swapL 107 (ks.map printL)).take (i9+1)++(swapL 107 (ks.map printL)).drop (i9+1):=(List.take_append_drop _ _).symm
          conv=>rhs;rw [e9,List.flatten_append,List.length_append]
          omega
         omega
        rw [ByteArray.size_append] at e
        omega
       rw [←HSB.out] at HFL hfz
       have HFL2:Hid (SB++mkB (swapL 107 (ks.map printL))[i9]=mkB (headL 107 col cell i++((swapL 107 (ks.map printL)).take (i9+1)).flatten)):=HFL.out
       have t9:¬9223372036854775807 < SB.size+(mkB (swapL 107 (ks.map printL))[i9]).size:=by omega
       generalize mkB (swapL 107 (ks.map printL))[i9]=PB at *
       clear hip
       have i1:(i9:Int) < (i:Int):=by omega
       have q1:IntKind.i64.wrap ((i9:Int)+1)=(i9:Int)+1:=by rw [IntKind.wrap_i64];omega
       have HLT:Hid (i9 < i):=hl9
       clear hfz hck hsz hl9 HFL hgk HSB
       go_wp2
       go_roundw
       case rel=>exact ⟨i9+1,_,rfl,by go_num,HLT.out,HFL2,HBQ,HQQ⟩
       case measure=>have:=HLT.out;simp [intOf];omega
      ·obtain rfl:i9=i:=by omega
       rw [List.take_of_length_le (by rw [swap_length,List.length_map,HN.out];exact Nat.le_refl _)] at HSB
       clear hl9 hsz
       go_wp2
       go_ret
       exact ⟨ret_str (HSB.out),HBQ.out⟩
  ·have HHD:Hid (L0++printB n=mkB (headL op col cell n)):=by
    show _=_
    unfold headL fieldL
    rw [if_neg h99,if_neg h107,HL0.out]
    show mkB _++mkB (vp n)=_
    rw [mkB_append]
    simp
   have d99:(op==99)=false:=by simp [h99]
   have d107:(op==107)=false:=by simp [h107]
   clear o0 o1 HRG h99 h107
   go_enter Try.func11,Try.ntmps11
   go_wp2_with fail
   generalize World.alloc (World.alloc w _) _=w2 at *
   clear c0 c1 c2 c3
   have hzp:L0.size≤100:=by have:=HZ.out;omega
   refine (ref_print_calls n (by have:=HSZ.out;omega)).stepB (w0:=w2) (B:=w2.heap.size) (.refl _ _) (Nat.le_refl _) ?_
   intro w8 _ _ hq
   have HXn:=Lib.hid (HX.out.later hq)
   have HBn:=Lib.hid (HB.out.trans (hq.mono HB.out.size))
   clear HX HB hq
   have HX:=HXn
   have HB:=HBn
   clear HXn HBn
   obtain ⟨c0,c1,c2,c3,-⟩:=HX.out.cells
   have hzn:(printB n).size≤10:=by rw [print_len];exact vp_len_10 (by have:=HSZ.out;omega)
   have t8:¬9223372036854775807 < (L0).size+(printB n).size:=by omega
   obtain ⟨HDB,hHDB⟩:∃ x,Hid (x=L0++printB n):=⟨_,rfl⟩
   have e8:L0++printB n=HDB:=hHDB.out.symm
   have HDE:Hid (HDB=mkB (headL op col cell n)):=by rw [hHDB.out];exact HHD.out
   go_wp2
   clear c0 c1 c2 c3 t8 e8 hzn
   clear hHDB HHD
   go_loopw [4,5] (fun kx ix wr=>∃ (i:Nat) (kl:Value),ix=.int .i64 i∧kx=kl∧i≤n∧Hid (Own wr (w.heap.size+1) 1 kl i (((ks.take i).map printL).map prV))∧Hid (TrmBox wr w.heap.size op col cell (.slice A n cap))∧Hid (Below w.heap.size w wr)) (fun _ ix _=>n-(intOf ix).toNat)
   case atStart=>exact ⟨0,_,rfl,rfl,Nat.zero_le _,Lib.hid (Own.nil_ _ _ _),HX,HB⟩
   case round =>
    clear HX HB
    obtain ⟨i,kl,rfl,ek,hin9,HO,HX,HB⟩:=hrel
    rw [ek]
    clear ek
    have hnn:=HSZ.out.2.1
    by_cases hlt:i < n
    ·have hik:i < ks.length:=by rw [HN.out];exact hlt
     obtain ⟨bA,oA,A3,p3,ea,hbA,hcA,htA⟩:=kid_cells HK.out hik
     subst ea
     have HC:=Lib.hid (HIH.out ks[i] (List.getElem_mem hik) wr _ (htA.kept HB.out))
     obtain ⟨k0,k1,k2,k3⟩:=hcA.kept hbA HB.out
     have HTK:Hid (((ks.take (i+1)).map printL).map prV=((ks.take i).map printL).map prV++[prV (printL ks[i])]):=by
      show _=_
      rw [List.take_add_one,List.getElem?_eq_getElem hik,List.map_append,List.map_append]
      rfl
     have i1:(i:Int) < (n:Int):=by omega
     have q1:IntKind.i64.wrap ((i:Int)+1)=(i:Int)+1:=by rw [IntKind.wrap_i64];omega
     have HLT:Hid (i < n):=hlt
     clear hcA htA hlt
     generalize printL ks[i]=pk at *
     generalize ks[i].kids.length=n3 at *
     generalize ks[i].op=o9 at *
     generalize ks[i].col=cc3 at *
     generalize ks[i].cell=b3 at *
     clear hik
     obtain ⟨c0,c1,c2,c3,-⟩:=HX.out.cells
     obtain ⟨kA,kp,ekl⟩:=HO.out.len
     subst ekl
     obtain ⟨XS,hXS⟩:∃ x,Hid (x=((ks.take i).map printL).map prV):=⟨_,rfl⟩
     rw [←hXS.out] at HO HTK
     unfold prV at HTK
     obtain ⟨pb,hpb⟩:∃ x,Hid (x=mkB pk):=⟨_,rfl⟩
     rw [←hpb.out] at HC HTK
     go_wp2_with fail
     clear c0 c1 c2 c3 k0 k1 k2 k3
     refine HC.out.stepB (w0:=wr) (B:=wr.heap.size) (.refl _ _) (Nat.le_refl _) ?_
     intro w5 _ _ hq
     have HO5:=Lib.hid (HO.out.later hq)
     have HX5:=Lib.hid (HX.out.later hq)
     have HB5:=Lib.hid (HB.out.trans (hq.mono HB.out.size))
     have hlit:SliceOf (w5.alloc (.cells #[.string pb] 9)) 1 (.slice (some ⟨w5.heap.size,0,none⟩) 1 1) 1 [.string pb]:=(Own.lit (B:=0) (size:=1) w5 #[.string pb] 9 1 (Nat.zero_le _) (by unfold maxLen;omega) rfl).slice
     have ha6:=Below.alloc (.refl w5.heap.size w5) (Nat.le_refl _) (.cells #[.string pb] 9)
     have HBL:=HX5.out.cells.2.2.2.2
     clear HO HX HB HC hq
     go_wp2_with (at_builtin;go_loud (refine wpList_append_src rfl (.tmp 47) (.tmp 54) 34 rfl 9 i0 (.string ⟨#[]⟩) 1 16 Try.underlying34 hi hz0 hz1 hz2 rfl (by decide) (B:=w.heap.size+1) _ i XS rfl (HO5.out.later ha6) _ 1 _ rfl hlit (fun u hu=>by rw [List.mem_singleton.1 hu];rfl) (by unfold maxLen;omega) (by omega) (by have:=ha6.size;omega) ?_))
     intro v9 w9 hO9 hg9 hn9
     have HO9:Hid (Own w9 (w.heap.size+1) 1 v9 (i+1) (((ks.take (i+1)).map printL).map prV)):=by
      have e:((ks.take (i+1)).map printL).map prV=XS++[.string pb]:=HTK.out
      show Own _ _ _ _ _ _
      rw [e];exact hO9
     have HX9:=Lib.hid ((HX5.out.later ha6).other hg9 (fun e=>by have:=(HO5.out.lt _ e).1;omega))
     have HB9:=Lib.hid ((HB5.out.trans (ha6.mono HB5.out.size)).grown hg9 (HB5.out.trans (ha6.mono HB5.out.size)).size (fun k hk=>by have:=(HO5.out.lt k hk).1;omega))
     obtain ⟨vA,vp9,e9⟩:=hO9.len
     subst e9
     clear hO9 hg9 hn9 hlit ha6 HBL HO5 HX5 HB5
     go_wp2
     go_roundw
     case rel=>exact ⟨i+1,_,by go_num,rfl,HLT.out,HO9,HX9,HB9⟩
     case measure=>have:=HLT.out;simp [intOf];omega
    ·obtain rfl:i=n:=by omega
     have HOA:Hid (Own wr (w.heap.size+1) 1 kl i ((ks.map printL).map prV)):=by
      have h:=HO.out
      rw [List.take_of_length_le (by rw [HN.out];exact Nat.le_refl _)] at h
      exact h
     clear HO hlt
     obtain ⟨kA,kp,ekl⟩:=HOA.out.len
     subst ekl
     have hOB:=HB
     obtain ⟨c0,c1,c2,c3,-⟩:=HX.out.cells
     have e0:∀ a,wr.drew.cell? a=wr.cell? a:=fun _=>rfl
     have dc0:=(e0 _).trans c0
     have HBD:=Lib.hid (HB.out.trans ((below_drew1 wr).mono HB.out.size))
     by_cases h61:op=61
     ·subst h61
      have d61:((61:Int)==61)=true:=by decide
      by_cases h2:i=2
      ·subst h2
       have hl2:=HN.out
       match hks:ks,hl2 with
       | [ka,kb],_ =>
        obtain ⟨gk,ok,ekA,hgk,hc0,hc1,hf0,hf1⟩:∃ gk ok,kA=some ⟨gk,ok,none⟩∧(w.heap.size+1≤gk∧gk < wr.heap.size)∧wr.cell? ⟨gk,ok,none⟩=some (.string (mkB (printL ka)))∧wr.cell? ⟨gk,ok+1,none⟩=some (.string (mkB (printL kb)))∧wr.frozen? ⟨gk,ok,none⟩=false∧wr.frozen? ⟨gk,ok+1,none⟩=false:=by
         obtain ⟨_,_,h⟩:=HOA.out
         rcases h with ⟨_,h0⟩ | ⟨gk,ok,c9,e,h1,h2,h3,h4,h5⟩
         ·omega
         ·injection e with e1 e2 e3
          exact ⟨gk,ok,e1,⟨h1,h2⟩,h4 0 _ rfl,h4 1 _ rfl,(h5 0 (by omega)).2,(h5 1 (by omega)).2⟩
        subst ekA
        have dcc0:=(e0 _).trans hc0
        have dcc1:=(e0 _).trans hc1
        have hls:Op.bytesLess (mkB (printL kb)).toList (mkB (printL ka)).toList=Op.bytesLess (printL kb) (printL ka):=by rw [ByteArray.toList_eq,ByteArray.toList_eq,mkB_data,mkB_data]
        obtain ⟨PA,hPA⟩:∃ x,Hid (x=mkB (printL ka)):=⟨_,rfl⟩
        obtain ⟨PB,hPB⟩:∃ x,Hid (x=mkB (printL kb)):=⟨_,rfl⟩
        rw [←hPA.out] at hc0 dcc0 hls
        rw [←hPB.out] at hc1 dcc1 hls
        cases hlt:Op.bytesLess (printL kb) (printL ka) with
        | false =>
         rw [hlt] at hls
         have HSW:Hid (swapL 61 (([ka,kb]:List Trm).map printL)=([ka,kb]:List Trm).map printL):=by
          show swapL 61 [printL ka,printL kb]=_
          rw [swap_two,if_neg (by rw [hlt];simp)]
          rfl
         have HOE:Hid (Own wr.drew (w.heap.size+1) 1 (.slice (some ⟨gk,ok,none⟩) 2 kp) 2 ((swapL 61 (([ka,kb]:List Trm).map printL)).map prV)):=by
          rw [HSW.out]
          exact HOA.out.later (below_drew1 wr)
         have HBE:=HBD
         have HKS:Hid (ks=([ka,kb]:List Trm)):=hks
         clear hlt hks
         generalize hksl:([ka,kb]:List Trm)=ksl at *
         go_wp2_with fail
         go_big_region_o
         clear c0 c1 c2 c3 dc0 e0 hc0 hc1 dcc0 dcc1 hf0 hf1 hls
         go_wp2
         clear HB HX HBD HOA hgk
         generalize wr.drew=w9 at *
         generalize (some (⟨gk,ok,none⟩:Addr):Option Addr)=kA at *
         go_loopw [3,6] (fun sx ix wq=>∃ (i9:Nat) (SB:ByteArray),sx=.string SB∧ix=.int .i64 i9∧i9≤2∧Hid (SB=mkB (headL 61 col cell 2++((swapL 61 (ksl.map printL)).take i9).flatten))∧Hid (Below w.heap.size w wq)∧Hid (w9.heap.size≤wq.heap.size∧Below w9.heap.size w9 wq)) (fun _ ix _=>2-(intOf ix).toNat)
         case atStart=>exact ⟨0,_,rfl,rfl,Nat.zero_le _,(by rw [List.take_zero,List.flatten_nil,List.append_nil];exact HDE),HBE,⟨Nat.le_refl _,.refl _ _⟩⟩
         case round =>
          obtain ⟨i9,SB,rfl,rfl,hi9,HSB,HBQ,HQQ⟩:=hrel
          have hsz:=HSZ.out
          by_cases hl9:i9 < 2
          ·have hip:i9 < (swapL 61 (ksl.map printL)).length:=by rw [swap_length,List.length_map,HN.out];exact hl9
           obtain ⟨gk,ok,ekA,hgk,hck⟩:∃ gk ok,kA=some ⟨gk,ok,none⟩∧gk < w9.heap.size∧w9.cell? ⟨gk,ok+i9,none⟩=some (.string (mkB (swapL 61 (ksl.map printL))[i9])):=by
            obtain ⟨A',c',e,hat⟩:=HOE.out.slice.at_
            injection e with e1 e2 e3
            obtain ⟨gk,ok,e4,h5,h6⟩:=hat (by omega)
            exact ⟨gk,ok,e1.trans e4,h5,h6 i9 _ (by rw [List.getElem?_map,List.getElem?_eq_getElem hip];rfl)⟩
           subst ekA
           have hckr:=(HQQ.out.2.cell (p:=⟨gk,ok+i9,none⟩) hgk).trans hck
           have HFL:Hid (mkB (headL 61 col cell 2++((swapL 61 (ksl.map printL)).take i9).flatten)++mkB (swapL 61 (ksl.map printL))[i9]=mkB (headL 61 col cell 2++((swapL 61 (ksl.map printL)).take (i9+1)).flatten)):=by
            show _=_
            rw [mkB_append,List.take_add_one,List.getElem?_eq_getElem hip,List.flatten_append,←List.append_assoc]
            simp
           have hfz:(mkB (headL 61 col cell 2++((swapL 61 (ksl.map printL)).take i9).flatten)).size+(mkB (swapL 61 (ksl.map printL))[i9]).size≤1000000000:=by
            have e:=congrArg ByteArray.size HFL.out
            have h1:(mkB (headL 61 col cell 2++((swapL 61 (ksl.map printL)).take (i9+1)).flatten)).size≤1000000000:=by
             rw [mkB_size,List.length_append]
             have h2:(((swapL 61 (ksl.map printL)).take (i9+1)).flatten).length≤((swapL 61 (ksl.map printL)).flatten).length:=by
              have e9:swapL 61 (ksl.map printL)=(swapL 61 (ksl.map printL)).take (i9+1)++(swapL 61 (ksl.map printL)).drop (i9+1):=(List.take_append_drop _ _).symm
              conv=>rhs;rw [e9,List.flatten_append,List.length_append]
              omega
             omega
            rw [ByteArray.size_append] at e
            omega
           rw [←HSB.out] at HFL hfz
           have HFL2:Hid (SB++mkB (swapL 61 (ksl.map printL))[i9]=mkB (headL 61 col cell 2++((swapL 61 (ksl.map printL)).take (i9+1)).flatten)):=HFL.out
           have t9:¬9223372036854775807 < SB.size+(mkB (swapL 61 (ksl.map printL))[i9]).size:=by omega
           generalize mkB (swapL 61 (ksl.map printL))[i9]=PB at *
           clear hip
           have i1:(i9:Int) < (2:Int):=by omega
           have q1:IntKind.i64.wrap ((i9:Int)+1)=(i9:Int)+1:=by rw [IntKind.wrap_i64];omega
           have HLT:Hid (i9 < 2):=hl9
           clear hfz hck hsz hl9 HFL hgk HSB
           go_wp2
           go_roundw
           case rel=>exact ⟨i9+1,_,rfl,by go_num,HLT.out,HFL2,HBQ,HQQ⟩
           case measure=>have:=HLT.out;simp [intOf];omega
          ·obtain rfl:i9=2:=by omega
           rw [List.take_of_length_le (by rw [swap_length,List.length_map,HN.out];exact Nat.le_refl _)] at HSB
           clear hl9 hsz
           go_wp2
           go_ret
           exact ⟨ret_str (by rw [HKS.out];exact HSB.out),HBQ.out⟩
        | true =>
         rw [hlt] at hls
         have HSW:Hid (swapL 61 (([ka,kb]:List Trm).map printL)=[printL kb,printL ka]):=by
          show swapL 61 [printL ka,printL kb]=_
          rw [swap_two,if_pos ⟨rfl,hlt⟩]
         have hst:=Own.stored (Own.stored HOA.out 0 (by decide) (.string PB)) 1 (by decide) (.string PA)
         simp only [Nat.add_zero] at hst
         have hgr:=setCells_grown gk [.string PB,.string PA] ok wr
         simp only [World.setCells] at hgr
         have HOE:Hid (Own ((wr.setCell ⟨gk,ok,none⟩ (.string PB)).setCell ⟨gk,ok+1,none⟩ (.string PA)).drew.drew (w.heap.size+1) 1 (.slice (some ⟨gk,ok,none⟩) 2 kp) 2 ((swapL 61 (([ka,kb]:List Trm).map printL)).map prV)):=by
          rw [HSW.out,show ([printL kb,printL ka].map prV)=[.string PB,.string PA] from by rw [hPA.out,hPB.out];rfl]
          exact (hst.later (below_drew1 _)).later (below_drew1 _)
         have HBE:Hid (Below w.heap.size w ((wr.setCell ⟨gk,ok,none⟩ (.string PB)).setCell ⟨gk,ok+1,none⟩ (.string PA)).drew.drew):=by
          have h1:=HB.out.grown hgr HB.out.size (fun k hk=>by simp only [Option.some.injEq] at hk;omega)
          have h2:=h1.trans ((below_drew1 _).mono h1.size)
          exact h2.trans ((below_drew1 _).mono h2.size)
         have HKS:Hid (ks=([ka,kb]:List Trm)):=hks
         clear hlt hks hst hgr
         generalize hksl:([ka,kb]:List Trm)=ksl at *
         go_wp2_with fail
         go_big_region_o
         have ddc0:wr.drew.drew.cell? ⟨gk,ok,none⟩=some (.string PA):=hc0
         have ddc1:wr.drew.drew.cell? ⟨gk,ok+1,none⟩=some (.string PB):=hc1
         go_wp2_with fail
         go_big_region_o
         clear c0 c1 c2 c3 dc0 e0 hc0 hc1 dcc0 dcc1 hf0 hf1 hls ddc0 ddc1
         go_wp2
         clear HB HX HBD HOA hgk
         generalize World.drew (World.drew _)=w9 at *
         generalize (some (⟨gk,ok,none⟩:Addr):Option Addr)=kA at *
         go_loopw [3,6] (fun sx ix wq=>∃ (i9:Nat) (SB:ByteArray),sx=.string SB∧ix=.int .i64 i9∧i9≤2∧Hid (SB=mkB (headL 61 col cell 2++((swapL 61 (ksl.map printL)).take i9).flatten))∧Hid (Below w.heap.size w wq)∧Hid (w9.heap.size≤wq.heap.size∧Below w9.heap.size w9 wq)) (fun _ ix _=>2-(intOf ix).toNat)
         case atStart=>exact ⟨0,_,rfl,rfl,Nat.zero_le _,(by rw [List.take_zero,List.flatten_nil,List.append_nil];exact HDE),HBE,⟨Nat.le_refl _,.refl _ _⟩⟩
         case round =>
          obtain ⟨i9,SB,rfl,rfl,hi9,HSB,HBQ,HQQ⟩:=hrel
          have hsz:=HSZ.out
          by_cases hl9:i9 < 2
          ·have hip:i9 < (swapL 61 (ksl.map printL)).length:=by rw [swap_length,List.length_map,HN.out];exact hl9
           obtain ⟨gk,ok,ekA,hgk,hck⟩:∃ gk ok,kA=some ⟨gk,ok,none⟩∧gk < w9.heap.size∧w9.cell? ⟨gk,ok+i9,none⟩=some (.string (mkB (swapL 61 (ksl.map printL))[i9])):=by
            obtain ⟨A',c',e,hat⟩:=HOE.out.slice.at_
            injection e with e1 e2 e3
            obtain ⟨gk,ok,e4,h5,h6⟩:=hat (by omega)
            exact ⟨gk,ok,e1.trans e4,h5,h6 i9 _ (by rw [List.getElem?_map,List.getElem?_eq_getElem hip];rfl)⟩
           subst ekA
           have hckr:=(HQQ.out.2.cell (p:=⟨gk,ok+i9,none⟩) hgk).trans hck
           have HFL:Hid (mkB (headL 61 col cell 2++((swapL 61 (ksl.map printL)).take i9).flatten)++mkB (swapL 61 (ksl.map printL))[i9]=mkB (headL 61 col cell 2++((swapL 61 (ksl.map printL)).take (i9+1)).flatten)):=by
            show _=_
            rw [mkB_append,List.take_add_one,List.getElem?_eq_getElem hip,List.flatten_append,←List.append_assoc]
            simp
           have hfz:(mkB (headL 61 col cell 2++((swapL 61 (ksl.map printL)).take i9).flatten)).size+(mkB (swapL 61 (ksl.map printL))[i9]).size≤1000000000:=by
            have e:=congrArg ByteArray.size HFL.out
            have h1:(mkB (headL 61 col cell 2++((swapL 61 (ksl.map printL)).take (i9+1)).flatten)).size≤1000000000:=by
             rw [mkB_size,List.length_append]
             have h2:(((swapL 61 (ksl.map printL)).take (i9+1)).flatten).length≤((swapL 61 (ksl.map printL)).flatten).length:=by
              have e9:swapL 61 (ksl.map printL)=(swapL 61 (ksl.map printL)).take (i9+1)++(swapL 61 (ksl.map printL)).drop (i9+1):=(List.take_append_drop _ _).symm
              conv=>rhs;rw [e9,List.flatten_append,List.length_append]
              omega
             omega
            rw [ByteArray.size_append] at e
            omega
           rw [←HSB.out] at HFL hfz
           have HFL2:Hid (SB++mkB (swapL 61 (ksl.map printL))[i9]=mkB (headL 61 col cell 2++((swapL 61 (ksl.map printL)).take (i9+1)).flatten)):=HFL.out
           have t9:¬9223372036854775807 < SB.size+(mkB (swapL 61 (ksl.map printL))[i9]).size:=by omega
           generalize mkB (swapL 61 (ksl.map printL))[i9]=PB at *
           clear hip
           have i1:(i9:Int) < (2:Int):=by omega
           have q1:IntKind.i64.wrap ((i9:Int)+1)=(i9:Int)+1:=by rw [IntKind.wrap_i64];omega
           have HLT:Hid (i9 < 2):=hl9
           clear hfz hck hsz hl9 HFL hgk HSB
           go_wp2
           go_roundw
           case rel=>exact ⟨i9+1,_,rfl,by go_num,HLT.out,HFL2,HBQ,HQQ⟩
           case measure=>have:=HLT.out;simp [intOf];omega
          ·obtain rfl:i9=2:=by omega
           rw [List.take_of_length_le (by rw [swap_length,List.length_map,HN.out];exact Nat.le_refl _)] at HSB
           clear hl9 hsz
           go_wp2
           go_ret
           exact ⟨ret_str (by rw [HKS.out];exact HSB.out),HBQ.out⟩
      ·have h612:¬((61:Int)=61∧i=2):=fun e=>h2 e.2
       have d2:((i:Int)==2)=false:=by simp;omega
       have HSW:Hid (swapL 61 (ks.map printL)=ks.map printL):=swap_not (by rw [List.length_map,HN.out];exact h612)
       have HOE:Hid (Own wr.drew (w.heap.size+1) 1 (.slice kA i kp) i ((swapL 61 (ks.map printL)).map prV)):=by
        rw [HSW.out]
        exact HOA.out.later (below_drew1 wr)
       have HBE:=HBD
       clear h612 h2
       go_wp2_with fail
       go_big_region_o
       clear c0 c1 c2 c3 dc0 e0
       go_wp2
       clear HB HX HBD HOA
       generalize wr.drew=w9 at *
       go_loopw [3,6] (fun sx ix wq=>∃ (i9:Nat) (SB:ByteArray),sx=.string SB∧ix=.int .i64 i9∧i9≤i∧Hid (SB=mkB (headL 61 col cell i++((swapL 61 (ks.map printL)).take i9).flatten))∧Hid (Below w.heap.size w wq)∧Hid (w9.heap.size≤wq.heap.size∧Below w9.heap.size w9 wq)) (fun _ ix _=>i-(intOf ix).toNat)
       case atStart=>exact ⟨0,_,rfl,rfl,Nat.zero_le _,(by rw [List.take_zero,List.flatten_nil,List.append_nil];exact HDE),HBE,⟨Nat.le_refl _,.refl _ _⟩⟩
       case round =>
        obtain ⟨i9,SB,rfl,rfl,hi9,HSB,HBQ,HQQ⟩:=hrel
        have hsz:=HSZ.out
        by_cases hl9:i9 < i
        ·have hip:i9 < (swapL 61 (ks.map printL)).length:=by rw [swap_length,List.length_map,HN.out];exact hl9
         obtain ⟨gk,ok,ekA,hgk,hck⟩:∃ gk ok,kA=some ⟨gk,ok,none⟩∧gk < w9.heap.size∧w9.cell? ⟨gk,ok+i9,none⟩=some (.string (mkB (swapL 61 (ks.map printL))[i9])):=by
          obtain ⟨A',c',e,hat⟩:=HOE.out.slice.at_
          injection e with e1 e2 e3
          obtain ⟨gk,ok,e4,h5,h6⟩:=hat (by omega)
          exact ⟨gk,ok,e1.trans e4,h5,h6 i9 _ (by rw [List.getElem?_map,List.getElem?_eq_getElem hip];rfl)⟩
         subst ekA
         have hckr:=(HQQ.out.2.cell (p:=⟨gk,ok+i9,none⟩) hgk).trans hck
         have HFL:Hid (mkB (headL 61 col cell i++((swapL 61 (ks.map printL)).take i9).flatten)++mkB (swapL 61 (ks.map printL))[i9]=mkB (headL 61 col cell i++((swapL 61 (ks.map printL)).take (i9+1)).flatten)):=by
          show _=_
          rw [mkB_append,List.take_add_one,List.getElem?_eq_getElem hip,List.flatten_append,←List.append_assoc]
          simp
         have hfz:(mkB (headL 61 col cell i++((swapL 61 (ks.map printL)).take i9).flatten)).size+(mkB (swapL 61 (ks.map printL))[i9]).size≤1000000000:=by
          have e:=congrArg ByteArray.size HFL.out
          have h1:(mkB (headL 61 col cell i++((swapL 61 (ks.map printL)).take (i9+1)).flatten)).size≤1000000000:=by
           rw [mkB_size,List.length_append]
           have h2:(((swapL 61 (ks.map printL)).take (i9+1)).flatten).length≤((swapL 61 (ks.map printL)).flatten).length:=by
            have e9:swapL 61 (ks.map printL)=(swapL 61 (ks.map printL)).take (i9+1)++(swapL 61 (ks.map printL)).drop (i9+1):=(List.take_append_drop _ _).symm
            conv=>rhs;rw [e9,List.flatten_append,List.length_append]
            omega
           omega
          rw [ByteArray.size_append] at e
          omega
         rw [←HSB.out] at HFL hfz
         have HFL2:Hid (SB++mkB (swapL 61 (ks.map printL))[i9]=mkB (headL 61 col cell i++((swapL 61 (ks.map printL)).take (i9+1)).flatten)):=HFL.out
         have t9:¬9223372036854775807 < SB.size+(mkB (swapL 61 (ks.map printL))[i9]).size:=by omega
         generalize mkB (swapL 61 (ks.map printL))[i9]=PB at *
         clear hip
         have i1:(i9:Int) < (i:Int):=by omega
         have q1:IntKind.i64.wrap ((i9:Int)+1)=(i9:Int)+1:=by rw [IntKind.wrap_i64];omega
         have HLT:Hid (i9 < i):=hl9
         clear hfz hck hsz hl9 HFL hgk HSB
         go_wp2
         go_roundw
         case rel=>exact ⟨i9+1,_,rfl,by go_num,HLT.out,HFL2,HBQ,HQQ⟩
         case measure=>have:=HLT.out;simp [intOf];omega
        ·obtain rfl:i9=i:=by omega
         rw [List.take_of_length_le (by rw [swap_length,List.length_map,HN.out];exact Nat.le_refl _)] at HSB
         clear hl9 hsz
         go_wp2
         go_ret
         exact ⟨ret_str (HSB.out),HBQ.out⟩
     ·have h612:¬(op=61∧i=2):=fun e=>h61 e.1
      have d61:(op==61)=false:=by simp [h61]
      have HSW:Hid (swapL op (ks.map printL)=ks.map printL):=swap_not (by rw [List.length_map,HN.out];exact h612)
      have HOE:Hid (Own wr.drew (w.heap.size+1) 1 (.slice kA i kp) i ((swapL op (ks.map printL)).map prV)):=by
       rw [HSW.out]
       exact HOA.out.later (below_drew1 wr)
      have HBE:=HBD
      clear h612 h61
      go_wp2_with fail
      go_big_region_o
      clear c0 c1 c2 c3 dc0 e0
      go_wp2
      clear HB HX HBD HOA
      generalize wr.drew=w9 at *
      go_loopw [3,6] (fun sx ix wq=>∃ (i9:Nat) (SB:ByteArray),sx=.string SB∧ix=.int .i64 i9∧i9≤i∧Hid (SB=mkB (headL op col cell i++((swapL op (ks.map printL)).take i9).flatten))∧Hid (Below w.heap.size w wq)∧Hid (w9.heap.size≤wq.heap.size∧Below w9.heap.size w9 wq)) (fun _ ix _=>i-(intOf ix).toNat)
      case atStart=>exact ⟨0,_,rfl,rfl,Nat.zero_le _,(by rw [List.take_zero,List.flatten_nil,List.append_nil];exact HDE),HBE,⟨Nat.le_refl _,.refl _ _⟩⟩
      case round =>
       obtain ⟨i9,SB,rfl,rfl,hi9,HSB,HBQ,HQQ⟩:=hrel
       have hsz:=HSZ.out
       by_cases hl9:i9 < i
       ·have hip:i9 < (swapL op (ks.map printL)).length:=by rw [swap_length,List.length_map,HN.out];exact hl9
        obtain ⟨gk,ok,ekA,hgk,hck⟩:∃ gk ok,kA=some ⟨gk,ok,none⟩∧gk < w9.heap.size∧w9.cell? ⟨gk,ok+i9,none⟩=some (.string (mkB (swapL op (ks.map printL))[i9])):=by
         obtain ⟨A',c',e,hat⟩:=HOE.out.slice.at_
         injection e with e1 e2 e3
         obtain ⟨gk,ok,e4,h5,h6⟩:=hat (by omega)
         exact ⟨gk,ok,e1.trans e4,h5,h6 i9 _ (by rw [List.getElem?_map,List.getElem?_eq_getElem hip];rfl)⟩
        subst ekA
        have hckr:=(HQQ.out.2.cell (p:=⟨gk,ok+i9,none⟩) hgk).trans hck
        have HFL:Hid (mkB (headL op col cell i++((swapL op (ks.map printL)).take i9).flatten)++mkB (swapL op (ks.map printL))[i9]=mkB (headL op col cell i++((swapL op (ks.map printL)).take (i9+1)).flatten)):=by
         show _=_
         rw [mkB_append,List.take_add_one,List.getElem?_eq_getElem hip,List.flatten_append,←List.append_assoc]
         simp
        have hfz:(mkB (headL op col cell i++((swapL op (ks.map printL)).take i9).flatten)).size+(mkB (swapL op (ks.map printL))[i9]).size≤1000000000:=by
         have e:=congrArg ByteArray.size HFL.out
         have h1:(mkB (headL op col cell i++((swapL op (ks.map printL)).take (i9+1)).flatten)).size≤1000000000:=by
          rw [mkB_size,List.length_append]
          have h2:(((swapL op (ks.map printL)).take (i9+1)).flatten).length≤((swapL op (ks.map printL)).flatten).length:=by
           have e9:swapL op (ks.map printL)=(swapL op (ks.map printL)).take (i9+1)++(swapL op (ks.map printL)).drop (i9+1):=(List.take_append_drop _ _).symm
           conv=>rhs;rw [e9,List.flatten_append,List.length_append]
           omega
          omega
         rw [ByteArray.size_append] at e
         omega
        rw [←HSB.out] at HFL hfz
        have HFL2:Hid (SB++mkB (swapL op (ks.map printL))[i9]=mkB (headL op col cell i++((swapL op (ks.map printL)).take (i9+1)).flatten)):=HFL.out
        have t9:¬9223372036854775807 < SB.size+(mkB (swapL op (ks.map printL))[i9]).size:=by omega
        generalize mkB (swapL op (ks.map printL))[i9]=PB at *
        clear hip
        have i1:(i9:Int) < (i:Int):=by omega
        have q1:IntKind.i64.wrap ((i9:Int)+1)=(i9:Int)+1:=by rw [IntKind.wrap_i64];omega
        have HLT:Hid (i9 < i):=hl9
        clear hfz hck hsz hl9 HFL hgk HSB
        go_wp2
        go_roundw
        case rel=>exact ⟨i9+1,_,rfl,by go_num,HLT.out,HFL2,HBQ,HQQ⟩
        case measure=>have:=HLT.out;simp [intOf];omega
       ·obtain rfl:i9=i:=by omega
        rw [List.take_of_length_le (by rw [swap_length,List.length_map,HN.out];exact Nat.le_refl _)] at HSB
        clear hl9 hsz
        go_wp2
        go_ret
        exact ⟨ret_str (HSB.out),HBQ.out⟩
theorem ref_nprint_calls {w:World}{v:Value}{t:Trm}(ht:TermIn w v t)(hs:Sm17 t):GivesAt Try.prog 11 #[v] w (.string (mkB (printL t))):=ref_nprint_at t hs w v ht
end Go.Proofs.Ytnkhkkdmjabhnaa
