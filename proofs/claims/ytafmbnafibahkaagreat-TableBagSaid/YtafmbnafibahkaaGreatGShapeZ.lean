/- The contracts of layer 9's Fits and Row. -/
import Derived.Test.YtafmbnafibahkaaGreatGStrs
import Derived.Test.YtafmbnafibahkaaGreatGBlockUnder
import Derived.Laws.RangeString
import Derived.Laws.RangeAny
namespace Go.Proofs.YtafmbnafibahkaaGreat
open Go Go.RowKit
def letterB (b:UInt8):Bool:=decide (97≤b.toNat)&&decide (b.toNat≤122)
def nameB (s:ByteArray):Bool:=!s.toList.isEmpty&&decide (s.size≤12)&&s.data.toList.all letterB
theorem byte_mem (s:ByteArray)(k:Nat)(h:k < s.size):s[k]∈s.data.toList:=by
 show s.data[k]∈s.data.toList
 exact Array.getElem_mem_toList h
theorem nameB_no {s:ByteArray}(k:Nat)(h:k < s.size)(hl:letterB s[k]=false):nameB s=false:=by
 have:s.data.toList.all letterB=false:=by
  cases ha:s.data.toList.all letterB with
  | false=>rfl
  | true=>rw [List.all_eq_true] at ha;rw [ha _ (byte_mem s k h)] at hl;exact absurd hl (by decide)
 unfold nameB;rw [this,Bool.and_false]
theorem bytes_take (s:ByteArray)(k:Nat)(h:k < s.size):s.data.toList.take (k+1)=s.data.toList.take k++[s[k]]:=by
 rw [List.take_succ_eq_append_getElem (by simpa using h)];rfl
theorem rune_not (s:ByteArray)(k:Nat)(h:k < s.size)(hl:letterB s[k]=false):¬(97≤(Utf8.decode s k).1∧(Utf8.decode s k).1≤122):=by
 by_cases ha:s[k].toNat < 128
 ·rw [decode_ascii s k h ha]
  intro h2
  unfold letterB at hl
  rw [decide_eq_true h2.1,decide_eq_true h2.2] at hl
  exact absurd hl (by decide)
 ·have:=(decode_high s k h (by omega)).1;omega
set_option maxHeartbeats 1000000 in
set_option maxRecDepth 100000 in
theorem shape_name_calls (s:ByteArray):Gives Tryz.prog 31 #[.string s] (.bool (nameB s)):=by
 intro w
 obtain ⟨hb,hB⟩:=start w
 cases he:s.toList.isEmpty with
 | true =>
  have HR:=Lib.hid (show nameB s=false by unfold nameB;rw [he];rfl)
  have g1:(s.toList==[])=true:=by rw [beq_iff_eq];exact List.isEmpty_iff.1 he
  go_enter Tryz.func31,Tryz.ntmps31
  go_wp2
  go_ret
  exact ⟨ret_bool HR.out.symm,hb⟩
 | false =>
  by_cases hl:s.size≤12
  ·have d1:decide (12 < (s.size:Int))=false:=by rw [decide_eq_false_iff_not];omega
   have HE:=Lib.hid he
   go_enter Tryz.func31,Tryz.ntmps31
   go_wp2
   go_loopw [] (fun w'=>∃ pos:Nat,pos≤s.size∧w'=w.iter s pos∧Hid (∀ b∈s.data.toList.take pos,letterB b=true)) (fun w'=>s.size-w'.iterPos w.heap.size)
   case atStart=>exact ⟨0,Nat.zero_le _,rfl,fun c hc=>absurd hc (by simp)⟩
   case round =>
    obtain ⟨pos,hpos,rfl,HS⟩:=hrel
    by_cases hp:pos < s.size
    ·have HT:=Lib.hid (bytes_take s pos hp)
     cases hlt:letterB s[pos] with
     | true =>
      have HI:=Lib.hid hlt
      unfold letterB at hlt
      rw [Bool.and_eq_true,decide_eq_true_eq,decide_eq_true_eq] at hlt
      have hnx:∀ ty,(Instr.next (.pointer (some ⟨w.heap.size,0,none⟩)) true ty).run Tryz.prog (w.iter s pos)=_:=fun ty=>run_next_ascii w s pos ty hp (by omega)
      have d2:decide ((s[pos].toNat:Int) < 97)=false:=by rw [decide_eq_false_iff_not];omega
      have d3:decide (122 < (s[pos].toNat:Int))=false:=by rw [decide_eq_false_iff_not];omega
      go_wp2
      go_roundw
      case rel=>exact ⟨pos+1,by omega,rfl,fun d hd=>by
       rw [HT.out] at hd
       rcases List.mem_append.1 hd with hd|hd
       ·exact HS.out d hd
       ·rw [List.mem_singleton.1 hd];exact HI.out⟩
      case measure=>simp;omega
     | false =>
      have hnx:∀ ty,(Instr.next (.pointer (some ⟨w.heap.size,0,none⟩)) true ty).run Tryz.prog (w.iter s pos)=_:=fun ty=>run_next_any w s pos ty hp
      have HD:=Lib.hid (nameB_no pos hp hlt)
      have hr:=rune_not s pos hp hlt
      generalize (Utf8.decode s pos).1=r at *
      generalize (Utf8.decode s pos).2=wd at *
      by_cases h97:r < 97
      ·have d2:decide ((r:Int) < 97)=true:=by rw [decide_eq_true_eq];omega
       go_wp2
       go_ret
       exact ⟨ret_bool HD.out.symm,hb.alloc (Nat.le_refl _) _⟩
      ·have d2:decide ((r:Int) < 97)=false:=by rw [decide_eq_false_iff_not];omega
       have d3:decide (122 < (r:Int))=true:=by rw [decide_eq_true_eq];omega
       go_wp2
       go_ret
       exact ⟨ret_bool HD.out.symm,hb.alloc (Nat.le_refl _) _⟩
    ·have hnx:∀ ty,(Instr.next (.pointer (some ⟨w.heap.size,0,none⟩)) true ty).run Tryz.prog (w.iter s pos)=_:=fun ty=>run_next_end w s pos ty hp
     have HD:Hid (nameB s=true):=by
      show _=_
      have h1:=HS.out
      rw [List.take_of_length_le (by rw [Array.length_toList];show s.size≤pos;omega)] at h1
      unfold nameB
      rw [HE.out,decide_eq_true hl,List.all_eq_true.2 h1];rfl
     go_wp2
     go_ret
     exact ⟨ret_bool HD.out.symm,hb.alloc (Nat.le_refl _) _⟩
  ·have d1:decide (12 < (s.size:Int))=true:=by rw [decide_eq_true_eq];omega
   have HR:=Lib.hid (show nameB s=false by unfold nameB;rw [decide_eq_false hl,Bool.and_false];rfl)
   go_enter Tryz.func31,Tryz.ntmps31
   go_wp2
   go_ret
   exact ⟨ret_bool HR.out.symm,hb⟩
set_option maxHeartbeats 400000 in
theorem ref_shape_kind_calls (k:Int)(w:World):Reads Tryz.prog 45 #[.int .u8 k] w (.bool (kindB k)):=by
 unfold Reads
 by_cases h1:k=98
 ·have HR:=Lib.hid (show kindB k=true by unfold kindB;rw [h1];rfl)
  have d1:(k==98)=true:=by rw [beq_iff_eq];exact h1
  clear h1
  go_enter Tryz.func45,Tryz.ntmps45
  go_wp2
  go_ret
  exact ⟨ret_bool HR.out.symm,rfl⟩
 have d1:(k==98)=false:=by rw [beq_eq_false_iff_ne];exact h1
 by_cases h2:k=105
 ·have HR:=Lib.hid (show kindB k=true by unfold kindB;rw [h2];rfl)
  have d2:(k==105)=true:=by rw [beq_iff_eq];exact h2
  clear h1 h2
  go_enter Tryz.func45,Tryz.ntmps45
  go_wp2
  go_ret
  exact ⟨ret_bool HR.out.symm,rfl⟩
 have d2:(k==105)=false:=by rw [beq_eq_false_iff_ne];exact h2
 by_cases h3:k=116
 ·have HR:=Lib.hid (show kindB k=true by unfold kindB;rw [h3];rfl)
  have d3:(k==116)=true:=by rw [beq_iff_eq];exact h3
  clear h1 h2 h3
  go_enter Tryz.func45,Tryz.ntmps45
  go_wp2
  go_ret
  exact ⟨ret_bool HR.out.symm,rfl⟩
 have d3:(k==116)=false:=by rw [beq_eq_false_iff_ne];exact h3
 have HR:=Lib.hid (show kindB k=false by unfold kindB;rw [d1,d2,d3];rfl)
 clear h1 h2 h3
 go_enter Tryz.func45,Tryz.ntmps45
 go_wp2
 go_ret
 exact ⟨ret_bool HR.out.symm,rfl⟩
set_option maxHeartbeats 1000000 in
theorem ref_shape_right_calls {w:World}{v:Value}{l:List (Int×Bool)}(h:ColsIn w v l):GivesAt Tryz.prog 22 #[v] w (.bool (rightC l)):=by
 have hm:=h.len
 unfold maxLen at hm
 obtain ⟨hb,hB⟩:=start w
 obtain ⟨A,cap,rfl,hat⟩:=cols_at h
 have HAT:=Lib.hid hat
 clear h hat
 unfold GivesAt
 go_enter Tryz.func22,Tryz.ntmps22
 go_wp2
 go_loopw [3] (fun i wr=>∃ k:Nat,k≤l.length∧i=.int .i64 k∧Hid (∀ c∈l.take k,kindB c.1=true)∧Below w.heap.size w wr) (fun i _=>l.length-(intOf i).toNat)
 case atStart=>exact ⟨0,Nat.zero_le _,rfl,fun c hc=>absurd hc (by simp),hb⟩
 case round =>
  clear hb hB
  obtain ⟨k,hk,rfl,HS,hb⟩:=hrel
  have hB:=hb.size
  by_cases hlt:k < l.length
  ·obtain ⟨b,off,rfl,hbl,hc⟩:=HAT.out k hlt
   have hx1:=(hb.cell (p:=⟨b,off+k*2,none⟩) hbl).trans (hc k hlt).1
   have hx2:=(hb.cell (p:=⟨b,off+k*2+1,none⟩) hbl).trans (hc k hlt).2
   have HT:=Lib.hid (take_add l k hlt)
   have HM:=Lib.hid (List.getElem_mem hlt)
   clear hc
   generalize l[k]=c at *
   obtain ⟨kd,nl⟩:=c
   have HN:=Lib.hid (ref_shape_kind_calls kd)
   cases hi:kindB kd with
   | true =>
    rw [hi] at HN
    have HI:=Lib.hid hi
    clear hi
    go_wp2_with (go_at_call 45;refine (HN.out _).step ?_)
    go_roundw
    case rel=>exact ⟨k+1,by omega,by go_num,fun d hd=>by
     rw [HT.out] at hd
     rcases List.mem_append.1 hd with hd|hd
     ·exact HS.out d hd
     ·rw [List.mem_singleton.1 hd];exact HI.out,by go_grown⟩
    case measure=>simp [intOf];omega
   | false =>
    rw [hi] at HN
    have HD:=Lib.hid (rightC_no HM.out hi)
    clear hi
    go_wp2_with (go_at_call 45;refine (HN.out _).step ?_)
    go_ret
    exact ⟨ret_bool HD.out.symm,by go_grown⟩
  ·obtain rfl:k=l.length:=by omega
   rw [List.take_length] at HS
   by_cases h0:1≤l.length
   ·have d1:decide ((1:Int)≤(l.length:Int))=true:=by rw [decide_eq_true_eq];omega
    by_cases h6:l.length≤6
    ·have d2:decide ((l.length:Int)≤6)=true:=by rw [decide_eq_true_eq];omega
     have HD:=Lib.hid (rightC_yes (by omega) h6 HS.out)
     go_wp2
     go_ret
     exact ⟨ret_bool HD.out.symm,hb⟩
    ·have d2:decide ((l.length:Int)≤6)=false:=by rw [decide_eq_false_iff_not];omega
     have HD:Hid (rightC l=false):=by
      show _=_
      unfold rightC
      rw [decide_eq_false h6,Bool.and_false,Bool.false_and]
     go_wp2
     go_ret
     exact ⟨ret_bool HD.out.symm,hb⟩
   ·have d1:decide ((1:Int)≤(l.length:Int))=false:=by rw [decide_eq_false_iff_not];omega
    have HD:Hid (rightC l=false):=by
     show _=_
     unfold rightC
     rw [decide_eq_false (by omega:¬0 < l.length),Bool.false_and,Bool.false_and]
    go_wp2
    go_ret
    exact ⟨ret_bool HD.out.symm,hb⟩
set_option maxHeartbeats 1000000 in
theorem shape_fits_calls (c:Int×Bool)(s:ByteArray):Gives Tryz.prog 52 #[colA c,.string s] (.bool (fitsC c s)):=by
 obtain ⟨kd,nl⟩:=c
 intro w
 obtain ⟨hb,hB⟩:=start w
 unfold colA
 cases he:s.toList.isEmpty with
 | true =>
  have HR:=Lib.hid (show fitsC (kd,nl) s=nl by unfold fitsC;rw [he];rfl)
  have g1:(s.toList==[])=true:=by rw [beq_iff_eq];exact List.isEmpty_iff.1 he
  go_enter Tryz.func52,Tryz.ntmps52
  go_wp2
  go_ret
  exact ⟨ret_bool HR.out.symm,by go_grown⟩
 | false =>
  have HR:=Lib.hid (show fitsC (kd,nl) s=(rightB s&&(kindI s==kd)) by unfold fitsC;rw [he];rfl)
  have hc0:(w.alloc (.cells #[.int .u8 kd,.bool nl] 58)).cell? ⟨w.heap.size,0,none⟩=some (.int .u8 kd):=by simp [go_sem]
  have hb1:Below w.heap.size w (w.alloc (.cells #[.int .u8 kd,.bool nl] 58)):=(below_alloc hb hB _).1
  have HN:=Lib.hid (right_calls s)
  have HK:=Lib.hid (kind_calls s)
  cases hr:rightB s with
  | true =>
   rw [hr] at HN HR
   clear hr
   go_enter Tryz.func52,Tryz.ntmps52
   go_wp2
   generalize hW:w.alloc (.cells #[.int .u8 kd,.bool nl] 58)=w1 at *
   clear hW hb hB
   have hb:=hb1
   clear hb1
   have a0:=fun d os=>cell_regrown hc0 d os
   refine wp_region_quiet_below (by kernel_rfl) (by kernel_rfl) ?_
   repeat (first|go_big_quiet_skip|(go_big_quiet_want;go_big_quiet_op;first|go_big_quiet_on|(apply Exists.intro;refine ⟨fun _=>?_,?_⟩;(first|(go_at_call 71;exact Calls.regrown_of (HN.out _))|(go_at_call 72;exact Calls.regrown_of (HK.out _)));go_big_quiet_on)))
   refine wpQuiet_nil ?_
   rintro w3 ⟨p,hw3⟩
   have hb2:Below w1.heap.size w1 w3:=hw3▸below_regrown w1 p.d p.os
   clear hw3
   go_wp2
   go_ret
   exact ⟨ret_bool HR.out.symm,hb.trans (hb2.mono hb.size)⟩
  | false =>
   rw [hr] at HN HR
   clear hr
   go_enter Tryz.func52,Tryz.ntmps52
   go_wp2
   generalize hW:w.alloc (.cells #[.int .u8 kd,.bool nl] 58)=w1 at *
   clear hW hb hB
   have hb:=hb1
   clear hb1
   have a0:=fun d os=>cell_regrown hc0 d os
   refine wp_region_quiet_below (by kernel_rfl) (by kernel_rfl) ?_
   repeat (first|go_big_quiet_skip|(go_big_quiet_want;go_big_quiet_op;first|go_big_quiet_on|(apply Exists.intro;refine ⟨fun _=>?_,?_⟩;(first|(go_at_call 71;exact Calls.regrown_of (HN.out _))|(go_at_call 72;exact Calls.regrown_of (HK.out _)));go_big_quiet_on)))
   refine wpQuiet_nil ?_
   rintro w3 ⟨p,hw3⟩
   have hb2:Below w1.heap.size w1 w3:=hw3▸below_regrown w1 p.d p.os
   clear hw3
   go_wp2
   go_ret
   exact ⟨ret_bool HR.out.symm,hb.trans (hb2.mono hb.size)⟩
set_option maxHeartbeats 1000000 in
theorem shape_row_calls {w:World}{v u:Value}{l:List (Int×Bool)}{r:List ByteArray}(h:ColsIn w v l)(hr:StrsIn w u r):GivesAt Tryz.prog 35 #[v,u] w (.int .i64 (rowN l r)):=by
 have hm:=h.len
 unfold maxLen at hm
 obtain ⟨hb,hB⟩:=start w
 obtain ⟨A,cap,rfl,hat⟩:=cols_at h
 obtain ⟨A2,cap2,rfl,hat2⟩:=one_at hr
 have HAT:=Lib.hid hat
 have HAT2:=Lib.hid hat2
 clear h hat hr hat2
 unfold GivesAt
 by_cases hl:r.length=l.length
 ·have HL:=Lib.hid hl
  have d1:((r.length:Int)==(l.length:Int))=true:=by rw [beq_iff_eq];omega
  have hle:l.length≤r.length:=by omega
  go_enter Tryz.func35,Tryz.ntmps35
  rw [hl] at d1 ⊢
  clear hl
  go_wp2
  go_loopw [14] (fun i wr=>∃ k:Nat,k≤l.length∧i=.int .i64 k∧Hid (((l.take k).zip (r.take k)).all (fun p=>fitsC p.1 p.2)=true)∧Below w.heap.size w wr) (fun i _=>l.length-(intOf i).toNat)
  case atStart=>exact ⟨0,Nat.zero_le _,rfl,rfl,hb⟩
  case round =>
   clear hb hB
   obtain ⟨k,hk,rfl,HS,hb⟩:=hrel
   have hB:=hb.size
   by_cases hlt:k < l.length
   ·have hlt2:k < r.length:=by omega
    obtain ⟨b,off,rfl,hbl,hc⟩:=HAT.out k hlt
    obtain ⟨b2,off2,rfl,hbl2,hc2⟩:=HAT2.out k hlt2
    have hx1:=(hb.cell (p:=⟨b,off+k*2,none⟩) hbl).trans (hc k hlt).1
    have hx2:=(hb.cell (p:=⟨b,off+k*2+1,none⟩) hbl).trans (hc k hlt).2
    have hx3:=(hb.cell (p:=⟨b2,off2+k,none⟩) hbl2).trans (hc2 k hlt2)
    have HZ:=Lib.hid (zip_take l r k hlt hlt2)
    have HNO:=Lib.hid (fitsL_no k hlt hlt2)
    clear hc hc2
    generalize l[k]=c at *
    generalize r[k]=s at *
    obtain ⟨kd,nl⟩:=c
    have HN:=Lib.hid (shape_fits_calls (kd,nl) s)
    have hcb:=(below_alloc hb hB (.cells #[.int .u8 kd,.bool nl] 58)).1
    have hc0:(wr.alloc (.cells #[.int .u8 kd,.bool nl] 58)).cell? ⟨wr.heap.size,0,none⟩=some (.int .u8 kd):=by simp [go_sem]
    have hc1:(wr.alloc (.cells #[.int .u8 kd,.bool nl] 58)).cell? ⟨wr.heap.size,1,none⟩=some (.bool nl):=by simp [go_sem]
    have hc2:(wr.alloc (.cells #[.int .u8 kd,.bool nl] 58)).cell? ⟨b2,off2+k,none⟩=some (.string s):=cell_kept hx3 ((Below.refl _ wr).alloc (Nat.le_refl _) _)
    cases hi:fitsC (kd,nl) s with
    | true =>
     rw [hi] at HN
     have HI:Hid (((l.take (k+1)).zip (r.take (k+1))).all (fun p=>fitsC p.1 p.2)=true):=by
      show _=_
      rw [HZ.out,List.all_append,HS.out,List.all_cons,hi];rfl
     clear hi HNO HZ
     go_wp2
     generalize hW:wr.alloc (.cells #[.int .u8 kd,.bool nl] 58)=w1 at *
     clear hW hb hB hx1 hx2 hx3
     have hb:=hcb
     clear hcb
     have a0:=fun d os=>cell_regrown hc0 d os
     have a1:=fun d os=>cell_regrown hc1 d os
     have a2:=fun d os=>cell_regrown hc2 d os
     clear hc0 hc1 hc2
     refine wp_region_quiet_below (by kernel_rfl) (by kernel_rfl) ?_
     repeat (first|go_big_quiet_skip|(go_big_quiet_want;go_big_quiet_op;first|go_big_quiet_on|(apply Exists.intro;refine ⟨fun _=>?_,?_⟩;(first|(go_at_call 52;exact Calls.regrown_of (HN.out _)));go_big_quiet_on)))
     refine wpQuiet_nil ?_
     rintro w3 ⟨p,hw3⟩
     have hb2:Below w1.heap.size w1 w3:=hw3▸below_regrown w1 p.d p.os
     clear hw3 a0 a1 a2
     replace hb:=hb.trans (hb2.mono hb.size)
     clear hb2
     go_wp2
     go_roundw
     case rel=>exact ⟨k+1,by omega,by go_num,HI,hb⟩
     case measure=>simp [intOf];omega
    | false =>
     rw [hi] at HN
     have HI:Hid (rowN l r=5):=by
      show _=_
      unfold rowN
      rw [if_pos HL.out,HNO.out hi];rfl
     clear hi HNO HZ
     go_wp2
     generalize hW:wr.alloc (.cells #[.int .u8 kd,.bool nl] 58)=w1 at *
     clear hW hb hB hx1 hx2 hx3
     have hb:=hcb
     clear hcb
     have a0:=fun d os=>cell_regrown hc0 d os
     have a1:=fun d os=>cell_regrown hc1 d os
     have a2:=fun d os=>cell_regrown hc2 d os
     clear hc0 hc1 hc2
     refine wp_region_quiet_below (by kernel_rfl) (by kernel_rfl) ?_
     repeat (first|go_big_quiet_skip|(go_big_quiet_want;go_big_quiet_op;first|go_big_quiet_on|(apply Exists.intro;refine ⟨fun _=>?_,?_⟩;(first|(go_at_call 52;exact Calls.regrown_of (HN.out _)));go_big_quiet_on)))
     refine wpQuiet_nil ?_
     rintro w3 ⟨p,hw3⟩
     have hb2:Below w1.heap.size w1 w3:=hw3▸below_regrown w1 p.d p.os
     clear hw3 a0 a1 a2
     replace hb:=hb.trans (hb2.mono hb.size)
     clear hb2
     go_wp2
     go_ret
     exact ⟨ret_int HI.out.symm,hb⟩
   ·obtain rfl:k=l.length:=by omega
    have HI:Hid (rowN l r=0):=by
     show _=_
     have:=HS.out
     rw [List.take_length,List.take_of_length_le (by have:=HL.out;omega)] at this
     unfold rowN fitsL
     rw [if_pos HL.out,this];rfl
    go_wp2
    go_ret
    exact ⟨ret_int HI.out.symm,hb⟩
 ·have d1:((r.length:Int)==(l.length:Int))=false:=by rw [beq_eq_false_iff_ne];omega
  have HD:=Lib.hid (show rowN l r=1 from if_neg hl)
  go_enter Tryz.func35,Tryz.ntmps35
  go_wp2
  go_ret
  exact ⟨ret_int HD.out.symm,hb⟩
end Go.Proofs.YtafmbnafibahkaaGreat
