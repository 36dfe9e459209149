/- The contracts of the answer's Fits and Row of layer 9. -/
import Derived.Test.YtegpikfgajoopaaGCell
import Derived.Test.YtegpikfgajoopaaGStrs
import Derived.Lib.QuietBelow
namespace Go.Proofs.Ytegpikfgajoopaa
open Go Go.RowKit
def colV (c:Int×Bool):List Value:=[.int .u8 c.1,.bool c.2]
def colsV (l:List (Int×Bool)):List Value:=l.flatMap colV
def colA (c:Int×Bool):Value:=.agg #[.int .u8 c.1,.bool c.2]
def ColsIn (w:World)(v:Value)(l:List (Int×Bool)):Prop:=SliceOf w 2 v l.length (colsV l)
theorem colsV_length (l:List (Int×Bool)):(colsV l).length=l.length*2:=by
 induction l with
 | nil=>rfl
 | cons c l ih=>unfold colsV at *;rw [List.flatMap_cons,List.length_append,ih,List.length_cons];show 2+_=_;omega
theorem colsV_get:∀ (l:List (Int×Bool))(j:Nat)(h:j < l.length),(colsV l)[j*2]? = some (.int .u8 l[j].1)∧(colsV l)[j*2+1]? = some (.bool l[j].2)
 | [],j,h=>absurd h (by simp)
 | c::l,0,_=>⟨rfl,rfl⟩
 | c::l,j+1,h=>by
  have:=colsV_get l j (by simpa using h)
  have e1:(j+1)*2=j*2+2:=by omega
  rw [e1]
  exact this
theorem ColsIn.kept {w w':World}{v:Value}{l:List (Int×Bool)}(h:ColsIn w v l)(hb:Below w.heap.size w w'):ColsIn w' v l:=SliceOf.later h hb
theorem ColsIn.len {w:World}{v:Value}{l:List (Int×Bool)}(h:ColsIn w v l):l.length≤maxLen:=h.2.1
theorem cols_at {w:World}{v:Value}{l:List (Int×Bool)}(h:ColsIn w v l):∃ A cap,v=.slice A l.length cap ∧
  (∀ k,k < l.length→∃ b off,A=some ⟨b,off,none⟩∧b < w.heap.size∧∀ j (hj:j < l.length),w.cell? ⟨b,off+j*2,none⟩=some (.int .u8 l[j].1)∧w.cell? ⟨b,off+j*2+1,none⟩=some (.bool l[j].2)):=by
 obtain ⟨_,_,A,cap,e,_,h4⟩:=h
 refine ⟨A,cap,e,fun k hk=>?_⟩
 obtain ⟨b,off,ea,hb,hc⟩:=h4 (by omega)
 exact ⟨b,off,ea,hb,fun j hj=>⟨hc _ _ (colsV_get l j hj).1,hc _ _ (colsV_get l j hj).2⟩⟩
theorem lit_cols (w:World)(T:TypeId)(l:List (Int×Bool))(h:l.length≤1000):ColsIn (w.alloc (.cells (colsV l).toArray T)) (.slice (some ⟨w.heap.size,0,none⟩) l.length l.length) l :=
 (Own.lit (B:=0) (size:=2) w (colsV l).toArray T l.length (Nat.zero_le _) (by unfold maxLen;omega) (by simp [colsV_length])).slice
theorem nil_cols (w:World)(A:Option Addr)(cap:Nat):ColsIn w (.slice A 0 cap) []:=SliceOf.nil_ _ _ _ _
def kindB (k:Int):Bool:=k==98||k==105||k==116
def rightC (l:List (Int×Bool)):Bool:=decide (0 < l.length)&&decide (l.length≤6)&&l.all fun c=>kindB c.1
def fitsC (c:Int×Bool)(s:ByteArray):Bool:=if s.toList.isEmpty then c.2 else rightB s&&(kindI s==c.1)
def fitsL (l:List (Int×Bool))(r:List ByteArray):Bool:=(l.zip r).all fun p=>fitsC p.1 p.2
def rowN (l:List (Int×Bool))(r:List ByteArray):Int:=if r.length=l.length then (if fitsL l r then 0 else 5) else 1
theorem rightC_no {l:List (Int×Bool)}{c:Int×Bool}(hc:c∈l)(h:kindB c.1=false):rightC l=false:=by
 have:(l.all fun c=>kindB c.1)=false:=by
  cases ha:l.all fun c=>kindB c.1 with
  | false=>rfl
  | true=>rw [List.all_eq_true] at ha;rw [ha c hc] at h;exact absurd h (by decide)
 unfold rightC
 rw [this,Bool.and_false]
theorem rightC_yes {l:List (Int×Bool)}(h0:0 < l.length)(h1:l.length≤6)(h:∀ c∈l,kindB c.1=true):rightC l=true:=by
 unfold rightC
 rw [decide_eq_true h0,decide_eq_true h1,List.all_eq_true.2 h];rfl
theorem zip_take (l:List (Int×Bool))(r:List ByteArray)(k:Nat)(h1:k < l.length)(h2:k < r.length):(l.take (k+1)).zip (r.take (k+1))=(l.take k).zip (r.take k)++[(l[k],r[k])]:=by
 rw [take_add l k h1,take_add r k h2,List.zip_append (by rw [List.length_take,List.length_take];omega)];rfl
theorem fitsL_no {l:List (Int×Bool)}{r:List ByteArray}(k:Nat)(h1:k < l.length)(h2:k < r.length)(h:fitsC l[k] r[k]=false):fitsL l r=false:=by
 cases ha:fitsL l r with
 | false=>rfl
 | true =>
  unfold fitsL at ha
  rw [List.all_eq_true] at ha
  have hm:(l[k],r[k])∈l.zip r:=by
   refine List.mem_iff_getElem.2 ⟨k,by rw [List.length_zip];omega,?_⟩
   rw [List.getElem_zip]
  rw [ha _ hm] at h
  exact absurd h (by decide)
set_option maxHeartbeats 2000000 in
theorem ref_fits_calls (c:Int×Bool)(s:ByteArray):Gives Try.prog 28 #[colA c,.string s] (.bool (fitsC c s)):=by
 obtain ⟨kd,nl⟩:=c
 intro w
 obtain ⟨hb,hB⟩:=start w
 unfold colA
 have hc0:(w.alloc (.cells #[.int .u8 kd,.bool nl] 45)).cell? ⟨w.heap.size,0,none⟩=some (.int .u8 kd):=by simp [go_sem]
 have hc1:(w.alloc (.cells #[.int .u8 kd,.bool nl] 45)).cell? ⟨w.heap.size,1,none⟩=some (.bool nl):=by simp [go_sem]
 have hb1:Below w.heap.size w (w.alloc (.cells #[.int .u8 kd,.bool nl] 45)):=(below_alloc hb hB _).1
 have HN:=Lib.hid (ref_right_calls s)
 have HK:=Lib.hid (ref_kind_calls s)
 dsimp only
 cases he:s.toList.isEmpty with
 | true =>
  have HR:=Lib.hid (show fitsC (kd,nl) s=nl by unfold fitsC;rw [he];rfl)
  have g1:(s.toList==[])=true:=by rw [beq_iff_eq];exact List.isEmpty_iff.1 he
  have g2:(s.toList != [])=false:=by simp [List.isEmpty_iff.1 he]
  have hr:rightB s=true:=by unfold rightB;rw [he];rfl
  rw [hr] at HN
  clear hr
  generalize kindI s=kk at *
  cases nl with
  | true =>
   go_enter Try.func28,Try.ntmps28
   go_wp2
   generalize hW:w.alloc (.cells #[.int .u8 kd,.bool true] 45)=w1 at *
   clear hW hb hB
   have hb:=hb1
   clear hb1
   have a0:=fun d os=>cell_regrown hc0 d os
   have a1:=fun d os=>cell_regrown hc1 d os
   refine wp_region_quiet_below (by kernel_rfl) (by kernel_rfl) ?_
   repeat (first|go_big_quiet_skip|(go_big_quiet_want;go_big_quiet_op;first|go_big_quiet_on|(apply Exists.intro;refine ⟨fun _=>?_,?_⟩;(first|(go_at_call 38;exact Calls.regrown_of (HN.out _))|(go_at_call 39;exact Calls.regrown_of (HK.out _)));go_big_quiet_on)))
   refine wpQuiet_nil ?_
   rintro w3 ⟨p,hw3⟩
   have hb2:Below w1.heap.size w1 w3:=hw3▸below_regrown w1 p.d p.os
   clear hw3
   clear a0 a1
   go_wp2
   go_ret
   exact ⟨ret_bool HR.out.symm,hb.trans (hb2.mono hb.size)⟩
  | false =>
   go_enter Try.func28,Try.ntmps28
   go_wp2
   generalize hW:w.alloc (.cells #[.int .u8 kd,.bool false] 45)=w1 at *
   clear hW hb hB
   have hb:=hb1
   clear hb1
   have a0:=fun d os=>cell_regrown hc0 d os
   have a1:=fun d os=>cell_regrown hc1 d os
   refine wp_region_quiet_below (by kernel_rfl) (by kernel_rfl) ?_
   repeat (first|go_big_quiet_skip|(go_big_quiet_want;go_big_quiet_op;first|go_big_quiet_on|(apply Exists.intro;refine ⟨fun _=>?_,?_⟩;(first|(go_at_call 38;exact Calls.regrown_of (HN.out _))|(go_at_call 39;exact Calls.regrown_of (HK.out _)));go_big_quiet_on)))
   refine wpQuiet_nil ?_
   rintro w3 ⟨p,hw3⟩
   have hb2:Below w1.heap.size w1 w3:=hw3▸below_regrown w1 p.d p.os
   clear hw3
   clear a0 a1
   go_wp2
   go_ret
   exact ⟨ret_bool HR.out.symm,hb.trans (hb2.mono hb.size)⟩
 | false =>
  have HR:=Lib.hid (show fitsC (kd,nl) s=(rightB s&&(kindI s==kd)) by unfold fitsC;rw [he];rfl)
  have g1:(s.toList==[])=false:=by rw [beq_eq_false_iff_ne];intro e;rw [e] at he;exact absurd he (by decide)
  have g2:(s.toList != [])=true:=by rw [bne_iff_ne];intro e;rw [e] at he;exact absurd he (by decide)
  cases hr:rightB s with
  | true =>
   rw [hr] at HN HR
   rw [Bool.true_and] at HR
   clear hr
   generalize kindI s=kk at *
   go_enter Try.func28,Try.ntmps28
   go_wp2
   generalize hW:w.alloc (.cells #[.int .u8 kd,.bool nl] 45)=w1 at *
   clear hW hb hB
   have hb:=hb1
   clear hb1
   have a0:=fun d os=>cell_regrown hc0 d os
   have a1:=fun d os=>cell_regrown hc1 d os
   refine wp_region_quiet_below (by kernel_rfl) (by kernel_rfl) ?_
   repeat (first|go_big_quiet_skip|(go_big_quiet_want;go_big_quiet_op;first|go_big_quiet_on|(apply Exists.intro;refine ⟨fun _=>?_,?_⟩;(first|(go_at_call 38;exact Calls.regrown_of (HN.out _))|(go_at_call 39;exact Calls.regrown_of (HK.out _)));go_big_quiet_on)))
   refine wpQuiet_nil ?_
   rintro w3 ⟨p,hw3⟩
   have hb2:Below w1.heap.size w1 w3:=hw3▸below_regrown w1 p.d p.os
   clear hw3
   clear a0 a1
   go_wp2
   go_ret
   exact ⟨ret_bool HR.out.symm,hb.trans (hb2.mono hb.size)⟩
  | false =>
   rw [hr] at HN HR
   rw [Bool.false_and] at HR
   clear hr
   generalize kindI s=kk at *
   go_enter Try.func28,Try.ntmps28
   go_wp2
   generalize hW:w.alloc (.cells #[.int .u8 kd,.bool nl] 45)=w1 at *
   clear hW hb hB
   have hb:=hb1
   clear hb1
   have a0:=fun d os=>cell_regrown hc0 d os
   have a1:=fun d os=>cell_regrown hc1 d os
   refine wp_region_quiet_below (by kernel_rfl) (by kernel_rfl) ?_
   repeat (first|go_big_quiet_skip|(go_big_quiet_want;go_big_quiet_op;first|go_big_quiet_on|(apply Exists.intro;refine ⟨fun _=>?_,?_⟩;(first|(go_at_call 38;exact Calls.regrown_of (HN.out _))|(go_at_call 39;exact Calls.regrown_of (HK.out _)));go_big_quiet_on)))
   refine wpQuiet_nil ?_
   rintro w3 ⟨p,hw3⟩
   have hb2:Below w1.heap.size w1 w3:=hw3▸below_regrown w1 p.d p.os
   clear hw3
   clear a0 a1
   go_wp2
   go_ret
   exact ⟨ret_bool HR.out.symm,hb.trans (hb2.mono hb.size)⟩
set_option maxHeartbeats 1000000 in
theorem ref_row_calls {w:World}{v u:Value}{l:List (Int×Bool)}{r:List ByteArray}(h:ColsIn w v l)(hr:StrsIn w u r):GivesAt Try.prog 14 #[v,u] w (.int .i64 (rowN l r)):=by
 have hm:=h.len
 unfold maxLen at hm
 obtain ⟨hb,hB⟩:=start w
 obtain ⟨A,cap,rfl,hat⟩:=cols_at h
 obtain ⟨A2,cap2,rfl,hat2⟩:=one_at hr
 have HAT:=Lib.hid hat
 have HAT2:=Lib.hid hat2
 clear h hat hr hat2
 unfold GivesAt
 by_cases hl:r.length=l.length
 ·have HL:=Lib.hid hl
  have d1:((r.length:Int) != (l.length:Int))=false:=by simp [hl]
  have hle:l.length≤r.length:=by omega
  go_enter Try.func14,Try.ntmps14
  rw [hl] at d1 ⊢
  clear hl
  go_wp2
  go_loopw [5] (fun i wr=>∃ k:Nat,k≤l.length∧i=.int .i64 k∧Hid (((l.take k).zip (r.take k)).all (fun p=>fitsC p.1 p.2)=true)∧Below w.heap.size w wr) (fun i _=>l.length-(intOf i).toNat)
  case atStart=>exact ⟨0,Nat.zero_le _,rfl,rfl,hb⟩
  case round =>
   clear hb hB
   obtain ⟨k,hk,rfl,HS,hb⟩:=hrel
   have hB:=hb.size
   by_cases hlt:k < l.length
   ·have hlt2:k < r.length:=by omega
    obtain ⟨b,off,rfl,hbl,hc⟩:=HAT.out k hlt
    obtain ⟨b2,off2,rfl,hbl2,hc2⟩:=HAT2.out k hlt2
    have hx1:=(hb.cell (p:=⟨b,off+k*2,none⟩) hbl).trans (hc k hlt).1
    have hx2:=(hb.cell (p:=⟨b,off+k*2+1,none⟩) hbl).trans (hc k hlt).2
    have hx3:=(hb.cell (p:=⟨b2,off2+k,none⟩) hbl2).trans (hc2 k hlt2)
    have HZ:=Lib.hid (zip_take l r k hlt hlt2)
    have HNO:=Lib.hid (fitsL_no k hlt hlt2)
    clear hc hc2
    generalize l[k]=c at *
    generalize r[k]=s at *
    obtain ⟨kd,nl⟩:=c
    have HN:=Lib.hid (ref_fits_calls (kd,nl) s)
    have i0:(0:Int)≤(k:Int):=by omega
    have i1:(k:Int) < (l.length:Int):=by omega
    unfold colA at HN
    cases hi:fitsC (kd,nl) s with
    | true =>
     rw [hi] at HN
     have HI:Hid (((l.take (k+1)).zip (r.take (k+1))).all (fun p=>fitsC p.1 p.2)=true):=by
      show _=_
      rw [HZ.out,List.all_append,HS.out,List.all_cons,hi];rfl
     clear hi HNO HZ
     have a0:=fun d os=>cell_regrown hx1 d os
     have a1:=fun d os=>cell_regrown hx2 d os
     have a2:=fun d os=>cell_regrown hx3 d os
     go_wp2
     clear hx1 hx2 hx3
     refine wp_region_quiet_below (by kernel_rfl) (by kernel_rfl) ?_
     repeat (first|go_big_quiet_skip|(go_big_quiet_want;go_big_quiet_op;first|go_big_quiet_on|(apply Exists.intro;refine ⟨fun _=>?_,?_⟩;(first|(go_at_call 28;exact Calls.regrown_of (HN.out _)));go_big_quiet_on)))
     refine wpQuiet_nil ?_
     rintro w3 ⟨p,hw3⟩
     have hb2:Below wr.heap.size wr w3:=hw3▸below_regrown wr p.d p.os
     clear hw3 a0 a1 a2
     replace hb:=hb.trans (hb2.mono hb.size)
     clear hb2
     go_wp2
     go_roundw
     case rel=>exact ⟨k+1,by omega,by go_num,HI,hb⟩
     case measure=>simp [intOf];omega
    | false =>
     rw [hi] at HN
     have HI:Hid (rowN l r=5):=by
      show _=_
      unfold rowN
      rw [if_pos HL.out,HNO.out hi];rfl
     clear hi HNO HZ
     have a0:=fun d os=>cell_regrown hx1 d os
     have a1:=fun d os=>cell_regrown hx2 d os
     have a2:=fun d os=>cell_regrown hx3 d os
     go_wp2
     clear hx1 hx2 hx3
     refine wp_region_quiet_below (by kernel_rfl) (by kernel_rfl) ?_
     repeat (first|go_big_quiet_skip|(go_big_quiet_want;go_big_quiet_op;first|go_big_quiet_on|(apply Exists.intro;refine ⟨fun _=>?_,?_⟩;(first|(go_at_call 28;exact Calls.regrown_of (HN.out _)));go_big_quiet_on)))
     refine wpQuiet_nil ?_
     rintro w3 ⟨p,hw3⟩
     have hb2:Below wr.heap.size wr w3:=hw3▸below_regrown wr p.d p.os
     clear hw3 a0 a1 a2
     replace hb:=hb.trans (hb2.mono hb.size)
     clear hb2
     go_wp2
     go_ret
     exact ⟨ret_int HI.out.symm,hb⟩
   ·obtain rfl:k=l.length:=by omega
    have HI:Hid (rowN l r=0):=by
     show _=_
     have:=HS.out
     rw [List.take_length,List.take_of_length_le (by have:=HL.out;omega)] at this
     unfold rowN fitsL
     rw [if_pos HL.out,this];rfl
    go_wp2
    go_ret
    exact ⟨ret_int HI.out.symm,hb⟩
 ·have d1:((r.length:Int)==(l.length:Int))=false:=by rw [beq_eq_false_iff_ne];omega
  have HD:=Lib.hid (show rowN l r=1 from if_neg hl)
  go_enter Try.func14,Try.ntmps14
  go_wp2
  go_ret
  exact ⟨ret_int HD.out.symm,hb⟩
end Go.Proofs.Ytegpikfgajoopaa
