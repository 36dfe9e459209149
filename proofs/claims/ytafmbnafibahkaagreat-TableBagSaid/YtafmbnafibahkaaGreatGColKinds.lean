/- How many bytes cells take, in each way; no program. -/
import Derived.Test.YtafmbnafibahkaaGreatGCell
import Derived.Test.YtafmbnafibahkaaGreatGStrs
import Derived.Test.YtafmbnafibahkaaGreatGSteps
import Derived.Test.YtafmbnafibahkaaGreatGCol
import Derived.Test.YtafmbnafibahkaaGreatGGapsRef
import Derived.Test.YtafmbnafibahkaaGreatGRunsPrint
namespace Go.Proofs.YtafmbnafibahkaaGreat
open Go Go.RowKit
def fitsB (c:ByteArray)(kind:Int)(null:Bool):Bool:=if c=⟨#[]⟩ then null else rightB c&&(kindI c==kind)
def kindL (l:List ByteArray)(kind:Int)(null:Bool):Bool:=l.all fun c=>fitsB c kind null
set_option maxHeartbeats 400000 in
theorem fits_calls (c:ByteArray)(kind:Int)(null:Bool):Gives Tryz.prog 173 #[.string c,.int .u8 kind,.bool null] (.bool (fitsB c kind null)):=by
 intro w
 obtain ⟨hb,hB⟩:=start w
 have HR:=Lib.hid (right_calls c)
 have HK:=Lib.hid (kind_calls c)
 by_cases he:c=⟨#[]⟩
 ·have HF:Hid (fitsB c kind null=null):=if_pos he
  have h1:c.toList.isEmpty=true:=by rw [he,empty_toList];rfl
  clear he
  go_enter Tryz.func173,Tryz.ntmps173
  go_wp2
  go_ret
  exact ⟨ret_bool HF.out.symm,hb⟩
 ·have HF:Hid (fitsB c kind null=(rightB c&&(kindI c==kind))):=if_neg he
  have h1:c.toList.isEmpty=false:=by
   rw [ByteArray.toList_eq]
   cases hd:c.data.toList with
   | nil=>exact absurd (bytes_ext hd) he
   | cons x l=>rfl
  clear he
  generalize rightB c=r at *
  generalize kindI c=k at *
  cases r with
  | true =>
   go_enter Tryz.func173,Tryz.ntmps173
   go_wp2_with (first|(go_at_call 71;refine HR.out.step (w0:=w) (B:=w.heap.size) hb hB ?_;clear hb hB;intro w1 hb hB)|(go_at_call 72;refine HK.out.step (w0:=w) (B:=w.heap.size) hb hB ?_;clear hb hB;intro w2 hb hB))
   go_ret
   exact ⟨ret_bool (by rw [HF.out,Bool.true_and]),hb⟩
  | false =>
   go_enter Tryz.func173,Tryz.ntmps173
   go_wp2_with (go_at_call 71;refine HR.out.step (w0:=w) (B:=w.heap.size) hb hB ?_;clear hb hB;intro w1 hb hB)
   go_ret
   exact ⟨ret_bool (by rw [HF.out,Bool.false_and]),hb⟩
set_option maxHeartbeats 400000 in
theorem kindL_calls {w:World}{v:Value}{l:List ByteArray}(h:StrsIn w v l)(kind:Int)(null:Bool):GivesAt Tryz.prog 146 #[v,.int .u8 kind,.bool null] w (.bool (kindL l kind null)):=by
 have hm:=h.len
 unfold maxLen at hm
 obtain ⟨hb,hB⟩:=start w
 obtain ⟨A,cap,rfl,hat⟩:=one_at h
 have HAT:=Lib.hid hat
 clear h hat
 unfold GivesAt
 go_enter Tryz.func146,Tryz.ntmps146
 go_wp2
 go_loopw [11] (fun i wr=>∃ k:Nat,k≤l.length∧i=.int .i64 k∧Hid (∀ c∈l.take k,fitsB c kind null=true)∧Below w.heap.size w wr) (fun i _=>l.length-(intOf i).toNat)
 case atStart=>exact ⟨0,Nat.zero_le _,rfl,fun c hc=>absurd hc (by simp),hb⟩
 case round =>
  clear hb hB
  obtain ⟨k,hk,rfl,HS,hb⟩:=hrel
  have hB:=hb.size
  by_cases hlt:k < l.length
  ·obtain ⟨b,off,rfl,hbl,hc⟩:=HAT.out k hlt
   have hx:=(hb.cell (p:=⟨b,off+k,none⟩) hbl).trans (hc k hlt)
   have HT:=Lib.hid (take_add l k hlt)
   have HM:=Lib.hid (List.getElem_mem hlt)
   clear hc
   generalize l[k]=c at *
   have HN:=Lib.hid (fits_calls c kind null)
   cases hi:fitsB c kind null with
   | true =>
    rw [hi] at HN
    have HI:=Lib.hid hi
    clear hi
    go_wp2_with (go_at_call 173;refine HN.out.step (w0:=w) (B:=w.heap.size) hb hB ?_;clear hb hB hx;intro w' hb hB)
    go_roundw
    case rel=>exact ⟨k+1,by omega,by go_num,fun d hd=>by
     rw [HT.out] at hd
     rcases List.mem_append.1 hd with hd|hd
     ·exact HS.out d hd
     ·rw [List.mem_singleton.1 hd];exact HI.out,hb⟩
    case measure=>simp [intOf];omega
   | false =>
    rw [hi] at HN
    have HD:Hid (kindL l kind null=false):=by
     show _=_
     unfold kindL
     rw [List.all_eq_false]
     exact ⟨c,HM.out,by rw [hi];decide⟩
    clear hi
    go_wp2_with (go_at_call 173;refine HN.out.step (w0:=w) (B:=w.heap.size) hb hB ?_;clear hb hB hx;intro w' hb hB)
    go_ret
    exact ⟨ret_bool HD.out.symm,hb⟩
  ·obtain rfl:k=l.length:=by omega
   rw [List.take_length] at HS
   have HD:Hid (kindL l kind null=true):=by show _=_;unfold kindL;rw [List.all_eq_true];exact HS.out
   go_wp2
   go_ret
   exact ⟨ret_bool HD.out.symm,hb⟩
theorem as_size (l:List ByteArray)(hlen:l.length≤4096)(hs:∀ c∈l,c.size≤1000000)(way:Int):(asB l way).size≤10000000000:=by
 unfold asB
 split
 ·rw [mkB_size]
  unfold runsP
  have h1:=runB_size (runsOf l) (fun x hx=>by have:=runsOf_mem l x hx;exact ⟨hs _ this.1,by omega⟩)
  have h2:=runs_le l
  omega
 ·split
  ·unfold dictB
   rw [mkB_size]
   unfold dictP
   have hw:=wordsOf_length l
   have h1:=cells_size (wordsOf l) (fun c hc=>hs c (((wordsOf_spec l).2 c).1 hc))
   have h2:=shelfB_most (placesOf l) (places_range l (by omega))
   have h3:=vp_len_10 (n:=(wordsOf l).length) (by omega)
   have h4:(placesOf l).length=l.length:=by unfold placesOf;exact List.length_map _
   have h5:(shelfP (placesOf l)).length=(shelfB (placesOf l)).size:=by rw [←data_size];rfl
   rw [List.length_append,List.length_append,h5]
   omega
  ·split
   ·unfold stepsG
    split
    ·unfold stepsT
     rw [mkB_size]
     have:=stepsB_size 0 (numsL l)
     rw [numsL_length] at this
     unfold stepsP
     omega
    ·show 0≤_;omega
   ·show 0≤_;omega
theorem fullL_mem {l:List ByteArray}{c:ByteArray}(h:c∈fullL l):c∈l:=(List.mem_filter.1 h).1
end Go.Proofs.YtafmbnafibahkaaGreat
