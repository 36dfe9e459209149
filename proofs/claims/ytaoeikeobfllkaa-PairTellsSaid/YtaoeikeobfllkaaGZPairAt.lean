/- The contracts of layer 19's at and Meets. -/
import Derived.Test.YtaoeikeobfllkaaGStrs
import Derived.Test.YtaoeikeobfllkaaGZPairOn
namespace Go.Proofs.Ytaoeikeobfllkaa
open Go Go.RowKit
theorem atF_in {a:List ByteArray}{c:Int}(h0:¬c < 0)(h:c < (a.length:Int)):∃ (k:Nat)(hk:k < a.length),c=k∧atF a c=a[k]:=by
 refine ⟨c.toNat,by omega,by omega,?_⟩
 unfold atF
 rw [if_pos ⟨by omega,h⟩]
 rw [List.getD_eq_getElem?_getD,List.getElem?_eq_getElem (by omega)]
 rfl
theorem atF_out {a:List ByteArray}{c:Int}(h:c < 0∨(a.length:Int)≤c):atF a c=⟨#[]⟩:=by
 unfold atF
 rw [if_neg (by omega)]
set_option maxHeartbeats 1000000 in
theorem pat_calls {w:World}{v:Value}{row:List ByteArray}(c:Int)(h:StrsIn w v row):GivesAt Try.prog 18 #[v,.int .i64 c] w (.string (atF row c)):=by
 obtain ⟨hb,hB⟩:=start w
 obtain ⟨A,cap,rfl,hat⟩:=one_at h
 by_cases h0:c < 0
 ·have d1:decide (c < 0)=true:=decide_eq_true h0
  have HE:=Lib.hid (atF_out (a:=row) (.inl h0))
  clear h hat
  unfold GivesAt
  go_enter Try.func18,Try.ntmps18
  go_wp2
  go_ret
  exact ⟨ret_str HE.out.symm,hb⟩
 ·have d1:decide (c < 0)=false:=decide_eq_false h0
  by_cases h1:c < (row.length:Int)
  ·have d2:decide ((row.length:Int)≤c)=false:=by rw [decide_eq_false_iff_not];omega
   obtain ⟨k,hk,rfl,he⟩:=atF_in h0 h1
   have HE:=Lib.hid he
   obtain ⟨b,off,rfl,hbl,hc⟩:=hat k hk
   have hx:=hc k hk
   clear h hat hc he
   generalize row[k]=s at *
   unfold GivesAt
   go_enter Try.func18,Try.ntmps18
   go_wp2
   go_ret
   exact ⟨ret_str HE.out.symm,hb⟩
  ·have d2:decide ((row.length:Int)≤c)=true:=by rw [decide_eq_true_eq];omega
   have HE:=Lib.hid (atF_out (a:=row) (c:=c) (.inr (by omega)))
   clear h hat
   unfold GivesAt
   go_enter Try.func18,Try.ntmps18
   go_wp2
   go_ret
   exact ⟨ret_str HE.out.symm,hb⟩
theorem box_cell (w:World)(T:TypeId)(cs:Array Value)(j:Nat)(u:Value)(h:cs[j]? = some u):(w.alloc (.cells cs T)).cell? ⟨w.heap.size,j,none⟩=some u:=by
 unfold World.cell?
 rw [(MapKept.heap_alloc w _).1]
 exact h
theorem text_some {s:ByteArray}(h:s≠⟨#[]⟩):s.toList.isEmpty=false:=by
 cases e:s.toList.isEmpty with
 | false=>rfl
 | true =>
  refine absurd (bytes_ext ?_) h
  have:s.toList=[]:=List.isEmpty_iff.1 e
  rw [ByteArray.toList_eq] at this
  rw [this]
theorem meets_take (a b:List ByteArray)(on:List Cl)(k:Nat)(h:k < on.length):meetsB a b (on.take (k+1))=(meetsB a b (on.take k)&&meet1 a b on[k]):=by
 rw [List.take_add_one,List.getElem?_eq_getElem h,Option.toList_some,meets_append]
 congr 1
 simp [meetsB]
theorem meets_not {a b:List ByteArray}{on:List Cl}{c:Cl}(hc:c∈on)(h:meet1 a b c=false):meetsB a b on=false:=by
 unfold meetsB
 rw [List.all_eq_false]
 exact ⟨c,hc,by rw [h];decide⟩
theorem meet1_eq (a b:List ByteArray)(c:Cl):meet1 a b c=(decide (atF a c.1≠⟨#[]⟩)&&decide (atF a c.1=atF b c.2)):=rfl
set_option maxHeartbeats 1000000 in
set_option maxRecDepth 100000 in
theorem pmeets_calls {w:World}{va vb vo:Value}{a b:List ByteArray}{on:List Cl}(ha:StrsIn w va a)(hb':StrsIn w vb b)(ho:OnIn w vo on):GivesAt Try.prog 9 #[va,vb,vo] w (.bool (meetsB a b on)):=by
 obtain ⟨hb,hB⟩:=start w
 obtain ⟨Ao,co,rfl,_,hato⟩:=on_at ho
 obtain ⟨Aa,ca,rfl,_⟩:=one_at ha
 obtain ⟨Ab,cb,rfl,_⟩:=one_at hb'
 have HA:=Lib.hid ha
 have HBB:=Lib.hid hb'
 have HAT:=Lib.hid hato
 have HON:=Lib.hid ho.len
 clear ha hb' ho hato
 unfold GivesAt
 go_enter Try.func9,Try.ntmps9
 go_wp2
 go_loopw [12] (fun i wr=>∃ k:Nat,k≤on.length∧i=.int .i64 k∧Hid (meetsB a b (on.take k)=true)∧Hid (Below w.heap.size w wr)) (fun i _=>on.length-(intOf i).toNat)
 case atStart=>exact ⟨0,Nat.zero_le _,rfl,Lib.hid rfl,Lib.hid hb⟩
 case round =>
  clear hb hB
  obtain ⟨k,hk,rfl,HM,HB⟩:=hrel
  by_cases hlt:k < on.length
  ·obtain ⟨bo,off,rfl,hbl,hc⟩:=HAT.out k hlt
   obtain ⟨c1,c2⟩:=hc k hlt
   have x1:=(HB.out.cell (p:=⟨bo,off+k*2,none⟩) hbl).trans c1
   have x2:=(HB.out.cell (p:=⟨bo,off+k*2+1,none⟩) hbl).trans c2
   have HT:=Lib.hid (meets_take a b on k hlt)
   rw [HM.out,Bool.true_and] at HT
   have HN:=Lib.hid (fun h=>meets_not (a:=a) (b:=b) (List.getElem_mem hlt) h)
   have HLK:Hid (k < on.length):=hlt
   have i1:(k:Int) < (on.length:Int):=by omega
   clear hc c1 c2
   generalize on[k]=cc at *
   obtain ⟨c0,c1⟩:=cc
   dsimp only at *
   rw [meet1_eq] at HT HN
   dsimp only at HT HN
   have HC1:=Lib.hid (fun W (hW:Below w.heap.size w W)=>pat_calls c0 (StrsIn.kept HA.out hW))
   have HC2:=Lib.hid (fun W (hW:Below w.heap.size w W)=>pat_calls c1 (StrsIn.kept HBB.out hW))
   generalize atF a c0=s at *
   generalize atF b c1=t at *
   have hbx:=Lib.hid (HB.out.alloc HB.out.size (.cells #[.int .i64 c0,.int .i64 c1] 33))
   have y1:=Lib.hid (box_cell wr 33 #[.int .i64 c0,.int .i64 c1] 1 _ rfl)
   have hc:=HC1.out _ hbx.out
   clear HC1
   go_wp2_with fail
   refine hc.mono ?_
   rintro e w2 ⟨rfl,hq⟩
   have hb2:=Lib.hid (hbx.out.trans (hq.mono hbx.out.size))
   have z1:=cell_kept y1.out hq
   have hc:=HC2.out _ hb2.out
   clear HC2 hbx y1 hq x1 x2 HB
   by_cases he:s=⟨#[]⟩
   ·have d1:decide (s=⟨#[]⟩)=true:=decide_eq_true he
    have HF:=Lib.hid (HN.out (by rw [decide_eq_false (by simp [he])];rfl))
    clear hc HT HN
    subst he
    go_wp2
    go_ret
    exact ⟨ret_bool HF.out.symm,hb2.out⟩
   ·have HD:Hid (decide (s≠⟨#[]⟩)=true):=decide_eq_true he
    rw [HD.out,Bool.true_and] at HT HN
    have e0:=text_some he
    go_wp2_with fail
    refine hc.mono ?_
    rintro e w3 ⟨rfl,hq⟩
    have hb3:=Lib.hid (hb2.out.trans (hq.mono hb2.out.size))
    clear hc hq z1 HD he
    rcases str_ne_cases s t with ⟨he,e2,-⟩ | ⟨he,e2,-⟩
    ·have HX:=Lib.hid (HT.out.trans (decide_eq_true he))
     clear he HT HN
     have hml:=HON.out
     unfold maxLen at hml
     go_wp2
     go_roundw
     case rel=>exact ⟨k+1,HLK.out,by go_num,HX,hb3⟩
     case measure=>have:=HLK.out;simp [intOf];omega
    ·have HF:=Lib.hid (HN.out (decide_eq_false he))
     clear he HT HN
     go_wp2
     go_ret
     exact ⟨ret_bool HF.out.symm,hb3.out⟩
  ·obtain rfl:k=on.length:=by omega
   rw [List.take_length] at HM
   go_wp2
   go_ret
   exact ⟨ret_bool HM.out.symm,HB.out⟩
end Go.Proofs.Ytaoeikeobfllkaa
