/- What column's Parse ends in, of bytes that are or are not a column's; how many bytes a column has at most; no program. -/
import Derived.Test.YtafmbnafibahkaaGreatGGaps
import Derived.Test.YtafmbnafibahkaaGreatGStepsRead
import Derived.Test.YtafmbnafibahkaaGreatGCol
import Derived.Test.YtafmbnafibahkaaGreatGColKinds
import Derived.Test.YtafmbnafibahkaaGreatGDictRead
import Derived.Test.YtafmbnafibahkaaGreatGRunsReads
import Derived.Test.YtafmbnafibahkaaGreatGColCalls
namespace Go.Proofs.YtafmbnafibahkaaGreat
open Go Go.RowKit
set_option maxHeartbeats 1000000 in
theorem count_calls {w:World}{v:Value}{is:List Bool}(h:BoolsIn w v is)(hl:is.length≤1000000):Reads Tryz.prog 171 #[v] w (.int .i64 (cnt is)):=by
 obtain ⟨A,cap,rfl,hat⟩:=one_at h
 have HAT:=Lib.hid hat
 clear h hat
 unfold Reads
 go_enter Tryz.func171,Tryz.ntmps171
 go_wp2
 go_loop [3,8] (fun y i=>∃ k m:Nat,k≤is.length∧i=.int .i64 k∧y=.int .i64 m∧m≤1000000∧Hid (cnt (is.take k)=m)) (fun _ i=>is.length-(intOf i).toNat)
 case atStart=>exact ⟨0,0,Nat.zero_le _,rfl,rfl,by omega,rfl⟩
 case round =>
  obtain ⟨k,m,hk,rfl,rfl,hm,HM⟩:=hrel
  by_cases hlt:k < is.length
  ·obtain ⟨b,off,rfl,hbl,hc⟩:=HAT.out k hlt
   have hx:=hc k hlt
   have hle:=cnt_le (is.take (k+1))
   rw [List.length_take] at hle
   have HC:=Lib.hid (cnt_take is k hlt)
   have HLE:=Lib.hid hle
   clear hc hle
   generalize is[k]=x at *
   cases x with
   | true =>
    have HN:Hid (cnt (is.take (k+1))=m+1):=by show _=_;rw [HC.out,HM.out];rfl
    have hm1:m+1≤1000000:=by have h1:=HN.out;have h2:=HLE.out;omega
    go_wp2
    go_round
    case rel=>exact ⟨k+1,m+1,by omega,by go_num,by go_num,hm1,HN⟩
    case measure=>simp [intOf];omega
   | false =>
    have HN:Hid (cnt (is.take (k+1))=m):=by show _=_;rw [HC.out,HM.out];rfl
    go_wp2
    go_round
    case rel=>exact ⟨k+1,m,by omega,by go_num,rfl,hm,HN⟩
    case measure=>simp [intOf];omega
  ·obtain rfl:k=is.length:=by omega
   go_wp2
   go_ret
   have h1:=HM.out
   rw [List.take_length] at h1
   exact ⟨by rw [h1];rfl,rfl⟩
def WayEnd (T:TypeId)(w:World)(b:Nat)(s:ByteArray)(bad:Bool)(many:Int)(e:Ending)(w':World):Prop :=
 ∃ v l s' bad',e=.returned v∧StrsIn w' v l∧TapeIn T w' b s' bad'∧w.grownBy w' (some b)∧l.length≤4096∧(∀ c∈l,rightB c=true) ∧
  ((bad'=false∧bad=false∧WayAt s.data.toList many l s'.data.toList)∨(bad'=true∧(bad=true∨¬∃ l r,WayAt s.data.toList many l r)))
theorem WayEnd.bad {T:TypeId}{w w':World}{b:Nat}{s s':ByteArray}{bad:Bool}{many:Int}(hT:TapeIn T w' b s' true)(hg:w.grownBy w' (some b))(h:bad=true∨¬∃ l r,WayAt s.data.toList many l r) :
  WayEnd T w b s bad many (.returned (.slice none 0 0)) w' :=
 ⟨_,[],s',true,rfl,SliceOf.nil_ _ _ _ _,hT,hg,by simp,by simp,.inr ⟨rfl,h⟩⟩
theorem WayEnd.good {T:TypeId}{w w':World}{b:Nat}{s r:ByteArray}{many:Int}{v:Value}{l:List ByteArray}{r2:List UInt8}(hv:StrsIn w' v l)(hT:TapeIn T w' b (mkB r2) false)(hg:w.grownBy w' (some b)){n:Nat}
  (hs:s=printB n++r) (h:ByWay r.data.toList n many l r2):WayEnd T w b s false many (.returned v) w' :=
 ⟨_,l,_,false,rfl,hv,hT,hg,h.facts.2.1,h.facts.2.2,.inl ⟨rfl,rfl,n,r.data.toList,by rw [hs,data_append,print_data],h⟩⟩
theorem way_none {s:ByteArray}{many:Int}(h:(numT s false 2).2.2=true):¬∃ l r,WayAt s.data.toList many l r:=by
 rintro ⟨l,r,n,r1,e,k⟩
 have hn:=k.le
 have hs:s=printB n++mkB r1:=bytes_ext (by rw [data_append,print_data,mkB_data,e])
 rw [hs,numT_print n (by omega) (mkB r1) 2 (by omega)] at h
 exact absurd h (by show ¬false=true;decide)
theorem way_no {s r:ByteArray}{many:Int}{n:Nat}(hn:n≤2)(hs:s=printB n++r)(h:¬∃ l r2,ByWay r.data.toList n many l r2):¬∃ l r,WayAt s.data.toList many l r:=by
 rintro ⟨l,r2,m,r1,e,k⟩
 have hm:=k.le
 rw [hs,data_append,print_data] at e
 obtain ⟨rfl,rfl⟩:=vp_front (by omega) (by omega) e
 exact h ⟨_,_,k⟩
set_option maxHeartbeats 1000000 in
set_option maxRecDepth 100000 in
theorem col_read_calls (b:Nat)(s:ByteArray)(bad:Bool)(many:Int)(hs:s.size≤9223372036854775807)(w:World)(hT:TapeIn 154 w b s bad) :
  Calls Tryz.prog 170 #[.pointer (some ⟨b,0,none⟩),.int .i64 many] w (WayEnd 154 w b s bad many):=by
 have HT:=Lib.hid hT
 have HN:=Lib.hid (tnum_calls b s bad 2)
 have hle:=numT_le s bad 2 (by omega)
 have hsz:=(numT_suf s bad 2).split.2
 cases hq:(numT s bad 2).2.2 with
 | true =>
  have h0:(numT s bad 2).1=0:=by
   rcases Nat.eq_zero_or_pos (numT s bad 2).1 with h|h
   ·exact h
   ·have:=numT_pos (s:=s) (bad:=bad) (m:=2) (by omega)
    rw [hq] at this;exact absurd this (by decide)
  rw [hq,h0] at HN
  have HB:=Lib.hid (runs_read_badtape b (numT s bad 2).2.1 (by omega) many)
  have HE:Hid (bad=true∨¬∃ l r,WayAt s.data.toList many l r):=by
   cases bad with
   | true=>exact .inl rfl
   | false=>exact .inr (way_none hq)
  clear hq h0 hle hsz hT
  generalize (numT s bad 2).2.1=r at *
  go_enter Tryz.func170,Tryz.ntmps170
  go_wp2_with (first|(go_at_call 185;refine HN.out.stepG HT.out (grown_refl w (some b)) ?_;intro w1 hT1 hg1 _)|(go_at_call 186;refine HB.out.stepG hT1 hg1 ?_;intro w2 hT2 hg2 _))
  go_ret
  exact WayEnd.bad hT2 hg2 HE.out
 | false =>
  obtain ⟨rfl,e⟩:=numT_good hq
  rw [hq] at HN
  have HS:=Lib.hid e
  clear hq e hT
  generalize (numT s false 2).2.1=r at *
  generalize (numT s false 2).1=n at *
  have HR0:=Lib.hid (show r.size≤9223372036854775807 by omega)
  clear hsz
  have hgr:=grown_refl w (some b)
  obtain rfl|rfl|rfl:n=0∨n=1∨n=2:=by omega
  all_goals clear hle
  ·go_enter Tryz.func170,Tryz.ntmps170
   go_wp2_with (go_at_call 185;refine HN.out.stepG HT.out hgr ?_;clear hgr;intro w1 hT1 hg1 _)
   by_cases h:∃ l r2,RunsAt r.data.toList many l r2
   ·obtain ⟨l,r2,h⟩:=h
    have HR:=Lib.hid h
    refine (runs_read_some b r HR0.out h w1 hT1).mono ?_
    rintro e w2 ⟨v,rfl,hi,_,hT2,hg2⟩
    clear h
    go_wp2
    go_ret
    exact WayEnd.good hi hT2 (grown_trans hg1 hg2) HS.out (.inl ⟨rfl,HR.out⟩)
   ·refine (runs_read_none b r HR0.out many h w1 hT1).mono ?_
    rintro e w2 ⟨rfl,hT2,hg2⟩
    have HE:Hid (¬∃ l r,WayAt s.data.toList many l r):=way_no (by omega) HS.out (by
     rintro ⟨l,r2,⟨_,k⟩ | ⟨k,_⟩ | ⟨k,_⟩⟩
     ·exact h ⟨l,r2,k⟩
     ·omega
     ·omega)
    clear h
    go_wp2
    go_ret
    exact WayEnd.bad hT2 (grown_trans hg1 hg2) (.inr HE.out)
  ·go_enter Tryz.func170,Tryz.ntmps170
   go_wp2_with (go_at_call 185;refine HN.out.stepG HT.out hgr ?_;clear hgr;intro w1 hT1 hg1 _)
   refine (dict_read_calls b r many HR0.out w1 hT1).mono ?_
   rintro e w2 (⟨v,l,r2,rfl,h,hi,_,hT2,hg2⟩ | ⟨rfl,hT2,hg2,h⟩)
   ·have HR:=Lib.hid h
    clear h
    go_wp2
    go_ret
    exact WayEnd.good hi hT2 (grown_trans hg1 hg2) HS.out (.inr (.inl ⟨rfl,HR.out⟩))
   ·have HE:Hid (¬∃ l r,WayAt s.data.toList many l r):=way_no (by omega) HS.out (by
     rintro ⟨l,r2,⟨k,_⟩ | ⟨_,k⟩ | ⟨k,_⟩⟩
     ·omega
     ·exact h ⟨l,r2,k⟩
     ·omega)
    clear h
    go_wp2
    go_ret
    exact WayEnd.bad hT2 (grown_trans hg1 hg2) (.inr HE.out)
  ·go_enter Tryz.func170,Tryz.ntmps170
   go_wp2_with (go_at_call 185;refine HN.out.stepG HT.out hgr ?_;clear hgr;intro w1 hT1 hg1 _)
   refine (steps_read_calls b r false many w1 hT1).mono ?_
   rintro e w2 (⟨v,xs,r2,rfl,_,h,hi,_,hT2,hg2⟩ | ⟨s0,rfl,hT2,hg2,h⟩)
   ·have HR:=Lib.hid h
    have HI:=Lib.hid hi
    clear h hi
    go_wp2
    go_ret
    exact WayEnd.good HI.out hT2 (grown_trans hg1 hg2) HS.out (.inr (.inr ⟨rfl,xs,rfl,HR.out⟩))
   ·have HE:Hid (¬∃ l r,WayAt s.data.toList many l r):=way_no (by omega) HS.out (by
     rintro ⟨l,r2,⟨k,_⟩ | ⟨k,_⟩ | ⟨_,xs,_,k⟩⟩
     ·omega
     ·omega
     ·rcases h with h|h
      ·exact absurd h (by decide)
      ·exact h ⟨xs,r2,k⟩)
    clear h
    go_wp2
    go_ret
    exact WayEnd.bad hT2 (grown_trans hg1 hg2) (.inr HE.out)
def ParseEnd (w:World)(s:ByteArray)(many:Int)(e:Ending)(w':World):Prop:=Below w.heap.size w w' ∧
 ((∃ v l,e=.returned (.tuple #[v,.bool true])∧StrsIn w' v l∧ColAt s many l)∨(e=.returned (.tuple #[.slice none 0 0,.bool false])∧¬∃ l,ColAt s many l))
theorem right_size {l:List ByteArray}(h:∀ c∈l,rightB c=true):∀ c∈l,c.size≤1000000:=fun c hc=>by have:=rightB_size (h c hc);omega
def WayTold (r:List UInt8)(n:Nat)(m:List ByteArray)(s':ByteArray)(bad':Bool):Prop :=
 (bad'=false∧WayAt r n m s'.data.toList)∨(bad'=true∧¬∃ l r2,WayAt r n l r2)
theorem no_col {s s':ByteArray}{many:Int}{is:List Bool}{r:List UInt8}{m:List ByteArray}{bad':Bool}(hG:GapsAt s.data.toList many is r)(hend:WayTold r (cnt is) m s' bad')
  (h:joinOk is m=false∨bad'=true∨s'≠⟨#[]⟩∨colB (joinL is m)≠s):¬∃ l,ColAt s many l:=by
 rcases hend with ⟨hb,hW⟩ | ⟨_,hN⟩
 ·rintro ⟨l,k⟩
  obtain ⟨h1,h2,h3⟩:=k.reads hG hW
  rcases h with h|h|h|h
  ·rw [h1] at h;exact absurd h (by decide)
  ·rw [hb] at h;exact absurd h (by decide)
  ·exact h (ba_ext h3)
  ·rw [h2] at h;exact h k.2.2.2.2.symm
 ·exact ColAt.no_way hG hN
theorem joinL_right (is:List Bool)(l:List ByteArray)(h:∀ c∈l,rightB c=true):∀ c∈joinL is l,rightB c=true:=by
 unfold joinL
 split
 ·exact joinF_right is l h
 ·simp
set_option maxHeartbeats 2000000 in
set_option maxRecDepth 100000 in
theorem parse_calls (w:World)(s:ByteArray)(many:Int)(hs:s.size≤9223372036854775807):Calls Tryz.prog 145 #[.string s,.int .i64 many] w (ParseEnd w s many):=by
 obtain ⟨hb,hB⟩:=start w
 have HS0:=Lib.hid hs
 go_enter Tryz.func145,Tryz.ntmps145
 go_wp2_with fail
 refine (gaps_read_callsS w.heap.size s false many _ (box_tape w s false _)).mono ?_
 rintro e w1 (⟨vi,is,r,rfl,_,hG,hi,hf,hT,hg⟩ | ⟨rfl,hT,hg,hN⟩)
 ·have hq:=boxed_below hg
  replace hb:=hb.trans (hq.mono hB)
  replace hB:=hb.size
  have HG:=Lib.hid hG
  have hil:is.length≤4096:=by have:=hG.2.1;have:=hG.2.2.1;omega
  have HF:Hid (Fresh (w.heap.size+1) vi):=by show Fresh _ _;have:=hf;simpa using this
  have HRS:Hid ((mkB r).size≤9223372036854775807):=by
   show _≤_
   rw [mkB_size]
   have h1:=congrArg List.length hG.2.2.2
   rw [List.length_append,ba_len] at h1
   omega
  clear hq hg hf hG hs
  go_wp2_with fail
  refine (count_calls hi (by omega)).step ?_
  go_wp2_with fail
  refine (col_read_calls w.heap.size (mkB r) false (cnt is) HRS.out w1 hT).mono ?_
  rintro e w2 ⟨vc,m,s',bad',rfl,hm,hT2,hg2,hml,hmr,hend⟩
  have hi2:BoolsIn w2 vi is:=SliceOf.fresh hi HF.out hg2 (by omega)
  replace hb:=hb.grown hg2 hB (fun k hk=>by cases hk;exact Nat.le_refl _)
  replace hB:=hb.size
  have HMR:=Lib.hid hmr
  have HEND:Hid (WayTold r (cnt is) m s' bad'):=hend.imp (fun ⟨h1,_,h2⟩=>⟨h1,h2⟩) (fun ⟨h1,h2⟩=>⟨h1,h2.resolve_left (by decide)⟩)
  clear hi hT hg2 hmr hend HF HRS
  go_wp2_with fail
  refine (join_calls hi2 hm (by omega) (by omega)).mono ?_
  rintro e w3 ⟨v3,rfl,h3,hq⟩
  replace hb:=hb.trans (hq.mono hB)
  replace hB:=hb.size
  have hT3:=hT2.kept hq
  have hjl:=joinL_length is m
  clear hi2 hm hT2 hq
  generalize hjo:joinOk is m=jo at *
  have HJO:=Lib.hid hjo
  clear hjo
  cases jo with
  | false =>
   go_wp2
   go_ret2
   exact ⟨hb,.inr ⟨rfl,no_col HG.out HEND.out (.inl HJO.out)⟩⟩
  | true =>
   have HD:=Lib.hid (tdone_calls w.heap.size s' bad' w3 hT3)
   have c1:=HMR.out
   cases bad' with
   | true =>
    clear hT3
    go_wp2_with (go_at_call 148;refine HD.out.mono ?_;rintro e w4 ⟨rfl,rfl⟩)
    go_ret2
    exact ⟨hb,.inr ⟨rfl,no_col HG.out HEND.out (.inr (.inl rfl))⟩⟩
   | false =>
    have HT3:=Lib.hid hT3
    clear hT3 c1
    by_cases he:s'=⟨#[]⟩
    ·have HD':Hid (Calls Tryz.prog 148 #[.pointer (some ⟨w.heap.size,0,none⟩)] w3 fun e w'=>e=.returned (.bool true)∧w3=w'):=by
      show Calls _ _ _ _ _
      have:=HD.out
      rw [he,empty_toList] at this
      exact this
     clear HD
     have HLR:Hid (∀ c∈joinL is m,rightB c=true):=joinL_right is m HMR.out
     have HP:=Lib.hid (col_print_calls h3 (by omega) (right_size HLR.out))
     have H3:=Lib.hid h3
     have hvs:=h3
     obtain ⟨A3,p3,rfl,_⟩:=one_at h3
     clear h3 HLR
     generalize hL:joinL is m=L at *
     have HL:=Lib.hid hL
     clear hL
     by_cases hp:colB L=s
     ·have HC:Hid (ColAt s many L):=by
       show ColAt s many L
       have:=col_of_read HG.out HMR.out HJO.out (by rw [HL.out,hp])
       rwa [HL.out] at this
      obtain ⟨_,_,g2⟩:=(str_ne_cases (colB L) s).resolve_right (fun x=>x.1 hp)
      clear hp
      go_wp2_with (first|(go_at_call 148;refine HD'.out.mono ?_;rintro e w4 ⟨rfl,rfl⟩)|(go_at_call 85;refine HP.out.stepB (w0:=w) (B:=w.heap.size) hb hB ?_;clear hb hB;intro w5 hb hB hq5))
      go_ret2
      exact ⟨hb,.inl ⟨_,L,rfl,StrsIn.kept H3.out hq5,HC.out⟩⟩
     ·have HC:Hid (¬∃ l,ColAt s many l):=no_col HG.out HEND.out (.inr (.inr (.inr (by rw [HL.out];exact hp))))
      obtain ⟨_,_,g2⟩:=(str_ne_cases (colB L) s).resolve_left (fun x=>hp x.1)
      clear hp
      go_wp2_with (first|(go_at_call 148;refine HD'.out.mono ?_;rintro e w4 ⟨rfl,rfl⟩)|(go_at_call 85;refine HP.out.stepB (w0:=w) (B:=w.heap.size) hb hB ?_;clear hb hB;intro w5 hb hB hq5))
      go_ret2
      exact ⟨hb,.inr ⟨rfl,HC.out⟩⟩
    ·have HC:Hid (¬∃ l,ColAt s many l):=no_col HG.out HEND.out (.inr (.inr (.inl he)))
     have HD':Hid (Calls Tryz.prog 148 #[.pointer (some ⟨w.heap.size,0,none⟩)] w3 fun e w'=>e=.returned (.bool false)∧w3=w'):=by
      show Calls _ _ _ _ _
      have:=HD.out
      have h0:s'.toList.isEmpty=false:=by
       rw [ByteArray.toList_eq]
       cases hd:s'.data.toList with
       | nil=>exact absurd (ba_ext hd) he
       | cons x l=>rfl
      rw [h0] at this
      exact this
     clear HD he
     go_wp2_with (go_at_call 148;refine HD'.out.mono ?_;rintro e w4 ⟨rfl,rfl⟩)
     go_ret2
     exact ⟨hb,.inr ⟨rfl,HC.out⟩⟩
 ·have hq:=boxed_below hg
  replace hb:=hb.trans (hq.mono hB)
  replace hB:=hb.size
  have HC:Hid (¬∃ l,ColAt s many l):=ColAt.no_gaps (hN.resolve_left (by decide))
  clear hq hg hN hs
  go_wp2_with fail
  refine (count_calls (is:=[]) (SliceOf.nil_ w1 1 none 0) (by decide)).step ?_
  go_wp2_with fail
  refine (col_read_calls w.heap.size s true (cnt []) HS0.out w1 hT).mono ?_
  rintro e w2 ⟨vc,m,s',bad',rfl,hm,hT2,hg2,hml,hmr,hend⟩
  obtain rfl:bad'=true:=by
   rcases hend with ⟨_,h,_⟩ | ⟨h,_⟩
   ·exact absurd h (by decide)
   ·exact h
  replace hb:=hb.grown hg2 hB (fun k hk=>by cases hk;exact Nat.le_refl _)
  replace hB:=hb.size
  clear hT hg2 hmr hend
  go_wp2_with fail
  refine (join_calls (is:=[]) (SliceOf.nil_ w2 1 none 0) hm (by omega) (by decide)).mono ?_
  rintro e w3 ⟨v3,rfl,h3,hq⟩
  replace hb:=hb.trans (hq.mono hB)
  replace hB:=hb.size
  have HD:=Lib.hid (tdone_calls w.heap.size s' true w3 (hT2.kept hq))
  clear hm hT2 hq
  generalize joinOk [] m=jo at *
  cases jo with
  | false =>
   go_wp2
   go_ret2
   exact ⟨hb,.inr ⟨rfl,HC.out⟩⟩
  | true =>
   go_wp2_with (go_at_call 148;refine HD.out.mono ?_;rintro e w4 ⟨rfl,rfl⟩)
   go_ret2
   exact ⟨hb,.inr ⟨rfl,HC.out⟩⟩
theorem ParseEnd.yes {w w':World}{s:ByteArray}{many:Int}{e:Ending}(h:ParseEnd w s many e w'){l:List ByteArray}(k:ColAt s many l):∃ v,e=.returned (.tuple #[v,.bool true])∧StrsIn w' v l∧Below w.heap.size w w':=by
 obtain ⟨hb,⟨v,l',he,hv,hc⟩ | ⟨_,hn⟩⟩:=h
 ·obtain rfl:=hc.same k
  exact ⟨v,he,hv,hb⟩
 ·exact absurd ⟨l,k⟩ hn
theorem ParseEnd.no {w w':World}{s:ByteArray}{many:Int}{e:Ending}(h:ParseEnd w s many e w')(k:¬∃ l,ColAt s many l):e=.returned (.tuple #[.slice none 0 0,.bool false])∧Below w.heap.size w w':=by
 obtain ⟨hb,⟨v,l',he,hv,hc⟩ | ⟨he,_⟩⟩:=h
 ·exact absurd ⟨l',hc⟩ k
 ·exact ⟨he,hb⟩
theorem colB_small {l:List ByteArray}(hl:l.length≤4096)(hs:∀ c∈l,c.size≤1000000):(colB l).size≤9223372036854775807:=by
 have z1:=gapsT_size (isL l) (by rw [isL_length];omega)
 have hfl:=fullL_length l
 have z3:=as_size (fullL l) (by omega) (fun c hc=>hs c (fullL_mem hc)) (bestN (fullL l))
 have hbn:=(bestP_spec (fullL l)).2.2.1
 have z2:(printB (bestN (fullL l))).size≤10:=by rw [print_len];exact vp_len_10 (by omega)
 unfold colB
 rw [ByteArray.size_append,ByteArray.size_append]
 omega
end Go.Proofs.YtafmbnafibahkaaGreat
