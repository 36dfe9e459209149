/- The contracts of layer 20's compare, of the closure that sorts by it, and of alike. -/
import Derived.Test.YtopeeokjfaampaaGTimes
import Derived.Test.YtopeeokjfaampaaGWeighSmall
import Derived.Test.YtopeeokjfaampaaGZFoldOwnA
import Derived.Test.YtopeeokjfaampaaGZShelf
import Derived.Lib.Bytealg
namespace Go.Proofs.Ytopeeokjfaampaa
open Go Go.RowKit
theorem bytes_cmp:∀ a b:List UInt8,Lib.compareBytes a b=if Op.bytesLess a b then -1 else if Op.bytesLess b a then 1 else 0
 | [],[]=>rfl
 | [],_::_=>by simp [Lib.compareBytes,Op.bytesLess]
 | _::_,[]=>by simp [Lib.compareBytes,Op.bytesLess]
 | x::a,y::b=>by
  have ih:=bytes_cmp a b
  have e:Lib.compareBytes (x::a) (y::b)=if x < y then -1 else if y < x then 1 else Lib.compareBytes a b:=rfl
  rw [e,ih]
  simp only [Op.bytesLess,Bool.or_eq_true,Bool.and_eq_true,decide_eq_true_eq,beq_iff_eq]
  by_cases h:x < y
  ·rw [if_pos h,if_pos (.inl h)]
  ·rw [if_neg h]
   by_cases k:y < x
   ·have hne:¬(x < y∨x=y∧Op.bytesLess a b=true):=by
     rintro (h2 | ⟨rfl,_⟩)
     ·exact h h2
     ·exact h k
    rw [if_pos k,if_neg hne,if_pos (.inl k)]
   ·have hxy:x=y:=by
     rw [UInt8.lt_iff_toNat_lt] at h k
     rw [←UInt8.toNat_inj]
     omega
    subst hxy
    rw [if_neg k]
    simp
theorem cmp_bytes (a b:ByteArray):Lib.compareBytes a.data.toList b.data.toList=cmpB a b:=by
 rw [bytes_cmp]
 have e (x:ByteArray):x.toList=x.data.toList:=by rw [ByteArray.toList_eq]
 unfold cmpB
 rcases lt_three a b with rfl|h|h
 ·rw [if_pos rfl,bl_irrefl];rfl
 ·have h2:Op.bytesLess a.data.toList b.data.toList=true:=by rw [←e,←e];exact h
  rw [if_neg (ltB_ne h),if_pos h,if_pos h2]
 ·have h2:Op.bytesLess b.data.toList a.data.toList=true:=by rw [←e,←e];exact h
  have h3:Op.bytesLess a.data.toList b.data.toList=false:=by rw [←e,←e];exact ltB_asym h
  have h4:ltB a b=false:=ltB_asym h
  rw [if_neg (ltB_ne h).symm,h4,h2,h3];rfl
theorem str_reads (a b:ByteArray)(w:World):Reads Try.prog 34 #[.string a,.string b] w (.int .i64 (cmpB a b)):=by
 rw [←cmp_bytes]
 exact (Try.strings_Compare a b w).mono fun _ _ ⟨he,hw⟩=>⟨he,hw.symm⟩
def ReadsD (P:Program)(f:FuncId)(args:Array Value)(w:World)(v:Value):Prop:=Calls P f args w fun e w'=>e=.returned v∧∃ q,w'=w.drewN q
theorem below_drew (w:World)(q:Nat):Below w.heap.size w (w.drewN q):=⟨rfl,rfl,rfl,Nat.le_refl _,fun _ _=>rfl⟩
theorem ReadsD.gives {P:Program}{f:FuncId}{args:Array Value}{w:World}{v:Value}(h:ReadsD P f args w v):GivesAt P f args w v:=h.mono fun _ _ ⟨he,q,hw⟩=>⟨he,hw▸below_drew w q⟩
theorem pickF_drop (row:List ByteArray)(cols:List Int)(k:Nat)(hk:k < cols.length)(j:Nat)(hj:j < row.length)(e:cols[k]=j):pickF row (cols.drop k)=row[j]::pickF row (cols.drop (k+1)):=by
 rw [List.drop_eq_getElem_cons hk]
 unfold pickF
 rw [List.map_cons,e,Int.toNat_natCast,List.getD_eq_getElem?_getD,List.getElem?_eq_getElem hj];rfl
theorem pickOk_at {row:List ByteArray}{cols:List Int}(h:pickOk row cols=true){c:Int}(hc:c∈cols):0≤c∧c < row.length:=by
 unfold pickOk at h
 rw [List.all_eq_true] at h
 have:=h c hc
 rw [Bool.and_eq_true,decide_eq_true_eq,decide_eq_true_eq] at this
 exact this
theorem cmpB_cases (x y:ByteArray)(a b:List ByteArray):(x=y∧cmpB x y=0∧cmpL (x::a) (y::b)=cmpL a b)∨((cmpB x y==0)=false∧cmpL (x::a) (y::b)=cmpB x y):=by
 rcases lt_three x y with h|h|h
 ·exact .inl ⟨h,if_pos h,by rw [h];exact cmpL_front y a b⟩
 ·refine .inr ?_
  have e:cmpB x y = -1:=by unfold cmpB;rw [if_neg (ltB_ne h),if_pos h]
  rw [e];exact ⟨rfl,cmpL_less _ _ _ _ h⟩
 ·refine .inr ?_
  have e:cmpB x y=1:=by unfold cmpB;rw [if_neg (ltB_ne h).symm,if_neg (by rw [ltB_asym h];decide)]
  rw [e];exact ⟨rfl,cmpL_more _ _ _ _ h⟩
set_option maxHeartbeats 1000000 in
set_option maxRecDepth 100000 in
theorem fcompare_calls {w:World}{va vb vc:Value}{a b:List ByteArray}{cols:List Int}(ha:StrsIn w va a)(hb:StrsIn w vb b)(hc:IntsIn w vc cols)(oa:pickOk a cols=true)(ob:pickOk b cols=true) :
  ReadsD Try.prog 24 #[va,vb,vc] w (.int .i64 (cmpL (pickF a cols) (pickF b cols))):=by
 obtain ⟨Aa,ca,rfl,hata⟩:=one_at ha
 obtain ⟨Ab,cb,rfl,hatb⟩:=one_at hb
 obtain ⟨Ac,cc,rfl,hatc⟩:=one_at hc
 have HA:=Lib.hid hata
 have HB:=Lib.hid hatb
 have HC:=Lib.hid hatc
 have HLEN:=Lib.hid hc.len
 have HOA:=Lib.hid (fun c hc=>pickOk_at (c:=c) oa hc)
 have HOB:=Lib.hid (fun c hc=>pickOk_at (c:=c) ob hc)
 clear ha hb hc hata hatb hatc oa ob
 unfold ReadsD
 go_enter Try.func24,Try.ntmps24
 go_wp2
 go_loopw [12] (fun i wr=>∃ k:Nat,k≤cols.length∧i=.int .i64 k∧Hid (cmpL (pickF a cols) (pickF b cols)=cmpL (pickF a (cols.drop k)) (pickF b (cols.drop k)))∧Hid (∃ q,wr=w.drewN q)) (fun i _=>cols.length-(intOf i).toNat)
 case atStart=>exact ⟨0,Nat.zero_le _,rfl,Lib.hid rfl,Lib.hid ⟨0,rfl⟩⟩
 case round =>
  obtain ⟨k,hk,rfl,HE,HQ⟩:=hrel
  by_cases hlt:k < cols.length
  ·obtain ⟨bc,oc,rfl,hlc,hcc⟩:=HC.out k hlt
   have m1:=HOA.out _ (List.getElem_mem hlt)
   have m2:=HOB.out _ (List.getElem_mem hlt)
   obtain ⟨j,hj⟩:∃ j:Nat,cols[k]=(j:Int):=⟨cols[k].toNat,by omega⟩
   have hja:j < a.length:=by omega
   have hjb:j < b.length:=by omega
   have hE:=HE.out
   rw [pickF_drop a cols k hlt j hja hj,pickF_drop b cols k hlt j hjb hj] at hE
   obtain ⟨ba,o1,rfl,hla,hca⟩:=HA.out j hja
   obtain ⟨bb,o2,rfl,hlb,hcb⟩:=HB.out j hjb
   have x0:wr.cell? ⟨bc,oc+k,none⟩=some (.int .i64 (j:Int)):=by
    obtain ⟨q,rfl⟩:=HQ.out
    rw [←hj];exact hcc k hlt
   have x1:wr.cell? ⟨ba,o1+j,none⟩=some (.string a[j]):=by
    obtain ⟨q,rfl⟩:=HQ.out
    exact hca j hja
   have x2:wr.cell? ⟨bb,o2+j,none⟩=some (.string b[j]):=by
    obtain ⟨q,rfl⟩:=HQ.out
    exact hcb j hjb
   have hml:=HLEN.out
   unfold maxLen at hml
   have HLK:Hid (k < cols.length):=hlt
   have i1:(k:Int) < (cols.length:Int):=by omega
   have i2:(j:Int) < (a.length:Int):=by omega
   have i3:(j:Int) < (b.length:Int):=by omega
   have i0:(0:Int)≤(j:Int):=by omega
   clear hcc hca hcb m1 m2 hj HE
   generalize a[j]=x at *
   generalize b[j]=y at *
   have HS:=Lib.hid (fun W=>str_reads x y W)
   rcases cmpB_cases x y (pickF a (cols.drop (k+1))) (pickF b (cols.drop (k+1))) with ⟨hxy,e,f⟩ | ⟨e,f⟩
   ·have HN:=Lib.hid (hE.trans f)
    rw [e] at HS
    clear hE e f hxy
    go_wp2_with fail
    go_quiet ((go_at_call 34;exact Reads.quiet (HS.out _)))
    go_wp2
    go_roundw
    case rel =>
     refine ⟨k+1,HLK.out,by go_num,HN,?_⟩
     obtain ⟨q,rfl⟩:=HQ.out
     exact Lib.hid ⟨_,World.drewN_drewN ..⟩
    case measure=>have:=HLK.out;simp [intOf];omega
   ·have HN:=Lib.hid (hE.trans f)
    clear hE f
    generalize cmpB x y=z at *
    go_wp2_with fail
    go_quiet ((go_at_call 34;exact Reads.quiet (HS.out _)))
    go_wp2
    go_ret
    refine ⟨ret_int HN.out.symm,?_⟩
    obtain ⟨q,rfl⟩:=HQ.out
    exact ⟨_,World.drewN_drewN ..⟩
  ·obtain rfl:k=cols.length:=by omega
   have HN:Hid (cmpL (pickF a cols) (pickF b cols)=0):=by
    show _=_
    rw [HE.out,List.drop_length];rfl
   go_wp2
   go_ret
   exact ⟨ret_int HN.out.symm,HQ.out⟩
theorem grow_two (w:World)(o1 o2:Obj)(q:Nat):((w.alloc o1).alloc o2).drewN q=Go.Sort.grow (w.drewN q) #[o1,o2]:=by
 rw [Go.Sort.alloc_eq_grow,Go.Sort.alloc_eq_grow,Go.Sort.grow_grow]
 rfl
set_option maxHeartbeats 1000000 in
theorem frise_lays {w:World}{va vb vc:Value}{a b:List ByteArray}{cols:List Int}{g:Nat}(m n:Int)(ha:StrsIn w va a)(hb:StrsIn w vb b)(hc:IntsIn w vc cols)(hx:w.cell? ⟨g,0,none⟩=some vc)(oa:pickOk a cols=true)(ob:pickOk b cols=true) :
  Calls Try.prog 23 #[timesA (va,m),timesA (vb,n),.pointer (some ⟨g,0,none⟩)] w fun e w'=>e=.returned (.int .i64 (cmpL (pickF a cols) (pickF b cols)))∧∃ q os,w'=Go.Sort.grow (w.drewN q) os:=by
 obtain ⟨A,ca,rfl,_⟩:=one_at ha
 obtain ⟨B,cb,rfl,_⟩:=one_at hb
 obtain ⟨C,cc,rfl,_⟩:=one_at hc
 have h:=fcompare_calls (SliceOf.alloc (SliceOf.alloc ha (.cells #[.slice A a.length ca,.int .i64 m] 27)) (.cells #[.slice B b.length cb,.int .i64 n] 27)) (SliceOf.alloc (SliceOf.alloc hb (.cells #[.slice A a.length ca,.int .i64 m] 27)) (.cells #[.slice B b.length cb,.int .i64 n] 27)) (SliceOf.alloc (SliceOf.alloc hc (.cells #[.slice A a.length ca,.int .i64 m] 27)) (.cells #[.slice B b.length cb,.int .i64 n] 27)) oa ob
 have hlt:=block_lt_of_cell hx
 have HC:=Lib.hid h
 generalize cmpL (pickF a cols) (pickF b cols)=z at *
 clear ha hb hc h
 unfold timesA
 go_enter Try.func23,Try.ntmps23
 go_wp2_with fail
 refine HC.out.mono ?_
 rintro e w2 ⟨rfl,q,rfl⟩
 go_wp2
 go_ret
 exact ⟨rfl,q,_,grow_two w _ _ q⟩
theorem enters_rise:∀ args w,(callFunc 23 args).run Try.prog w=.ok (.enter 23 args) w:=enters_of Try.func23 (by kernel_rfl) rfl
theorem takeWhile_at {α:Type}(p:α→Bool):∀ (t:List α)(m:Nat),m≤t.length→(∀ y∈t.take m,p y=true)→(m=t.length∨∃ h:m < t.length,p (t[m]'h)=false)→(t.takeWhile p).length=m
 | [],m,hm,_,_=>by simp at hm;subst hm;rfl
 | y::t,0,_,_,h=>by
  rcases h with h | ⟨_,h⟩
  ·exact absurd h (by simp)
  ·rw [List.takeWhile_cons,if_neg (by rw [show p y=false from h];decide)];rfl
 | y::t,m+1,hm,ha,h=>by
  have hy:=ha y (by rw [List.take_succ_cons];exact List.mem_cons_self ..)
  rw [List.takeWhile_cons,if_pos hy,List.length_cons,takeWhile_at p t m (by simpa using hm) (fun z hz=>ha z (by rw [List.take_succ_cons];exact List.mem_cons_of_mem _ hz)) (by
   rcases h with h | ⟨k,h⟩
   ·exact .inl (by simpa using h)
   ·exact .inr ⟨by simpa using k,by simpa using h⟩)]
set_option maxHeartbeats 2000000 in
set_option maxRecDepth 100000 in
theorem falike_calls {w:World}{v vc:Value}{x:Tm}{t:List Tm}{cols:List Int}(h:TimesIn w v (x::t))(hc:IntsIn w vc cols)(ho:∀ y∈x::t,pickOk y.1 cols=true) :
  GivesAt Try.prog 15 #[v,vc] w (.int .i64 (alikeN cols (x::t))):=by
 have hlen:=h.len
 obtain ⟨tv,A,cap,rfl,_,hat⟩:=times_at h
 obtain ⟨Ac,cc,rfl,_⟩:=one_at hc
 have HC:=Lib.hid hc
 have HO:=Lib.hid ho
 have HE:=Lib.hid (alikeN_cons cols x t)
 have HW:=Lib.hid (fun m=>takeWhile_at (fun y=>decide (keyT cols y=keyT cols x)) t m)
 obtain ⟨b,off,rfl,hbl,hc0⟩:=hat 0 (by simp)
 obtain ⟨r0,hs0,_,c0,_⟩:=hc0 0 (by simp)
 have HS0:=Lib.hid hs0
 obtain ⟨A0,p0,rfl⟩:∃ A0 p0,r0=.slice A0 x.1.length p0:=by obtain ⟨A0,p0,e,_⟩:=one_at hs0;exact ⟨A0,p0,e⟩
 have HAT:Hid (∀ m (hm:m < t.length),∃ A1 p1,StrsIn w (.slice A1 (t[m]).1.length p1) (t[m]).1∧w.cell? ⟨b,off+(m+1)*2,none⟩=some (.slice A1 (t[m]).1.length p1)):=fun m hm=>by
  obtain ⟨b2,off2,e2,hbl2,hc2⟩:=hat (m+1) (by simpa using hm)
  have e2:=Option.some.inj e2
  have eb:b=b2:=by injection e2
  have eo:off=off2:=by injection e2
  subst eb eo
  obtain ⟨r1,hs1,_,c1,_⟩:=hc2 (m+1) (by simpa using hm)
  simp only [List.getElem_cons_succ] at hs1
  obtain ⟨A1,p1,e,_⟩:=one_at hs1
  subst e
  exact ⟨A1,p1,hs1,c1⟩
 obtain ⟨n,hn⟩:∃ n,(x::t).length=n:=⟨_,rfl⟩
 have HNL:Hid (t.length+1=n):=by rw [←hn];exact Lib.hid rfl
 have HC0:=Lib.hid c0
 rw [hn] at hlen ⊢
 clear h hc ho hat hc0 hs0 hn
 unfold GivesAt
 go_enter Try.func15,Try.ntmps15
 go_wp2
 go_loopw [5] (fun i wr=>∃ m:Nat,m≤t.length∧i=.int .i64 ((m+1:Nat):Int)∧Hid (∀ y∈t.take m,decide (keyT cols y=keyT cols x)=true)∧Hid (∃ q,wr=w.drewN q)) (fun i _=>t.length+1-(intOf i).toNat)
 case atStart=>exact ⟨0,Nat.zero_le _,rfl,fun y hy=>absurd hy (by simp),Lib.hid ⟨0,rfl⟩⟩
 case round =>
  obtain ⟨m,hm,rfl,HM,HQ⟩:=hrel
  have hnl:=HNL.out
  unfold maxLen at hlen
  by_cases hlt:m < t.length
  ·have hmn:m+1 < n:=by omega
   obtain ⟨A1,p1,hs1,c1⟩:=HAT.out m hlt
   have hkb:Below w.heap.size w wr:=by obtain ⟨q,rfl⟩:=HQ.out;exact below_drew w q
   have x0:wr.cell? ⟨b,off+0*2,none⟩=some (.slice A0 x.1.length p0):=cell_kept HC0.out hkb
   have x1:=cell_kept c1 hkb
   have HCM:Hid (∀ W,Below w.heap.size w W→ReadsD Try.prog 24 #[.slice A0 x.1.length p0,.slice A1 (t[m]).1.length p1,.slice Ac cols.length cc] W (.int .i64 (cmpL (keyT cols x) (keyT cols t[m])))):=fun W hW =>
    fcompare_calls (StrsIn.kept HS0.out hW) (StrsIn.kept hs1 hW) (IntsIn.kept HC.out hW) (HO.out x (List.mem_cons_self ..)) (HO.out _ (List.mem_cons_of_mem _ (List.getElem_mem hlt)))
   have HT:=Lib.hid (take_add t m hlt)
   have HWM:=Lib.hid (fun h=>HW.out m hm HM.out (.inr ⟨hlt,h⟩))
   have HZ:=Lib.hid (cmpL_zero (keyT cols x) (keyT cols t[m]))
   have HLT:Hid (m < t.length):=hlt
   have HKB:=Lib.hid hkb
   have i1:(m:Int)+1 < (n:Int):=by omega
   have i2:(0:Int) < (n:Int):=by omega
   have i3:(0:Int)≤(m:Int)+1:=by omega
   rw [Nat.zero_mul,Nat.add_zero] at x0
   clear c1 hs1 hkb HAT
   generalize t[m]=y at *
   clear hlt
   generalize cmpL (keyT cols x) (keyT cols y)=z at *
   have HR:Hid (∀ n,Calls Try.prog 24 #[.slice A0 x.1.length p0,.slice A1 y.1.length p1,.slice Ac cols.length cc] (wr.drewN n) fun e w''=>e=.returned (.int .i64 z)∧∃ m,w''=wr.drewN m):=fun n=>Calls.quiet_of (HCM.out _ (HKB.out.trans ((below_drew wr n).mono HKB.out.size)))
   by_cases hz:z=0
   ·subst hz
    have HN:Hid (∀ u∈t.take (m+1),decide (keyT cols u=keyT cols x)=true):=fun u hu=>by
     rw [HT.out] at hu
     rcases List.mem_append.1 hu with hu|hu
     ·exact HM.out u hu
     ·rw [List.mem_singleton.1 hu,decide_eq_true_eq];exact (HZ.out.1 rfl).symm
    clear HT HWM HM HZ HCM
    go_wp2_with fail
    go_quiet ((go_at_call 24;exact HR.out _))
    go_wp2
    go_roundw
    case rel =>
     refine ⟨m+1,HLT.out,by go_num,HN,?_⟩
     obtain ⟨q,rfl⟩:=HQ.out
     exact Lib.hid ⟨_,World.drewN_drewN ..⟩
    case measure=>have:=HLT.out;simp [intOf];omega
   ·have z1:(z==0)=false:=by simpa using hz
    have HF:=Lib.hid (HWM.out (decide_eq_false fun e=>hz (HZ.out.2 e.symm)))
    clear HT HWM HM HZ HCM hz
    go_wp2_with fail
    go_quiet ((go_at_call 24;exact HR.out _))
    go_wp2
    go_ret
    refine ⟨ret_int (by rw [HE.out,HF.out];omega),?_⟩
    obtain ⟨q,rfl⟩:=HQ.out
    rw [World.drewN_drewN]
    exact below_drew _ _
  ·obtain rfl:m=t.length:=by omega
   have HF:=Lib.hid (HW.out _ (Nat.le_refl _) HM.out (.inl rfl))
   have d1:decide ((t.length:Int)+1 < (n:Int))=false:=by rw [decide_eq_false_iff_not];omega
   clear HAT HM
   go_wp2_with fail
   go_quiet (fail)
   go_wp2
   go_ret
   refine ⟨ret_int (by rw [HE.out,HF.out];omega),?_⟩
   obtain ⟨q,rfl⟩:=HQ.out
   rw [World.drewN_drewN]
   exact below_drew _ _
end Go.Proofs.Ytopeeokjfaampaa
