/- The contract of layer 20's Groups. -/
import Derived.Test.YtopeeokjfaampaaGZFoldGroup
import Derived.Test.YtopeeokjfaampaaGZFoldRise
import Derived.Test.YtopeeokjfaampaaGZSieveGrow
namespace Go.Proofs.Ytopeeokjfaampaa
open Go Go.RowKit
def lenV:Value→Nat
 | .slice _ n _=>n
 | _=>0
def GroupsEnd (w:World)(o:Option (List Tm))(e:Ending)(w':World):Prop :=
 match o with
 | some g=>∃ v,e=.returned (.tuple #[v,.int .i64 0])∧TimesNew w' w.heap.size v g∧Below w.heap.size w w'
 | none=>e=.returned (.tuple #[.slice none 0 0,.int .i64 7])∧Below w.heap.size w w'
theorem GroupsEnd.yes {w w':World}{g:List Tm}{o:Option (List Tm)}{v:Value}(h:o=some g)(hn:NewEnd w g (.returned v) w'):GroupsEnd w o (.returned (.tuple #[v,.int .i64 0])) w':=by
 subst h
 obtain ⟨u,e,h1,h2⟩:=hn
 cases e
 exact ⟨_,rfl,h1,h2⟩
theorem GroupsEnd.no {w w':World}{o:Option (List Tm)}(h:o=none)(hb:Below w.heap.size w w'):GroupsEnd w o (.returned (.tuple #[.slice none 0 0,.int .i64 7])) w':=by
 subst h;exact ⟨rfl,hb⟩
theorem foldr_under:Try.prog.underlying 22=some (.slice (Try.prog.elem 22)):=by kernel_rfl
theorem foldr_elem:Try.prog.elem 22=27:=by kernel_rfl
theorem rows_from (W:World)(A:Option Addr)(n cap k:Nat)(hk:k≤n):(Instr.sliceAt 22 (.slice A n cap) (some (.int .i64 k)) none none).run Try.prog W=.ok (.slice (if cap=k then A else A.map (·.add (k*2))) (n-k) (cap-k)) W:=by
 rw [run_sliceAt_slice _ _ _ _ _ _ foldr_under,run_slice_l _ _ _ _ _ foldr_under _ _ (by omega) (by omega),foldr_elem,Try.sizeOf27]
 simp [Result.andThen,sliced]
theorem rows_till (W:World)(A:Option Addr)(n cap k:Nat)(hk:k≤cap):(Instr.sliceAt 22 (.slice A n cap) none (some (.int .i64 k)) none).run Try.prog W=.ok (.slice A k cap) W:=by
 rw [run_sliceAt_slice _ _ _ _ _ _ foldr_under,run_slice_h _ _ _ _ _ foldr_under _ _ (by omega) (by omega),foldr_elem,Try.sizeOf27]
 have e:∀ a:Addr,a.add 0=a:=fun a=>by unfold Addr.add;simp
 cases A <;> simp [Result.andThen,sliced,e]
theorem rows_front {w:World}{A:Option Addr}{cap:Nat}{l:List Tm}(h:TimesIn w (.slice A l.length cap) l)(k:Nat)(hk:k≤l.length):TimesIn w (.slice A k cap) (l.take k):=by
 obtain ⟨tv,h1,h2⟩:=h
 have h3:=SliceOf.frontN h1 hk
 rw [take_timesV] at h3
 exact TimesIn.of h3 (h2.take k) (by rw [List.length_take];omega)
theorem rows_back {w:World}{A:Option Addr}{cap:Nat}{l:List Tm}(h:TimesIn w (.slice A l.length cap) l)(hc:l.length≤cap)(k:Nat)(hk:k≤l.length)(h0:0 < l.length):TimesIn w (.slice (if cap=k then A else A.map (·.add (k*2))) (l.length-k) (cap-k)) (l.drop k):=by
 obtain ⟨tv,A',cap',e,_,hat⟩:=times_at h
 cases e
 obtain ⟨b,off,rfl,_⟩:=hat 0 h0
 obtain ⟨tv,h1,h2⟩:=h
 have h3:=SliceOf.backN h1 hk (A:=if cap=k then some ⟨b,off,none⟩ else (some (⟨b,off,none⟩:Addr)).map (·.add (k*2))) (fun hlt=>by
  rw [if_neg (by omega)];simp [Addr.add])
 rw [drop_timesV] at h3
 obtain ⟨q1,q2,A',c',e,q3,q4⟩:=h3
 cases e
 exact TimesIn.of ⟨q1,q2,_,_,rfl,by omega,q4⟩ (h2.drop k) (by rw [List.length_drop])
set_option maxHeartbeats 4000000 in
set_option maxRecDepth 100000 in
theorem fgroups_calls {w:World}{v vc vg:Value}{l:List Tm}{cols:List Int}{gs:List (Int×Int)}(h:TimesIn w v l)(hc:IntsIn w vc cols)(hg:OnIn w vg gs)(hN:∀ y∈l,-9223372036854775808≤y.2∧y.2≤9223372036854775807)
  (hl:l.length≤1000000) (hcl:cols.length≤1000000) (hgl:gs.length≤1000000) :
  Calls Try.prog 9 #[v,vc,vg] w (GroupsEnd w (groupsP l cols gs)):=by
 obtain ⟨i0,hi,hz0,hz1,hz2⟩:=info_parts Try.infoM27
 have HRI:=Lib.hid (frising_calls h hc hl)
 obtain ⟨Av,cv,rfl⟩:=times_slice h
 obtain ⟨Ac,cc,rfl,_⟩:=one_at hc
 obtain ⟨Ag,cg,rfl⟩:=hg.slice
 have HC:=Lib.hid hc
 have HG:=Lib.hid hg
 have HN:=Lib.hid hN
 have HCL:=Lib.hid hcl
 have HGL:=Lib.hid hgl
 have HGP:=Lib.hid fun r hr hs=>groups_of_sorted l cols gs (r:=r) hr hs
 have HOL:=Lib.hid (okL_length cols l)
 have HLL:=Lib.hid hl
 have HMEM:Hid (∀ x∈okL cols l,x∈l∧pickOk x.1 cols=true):=fun x hx=>List.mem_filter.1 hx
 clear h hc hg hN hl hcl hgl
 generalize l.length=nl at *
 go_enter Try.func9,Try.ntmps9
 go_wp2_with fail
 refine HRI.out.mono ?_
 rintro e w2 ⟨rv0,r,rfl,hT2,hp,hso,hb2⟩
 obtain ⟨A2,c2,rfl⟩:=times_slice hT2
 have HB2:=Lib.hid hb2
 have HT2:=Lib.hid hT2
 have HSO:=Lib.hid hso
 have HGR:=Lib.hid (HGP.out r hp hso)
 have HRM:Hid (∀ x∈r,(-9223372036854775808≤x.2∧x.2≤9223372036854775807)∧pickOk x.1 cols=true):=fun x hx=>by
  have:=HMEM.out x (hp.mem_iff.1 hx)
  exact ⟨HN.out x this.1,this.2⟩
 have HRL:Hid (r.length≤1000000):=by
  have h1:=hp.length_eq
  have h2:=HOL.out
  have h3:=HLL.out
  show _≤_
  omega
 clear HRI hT2 hp hso hb2 HGP HMEM HOL HLL HN
 go_wp2
 go_loopw [8,9] (fun gv rv wr=>∃ acc s,Hid (groupsP l cols gs=(groupsR cols gs s).map (acc++·))∧Hid (SortedK cols s)∧Hid (∀ x∈s,x∈r)∧Hid (TimesIn w2 rv s)∧Hid (GrowN w2 acc gv wr)∧Hid (acc.length+s.length≤1000000)) (fun _ rv _=>lenV rv)
 case atStart=>exact ⟨[],r,Lib.hid (by rw [←HGR.out];cases groupsR cols gs r <;> rfl),HSO,fun x hx=>hx,HT2,Lib.hid (GrowN.nil_ w2),Lib.hid (by rw [List.length_nil,Nat.zero_add];exact HRL.out)⟩
 case round =>
  clear HT2 HSO HGR HRL
  obtain ⟨acc,s,HE,HSO,HIN,HT,HGW,HLEN⟩:=hrel
  have HBR:=Lib.hid HGW.out.below
  obtain ⟨A9,p9,e9⟩:=HGW.out.slice
  cases s with
  | nil =>
   obtain ⟨A3,c3,e3⟩:=times_slice HT.out
   have e3':=e3.trans (show Value.slice A3 ([]:List Tm).length c3=.slice A3 0 c3 from rfl)
   subst e3'
   subst e9
   have HR:Hid (groupsP l cols gs=some acc):=by
    rw [HE.out]
    show some (acc++[])=_
    rw [List.append_nil]
   generalize acc.length=m9 at *
   go_wp2
   go_ret2
   exact GroupsEnd.yes HR.out (HGW.out.ends1 HB2.out)
  | cons x t =>
   have hroom:=HT.out
   obtain ⟨tvq,hsl,_⟩:=hroom
   obtain ⟨A3,c3,e3,hnc⟩:=hsl.room
   clear hsl
   subst e3
   subst e9
   have hmp:=alike_pos cols x t
   have HST:=Lib.hid (groups_step cols gs x t HSO.out)
   have HB2R:=Lib.hid (HB2.out.trans (HBR.out.mono HB2.out.size))
   have HAL:=Lib.hid (falike_calls (HT.out.kept HBR.out) (IntsIn.kept HC.out HB2R.out) fun y hy=>(HRM.out y (HIN.out y hy)).2)
   have hlen:(x::t).length=t.length+1:=List.length_cons ..
   have htk:∀ m,1≤m→(x::t).take m=x::t.take (m-1):=fun m hm=>by
    obtain ⟨q,rfl⟩:∃ q,m=q+1:=⟨m-1,by omega⟩
    rfl
   obtain ⟨m,hm⟩:∃ m,alikeN cols (x::t)=m:=⟨_,rfl⟩
   rw [hm] at HAL HST hmp
   have HFR:=Lib.hid (rows_front HT.out m (by omega))
   have HBK:=Lib.hid (rows_back HT.out hnc m (by omega) (by omega))
   rw [htk m hmp.1] at HFR HST
   have HGC:=Lib.hid fun W (hW:Below w2.heap.size w2 W)=>fgroup_calls (HFR.out.kept hW) (IntsIn.kept HC.out (HB2.out.trans (hW.mono HB2.out.size))) (HG.out.kept (HB2.out.trans (hW.mono HB2.out.size))) (fun y hy=>(HRM.out y (HIN.out y (by
    rcases List.mem_cons.1 hy with rfl|hy
    ·exact List.mem_cons_self ..
    ·exact List.mem_cons_of_mem _ (List.mem_of_mem_take hy)))).1) (HRM.out x (HIN.out x (List.mem_cons_self ..))).2 HCL.out HGL.out
   have HSN:Hid (SortedK cols ((x::t).drop m)):=Lib.hid (HSO.out.sublist (List.drop_sublist ..))
   have HIN2:Hid (∀ y∈(x::t).drop m,y∈r):=fun y hy=>HIN.out y (List.mem_of_mem_drop hy)
   have HL2:Hid (acc.length+1+((x::t).drop m).length≤1000000):=by
    have:=HLEN.out
    show _≤_
    rw [List.length_drop]
    omega
   have hn1:1≤m:=hmp.1
   have hn2:m≤(x::t).length:=by omega
   generalize (x::t).drop m=s2 at *
   generalize hsn:(x::t).length=n at *
   have hn0:1≤n:=by omega
   have HN12:=Lib.hid (And.intro hn1 (And.intro hn2 hn0))
   have hsT:=fun W=>rows_till W A3 n c3 m (by omega)
   have hsF:=fun W=>rows_from W A3 n c3 m hn2
   obtain ⟨A4,hA4⟩:∃ A4,(if c3=m then A3 else A3.map (·.add (m*2)))=A4:=⟨_,rfl⟩
   rw [hA4] at HBK
   simp only [hA4] at hsF
   clear hA4 hm hmp hlen htk hsn hnc HFR HSO HIN HLEN HT hn1 hn2 hn0
   have d0:=HN12.out.2.2
   go_wp2_with fail
   refine HAL.out.mono ?_
   rintro e w3 ⟨rfl,hq3⟩
   have HB3:=Lib.hid (HBR.out.trans (hq3.mono HBR.out.size))
   have HG3:=Lib.hid (GrowN.kept _ _ _ hq3 HGW.out)
   have hgc:=HGC.out w3 HB3.out
   clear HAL HGW HBR HB2R HGC hq3
   go_wp2_with fail
   refine hgc.mono ?_
   cases hv:valsP (x::t.take (m-1)) gs with
   | none =>
    have HR:Hid (groupsP l cols gs=none):=by
     rw [HE.out,HST.out,hv];exact Lib.hid rfl
    clear hv HST HE hgc
    rintro e w4 ⟨rfl,hq4⟩
    have HB4:=Lib.hid (HB2.out.trans ((HB3.out.trans (hq4.mono HB3.out.size)).mono HB2.out.size))
    clear hq4
    go_wp2
    go_ret2
    exact GroupsEnd.no HR.out HB4.out
   | some vs =>
    have HR:Hid (groupsP l cols gs=(groupsR cols gs s2).map ((acc++[(keyT cols x++vs,1)])++·)):=by
     rw [HE.out,HST.out,hv]
     refine Lib.hid ?_
     show ((groupsR cols gs s2).map _).map _=_
     cases groupsR cols gs s2 with
     | none=>rfl
     | some g=>show some (acc++((keyT cols x++vs,1)::g))=some (acc++[(keyT cols x++vs,1)]++g);rw [List.append_assoc];rfl
    clear hv HST HE hgc
    rintro e w4 ⟨kv,rfl,hO4,hq4⟩
    generalize keyT cols x++vs=row at *
    obtain ⟨A8,p8,e8⟩:=hO4.len
    subst e8
    have HF4:=Lib.hid (show Fresh w3.heap.size (.slice A8 row.length p8) from fun k hk=>(hO4.lt k hk).1)
    have HS4:=Lib.hid (strs_of hO4 rfl)
    have HLT:=Lib.hid HG3.out.lt
    have HOFF:=Lib.hid (RowOff.of_fresh HF4.out HLT.out)
    have HG4:=Lib.hid (GrowN.kept _ _ _ hq4 HG3.out)
    have hq5:=Below.alloc (.refl w4.heap.size w4) (Nat.le_refl _) (.cells #[.slice A8 row.length p8,.int .i64 1] 27)
    obtain ⟨tv8,hT8,hF8,hB8⟩:=HG4.out
    obtain ⟨m9,hm9⟩:∃ m,acc.length=m:=⟨_,rfl⟩
    have HM:Hid (acc.length=m9):=hm9
    have HL9:=Lib.hid HL2.out
    rw [hm9] at HL9 hT8 HOFF ⊢
    have hT9:=hT8.later hq5
    have HT9:=Lib.hid hT9
    have hO9:=hT9.own
    rw [hm9] at hO9
    have HO9:=Lib.hid hO9
    have HB9:=Lib.hid (hB8.trans (hq5.mono hB8.size))
    have HS9:=Lib.hid (StrsIn.kept HS4.out hq5)
    have HLIT:=Lib.hid (lit_tm w4 27 (.slice A8 row.length p8) 1)
    have H1:=Lib.hid (one_tm HS4.out 1)
    have HF9:=Lib.hid hF8
    have HFR:=Lib.hid (show Fresh w2.heap.size (.slice A8 row.length p8) from HF4.out.mono HB3.out.size)
    clear hO4 hq4 hq5 hT8 hT9 hO9 hF8 hB8 hm9 HG3 HG4 HS4 HF4 HLT
    have hml:=HL9.out
    go_wp2_with (at_builtin;refine wpList_append_src rfl (.tmp 34) (.tmp 37) 22 rfl 27 i0 (.agg #[.slice none 0 0,.int .i64 0]) 2 32 Try.underlying22 hi hz0 hz1 hz2 rfl (by decide) (B:=w2.heap.size) (.slice A9 m9 p9) m9 (timesV tv8) rfl HO9.out (.slice (some ⟨w4.heap.size,0,none⟩) 1 1) 1 [.slice A8 row.length p8,.int .i64 1] rfl HLIT.out H1.out (by unfold maxLen;omega) (by omega) HB9.out.size ?_)
    intro v7 w7 hO7 hg7 ha7
    have HG7:=Lib.hid (GrowN.add HT9.out HF9.out HB9.out HS9.out HFR.out HOFF.out hg7 (by simpa using ha7) hO7 (by rw [HM.out]))
    have HL7:Hid ((acc++[(row,(1:Int))]).length+s2.length≤1000000):=by
     have:=HL2.out
     show _≤_
     rw [List.length_append]
     exact this
    clear hO7 hg7 ha7 hml HT9 HF9 HB9 HS9 HFR HOFF HO9 HLIT H1 HL2 HL9 HM
    go_wp2
    go_roundw
    case rel=>exact ⟨acc++[(row,1)],s2,HR,HSN,HIN2,HBK,HG7,HL7⟩
    case measure =>
     have:=HN12.out
     show n-m < n
     omega
end Go.Proofs.Ytopeeokjfaampaa
