/- The contract of layer 20's group: a group's row. -/
import Derived.Test.YtopeeokjfaampaaGStrs
import Derived.Test.YtopeeokjfaampaaGZFoldPick
import Derived.Test.YtopeeokjfaampaaGZPairOn
import Derived.Test.YtopeeokjfaampaaGZFoldValue
namespace Go.Proofs.Ytopeeokjfaampaa
open Go Go.RowKit
theorem errN_some (c:ByteArray):errN (some c)=0:=rfl
theorem vals_take_none {l:List Tm}{gs:List (Int×Int)}{k:Nat}(hk:k < gs.length)(h:valP l gs[k]=none):valsP l gs=none:=vals_none l gs k hk h
theorem vals_take_some {l:List Tm}{gs:List (Int×Int)}{k:Nat}(hk:k < gs.length){vs:List ByteArray}{c:ByteArray}(h:valsP l (gs.take k)=some vs)(hc:valP l gs[k]=some c):valsP l (gs.take (k+1))=some (vs++[c]):=by
 rw [take_add gs k hk]
 exact vals_snoc l _ _ vs c h hc
def GroupEnd (w:World)(key:List ByteArray)(o:Option (List ByteArray))(e:Ending)(w':World):Prop :=
 match o with
 | some vs=>∃ v,e=.returned (.tuple #[v,.int .i64 0])∧Own w' w.heap.size 1 v (key++vs).length ((key++vs).map Value.string)∧Below w.heap.size w w'
 | none=>e=.returned (.tuple #[.slice none 0 0,.int .i64 7])∧Below w.heap.size w w'
theorem GroupEnd.yes {w w':World}{key vs:List ByteArray}{o:Option (List ByteArray)}{v:Value}(h:o=some vs)(hO:Own w' w.heap.size 1 v (key++vs).length ((key++vs).map Value.string))(hb:Below w.heap.size w w'):GroupEnd w key o (.returned (.tuple #[v,.int .i64 0])) w':=by
 subst h;exact ⟨v,rfl,hO,hb⟩
theorem GroupEnd.no {w w':World}{key:List ByteArray}{o:Option (List ByteArray)}(h:o=none)(hb:Below w.heap.size w w'):GroupEnd w key o (.returned (.tuple #[.slice none 0 0,.int .i64 7])) w':=by
 subst h;exact ⟨rfl,hb⟩
theorem one_str_cell (c:ByteArray):∀ u∈[Value.string c],u.oneCell'=true:=fun u hu=>by rw [List.mem_singleton.1 hu];rfl
set_option maxHeartbeats 4000000 in
set_option maxRecDepth 100000 in
theorem fgroup_calls {w:World}{v vc vg:Value}{x:Tm}{t:List Tm}{cols:List Int}{gs:List (Int×Int)}(h:TimesIn w v (x::t))(hc:IntsIn w vc cols)(hg:OnIn w vg gs)(hN:∀ y∈x::t,-9223372036854775808≤y.2∧y.2≤9223372036854775807)
  (ho:pickOk x.1 cols=true) (hcl:cols.length≤1000000) (hgl:gs.length≤1000000) :
  Calls Try.prog 16 #[v,vc,vg] w (GroupEnd w (keyT cols x) (valsP (x::t) gs)):=by
 obtain ⟨i0,hi,hz0,hz1,hz2⟩:=info_parts Try.infoP9
 have HT:=Lib.hid h
 obtain ⟨tv,A,cap,rfl,hro,hat⟩:=times_at h
 obtain ⟨b,off,rfl,hbl,hc0⟩:=hat 0 (by simp)
 obtain ⟨r0,hs0,htv,c0,c9⟩:=hc0 0 (by simp)
 obtain ⟨A0,p0,rfl⟩:∃ A0 p0,r0=.slice A0 x.1.length p0:=by obtain ⟨A0,p0,e,_⟩:=one_at hs0;exact ⟨A0,p0,e⟩
 obtain ⟨Ac,cc,rfl,_⟩:=one_at hc
 obtain ⟨Ag,cg,rfl,_,hatg⟩:=on_at hg
 replace hs0:StrsIn w (.slice A0 x.1.length p0) x.1:=hs0
 have HPK:=Lib.hid (shape_pick_own hs0 hc hcl ho)
 have HATG:=Lib.hid hatg
 have HNN:=Lib.hid hN
 have HGL:=Lib.hid hgl
 have HKL:Hid ((keyT cols x).length=cols.length):=by show (pickF x.1 cols).length=_;exact pickF_length _ _
 have HKE:Hid (pickF x.1 cols=keyT cols x):=Lib.hid rfl
 rw [HKE.out] at HPK
 have HCL:=Lib.hid hcl
 obtain ⟨n,hn⟩:∃ n,(x::t).length=n:=⟨_,rfl⟩
 have i0':(0:Int) < (n:Int):=by rw [←hn,List.length_cons];omega
 rw [hn]
 rw [hn] at HT
 rw [Nat.zero_mul,Nat.add_zero] at c0
 clear hro htv c9
 clear h hc hg hat hc0 hatg hN ho hcl hgl hs0 hn HKE
 generalize keyT cols x=key at *
 generalize x::t=l at *
 go_enter Try.func16,Try.ntmps16
 go_wp2_with fail
 refine HPK.out.mono ?_
 rintro e w2 ⟨kv,rfl,hO2,hb2⟩
 have HO2:=Lib.hid hO2
 have HB2:=Lib.hid hb2
 clear HPK hO2 hb2 c0
 go_wp2
 go_loopw [8,25] (fun y i wr=>∃ k:Nat,k≤gs.length∧i=.int .i64 k∧Hid (∃ vs,valsP l (gs.take k)=some vs∧vs.length=k∧Own wr w.heap.size 1 y (cols.length+k) ((key++vs).map Value.string)∧Below w.heap.size w wr)) (fun _ i _=>gs.length-(intOf i).toNat)
 case atStart=>exact ⟨0,Nat.zero_le _,rfl,Lib.hid ⟨[],rfl,rfl,by rw [List.append_nil];exact HO2.out,HB2.out⟩⟩
 case round =>
  clear HO2 HB2
  obtain ⟨k,hk,rfl,HG⟩:=hrel
  obtain ⟨vs,hvs,hvl,hO,hb⟩:=HG.out
  have HB:=Lib.hid hb
  have HVS:=Lib.hid hvs
  have HVL:=Lib.hid hvl
  obtain ⟨A8,p8,e8⟩:=hO.len
  subst e8
  have HO:=Lib.hid hO
  clear HG hvs hvl hO hb
  by_cases hlt:k < gs.length
  ·obtain ⟨bg,og,rfl,hlg,hcg⟩:=HATG.out k hlt
   obtain ⟨g0,g1⟩:=hcg k hlt
   have x0:=(HB.out.cell (p:=⟨bg,og+k*2,none⟩) hlg).trans g0
   have x1:=(HB.out.cell (p:=⟨bg,og+k*2+1,none⟩) hlg).trans g1
   have HNO:=Lib.hid (fun h=>vals_take_none (l:=l) hlt h)
   have HYE:=Lib.hid (fun c h=>vals_take_some (c:=c) hlt HVS.out h)
   have HLK:Hid (k < gs.length):=hlt
   have i1:(k:Int) < (gs.length:Int):=by omega
   have hgl:=HGL.out
   clear hcg g0 g1
   generalize gs[k]=ag at *
   obtain ⟨way,col⟩:=ag
   dsimp only at *
   have hq2:=Below.alloc (.refl wr.heap.size wr) (Nat.le_refl _) (.cells #[.int .i64 way,.int .i64 col] 31)
   have HV:=Lib.hid (fvalue_calls (way,col) (HT.out.kept (HB.out.trans (hq2.mono HB.out.size))) HNN.out)
   unfold aggV at HV
   dsimp only at HV
   have HQ2:=Lib.hid hq2
   clear hq2 hlt hk
   go_wp2_with fail
   refine HV.out.mono ?_
   rintro e w3 ⟨rfl,hq⟩
   have HB3:=Lib.hid (HB.out.trans ((HQ2.out.trans (hq.mono HQ2.out.size)).mono HB.out.size))
   have HO3:=Lib.hid ((HO.out.later HQ2.out).later hq)
   clear hq HV x0 x1 HQ2 HO
   cases hvp:valP l (way,col) with
   | none =>
    have HR:=Lib.hid (HNO.out hvp)
    have e1:errN none=7:=rfl
    clear hvp HNO HYE
    go_wp2
    go_ret2
    exact GroupEnd.no HR.out HB3.out
   | some c =>
    have HR:=Lib.hid (HYE.out c hvp)
    have e1:errN (some c)=0:=rfl
    have e2:gotN (some c)=c:=rfl
    have hq4:=Below.alloc (.refl w3.heap.size w3) (Nat.le_refl _) (.cells #[.string c] 9)
    have HO4:=Lib.hid (HO3.out.later hq4)
    have HB4:=Lib.hid (HB3.out.trans (hq4.mono HB3.out.size))
    have HLIT:=Lib.hid (lit_ones Value.string w3 9 [c] (by show 1≤1000;decide))
    have HCL2:=HCL.out
    have H1:=Lib.hid (one_str_cell c)
    have hlk:=HLK.out
    clear hvp HNO HYE hq4
    go_wp2_with (at_builtin;refine wpList_append_src rfl (.tmp 38) (.tmp 40) 25 rfl 9 i0 (.string ⟨#[]⟩) 1 16 Try.underlying25 hi hz0 hz1 hz2 rfl (by decide) (B:=w.heap.size) (.slice A8 (cols.length+k) p8) (cols.length+k) ((key++vs).map Value.string) rfl HO4.out (.slice (some ⟨w3.heap.size,0,none⟩) 1 1) 1 [.string c] rfl HLIT.out H1.out (by unfold maxLen;omega) (by omega) HB4.out.size ?_)
    intro v7 w7 hO7 hg7 ha7
    have HG7:Hid (∃ vs,valsP l (gs.take (k+1))=some vs∧vs.length=k+1∧Own w7 w.heap.size 1 v7 (cols.length+(k+1)) ((key++vs).map Value.string)∧Below w.heap.size w w7):=by
     refine ⟨vs++[c],HR.out,by rw [List.length_append,HVL.out];rfl,?_,HB4.out.grown hg7 HB4.out.size fun k hk=>(HO4.out.lt k hk).1⟩
     rw [show cols.length+(k+1)=cols.length+k+1 by omega,show (key++(vs++[c])).map Value.string=key.map Value.string++(vs.map Value.string++[Value.string c]) by simp]
     exact hO7
    clear hO7 hg7 ha7
    go_wp2
    go_roundw
    case rel=>exact ⟨k+1,HLK.out,by go_num,HG7⟩
    case measure=>have:=HLK.out;simp [intOf];omega
  ·obtain rfl:k=gs.length:=by omega
   rw [List.take_length] at HVS
   have i1:¬(gs.length:Int) < (gs.length:Int):=by omega
   go_wp2
   go_ret2
   have e:(key++vs).length=cols.length+gs.length:=by rw [List.length_append,HKL.out,HVL.out]
   exact GroupEnd.yes HVS.out (by rw [e];exact HO.out) HB.out
end Go.Proofs.Ytopeeokjfaampaa
