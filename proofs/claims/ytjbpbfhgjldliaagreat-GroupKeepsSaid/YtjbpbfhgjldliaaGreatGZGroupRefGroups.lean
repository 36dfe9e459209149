/- The contract of the answer's Groups of layer 20. -/
import Derived.Test.YtjbpbfhgjldliaaGreatGTimes
import Derived.Test.YtjbpbfhgjldliaaGreatGWeighRef
import Derived.Test.YtjbpbfhgjldliaaGreatGPairOn
import Derived.Test.YtjbpbfhgjldliaaGreatGGroupOwn
import Derived.Test.YtjbpbfhgjldliaaGreatGZGroupRefValue
import Derived.Test.YtjbpbfhgjldliaaGreatGZSieveRef
namespace Go.Proofs.YtjbpbfhgjldliaaGreat
open Go Go.RowKit
structure KeysP (by_:List Int) (l K:List Tm):Prop where
 right:RightP K
 one:∀ t∈K,t.2=1
 mem:∀ k,(∃ t∈K,t.1=k)↔∃ x∈okL by_ l,keyT by_ x=k
 len:K.length≤l.length
 keys:∀ t∈K,t.1.length=by_.length
theorem KeysP.nil_ (by_:List Int):KeysP by_ [] []:=⟨RightP.nil,fun _ h=>absurd h (by simp),fun k=>by simp [okL],Nat.le_refl _,fun _ h=>absurd h (by simp)⟩
theorem okL_snoc (by_:List Int)(l:List Tm)(x:Tm):okL by_ (l++[x])=okL by_ l++if pickOk x.1 by_=true then [x] else []:=by
 unfold okL
 rw [List.filter_append]
 congr 1
 rw [List.filter_cons]
 split <;> rfl
theorem KeysP.skip {by_:List Int}{l K:List Tm}{x:Tm}(h:KeysP by_ l K)(hx:pickOk x.1 by_=false):KeysP by_ (l++[x]) K:=by
 refine ⟨h.right,h.one,fun k=>?_,by rw [List.length_append];exact Nat.le_succ_of_le h.len,h.keys⟩
 rw [okL_snoc,if_neg (by rw [hx];decide),List.append_nil]
 exact h.mem k
theorem KeysP.old {by_:List Int}{l K:List Tm}{x:Tm}(h:KeysP by_ l K)(hx:pickOk x.1 by_=true)(hc:cntW K (keyT by_ x)≠0):KeysP by_ (l++[x]) K:=by
 refine ⟨h.right,h.one,fun k=>?_,by rw [List.length_append];exact Nat.le_succ_of_le h.len,h.keys⟩
 rw [okL_snoc,if_pos hx,h.mem k]
 constructor
 ·rintro ⟨y,hy,e⟩;exact ⟨y,List.mem_append_left _ hy,e⟩
 ·rintro ⟨y,hy,e⟩
  rcases List.mem_append.1 hy with hy|hy
  ·exact ⟨y,hy,e⟩
  ·rw [List.mem_singleton.1 hy] at e
   rw [←e]
   exact (h.mem _).1 (cnt_not_mem hc)
theorem KeysP.new {by_:List Int}{l K:List Tm}{x:Tm}(h:KeysP by_ l K)(hx:pickOk x.1 by_=true)(hc:cntW K (keyT by_ x)=0):KeysP by_ (l++[x]) (putW K (keyT by_ x,1)):=by
 have hr:RightP (putW K (keyT by_ x,1)):=h.right.put _
 have hcn:=cntW_put K (keyT by_ x,1)
 have hkm:∀ k,(∃ t∈putW K (keyT by_ x,1),t.1=k)↔(∃ t∈K,t.1=k)∨keyT by_ x=k:=fun k=>by
  constructor
  ·rintro ⟨t,ht,rfl⟩
   have h1:=cnt_mem hr ht
   rw [hcn] at h1
   dsimp only at h1
   by_cases e:keyT by_ x=t.1
   ·exact .inr e
   ·rw [if_neg e,Int.add_zero] at h1
    have h2:=hr.2 t ht
    exact .inl (cnt_not_mem (by rw [h1];exact h2))
  ·intro hk
   refine cnt_not_mem ?_
   rw [hcn]
   dsimp only
   rcases hk with ⟨t,ht,rfl⟩|rfl
   ·have h1:=cnt_mem h.right ht
    have h2:=h.one t ht
    rw [h1,h2]
    split <;> omega
   ·rw [if_pos rfl,hc];decide
 refine ⟨hr,fun t ht=>?_,fun k=>?_,?_,fun t ht=>?_⟩
 ·have h1:=cnt_mem hr ht
  have h2:=hr.2 t ht
  rw [hcn] at h1
  dsimp only at h1
  by_cases e:keyT by_ x=t.1
  ·rw [if_pos e,←e,hc] at h1;omega
  ·rw [if_neg e,Int.add_zero] at h1
   obtain ⟨u,hu,e2⟩:=cnt_not_mem (l:=K) (r:=t.1) (by rw [h1];exact h2)
   have h3:=cnt_mem h.right hu
   rw [e2,h1,h.one u hu] at h3
   exact h3
 ·rw [hkm,okL_snoc,if_pos hx,h.mem k]
  constructor
  ·rintro (⟨y,hy,e⟩|e)
   ·exact ⟨y,List.mem_append_left _ hy,e⟩
   ·exact ⟨x,List.mem_append_right _ (List.mem_singleton.2 rfl),e⟩
  ·rintro ⟨y,hy,e⟩
   rcases List.mem_append.1 hy with hy|hy
   ·exact .inl ⟨y,hy,e⟩
   ·rw [List.mem_singleton.1 hy] at e;exact .inr e
 ·have:=put_length K (keyT by_ x,1)
  have:=h.len
  rw [List.length_append]
  simp only [List.length_singleton]
  omega
 ·rcases (hkm t.1).1 ⟨t,ht,rfl⟩ with ⟨u,hu,e⟩|e
  ·rw [←e];exact h.keys u hu
  ·rw [←e];exact pickF_length _ _
theorem wt_ones {K:List Tm}(h:∀ t∈K,t.2=1):wtW K=K.length:=by
 induction K with
 | nil=>rfl
 | cons x K ih =>
  have h1:=h x (List.mem_cons_self ..)
  have h2:=ih fun t ht=>h t (List.mem_cons_of_mem _ ht)
  simp only [wtW,List.length_cons]
  rw [h2,h1]
  have:(1:Int).natAbs=1:=rfl
  omega
theorem groupsK_snoc {by_:List Int}{gs:List (Int×Int)}{L:List Tm}{k vs:List ByteArray}:∀ {ks:List (List ByteArray)}{acc:List Tm},groupsK by_ gs L ks=some acc→valsP (ofKey by_ k L) gs=some vs→groupsK by_ gs L (ks++[k])=some (acc++[(k++vs,1)])
 | [],acc,h1,h2=>by
  cases h1
  show (match valsP (ofKey by_ k L) gs with|none=>none|some vs=>(some []).map ((k++vs,(1:Int))::·))=_
  rw [h2];rfl
 | a::ks,acc,h1,h2=>by
  change (match valsP (ofKey by_ a L) gs with|none=>none|some vs=>(groupsK by_ gs L ks).map ((a++vs,(1:Int))::·))=_ at h1
  show (match valsP (ofKey by_ a L) gs with|none=>none|some vs=>(groupsK by_ gs L (ks++[k])).map ((a++vs,(1:Int))::·))=_
  cases hv:valsP (ofKey by_ a L) gs with
  | none=>rw [hv] at h1;cases h1
  | some us =>
   rw [hv] at h1
   cases hg:groupsK by_ gs L ks with
   | none=>rw [hg] at h1;cases h1
   | some bs =>
    rw [hg] at h1
    cases h1
    rw [groupsK_snoc (acc:=bs) hg h2];rfl
theorem groupsK_bad {by_:List Int}{gs:List (Int×Int)}{L:List Tm}{k:List ByteArray}:∀ {ks:List (List ByteArray)},k∈ks→valsP (ofKey by_ k L) gs=none→groupsK by_ gs L ks=none
 | a::ks,hk,h=>by
  show (match valsP (ofKey by_ a L) gs with|none=>none|some vs=>(groupsK by_ gs L ks).map ((a++vs,(1:Int))::·))=_
  rcases List.mem_cons.1 hk with rfl|hk
  ·rw [h]
  ·rw [groupsK_bad hk h]
   cases valsP (ofKey by_ a L) gs <;> rfl
theorem own_take (by_:List Int)(k:List ByteArray)(l:List Tm)(i:Nat)(h:i < l.length):ofKey by_ k (okL by_ (l.take (i+1)))=ofKey by_ k (okL by_ (l.take i))++if pickOk l[i].1 by_=true∧keyT by_ l[i]=k then [l[i]] else []:=by
 rw [take_add l i h,okL_snoc]
 unfold ofKey
 rw [List.filter_append]
 congr 1
 by_cases h1:pickOk l[i].1 by_=true
 ·rw [if_pos h1,List.filter_cons]
  by_cases h2:keyT by_ l[i]=k
  ·rw [if_pos (by simpa using h2),if_pos ⟨h1,h2⟩];rfl
  ·rw [if_neg (by simpa using h2),if_neg (by rintro ⟨_,h⟩;exact h2 h)];rfl
 ·rw [if_neg h1,if_neg (by rintro ⟨h,_⟩;exact h1 h)];rfl
theorem vtake_none {l:List Tm}{gs:List (Int×Int)}{k:Nat}(h:k < gs.length)(e:valP l gs[k]=none):valsP l gs=none:=vals_none l gs k h e
theorem vtake_some {l:List Tm}{gs:List (Int×Int)}{k:Nat}{vs:List ByteArray}{c:ByteArray}(h:k < gs.length)(h1:valsP l (gs.take k)=some vs)(e:valP l gs[k]=some c):valsP l (gs.take (k+1))=some (vs++[c]):=by
 rw [take_add gs k h]
 exact vals_snoc l gs[k] (gs.take k) vs c h1 e
theorem vone_cell (c:ByteArray):∀ u∈[Value.string c],u.oneCell'=true:=fun u hu=>by rw [List.mem_singleton.1 hu];rfl
def RGroupsEnd (w:World)(l:List Tm)(by_:List Int)(gs:List (Int×Int))(e:Ending)(w':World):Prop :=
 ∃ K:List Tm,KeysP by_ l K∧Below w.heap.size w w'∧match groupsK by_ gs (okL by_ l) (K.map (·.1)) with
  | some L=>∃ v,e=.returned (.tuple #[v,.int .i64 0])∧TimesIn w' v L
  | none=>e=.returned (.tuple #[.slice none 0 0,.int .i64 7])
theorem RGroupsEnd.no {w w':World}{l:List Tm}{by_:List Int}{gs:List (Int×Int)}{K:List Tm}(h:KeysP by_ l K)(hb:Below w.heap.size w w')(e:groupsK by_ gs (okL by_ l) (K.map (·.1))=none):RGroupsEnd w l by_ gs (.returned (.tuple #[.slice none 0 0,.int .i64 7])) w':=⟨K,h,hb,by rw [e]⟩
theorem RGroupsEnd.yes {w w':World}{l:List Tm}{by_:List Int}{gs:List (Int×Int)}{K L:List Tm}{v:Value}(h:KeysP by_ l K)(hb:Below w.heap.size w w')(e:groupsK by_ gs (okL by_ l) (K.map (·.1))=some L)(ht:TimesIn w' v L):RGroupsEnd w l by_ gs (.returned (.tuple #[v,.int .i64 0])) w':=⟨K,h,hb,by rw [e];exact ⟨v,rfl,ht⟩⟩
set_option maxHeartbeats 8000000 in
set_option maxRecDepth 100000 in
theorem rgroups_calls {w:World}{lv bv agv:Value}{l:List Tm}{by_:List Int}{gs:List (Int×Int)}(h:TimesIn w lv l)(hb:IntsIn w bv by_)(ha:OnIn w agv gs)(hN:∀ x∈l,-9223372036854775808≤x.2∧x.2≤9223372036854775807)(hl:l.length≤100000)(hbl:by_.length≤1000)(hgl:gs.length≤1000) :
  Calls Tryz.prog 9 #[lv,bv,agv] w (RGroupsEnd w l by_ gs):=by
 have HT:=Lib.hid h
 have HI:=Lib.hid hb
 have HO:=Lib.hid ha
 obtain ⟨tv,A,cap,rfl,_,hat⟩:=times_at h
 obtain ⟨Ac,cc,rfl,_⟩:=one_at hb
 obtain ⟨Aa,ca,rfl,_,haat⟩:=on_at ha
 have HAT:=Lib.hid hat
 have HAAT:=Lib.hid haat
 have HNN:=Lib.hid hN
 have HL:=Lib.hid hl
 have HBL:=Lib.hid hbl
 have HGL:=Lib.hid hgl
 clear h hb ha hat haat hN hl hbl hgl
 go_enter Tryz.func9,Tryz.ntmps9
 go_wp2
 go_loopw [9,10] (fun kv i wr=>∃ k:Nat,k≤l.length∧i=.int .i64 k∧∃ K,Hid (KeysP by_ (l.take k) K)∧Hid (TimesIn wr kv K)∧Hid (Below w.heap.size w wr)) (fun _ i _=>l.length-(intOf i).toNat)
 case atStart=>exact ⟨0,Nat.zero_le _,rfl,[],Lib.hid (by rw [List.take_zero];exact KeysP.nil_ by_),Lib.hid (TimesIn.nil_ _ _ _),Lib.hid (.refl _ _)⟩
 case round =>
  obtain ⟨k,hk,rfl,K,HK,HKT,HB⟩:=hrel
  obtain ⟨AK,cK,ek⟩:=times_slice HKT.out
  obtain ⟨nK,hnk⟩:∃ n,K.length=n:=⟨_,rfl⟩
  have HNK:=Lib.hid hnk
  rw [hnk] at ek
  subst ek
  clear hnk
  have HKL:Hid (nK≤100000∧wtW K≤100000):=Lib.hid (by
   have h1:=HK.out.len
   have h2:=wt_ones HK.out.one
   have h3:=HL.out
   have h4:=HNK.out
   rw [List.length_take] at h1
   omega)
  by_cases hlt:k < l.length
  ·obtain ⟨b,off,rfl,hbl,hc⟩:=HAT.out k hlt
   obtain ⟨rv,hs,-,c1,c2⟩:=hc k hlt
   have x1:=(HB.out.cell (p:=⟨b,off+k*2,none⟩) hbl).trans c1
   have HSV:=Lib.hid (StrsIn.kept hs HB.out)
   have HTA:=Lib.hid (take_add l k hlt)
   have HLK:Hid (k < l.length):=hlt
   have i1:(k:Int) < (l.length:Int):=by omega
   have q1:IntKind.i64.wrap ((k:Int)+1)=(k:Int)+1:=by have:=HL.out;rw [IntKind.wrap_i64];omega
   clear hc c1 c2 hs
   obtain ⟨x,hx⟩:∃ x,(l[k]'hlt)=x:=⟨_,rfl⟩
   rw [hx] at HTA HSV
   clear hx hlt hk hbl
   obtain ⟨row,n⟩:=x
   dsimp only at HSV
   obtain ⟨Ar,pr,rfl,_⟩:=one_at HSV.out
   have HPK:=Lib.hid (ref_shape_pick_new HSV.out (IntsIn.kept HI.out HB.out) (by have:=HBL.out;omega))
   cases ho:pickOk row by_ with
   | false =>
    have HKN:Hid (KeysP by_ (l.take (k+1)) K):=Lib.hid (by rw [HTA.out];exact HK.out.skip ho)
    have hpk:=HPK.out.mono fun _ _ he=>he.no1 ho
    clear ho HPK HK
    go_wp2_with fail
    refine hpk.mono ?_
    rintro e w2 ⟨A8,p8,rfl,hq⟩
    have HB2:=Lib.hid (HB.out.trans (hq.mono HB.out.size))
    have HKT2:=Lib.hid (HKT.out.kept hq)
    clear hpk hq x1
    go_wp2
    go_roundw
    case rel=>exact ⟨k+1,HLK.out,by go_num,K,HKN,HKT2,HB2⟩
    case measure=>have:=HLK.out;simp [intOf];omega
   | true =>
    have hpk:=HPK.out.mono fun _ _ he=>he.yes1 ho
    have HKO:Hid (cntW K (keyT by_ (row,n))≠0→KeysP by_ (l.take (k+1)) K):=Lib.hid fun hc=>by rw [HTA.out];exact HK.out.old ho hc
    have HKN:Hid (cntW K (keyT by_ (row,n))=0→KeysP by_ (l.take (k+1)) (putW K (keyT by_ (row,n),1))):=Lib.hid fun hc=>by rw [HTA.out];exact HK.out.new ho hc
    clear ho HPK HK
    have HKE:Hid (pickF row by_=keyT by_ (row,n)):=Lib.hid rfl
    rw [HKE.out] at hpk
    clear HKE
    generalize keyT by_ (row,n)=key at *
    go_wp2_with fail
    refine hpk.mono ?_
    rintro e w2 ⟨A8,p8,rfl,hs2,_,hq⟩
    have HB2:=Lib.hid (HB.out.trans (hq.mono HB.out.size))
    have HKT2:=Lib.hid (HKT.out.kept hq)
    have HS2:=Lib.hid hs2
    clear hpk hq x1 hs2
    have HFI:=Lib.hid (ref_weigh_find_calls HKT2.out HS2.out (by have:=HKL.out.2;omega))
    go_wp2_with fail
    obtain ⟨cn,hcn⟩:∃ c,cntW K key=c:=⟨_,rfl⟩
    rw [hcn] at HFI HKO HKN
    clear hcn
    refine HFI.out.mono ?_
    rintro e w3 ⟨rfl,hq⟩
    have HB3:=Lib.hid (HB2.out.trans (hq.mono HB2.out.size))
    have HKT3:=Lib.hid (HKT2.out.kept hq)
    have HS3:=Lib.hid (StrsIn.kept HS2.out hq)
    clear hq HFI HB2 HKT2 HS2 HB HKT HSV
    by_cases hc0:cn=0
    ·have HKN2:=Lib.hid (HKN.out hc0)
     subst hc0
     clear HKN HKO
     have HPU:=Lib.hid (ref_weigh_put_calls (n:=1) HKT3.out HS3.out (by have:=HKL.out.1;have:=HNK.out;omega) (by have:=HKL.out.2;have:(1:Int).natAbs=1:=rfl;omega))
     unfold timesA at HPU
     go_wp2_with fail
     refine HPU.out.mono ?_
     rintro e w4 ⟨v4,rfl,h4,hq⟩
     have HB4:=Lib.hid (HB3.out.trans (hq.mono HB3.out.size))
     have HKT4:=Lib.hid h4
     clear h4 hq HPU HB3 HKT3 HS3
     go_wp2
     go_roundw
     case rel=>exact ⟨k+1,HLK.out,by go_num,_,HKN2,HKT4,HB4⟩
     case measure=>have:=HLK.out;simp [intOf];omega
    ·have HKN2:=Lib.hid (HKO.out hc0)
     have hc1:(cn==0)=false:=by rw [beq_eq_false_iff_ne];exact hc0
     clear HKN HKO hc0 HS3
     go_wp2
     go_roundw
     case rel=>exact ⟨k+1,HLK.out,by go_num,K,HKN2,HKT3,HB3⟩
     case measure=>have:=HLK.out;simp [intOf];omega
  ·obtain rfl:k=l.length:=by omega
   rw [List.take_length] at HK
   have i1:¬(l.length:Int) < (l.length:Int):=by omega
   clear hlt hk
   obtain ⟨s0,si,sz0,sz1,sz2⟩:=info_parts Tryz.infoP9
   obtain ⟨m0,mi,mz0,mz1,mz2⟩:=info_parts Tryz.infoM49
   obtain ⟨tvk,AK2,cK2,ek,-,hkat⟩:=times_at HKT.out
   obtain ⟨rfl,rfl⟩:AK=AK2∧cK=cK2:=by injection ek with e1 _ e2;exact ⟨e1,e2⟩
   have HKAT:=Lib.hid hkat
   clear ek hkat
   obtain ⟨w1,hw1⟩:∃ x,x=wr:=⟨_,rfl⟩
   subst hw1
   go_wp2
   go_loopw [8,13] (fun ov i wr=>∃ k:Nat,k≤nK∧i=.int .i64 k∧∃ acc,Hid (groupsK by_ gs (okL by_ l) ((K.take k).map (·.1))=some acc∧acc.length=k)∧Hid (GrowN w1 acc ov wr)) (fun _ i _=>nK-(intOf i).toNat)
   case atStart=>exact ⟨0,Nat.zero_le _,rfl,[],Lib.hid ⟨by rw [List.take_zero];rfl,rfl⟩,Lib.hid (GrowN.nil_ w1)⟩
   case round =>
    obtain ⟨k,hk,rfl,acc,HACC,HG⟩:=hrel
    have HB2:=Lib.hid (HB.out.trans (HG.out.below.mono HB.out.size))
    obtain ⟨A9,p9,e9⟩:=HG.out.slice
    rw [HACC.out.2] at e9
    subst e9
    by_cases hlt:k < nK
    ·have hkl:k < K.length:=by have:=HNK.out;omega
     obtain ⟨b3,o3,rfl,hb3,hck⟩:=HKAT.out k hkl
     obtain ⟨kv,hks,-,y1,-⟩:=hck k hkl
     have HTA:=Lib.hid (take_add K k hkl)
     have HKB:=Lib.hid (HK.out.keys (K[k]'hkl) (List.getElem_mem hkl))
     have HMEM:=Lib.hid (List.getElem_mem hkl)
     obtain ⟨x,hx⟩:∃ x,(K[k]'hkl)=x:=⟨_,rfl⟩
     rw [hx] at HTA HKB HMEM hks
     obtain ⟨kk,n1⟩:=x
     dsimp only at HKB hks
     change kk.length=_ at HKB
     have HKK:Hid (kk∈K.map (·.1)):=Lib.hid (List.mem_map.2 ⟨_,HMEM.out,rfl⟩)
     have HTK:Hid ((K.take (k+1)).map (·.1)=(K.take k).map (·.1)++[kk]):=Lib.hid (by rw [HTA.out,List.map_append];rfl)
     obtain ⟨kA,kp,rfl,-⟩:=one_at hks
     have hkb:kk.length=by_.length:=HKB
     rw [hkb] at hks y1
     clear HKB
     have HKL2:Hid (kk.length=by_.length):=hkb
     have HY1:=Lib.hid fun W (hW:Below w1.heap.size w1 W)=>(hW.cell (p:=⟨b3,o3+k*2,none⟩) hb3).trans y1
     have HKS:=Lib.hid fun W (hW:Below w1.heap.size w1 W)=>StrsIn.kept hks hW
     have HLK:Hid (k < nK):=hlt
     have i1:(k:Int) < (nK:Int):=by omega
     have q1:IntKind.i64.wrap ((k:Int)+1)=(k:Int)+1:=by have:=HKL.out.1;rw [IntKind.wrap_i64];omega
     clear hx hck hks y1 hkl hlt hk hb3 hkb HMEM HTA
     obtain ⟨nB,hnB⟩:∃ n,by_.length=n:=⟨_,rfl⟩
     have HNB:=Lib.hid hnB
     have hbl9:=HBL.out
     rw [hnB] at HKL2 hbl9
     have HKSB:Hid (∀ W,Below w1.heap.size w1 W→StrsIn W (.slice kA nB kp) kk∧W.cell? ⟨b3,o3+k*2,none⟩=some (.slice kA nB kp)):=Lib.hid fun W hW=>⟨by rw [←hnB];exact HKS.out W hW,by rw [←hnB];exact HY1.out W hW⟩
     clear HKS HY1 hnB
     obtain ⟨wo,hwo⟩:∃ x,x=wr:=⟨_,rfl⟩
     subst hwo
     have HOL:Hid (∀ j,(ofKey by_ kk (okL by_ (l.take j))).length≤100000):=Lib.hid fun j=>by
      have h1:=List.length_filter_le (fun x=>decide (keyT by_ x=kk)) (okL by_ (l.take j))
      have h2:=List.length_filter_le (fun x:Tm=>pickOk x.1 by_) (l.take j)
      have h3:=HL.out
      rw [List.length_take] at h2
      unfold ofKey okL at *
      omega
     go_wp2
     go_loopw [14,15] (fun v i wr=>∃ j:Nat,j≤l.length∧i=.int .i64 j∧Hid (GrowQ (fun _=>True) wo (ofKey by_ kk (okL by_ (l.take j))) v wr)) (fun _ i _=>l.length-(intOf i).toNat)
     case atStart=>exact ⟨0,Nat.zero_le _,rfl,Lib.hid (by rw [List.take_zero];exact GrowQ.nil_ _ wo)⟩
     case round =>
      obtain ⟨j,hj,rfl,HO3⟩:=hrel
      have HB3:=Lib.hid (HB2.out.trans (HO3.out.below.mono HB2.out.size))
      have HB31:=Lib.hid (HG.out.below.trans (HO3.out.below.mono HG.out.below.size))
      obtain ⟨A7,p7,e7⟩:=HO3.out.slice
      have HOJ:=Lib.hid (HOL.out j)
      by_cases hjl:j < l.length
      ·obtain ⟨b,off,rfl,hbl,hc⟩:=HAT.out j hjl
       obtain ⟨rv,hs,-,c1,c2⟩:=hc j hjl
       have HX1:=Lib.hid fun W (hW:Below w.heap.size w W)=>(hW.cell (p:=⟨b,off+j*2,none⟩) hbl).trans c1
       have HX2:=Lib.hid fun W (hW:Below w.heap.size w W)=>(hW.cell (p:=⟨b,off+j*2+1,none⟩) hbl).trans c2
       have HS0:=Lib.hid hs
       have HTJ:=Lib.hid (own_take by_ kk l j hjl)
       obtain ⟨OJ,hoj⟩:∃ o,ofKey by_ kk (okL by_ (l.take j))=o:=⟨_,rfl⟩
       rw [hoj] at HTJ HO3 HOJ e7
       obtain ⟨m9,hm9⟩:∃ m,OJ.length=m:=⟨_,rfl⟩
       have HM:Hid (OJ.length=m9):=hm9
       rw [hm9] at e7 HOJ
       subst e7
       have HLJ:Hid (j < l.length):=hjl
       have i2:(j:Int) < (l.length:Int):=by omega
       have q2:IntKind.i64.wrap ((j:Int)+1)=(j:Int)+1:=by have:=HL.out;rw [IntKind.wrap_i64];omega
       clear hc c1 c2 hs hoj hm9
       obtain ⟨x,hx⟩:∃ x,(l[j]'hjl)=x:=⟨_,rfl⟩
       rw [hx] at HTJ HS0 HX2
       clear hx hjl hj hbl
       obtain ⟨row,n⟩:=x
       dsimp only at HS0 HX2 HTJ
       obtain ⟨Ar,pr,rfl,-⟩:=one_at HS0.out
       have x1:=HX1.out wr HB3.out
       have HPK:=Lib.hid (ref_shape_pick_new (StrsIn.kept HS0.out HB3.out) (IntsIn.kept HI.out HB3.out) (by have:=HBL.out;omega))
       cases ho:pickOk row by_ with
       | false =>
        have hpk:=HPK.out.mono fun _ _ he=>he.no1 ho
        have HTN:=Lib.hid (HTJ.out.trans (by rw [if_neg (by rw [ho];simp),List.append_nil]))
        clear ho HPK
        go_wp2_with fail
        refine hpk.mono ?_
        rintro e w2 ⟨A8,p8,rfl,hq⟩
        replace HO3:=Lib.hid (HO3.out.kept hq)
        rw [←HTN.out] at HO3
        clear hpk hq x1 HTJ HTN
        go_wp2
        go_roundw
        case rel=>exact ⟨j+1,HLJ.out,by go_num,HO3⟩
        case measure=>have:=HLJ.out;simp [intOf];omega
       | true =>
        have hpk:=HPK.out.mono fun _ _ he=>he.yes1 ho
        have HKE:Hid (pickF row by_=keyT by_ (row,n)):=Lib.hid rfl
        rw [HKE.out] at hpk
        have HTN:=Lib.hid fun (e:keyT by_ (row,n)=kk)=>HTJ.out.trans (by rw [if_pos ⟨ho,e⟩])
        have HTZ:=Lib.hid fun (e:keyT by_ (row,n)≠kk)=>HTJ.out.trans (by rw [if_neg (fun h=>e h.2),List.append_nil])
        clear ho HPK HKE HTJ
        generalize keyT by_ (row,n)=key at *
        go_wp2_with fail
        refine hpk.mono ?_
        rintro e w2 ⟨A8,p8,rfl,hs2,-,hq⟩
        replace HO3:=Lib.hid (HO3.out.kept hq)
        have HB4:=Lib.hid (HB31.out.trans (hq.mono HB31.out.size))
        have HB4W:=Lib.hid (HB3.out.trans (hq.mono HB3.out.size))
        have HCM:=Lib.hid (ref_compare_calls hs2 (HKSB.out w2 HB4.out).1)
        have y1:=(HKSB.out w2 HB4.out).2
        clear hpk hq x1 hs2
        obtain ⟨cm,hcm⟩:∃ c,cmpL key kk=c:=⟨_,rfl⟩
        rw [hcm] at HCM
        go_wp2_with fail
        refine HCM.out.mono ?_
        rintro e w3 ⟨rfl,hq⟩
        replace HO3:=Lib.hid (HO3.out.kept hq)
        have HB5:=Lib.hid (HB4W.out.trans (hq.mono HB4W.out.size))
        clear HCM hq y1 HB4 HB4W HB3 HB31
        by_cases hc0:cm=0
        ·have HTQ:=Lib.hid (HTN.out ((cmpL_zero key kk).1 (hcm.trans hc0)))
         have e9:(cm==0)=true:=by rw [hc0];rfl
         clear hc0 hcm HTN HTZ
         obtain ⟨tv8,hT8,hF8,hB8⟩:=HO3.out
         have x1:=HX1.out w3 HB5.out
         have x2:=HX2.out w3 HB5.out
         have hq4:=Below.alloc (.refl w3.heap.size w3) (Nat.le_refl _) (.cells #[.slice Ar row.length pr,.int .i64 n] 49)
         have hT9:=hT8.later hq4
         have HT9:=Lib.hid hT9
         have hO9:=hT9.own
         rw [HM.out] at hO9
         have HO9:=Lib.hid hO9
         have HB9:=Lib.hid (hB8.trans (hq4.mono hB8.size))
         have HS9:Hid (StrsIn (w3.alloc (.cells #[.slice Ar row.length pr,.int .i64 n] 49)) (.slice Ar row.length pr) row):=Lib.hid (SliceOf.alloc (StrsIn.kept HS0.out HB5.out) _)
         have HLIT:=Lib.hid (lit_tm w3 49 (.slice Ar row.length pr) n)
         have H1:=Lib.hid (one_tm (StrsIn.kept HS0.out HB5.out) n)
         have HOFF:=Lib.hid (RowOff.below HS0.out HB2.out.size hT8.lt)
         have HF9:=Lib.hid hF8
         have hml:=HOJ.out
         clear hT8 hT9 hO9 hq4 hF8 hB8 HB5
         go_wp2_with (at_builtin;refine wpList_append_src rfl (.tmp 82) (.tmp 87) 30 rfl 49 m0 (.agg #[.slice none 0 0,.int .i64 0]) 2 32 Tryz.underlying30 mi mz0 mz1 mz2 rfl (by decide) (B:=wo.heap.size) (.slice A7 m9 p7) m9 (timesV tv8) rfl HO9.out (.slice (some ⟨w3.heap.size,0,none⟩) 1 1) 1 [.slice Ar row.length pr,.int .i64 n] rfl HLIT.out H1.out (by unfold maxLen;omega) (by omega) HB9.out.size ?_)
         intro v7 w7 hO7 hg7 ha7
         have HG7:=Lib.hid (GrowQ.add (Q:=fun _=>True) HT9.out HF9.out HB9.out HS9.out trivial HOFF.out hg7 (by simpa using ha7) hO7 (by rw [HM.out]))
         rw [←HTQ.out] at HG7
         clear hO7 hg7 ha7 hml x1 x2 HT9 HO9 HB9 HS9 HLIT H1 HOFF HF9 HO3
         go_wp2
         go_roundw
         case rel=>exact ⟨j+1,HLJ.out,by go_num,HG7⟩
         case measure=>have:=HLJ.out;simp [intOf];omega
        ·have HTQ:=Lib.hid (HTZ.out (fun e=>hc0 (hcm.symm.trans ((cmpL_zero key kk).2 e))))
         have e9:(cm==0)=false:=by rw [beq_eq_false_iff_ne];exact hc0
         clear hc0 hcm HTN HTZ
         rw [←HTQ.out] at HO3
         go_wp2
         go_roundw
         case rel=>exact ⟨j+1,HLJ.out,by go_num,HO3⟩
         case measure=>have:=HLJ.out;simp [intOf];omega
      ·obtain rfl:j=l.length:=by omega
       rw [List.take_length] at HO3 HOJ e7
       have i2:¬(l.length:Int) < (l.length:Int):=by omega
       clear hjl hj
       have hoj:=HOJ.out
       have HVN:=Lib.hid fun (e:valsP (ofKey by_ kk (okL by_ l)) gs=none)=>groupsK_bad (L:=okL by_ l) HKK.out e
       have HVS:=Lib.hid fun vs (e:valsP (ofKey by_ kk (okL by_ l)) gs=some vs)=>groupsK_snoc (acc:=acc) HACC.out.1 e
       have HNO:=Lib.hid fun (x:Tm) (hx:x∈ofKey by_ kk (okL by_ l))=>HNN.out x (List.mem_filter.1 (List.mem_filter.1 hx).1).1
       obtain ⟨OW,how⟩:∃ o,ofKey by_ kk (okL by_ l)=o:=⟨_,rfl⟩
       rw [how] at HO3 e7 HVN HVS HNO
       clear how hoj HOJ
       obtain ⟨mo,hmo⟩:∃ m,OW.length=m:=⟨_,rfl⟩
       have HMO:=Lib.hid hmo
       rw [hmo] at e7
       subst e7
       clear hmo
       have HOW:=Lib.hid HO3.out.times.times
       rw [show TimesIn wr (.slice A7 mo p7) OW=TimesIn wr (.slice A7 mo p7) OW from rfl] at HOW
       have HG3:=Lib.hid (GrowN.kept _ _ _ HO3.out.below HG.out)
       clear HO3 HB31
       have HB31:=Lib.hid HG3.out.below
       obtain ⟨wp,hwp⟩:∃ x,x=wr:=⟨_,rfl⟩
       subst hwp
       have hq0:=Below.alloc (.refl wp.heap.size wp) (Nat.le_refl _) (.cells #[] 9)
       have HE:=Lib.hid (own_empty (w:=wp.alloc (.cells #[] 9)) (B:=wp.heap.size) (g:=wp.heap.size) 1 (Nat.le_refl _) (by simp))
       have hks:=(HKSB.out _ (HB31.out.trans (hq0.mono HB31.out.size))).1
       have y1:=(HKSB.out _ (HB31.out.trans (hq0.mono HB31.out.size))).2
       have HSL:Hid (SliceOf (wp.alloc (.cells #[] 9)) 1 (.slice kA nB kp) nB (kk.map Value.string)):=Lib.hid (by
        have h:=hks
        rw [←HKL2.out]
        have h2:StrsIn (wp.alloc (.cells #[] 9)) (.slice kA kk.length kp) kk:=by rw [HKL2.out];exact h
        exact h2)
       have HON:=Lib.hid (one_texts kk)
       have HQ0:=Lib.hid hq0
       clear hks hq0
       go_wp2_with (at_builtin;refine wpList_append_src rfl (.tmp 89) (.tmp 94) 41 rfl 9 s0 (.string ⟨#[]⟩) 1 16 Tryz.underlying41 si sz0 sz1 sz2 rfl (by decide) (B:=wp.heap.size) (.slice (some ⟨wp.heap.size,0,none⟩) 0 0) 0 [] rfl HE.out (.slice kA nB kp) nB (kk.map Value.string) rfl HSL.out HON.out (by unfold maxLen;omega) (by omega) (by simp) ?_)
       intro v7 w7 hO7 hg7 _
       have HO7:Hid (Own w7 wp.heap.size 1 v7 nB (kk.map Value.string)):=Lib.hid (by simpa using hO7)
       have HB7:Hid (Below wp.heap.size wp w7):=Lib.hid (HQ0.out.grown hg7 HQ0.out.size fun j hj=>(HE.out.lt j hj).1)
       clear hO7 hg7 y1 HSL HON HQ0 HE
       go_wp2
       go_loopw [18,19] (fun y i wr=>∃ q:Nat,q≤gs.length∧i=.int .i64 q∧Hid (∃ vs,valsP OW (gs.take q)=some vs∧vs.length=q∧Own wr wp.heap.size 1 y (nB+q) ((kk++vs).map Value.string)∧Below wp.heap.size wp wr)) (fun _ i _=>gs.length-(intOf i).toNat)
       case atStart=>exact ⟨0,Nat.zero_le _,rfl,Lib.hid ⟨[],by rw [List.take_zero];rfl,rfl,by rw [List.append_nil];exact HO7.out,HB7.out⟩⟩
       case round =>
        clear HO7 HB7
        obtain ⟨q,hq,rfl,HZ⟩:=hrel
        obtain ⟨vs,hvs,hvl,hO,hb⟩:=HZ.out
        have HBP:=Lib.hid hb
        have HVL:=Lib.hid hvl
        have HVV:=Lib.hid hvs
        obtain ⟨A8,p8,e8⟩:=hO.len
        subst e8
        have HO8:=Lib.hid hO
        have HBW:=Lib.hid (HB3.out.trans (hb.mono HB3.out.size))
        clear HZ hvs hvl hO hb
        by_cases hql:q < gs.length
        ·obtain ⟨bg,og,rfl,hlg,hcg⟩:=HAAT.out q hql
         obtain ⟨g0,g1⟩:=hcg q hql
         have x0:=(HBW.out.cell (p:=⟨bg,og+q*2,none⟩) hlg).trans g0
         have x1:=(HBW.out.cell (p:=⟨bg,og+q*2+1,none⟩) hlg).trans g1
         have HVNO:=Lib.hid fun h=>vtake_none (l:=OW) hql h
         have HYE:=Lib.hid fun c h=>vtake_some (c:=c) hql HVV.out h
         have HLQ:Hid (q < gs.length):=hql
         have i3:(q:Int) < (gs.length:Int):=by omega
         have q3:IntKind.i64.wrap ((q:Int)+1)=(q:Int)+1:=by have:=HGL.out;rw [IntKind.wrap_i64];omega
         have hgl:=HGL.out
         clear hcg g0 g1
         generalize gs[q]=ag at *
         obtain ⟨way,col⟩:=ag
         dsimp only at *
         have HV:=Lib.hid (rvalue_calls way col (HOW.out.kept HBP.out) HNO.out)
         clear hql hq hlg
         go_wp2_with fail
         refine HV.out.mono ?_
         rintro e w8 ⟨rfl,hq⟩
         have HB8:=Lib.hid (HBP.out.trans (hq.mono HBP.out.size))
         have HBW8:=Lib.hid (HBW.out.trans (hq.mono HBW.out.size))
         have HO9:=Lib.hid (HO8.out.later hq)
         clear hq HV x0 x1 HO8 HBP HBW
         cases hvp:valP OW (way,col) with
         | none =>
          have HR:=Lib.hid (HVN.out (HVNO.out hvp))
          have e1:errV none=7:=rfl
          clear hvp HVNO HYE
          go_wp2
          go_ret2
          exact RGroupsEnd.no HK.out HBW8.out HR.out
         | some c =>
          have HR:=Lib.hid (HYE.out c hvp)
          have e1:errV (some c)=0:=rfl
          have e2:gotV (some c)=c:=rfl
          have hq4:=Below.alloc (.refl w8.heap.size w8) (Nat.le_refl _) (.cells #[.string c] 9)
          have HO4:=Lib.hid (HO9.out.later hq4)
          have HB4:=Lib.hid (HB8.out.trans (hq4.mono HB8.out.size))
          have HLIT:=Lib.hid (lit_ones Value.string w8 9 [c] (by show 1≤1000;decide))
          have H1:=Lib.hid (vone_cell c)
          have hlk:=HLQ.out
          clear hvp HVNO HYE hq4
          go_wp2_with (at_builtin;refine wpList_append_src rfl (.tmp 114) (.tmp 116) 41 rfl 9 s0 (.string ⟨#[]⟩) 1 16 Tryz.underlying41 si sz0 sz1 sz2 rfl (by decide) (B:=wp.heap.size) (.slice A8 (nB+q) p8) (nB+q) ((kk++vs).map Value.string) rfl HO4.out (.slice (some ⟨w8.heap.size,0,none⟩) 1 1) 1 [.string c] rfl HLIT.out H1.out (by unfold maxLen;omega) (by omega) HB4.out.size ?_)
          intro v9 w9 hO7 hg7 ha7
          have HG7:Hid (∃ vs,valsP OW (gs.take (q+1))=some vs∧vs.length=q+1∧Own w9 wp.heap.size 1 v9 (nB+(q+1)) ((kk++vs).map Value.string)∧Below wp.heap.size wp w9):=by
           refine ⟨vs++[c],HR.out,by rw [List.length_append,HVL.out];rfl,?_,HB4.out.grown hg7 HB4.out.size fun k hk=>(HO4.out.lt k hk).1⟩
           rw [show nB+(q+1)=nB+q+1 by omega,show (kk++(vs++[c])).map Value.string=kk.map Value.string++(vs.map Value.string++[Value.string c]) by simp]
           have h:=hO7
           first|exact h|(rw [List.map_append,List.append_assoc] at h;exact h)
          clear hO7 hg7 ha7
          go_wp2
          go_roundw
          case rel=>exact ⟨q+1,HLQ.out,by go_num,HG7⟩
          case measure=>have:=HLQ.out;simp [intOf];omega
        ·have hqq:q=gs.length:=by omega
         rw [hqq,List.take_length] at HVV
         have i3:¬(q:Int) < (gs.length:Int):=by omega
         have HGS:=Lib.hid (HVS.out vs HVV.out)
         have HRL:Hid ((kk++vs).length=nB+q):=Lib.hid (by rw [List.length_append,HKL2.out,HVL.out])
         have HG5:=Lib.hid (GrowN.kept _ _ _ HBP.out HG3.out)
         obtain ⟨row,hrow⟩:∃ r,kk++vs=r:=⟨_,rfl⟩
         rw [hrow] at HO8 HGS HRL
         clear hrow hqq
         have HF4:=Lib.hid (show Fresh wp.heap.size (.slice A8 (nB+q) p8) from fun k hk=>(HO8.out.lt k hk).1)
         have HS4:Hid (StrsIn wr (.slice A8 (nB+q) p8) row):=Lib.hid (by
          have h:=HO8.out.slice
          rw [←HRL.out] at h ⊢
          exact h)
         have HOFF:=Lib.hid (RowOff.of_fresh HF4.out HG3.out.lt)
         have hq5:=Below.alloc (.refl wr.heap.size wr) (Nat.le_refl _) (.cells #[.slice A8 (nB+q) p8,.int .i64 1] 49)
         obtain ⟨tv8,hT8,hF8,hB8⟩:=HG5.out
         have HM:Hid (acc.length=k):=HACC.out.2
         have hT9:=hT8.later hq5
         have HT9:=Lib.hid hT9
         have hO9:=hT9.own
         rw [HM.out] at hO9
         have HO9:=Lib.hid hO9
         have HB9:=Lib.hid (hB8.trans (hq5.mono hB8.size))
         have HS9:=Lib.hid (StrsIn.kept HS4.out hq5)
         have HLIT:=Lib.hid (lit_tm wr 49 (.slice A8 (nB+q) p8) 1)
         have H1:=Lib.hid (one_tm HS4.out 1)
         have HF9:=Lib.hid hF8
         have HFR:=Lib.hid (show Fresh w1.heap.size (.slice A8 (nB+q) p8) from HF4.out.mono HB31.out.size)
         have hk5:k≤100000:=by have:=HKL.out.1;have:=HLK.out;omega
         clear hq5 hT8 hT9 hO9 hF8 hB8 HG5 HS4 HF4 HO8
         go_wp2_with (at_builtin;refine wpList_append_src rfl (.tmp 118) (.tmp 121) 30 rfl 49 m0 (.agg #[.slice none 0 0,.int .i64 0]) 2 32 Tryz.underlying30 mi mz0 mz1 mz2 rfl (by decide) (B:=w1.heap.size) (.slice A9 k p9) k (timesV tv8) rfl HO9.out (.slice (some ⟨wr.heap.size,0,none⟩) 1 1) 1 [.slice A8 (nB+q) p8,.int .i64 1] rfl HLIT.out H1.out (by unfold maxLen;omega) (by omega) HB9.out.size ?_)
         intro v9 w9 hO7 hg7 ha7
         have HG7:=Lib.hid (GrowN.add HT9.out HF9.out HB9.out HS9.out HFR.out HOFF.out hg7 (by simpa using ha7) hO7 (by rw [HM.out]))
         have HAC2:Hid (groupsK by_ gs (okL by_ l) ((K.take (k+1)).map (·.1))=some (acc++[(row,1)])∧(acc++[(row,(1:Int))]).length=k+1):=Lib.hid ⟨by rw [HTK.out];exact HGS.out,by rw [List.length_append,HM.out];rfl⟩
         clear hO7 hg7 ha7 hk5
         go_wp2
         go_roundw
         case rel=>exact ⟨k+1,HLK.out,by go_num,_,HAC2,HG7⟩
         case measure=>have:=HLK.out;simp [intOf];omega
    ·obtain rfl:k=nK:=by omega
     have i1:¬(k:Int) < (k:Int):=by omega
     have HRES:Hid (groupsK by_ gs (okL by_ l) (K.map (·.1))=some acc):=Lib.hid (by
      have h:=HACC.out.1
      rw [List.take_of_length_le (by rw [HNK.out];exact Nat.le_refl _)] at h
      exact h)
     have HTI:=Lib.hid HG.out.new.times
     go_wp2
     go_ret2
     exact RGroupsEnd.yes HK.out HB2.out HRES.out HTI.out
end Go.Proofs.YtjbpbfhgjldliaaGreat
