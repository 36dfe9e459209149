/- slices.CompactFunc at parts that the call owns: of those of the same bytes behind one another the first alone. -/
import Derived.Test.YtnkhkkdmjabhnaaGZNormGather
namespace Go.Proofs.Ytnkhkkdmjabhnaa
open Go Go.RowKit
def eqP (x y:PartV):Bool:=x.pr.toList==y.pr.toList
def keepP (d:List PartV)(j:Nat):Bool:=j==0||!(eqP d[j]! d[j-1]!)
def ddI (d:List PartV):Nat→List PartV
 | 0=>[]
 | j+1=>if keepP d j=true then ddI d j++[d[j]!] else ddI d j
theorem dd_all {d:List PartV}:∀ k,k≤d.length→(∀ q,0 < q→q < k→eqP d[q]! d[q-1]! = false)→ddI d k=d.take k
 | 0,_,_=>rfl
 | k+1,hk,h=>by
  have ih:=dd_all k (by omega) fun q h1 h2=>h q h1 (by omega)
  have hkeep:keepP d k=true:=by
   unfold keepP
   rcases Nat.eq_zero_or_pos k with h0|h0
   ·subst h0;rfl
   ·rw [h k h0 (by omega)];simp
  rw [ddI,if_pos hkeep,ih,List.take_add_one,List.getElem?_eq_getElem (by omega),getElem!_pos d k (by omega)]
  rfl
theorem dd_le (d:List PartV):∀ k,(ddI d k).length≤k
 | 0=>Nat.le_refl _
 | k+1=>by
  have:=dd_le d k
  rw [ddI]
  split
  ·rw [List.length_append];simp;omega
  ·omega
structure CompAt (d dr:List PartV) (i j:Nat):Prop where
 lt:i < j
 le:j≤d.length
 len:dr.length=d.length
 front:dr.take i=ddI d j
 back:∀ q,j≤q+1→q < d.length→dr[q]! = d[q]!
theorem CompAt.first {d:List PartV}{k:Nat}(h0:0 < k)(hk:k < d.length)(hq:eqP d[k]! d[k-1]! = true)(hn:∀ q,0 < q→q < k→eqP d[q]! d[q-1]! = false):CompAt d d k (k+1) where
 lt:=by omega
 le:=hk
 len:=rfl
 front:=by
  have hkeep:keepP d k=false:=by
   unfold keepP
   rw [hq]
   simp;omega
  rw [ddI,if_neg (by rw [hkeep];decide),dd_all k (by omega) hn]
 back:=fun _ _ _=>rfl
theorem CompAt.skip {d dr:List PartV}{i j:Nat}(h:CompAt d dr i j)(hj:j < d.length)(hq:eqP d[j]! d[j-1]! = true):CompAt d dr i (j+1) where
 lt:=by have:=h.lt;omega
 le:=hj
 len:=h.len
 front:=by
  have:=h.lt
  have hkeep:keepP d j=false:=by
   unfold keepP
   rw [hq]
   simp;omega
  rw [ddI,if_neg (by rw [hkeep];decide),h.front]
 back:=fun q h1 h2=>h.back q (by omega) h2
theorem CompAt.keep {d dr:List PartV}{i j:Nat}(h:CompAt d dr i j)(hj:j < d.length)(hq:eqP d[j]! d[j-1]! = false):CompAt d (dr.set i d[j]!) (i+1) (j+1) where
 lt:=by have:=h.lt;omega
 le:=hj
 len:=by rw [List.length_set];exact h.len
 front:=by
  have:=h.lt
  have hl:=h.len
  have hkeep:keepP d j=true:=by
   unfold keepP
   rw [hq]
   simp
  rw [ddI,if_pos hkeep,List.take_add_one,List.getElem?_set_self (by omega),List.take_set_of_le (Nat.le_refl i),h.front]
  rfl
 back:=fun q h1 h2=>by
  have:=h.lt
  have hl:=h.len
  have hb:=h.back q (by omega) h2
  rw [getElem!_pos _ q (by rw [List.length_set];omega),List.getElem_set_ne (by omega),←getElem!_pos dr q (by omega)]
  exact hb
section
variable {w:World}{B g off n cap:Nat}{ps:List PartV}
theorem partsV_get:∀ (ps:List PartV)(j c:Nat)(h:j < ps.length),c < 5→(partsV ps)[j*5+c]? = (encV ps[j])[c]?
 | [],j,_,h,_=>absurd h (by simp)
 | p::ps,0,c,_,hc=>by
  show (encV p++partsV ps)[0*5+c]? = _
  rw [List.getElem?_append_left (by rw [encV_len];omega)]
  simp
 | p::ps,j+1,c,h,hc=>by
  have ih:=partsV_get ps j c (by simpa using h) hc
  show (encV p++partsV ps)[(j+1)*5+c]? = _
  rw [List.getElem?_append_right (by rw [encV_len];omega),encV_len,show (j+1)*5+c-5=j*5+c by omega,ih]
  rfl
theorem pcells_at (h:Own w B 5 (.slice (some ⟨g,off,none⟩) n cap) n (partsV ps))(hl:ps.length=n){j:Nat}(hj:j < n):At5 w g (off+j*5) ps[j]! ∧ Free5 w g (off+j*5):=by
 obtain ⟨-,-,-,hc,hr⟩:=h.parts
 have hcap:n≤cap:=by
  obtain ⟨_,_,h⟩:=h
  rcases h with ⟨h,_⟩ | ⟨_,_,_,h,_,_,k,_⟩
  ·cases h
  ·injection h with _ _ h3;omega
 have hg:∀ c,c < 5→w.cell? ⟨g,off+j*5+c,none⟩=(encV ps[j]!)[c]? ∧ w.frozen? ⟨g,off+j*5+c,none⟩=false:=fun c hc5=>by
  have h1:=partsV_get ps j c (by omega) hc5
  rw [←getElem!_pos ps j (by omega)] at h1
  obtain ⟨v,hv⟩:∃ v,(encV ps[j]!)[c]? = some v:=⟨(encV ps[j]!)[c]'(by rw [encV_len];exact hc5),List.getElem?_eq_getElem _⟩
  rw [hv] at h1 ⊢
  refine ⟨?_,?_⟩
  ·rw [Nat.add_assoc];exact hc _ _ h1
  ·rw [Nat.add_assoc];exact (hr (j*5+c) (by omega)).2
 exact ⟨⟨(hg 0 (by omega)).1,(hg 1 (by omega)).1,(hg 2 (by omega)).1,(hg 3 (by omega)).1,(hg 4 (by omega)).1⟩,⟨(hg 0 (by omega)).2,(hg 1 (by omega)).2,(hg 2 (by omega)).2,(hg 3 (by omega)).2,(hg 4 (by omega)).2⟩⟩
theorem partsV_set:∀ (ps:List PartV)(j:Nat)(x:PartV),j < ps.length→(((((partsV ps).set (j*5) (.int .u8 x.t.op)).set (j*5+1) (.int .i64 x.t.col)).set (j*5+2) (.string x.t.cell)).set (j*5+3) (.slice x.A x.n x.p)).set (j*5+4) (.string x.pr)=partsV (ps.set j x)
 | [],j,x,h=>absurd h (by simp)
 | p::ps,0,x,_=>rfl
 | p::ps,j+1,x,h=>by
  have e:(j+1)*5=j*5+5:=by omega
  have ih:=partsV_set ps j x (by simpa using h)
  rw [e]
  show _::_::_::_::_::(((((partsV ps).set (j*5) (.int .u8 x.t.op)).set (j*5+1) (.int .i64 x.t.col)).set (j*5+2) (.string x.t.cell)).set (j*5+3) (.slice x.A x.n x.p)).set (j*5+4) (.string x.pr)=_
  rw [ih]
  rfl
theorem parts_stored (h:Own w B 5 (.slice (some ⟨g,off,none⟩) n cap) n (partsV ps))(hl:ps.length=n){j:Nat}(hj:j < n)(x:PartV) :
  Own (((((w.setCell ⟨g,off+j*5,none⟩ (.int .u8 x.t.op)).setCell ⟨g,off+j*5+1,none⟩ (.int .i64 x.t.col)).setCell ⟨g,off+j*5+2,none⟩ (.string x.t.cell)).setCell ⟨g,off+j*5+3,none⟩ (.slice x.A x.n x.p)).setCell ⟨g,off+j*5+4,none⟩ (.string x.pr)) B 5 (.slice (some ⟨g,off,none⟩) n cap) n (partsV (ps.set j x)) ∧
  w.grownBy (((((w.setCell ⟨g,off+j*5,none⟩ (.int .u8 x.t.op)).setCell ⟨g,off+j*5+1,none⟩ (.int .i64 x.t.col)).setCell ⟨g,off+j*5+2,none⟩ (.string x.t.cell)).setCell ⟨g,off+j*5+3,none⟩ (.slice x.A x.n x.p)).setCell ⟨g,off+j*5+4,none⟩ (.string x.pr)) (some g):=by
 have s1:=Own.stored (Own.stored (Own.stored (Own.stored (Own.stored h (j*5) (by omega) (.int .u8 x.t.op)) (j*5+1) (by omega) (.int .i64 x.t.col)) (j*5+2) (by omega) (.string x.t.cell)) (j*5+3) (by omega) (.slice x.A x.n x.p)) (j*5+4) (by omega) (.string x.pr)
 simp only [←Nat.add_assoc] at s1
 rw [partsV_set _ _ _ (by omega)] at s1
 refine ⟨s1,?_⟩
 have:=setCells_grown g [.int .u8 x.t.op,.int .i64 x.t.col,.string x.t.cell,.slice x.A x.n x.p,.string x.pr] (off+j*5) w
 simpa [World.setCells,Nat.add_assoc] using this
theorem partsV_take (ps:List PartV)(m:Nat):partsV (ps.take m)=(partsV ps).take (m*5):=by
 induction ps generalizing m with
 | nil=>simp [partsV]
 | cons p ps ih =>
  cases m with
  | zero=>simp [partsV]
  | succ m =>
   have e:partsV (p::ps)=encV p++partsV ps:=rfl
   rw [List.take_succ_cons,show partsV (p::ps.take m)=encV p++partsV (ps.take m) from rfl,ih,e,List.take_append,encV_len,show (m+1)*5-5=m*5 by omega,List.take_of_length_le (l:=encV p) (by rw [encV_len];omega)]
theorem parts_front (h:Own w B 5 (.slice (some ⟨g,off,none⟩) n cap) n (partsV ps))(hl:ps.length=n){m:Nat}(hm:m≤n)(zs:List Value):SliceOf (w.setCells g (off+m*5) zs) 5 (.slice (some ⟨g,off,none⟩) m cap) m (partsV (ps.take m)):=by
 have hmax:=h.2.1
 obtain ⟨h1,h2,h3,h4,h5⟩:=h.parts
 have hcap:n≤cap:=by
  obtain ⟨_,_,h⟩:=h
  rcases h with ⟨h,_⟩ | ⟨_,_,_,h,_,_,k,_⟩
  ·cases h
  ·injection h with _ _ h3;try omega
 refine ⟨by rw [partsV_length,List.length_take];omega,by omega,some ⟨g,off,none⟩,cap,rfl,by omega,fun _=>⟨g,off,rfl,by rw [setCells_size];exact h2,fun j u hu=>?_⟩⟩
 rw [partsV_take,List.getElem?_take] at hu
 split at hu
 ·rename_i hj
  rw [World.cell?_setCells_out g zs _ w ⟨g,off+j,none⟩ (fun _ _=>.inl (by simp;omega))]
  exact h4 j u hu
 ·exact absurd hu (by simp)
end
theorem same_print_gives (x y:PartV)(w:World):GivesAt Try.prog 33 #[.agg #[.int .u8 x.t.op,.int .i64 x.t.col,.string x.t.cell,.slice x.A x.n x.p,.string x.pr],.agg #[.int .u8 y.t.op,.int .i64 y.t.col,.string y.t.cell,.slice y.A y.n y.p,.string y.pr]] w (.bool (eqP x y)):=(same_print_lays x y w).mono fun _ _ ⟨he,q,os,hw⟩=>⟨he,hw▸⟨rfl,rfl,rfl,by simp [Go.Sort.grow,World.drewN],fun k hk=>by simp only [Go.Sort.grow,World.drewN,Array.getElem?_append];rw [if_pos hk]⟩⟩
theorem enters_same_print:∀ (args:Array Value)(w:World),(callFunc 33 args).run Try.prog w=.ok (.enter 33 args) w:=enters_of Try.func33 (by kernel_rfl) rfl
def CompEnd (w:World)(v:Value)(d:List PartV)(e:Ending)(w':World):Prop:=∃ u,e=.returned u∧SliceOf w' 5 u (ddI d d.length).length (partsV (ddI d d.length))∧w.grownBy w' v.ownBlock
set_option maxHeartbeats 8000000 in
set_option maxRecDepth 100000 in
theorem compact_calls {w:World}{B:Nat}{v:Value}{d:List PartV}(h:Own w B 5 v d.length (partsV d))(hl:d.length≤1000000000):Calls Try.prog 32 #[v,.func (.func 33) #[] #[]] w (CompEnd w v d):=by
 have mixed:Try.prog.follows Departure.mixedOrders=true:=by kernel_rfl
 have eg:=enters_same_print
 obtain ⟨A,cap,rfl⟩:=h.len
 obtain ⟨n,hn⟩:∃ n,d.length=n:=⟨_,rfl⟩
 have HN:Hid (d.length=n):=hn
 unfold CompEnd
 rw [hn] at h hl ⊢
 clear hn
 have HO:=Lib.hid h
 clear h
 by_cases h2:n < 2
 ·have d2:(n:Int) < 2:=by omega
  have HD:Hid (ddI d n=d):=by
   have h1:=dd_all (d:=d) n (by rw [HN.out];exact Nat.le_refl _) fun q h1 h2=>by omega
   rw [List.take_of_length_le (by rw [HN.out];exact Nat.le_refl _)] at h1
   exact h1
  rw [HD.out,HN.out]
  clear h2
  go_enter Try.func32,Try.ntmps32
  go_wp2
  go_ret
  exact ⟨_,rfl,HO.out.slice,World.grownBy.refl _ _⟩
 ·obtain ⟨g,off,rfl⟩:∃ g off,A=some ⟨g,off,none⟩:=by
   obtain ⟨_,_,h⟩:=HO.out
   rcases h with ⟨h,h0⟩ | ⟨g,off,c9,h,_⟩
   ·omega
   ·injection h with h1 _ _;exact ⟨g,off,h1⟩
  have hcap:n≤cap:=by
   obtain ⟨_,_,h⟩:=HO.out
   rcases h with ⟨h,_⟩ | ⟨_,_,_,h,_,_,k,_⟩
   ·cases h
   ·injection h with _ _ h3;omega
  have HG:Hid (B≤g):=(HO.out.lt g rfl).1
  have d2:¬(n:Int) < 2:=by omega
  have HH:Hid (2≤n∧n≤1000000000∧n≤cap):=⟨by omega,hl,hcap⟩
  clear h2 hl hcap
  show Calls _ _ _ _ _
  go_enter Try.func32,Try.ntmps32
  go_wp2
  go_loopw [5] (fun kx wr=>∃ k:Nat,kx=.int .i64 k∧Hid (1≤k∧k≤n)∧Hid (∀ q,0 < q→q < k→eqP d[q]! d[q-1]! = false)∧Hid (Below w.heap.size w wr)) (fun kx _=>n-(intOf kx).toNat)
  case atStart=>exact ⟨1,rfl,⟨Nat.le_refl _,by have:=HH.out;omega⟩,(show Hid _ from fun q h1 h2=>by omega),Lib.hid (.refl _ _)⟩
  case round =>
   obtain ⟨k,rfl,HK,HE,HB⟩:=hrel
   have hk:=HK.out
   have hh:=HH.out
   by_cases hlt:k < n
   ·obtain ⟨k1,rfl⟩:∃ k1,k=k1+1:=⟨k-1,by omega⟩
    have ck:((k1+1:Nat):Int)=(k1:Int)+1:=by omega
    have l1:(k1:Int)+1 < (n:Int):=by omega
    have l2:(k1:Int) < (n:Int):=by omega
    have s1:(k1:Int)+1-1=(k1:Int):=by omega
    have t1:((k1:Int)+1).toNat=k1+1:=by omega
    have p1:(0:Int)≤(k1:Int)+1:=by omega
    have q1:IntKind.i64.wrap (k1:Int)=(k1:Int):=by rw [IntKind.wrap_i64];omega
    have q2:IntKind.i64.wrap ((k1:Int)+1+1)=(k1:Int)+1+1:=by rw [IntKind.wrap_i64];omega
    have HLT:Hid (k1+1 < n):=hlt
    obtain ⟨x,hx⟩:∃ x,Hid (x=d[k1+1]!):=⟨_,rfl⟩
    obtain ⟨y,hy⟩:∃ y,Hid (y=d[k1]!):=⟨_,rfl⟩
    have AT:Hid (∀ W,Below w.heap.size w W→At5 W g (off+(k1+1)*5) x∧At5 W g (off+k1*5) y):=fun W hW=>by
     rw [hx.out,hy.out]
     exact ⟨(pcells_at (HO.out.later hW) HN.out hlt).1,(pcells_at (HO.out.later hW) HN.out (by omega)).1⟩
    have HXY:Hid (eqP x y=eqP d[k1+1]! d[k1+1-1]!):=by rw [hx.out,hy.out];rfl
    clear hk hh hlt hx hy
    go_wp2_with fail
    refine wp_region_calm (offC wr) (fun _=>false) (fun _=>false) anyE false (by kernel_rfl) (by kernel_rfl) (by kernel_rfl) (by kernel_rfl) (by intro m hm;revert hm;simp;try omega) (offC_stable _) (offC_start _) ?_
    refine calm_fixA rfl rfl ?_
    apply Exists.intro
    refine ⟨fun a wz hc hk hf K hK=>?_,?_⟩
    ·have h1:=hk 1 (by kernel_rfl)
     clear hk hf hc
     go_simp
     exact hK _ _ (Below.refl _ _) rfl
    refine calm_fixA rfl rfl ?_
    apply Exists.intro
    refine ⟨fun a wz hc hk hf K hK=>?_,?_⟩
    ·have h0:=hk 0 (by kernel_rfl)
     clear hk hf hc
     go_simp
     exact hK _ _ (Below.refl _ _) rfl
    refine calm_fixA rfl rfl ?_
    apply Exists.intro
    refine ⟨fun a wz hc hk hf K hK=>?_,?_⟩
    ·have h5:=hk 5 (by kernel_rfl)
     clear hk hf hc
     go_simp
     exact hK _ _ (Below.refl _ _) rfl
    refine calm_fixA rfl rfl ?_
    apply Exists.intro
    refine ⟨fun a wz hc hk hf K hK=>?_,?_⟩
    ·have h19:=held_isV hf 1 rfl (by kernel_rfl)
     have h20:=held_isV hf 0 rfl (by kernel_rfl)
     clear hk hf hc
     go_simp
     exact hK _ _ (Below.refl _ _) rfl
    refine calm_fixA rfl rfl ?_
    apply Exists.intro
    refine ⟨fun a wz hc hk hf K hK=>?_,?_⟩
    ·have hb:Below wr.heap.size wr wz:=hc rfl
     have h21:=held_isV hf 0 rfl (by kernel_rfl)
     clear hk hf hc
     obtain ⟨⟨x0,x1,x2,x3,x4⟩,-⟩:=AT.out wz (HB.out.trans (hb.mono HB.out.size))
     go_simp
     exact hK _ _ (Below.refl _ _) rfl
    refine calm_fixA rfl rfl ?_
    apply Exists.intro
    refine ⟨fun a wz hc hk hf K hK=>?_,?_⟩
    ·have h0:=hk 0 (by kernel_rfl)
     clear hk hf hc
     go_simp
     exact hK _ _ (Below.refl _ _) rfl
    refine calm_fixA rfl rfl ?_
    apply Exists.intro
    refine ⟨fun a wz hc hk hf K hK=>?_,?_⟩
    ·have h5:=hk 5 (by kernel_rfl)
     clear hk hf hc
     go_simp
     exact hK _ _ (Below.refl _ _) rfl
    refine calm_fixA rfl rfl ?_
    apply Exists.intro
    refine ⟨fun a wz hc hk hf K hK=>?_,?_⟩
    ·have h24:=held_isV hf 0 rfl (by kernel_rfl)
     clear hk hf hc
     go_simp
     exact hK _ _ (Below.refl _ _) rfl
    refine calm_fixA rfl rfl ?_
    apply Exists.intro
    refine ⟨fun a wz hc hk hf K hK=>?_,?_⟩
    ·have h23:=held_isV hf 2 rfl (by kernel_rfl)
     have h25:=held_isV hf 0 rfl (by kernel_rfl)
     clear hk hf hc
     go_simp
     exact hK _ _ (Below.refl _ _) rfl
    refine calm_fixA rfl rfl ?_
    apply Exists.intro
    refine ⟨fun a wz hc hk hf K hK=>?_,?_⟩
    ·have hb:Below wr.heap.size wr wz:=hc rfl
     have h26:=held_isV hf 0 rfl (by kernel_rfl)
     clear hk hf hc
     obtain ⟨-,⟨y0,y1,y2,y3,y4⟩⟩:=AT.out wz (HB.out.trans (hb.mono HB.out.size))
     go_simp
     exact hK _ _ (Below.refl _ _) rfl
    refine calm_fixA rfl rfl ?_
    apply Exists.intro
    refine ⟨fun a wz hc hk hf K hK=>?_,?_⟩
    ·have hb:Below wr.heap.size wr wz:=hc rfl
     have h18:=held_isV hf 9 rfl (by kernel_rfl)
     have h22:=held_isV hf 5 rfl (by kernel_rfl)
     have h27:=held_isV hf 0 rfl (by kernel_rfl)
     clear hk hf hc
     go_simp
     refine Calls.mono (same_print_gives x y wz) ?_
     rintro e w1 ⟨rfl,hq⟩
     exact hK _ _ hq rfl
    refine calm_nil ?_
    refine ⟨keeps_none,?_⟩
    intro w3 hc
    simp only [lexL,calmEnd]
    rintro _ rfl _ rfl _ rfl _ rfl _ rfl _ rfl _ rfl _ rfl _ rfl _ rfl _ rfl
    have hq3:Below wr.heap.size wr w3:=hc rfl
    have HBn:=Lib.hid (HB.out.trans (hq3.mono HB.out.size))
    clear hc hq3 HB
    have HB:=HBn
    clear HBn
    simp only [Act.put,List.setIfInBounds_toArray,List.set_cons_zero,List.set_cons_succ]
    cases hq:eqP x y with
    | false =>
     have HE2:Hid (∀ q,0 < q→q < k1+1+1→eqP d[q]! d[q-1]! = false):=fun q h1 h2=>by
      by_cases c:q=k1+1
      ·subst c;rw [←HXY.out];exact hq
      ·exact HE.out q h1 (by omega)
     clear hq
     go_wp2
     go_roundw
     case rel=>exact ⟨k1+1+1,by go_num,⟨by omega,HLT.out⟩,HE2,HB⟩
     case measure=>have:=HLT.out;simp [intOf];omega
    | true =>
     have HC:=Lib.hid (CompAt.first (d:=d) (k:=k1+1) (by omega) (by rw [HN.out];exact HLT.out) (by rw [←HXY.out];exact hq) HE.out)
     have HO3:=Lib.hid (HO.out.later HB.out)
     have HG3:Hid (w.grownBy w3 (some g)):=below_grown HB.out
     have hhc:=HH.out
     have hlk:=HLT.out
     have e1:((n:Int)-((k1:Int)+1))=((n-(k1+1):Nat):Int):=by omega
     have e2:((n:Int)-((k1:Int)+1)).toNat=n-(k1+1):=by omega
     have l3:(k1:Int)+1≤(n:Int):=by omega
     have l4:((k1:Int)+1)≤(cap:Int):=by omega
     have hcne:¬cap=k1+1:=by omega
     clear hq AT HXY HE HK HB
     clear hhc hlk
     go_wp2
     clear l1 l2 s1 p1 q1 q2 e1 e2 l3 l4
     go_loopw [5,7] (fun ix jx wr=>∃ (i j:Nat) (dr:List PartV),ix=.int .i64 i∧jx=.int .i64 j∧Hid (1≤j∧k1+1≤i)∧Hid (CompAt d dr i (k1+1+j))∧Hid (Own wr B 5 (.slice (some ⟨g,off,none⟩) n cap) n (partsV dr))∧Hid (w.grownBy wr (some g))) (fun _ jx _=>n-(intOf jx).toNat)
     case atStart=>exact ⟨k1+1,1,d,by go_num,rfl,⟨Nat.le_refl _,Nat.le_refl _⟩,HC,HO3,HG3⟩
     case round =>
      clear HC HO3 HG3
      obtain ⟨i,j,dr,rfl,rfl,HJ,HC,HOR,HGR⟩:=hrel
      have hlt0:=HC.out.lt
      have hle0:=HC.out.le
      have hlen:=HC.out.len
      rw [HN.out] at hle0 hlen
      have hhc:=HH.out
      have hlk:=HLT.out
      have hj1:=HJ.out
      by_cases hlt:k1+1+j < n
      ·obtain ⟨j1,rfl⟩:∃ j1,j=j1+1:=⟨j-1,by omega⟩
       have m1:(j1:Int)+1 < ((n-(k1+1):Nat):Int):=by omega
       have m2:(j1:Int) < ((n-(k1+1):Nat):Int):=by omega
       have cj:((j1+1:Nat):Int)=(j1:Int)+1:=by omega
       have s2:(j1:Int)+1-1=(j1:Int):=by omega
       have t2:((j1:Int)+1).toNat=j1+1:=by omega
       have p2:(0:Int)≤(j1:Int)+1:=by omega
       have q3:IntKind.i64.wrap (j1:Int)=(j1:Int):=by rw [IntKind.wrap_i64];omega
       have q4:IntKind.i64.wrap ((j1:Int)+1+1)=(j1:Int)+1+1:=by rw [IntKind.wrap_i64];omega
       have q5:IntKind.i64.wrap ((i:Int)+1)=(i:Int)+1:=by rw [IntKind.wrap_i64];omega
       have li:(i:Int) < (n:Int):=by omega
       have oJ:off+(k1+1)*5+(j1+1)*5=off+(k1+1+(j1+1))*5:=by omega
       have oJ1:off+(k1+1)*5+j1*5=off+(k1+1+j1)*5:=by omega
       obtain ⟨x,hx⟩:∃ x,Hid (x=d[k1+1+(j1+1)]!):=⟨_,rfl⟩
       obtain ⟨y,hy⟩:∃ y,Hid (y=d[k1+1+j1]!):=⟨_,rfl⟩
       have hbx:=HC.out.back (k1+1+(j1+1)) (by omega) (by rw [HN.out];exact hlt)
       have hby:=HC.out.back (k1+1+j1) (by omega) (by rw [HN.out];omega)
       have AT:Hid (∀ W,Below wr.heap.size wr W→At5 W g (off+(k1+1+(j1+1))*5) x∧At5 W g (off+(k1+1+j1)*5) y):=fun W hW=>by
        rw [hx.out,hy.out,←hbx,←hby]
        exact ⟨(pcells_at (HOR.out.later hW) hlen hlt).1,(pcells_at (HOR.out.later hW) hlen (by omega)).1⟩
       have HXY:Hid (eqP x y=eqP d[k1+1+(j1+1)]! d[k1+1+(j1+1)-1]!):=by rw [hx.out,hy.out];rfl
       have HLT2:Hid (k1+1+(j1+1) < n∧i < n):=⟨hlt,by omega⟩
       have HLN:Hid (dr.length=n):=hlen
       clear hbx hby hy hlt0 hle0 hlen hhc hlk hj1 hlt
       go_wp2_with fail
       refine wp_region_calm (offC wr) (fun _=>false) (fun _=>false) anyE false (by kernel_rfl) (by kernel_rfl) (by kernel_rfl) (by kernel_rfl) (by intro m hm;revert hm;simp;try omega) (offC_stable _) (offC_start _) ?_
       refine calm_fixA rfl rfl ?_
       apply Exists.intro
       refine ⟨fun a wz hc hk hf K hK=>?_,?_⟩
       ·have h1:=hk 1 (by kernel_rfl)
        clear hk hf hc
        go_simp
        exact hK _ _ (Below.refl _ _) rfl
       refine calm_fixA rfl rfl ?_
       apply Exists.intro
       refine ⟨fun a wz hc hk hf K hK=>?_,?_⟩
       ·have h6:=hk 6 (by kernel_rfl)
        clear hk hf hc
        go_simp
        exact hK _ _ (Below.refl _ _) rfl
       refine calm_fixA rfl rfl ?_
       apply Exists.intro
       refine ⟨fun a wz hc hk hf K hK=>?_,?_⟩
       ·have h7:=hk 7 (by kernel_rfl)
        clear hk hf hc
        go_simp
        exact hK _ _ (Below.refl _ _) rfl
       refine calm_fixA rfl rfl ?_
       apply Exists.intro
       refine ⟨fun a wz hc hk hf K hK=>?_,?_⟩
       ·have h39:=held_isV hf 1 rfl (by kernel_rfl)
        have h40:=held_isV hf 0 rfl (by kernel_rfl)
        clear hk hf hc
        go_simp
        exact hK _ _ (Below.refl _ _) rfl
       refine calm_fixA rfl rfl ?_
       apply Exists.intro
       refine ⟨fun a wz hc hk hf K hK=>?_,?_⟩
       ·have hb:Below wr.heap.size wr wz:=hc rfl
        have h41:=held_isV hf 0 rfl (by kernel_rfl)
        clear hk hf hc
        obtain ⟨⟨x0,x1,x2,x3,x4⟩,-⟩:=AT.out wz hb
        go_simp
        exact hK _ _ (Below.refl _ _) rfl
       refine calm_fixA rfl rfl ?_
       apply Exists.intro
       refine ⟨fun a wz hc hk hf K hK=>?_,?_⟩
       ·have h6:=hk 6 (by kernel_rfl)
        clear hk hf hc
        go_simp
        exact hK _ _ (Below.refl _ _) rfl
       refine calm_fixA rfl rfl ?_
       apply Exists.intro
       refine ⟨fun a wz hc hk hf K hK=>?_,?_⟩
       ·have h7:=hk 7 (by kernel_rfl)
        clear hk hf hc
        go_simp
        exact hK _ _ (Below.refl _ _) rfl
       refine calm_fixA rfl rfl ?_
       apply Exists.intro
       refine ⟨fun a wz hc hk hf K hK=>?_,?_⟩
       ·have h44:=held_isV hf 0 rfl (by kernel_rfl)
        clear hk hf hc
        go_simp
        exact hK _ _ (Below.refl _ _) rfl
       refine calm_fixA rfl rfl ?_
       apply Exists.intro
       refine ⟨fun a wz hc hk hf K hK=>?_,?_⟩
       ·have h43:=held_isV hf 2 rfl (by kernel_rfl)
        have h45:=held_isV hf 0 rfl (by kernel_rfl)
        clear hk hf hc
        go_simp
        exact hK _ _ (Below.refl _ _) rfl
       refine calm_fixA rfl rfl ?_
       apply Exists.intro
       refine ⟨fun a wz hc hk hf K hK=>?_,?_⟩
       ·have hb:Below wr.heap.size wr wz:=hc rfl
        have h46:=held_isV hf 0 rfl (by kernel_rfl)
        clear hk hf hc
        obtain ⟨-,⟨y0,y1,y2,y3,y4⟩⟩:=AT.out wz hb
        go_simp
        exact hK _ _ (Below.refl _ _) rfl
       refine calm_fixA rfl rfl ?_
       apply Exists.intro
       refine ⟨fun a wz hc hk hf K hK=>?_,?_⟩
       ·have hb:Below wr.heap.size wr wz:=hc rfl
        have h38:=held_isV hf 9 rfl (by kernel_rfl)
        have h42:=held_isV hf 5 rfl (by kernel_rfl)
        have h47:=held_isV hf 0 rfl (by kernel_rfl)
        clear hk hf hc
        go_simp
        refine Calls.mono (same_print_gives x y wz) ?_
        rintro e w1 ⟨rfl,hq⟩
        exact hK _ _ hq rfl
       refine calm_fixA rfl rfl ?_
       apply Exists.intro
       refine ⟨fun a wz hc hk hf K hK=>?_,?_⟩
       ·have h48:=held_isV hf 0 rfl (by kernel_rfl)
        clear hk hf hc
        go_simp
        exact hK _ _ (Below.refl _ _) rfl
       refine calm_nil ?_
       refine ⟨keeps_none,?_⟩
       intro w4 hc
       simp only [lexL,calmEnd]
       rintro _ rfl _ rfl _ rfl _ rfl _ rfl _ rfl _ rfl _ rfl _ rfl _ rfl _ rfl _ rfl
       have HQ:Hid (Below wr.heap.size wr w4):=hc rfl
       clear hc
       simp only [Act.put,List.setIfInBounds_toArray,List.set_cons_zero,List.set_cons_succ]
       have HOX:=Lib.hid (HOR.out.later HQ.out)
       have HGX:=Lib.hid (grown_tr2 HGR.out (below_grown HQ.out))
       clear HOR HGR
       cases hq:eqP x y with
       | true =>
        have HC2:=Lib.hid (HC.out.skip (by rw [HN.out];exact HLT2.out.1) (by rw [←HXY.out];exact hq))
        clear hq HC HXY AT
        go_wp2
        go_roundw
        case rel=>exact ⟨i,j1+1+1,dr,rfl,by go_num,⟨by omega,HJ.out.2⟩,HC2,HOX,HGX⟩
        case measure=>have:=HLT2.out;simp [intOf];omega
       | false =>
        have HC2:=Lib.hid (HC.out.keep (by rw [HN.out];exact HLT2.out.1) (by rw [←HXY.out];exact hq))
        rw [←hx.out] at HC2
        have hst:=parts_stored HOX.out HLN.out HLT2.out.2 x
        have HST:=Lib.hid hst.1
        have HSG:=Lib.hid (grown_tr2 HGX.out hst.2)
        obtain ⟨⟨x0,x1,x2,x3,x4⟩,-⟩:=AT.out w4 HQ.out
        obtain ⟨⟨z0,z1,z2,z3,z4⟩,⟨f0,f1,f2,f3,f4⟩⟩:=pcells_at HOX.out HLN.out HLT2.out.2
        clear hq HC HXY AT hst hx
        generalize dr[i]! = z at *
        go_wp2
        go_roundw
        case rel=>exact ⟨i+1,j1+1+1,_,by go_num,by go_num,⟨by omega,by have:=HJ.out;omega⟩,HC2,HST,HSG⟩
        case measure=>have:=HLT2.out;simp [intOf];omega
      ·have hje:k1+1+j=n:=by omega
       have m1:¬(j:Int) < ((n-(k1+1):Nat):Int):=by omega
       have hfr:=HC.out.front
       rw [hje] at hfr
       have HFR:=Lib.hid hfr
       obtain ⟨hBg,hgl,hnc,hcc,hroom⟩:=HOR.out.parts
       have hin:i < n:=by omega
       have hcl:∀ ty,(Builtin.clear_ #[48] ty #[.slice (some ⟨g,off+i*5,none⟩) (n-i) (cap-i)]).run Try.prog wr=.ok (.tuple #[]) (wr.setCells g (off+i*5) (Builtin.zeroCells (Value.agg #[.int .u8 0,.int .i64 0,.string ⟨#[]⟩,.slice none 0 0,.string ⟨#[]⟩]).cells (n-i)).toList) :=
        fun ty=>run_clear_cells wr _ _ ty _ 5 Try.underlying48 Try.zeroValue52 rfl (by decide) (fun u hu=>by
         simp only [Value.cells,List.mem_cons,List.not_mem_nil,or_false] at hu
         rcases hu with rfl|rfl|rfl|rfl|rfl <;> rfl) g (off+i*5) _ _ (by omega) (fun q hq=>by rw [Nat.add_assoc];exact (hroom (i*5+q) (by omega)).1) (fun q hq=>by rw [Nat.add_assoc];exact (hroom (i*5+q) (by omega)).2)
       have hft:=parts_front HOR.out hlen (m:=i) (by omega) (Builtin.zeroCells (Value.agg #[.int .u8 0,.int .i64 0,.string ⟨#[]⟩,.slice none 0 0,.string ⟨#[]⟩]).cells (n-i)).toList
       rw [HFR.out] at hft
       have hdl:(ddI d n).length=i:=by rw [←HFR.out,List.length_take];omega
       have HFT:Hid (SliceOf (wr.setCells g (off+i*5) (Builtin.zeroCells (Value.agg #[.int .u8 0,.int .i64 0,.string ⟨#[]⟩,.slice none 0 0,.string ⟨#[]⟩]).cells (n-i)).toList) 5 (.slice (some ⟨g,off,none⟩) i cap) (ddI d n).length (partsV (ddI d n))):=by rw [hdl];exact hft
       have HGE:=Lib.hid (grown_tr2 HGR.out (setCells_grown g (Builtin.zeroCells (Value.agg #[.int .u8 0,.int .i64 0,.string ⟨#[]⟩,.slice none 0 0,.string ⟨#[]⟩]).cells (n-i)).toList (off+i*5) wr))
       have e1:((n:Int)-(i:Int))=((n-i:Nat):Int):=by omega
       have l3:(i:Int)≤(n:Int):=by omega
       have l4:(i:Int)≤(cap:Int):=by omega
       have hne:¬cap=i:=by omega
       clear hfr hft hcc hroom hdl HC hje hlt hin
       generalize (Builtin.zeroCells (Value.agg #[.int .u8 0,.int .i64 0,.string ⟨#[]⟩,.slice none 0 0,.string ⟨#[]⟩]).cells (n-i)).toList=zs at *
       go_wp2
       go_ret
       exact ⟨_,rfl,HFT.out,HGE.out⟩
   ·obtain rfl:k=n:=by omega
    have HD:Hid (ddI d k=d):=by
     have h1:=dd_all (d:=d) k (by rw [HN.out];exact Nat.le_refl _) HE.out
     rw [List.take_of_length_le (by rw [HN.out];exact Nat.le_refl _)] at h1
     exact h1
    clear hlt hk hh
    go_wp2
    go_ret
    exact ⟨_,rfl,by rw [HD.out,HN.out];exact (HO.out.later HB.out).slice,below_grown HB.out⟩
end Go.Proofs.Ytnkhkkdmjabhnaa
