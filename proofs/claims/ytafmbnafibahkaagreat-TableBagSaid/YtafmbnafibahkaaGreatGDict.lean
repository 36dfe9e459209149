/- Sorted texts of which those beside their like are left out are the unlike ones, rising; a text is found among them by halving: no program. -/
import Derived.Test.YtafmbnafibahkaaGreatGCell
import Derived.Test.YtafmbnafibahkaaGreatGRuns
import Derived.Test.YtafmbnafibahkaaGreatGShelf
import Derived.Lib.SlicesCompact
import Derived.Sort.EncStr
import Derived.Shelf.Spec.SearchS
namespace Go.Proofs.YtafmbnafibahkaaGreat
open Go Go.RowKit
def Rises (l:List ByteArray):Prop:=l.Pairwise fun a b=>ltB a b=true
def insW:List ByteArray→ByteArray→List ByteArray
 | [],c=>[c]
 | w::ws,c=>if ltB w c then w::insW ws c else if w=c then w::ws else c::w::ws
def wordsOf (l:List ByteArray):List ByteArray:=l.foldl insW []
theorem wordsOf_snoc (l:List ByteArray)(c:ByteArray):wordsOf (l++[c])=insW (wordsOf l) c:=by simp [wordsOf,List.foldl_append]
theorem mem_insW (ws:List ByteArray)(c x:ByteArray):x∈insW ws c↔x∈ws∨x=c:=by
 induction ws with
 | nil=>simp [insW]
 | cons w ws ih =>
  unfold insW
  split
  ·simp only [List.mem_cons,ih];constructor
   ·rintro (h|h|h)
    ·exact .inl (.inl h)
    ·exact .inl (.inr h)
    ·exact .inr h
   ·rintro ((h|h)|h)
    ·exact .inl h
    ·exact .inr (.inl h)
    ·exact .inr (.inr h)
  ·split
   ·rename_i h;subst h;simp only [List.mem_cons];constructor
    ·intro h;exact .inl h
    ·rintro (h|h)
     ·exact h
     ·exact .inl h
   ·simp only [List.mem_cons];constructor
    ·rintro (h|h|h)
     ·exact .inr h
     ·exact .inl (.inl h)
     ·exact .inl (.inr h)
    ·rintro ((h|h)|h)
     ·exact .inr (.inl h)
     ·exact .inr (.inr h)
     ·exact .inl h
theorem rises_insW (ws:List ByteArray)(c:ByteArray)(h:Rises ws):Rises (insW ws c):=by
 induction ws with
 | nil=>exact List.pairwise_singleton _ _
 | cons w ws ih =>
  obtain ⟨h1,h2⟩:=List.pairwise_cons.1 h
  unfold insW
  split
  ·rename_i hw
   refine List.pairwise_cons.2 ⟨fun x hx=>?_,ih h2⟩
   rcases (mem_insW ws c x).1 hx with hx|rfl
   ·exact h1 x hx
   ·exact hw
  ·split
   ·exact h
   ·rename_i h3 h4
    have hcw:ltB c w=true:=by
     cases hq:ltB c w with
     | true=>rfl
     | false=>exact absurd (ltB_tri (by simpa using h3) hq) h4
    refine List.pairwise_cons.2 ⟨fun x hx=>?_,h⟩
    rcases List.mem_cons.1 hx with rfl|hx
    ·exact hcw
    ·exact ltB_trans hcw (h1 x hx)
theorem wordsOf_spec (l:List ByteArray):Rises (wordsOf l)∧∀ x,x∈wordsOf l↔x∈l:=by
 induction hn:l.length generalizing l with
 | zero=>have:l=[]:=List.eq_nil_of_length_eq_zero hn;subst this;exact ⟨List.Pairwise.nil,fun x=>Iff.rfl⟩
 | succ n ih =>
  have hne:l≠[]:=by rintro rfl;simp at hn
  have e:=(List.dropLast_concat_getLast hne).symm
  obtain ⟨h1,h2⟩:=ih l.dropLast (by rw [List.length_dropLast,hn];rfl)
  rw [e,wordsOf_snoc]
  refine ⟨rises_insW _ _ h1,fun x=>?_⟩
  rw [mem_insW,h2,List.mem_append]
  simp
theorem rises_unique:∀ (a b:List ByteArray),Rises a→Rises b→(∀ x,x∈a↔x∈b)→a=b
 | [],[],_,_,_=>rfl
 | [],y::b,_,_,h=>absurd ((h y).2 List.mem_cons_self) (by simp)
 | x::a,[],_,_,h=>absurd ((h x).1 List.mem_cons_self) (by simp)
 | x::a,y::b,ha,hb,h=>by
  obtain ⟨a1,a2⟩:=List.pairwise_cons.1 ha
  obtain ⟨b1,b2⟩:=List.pairwise_cons.1 hb
  have hxy:x=y:=by
   rcases List.mem_cons.1 ((h x).1 List.mem_cons_self) with e|hx
   ·exact e
   ·rcases List.mem_cons.1 ((h y).2 List.mem_cons_self) with e|hy
    ·exact e.symm
    ·have p:=a1 y hy
     have q:=b1 x hx
     rw [ltB_asym p] at q
     exact absurd q (by decide)
  subst hxy
  rw [rises_unique a b a2 b2 fun z=>?_]
  constructor
  ·intro hz
   rcases List.mem_cons.1 ((h z).1 (List.mem_cons_of_mem _ hz)) with e|hz'
   ·subst e;exact absurd rfl (ltB_ne (a1 z hz))
   ·exact hz'
  ·intro hz
   rcases List.mem_cons.1 ((h z).2 (List.mem_cons_of_mem _ hz)) with e|hz'
   ·subst e;exact absurd rfl (ltB_ne (b1 z hz))
   ·exact hz'
theorem insW_length (ws:List ByteArray)(c:ByteArray):(insW ws c).length≤ws.length+1:=by
 induction ws with
 | nil=>simp [insW]
 | cons w ws ih =>
  unfold insW
  split
  ·simp only [List.length_cons];omega
  ·split <;> simp
theorem wordsOf_length (l:List ByteArray):(wordsOf l).length≤l.length:=by
 induction hn:l.length generalizing l with
 | zero=>have:l=[]:=List.eq_nil_of_length_eq_zero hn;subst this;exact Nat.le_refl _
 | succ n ih =>
  have hne:l≠[]:=by rintro rfl;simp at hn
  have e:=(List.dropLast_concat_getLast hne).symm
  have h1:=ih l.dropLast (by rw [List.length_dropLast,hn];rfl)
  rw [e,wordsOf_snoc]
  have:=insW_length (wordsOf l.dropLast) (l.getLast hne)
  omega
def placeN:List ByteArray→ByteArray→Option Nat
 | [],_=>none
 | w::ws,c=>if w=c then some 0 else (placeN ws c).map (· + 1)
def placeI (ws:List ByteArray)(c:ByteArray):Int:=match placeN ws c with
 | none=>-1
 | some k=>k
theorem placeN_some (ws:List ByteArray)(c:ByteArray):∀ k,placeN ws c=some k→ws[k]? = some c∧∀ j,j < k→ws[j]? ≠ some c:=by
 induction ws with
 | nil=>simp [placeN]
 | cons w ws ih =>
  intro k h
  unfold placeN at h
  split at h
  ·rename_i e;subst e
   simp at h;subst h
   exact ⟨rfl,fun j hj=>absurd hj (by omega)⟩
  ·rename_i hne
   cases hp:placeN ws c with
   | none=>rw [hp] at h;simp at h
   | some q =>
    rw [hp] at h;simp at h;subst h
    obtain ⟨e1,e2⟩:=ih q hp
    refine ⟨by simpa using e1,fun j hj=>?_⟩
    cases j with
    | zero=>simp;exact hne
    | succ j=>simpa using e2 j (by omega)
theorem placeN_none (ws:List ByteArray)(c:ByteArray):placeN ws c=none↔c ∉ ws:=by
 induction ws with
 | nil=>simp [placeN]
 | cons w ws ih =>
  unfold placeN
  split
  ·rename_i e;subst e;simp
  ·rename_i hne
   simp only [Option.map_eq_none_iff,ih,List.mem_cons,not_or]
   constructor
   ·intro h;exact ⟨fun e=>hne e.symm,h⟩
   ·intro h;exact h.2
theorem placeI_mem {ws:List ByteArray}{c:ByteArray}(h:c∈ws):∃ k:Nat,placeI ws c=k∧k < ws.length∧ws[k]? = some c:=by
 cases hp:placeN ws c with
 | none=>exact absurd h ((placeN_none ws c).1 hp)
 | some k =>
  have:=(placeN_some ws c k hp).1
  exact ⟨k,by unfold placeI;rw [hp],(List.getElem?_eq_some_iff.1 this).1,this⟩
theorem rises_get {ws:List ByteArray}(h:Rises ws){i j:Nat}{c:ByteArray}(hi:ws[i]? = some c)(hj:ws[j]? = some c):i=j:=by
 obtain ⟨i1,i2⟩:=List.getElem?_eq_some_iff.1 hi
 obtain ⟨j1,j2⟩:=List.getElem?_eq_some_iff.1 hj
 have hp:=List.pairwise_iff_getElem.1 h
 rcases Nat.lt_trichotomy i j with hlt|e|hlt
 ·have:=hp i j i1 j1 hlt
  rw [i2,j2,ltB_irrefl] at this
  exact absurd this (by decide)
 ·exact e
 ·have:=hp j i j1 i1 hlt
  rw [i2,j2,ltB_irrefl] at this
  exact absurd this (by decide)
theorem placeI_get {ws:List ByteArray}(h:Rises ws){k:Nat}{c:ByteArray}(hk:ws[k]? = some c):placeI ws c=k:=by
 have hm:c∈ws:=List.mem_of_getElem? hk
 obtain ⟨q,e,_,hq⟩:=placeI_mem hm
 rw [e,rises_get h hq hk]
def placesOf (l:List ByteArray):List Int:=l.map (placeI (wordsOf l))
def dictP (l:List ByteArray):List UInt8:=vp (wordsOf l).length++((wordsOf l).flatMap cellP++shelfP (placesOf l))
theorem places_range (l:List ByteArray)(hl:l.length < 9223372036854775807):InR (placesOf l):=by
 intro x hx
 obtain ⟨c,hc,rfl⟩:=List.mem_map.1 hx
 obtain ⟨k,e,hk,_⟩:=placeI_mem (((wordsOf_spec l).2 c).2 hc)
 have:=wordsOf_length l
 rw [e];omega
theorem cells_front:∀ (a b:List ByteArray)(r r':List UInt8),(∀ c∈a,Small c)→(∀ c∈b,Small c)→a.length=b.length→a.flatMap cellP++r=b.flatMap cellP++r'→a=b∧r=r'
 | [],[],r,r',_,_,_,h=>⟨rfl,by simpa using h⟩
 | x::a,y::b,r,r',h1,h2,hl,h=>by
  rw [List.flatMap_cons,List.flatMap_cons,List.append_assoc,List.append_assoc] at h
  obtain ⟨e1,k⟩:=cellP_front (h1 x List.mem_cons_self) (h2 y List.mem_cons_self) h
  obtain ⟨e2,e3⟩:=cells_front a b r r' (fun z hz=>h1 z (List.mem_cons_of_mem _ hz)) (fun z hz=>h2 z (List.mem_cons_of_mem _ hz)) (by simpa using hl) k
  exact ⟨by rw [e1,e2],e3⟩
theorem cells_take (ws:List ByteArray)(k:Nat)(h:k < ws.length):(ws.take (k+1)).flatMap cellP=(ws.take k).flatMap cellP++(mkB (cellP ws[k])).data.toList:=by
 rw [take_add ws k h,List.flatMap_append]
 simp [mkB_data]
theorem cells_size (ws:List ByteArray)(h:∀ c∈ws,c.size≤1000000):(ws.flatMap cellP).length≤1000010*ws.length:=by
 induction ws with
 | nil=>simp
 | cons x ws ih =>
  have h1:=h x List.mem_cons_self
  have ih:=ih (fun y hy=>h y (List.mem_cons_of_mem _ hy))
  have h2:=(cellP_length x).resolve_right (by omega)
  rw [List.flatMap_cons,List.length_append,List.length_cons]
  omega
theorem shelfB_most (l:List Int)(hr:InR l):(shelfB l).size≤20+8*l.length:=by
 have h1:=vp_len_10 (foldI_nat l hr)
 have h8:bytesL l≤8:=bytesFrom_le_8 _ _
 have h2:=vp_len_10 (n:=bytesL l) (by omega)
 have h3:=rowsP_length (leastI l) (bytesL l) l
 have h4:=Nat.mul_le_mul_right l.length h8
 rw [←data_size,shelfB_data]
 unfold shelfP
 rw [List.length_append,List.length_append,h3]
 omega
def dictB (l:List ByteArray):ByteArray:=mkB (dictP l)
theorem dictB_parts (l:List ByteArray):mkB (vp (wordsOf l).length++(wordsOf l).flatMap cellP)++shelfB (placesOf l)=dictB l:=by
 unfold dictB dictP
 apply bytes_ext
 rw [data_append]
 show (vp (wordsOf l).length++(wordsOf l).flatMap cellP)++shelfP (placesOf l)=_
 rw [List.append_assoc];rfl
def DictAt (s:List UInt8)(many:Int)(l:List ByteArray)(r:List UInt8):Prop :=
 0≤many∧many≤4096∧(l.length:Int)=many∧(∀ c∈l,rightB c=true)∧s=dictP l++r
def WordsAt (s:List UInt8)(n:Nat)(ws:List ByteArray)(r:List UInt8):Prop:=ws.length=n∧(∀ c∈ws,rightB c=true)∧s=ws.flatMap cellP++r
theorem WordsAt.same {s:List UInt8}{n:Nat}{ws ws':List ByteArray}{r r':List UInt8}(h:WordsAt s n ws r)(k:WordsAt s n ws' r'):ws=ws'∧r=r' :=
 cells_front _ _ _ _ (fun c hc=>right_small (h.2.1 c hc)) (fun c hc=>right_small (k.2.1 c hc)) (h.1.trans k.1.symm) (h.2.2.symm.trans k.2.2)
theorem WordsAt.snoc {s:List UInt8}{n:Nat}{ws:List ByteArray}{c:ByteArray}{r:List UInt8}(h:WordsAt s n ws (cellP c++r))(hc:rightB c=true):WordsAt s (n+1) (ws++[c]) r:=by
 obtain ⟨h1,h2,h3⟩:=h
 refine ⟨by rw [List.length_append,h1];rfl,fun d hd=>?_,by rw [h3,List.flatMap_append,List.append_assoc];simp⟩
 rcases List.mem_append.1 hd with hd|hd
 ·exact h2 d hd
 ·rw [List.mem_singleton.1 hd];exact hc
theorem WordsAt.next {s:List UInt8}{k n:Nat}{ws ws':List ByteArray}{r r':List UInt8}(h:WordsAt s k ws r)(h':WordsAt s n ws' r')(hk:k < n):∃ c r2,rightB c=true∧r=cellP c++r2:=by
 obtain ⟨h1,h2,h3⟩:=h
 obtain ⟨k1,k2,k3⟩:=h'
 have e:ws'=ws'.take k++ws'.drop k:=(List.take_append_drop k ws').symm
 rw [e,List.flatMap_append,List.append_assoc] at k3
 have:=(cells_front ws (ws'.take k) r _ (fun c hc=>right_small (h2 c hc)) (fun c hc=>right_small (k2 c (List.mem_of_mem_take hc))) (by rw [List.length_take];omega) (h3.symm.trans k3)).2
 have hd:ws'.drop k=ws'[k]::ws'.drop (k+1):=List.drop_eq_getElem_cons (by omega)
 rw [hd,List.flatMap_cons,List.append_assoc] at this
 exact ⟨_,_,k2 _ (List.getElem_mem _),this⟩
theorem WordsAt.stop {s:List UInt8}{k n:Nat}{ws:List ByteArray}{cur:ByteArray}(h:WordsAt s k ws cur.data.toList)(hk:k < n)(hno:cellOk cur false=false):¬∃ ws r,WordsAt s n ws r:=by
 rintro ⟨ws',r',h'⟩
 obtain ⟨c,r2,hc,e⟩:=h.next h' hk
 have:=cellT_at c (by have:=rightB_size hc;omega) cur r2 e
 unfold cellOk at hno
 rw [this] at hno
 simp [hc] at hno
theorem WordsAt.go {s:List UInt8}{k:Nat}{ws:List ByteArray}{cur:ByteArray}(h:WordsAt s k ws cur.data.toList)(hok:cellOk cur false=true):WordsAt s (k+1) (ws++[(cellT cur false).1]) (cellT cur false).2.1.data.toList:=by
 obtain ⟨h1,h2⟩:=cellOk_good hok
 obtain ⟨_,_,e⟩:=cellT_good h1
 rw [e] at h
 exact h.snoc h2
def ParseAt (s:List UInt8)(many:Int)(ws:List ByteArray)(a:List Int)(r:List UInt8):Prop :=
 ws.length≤4096∧∃ r1,s=vp ws.length++r1∧∃ r2,WordsAt r1 ws.length ws r2∧ShelfAt r2 many a r
theorem ParseAt.same {s:List UInt8}{many:Int}{ws ws':List ByteArray}{a a':List Int}{r r':List UInt8}(h:ParseAt s many ws a r)(k:ParseAt s many ws' a' r'):ws=ws'∧a=a'∧r=r':=by
 obtain ⟨h0,r1,h1,r2,h2,h3⟩:=h
 obtain ⟨k0,q1,k1,q2,k2,k3⟩:=k
 obtain ⟨e,e1⟩:=vp_front (by omega) (by omega) (h1.symm.trans k1)
 subst e1
 rw [←e] at k2
 obtain ⟨e2,e3⟩:=h2.same k2
 subst e3
 obtain ⟨e4,e5⟩:=h3.same k3
 exact ⟨e2,e4,e5⟩
theorem DictAt.parse {s:List UInt8}{many:Int}{l:List ByteArray}{r:List UInt8}(h:DictAt s many l r):ParseAt s many (wordsOf l) (placesOf l) r:=by
 obtain ⟨h1,h2,h3,h4,h5⟩:=h
 have hl:=wordsOf_length l
 refine ⟨by omega,_,by rw [h5];unfold dictP;rw [List.append_assoc],_,⟨rfl,fun c hc=>h4 c (((wordsOf_spec l).2 c).1 hc),by rw [List.append_assoc]⟩,h1,h2,?_,places_range l (by omega),rfl⟩
 unfold placesOf;rw [List.length_map];exact h3
def AllIn (ws:List ByteArray)(a:List Int):Prop:=∀ x∈a,0≤x∧x < ws.length
def picks (ws:List ByteArray)(a:List Int):List ByteArray:=a.map fun x=>ws.getD x.toNat ByteArray.empty
theorem picks_length (ws:List ByteArray)(a:List Int):(picks ws a).length=a.length:=List.length_map _
theorem picks_get {ws:List ByteArray}{a:List Int}{k:Nat}(h:k < a.length){j:Nat}(hj:a[k]=j)(hw:j < ws.length):(picks ws a)[k]? = some ws[j]:=by
 unfold picks
 rw [List.getElem?_map,List.getElem?_eq_getElem h]
 show some (ws.getD a[k].toNat ByteArray.empty)=_
 rw [hj,Int.toNat_natCast,List.getD_eq_getElem?_getD,List.getElem?_eq_getElem hw];rfl
theorem picks_mem {ws:List ByteArray}{a:List Int}(h:AllIn ws a):∀ c∈picks ws a,c∈ws:=by
 intro c hc
 obtain ⟨x,hx,rfl⟩:=List.mem_map.1 hc
 obtain ⟨h1,h2⟩:=h x hx
 rw [List.getD_eq_getElem?_getD,List.getElem?_eq_getElem (by omega)]
 exact List.getElem_mem _
theorem picks_places (l:List ByteArray):AllIn (wordsOf l) (placesOf l)∧picks (wordsOf l) (placesOf l)=l:=by
 have key:∀ c∈l,(0≤placeI (wordsOf l) c∧placeI (wordsOf l) c < (wordsOf l).length)∧(wordsOf l).getD (placeI (wordsOf l) c).toNat ByteArray.empty=c:=by
  intro c hc
  obtain ⟨k,e,hk,hg⟩:=placeI_mem (((wordsOf_spec l).2 c).2 hc)
  rw [e]
  refine ⟨by omega,?_⟩
  rw [Int.toNat_natCast,List.getD_eq_getElem?_getD,hg];rfl
 refine ⟨fun x hx=>?_,?_⟩
 ·obtain ⟨c,hc,rfl⟩:=List.mem_map.1 hx
  exact (key c hc).1
 ·unfold picks placesOf
  rw [List.map_map]
  conv=>rhs;rw [←List.map_id l]
  exact List.map_congr_left fun c hc=>(key c hc).2
theorem ParseAt.none_of {s:List UInt8}{many:Int}(h:¬∃ ws a r,ParseAt s many ws a r):¬∃ l r,DictAt s many l r:=fun ⟨_,_,k⟩=>h ⟨_,_,_,k.parse⟩
theorem ParseAt.out {s:List UInt8}{many:Int}{ws:List ByteArray}{a:List Int}{r:List UInt8}(h:ParseAt s many ws a r)(hn:¬AllIn ws a):¬∃ l r,DictAt s many l r:=by
 rintro ⟨l,r',k⟩
 obtain ⟨rfl,rfl,_⟩:=h.same k.parse
 exact hn (picks_places l).1
theorem ParseAt.meets {s:List UInt8}{many:Int}{ws:List ByteArray}{a:List Int}{r:List UInt8}(h:ParseAt s many ws a r){l:List ByteArray}{r':List UInt8}(k:DictAt s many l r'):picks ws a=l∧wordsOf l=ws∧r=r':=by
 obtain ⟨rfl,rfl,e⟩:=h.same k.parse
 exact ⟨(picks_places l).2,rfl,e⟩
theorem ParseAt.dict {s:List UInt8}{many:Int}{ws:List ByteArray}{a:List Int}{r:List UInt8}(h:ParseAt s many ws a r)(ha:AllIn ws a)(he:s=dictP (picks ws a)++r):DictAt s many (picks ws a) r:=by
 obtain ⟨_,r1,_,r2,h2,h3,h4,h5,_⟩:=h
 exact ⟨h3,h4,by rw [picks_length];exact h5,fun c hc=>h2.2.1 c (picks_mem ha c hc),he⟩
theorem ParseAt.words {s:List UInt8}{many:Int}{ws:List ByteArray}{a:List Int}{r:List UInt8}(h:ParseAt s many ws a r)(ha:AllIn ws a)(he:wordsOf (picks ws a)=ws):DictAt s many (picks ws a) r:=by
 refine h.dict ha ?_
 obtain ⟨_,r1,e1,r2,h2,h3⟩:=h
 obtain ⟨_,_,e2⟩:=h2
 have hr:Rises ws:=by rw [←he];exact (wordsOf_spec _).1
 have hp:placesOf (picks ws a)=a:=by
  unfold placesOf
  rw [he]
  unfold picks
  rw [List.map_map]
  conv=>rhs;rw [←List.map_id a]
  refine List.map_congr_left fun x hx=>?_
  obtain ⟨x1,x2⟩:=ha x hx
  show placeI ws (ws.getD x.toNat ByteArray.empty)=x
  have hxl:x.toNat < ws.length:=by omega
  have:=placeI_get hr (k:=x.toNat) (c:=ws.getD x.toNat ByteArray.empty) (by rw [List.getD_eq_getElem?_getD,List.getElem?_eq_getElem hxl];rfl)
  rw [this];omega
 unfold dictP
 rw [he,hp,e1,e2,h3.2.2.2.2,List.append_assoc,List.append_assoc]
theorem ParseAt.no {s:List UInt8}{many:Int}{ws:List ByteArray}{a:List Int}{r:List UInt8}(h:ParseAt s many ws a r)(hn:s≠dictP (picks ws a)++r):¬∃ l r,DictAt s many l r:=by
 rintro ⟨l,r',k⟩
 obtain ⟨e,_,rfl⟩:=h.meets k
 rw [e] at hn
 exact hn k.2.2.2.2
theorem ParseAt.noWords {s:List UInt8}{many:Int}{ws:List ByteArray}{a:List Int}{r:List UInt8}(h:ParseAt s many ws a r)(hn:wordsOf (picks ws a)≠ws):¬∃ l r,DictAt s many l r:=by
 rintro ⟨l,r',k⟩
 obtain ⟨e,e2,_⟩:=h.meets k
 rw [e] at hn
 exact hn e2
theorem DictAt.same {s:List UInt8}{many:Int}{l l':List ByteArray}{r r':List UInt8}(h:DictAt s many l r)(k:DictAt s many l' r'):l=l'∧r=r':=by
 obtain ⟨e,_,e2⟩:=h.parse.meets k
 rw [(picks_places l).2] at e
 exact ⟨e,e2⟩
theorem bl_lt:∀ (x y:List UInt8),Op.bytesLess x y=decide (x < y)
 | [],[]=>by simp [Op.bytesLess]
 | _::_,[]=>by simp [Op.bytesLess]
 | [],_::_=>by simp [Op.bytesLess]
 | a::x,b::y=>by
  rw [Op.bytesLess,bl_lt x y]
  simp only [List.cons_lt_cons_iff]
  by_cases h1:a < b <;> by_cases h2:a=b <;> by_cases h3:x < y <;> simp [h1,h2,h3]
def leL (x y:List UInt8):Bool:=decide (x≤y)
theorem leL_eq (x y:List UInt8):leL x y = !(Op.bytesLess y x):=by
 unfold leL
 rw [bl_lt]
 by_cases h:y < x
 ·rw [decide_eq_true h,decide_eq_false (by rw [←List.not_lt];exact fun k=>k h)];rfl
 ·rw [decide_eq_false h,decide_eq_true (List.not_lt.1 h)];rfl
theorem leL_trans (a b c:List UInt8)(h:leL a b=true)(k:leL b c=true):leL a c=true:=by
 rw [leL_eq] at *
 simp only [Bool.not_eq_true'] at *
 cases hca:Op.bytesLess c a with
 | false=>rfl
 | true =>
  cases hbc:Op.bytesLess b c with
  | true=>have:=bl_trans _ _ _ hbc hca;rw [this] at h;exact absurd h (by decide)
  | false =>
   have:=bl_tri _ _ hbc k
   subst this
   rw [hca] at h;exact absurd h (by decide)
theorem leL_total (a b:List UInt8):(leL a b||leL b a)=true:=by
 rw [leL_eq,leL_eq]
 cases hb:Op.bytesLess b a with
 | false=>rfl
 | true =>
  cases ha:Op.bytesLess a b with
  | false=>rfl
  | true=>have:=bl_trans _ _ _ ha hb;rw [bl_irrefl] at this;exact absurd this (by decide)
theorem leL_tri {a b:List UInt8}(h:leL a b=true)(k:a≠b):Op.bytesLess a b=true:=by
 rw [leL_eq] at h
 simp only [Bool.not_eq_true'] at h
 cases ha:Op.bytesLess a b with
 | true=>rfl
 | false=>exact absurd (bl_tri _ _ ha h) k
theorem leL_anti {a b:List UInt8}(h:leL a b=true)(k:leL b a=true):a=b:=by
 rw [leL_eq] at h k
 simp only [Bool.not_eq_true'] at h k
 exact bl_tri _ _ k h
theorem compact_rises (t:List (List UInt8))(hs:t.Pairwise fun a b=>leL a b=true):∀ m,m≤t.length →
  ((Lib.compactUpTo t.toArray m).Pairwise fun a b=>Op.bytesLess a b=true)∧(∀ x,x∈Lib.compactUpTo t.toArray m↔x∈t.take m):=by
 intro m
 induction m with
 | zero=>intro _;simp [Lib.compactUpTo]
 | succ m ih =>
  intro hm
  obtain ⟨h1,h2⟩:=ih (by omega)
  have hget:∀ i,i < t.length→t.toArray[i]! = t[i]! := fun i hi=>by simp [hi]
  have hmt:m < t.length:=by omega
  have htake:t.take (m+1)=t.take m++[t[m]]:=by rw [List.take_add_one,List.getElem?_eq_getElem hmt];rfl
  have hgm:t.toArray[m]! = t[m]:=by rw [hget m hmt];simp [hmt]
  rw [Lib.compactUpTo_succ,hgm,htake]
  cases hk:Lib.keeps t.toArray m with
  | true =>
   simp only [if_true]
   refine ⟨List.pairwise_append.2 ⟨h1,List.pairwise_singleton _ _,fun x hx y hy=>?_⟩,fun x=>by rw [List.mem_append,List.mem_append,h2]⟩
   obtain rfl:=List.mem_singleton.1 hy
   have hx':=(h2 x).1 hx
   obtain ⟨i,hi,rfl⟩:=List.mem_iff_getElem.1 hx'
   rw [List.length_take] at hi
   have hi':i < m:=by omega
   rw [List.getElem_take]
   have hp:=List.pairwise_iff_getElem.1 hs
   have hle:=hp i m (by omega) hmt hi'
   refine leL_tri hle fun e=>?_
   have hm0:0 < m:=by omega
   have hne:t[m]≠t[m-1]:=by
    unfold Lib.keeps at hk
    rw [decide_eq_true_eq] at hk
    have:=hk.resolve_left (by omega)
    rw [hgm,hget (m-1) (by omega)] at this
    simpa [show m-1 < t.length by omega] using this
   have a1:leL t[i] t[m-1]=true:=by
    by_cases hi2:i=m-1
    ·subst hi2;have:=leL_total t[m-1] t[m-1];simpa using this
    ·exact hp i (m-1) (by omega) (by omega) (by omega)
   have a2:leL t[m-1] t[m]=true:=hp (m-1) m (by omega) hmt (by omega)
   rw [e] at a1
   exact hne (leL_anti a1 a2)
  | false =>
   simp only [Bool.false_eq_true,if_false,List.append_nil]
   refine ⟨h1,fun x=>?_⟩
   rw [h2,List.mem_append,List.mem_singleton]
   have hk':¬(m=0∨t.toArray[m]! ≠ t.toArray[m-1]!):=by
    unfold Lib.keeps at hk;simpa using hk
   have hm0:0 < m:=by
    rcases Nat.eq_zero_or_pos m with h|h
    ·exact absurd (.inl h) hk'
    ·exact h
   have he:t[m]=t[m-1]:=by
    have:t.toArray[m]! = t.toArray[m-1]! := Classical.byContradiction fun h=>hk' (.inr h)
    rw [hgm,hget (m-1) (by omega)] at this
    simpa [show m-1 < t.length by omega] using this
   constructor
   ·exact .inl
   ·rintro (h|rfl)
    ·exact h
    ·rw [he]
     exact List.mem_iff_getElem.2 ⟨m-1,by rw [List.length_take];omega,by rw [List.getElem_take]⟩
def bsOf (l:List ByteArray):List (List UInt8):=l.map fun s=>s.data.toList
def sortedOf (l:List ByteArray):List (List UInt8):=(bsOf l).mergeSort fun x y=>decide (x≤y)
theorem sorted_length (l:List ByteArray):(sortedOf l).length=l.length:=by unfold sortedOf bsOf;rw [List.length_mergeSort,List.length_map]
theorem compact_words (l:List ByteArray):(Lib.compact (sortedOf l)).map (fun b=>(⟨b.toArray⟩:ByteArray))=wordsOf l:=by
 have hs:(sortedOf l).Pairwise fun a b=>leL a b=true:=List.pairwise_mergeSort leL_trans leL_total (bsOf l)
 obtain ⟨h1,h2⟩:=compact_rises (sortedOf l) hs (sortedOf l).length (Nat.le_refl _)
 rw [List.take_length] at h2
 obtain ⟨k1,k2⟩:=wordsOf_spec l
 refine rises_unique _ _ ?_ k1 fun x=>?_
 ·unfold Rises
  rw [List.pairwise_map]
  refine h1.imp fun {a b} h=>?_
  show Op.bytesLess (ByteArray.toList ⟨a.toArray⟩) (ByteArray.toList ⟨b.toArray⟩)=true
  rw [ByteArray.toList_eq,ByteArray.toList_eq]
  exact h
 ·rw [k2,List.mem_map]
  constructor
  ·rintro ⟨b,hb,rfl⟩
   have hb':=(h2 b).1 hb
   have:b∈bsOf l:=(List.mergeSort_perm (bsOf l) _).mem_iff.1 hb'
   obtain ⟨s,hs',rfl⟩:=List.mem_map.1 this
   have e:(⟨s.data.toList.toArray⟩:ByteArray)=s:=by cases s;simp
   rw [e];exact hs'
  ·intro hx
   refine ⟨x.data.toList,(h2 _).2 ?_,by cases x;simp⟩
   exact (List.mergeSort_perm (bsOf l) _).mem_iff.2 (List.mem_map.2 ⟨x,hx,rfl⟩)
theorem compact_words_length (l:List ByteArray):(Lib.compact (sortedOf l)).length=(wordsOf l).length:=by rw [←compact_words,List.length_map]
theorem compact_cells (l:List ByteArray):(Lib.compact (sortedOf l)).map encStr=(wordsOf l).map Value.string:=by
 rw [←compact_words,List.map_map];rfl
theorem bsOf_cells (l:List ByteArray):(bsOf l).map encStr=l.map Value.string:=by
 unfold bsOf
 rw [List.map_map]
 refine List.map_congr_left fun s _=>?_
 show Value.string ⟨s.data.toList.toArray⟩=Value.string s
 cases s;simp
theorem getD_in {α:Type}(l:List α){i:Nat}(d:α)(h:i < l.length):l.getD i d=l[i]:=by rw [List.getD_eq_getElem?_getD,List.getElem?_eq_getElem h];rfl
theorem getD_out {α:Type}(l:List α){i:Nat}(d:α)(h:l.length≤i):l.getD i d=d:=by rw [List.getD_eq_getElem?_getD,List.getElem?_eq_none h];rfl
theorem place_halving {ws:List ByteArray}(hr:Rises ws){c:ByteArray}(hc:c∈ws) :
  ∃ k:Nat,placeI ws c=k∧k < ws.length∧ws[k]? = some c∧Lib.bsGo (fun t=>Op.bytesLess (ws.getD t c).toList c.toList) ws.length 0 ws.length=k:=by
 obtain ⟨k,e,hk,hg⟩:=placeI_mem hc
 refine ⟨k,e,hk,hg,?_⟩
 have hp:=List.pairwise_iff_getElem.1 hr
 have hck:ws[k]=c:=by simpa [hk] using hg
 refine Lib.bsGo_spec _ k (fun t ht=>?_) (fun t ht=>?_) _ _ _ (by omega) (Nat.zero_le _) (by omega)
 ·have htl:t < ws.length:=by omega
  have:=hp t k htl hk ht
  rw [hck] at this
  rw [getD_in _ _ htl]
  exact this
 ·by_cases htl:t < ws.length
  ·rw [getD_in _ _ htl]
   by_cases htk:t=k
   ·subst htk;rw [hck];exact bl_irrefl _
   ·have:=hp k t hk htl (by omega)
    rw [hck] at this
    exact ltB_asym this
  ·rw [getD_out _ _ (by omega)]
   exact bl_irrefl _
end Go.Proofs.YtafmbnafibahkaaGreat
