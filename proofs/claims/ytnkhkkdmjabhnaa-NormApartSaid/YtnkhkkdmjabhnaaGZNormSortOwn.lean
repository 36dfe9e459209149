/- Layer 17's own Parts. -/
import Derived.Test.YtnkhkkdmjabhnaaGZNormCopy
import Derived.Test.YtnkhkkdmjabhnaaGZNormSorted
namespace Go.Proofs.Ytnkhkkdmjabhnaa
open Go Go.RowKit
theorem enters_compare_prints:∀ (args:Array Value)(w:World),(callFunc 31 args).run Try.prog w=.ok (.enter 31 args) w:=enters_of Try.func31 (by kernel_rfl) rfl
theorem flat_get5 (d:List PartV)(j:Nat)(h:j < d.length*5):(partsV d)[j]? = some ((Go.Sort.flatK encV 5 d.toArray)[j]!):=by
 have hi:j / 5 < d.length:=by omega
 have hv:=partsV_get d (j / 5) (j % 5) hi (by omega)
 rw [show j / 5*5+j % 5=j by omega] at hv
 rw [Go.Sort.get_flatK _ _ _ _ (by simpa using h),getElem!_pos d.toArray (j / 5) (by simpa using hi),hv]
 have hm:j % 5 < 5:=Nat.mod_lt _ (by decide)
 rw [List.getElem?_eq_getElem (by rw [encV_len];exact hm)]
 congr 1
 rw [getElem!_pos (encV _) (j % 5) (by rw [encV_len];exact hm)]
 simp
theorem swk_grown {w W:World}{blk off:Nat}{d:Array PartV}(S:SWK encV 5 w blk off d W):w.grownBy W (some blk):=by
 obtain ⟨n,os,rfl⟩:=S
 refine ⟨rfl,rfl,rfl,?_,fun k hk hne=>?_⟩
 ·simp [sortWorldK,Go.Sort.putRowK,Go.Sort.putRow,Go.Sort.mapBlock,Go.Sort.grow,Go.Sort.ahead]
 ·have hne2:blk≠k:=fun e=>hne (by rw [e])
  simp [sortWorldK,Go.Sort.putRowK,Go.Sort.putRow,Go.Sort.mapBlock,Go.Sort.grow,Go.Sort.ahead,Array.getElem?_append,hk]
  rw [Array.getElem_modify,if_neg hne2]
theorem ins_none (w:World)(fv:Value):Calls Try.prog 53 #[.slice none 0 0,.int .i64 0,.int .i64 0,fv] w fun e w'=>e=.returned (.tuple #[])∧w'=w:=by
 go_enter Try.func53,Try.ntmps53
 go_wp2
 refine wp_loop_rounds 1 ?_
 rw [rounds_succ]
 go_wp2
 go_end0
 exact ⟨rfl,rfl⟩
theorem stable_none (w:World)(fv:Value):Calls Try.prog 46 #[.slice none 0 0,.int .i64 0,fv] w fun e w'=>e=.returned (.tuple #[])∧w'=w:=by
 have HI:=Lib.hid (ins_none w fv)
 go_enter Try.func46,Try.ntmps46
 go_wp2
 refine wp_loop_rounds 1 ?_
 rw [rounds_succ]
 go_wp2_with fail
 refine HI.out.mono ?_
 rintro e w2 ⟨rfl,rfl⟩
 go_wp2
 refine wp_loop_rounds 1 ?_
 rw [rounds_succ]
 go_wp2
 go_end0
 exact ⟨rfl,rfl⟩
theorem sort_none (w:World)(fv:Value):Calls Try.prog 30 #[.slice none 0 0,fv] w fun e w'=>e=.returned (.tuple #[])∧w'=w:=by
 have HI:=Lib.hid (stable_none w fv)
 go_enter Try.func30,Try.ntmps30
 go_wp2_with fail
 refine HI.out.mono ?_
 rintro e w2 ⟨rfl,rfl⟩
 go_wp2
 go_end0
 exact ⟨rfl,rfl⟩
def SortEnd17 (w:World)(B:Nat)(v:Value)(ps:List PartV)(e:Ending)(w':World):Prop:=e=.returned (.tuple #[])∧∃ S:List PartV,S.Perm ps∧S.Pairwise (fun x y=>ltK y x=false)∧Own w' B 5 v S.length (partsV S)∧w.grownBy w' v.ownBlock
theorem sort_parts_calls {w:World}{B:Nat}{v:Value}{ps:List PartV}(hO:Own w B 5 v ps.length (partsV ps))(hT:Tagged ps)(hl:ps.length≤1000000000):Calls Try.prog 30 #[v,.func (.func 31) #[] #[]] w (SortEnd17 w B v ps):=by
 obtain ⟨hs,hm,h3⟩:=hO
 rcases h3 with ⟨rfl,h0⟩ | ⟨g,off,cap,rfl,k1,k2,k3,k4,k5⟩
 ·have:ps=[]:=List.eq_nil_of_length_eq_zero h0
  subst this
  exact (sort_none w _).mono fun e w' ⟨h1,h2⟩=>⟨h1,[],List.Perm.refl _,List.Pairwise.nil,h2▸Own.nil_ _ _ _,h2▸World.grownBy.refl _ _⟩
 ·have hda:ps.toArray.size=ps.length:=by simp
  have hH:Go.Sort.HoldsK encV 5 w g off ps.toArray:=by
   intro j hj
   rw [Go.Sort.size_flatK] at hj
   have hj':j < ps.length*5:=by simpa using hj
   exact ⟨k4 j _ (flat_get5 ps j hj'),(k5 j (by omega)).2⟩
  have R:RowK encV 5 w g off ps.toArray:=⟨encV_len,encV_one,hH,k2⟩
  have hC:CmpLays Try.prog 31 #[] encV 5 cfP g off ps.toArray.size w:=fun m os dk _ x y=>compare_prints_lays x y _
  refine (sort_stable_calls (cap:=cap) R enters_compare_prints hC swoK (fun x y h=>ltK_tag x y h) (by rw [hda];exact hl) (n:=ps.length) hda.symm (fun i hi=>by rw [getElem!_pos ps.toArray i (by simpa using hi)];simpa using hT i hi)).mono ?_
  rintro e w' ⟨rfl,d',hp,S,ho⟩
  have hsz:d'.toList.length=ps.length:=by have:=hp.1;simpa using this
  have hH':=S.holds k2 hH hp.1
  have hg:=swk_grown S
  refine ⟨rfl,d'.toList,?_,?_,?_,hg⟩
  ·have h2:=hp.2.2
   have e1:d'.extract 0 ps.length=d':=by rw [←hda,←hp.1,Array.extract_size]
   have e2:ps.toArray.extract 0 ps.length=ps.toArray:=by rw [←hda,Array.extract_size]
   rw [e1,e2] at h2
   exact h2
  ·rw [List.pairwise_iff_getElem]
   intro i j hi hj hij
   have h3:=ho i j (Nat.zero_le _) hij (by omega)
   rw [getElem!_pos d' i (by simpa using hi),getElem!_pos d' j (by simpa using hj)] at h3
   simpa using h3
  ·rw [hsz]
   refine ⟨by rw [partsV_length,hsz],hm,.inr ⟨g,off,cap,rfl,k1,Nat.lt_of_lt_of_le k2 hg.size,k3,fun j u hu=>?_,fun j hj=>?_⟩⟩
   ·have hj:j < d'.toList.length*5:=by
     have:=(List.getElem?_eq_some_iff.1 hu).1
     rwa [partsV_length] at this
    rw [flat_get5 d'.toList j hj] at hu
    have h4:=(hH' j (by rw [Go.Sort.size_flatK];simpa using hj)).1
    rw [←hu]
    simpa using h4
   ·by_cases c:j < ps.length*5
    ·have h4:=hH' j (by rw [Go.Sort.size_flatK,hp.1];simpa using c)
     exact ⟨by rw [h4.1];rfl,h4.2⟩
    ·obtain ⟨m,os,rfl⟩:=S
     have hsx:g < (Go.Sort.putRowK encV 5 (Go.Sort.ahead w m) g off d').heap.size:=by rw [Go.Sort.size_putRowK];exact k2
     unfold sortWorldK
     rw [Go.Sort.cell?_grow _ _ _ (by exact hsx),Go.Sort.frozen?_grow _ _ _ (by exact hsx)]
     unfold Go.Sort.putRowK
     rw [Go.Sort.cell?_putRow_other _ _ _ _ _ _ (.inr (.inr (by rw [Go.Sort.size_flatK,hp.1];simp;omega))),Go.Sort.frozen?_putRow]
     exact k5 j hj
end Go.Proofs.Ytnkhkkdmjabhnaa
