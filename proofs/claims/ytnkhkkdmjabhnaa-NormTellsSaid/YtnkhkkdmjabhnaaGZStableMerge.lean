/- slices.symMergeCmpFunc at parts of five cells. -/
import Derived.Test.YtnkhkkdmjabhnaaGZStableSwap
namespace Go.Proofs.Ytnkhkkdmjabhnaa
open Go Go.RowKit Go.Lib Go.Sort
theorem rotF_left (m e:Nat)(f:Nat→PartV)(x:Nat):f x=rotF m m e f x:=by
 unfold rotF
 split
 ·congr 1;omega
 ·split
  ·omega
  ·rfl
theorem rotF_right (s m:Nat)(f:Nat→PartV)(x:Nat):f x=rotF s m m f x:=by
 unfold rotF
 split
 ·omega
 ·split
  ·congr 1;omega
  ·rfl
theorem perm_wide {a b a' b':Nat}{d d':Array PartV}(h1:a'≤a)(h2:b≤b')(h3:b'≤d.size)(hab:a≤b)(h:PermIn a b d d'):PermIn a' b' d d':=by
 refine ⟨h.1,fun i hi=>h.2.1 i (by omega),?_⟩
 have e:∀ d:Array PartV,b'≤d.size→(d.extract a' b').toList=(d.extract a' a).toList++((d.extract a b).toList++(d.extract b b').toList):=fun d hd=>by
  rw [extract_toList d a' b' hd,extract_toList d a' a (by omega),extract_toList d a b (by omega),extract_toList d b b' hd,←List.map_append,←List.map_append]
  congr 1
  have q1:=@List.range'_append_1 a' (a-a') (b-a)
  have q2:=@List.range'_append_1 a' (b-a') (b'-b)
  rw [show a'+(a-a')=a by omega,show (a-a')+(b-a)=b-a' by omega] at q1
  rw [show a'+(b-a')=b by omega,show (b-a')+(b'-b)=b'-a' by omega] at q2
  rw [←q2,←q1,List.append_assoc]
 rw [e d h3,e d' (by rw [h.1];exact h3)]
 have o1:(d'.extract a' a).toList=(d.extract a' a).toList:=by
  rw [extract_toList d' a' a (by rw [h.1];omega),extract_toList d a' a (by omega)]
  refine List.map_congr_left fun i hi=>h.2.1 i (.inl ?_)
  have:=List.mem_range'_1.1 hi
  omega
 have o2:(d'.extract b b').toList=(d.extract b b').toList:=by
  rw [extract_toList d' b b' (by rw [h.1];omega),extract_toList d b b' h3]
  refine List.map_congr_left fun i hi=>h.2.1 i (.inr ?_)
  have:=List.mem_range'_1.1 hi
  omega
 rw [o1,o2]
 exact List.Perm.append_left _ (List.Perm.append_right _ h.2.2)
section
variable {blk off cap:Nat}{d0:Array PartV}{w0:World}{lt:PartV→PartV→Bool}{cf:PartV→PartV→Int}{g:Nat}
def SymEnd (lt:PartV→PartV→Bool)(w0:World)(blk off a b:Nat)(d:Array PartV)(e:Ending)(w':World):Prop:=e=.returned (.tuple #[])∧∃ d',PermIn a b d d'∧SWK encV 5 w0 blk off d' w'∧SortedIn lt a b d'
def SymAt (lt:PartV→PartV→Bool)(g cap:Nat)(w0:World)(blk off:Nat)(d0:Array PartV)(n:Nat):Prop:=∀ (a m b:Nat)(d:Array PartV)(w:World),b-a≤n→d.size=d0.size→SWK encV 5 w0 blk off d w→a < m→m < b→b≤d.size→SortedIn lt a m d→SortedIn lt m b d→AheadOf PartV.tag a m b d →
 Calls Try.prog 54 #[.slice (some ⟨blk,off,none⟩) d.size cap,.int .i64 a,.int .i64 m,.int .i64 b,.func (.func g) #[] #[]] w (SymEnd lt w0 blk off a b d)
set_option maxHeartbeats 16000000 in
set_option maxRecDepth 100000 in
theorem sym_merge_step (R:RowK encV 5 w0 blk off d0)(eg:∀ args w,(callFunc g args).run Try.prog w=.ok (.enter g args) w)(hC:CmpLays Try.prog g #[] encV 5 cf blk off d0.size w0)(hS:SWO lt)(hc:∀ x y,PartV.tag y < PartV.tag x→decide (cf x y < 0)=lt x y)
  (hsz:d0.size < 4611686018427387904) (n:Nat) (ih:SymAt lt g cap w0 blk off d0 n):SymAt lt g cap w0 blk off d0 (n+1):=by
 intro a m b d w hn hs S ham hmb hb hL hR hT
 have mixed:Try.prog.follows Departure.mixedOrders=true:=by kernel_rfl
 have HS:Go.Aside (d.size=d0.size):=hs
 have S0:Go.Aside (SWK encV 5 w0 blk off d w):=S
 have HSZ:Go.Aside (d.size < 4611686018427387904):=by show _ < _;omega
 have HB:Go.Aside (a < m∧m < b∧b≤d.size∧b-a≤n+1):=⟨ham,hmb,hb,hn⟩
 have HL:Go.Aside (SortedIn lt a m d):=hL
 have HR:Go.Aside (SortedIn lt m b d):=hR
 have HT:Go.Aside (AheadOf PartV.tag a m b d):=hT
 have HC:Go.Aside (CmpLays Try.prog g #[] encV 5 cf blk off d0.size w0):=hC
 have HCF:Go.Aside (∀ x y,PartV.tag y < PartV.tag x→decide (cf x y < 0)=lt x y):=hc
 have IH:Go.Aside (SymAt lt g cap w0 blk off d0 n):=ih
 have HSO:Go.Aside (SWO lt):=hS
 clear hs S ham hmb hb hL hR hT hC hc ih hS hsz hn
 have ENT:Go.Aside True:=trivial
 by_cases h1:m-a=1
 ·have hB:=HB.out
  have hsz:=HSZ.out
  have hs:=HS.out
  obtain rfl:m=a+1:=by omega
  have rd:IntKind.i64.wrap (((a+1:Nat):Int)-(a:Int))=1:=by rw [IntKind.wrap_i64];omega
  have rd2:((a+1:Nat):Int)-(a:Int)=1:=by omega
  obtain ⟨m,hm⟩:∃ m,a+1=m:=⟨_,rfl⟩
  rw [hm] at HB HL HR HT rd rd2 hB h1 ⊢
  have HM:Go.Aside (a+1=m):=hm
  clear hm h1
  clear hB hsz hs
  go_enter Try.func54,Try.ntmps54
  go_wp2
  clear rd rd2
  go_loopg [10,11] (b-m) (fun kx s t wr=>∃ (i j:Nat),s=.int .i64 i∧t=.int .i64 j∧Go.Aside (m≤i∧i≤j∧j≤b∧j-i≤kx)∧Go.Aside (i=m∨lt d[i-1]! d[a]! = true)∧Go.Aside (j=b∨lt d[j]! d[a]! = false)∧Go.Aside (SWK encV 5 w0 blk off d wr))
  case atStart=>have hB:=HB.out;exact ⟨m,b,rfl,rfl,(show _∧_ from by omega),.inl rfl,.inl rfl,S0⟩
  case round =>
   clear S0
   obtain ⟨i,j,rfl,rfl,HI,G1,G2,S1⟩:=hrel
   have hI:=HI.out
   have hM:=HM.out
   have hB:=HB.out
   have hsz:=HSZ.out
   have hs:=HS.out
   by_cases hlt:i < j
   ·have hltz:(i:Int) < (j:Int):=by omega
    obtain ⟨K,hK⟩:∃ K,K=(i+j) / 2:=⟨_,rfl⟩
    have hk1:i≤K:=by omega
    have hk2:K < j:=by omega
    have q1:IntKind.i64.wrap ((i:Int)+(j:Int))=(i:Int)+(j:Int):=by rw [IntKind.wrap_i64];omega
    have q2:IntKind.u64.wrap ((i:Int)+(j:Int))=(i:Int)+(j:Int):=by rw [IntKind.wrap_u64];omega
    have q3:((i:Int)+(j:Int)) / 2=(K:Int):=by omega
    have rK:IntKind.i64.wrap (K:Int)=(K:Int):=by rw [IntKind.wrap_i64];omega
    have rK1:IntKind.i64.wrap ((K:Int)+1)=(K:Int)+1:=by rw [IntKind.wrap_i64];omega
    have bK:(K:Int) < (d.size:Int):=by omega
    have ba:(a:Int) < (d.size:Int):=by omega
    have pK:(0:Int)≤(K:Int):=by omega
    have hd:decide (cf d[K]! d[a]! < 0)=lt d[K]! d[a]! := HCF.out _ _ (HT.out a K (Nat.le_refl _) (by omega) (by omega) (by omega))
    have HKI:Go.Aside (i≤K∧K < j):=⟨hk1,hk2⟩
    clear hK
    cases hp:lt d[K]! d[a]! with
    | true =>
     have G3:Go.Aside (K+1=m∨lt d[K+1-1]! d[a]! = true):=.inr hp
     rw [hp] at hd
     clear hp
     obtain ⟨xI,hxI⟩:∃ x,d[K]! = x:=⟨_,rfl⟩
     obtain ⟨xJ,hxJ⟩:∃ x,d[a]! = x:=⟨_,rfl⟩
     have fI:∀ n os,At5 (grow (wr.drewN n) os) blk (off+K*5) xI:=fun n os=>hxI▸(SWK.five (S1.out.grown n os) R (by omega) (by omega)).1
     have fJ:∀ n os,At5 (grow (wr.drewN n) os) blk (off+a*5) xJ:=fun n os=>hxJ▸(SWK.five (S1.out.grown n os) R (by omega) (by omega)).1
     have fI0:=fun n os=>(fI n os).1
     have fI1:=fun n os=>(fI n os).2.1
     have fI2:=fun n os=>(fI n os).2.2.1
     have fI3:=fun n os=>(fI n os).2.2.2.1
     have fI4:=fun n os=>(fI n os).2.2.2.2
     have fJ0:=fun n os=>(fJ n os).1
     have fJ1:=fun n os=>(fJ n os).2.1
     have fJ2:=fun n os=>(fJ n os).2.2.1
     have fJ3:=fun n os=>(fJ n os).2.2.2.1
     have fJ4:=fun n os=>(fJ n os).2.2.2.2
     have hcg:∀ n os,Calls Try.prog g #[.agg #[.int .u8 xI.t.op,.int .i64 xI.t.col,.string xI.t.cell,.slice xI.A xI.n xI.p,.string xI.pr],.agg #[.int .u8 xJ.t.op,.int .i64 xJ.t.col,.string xJ.t.cell,.slice xJ.A xJ.n xJ.p,.string xJ.pr]] (grow (wr.drewN n) os) fun e w'=>e=.returned (.int .i64 (cf xI xJ))∧∃ q os',w'=grow ((grow (wr.drewN n) os).drewN q) os':=fun n os=>S1.out.cmp HC.out (by omega) xI xJ n os
     rw [hxI,hxJ] at hd
     have HX:Hid (d[K]! = xI∧d[a]! = xJ):=⟨hxI,hxJ⟩
     clear fI fJ hxI hxJ hs
     go_wp2_with fail
     go_quiet_grown (first|(go_at_fn g;refine Calls.grown_of (hcg _ _)))
     have S2:Go.Aside (SWK encV 5 w0 blk off d (grow (wr.drewN nq) osq)):=S1.out.grown nq osq
     clear fI0 fI1 fI2 fI3 fI4 fJ0 fJ1 fJ2 fJ3 fJ4 hcg S1
     generalize grow (wr.drewN nq) osq=w2 at S2 ⊢
     clear nq osq HX
     clear hI hM hk1 hk2 hlt hsz hB
     go_wp2
     go_roundg (j-(K+1))
     case measure=>have hI:=HI.out;have hK:=HKI.out;omega
     case rel=>have hI:=HI.out;have hK:=HKI.out;exact ⟨K+1,j,by go_num,rfl,(show _∧_ from by omega),G3,G2,S2⟩
    | false =>
     have G3:Go.Aside (K=b∨lt d[K]! d[a]! = false):=.inr hp
     rw [hp] at hd
     have hnl:¬cf d[K]! d[a]! < 0:=of_decide_eq_false hd
     clear hp
     obtain ⟨xI,hxI⟩:∃ x,d[K]! = x:=⟨_,rfl⟩
     obtain ⟨xJ,hxJ⟩:∃ x,d[a]! = x:=⟨_,rfl⟩
     have fI:∀ n os,At5 (grow (wr.drewN n) os) blk (off+K*5) xI:=fun n os=>hxI▸(SWK.five (S1.out.grown n os) R (by omega) (by omega)).1
     have fJ:∀ n os,At5 (grow (wr.drewN n) os) blk (off+a*5) xJ:=fun n os=>hxJ▸(SWK.five (S1.out.grown n os) R (by omega) (by omega)).1
     have fI0:=fun n os=>(fI n os).1
     have fI1:=fun n os=>(fI n os).2.1
     have fI2:=fun n os=>(fI n os).2.2.1
     have fI3:=fun n os=>(fI n os).2.2.2.1
     have fI4:=fun n os=>(fI n os).2.2.2.2
     have fJ0:=fun n os=>(fJ n os).1
     have fJ1:=fun n os=>(fJ n os).2.1
     have fJ2:=fun n os=>(fJ n os).2.2.1
     have fJ3:=fun n os=>(fJ n os).2.2.2.1
     have fJ4:=fun n os=>(fJ n os).2.2.2.2
     have hcg:∀ n os,Calls Try.prog g #[.agg #[.int .u8 xI.t.op,.int .i64 xI.t.col,.string xI.t.cell,.slice xI.A xI.n xI.p,.string xI.pr],.agg #[.int .u8 xJ.t.op,.int .i64 xJ.t.col,.string xJ.t.cell,.slice xJ.A xJ.n xJ.p,.string xJ.pr]] (grow (wr.drewN n) os) fun e w'=>e=.returned (.int .i64 (cf xI xJ))∧∃ q os',w'=grow ((grow (wr.drewN n) os).drewN q) os':=fun n os=>S1.out.cmp HC.out (by omega) xI xJ n os
     rw [hxI,hxJ] at hd hnl
     have HX:Hid (d[K]! = xI∧d[a]! = xJ):=⟨hxI,hxJ⟩
     clear fI fJ hxI hxJ hs
     go_wp2_with fail
     go_quiet_grown (first|(go_at_fn g;refine Calls.grown_of (hcg _ _)))
     have S2:Go.Aside (SWK encV 5 w0 blk off d (grow (wr.drewN nq) osq)):=S1.out.grown nq osq
     clear fI0 fI1 fI2 fI3 fI4 fJ0 fJ1 fJ2 fJ3 fJ4 hcg S1
     generalize grow (wr.drewN nq) osq=w2 at S2 ⊢
     clear nq osq HX
     clear hI hM hk1 hk2 hlt hsz hB
     go_wp2
     go_roundg (K-i)
     case measure=>have hI:=HI.out;have hK:=HKI.out;omega
     case rel=>have hI:=HI.out;have hK:=HKI.out;exact ⟨i,K,rfl,rfl,(show _∧_ from by omega),G1,G3,S2⟩
   ·obtain rfl:i=j:=by omega
    obtain ⟨i1,hi1⟩:∃ zz:Nat,(i:Int)-1=(zz:Int):=⟨i-1,by omega⟩
    have ei1:i1=i-1:=by omega
    have ri1:IntKind.i64.wrap (i1:Int)=(i1:Int):=by rw [IntKind.wrap_i64];omega
    have HI1:Go.Aside (i1=i-1∧a+1=m):=⟨ei1,hM⟩
    clear hI hM hlt ei1
    clear hB hsz hs
    go_wp2
    clear ri1
    go_loopg [13] (i1-a) (fun kx s wr=>∃ (k:Nat) (dk:Array PartV),s=.int .i64 k∧Go.Aside (a≤k∧k≤i1∧i1-k≤kx)∧Go.Aside (dk.size=d.size)∧Go.Aside (SWK encV 5 w0 blk off dk wr)∧Go.Aside (∀ x,dk[x]! = upF a k (fun x=>d[x]!) x)∧Go.Aside (PermIn a b d dk))
    case atStart=>have hI:=HI.out;have h1:=HI1.out;exact ⟨a,d,rfl,(show _∧_ from by omega),rfl,S1,fun x=>(upF_start a _ x).symm,permIn_refl _ _ _⟩
    case round =>
     clear S1
     obtain ⟨k,dk,rfl,HK,HDS,S1,F1,P1⟩:=hrel
     have hI:=HI.out
     have hI1:=HI1.out
     have hk:=HK.out
     have hds:=HDS.out
     have hB:=HB.out
     have hsz:=HSZ.out
     have hs:=HS.out
     have ri1:IntKind.i64.wrap ((i:Int)-1)=(i1:Int):=by rw [hi1,IntKind.wrap_i64];omega
     have ri2:IntKind.i64.wrap (i1:Int)=(i1:Int):=by rw [IntKind.wrap_i64];omega
     by_cases hlt2:k < i1
     ·have hltz:(k:Int) < (i1:Int):=by omega
      have ea:((k:Int)+1).toNat=k+1:=by omega
      have pa:(0:Int)≤(k:Int)+1:=by omega
      have ba:(k:Int) < (d.size:Int):=by omega
      have bb:(k:Int)+1 < (d.size:Int):=by omega
      have rk1:IntKind.i64.wrap ((k:Int)+1)=(k:Int)+1:=by rw [IntKind.wrap_i64];omega
      have P2:Go.Aside (PermIn a b d (swp dk k (k+1))):=permIn_trans _ _ _ _ _ P1.out (swp_permIn dk a b k (k+1) (by omega) (by omega) (by omega) (by omega) (by omega))
      have F2:Go.Aside (∀ x,(swp dk k (k+1))[x]! = upF a (k+1) (fun x=>d[x]!) x):=upF_step F1.out (by omega) (by omega)
      obtain ⟨xI,hxI⟩:∃ x,dk[k]! = x:=⟨_,rfl⟩
      obtain ⟨xJ,hxJ⟩:∃ x,dk[k+1]! = x:=⟨_,rfl⟩
      have S2:Go.Aside (SWK encV 5 w0 blk off (swp dk (k) (k+1)) ((wr.setCells blk (off+(k)*5) (encV dk[k+1]!)).setCells blk (off+(k+1)*5) (encV dk[k]!)).drew):=(S1.out.swap R.hk R.hblk (k) (k+1) (by omega) (by omega)).drew
      have fI:=SWK.five (i:=k) S1.out R (by omega) (by omega)
      have fJ:=SWK.five (i:=k+1) S1.out R (by omega) (by omega)
      rw [hxI] at fI
      rw [hxJ] at fJ
      rw [hxI,hxJ] at S2
      have hne:∀ u v,u < 5→v < 5→¬off+(k+1)*5+u=off+(k)*5+v:=fun u v _ _=>by omega
      obtain ⟨oI,hoI⟩:∃ o,off+(k)*5=o:=⟨_,rfl⟩
      obtain ⟨oJ,hoJ⟩:∃ o,off+(k+1)*5=o:=⟨_,rfl⟩
      rw [hoI] at fI
      rw [hoJ] at fJ
      rw [hoI,hoJ] at S2 hne
      simp only [encV,World.setCells] at S2
      have e0:∀ x,wr.drew.cell? x=wr.cell? x:=fun _=>rfl
      obtain ⟨⟨zi0,zi1,zi2,zi3,zi4⟩,⟨zk0,zk1,zk2,zk3,zk4⟩⟩:=fI
      obtain ⟨⟨zj0,zj1,zj2,zj3,zj4⟩,⟨zl0,zl1,zl2,zl3,zl4⟩⟩:=fJ
      have di0:=(e0 _).trans zi0
      have dj0:=(e0 _).trans zj0
      have di1:=(e0 _).trans zi1
      have dj1:=(e0 _).trans zj1
      have di2:=(e0 _).trans zi2
      have dj2:=(e0 _).trans zj2
      have di3:=(e0 _).trans zi3
      have dj3:=(e0 _).trans zj3
      have di4:=(e0 _).trans zi4
      have dj4:=(e0 _).trans zj4
      have n00:¬oJ=oI:=hne 0 0 (by decide) (by decide)
      have n01:¬oJ=oI+1:=hne 0 1 (by decide) (by decide)
      have n02:¬oJ=oI+2:=hne 0 2 (by decide) (by decide)
      have n03:¬oJ=oI+3:=hne 0 3 (by decide) (by decide)
      have n04:¬oJ=oI+4:=hne 0 4 (by decide) (by decide)
      have n10:¬oJ+1=oI:=hne 1 0 (by decide) (by decide)
      have n11:¬oJ+1=oI+1:=hne 1 1 (by decide) (by decide)
      have n12:¬oJ+1=oI+2:=hne 1 2 (by decide) (by decide)
      have n13:¬oJ+1=oI+3:=hne 1 3 (by decide) (by decide)
      have n14:¬oJ+1=oI+4:=hne 1 4 (by decide) (by decide)
      have n20:¬oJ+2=oI:=hne 2 0 (by decide) (by decide)
      have n21:¬oJ+2=oI+1:=hne 2 1 (by decide) (by decide)
      have n22:¬oJ+2=oI+2:=hne 2 2 (by decide) (by decide)
      have n23:¬oJ+2=oI+3:=hne 2 3 (by decide) (by decide)
      have n24:¬oJ+2=oI+4:=hne 2 4 (by decide) (by decide)
      have n30:¬oJ+3=oI:=hne 3 0 (by decide) (by decide)
      have n31:¬oJ+3=oI+1:=hne 3 1 (by decide) (by decide)
      have n32:¬oJ+3=oI+2:=hne 3 2 (by decide) (by decide)
      have n33:¬oJ+3=oI+3:=hne 3 3 (by decide) (by decide)
      have n34:¬oJ+3=oI+4:=hne 3 4 (by decide) (by decide)
      have n40:¬oJ+4=oI:=hne 4 0 (by decide) (by decide)
      have n41:¬oJ+4=oI+1:=hne 4 1 (by decide) (by decide)
      have n42:¬oJ+4=oI+2:=hne 4 2 (by decide) (by decide)
      have n43:¬oJ+4=oI+3:=hne 4 3 (by decide) (by decide)
      have n44:¬oJ+4=oI+4:=hne 4 4 (by decide) (by decide)
      clear S1 hne e0 hs hds hsz hB hI hI1 hk hlt2
      go_wp2_with fail
      go_big_region_o
      go_wp2
      go_roundg (i1-(k+1))
      case measure=>have hk:=HK.out;omega
      case rel=>have hk:=HK.out;exact ⟨k+1,swp dk k (k+1),by go_num,(show _∧_ from by omega),by rw [size_swp];exact HDS.out,S2,F2,P2⟩
     ·obtain rfl:k=i1:=by omega
      have HFIN:Hid (SortedIn lt a b dk):=merged_up HSO.out (i:=i) (hI1.2▸HR.out) (by rw [hI1.2];exact G1.out) G2.out (by omega) (by omega) (by rw [←hI1.1];exact F1.out)
      clear hI hI1 hk hds hsz hB hs
      go_wp2
      go_end0
      exact ⟨rfl,dk,P1.out,S1.out,HFIN.out⟩
 ·by_cases h2:b-m=1
  ·have hB:=HB.out
   have hsz:=HSZ.out
   have hs:=HS.out
   obtain rfl:b=m+1:=by omega
   have rc:IntKind.i64.wrap (((m+1:Nat):Int)-(m:Int))=1:=by rw [IntKind.wrap_i64];omega
   have rc2:((m+1:Nat):Int)-(m:Int)=1:=by omega
   obtain ⟨ma,hma⟩:∃ zz:Nat,(m:Int)-(a:Int)=(zz:Int):=⟨m-a,by omega⟩
   have rma:IntKind.i64.wrap (ma:Int)=(ma:Int):=by rw [IntKind.wrap_i64];omega
   have nma:¬(ma:Int)=1:=by omega
   have nmb:((ma:Int)==1)=false:=by simp;omega
   obtain ⟨b,hb2⟩:∃ b,m+1=b:=⟨_,rfl⟩
   rw [hb2] at HB HR HT rc rc2 hB h2 ⊢
   have HM:Go.Aside (m+1=b):=hb2
   clear hb2 h1 h2
   clear hB hsz hs
   go_enter Try.func54,Try.ntmps54
   go_wp2
   clear rc rc2 hma rma nma nmb
   go_loopg [14,15] (m-a) (fun kx s t wr=>∃ (i j:Nat),s=.int .i64 i∧t=.int .i64 j∧Go.Aside (a≤i∧i≤j∧j≤m∧j-i≤kx)∧Go.Aside (i=a∨lt d[m]! d[i-1]! = false)∧Go.Aside (j=m∨lt d[m]! d[j]! = true)∧Go.Aside (SWK encV 5 w0 blk off d wr))
   case atStart=>have hB:=HB.out;exact ⟨a,m,rfl,rfl,(show _∧_ from by omega),.inl rfl,.inl rfl,S0⟩
   case round =>
    clear S0
    obtain ⟨i,j,rfl,rfl,HI,G1,G2,S1⟩:=hrel
    have hI:=HI.out
    have hM:=HM.out
    have hB:=HB.out
    have hsz:=HSZ.out
    have hs:=HS.out
    by_cases hlt:i < j
    ·have hltz:(i:Int) < (j:Int):=by omega
     obtain ⟨K,hK⟩:∃ K,K=(i+j) / 2:=⟨_,rfl⟩
     have hk1:i≤K:=by omega
     have hk2:K < j:=by omega
     have q1:IntKind.i64.wrap ((i:Int)+(j:Int))=(i:Int)+(j:Int):=by rw [IntKind.wrap_i64];omega
     have q2:IntKind.u64.wrap ((i:Int)+(j:Int))=(i:Int)+(j:Int):=by rw [IntKind.wrap_u64];omega
     have q3:((i:Int)+(j:Int)) / 2=(K:Int):=by omega
     have rK:IntKind.i64.wrap (K:Int)=(K:Int):=by rw [IntKind.wrap_i64];omega
     have rK1:IntKind.i64.wrap ((K:Int)+1)=(K:Int)+1:=by rw [IntKind.wrap_i64];omega
     have bK:(K:Int) < (d.size:Int):=by omega
     have bm:(m:Int) < (d.size:Int):=by omega
     have pK:(0:Int)≤(K:Int):=by omega
     have hd:decide (cf d[m]! d[K]! < 0)=lt d[m]! d[K]! := HCF.out _ _ (HT.out K m (by omega) (by omega) (Nat.le_refl _) (by omega))
     have HKI:Go.Aside (i≤K∧K < j):=⟨hk1,hk2⟩
     clear hK
     cases hp:lt d[m]! d[K]! with
     | false =>
      have G3:Go.Aside (K+1=a∨lt d[m]! d[K+1-1]! = false):=.inr hp
      rw [hp] at hd
      have hnl:¬cf d[m]! d[K]! < 0:=of_decide_eq_false hd
      clear hp
      obtain ⟨xI,hxI⟩:∃ x,d[m]! = x:=⟨_,rfl⟩
      obtain ⟨xJ,hxJ⟩:∃ x,d[K]! = x:=⟨_,rfl⟩
      have fI:∀ n os,At5 (grow (wr.drewN n) os) blk (off+m*5) xI:=fun n os=>hxI▸(SWK.five (S1.out.grown n os) R (by omega) (by omega)).1
      have fJ:∀ n os,At5 (grow (wr.drewN n) os) blk (off+K*5) xJ:=fun n os=>hxJ▸(SWK.five (S1.out.grown n os) R (by omega) (by omega)).1
      have fI0:=fun n os=>(fI n os).1
      have fI1:=fun n os=>(fI n os).2.1
      have fI2:=fun n os=>(fI n os).2.2.1
      have fI3:=fun n os=>(fI n os).2.2.2.1
      have fI4:=fun n os=>(fI n os).2.2.2.2
      have fJ0:=fun n os=>(fJ n os).1
      have fJ1:=fun n os=>(fJ n os).2.1
      have fJ2:=fun n os=>(fJ n os).2.2.1
      have fJ3:=fun n os=>(fJ n os).2.2.2.1
      have fJ4:=fun n os=>(fJ n os).2.2.2.2
      have hcg:∀ n os,Calls Try.prog g #[.agg #[.int .u8 xI.t.op,.int .i64 xI.t.col,.string xI.t.cell,.slice xI.A xI.n xI.p,.string xI.pr],.agg #[.int .u8 xJ.t.op,.int .i64 xJ.t.col,.string xJ.t.cell,.slice xJ.A xJ.n xJ.p,.string xJ.pr]] (grow (wr.drewN n) os) fun e w'=>e=.returned (.int .i64 (cf xI xJ))∧∃ q os',w'=grow ((grow (wr.drewN n) os).drewN q) os':=fun n os=>S1.out.cmp HC.out (by omega) xI xJ n os
      rw [hxI,hxJ] at hd hnl
      have HX:Hid (d[m]! = xI∧d[K]! = xJ):=⟨hxI,hxJ⟩
      clear fI fJ hxI hxJ hs
      go_wp2_with fail
      go_quiet_grown (first|(go_at_fn g;refine Calls.grown_of (hcg _ _)))
      have S2:Go.Aside (SWK encV 5 w0 blk off d (grow (wr.drewN nq) osq)):=S1.out.grown nq osq
      clear fI0 fI1 fI2 fI3 fI4 fJ0 fJ1 fJ2 fJ3 fJ4 hcg S1
      generalize grow (wr.drewN nq) osq=w2 at S2 ⊢
      clear nq osq HX
      clear hI hM hk1 hk2 hlt hsz hB
      go_wp2
      go_roundg (j-(K+1))
      case measure=>have hI:=HI.out;have hK:=HKI.out;omega
      case rel=>have hI:=HI.out;have hK:=HKI.out;exact ⟨K+1,j,by go_num,rfl,(show _∧_ from by omega),G3,G2,S2⟩
     | true =>
      have G3:Go.Aside (K=m∨lt d[m]! d[K]! = true):=.inr hp
      rw [hp] at hd
      clear hp
      obtain ⟨xI,hxI⟩:∃ x,d[m]! = x:=⟨_,rfl⟩
      obtain ⟨xJ,hxJ⟩:∃ x,d[K]! = x:=⟨_,rfl⟩
      have fI:∀ n os,At5 (grow (wr.drewN n) os) blk (off+m*5) xI:=fun n os=>hxI▸(SWK.five (S1.out.grown n os) R (by omega) (by omega)).1
      have fJ:∀ n os,At5 (grow (wr.drewN n) os) blk (off+K*5) xJ:=fun n os=>hxJ▸(SWK.five (S1.out.grown n os) R (by omega) (by omega)).1
      have fI0:=fun n os=>(fI n os).1
      have fI1:=fun n os=>(fI n os).2.1
      have fI2:=fun n os=>(fI n os).2.2.1
      have fI3:=fun n os=>(fI n os).2.2.2.1
      have fI4:=fun n os=>(fI n os).2.2.2.2
      have fJ0:=fun n os=>(fJ n os).1
      have fJ1:=fun n os=>(fJ n os).2.1
      have fJ2:=fun n os=>(fJ n os).2.2.1
      have fJ3:=fun n os=>(fJ n os).2.2.2.1
      have fJ4:=fun n os=>(fJ n os).2.2.2.2
      have hcg:∀ n os,Calls Try.prog g #[.agg #[.int .u8 xI.t.op,.int .i64 xI.t.col,.string xI.t.cell,.slice xI.A xI.n xI.p,.string xI.pr],.agg #[.int .u8 xJ.t.op,.int .i64 xJ.t.col,.string xJ.t.cell,.slice xJ.A xJ.n xJ.p,.string xJ.pr]] (grow (wr.drewN n) os) fun e w'=>e=.returned (.int .i64 (cf xI xJ))∧∃ q os',w'=grow ((grow (wr.drewN n) os).drewN q) os':=fun n os=>S1.out.cmp HC.out (by omega) xI xJ n os
      rw [hxI,hxJ] at hd
      have HX:Hid (d[m]! = xI∧d[K]! = xJ):=⟨hxI,hxJ⟩
      clear fI fJ hxI hxJ hs
      go_wp2_with fail
      go_quiet_grown (first|(go_at_fn g;refine Calls.grown_of (hcg _ _)))
      have S2:Go.Aside (SWK encV 5 w0 blk off d (grow (wr.drewN nq) osq)):=S1.out.grown nq osq
      clear fI0 fI1 fI2 fI3 fI4 fJ0 fJ1 fJ2 fJ3 fJ4 hcg S1
      generalize grow (wr.drewN nq) osq=w2 at S2 ⊢
      clear nq osq HX
      clear hI hM hk1 hk2 hlt hsz hB
      go_wp2
      go_roundg (K-i)
      case measure=>have hI:=HI.out;have hK:=HKI.out;omega
      case rel=>have hI:=HI.out;have hK:=HKI.out;exact ⟨i,K,rfl,rfl,(show _∧_ from by omega),G1,G3,S2⟩
    ·obtain rfl:i=j:=by omega
     clear hI hM hlt
     clear hB hsz hs
     go_wp2
     go_loopg [17] (m-i) (fun kx s wr=>∃ (k:Nat) (dk:Array PartV),s=.int .i64 k∧Go.Aside (i≤k∧k≤m∧k-i≤kx)∧Go.Aside (dk.size=d.size)∧Go.Aside (SWK encV 5 w0 blk off dk wr)∧Go.Aside (∀ x,dk[x]! = dnF m k (fun x=>d[x]!) x)∧Go.Aside (PermIn a b d dk))
     case atStart=>have hI:=HI.out;exact ⟨m,d,rfl,(show _∧_ from by omega),rfl,S1,fun x=>(dnF_start m _ x).symm,permIn_refl _ _ _⟩
     case round =>
      clear S1
      obtain ⟨k,dk,rfl,HK,HDS,S1,F1,P1⟩:=hrel
      have hI:=HI.out
      have hk:=HK.out
      have hds:=HDS.out
      have hM:=HM.out
      have hB:=HB.out
      have hsz:=HSZ.out
      have hs:=HS.out
      by_cases hlt2:i < k
      ·obtain ⟨k1,hk1⟩:∃ k1,k=k1+1:=⟨k-1,by omega⟩
       subst hk1
       have hltz:(i:Int) < ((k1+1:Nat):Int):=by omega
       have ck:((k1+1:Nat):Int)=(k1:Int)+1:=by omega
       have hltz2:(i:Int) < (k1:Int)+1:=by omega
       have sk:(k1:Int)+1-1=(k1:Int):=by omega
       have ea:((k1:Int)+1).toNat=k1+1:=by omega
       have pa:(0:Int)≤(k1:Int)+1:=by omega
       have ba:(k1:Int) < (d.size:Int):=by omega
       have bb:(k1:Int)+1 < (d.size:Int):=by omega
       have rk1:IntKind.i64.wrap (k1:Int)=(k1:Int):=by rw [IntKind.wrap_i64];omega
       have P2:Go.Aside (PermIn a b d (swp dk (k1+1) k1)):=permIn_trans _ _ _ _ _ P1.out (swp_permIn dk a b (k1+1) k1 (by omega) (by omega) (by omega) (by omega) (by omega))
       have F2:Go.Aside (∀ x,(swp dk (k1+1) k1)[x]! = dnF m k1 (fun x=>d[x]!) x):=dnF_step F1.out (by omega) (by omega)
       obtain ⟨xI,hxI⟩:∃ x,dk[k1+1]! = x:=⟨_,rfl⟩
       obtain ⟨xJ,hxJ⟩:∃ x,dk[k1]! = x:=⟨_,rfl⟩
       have S2:Go.Aside (SWK encV 5 w0 blk off (swp dk (k1+1) (k1)) ((wr.setCells blk (off+(k1+1)*5) (encV dk[k1]!)).setCells blk (off+(k1)*5) (encV dk[k1+1]!)).drew):=(S1.out.swap R.hk R.hblk (k1+1) (k1) (by omega) (by omega)).drew
       have fI:=SWK.five (i:=k1+1) S1.out R (by omega) (by omega)
       have fJ:=SWK.five (i:=k1) S1.out R (by omega) (by omega)
       rw [hxI] at fI
       rw [hxJ] at fJ
       rw [hxI,hxJ] at S2
       have hne:∀ u v,u < 5→v < 5→¬off+(k1)*5+u=off+(k1+1)*5+v:=fun u v _ _=>by omega
       obtain ⟨oI,hoI⟩:∃ o,off+(k1+1)*5=o:=⟨_,rfl⟩
       obtain ⟨oJ,hoJ⟩:∃ o,off+(k1)*5=o:=⟨_,rfl⟩
       rw [hoI] at fI
       rw [hoJ] at fJ
       rw [hoI,hoJ] at S2 hne
       simp only [encV,World.setCells] at S2
       have e0:∀ x,wr.drew.cell? x=wr.cell? x:=fun _=>rfl
       obtain ⟨⟨zi0,zi1,zi2,zi3,zi4⟩,⟨zk0,zk1,zk2,zk3,zk4⟩⟩:=fI
       obtain ⟨⟨zj0,zj1,zj2,zj3,zj4⟩,⟨zl0,zl1,zl2,zl3,zl4⟩⟩:=fJ
       have di0:=(e0 _).trans zi0
       have dj0:=(e0 _).trans zj0
       have di1:=(e0 _).trans zi1
       have dj1:=(e0 _).trans zj1
       have di2:=(e0 _).trans zi2
       have dj2:=(e0 _).trans zj2
       have di3:=(e0 _).trans zi3
       have dj3:=(e0 _).trans zj3
       have di4:=(e0 _).trans zi4
       have dj4:=(e0 _).trans zj4
       have n00:¬oJ=oI:=hne 0 0 (by decide) (by decide)
       have n01:¬oJ=oI+1:=hne 0 1 (by decide) (by decide)
       have n02:¬oJ=oI+2:=hne 0 2 (by decide) (by decide)
       have n03:¬oJ=oI+3:=hne 0 3 (by decide) (by decide)
       have n04:¬oJ=oI+4:=hne 0 4 (by decide) (by decide)
       have n10:¬oJ+1=oI:=hne 1 0 (by decide) (by decide)
       have n11:¬oJ+1=oI+1:=hne 1 1 (by decide) (by decide)
       have n12:¬oJ+1=oI+2:=hne 1 2 (by decide) (by decide)
       have n13:¬oJ+1=oI+3:=hne 1 3 (by decide) (by decide)
       have n14:¬oJ+1=oI+4:=hne 1 4 (by decide) (by decide)
       have n20:¬oJ+2=oI:=hne 2 0 (by decide) (by decide)
       have n21:¬oJ+2=oI+1:=hne 2 1 (by decide) (by decide)
       have n22:¬oJ+2=oI+2:=hne 2 2 (by decide) (by decide)
       have n23:¬oJ+2=oI+3:=hne 2 3 (by decide) (by decide)
       have n24:¬oJ+2=oI+4:=hne 2 4 (by decide) (by decide)
       have n30:¬oJ+3=oI:=hne 3 0 (by decide) (by decide)
       have n31:¬oJ+3=oI+1:=hne 3 1 (by decide) (by decide)
       have n32:¬oJ+3=oI+2:=hne 3 2 (by decide) (by decide)
       have n33:¬oJ+3=oI+3:=hne 3 3 (by decide) (by decide)
       have n34:¬oJ+3=oI+4:=hne 3 4 (by decide) (by decide)
       have n40:¬oJ+4=oI:=hne 4 0 (by decide) (by decide)
       have n41:¬oJ+4=oI+1:=hne 4 1 (by decide) (by decide)
       have n42:¬oJ+4=oI+2:=hne 4 2 (by decide) (by decide)
       have n43:¬oJ+4=oI+3:=hne 4 3 (by decide) (by decide)
       have n44:¬oJ+4=oI+4:=hne 4 4 (by decide) (by decide)
       clear S1 hne e0 hs hds hsz hB hI hM hk hlt2
       go_wp2_with fail
       go_big_region_o
       go_wp2
       go_roundg (k1-i)
       case measure=>have hk:=HK.out;omega
       case rel=>have hk:=HK.out;exact ⟨k1,swp dk (k1+1) k1,by go_num,(show _∧_ from by omega),by rw [size_swp];exact HDS.out,S2,F2,P2⟩
      ·obtain rfl:k=i:=by omega
       have HFIN:Hid (SortedIn lt a b dk):=hM▸merged_dn HSO.out HL.out G1.out G2.out (by omega) (by omega) F1.out
       clear hI hM hk hds hsz hB hs
       go_wp2
       go_end0
       exact ⟨rfl,dk,P1.out,S1.out,HFIN.out⟩
  ·by_cases h3:m≤(a+b) / 2
   ·have hB:=HB.out
    have hsz:=HSZ.out
    have hs:=HS.out
    obtain ⟨ma,hma⟩:∃ zz:Nat,(m:Int)-(a:Int)=(zz:Int):=⟨m-a,by omega⟩
    have ema:ma=m-a:=by omega
    have rma:IntKind.i64.wrap (ma:Int)=(ma:Int):=by rw [IntKind.wrap_i64];omega
    obtain ⟨bm,hbm⟩:∃ zz:Nat,(b:Int)-(m:Int)=(zz:Int):=⟨b-m,by omega⟩
    have ebm:bm=b-m:=by omega
    have rbm:IntKind.i64.wrap (bm:Int)=(bm:Int):=by rw [IntKind.wrap_i64];omega
    have nma:¬(ma:Int)=1:=by omega
    have nmb:((ma:Int)==1)=false:=by simp;omega
    have nba:¬(bm:Int)=1:=by omega
    have nbb:((bm:Int)==1)=false:=by simp;omega
    obtain ⟨M,hM⟩:∃ M,M=(a+b) / 2:=⟨_,rfl⟩
    have q1:IntKind.i64.wrap ((a:Int)+(b:Int))=(a:Int)+(b:Int):=by rw [IntKind.wrap_i64];omega
    have q2:IntKind.u64.wrap ((a:Int)+(b:Int))=(a:Int)+(b:Int):=by rw [IntKind.wrap_u64];omega
    have q3:((a:Int)+(b:Int)) / 2=(M:Int):=by omega
    have rM:IntKind.i64.wrap (M:Int)=(M:Int):=by rw [IntKind.wrap_i64];omega
    obtain ⟨N,hN⟩:∃ zz:Nat,(M:Int)+(m:Int)=(zz:Int):=⟨M+m,by omega⟩
    have eN:N=M+m:=by omega
    have rN:IntKind.i64.wrap (N:Int)=(N:Int):=by rw [IntKind.wrap_i64];omega
    obtain ⟨p,hp⟩:∃ zz:Nat,(N:Int)-1=(zz:Int):=⟨N-1,by omega⟩
    have ep:p=N-1:=by omega
    have rp:IntKind.i64.wrap (p:Int)=(p:Int):=by rw [IntKind.wrap_i64];omega
    have HME:Go.Aside (M=(a+b) / 2):=hM
    have HMA:Go.Aside (a+1 < m∧m+1 < b∧N=M+m∧p=N-1∧a < M∧M < b):=by show _∧_;omega
    have hcase:¬(M:Int) < (m:Int):=by omega
    have HCS:Go.Aside (m≤M):=by show _≤_;omega
    clear ema ebm hM eN ep h1 h2
    clear hB hsz hs
    go_enter Try.func54,Try.ntmps54
    go_wp2
    clear hma rma hbm rbm nma nmb nba nbb q1 q2 q3 rM hN rN hp rp hcase
    go_loopg [20,21] (m-a) (fun kx u v wr=>∃ (s r:Nat),u=.int .i64 s∧v=.int .i64 r∧Go.Aside (a≤s∧s≤r∧r≤m∧r-s≤kx)∧Go.Aside (s=a∨lt d[p+1-s]! d[s-1]! = false)∧Go.Aside (r=m∨lt d[p-r]! d[r]! = true)∧Go.Aside (SWK encV 5 w0 blk off d wr))
    case atStart=>have hB:=HB.out;have hA:=HMA.out;have hC:=HCS.out;  exact ⟨a,m,rfl,rfl,(show _∧_ from by omega),.inl rfl,.inl rfl,S0⟩
    case round =>
     clear S0
     obtain ⟨s,r,rfl,rfl,HI,G1,G2,S1⟩:=hrel
     have hI:=HI.out
     have hA:=HMA.out
     have hC:=HCS.out
     have hME:=HME.out
     have hB:=HB.out
     have hsz:=HSZ.out
     have hs:=HS.out
     by_cases hlt:s < r
     ·have hltz:(s:Int) < (r:Int):=by omega
      obtain ⟨K,hK⟩:∃ K,K=(s+r) / 2:=⟨_,rfl⟩
      have hk1:s≤K:=by omega
      have hk2:K < r:=by omega
      have q1:IntKind.i64.wrap ((s:Int)+(r:Int))=(s:Int)+(r:Int):=by rw [IntKind.wrap_i64];omega
      have q2:IntKind.u64.wrap ((s:Int)+(r:Int))=(s:Int)+(r:Int):=by rw [IntKind.wrap_u64];omega
      have q3:((s:Int)+(r:Int)) / 2=(K:Int):=by omega
      have rK:IntKind.i64.wrap (K:Int)=(K:Int):=by rw [IntKind.wrap_i64];omega
      have rK1:IntKind.i64.wrap ((K:Int)+1)=(K:Int)+1:=by rw [IntKind.wrap_i64];omega
      have bK:(K:Int) < (d.size:Int):=by omega
      have pK:(0:Int)≤(K:Int):=by omega
      obtain ⟨L,hL⟩:∃ zz:Nat,(p:Int)-(K:Int)=(zz:Int):=⟨p-K,by omega⟩
      have eL:L=p-K:=by omega
      have rL:IntKind.i64.wrap (L:Int)=(L:Int):=by rw [IntKind.wrap_i64];omega
      have bL:(L:Int) < (d.size:Int):=by omega
      have hd:decide (cf d[L]! d[K]! < 0)=lt d[L]! d[K]! := HCF.out _ _ (HT.out K L (by omega) (by omega) (by omega) (by omega))
      have HKI:Go.Aside (s≤K∧K < r):=⟨hk1,hk2⟩
      have HEL:Go.Aside (L=p-K):=eL
      have hl8:L < d.size:=by omega
      clear eL hME hA 
      clear hK
      cases hp2:lt d[L]! d[K]! with
      | false =>
       have G3:Go.Aside (K+1=a∨lt d[p+1-(K+1)]! d[K+1-1]! = false):=.inr (by rw [Nat.add_sub_add_right,←HEL.out];exact hp2)
       rw [hp2] at hd
       have hnl:¬cf d[L]! d[K]! < 0:=of_decide_eq_false hd
       clear hp2
       obtain ⟨xI,hxI⟩:∃ x,d[L]! = x:=⟨_,rfl⟩
       obtain ⟨xJ,hxJ⟩:∃ x,d[K]! = x:=⟨_,rfl⟩
       have fI:∀ n os,At5 (grow (wr.drewN n) os) blk (off+L*5) xI:=fun n os=>hxI▸(SWK.five (S1.out.grown n os) R (by omega) (by omega)).1
       have fJ:∀ n os,At5 (grow (wr.drewN n) os) blk (off+K*5) xJ:=fun n os=>hxJ▸(SWK.five (S1.out.grown n os) R (by omega) (by omega)).1
       have fI0:=fun n os=>(fI n os).1
       have fI1:=fun n os=>(fI n os).2.1
       have fI2:=fun n os=>(fI n os).2.2.1
       have fI3:=fun n os=>(fI n os).2.2.2.1
       have fI4:=fun n os=>(fI n os).2.2.2.2
       have fJ0:=fun n os=>(fJ n os).1
       have fJ1:=fun n os=>(fJ n os).2.1
       have fJ2:=fun n os=>(fJ n os).2.2.1
       have fJ3:=fun n os=>(fJ n os).2.2.2.1
       have fJ4:=fun n os=>(fJ n os).2.2.2.2
       have hcg:∀ n os,Calls Try.prog g #[.agg #[.int .u8 xI.t.op,.int .i64 xI.t.col,.string xI.t.cell,.slice xI.A xI.n xI.p,.string xI.pr],.agg #[.int .u8 xJ.t.op,.int .i64 xJ.t.col,.string xJ.t.cell,.slice xJ.A xJ.n xJ.p,.string xJ.pr]] (grow (wr.drewN n) os) fun e w'=>e=.returned (.int .i64 (cf xI xJ))∧∃ q os',w'=grow ((grow (wr.drewN n) os).drewN q) os':=fun n os=>S1.out.cmp HC.out (by omega) xI xJ n os
       rw [hxI,hxJ] at hd hnl
       have HX:Hid (d[L]! = xI∧d[K]! = xJ):=⟨hxI,hxJ⟩
       clear fI fJ hxI hxJ hs
       go_wp2_with fail
       go_quiet_grown (first|(go_at_fn g;refine Calls.grown_of (hcg _ _)))
       have S2:Go.Aside (SWK encV 5 w0 blk off d (grow (wr.drewN nq) osq)):=S1.out.grown nq osq
       clear fI0 fI1 fI2 fI3 fI4 fJ0 fJ1 fJ2 fJ3 fJ4 hcg S1
       generalize grow (wr.drewN nq) osq=w2 at S2 ⊢
       clear nq osq HX
       clear hI hC hk1 hk2 hlt hsz hB
       go_wp2
       go_roundg (r-(K+1))
       case measure=>have hI:=HI.out;have hK:=HKI.out;omega
       case rel=>have hI:=HI.out;have hK:=HKI.out;exact ⟨K+1,r,by go_num,rfl,(show _∧_ from by omega),G3,G2,S2⟩
      | true =>
       have G3:Go.Aside (K=m∨lt d[p-K]! d[K]! = true):=.inr (by rw [←HEL.out];exact hp2)
       rw [hp2] at hd
       clear hp2
       obtain ⟨xI,hxI⟩:∃ x,d[L]! = x:=⟨_,rfl⟩
       obtain ⟨xJ,hxJ⟩:∃ x,d[K]! = x:=⟨_,rfl⟩
       have fI:∀ n os,At5 (grow (wr.drewN n) os) blk (off+L*5) xI:=fun n os=>hxI▸(SWK.five (S1.out.grown n os) R (by omega) (by omega)).1
       have fJ:∀ n os,At5 (grow (wr.drewN n) os) blk (off+K*5) xJ:=fun n os=>hxJ▸(SWK.five (S1.out.grown n os) R (by omega) (by omega)).1
       have fI0:=fun n os=>(fI n os).1
       have fI1:=fun n os=>(fI n os).2.1
       have fI2:=fun n os=>(fI n os).2.2.1
       have fI3:=fun n os=>(fI n os).2.2.2.1
       have fI4:=fun n os=>(fI n os).2.2.2.2
       have fJ0:=fun n os=>(fJ n os).1
       have fJ1:=fun n os=>(fJ n os).2.1
       have fJ2:=fun n os=>(fJ n os).2.2.1
       have fJ3:=fun n os=>(fJ n os).2.2.2.1
       have fJ4:=fun n os=>(fJ n os).2.2.2.2
       have hcg:∀ n os,Calls Try.prog g #[.agg #[.int .u8 xI.t.op,.int .i64 xI.t.col,.string xI.t.cell,.slice xI.A xI.n xI.p,.string xI.pr],.agg #[.int .u8 xJ.t.op,.int .i64 xJ.t.col,.string xJ.t.cell,.slice xJ.A xJ.n xJ.p,.string xJ.pr]] (grow (wr.drewN n) os) fun e w'=>e=.returned (.int .i64 (cf xI xJ))∧∃ q os',w'=grow ((grow (wr.drewN n) os).drewN q) os':=fun n os=>S1.out.cmp HC.out (by omega) xI xJ n os
       rw [hxI,hxJ] at hd
       have HX:Hid (d[L]! = xI∧d[K]! = xJ):=⟨hxI,hxJ⟩
       clear fI fJ hxI hxJ hs
       go_wp2_with fail
       go_quiet_grown (first|(go_at_fn g;refine Calls.grown_of (hcg _ _)))
       have S2:Go.Aside (SWK encV 5 w0 blk off d (grow (wr.drewN nq) osq)):=S1.out.grown nq osq
       clear fI0 fI1 fI2 fI3 fI4 fJ0 fJ1 fJ2 fJ3 fJ4 hcg S1
       generalize grow (wr.drewN nq) osq=w2 at S2 ⊢
       clear nq osq HX
       clear hI hC hk1 hk2 hlt hsz hB
       go_wp2
       go_roundg (K-s)
       case measure=>have hI:=HI.out;have hK:=HKI.out;omega
       case rel=>have hI:=HI.out;have hK:=HKI.out;exact ⟨s,K,rfl,rfl,(show _∧_ from by omega),G1,G3,S2⟩
     ·have hM2:=HME.out
      obtain rfl:s=r:=by omega
      clear hlt
      obtain ⟨e,he⟩:∃ zz:Nat,(N:Int)-(s:Int)=(zz:Int):=⟨N-s,by omega⟩
      have ee:e=N-s:=by omega
      have re:IntKind.i64.wrap (e:Int)=(e:Int):=by rw [IntKind.wrap_i64];omega
      have HCO:Go.Aside (a≤s∧s≤m∧m≤e∧e≤b∧s≤M∧a < M∧M < b∧e=M+m-s):=by show _∧_;omega
      have FO:Go.Aside (Found lt d a m b s):=by
       have g1:=G1.out
       have g2:=G2.out
       refine ⟨by omega,by omega,by rw [←hM2];omega,by rw [←hM2];omega,by rw [←hM2];omega,?_,?_⟩
       ·rw [←hM2]
        rcases g1 with g1|g1
        ·exact .inl g1
        ·exact .inr (.inr (by rw [show M+m-s=p+1-s by omega];exact g1))
       ·rw [←hM2]
        rcases g2 with g2|g2
        ·exact .inl g2
        ·exact .inr (.inr (by rw [show M+m-s-1=p-s by omega];exact g2))
      clear G1 G2 hI hA hM2 hME hC 
      have HRE:Go.Aside (IntKind.i64.wrap (e:Int)=(e:Int)):=re
      obtain ⟨hc1,hc2,hc3,hc4,hc5,hc6⟩:=HCO.out
      by_cases hro:s < m∧m < e
      ·have HCC:=Lib.hid (rotate_calls (cap:=cap) R g #[] (a:=s) (m:=m) (b:=e) (d:=d) (w:=wr) (by omega) S1.out hro.1 hro.2 (by omega) (by omega))
       have hr1:(s:Int) < (m:Int):=by omega
       have hr2:(m:Int) < (e:Int):=by omega
       clear hB hsz hs hc1 hc2 hc3 hc4 hc5 hc6 ee S1
       go_wp2_with fail
       refine HCC.out.mono ?_
       rintro e7 w7 ⟨rfl,d1,z1,s1,f1⟩
       have S1:Go.Aside (SWK encV 5 w0 blk off d1 w7):=s1
       have P01:Go.Aside (PermIn a b d d1):=by
        have hc:=HCO.out
        have hB:=HB.out
        exact perm_wide (by omega) (by omega) (by omega) (by omega) (rot_perm z1 (by omega) (by omega) (by omega) f1)
       have TU:=Lib.hid (Found.turned (tag:=PartV.tag) HSO.out FO.out HL.out HR.out HT.out (d1:=d1) (by rw [←HME.out,←HCO.out.2.2.2.2.2.2.2];exact f1))
       rw [←HME.out,←HCO.out.2.2.2.2.2.2.2] at TU
       clear z1 s1 f1 HCC hr1 hr2 hro
       have hB:=HB.out
       have hsz:=HSZ.out
       have hs:=HS.out
       have hco:=HCO.out
       obtain ⟨hc1,hc2,hc3,hc4,hc5,hc6⟩:=hco
       by_cases hr0:a < s∧s < M
       ·have Hd1:Go.Aside (d1.size=d.size):=P01.out.1
        have h2:=Hd1.out
        have HCC:=Lib.hid (IH.out a s M d1 w7 (by omega) (by omega) S1.out hr0.1 hr0.2 (by omega) TU.out.1 TU.out.2.1 TU.out.2.2.1)
        rw [h2] at HCC
        have hs1:(a:Int) < (s:Int):=by omega
        have hs2:(s:Int) < (M:Int):=by omega
        have HDX:Go.Aside (d1.size=d.size):=h2
        clear h2
        clear hB hsz hs hc1 hc2 hc3 hc4 hc5 hc6 hr0
        go_wp2_with fail
        refine HCC.out.mono ?_
        rintro e8 w8 ⟨rfl,d2,p2,s2,o2⟩
        have P12:Go.Aside (PermIn a M d1 d2):=p2
        have O12:Go.Aside (SortedIn lt a M d2):=o2
        have S2:Go.Aside (SWK encV 5 w0 blk off d2 w8):=s2
        clear p2 s2 o2 HCC hs1 hs2
        have hB:=HB.out
        have hsz:=HSZ.out
        have hs:=HS.out
        have hco:=HCO.out
        obtain ⟨hc1,hc2,hc3,hc4,hc5,hc6⟩:=hco
        by_cases hr:M < e∧e < b
        ·have T2:Hid (SortedIn lt M e d2∧SortedIn lt e b d2∧AheadOf PartV.tag M e b d2):=by
          have t:=TU.out
          exact ⟨SortedIn.perm_out t.2.2.2.1 P12.out (.inl (Nat.le_refl _)),SortedIn.perm_out t.2.2.2.2.1 P12.out (.inl (by omega)),AheadOf.perm t.2.2.2.2.2.1 P12.out (Nat.le_refl _)⟩
         have Hd2:Go.Aside (d2.size=d.size):=by have:=P12.out.1;have:=P01.out.1;show _=_;omega
         have h2:=Hd2.out
         have HCC:=Lib.hid (IH.out M e b d2 w8 (by omega) (by omega) S2.out hr.1 hr.2 (by omega) T2.out.1 T2.out.2.1 T2.out.2.2)
         rw [h2] at HCC
         have hr1:(M:Int) < (e:Int):=by omega
         have hr2:(e:Int) < (b:Int):=by omega
         clear h2 hr hB hsz hs hc1 hc2 hc3 hc4 hc5 hc6
         go_wp2_with fail
         refine HCC.out.mono ?_
         rintro e9 w9 ⟨rfl,d3,p3,s3,o3⟩
         have HFIN:Hid (∃ d',PermIn a b d d'∧SWK encV 5 w0 blk off d' w9∧SortedIn lt a b d'):=by
          have hc:=HCO.out
          have hB:=HB.out
          have z1:=P01.out.1
          have z2:=P12.out.1
          refine ⟨d3,permIn_trans _ _ _ _ _ (permIn_trans _ _ _ _ _ P01.out (perm_wide (Nat.le_refl _) (by omega) (by omega) (by omega) P12.out)) (perm_wide (by omega) (Nat.le_refl _) (by omega) (by omega) p3),s3,?_⟩
          exact halves (by omega) TU.out.2.2.2.2.2.2 P12.out O12.out p3 o3
         clear p3 s3 o3 HCC
         go_wp2
         go_end0
         exact ⟨rfl,HFIN.out⟩
        ·have hrz:¬((M:Int) < (e:Int)∧(e:Int) < (b:Int)):=by omega
         have HFIN:Hid (∃ d',PermIn a b d d'∧SWK encV 5 w0 blk off d' w8∧SortedIn lt a b d'):=by
          have z1:=P01.out.1
          have z2:=P12.out.1
          have t:=TU.out
          refine ⟨d2,permIn_trans _ _ _ _ _ P01.out (perm_wide (Nat.le_refl _) (by omega) (by omega) (by omega) P12.out),S2.out,?_⟩
          refine halves (by omega) t.2.2.2.2.2.2 P12.out O12.out (permIn_refl _ _ _) ?_
          by_cases hq:M < e
          ·obtain rfl:e=b:=by omega
           exact SortedIn.perm_out t.2.2.2.1 P12.out (.inl (Nat.le_refl _))
          ·obtain rfl:e=M:=by omega
           exact SortedIn.perm_out t.2.2.2.2.1 P12.out (.inl (Nat.le_refl _))
         by_cases hq:M < e
         ·have hq1:(M:Int) < (e:Int):=by omega
          have hq2:¬(e:Int) < (b:Int):=by omega
          clear hr hq hrz hB hsz hs hc1 hc2 hc3 hc4 hc5 hc6
          go_wp2
          go_end0
          exact ⟨rfl,HFIN.out⟩
         ·have hq1:¬(M:Int) < (e:Int):=by omega
          clear hr hq hrz hB hsz hs hc1 hc2 hc3 hc4 hc5 hc6
          go_wp2
          go_end0
          exact ⟨rfl,HFIN.out⟩
       ·have HDX:Go.Aside (d1.size=d.size):=P01.out.1
        have P12:Go.Aside (PermIn a M d1 d1):=permIn_refl _ _ _
        have O12:Go.Aside (SortedIn lt a M d1):=by
         have t:=TU.out
         have hc:=HCO.out
         by_cases hq:a < s
         ·obtain rfl:s=M:=by omega
          exact t.1
         ·obtain rfl:s=a:=by omega
          exact t.2.1
        have S2:Go.Aside (SWK encV 5 w0 blk off d1 w7):=S1.out
        by_cases hq:a < s
        ·have hs1:(a:Int) < (s:Int):=by omega
         have hs2:¬(s:Int) < (M:Int):=by omega
         clear hB hsz hs hc1 hc2 hc3 hc4 hc5 hc6 hr0 hq
         have hB:=HB.out
         have hsz:=HSZ.out
         have hs:=HS.out
         have hco:=HCO.out
         obtain ⟨hc1,hc2,hc3,hc4,hc5,hc6⟩:=hco
         by_cases hr:M < e∧e < b
         ·have T2:Hid (SortedIn lt M e d1∧SortedIn lt e b d1∧AheadOf PartV.tag M e b d1):=by
           have t:=TU.out
           exact ⟨SortedIn.perm_out t.2.2.2.1 P12.out (.inl (Nat.le_refl _)),SortedIn.perm_out t.2.2.2.2.1 P12.out (.inl (by omega)),AheadOf.perm t.2.2.2.2.2.1 P12.out (Nat.le_refl _)⟩
          have Hd1:Go.Aside (d1.size=d.size):=by have:=P12.out.1;have:=P01.out.1;show _=_;omega
          have h2:=Hd1.out
          have HCC:=Lib.hid (IH.out M e b d1 w7 (by omega) (by omega) S2.out hr.1 hr.2 (by omega) T2.out.1 T2.out.2.1 T2.out.2.2)
          rw [h2] at HCC
          have hr1:(M:Int) < (e:Int):=by omega
          have hr2:(e:Int) < (b:Int):=by omega
          clear h2 hr hB hsz hs hc1 hc2 hc3 hc4 hc5 hc6
          go_wp2_with fail
          refine HCC.out.mono ?_
          rintro e9 w9 ⟨rfl,d3,p3,s3,o3⟩
          have HFIN:Hid (∃ d',PermIn a b d d'∧SWK encV 5 w0 blk off d' w9∧SortedIn lt a b d'):=by
           have hc:=HCO.out
           have hB:=HB.out
           have z1:=P01.out.1
           have z2:=P12.out.1
           refine ⟨d3,permIn_trans _ _ _ _ _ (permIn_trans _ _ _ _ _ P01.out (perm_wide (Nat.le_refl _) (by omega) (by omega) (by omega) P12.out)) (perm_wide (by omega) (Nat.le_refl _) (by omega) (by omega) p3),s3,?_⟩
           exact halves (by omega) TU.out.2.2.2.2.2.2 P12.out O12.out p3 o3
          clear p3 s3 o3 HCC
          go_wp2
          go_end0
          exact ⟨rfl,HFIN.out⟩
         ·have hrz:¬((M:Int) < (e:Int)∧(e:Int) < (b:Int)):=by omega
          have HFIN:Hid (∃ d',PermIn a b d d'∧SWK encV 5 w0 blk off d' w7∧SortedIn lt a b d'):=by
           have z1:=P01.out.1
           have z2:=P12.out.1
           have t:=TU.out
           refine ⟨d1,permIn_trans _ _ _ _ _ P01.out (perm_wide (Nat.le_refl _) (by omega) (by omega) (by omega) P12.out),S2.out,?_⟩
           refine halves (by omega) t.2.2.2.2.2.2 P12.out O12.out (permIn_refl _ _ _) ?_
           by_cases hq:M < e
           ·obtain rfl:e=b:=by omega
            exact SortedIn.perm_out t.2.2.2.1 P12.out (.inl (Nat.le_refl _))
           ·obtain rfl:e=M:=by omega
            exact SortedIn.perm_out t.2.2.2.2.1 P12.out (.inl (Nat.le_refl _))
          by_cases hq:M < e
          ·have hq1:(M:Int) < (e:Int):=by omega
           have hq2:¬(e:Int) < (b:Int):=by omega
           clear hr hq hrz hB hsz hs hc1 hc2 hc3 hc4 hc5 hc6
           go_wp2
           go_end0
           exact ⟨rfl,HFIN.out⟩
          ·have hq1:¬(M:Int) < (e:Int):=by omega
           clear hr hq hrz hB hsz hs hc1 hc2 hc3 hc4 hc5 hc6
           go_wp2
           go_end0
           exact ⟨rfl,HFIN.out⟩
        ·have hs1:¬(a:Int) < (s:Int):=by omega
         clear hB hsz hs hc1 hc2 hc3 hc4 hc5 hc6 hr0 hq
         have hB:=HB.out
         have hsz:=HSZ.out
         have hs:=HS.out
         have hco:=HCO.out
         obtain ⟨hc1,hc2,hc3,hc4,hc5,hc6⟩:=hco
         by_cases hr:M < e∧e < b
         ·have T2:Hid (SortedIn lt M e d1∧SortedIn lt e b d1∧AheadOf PartV.tag M e b d1):=by
           have t:=TU.out
           exact ⟨SortedIn.perm_out t.2.2.2.1 P12.out (.inl (Nat.le_refl _)),SortedIn.perm_out t.2.2.2.2.1 P12.out (.inl (by omega)),AheadOf.perm t.2.2.2.2.2.1 P12.out (Nat.le_refl _)⟩
          have Hd1:Go.Aside (d1.size=d.size):=by have:=P12.out.1;have:=P01.out.1;show _=_;omega
          have h2:=Hd1.out
          have HCC:=Lib.hid (IH.out M e b d1 w7 (by omega) (by omega) S2.out hr.1 hr.2 (by omega) T2.out.1 T2.out.2.1 T2.out.2.2)
          rw [h2] at HCC
          have hr1:(M:Int) < (e:Int):=by omega
          have hr2:(e:Int) < (b:Int):=by omega
          clear h2 hr hB hsz hs hc1 hc2 hc3 hc4 hc5 hc6
          go_wp2_with fail
          refine HCC.out.mono ?_
          rintro e9 w9 ⟨rfl,d3,p3,s3,o3⟩
          have HFIN:Hid (∃ d',PermIn a b d d'∧SWK encV 5 w0 blk off d' w9∧SortedIn lt a b d'):=by
           have hc:=HCO.out
           have hB:=HB.out
           have z1:=P01.out.1
           have z2:=P12.out.1
           refine ⟨d3,permIn_trans _ _ _ _ _ (permIn_trans _ _ _ _ _ P01.out (perm_wide (Nat.le_refl _) (by omega) (by omega) (by omega) P12.out)) (perm_wide (by omega) (Nat.le_refl _) (by omega) (by omega) p3),s3,?_⟩
           exact halves (by omega) TU.out.2.2.2.2.2.2 P12.out O12.out p3 o3
          clear p3 s3 o3 HCC
          go_wp2
          go_end0
          exact ⟨rfl,HFIN.out⟩
         ·have hrz:¬((M:Int) < (e:Int)∧(e:Int) < (b:Int)):=by omega
          have HFIN:Hid (∃ d',PermIn a b d d'∧SWK encV 5 w0 blk off d' w7∧SortedIn lt a b d'):=by
           have z1:=P01.out.1
           have z2:=P12.out.1
           have t:=TU.out
           refine ⟨d1,permIn_trans _ _ _ _ _ P01.out (perm_wide (Nat.le_refl _) (by omega) (by omega) (by omega) P12.out),S2.out,?_⟩
           refine halves (by omega) t.2.2.2.2.2.2 P12.out O12.out (permIn_refl _ _ _) ?_
           by_cases hq:M < e
           ·obtain rfl:e=b:=by omega
            exact SortedIn.perm_out t.2.2.2.1 P12.out (.inl (Nat.le_refl _))
           ·obtain rfl:e=M:=by omega
            exact SortedIn.perm_out t.2.2.2.2.1 P12.out (.inl (Nat.le_refl _))
          by_cases hq:M < e
          ·have hq1:(M:Int) < (e:Int):=by omega
           have hq2:¬(e:Int) < (b:Int):=by omega
           clear hr hq hrz hB hsz hs hc1 hc2 hc3 hc4 hc5 hc6
           go_wp2
           go_end0
           exact ⟨rfl,HFIN.out⟩
          ·have hq1:¬(M:Int) < (e:Int):=by omega
           clear hr hq hrz hB hsz hs hc1 hc2 hc3 hc4 hc5 hc6
           go_wp2
           go_end0
           exact ⟨rfl,HFIN.out⟩
      ·have P01:Go.Aside (PermIn a b d d):=permIn_refl _ _ _
       have TU:=Lib.hid (Found.turned (tag:=PartV.tag) HSO.out FO.out HL.out HR.out HT.out (d1:=d) (by
        rw [←HME.out,←HCO.out.2.2.2.2.2.2.2]
        intro x
        by_cases hq:s < m
        ·obtain rfl:e=m:=by omega
         exact rotF_right s e _ x
        ·obtain rfl:s=m:=by omega
         exact rotF_left s e _ x))
       rw [←HME.out,←HCO.out.2.2.2.2.2.2.2] at TU
       by_cases hq:s < m
       ·have hr1:(s:Int) < (m:Int):=by omega
        have hr2:¬(m:Int) < (e:Int):=by omega
        clear hB hsz hs hc1 hc2 hc3 hc4 hc5 hc6 ee hro hq
        have hB:=HB.out
        have hsz:=HSZ.out
        have hs:=HS.out
        have hco:=HCO.out
        obtain ⟨hc1,hc2,hc3,hc4,hc5,hc6⟩:=hco
        by_cases hr0:a < s∧s < M
        ·have Hd:Go.Aside (d.size=d.size):=P01.out.1
         have h2:=Hd.out
         have HCC:=Lib.hid (IH.out a s M d wr (by omega) (by omega) S1.out hr0.1 hr0.2 (by omega) TU.out.1 TU.out.2.1 TU.out.2.2.1)
         rw [h2] at HCC
         have hs1:(a:Int) < (s:Int):=by omega
         have hs2:(s:Int) < (M:Int):=by omega
         have HDX:Go.Aside (d.size=d.size):=h2
         clear h2
         clear hB hsz hs hc1 hc2 hc3 hc4 hc5 hc6 hr0
         go_wp2_with fail
         refine HCC.out.mono ?_
         rintro e8 w8 ⟨rfl,d2,p2,s2,o2⟩
         have P12:Go.Aside (PermIn a M d d2):=p2
         have O12:Go.Aside (SortedIn lt a M d2):=o2
         have S2:Go.Aside (SWK encV 5 w0 blk off d2 w8):=s2
         clear p2 s2 o2 HCC hs1 hs2
         have hB:=HB.out
         have hsz:=HSZ.out
         have hs:=HS.out
         have hco:=HCO.out
         obtain ⟨hc1,hc2,hc3,hc4,hc5,hc6⟩:=hco
         by_cases hr:M < e∧e < b
         ·have T2:Hid (SortedIn lt M e d2∧SortedIn lt e b d2∧AheadOf PartV.tag M e b d2):=by
           have t:=TU.out
           exact ⟨SortedIn.perm_out t.2.2.2.1 P12.out (.inl (Nat.le_refl _)),SortedIn.perm_out t.2.2.2.2.1 P12.out (.inl (by omega)),AheadOf.perm t.2.2.2.2.2.1 P12.out (Nat.le_refl _)⟩
          have Hd2:Go.Aside (d2.size=d.size):=by have:=P12.out.1;have:=P01.out.1;show _=_;omega
          have h2:=Hd2.out
          have HCC:=Lib.hid (IH.out M e b d2 w8 (by omega) (by omega) S2.out hr.1 hr.2 (by omega) T2.out.1 T2.out.2.1 T2.out.2.2)
          rw [h2] at HCC
          have hr1:(M:Int) < (e:Int):=by omega
          have hr2:(e:Int) < (b:Int):=by omega
          clear h2 hr hB hsz hs hc1 hc2 hc3 hc4 hc5 hc6
          go_wp2_with fail
          refine HCC.out.mono ?_
          rintro e9 w9 ⟨rfl,d3,p3,s3,o3⟩
          have HFIN:Hid (∃ d',PermIn a b d d'∧SWK encV 5 w0 blk off d' w9∧SortedIn lt a b d'):=by
           have hc:=HCO.out
           have hB:=HB.out
           have z1:=P01.out.1
           have z2:=P12.out.1
           refine ⟨d3,permIn_trans _ _ _ _ _ (permIn_trans _ _ _ _ _ P01.out (perm_wide (Nat.le_refl _) (by omega) (by omega) (by omega) P12.out)) (perm_wide (by omega) (Nat.le_refl _) (by omega) (by omega) p3),s3,?_⟩
           exact halves (by omega) TU.out.2.2.2.2.2.2 P12.out O12.out p3 o3
          clear p3 s3 o3 HCC
          go_wp2
          go_end0
          exact ⟨rfl,HFIN.out⟩
         ·have hrz:¬((M:Int) < (e:Int)∧(e:Int) < (b:Int)):=by omega
          have HFIN:Hid (∃ d',PermIn a b d d'∧SWK encV 5 w0 blk off d' w8∧SortedIn lt a b d'):=by
           have z1:=P01.out.1
           have z2:=P12.out.1
           have t:=TU.out
           refine ⟨d2,permIn_trans _ _ _ _ _ P01.out (perm_wide (Nat.le_refl _) (by omega) (by omega) (by omega) P12.out),S2.out,?_⟩
           refine halves (by omega) t.2.2.2.2.2.2 P12.out O12.out (permIn_refl _ _ _) ?_
           by_cases hq:M < e
           ·obtain rfl:e=b:=by omega
            exact SortedIn.perm_out t.2.2.2.1 P12.out (.inl (Nat.le_refl _))
           ·obtain rfl:e=M:=by omega
            exact SortedIn.perm_out t.2.2.2.2.1 P12.out (.inl (Nat.le_refl _))
          by_cases hq:M < e
          ·have hq1:(M:Int) < (e:Int):=by omega
           have hq2:¬(e:Int) < (b:Int):=by omega
           clear hr hq hrz hB hsz hs hc1 hc2 hc3 hc4 hc5 hc6
           go_wp2
           go_end0
           exact ⟨rfl,HFIN.out⟩
          ·have hq1:¬(M:Int) < (e:Int):=by omega
           clear hr hq hrz hB hsz hs hc1 hc2 hc3 hc4 hc5 hc6
           go_wp2
           go_end0
           exact ⟨rfl,HFIN.out⟩
        ·have HDX:Go.Aside (d.size=d.size):=P01.out.1
         have P12:Go.Aside (PermIn a M d d):=permIn_refl _ _ _
         have O12:Go.Aside (SortedIn lt a M d):=by
          have t:=TU.out
          have hc:=HCO.out
          by_cases hq:a < s
          ·obtain rfl:s=M:=by omega
           exact t.1
          ·obtain rfl:s=a:=by omega
           exact t.2.1
         have S2:Go.Aside (SWK encV 5 w0 blk off d wr):=S1.out
         by_cases hq:a < s
         ·have hs1:(a:Int) < (s:Int):=by omega
          have hs2:¬(s:Int) < (M:Int):=by omega
          clear hB hsz hs hc1 hc2 hc3 hc4 hc5 hc6 hr0 hq
          have hB:=HB.out
          have hsz:=HSZ.out
          have hs:=HS.out
          have hco:=HCO.out
          obtain ⟨hc1,hc2,hc3,hc4,hc5,hc6⟩:=hco
          by_cases hr:M < e∧e < b
          ·have T2:Hid (SortedIn lt M e d∧SortedIn lt e b d∧AheadOf PartV.tag M e b d):=by
            have t:=TU.out
            exact ⟨SortedIn.perm_out t.2.2.2.1 P12.out (.inl (Nat.le_refl _)),SortedIn.perm_out t.2.2.2.2.1 P12.out (.inl (by omega)),AheadOf.perm t.2.2.2.2.2.1 P12.out (Nat.le_refl _)⟩
           have Hd:Go.Aside (d.size=d.size):=by have:=P12.out.1;have:=P01.out.1;show _=_;omega
           have h2:=Hd.out
           have HCC:=Lib.hid (IH.out M e b d wr (by omega) (by omega) S2.out hr.1 hr.2 (by omega) T2.out.1 T2.out.2.1 T2.out.2.2)
           rw [h2] at HCC
           have hr1:(M:Int) < (e:Int):=by omega
           have hr2:(e:Int) < (b:Int):=by omega
           clear h2 hr hB hsz hs hc1 hc2 hc3 hc4 hc5 hc6
           go_wp2_with fail
           refine HCC.out.mono ?_
           rintro e9 w9 ⟨rfl,d3,p3,s3,o3⟩
           have HFIN:Hid (∃ d',PermIn a b d d'∧SWK encV 5 w0 blk off d' w9∧SortedIn lt a b d'):=by
            have hc:=HCO.out
            have hB:=HB.out
            have z1:=P01.out.1
            have z2:=P12.out.1
            refine ⟨d3,permIn_trans _ _ _ _ _ (permIn_trans _ _ _ _ _ P01.out (perm_wide (Nat.le_refl _) (by omega) (by omega) (by omega) P12.out)) (perm_wide (by omega) (Nat.le_refl _) (by omega) (by omega) p3),s3,?_⟩
            exact halves (by omega) TU.out.2.2.2.2.2.2 P12.out O12.out p3 o3
           clear p3 s3 o3 HCC
           go_wp2
           go_end0
           exact ⟨rfl,HFIN.out⟩
          ·have hrz:¬((M:Int) < (e:Int)∧(e:Int) < (b:Int)):=by omega
           have HFIN:Hid (∃ d',PermIn a b d d'∧SWK encV 5 w0 blk off d' wr∧SortedIn lt a b d'):=by
            have z1:=P01.out.1
            have z2:=P12.out.1
            have t:=TU.out
            refine ⟨d,permIn_trans _ _ _ _ _ P01.out (perm_wide (Nat.le_refl _) (by omega) (by omega) (by omega) P12.out),S2.out,?_⟩
            refine halves (by omega) t.2.2.2.2.2.2 P12.out O12.out (permIn_refl _ _ _) ?_
            by_cases hq:M < e
            ·obtain rfl:e=b:=by omega
             exact SortedIn.perm_out t.2.2.2.1 P12.out (.inl (Nat.le_refl _))
            ·obtain rfl:e=M:=by omega
             exact SortedIn.perm_out t.2.2.2.2.1 P12.out (.inl (Nat.le_refl _))
           by_cases hq:M < e
           ·have hq1:(M:Int) < (e:Int):=by omega
            have hq2:¬(e:Int) < (b:Int):=by omega
            clear hr hq hrz hB hsz hs hc1 hc2 hc3 hc4 hc5 hc6
            go_wp2
            go_end0
            exact ⟨rfl,HFIN.out⟩
           ·have hq1:¬(M:Int) < (e:Int):=by omega
            clear hr hq hrz hB hsz hs hc1 hc2 hc3 hc4 hc5 hc6
            go_wp2
            go_end0
            exact ⟨rfl,HFIN.out⟩
         ·have hs1:¬(a:Int) < (s:Int):=by omega
          clear hB hsz hs hc1 hc2 hc3 hc4 hc5 hc6 hr0 hq
          have hB:=HB.out
          have hsz:=HSZ.out
          have hs:=HS.out
          have hco:=HCO.out
          obtain ⟨hc1,hc2,hc3,hc4,hc5,hc6⟩:=hco
          by_cases hr:M < e∧e < b
          ·have T2:Hid (SortedIn lt M e d∧SortedIn lt e b d∧AheadOf PartV.tag M e b d):=by
            have t:=TU.out
            exact ⟨SortedIn.perm_out t.2.2.2.1 P12.out (.inl (Nat.le_refl _)),SortedIn.perm_out t.2.2.2.2.1 P12.out (.inl (by omega)),AheadOf.perm t.2.2.2.2.2.1 P12.out (Nat.le_refl _)⟩
           have Hd:Go.Aside (d.size=d.size):=by have:=P12.out.1;have:=P01.out.1;show _=_;omega
           have h2:=Hd.out
           have HCC:=Lib.hid (IH.out M e b d wr (by omega) (by omega) S2.out hr.1 hr.2 (by omega) T2.out.1 T2.out.2.1 T2.out.2.2)
           rw [h2] at HCC
           have hr1:(M:Int) < (e:Int):=by omega
           have hr2:(e:Int) < (b:Int):=by omega
           clear h2 hr hB hsz hs hc1 hc2 hc3 hc4 hc5 hc6
           go_wp2_with fail
           refine HCC.out.mono ?_
           rintro e9 w9 ⟨rfl,d3,p3,s3,o3⟩
           have HFIN:Hid (∃ d',PermIn a b d d'∧SWK encV 5 w0 blk off d' w9∧SortedIn lt a b d'):=by
            have hc:=HCO.out
            have hB:=HB.out
            have z1:=P01.out.1
            have z2:=P12.out.1
            refine ⟨d3,permIn_trans _ _ _ _ _ (permIn_trans _ _ _ _ _ P01.out (perm_wide (Nat.le_refl _) (by omega) (by omega) (by omega) P12.out)) (perm_wide (by omega) (Nat.le_refl _) (by omega) (by omega) p3),s3,?_⟩
            exact halves (by omega) TU.out.2.2.2.2.2.2 P12.out O12.out p3 o3
           clear p3 s3 o3 HCC
           go_wp2
           go_end0
           exact ⟨rfl,HFIN.out⟩
          ·have hrz:¬((M:Int) < (e:Int)∧(e:Int) < (b:Int)):=by omega
           have HFIN:Hid (∃ d',PermIn a b d d'∧SWK encV 5 w0 blk off d' wr∧SortedIn lt a b d'):=by
            have z1:=P01.out.1
            have z2:=P12.out.1
            have t:=TU.out
            refine ⟨d,permIn_trans _ _ _ _ _ P01.out (perm_wide (Nat.le_refl _) (by omega) (by omega) (by omega) P12.out),S2.out,?_⟩
            refine halves (by omega) t.2.2.2.2.2.2 P12.out O12.out (permIn_refl _ _ _) ?_
            by_cases hq:M < e
            ·obtain rfl:e=b:=by omega
             exact SortedIn.perm_out t.2.2.2.1 P12.out (.inl (Nat.le_refl _))
            ·obtain rfl:e=M:=by omega
             exact SortedIn.perm_out t.2.2.2.2.1 P12.out (.inl (Nat.le_refl _))
           by_cases hq:M < e
           ·have hq1:(M:Int) < (e:Int):=by omega
            have hq2:¬(e:Int) < (b:Int):=by omega
            clear hr hq hrz hB hsz hs hc1 hc2 hc3 hc4 hc5 hc6
            go_wp2
            go_end0
            exact ⟨rfl,HFIN.out⟩
           ·have hq1:¬(M:Int) < (e:Int):=by omega
            clear hr hq hrz hB hsz hs hc1 hc2 hc3 hc4 hc5 hc6
            go_wp2
            go_end0
            exact ⟨rfl,HFIN.out⟩
       ·have hr1:¬(s:Int) < (m:Int):=by omega
        clear hB hsz hs hc1 hc2 hc3 hc4 hc5 hc6 ee hro hq
        have hB:=HB.out
        have hsz:=HSZ.out
        have hs:=HS.out
        have hco:=HCO.out
        obtain ⟨hc1,hc2,hc3,hc4,hc5,hc6⟩:=hco
        by_cases hr0:a < s∧s < M
        ·have Hd:Go.Aside (d.size=d.size):=P01.out.1
         have h2:=Hd.out
         have HCC:=Lib.hid (IH.out a s M d wr (by omega) (by omega) S1.out hr0.1 hr0.2 (by omega) TU.out.1 TU.out.2.1 TU.out.2.2.1)
         rw [h2] at HCC
         have hs1:(a:Int) < (s:Int):=by omega
         have hs2:(s:Int) < (M:Int):=by omega
         have HDX:Go.Aside (d.size=d.size):=h2
         clear h2
         clear hB hsz hs hc1 hc2 hc3 hc4 hc5 hc6 hr0
         go_wp2_with fail
         refine HCC.out.mono ?_
         rintro e8 w8 ⟨rfl,d2,p2,s2,o2⟩
         have P12:Go.Aside (PermIn a M d d2):=p2
         have O12:Go.Aside (SortedIn lt a M d2):=o2
         have S2:Go.Aside (SWK encV 5 w0 blk off d2 w8):=s2
         clear p2 s2 o2 HCC hs1 hs2
         have hB:=HB.out
         have hsz:=HSZ.out
         have hs:=HS.out
         have hco:=HCO.out
         obtain ⟨hc1,hc2,hc3,hc4,hc5,hc6⟩:=hco
         by_cases hr:M < e∧e < b
         ·have T2:Hid (SortedIn lt M e d2∧SortedIn lt e b d2∧AheadOf PartV.tag M e b d2):=by
           have t:=TU.out
           exact ⟨SortedIn.perm_out t.2.2.2.1 P12.out (.inl (Nat.le_refl _)),SortedIn.perm_out t.2.2.2.2.1 P12.out (.inl (by omega)),AheadOf.perm t.2.2.2.2.2.1 P12.out (Nat.le_refl _)⟩
          have Hd2:Go.Aside (d2.size=d.size):=by have:=P12.out.1;have:=P01.out.1;show _=_;omega
          have h2:=Hd2.out
          have HCC:=Lib.hid (IH.out M e b d2 w8 (by omega) (by omega) S2.out hr.1 hr.2 (by omega) T2.out.1 T2.out.2.1 T2.out.2.2)
          rw [h2] at HCC
          have hr1:(M:Int) < (e:Int):=by omega
          have hr2:(e:Int) < (b:Int):=by omega
          clear h2 hr hB hsz hs hc1 hc2 hc3 hc4 hc5 hc6
          go_wp2_with fail
          refine HCC.out.mono ?_
          rintro e9 w9 ⟨rfl,d3,p3,s3,o3⟩
          have HFIN:Hid (∃ d',PermIn a b d d'∧SWK encV 5 w0 blk off d' w9∧SortedIn lt a b d'):=by
           have hc:=HCO.out
           have hB:=HB.out
           have z1:=P01.out.1
           have z2:=P12.out.1
           refine ⟨d3,permIn_trans _ _ _ _ _ (permIn_trans _ _ _ _ _ P01.out (perm_wide (Nat.le_refl _) (by omega) (by omega) (by omega) P12.out)) (perm_wide (by omega) (Nat.le_refl _) (by omega) (by omega) p3),s3,?_⟩
           exact halves (by omega) TU.out.2.2.2.2.2.2 P12.out O12.out p3 o3
          clear p3 s3 o3 HCC
          go_wp2
          go_end0
          exact ⟨rfl,HFIN.out⟩
         ·have hrz:¬((M:Int) < (e:Int)∧(e:Int) < (b:Int)):=by omega
          have HFIN:Hid (∃ d',PermIn a b d d'∧SWK encV 5 w0 blk off d' w8∧SortedIn lt a b d'):=by
           have z1:=P01.out.1
           have z2:=P12.out.1
           have t:=TU.out
           refine ⟨d2,permIn_trans _ _ _ _ _ P01.out (perm_wide (Nat.le_refl _) (by omega) (by omega) (by omega) P12.out),S2.out,?_⟩
           refine halves (by omega) t.2.2.2.2.2.2 P12.out O12.out (permIn_refl _ _ _) ?_
           by_cases hq:M < e
           ·obtain rfl:e=b:=by omega
            exact SortedIn.perm_out t.2.2.2.1 P12.out (.inl (Nat.le_refl _))
           ·obtain rfl:e=M:=by omega
            exact SortedIn.perm_out t.2.2.2.2.1 P12.out (.inl (Nat.le_refl _))
          by_cases hq:M < e
          ·have hq1:(M:Int) < (e:Int):=by omega
           have hq2:¬(e:Int) < (b:Int):=by omega
           clear hr hq hrz hB hsz hs hc1 hc2 hc3 hc4 hc5 hc6
           go_wp2
           go_end0
           exact ⟨rfl,HFIN.out⟩
          ·have hq1:¬(M:Int) < (e:Int):=by omega
           clear hr hq hrz hB hsz hs hc1 hc2 hc3 hc4 hc5 hc6
           go_wp2
           go_end0
           exact ⟨rfl,HFIN.out⟩
        ·have HDX:Go.Aside (d.size=d.size):=P01.out.1
         have P12:Go.Aside (PermIn a M d d):=permIn_refl _ _ _
         have O12:Go.Aside (SortedIn lt a M d):=by
          have t:=TU.out
          have hc:=HCO.out
          by_cases hq:a < s
          ·obtain rfl:s=M:=by omega
           exact t.1
          ·obtain rfl:s=a:=by omega
           exact t.2.1
         have S2:Go.Aside (SWK encV 5 w0 blk off d wr):=S1.out
         by_cases hq:a < s
         ·have hs1:(a:Int) < (s:Int):=by omega
          have hs2:¬(s:Int) < (M:Int):=by omega
          clear hB hsz hs hc1 hc2 hc3 hc4 hc5 hc6 hr0 hq
          have hB:=HB.out
          have hsz:=HSZ.out
          have hs:=HS.out
          have hco:=HCO.out
          obtain ⟨hc1,hc2,hc3,hc4,hc5,hc6⟩:=hco
          by_cases hr:M < e∧e < b
          ·have T2:Hid (SortedIn lt M e d∧SortedIn lt e b d∧AheadOf PartV.tag M e b d):=by
            have t:=TU.out
            exact ⟨SortedIn.perm_out t.2.2.2.1 P12.out (.inl (Nat.le_refl _)),SortedIn.perm_out t.2.2.2.2.1 P12.out (.inl (by omega)),AheadOf.perm t.2.2.2.2.2.1 P12.out (Nat.le_refl _)⟩
           have Hd:Go.Aside (d.size=d.size):=by have:=P12.out.1;have:=P01.out.1;show _=_;omega
           have h2:=Hd.out
           have HCC:=Lib.hid (IH.out M e b d wr (by omega) (by omega) S2.out hr.1 hr.2 (by omega) T2.out.1 T2.out.2.1 T2.out.2.2)
           rw [h2] at HCC
           have hr1:(M:Int) < (e:Int):=by omega
           have hr2:(e:Int) < (b:Int):=by omega
           clear h2 hr hB hsz hs hc1 hc2 hc3 hc4 hc5 hc6
           go_wp2_with fail
           refine HCC.out.mono ?_
           rintro e9 w9 ⟨rfl,d3,p3,s3,o3⟩
           have HFIN:Hid (∃ d',PermIn a b d d'∧SWK encV 5 w0 blk off d' w9∧SortedIn lt a b d'):=by
            have hc:=HCO.out
            have hB:=HB.out
            have z1:=P01.out.1
            have z2:=P12.out.1
            refine ⟨d3,permIn_trans _ _ _ _ _ (permIn_trans _ _ _ _ _ P01.out (perm_wide (Nat.le_refl _) (by omega) (by omega) (by omega) P12.out)) (perm_wide (by omega) (Nat.le_refl _) (by omega) (by omega) p3),s3,?_⟩
            exact halves (by omega) TU.out.2.2.2.2.2.2 P12.out O12.out p3 o3
           clear p3 s3 o3 HCC
           go_wp2
           go_end0
           exact ⟨rfl,HFIN.out⟩
          ·have hrz:¬((M:Int) < (e:Int)∧(e:Int) < (b:Int)):=by omega
           have HFIN:Hid (∃ d',PermIn a b d d'∧SWK encV 5 w0 blk off d' wr∧SortedIn lt a b d'):=by
            have z1:=P01.out.1
            have z2:=P12.out.1
            have t:=TU.out
            refine ⟨d,permIn_trans _ _ _ _ _ P01.out (perm_wide (Nat.le_refl _) (by omega) (by omega) (by omega) P12.out),S2.out,?_⟩
            refine halves (by omega) t.2.2.2.2.2.2 P12.out O12.out (permIn_refl _ _ _) ?_
            by_cases hq:M < e
            ·obtain rfl:e=b:=by omega
             exact SortedIn.perm_out t.2.2.2.1 P12.out (.inl (Nat.le_refl _))
            ·obtain rfl:e=M:=by omega
             exact SortedIn.perm_out t.2.2.2.2.1 P12.out (.inl (Nat.le_refl _))
           by_cases hq:M < e
           ·have hq1:(M:Int) < (e:Int):=by omega
            have hq2:¬(e:Int) < (b:Int):=by omega
            clear hr hq hrz hB hsz hs hc1 hc2 hc3 hc4 hc5 hc6
            go_wp2
            go_end0
            exact ⟨rfl,HFIN.out⟩
           ·have hq1:¬(M:Int) < (e:Int):=by omega
            clear hr hq hrz hB hsz hs hc1 hc2 hc3 hc4 hc5 hc6
            go_wp2
            go_end0
            exact ⟨rfl,HFIN.out⟩
         ·have hs1:¬(a:Int) < (s:Int):=by omega
          clear hB hsz hs hc1 hc2 hc3 hc4 hc5 hc6 hr0 hq
          have hB:=HB.out
          have hsz:=HSZ.out
          have hs:=HS.out
          have hco:=HCO.out
          obtain ⟨hc1,hc2,hc3,hc4,hc5,hc6⟩:=hco
          by_cases hr:M < e∧e < b
          ·have T2:Hid (SortedIn lt M e d∧SortedIn lt e b d∧AheadOf PartV.tag M e b d):=by
            have t:=TU.out
            exact ⟨SortedIn.perm_out t.2.2.2.1 P12.out (.inl (Nat.le_refl _)),SortedIn.perm_out t.2.2.2.2.1 P12.out (.inl (by omega)),AheadOf.perm t.2.2.2.2.2.1 P12.out (Nat.le_refl _)⟩
           have Hd:Go.Aside (d.size=d.size):=by have:=P12.out.1;have:=P01.out.1;show _=_;omega
           have h2:=Hd.out
           have HCC:=Lib.hid (IH.out M e b d wr (by omega) (by omega) S2.out hr.1 hr.2 (by omega) T2.out.1 T2.out.2.1 T2.out.2.2)
           rw [h2] at HCC
           have hr1:(M:Int) < (e:Int):=by omega
           have hr2:(e:Int) < (b:Int):=by omega
           clear h2 hr hB hsz hs hc1 hc2 hc3 hc4 hc5 hc6
           go_wp2_with fail
           refine HCC.out.mono ?_
           rintro e9 w9 ⟨rfl,d3,p3,s3,o3⟩
           have HFIN:Hid (∃ d',PermIn a b d d'∧SWK encV 5 w0 blk off d' w9∧SortedIn lt a b d'):=by
            have hc:=HCO.out
            have hB:=HB.out
            have z1:=P01.out.1
            have z2:=P12.out.1
            refine ⟨d3,permIn_trans _ _ _ _ _ (permIn_trans _ _ _ _ _ P01.out (perm_wide (Nat.le_refl _) (by omega) (by omega) (by omega) P12.out)) (perm_wide (by omega) (Nat.le_refl _) (by omega) (by omega) p3),s3,?_⟩
            exact halves (by omega) TU.out.2.2.2.2.2.2 P12.out O12.out p3 o3
           clear p3 s3 o3 HCC
           go_wp2
           go_end0
           exact ⟨rfl,HFIN.out⟩
          ·have hrz:¬((M:Int) < (e:Int)∧(e:Int) < (b:Int)):=by omega
           have HFIN:Hid (∃ d',PermIn a b d d'∧SWK encV 5 w0 blk off d' wr∧SortedIn lt a b d'):=by
            have z1:=P01.out.1
            have z2:=P12.out.1
            have t:=TU.out
            refine ⟨d,permIn_trans _ _ _ _ _ P01.out (perm_wide (Nat.le_refl _) (by omega) (by omega) (by omega) P12.out),S2.out,?_⟩
            refine halves (by omega) t.2.2.2.2.2.2 P12.out O12.out (permIn_refl _ _ _) ?_
            by_cases hq:M < e
            ·obtain rfl:e=b:=by omega
             exact SortedIn.perm_out t.2.2.2.1 P12.out (.inl (Nat.le_refl _))
            ·obtain rfl:e=M:=by omega
             exact SortedIn.perm_out t.2.2.2.2.1 P12.out (.inl (Nat.le_refl _))
           by_cases hq:M < e
           ·have hq1:(M:Int) < (e:Int):=by omega
            have hq2:¬(e:Int) < (b:Int):=by omega
            clear hr hq hrz hB hsz hs hc1 hc2 hc3 hc4 hc5 hc6
            go_wp2
            go_end0
            exact ⟨rfl,HFIN.out⟩
           ·have hq1:¬(M:Int) < (e:Int):=by omega
            clear hr hq hrz hB hsz hs hc1 hc2 hc3 hc4 hc5 hc6
            go_wp2
            go_end0
            exact ⟨rfl,HFIN.out⟩
   ·have hB:=HB.out
    have hsz:=HSZ.out
    have hs:=HS.out
    obtain ⟨ma,hma⟩:∃ zz:Nat,(m:Int)-(a:Int)=(zz:Int):=⟨m-a,by omega⟩
    have ema:ma=m-a:=by omega
    have rma:IntKind.i64.wrap (ma:Int)=(ma:Int):=by rw [IntKind.wrap_i64];omega
    obtain ⟨bm,hbm⟩:∃ zz:Nat,(b:Int)-(m:Int)=(zz:Int):=⟨b-m,by omega⟩
    have ebm:bm=b-m:=by omega
    have rbm:IntKind.i64.wrap (bm:Int)=(bm:Int):=by rw [IntKind.wrap_i64];omega
    have nma:¬(ma:Int)=1:=by omega
    have nmb:((ma:Int)==1)=false:=by simp;omega
    have nba:¬(bm:Int)=1:=by omega
    have nbb:((bm:Int)==1)=false:=by simp;omega
    obtain ⟨M,hM⟩:∃ M,M=(a+b) / 2:=⟨_,rfl⟩
    have q1:IntKind.i64.wrap ((a:Int)+(b:Int))=(a:Int)+(b:Int):=by rw [IntKind.wrap_i64];omega
    have q2:IntKind.u64.wrap ((a:Int)+(b:Int))=(a:Int)+(b:Int):=by rw [IntKind.wrap_u64];omega
    have q3:((a:Int)+(b:Int)) / 2=(M:Int):=by omega
    have rM:IntKind.i64.wrap (M:Int)=(M:Int):=by rw [IntKind.wrap_i64];omega
    obtain ⟨N,hN⟩:∃ zz:Nat,(M:Int)+(m:Int)=(zz:Int):=⟨M+m,by omega⟩
    have eN:N=M+m:=by omega
    have rN:IntKind.i64.wrap (N:Int)=(N:Int):=by rw [IntKind.wrap_i64];omega
    obtain ⟨p,hp⟩:∃ zz:Nat,(N:Int)-1=(zz:Int):=⟨N-1,by omega⟩
    have ep:p=N-1:=by omega
    have rp:IntKind.i64.wrap (p:Int)=(p:Int):=by rw [IntKind.wrap_i64];omega
    have HME:Go.Aside (M=(a+b) / 2):=hM
    have HMA:Go.Aside (a+1 < m∧m+1 < b∧N=M+m∧p=N-1∧a < M∧M < b):=by show _∧_;omega
    have hcase:(M:Int) < (m:Int):=by omega
    have HCS:Go.Aside (M < m):=by show _ < _;omega
    obtain ⟨nb,hnb⟩:∃ zz:Nat,(N:Int)-(b:Int)=(zz:Int):=⟨N-b,by omega⟩
    have enb:nb=N-b:=by omega
    have rnb:IntKind.i64.wrap (nb:Int)=(nb:Int):=by rw [IntKind.wrap_i64];omega
    have HNB:Go.Aside (nb=N-b∧a≤nb):=by show _∧_;omega
    clear ema ebm hM eN ep h1 h2 enb
    clear hB hsz hs
    go_enter Try.func54,Try.ntmps54
    go_wp2
    clear hma rma hbm rbm nma nmb nba nbb q1 q2 q3 rM hN rN hp rp hcase hnb rnb
    go_loopg [20,21] (M-nb) (fun kx u v wr=>∃ (s r:Nat),u=.int .i64 s∧v=.int .i64 r∧Go.Aside (nb≤s∧s≤r∧r≤M∧r-s≤kx)∧Go.Aside (s=nb∨lt d[p+1-s]! d[s-1]! = false)∧Go.Aside (r=M∨lt d[p-r]! d[r]! = true)∧Go.Aside (SWK encV 5 w0 blk off d wr))
    case atStart=>have hB:=HB.out;have hA:=HMA.out;have hC:=HCS.out;have hnb:=HNB.out;exact ⟨nb,M,rfl,rfl,(show _∧_ from by omega),.inl rfl,.inl rfl,S0⟩
    case round =>
     clear S0
     obtain ⟨s,r,rfl,rfl,HI,G1,G2,S1⟩:=hrel
     have hI:=HI.out
     have hA:=HMA.out
     have hC:=HCS.out
     have hME:=HME.out
     have hnb:=HNB.out
     have hB:=HB.out
     have hsz:=HSZ.out
     have hs:=HS.out
     by_cases hlt:s < r
     ·have hltz:(s:Int) < (r:Int):=by omega
      obtain ⟨K,hK⟩:∃ K,K=(s+r) / 2:=⟨_,rfl⟩
      have hk1:s≤K:=by omega
      have hk2:K < r:=by omega
      have q1:IntKind.i64.wrap ((s:Int)+(r:Int))=(s:Int)+(r:Int):=by rw [IntKind.wrap_i64];omega
      have q2:IntKind.u64.wrap ((s:Int)+(r:Int))=(s:Int)+(r:Int):=by rw [IntKind.wrap_u64];omega
      have q3:((s:Int)+(r:Int)) / 2=(K:Int):=by omega
      have rK:IntKind.i64.wrap (K:Int)=(K:Int):=by rw [IntKind.wrap_i64];omega
      have rK1:IntKind.i64.wrap ((K:Int)+1)=(K:Int)+1:=by rw [IntKind.wrap_i64];omega
      have bK:(K:Int) < (d.size:Int):=by omega
      have pK:(0:Int)≤(K:Int):=by omega
      obtain ⟨L,hL⟩:∃ zz:Nat,(p:Int)-(K:Int)=(zz:Int):=⟨p-K,by omega⟩
      have eL:L=p-K:=by omega
      have rL:IntKind.i64.wrap (L:Int)=(L:Int):=by rw [IntKind.wrap_i64];omega
      have bL:(L:Int) < (d.size:Int):=by omega
      have hd:decide (cf d[L]! d[K]! < 0)=lt d[L]! d[K]! := HCF.out _ _ (HT.out K L (by omega) (by omega) (by omega) (by omega))
      have HKI:Go.Aside (s≤K∧K < r):=⟨hk1,hk2⟩
      have HEL:Go.Aside (L=p-K):=eL
      have hl8:L < d.size:=by omega
      clear eL hME hA hnb
      clear hK
      cases hp2:lt d[L]! d[K]! with
      | false =>
       have G3:Go.Aside (K+1=nb∨lt d[p+1-(K+1)]! d[K+1-1]! = false):=.inr (by rw [Nat.add_sub_add_right,←HEL.out];exact hp2)
       rw [hp2] at hd
       have hnl:¬cf d[L]! d[K]! < 0:=of_decide_eq_false hd
       clear hp2
       obtain ⟨xI,hxI⟩:∃ x,d[L]! = x:=⟨_,rfl⟩
       obtain ⟨xJ,hxJ⟩:∃ x,d[K]! = x:=⟨_,rfl⟩
       have fI:∀ n os,At5 (grow (wr.drewN n) os) blk (off+L*5) xI:=fun n os=>hxI▸(SWK.five (S1.out.grown n os) R (by omega) (by omega)).1
       have fJ:∀ n os,At5 (grow (wr.drewN n) os) blk (off+K*5) xJ:=fun n os=>hxJ▸(SWK.five (S1.out.grown n os) R (by omega) (by omega)).1
       have fI0:=fun n os=>(fI n os).1
       have fI1:=fun n os=>(fI n os).2.1
       have fI2:=fun n os=>(fI n os).2.2.1
       have fI3:=fun n os=>(fI n os).2.2.2.1
       have fI4:=fun n os=>(fI n os).2.2.2.2
       have fJ0:=fun n os=>(fJ n os).1
       have fJ1:=fun n os=>(fJ n os).2.1
       have fJ2:=fun n os=>(fJ n os).2.2.1
       have fJ3:=fun n os=>(fJ n os).2.2.2.1
       have fJ4:=fun n os=>(fJ n os).2.2.2.2
       have hcg:∀ n os,Calls Try.prog g #[.agg #[.int .u8 xI.t.op,.int .i64 xI.t.col,.string xI.t.cell,.slice xI.A xI.n xI.p,.string xI.pr],.agg #[.int .u8 xJ.t.op,.int .i64 xJ.t.col,.string xJ.t.cell,.slice xJ.A xJ.n xJ.p,.string xJ.pr]] (grow (wr.drewN n) os) fun e w'=>e=.returned (.int .i64 (cf xI xJ))∧∃ q os',w'=grow ((grow (wr.drewN n) os).drewN q) os':=fun n os=>S1.out.cmp HC.out (by omega) xI xJ n os
       rw [hxI,hxJ] at hd hnl
       have HX:Hid (d[L]! = xI∧d[K]! = xJ):=⟨hxI,hxJ⟩
       clear fI fJ hxI hxJ hs
       go_wp2_with fail
       go_quiet_grown (first|(go_at_fn g;refine Calls.grown_of (hcg _ _)))
       have S2:Go.Aside (SWK encV 5 w0 blk off d (grow (wr.drewN nq) osq)):=S1.out.grown nq osq
       clear fI0 fI1 fI2 fI3 fI4 fJ0 fJ1 fJ2 fJ3 fJ4 hcg S1
       generalize grow (wr.drewN nq) osq=w2 at S2 ⊢
       clear nq osq HX
       clear hI hC hk1 hk2 hlt hsz hB
       go_wp2
       go_roundg (r-(K+1))
       case measure=>have hI:=HI.out;have hK:=HKI.out;omega
       case rel=>have hI:=HI.out;have hK:=HKI.out;exact ⟨K+1,r,by go_num,rfl,(show _∧_ from by omega),G3,G2,S2⟩
      | true =>
       have G3:Go.Aside (K=M∨lt d[p-K]! d[K]! = true):=.inr (by rw [←HEL.out];exact hp2)
       rw [hp2] at hd
       clear hp2
       obtain ⟨xI,hxI⟩:∃ x,d[L]! = x:=⟨_,rfl⟩
       obtain ⟨xJ,hxJ⟩:∃ x,d[K]! = x:=⟨_,rfl⟩
       have fI:∀ n os,At5 (grow (wr.drewN n) os) blk (off+L*5) xI:=fun n os=>hxI▸(SWK.five (S1.out.grown n os) R (by omega) (by omega)).1
       have fJ:∀ n os,At5 (grow (wr.drewN n) os) blk (off+K*5) xJ:=fun n os=>hxJ▸(SWK.five (S1.out.grown n os) R (by omega) (by omega)).1
       have fI0:=fun n os=>(fI n os).1
       have fI1:=fun n os=>(fI n os).2.1
       have fI2:=fun n os=>(fI n os).2.2.1
       have fI3:=fun n os=>(fI n os).2.2.2.1
       have fI4:=fun n os=>(fI n os).2.2.2.2
       have fJ0:=fun n os=>(fJ n os).1
       have fJ1:=fun n os=>(fJ n os).2.1
       have fJ2:=fun n os=>(fJ n os).2.2.1
       have fJ3:=fun n os=>(fJ n os).2.2.2.1
       have fJ4:=fun n os=>(fJ n os).2.2.2.2
       have hcg:∀ n os,Calls Try.prog g #[.agg #[.int .u8 xI.t.op,.int .i64 xI.t.col,.string xI.t.cell,.slice xI.A xI.n xI.p,.string xI.pr],.agg #[.int .u8 xJ.t.op,.int .i64 xJ.t.col,.string xJ.t.cell,.slice xJ.A xJ.n xJ.p,.string xJ.pr]] (grow (wr.drewN n) os) fun e w'=>e=.returned (.int .i64 (cf xI xJ))∧∃ q os',w'=grow ((grow (wr.drewN n) os).drewN q) os':=fun n os=>S1.out.cmp HC.out (by omega) xI xJ n os
       rw [hxI,hxJ] at hd
       have HX:Hid (d[L]! = xI∧d[K]! = xJ):=⟨hxI,hxJ⟩
       clear fI fJ hxI hxJ hs
       go_wp2_with fail
       go_quiet_grown (first|(go_at_fn g;refine Calls.grown_of (hcg _ _)))
       have S2:Go.Aside (SWK encV 5 w0 blk off d (grow (wr.drewN nq) osq)):=S1.out.grown nq osq
       clear fI0 fI1 fI2 fI3 fI4 fJ0 fJ1 fJ2 fJ3 fJ4 hcg S1
       generalize grow (wr.drewN nq) osq=w2 at S2 ⊢
       clear nq osq HX
       clear hI hC hk1 hk2 hlt hsz hB
       go_wp2
       go_roundg (K-s)
       case measure=>have hI:=HI.out;have hK:=HKI.out;omega
       case rel=>have hI:=HI.out;have hK:=HKI.out;exact ⟨s,K,rfl,rfl,(show _∧_ from by omega),G1,G3,S2⟩
     ·have hM2:=HME.out
      obtain rfl:s=r:=by omega
      clear hlt
      obtain ⟨e,he⟩:∃ zz:Nat,(N:Int)-(s:Int)=(zz:Int):=⟨N-s,by omega⟩
      have ee:e=N-s:=by omega
      have re:IntKind.i64.wrap (e:Int)=(e:Int):=by rw [IntKind.wrap_i64];omega
      have HCO:Go.Aside (a≤s∧s≤m∧m≤e∧e≤b∧s≤M∧a < M∧M < b∧e=M+m-s):=by show _∧_;omega
      have FO:Go.Aside (Found lt d a m b s):=by
       have g1:=G1.out
       have g2:=G2.out
       refine ⟨by omega,by omega,by rw [←hM2];omega,by rw [←hM2];omega,by rw [←hM2];omega,?_,?_⟩
       ·rw [←hM2]
        rcases g1 with g1|g1
        ·exact .inr (.inl (by omega))
        ·exact .inr (.inr (by rw [show M+m-s=p+1-s by omega];exact g1))
       ·rw [←hM2]
        rcases g2 with g2|g2
        ·exact .inr (.inl (by omega))
        ·exact .inr (.inr (by rw [show M+m-s-1=p-s by omega];exact g2))
      clear G1 G2 hI hA hM2 hME hC hnb
      have HRE:Go.Aside (IntKind.i64.wrap (e:Int)=(e:Int)):=re
      obtain ⟨hc1,hc2,hc3,hc4,hc5,hc6⟩:=HCO.out
      by_cases hro:s < m∧m < e
      ·have HCC:=Lib.hid (rotate_calls (cap:=cap) R g #[] (a:=s) (m:=m) (b:=e) (d:=d) (w:=wr) (by omega) S1.out hro.1 hro.2 (by omega) (by omega))
       have hr1:(s:Int) < (m:Int):=by omega
       have hr2:(m:Int) < (e:Int):=by omega
       clear hB hsz hs hc1 hc2 hc3 hc4 hc5 hc6 ee S1
       go_wp2_with fail
       refine HCC.out.mono ?_
       rintro e7 w7 ⟨rfl,d1,z1,s1,f1⟩
       have S1:Go.Aside (SWK encV 5 w0 blk off d1 w7):=s1
       have P01:Go.Aside (PermIn a b d d1):=by
        have hc:=HCO.out
        have hB:=HB.out
        exact perm_wide (by omega) (by omega) (by omega) (by omega) (rot_perm z1 (by omega) (by omega) (by omega) f1)
       have TU:=Lib.hid (Found.turned (tag:=PartV.tag) HSO.out FO.out HL.out HR.out HT.out (d1:=d1) (by rw [←HME.out,←HCO.out.2.2.2.2.2.2.2];exact f1))
       rw [←HME.out,←HCO.out.2.2.2.2.2.2.2] at TU
       clear z1 s1 f1 HCC hr1 hr2 hro
       have hB:=HB.out
       have hsz:=HSZ.out
       have hs:=HS.out
       have hco:=HCO.out
       obtain ⟨hc1,hc2,hc3,hc4,hc5,hc6⟩:=hco
       by_cases hr0:a < s∧s < M
       ·have Hd1:Go.Aside (d1.size=d.size):=P01.out.1
        have h2:=Hd1.out
        have HCC:=Lib.hid (IH.out a s M d1 w7 (by omega) (by omega) S1.out hr0.1 hr0.2 (by omega) TU.out.1 TU.out.2.1 TU.out.2.2.1)
        rw [h2] at HCC
        have hs1:(a:Int) < (s:Int):=by omega
        have hs2:(s:Int) < (M:Int):=by omega
        have HDX:Go.Aside (d1.size=d.size):=h2
        clear h2
        clear hB hsz hs hc1 hc2 hc3 hc4 hc5 hc6 hr0
        go_wp2_with fail
        refine HCC.out.mono ?_
        rintro e8 w8 ⟨rfl,d2,p2,s2,o2⟩
        have P12:Go.Aside (PermIn a M d1 d2):=p2
        have O12:Go.Aside (SortedIn lt a M d2):=o2
        have S2:Go.Aside (SWK encV 5 w0 blk off d2 w8):=s2
        clear p2 s2 o2 HCC hs1 hs2
        have hB:=HB.out
        have hsz:=HSZ.out
        have hs:=HS.out
        have hco:=HCO.out
        obtain ⟨hc1,hc2,hc3,hc4,hc5,hc6⟩:=hco
        by_cases hr:M < e∧e < b
        ·have T2:Hid (SortedIn lt M e d2∧SortedIn lt e b d2∧AheadOf PartV.tag M e b d2):=by
          have t:=TU.out
          exact ⟨SortedIn.perm_out t.2.2.2.1 P12.out (.inl (Nat.le_refl _)),SortedIn.perm_out t.2.2.2.2.1 P12.out (.inl (by omega)),AheadOf.perm t.2.2.2.2.2.1 P12.out (Nat.le_refl _)⟩
         have Hd2:Go.Aside (d2.size=d.size):=by have:=P12.out.1;have:=P01.out.1;show _=_;omega
         have h2:=Hd2.out
         have HCC:=Lib.hid (IH.out M e b d2 w8 (by omega) (by omega) S2.out hr.1 hr.2 (by omega) T2.out.1 T2.out.2.1 T2.out.2.2)
         rw [h2] at HCC
         have hr1:(M:Int) < (e:Int):=by omega
         have hr2:(e:Int) < (b:Int):=by omega
         clear h2 hr hB hsz hs hc1 hc2 hc3 hc4 hc5 hc6
         go_wp2_with fail
         refine HCC.out.mono ?_
         rintro e9 w9 ⟨rfl,d3,p3,s3,o3⟩
         have HFIN:Hid (∃ d',PermIn a b d d'∧SWK encV 5 w0 blk off d' w9∧SortedIn lt a b d'):=by
          have hc:=HCO.out
          have hB:=HB.out
          have z1:=P01.out.1
          have z2:=P12.out.1
          refine ⟨d3,permIn_trans _ _ _ _ _ (permIn_trans _ _ _ _ _ P01.out (perm_wide (Nat.le_refl _) (by omega) (by omega) (by omega) P12.out)) (perm_wide (by omega) (Nat.le_refl _) (by omega) (by omega) p3),s3,?_⟩
          exact halves (by omega) TU.out.2.2.2.2.2.2 P12.out O12.out p3 o3
         clear p3 s3 o3 HCC
         go_wp2
         go_end0
         exact ⟨rfl,HFIN.out⟩
        ·have hrz:¬((M:Int) < (e:Int)∧(e:Int) < (b:Int)):=by omega
         have HFIN:Hid (∃ d',PermIn a b d d'∧SWK encV 5 w0 blk off d' w8∧SortedIn lt a b d'):=by
          have z1:=P01.out.1
          have z2:=P12.out.1
          have t:=TU.out
          refine ⟨d2,permIn_trans _ _ _ _ _ P01.out (perm_wide (Nat.le_refl _) (by omega) (by omega) (by omega) P12.out),S2.out,?_⟩
          refine halves (by omega) t.2.2.2.2.2.2 P12.out O12.out (permIn_refl _ _ _) ?_
          by_cases hq:M < e
          ·obtain rfl:e=b:=by omega
           exact SortedIn.perm_out t.2.2.2.1 P12.out (.inl (Nat.le_refl _))
          ·obtain rfl:e=M:=by omega
           exact SortedIn.perm_out t.2.2.2.2.1 P12.out (.inl (Nat.le_refl _))
         by_cases hq:M < e
         ·have hq1:(M:Int) < (e:Int):=by omega
          have hq2:¬(e:Int) < (b:Int):=by omega
          clear hr hq hrz hB hsz hs hc1 hc2 hc3 hc4 hc5 hc6
          go_wp2
          go_end0
          exact ⟨rfl,HFIN.out⟩
         ·have hq1:¬(M:Int) < (e:Int):=by omega
          clear hr hq hrz hB hsz hs hc1 hc2 hc3 hc4 hc5 hc6
          go_wp2
          go_end0
          exact ⟨rfl,HFIN.out⟩
       ·have HDX:Go.Aside (d1.size=d.size):=P01.out.1
        have P12:Go.Aside (PermIn a M d1 d1):=permIn_refl _ _ _
        have O12:Go.Aside (SortedIn lt a M d1):=by
         have t:=TU.out
         have hc:=HCO.out
         by_cases hq:a < s
         ·obtain rfl:s=M:=by omega
          exact t.1
         ·obtain rfl:s=a:=by omega
          exact t.2.1
        have S2:Go.Aside (SWK encV 5 w0 blk off d1 w7):=S1.out
        by_cases hq:a < s
        ·have hs1:(a:Int) < (s:Int):=by omega
         have hs2:¬(s:Int) < (M:Int):=by omega
         clear hB hsz hs hc1 hc2 hc3 hc4 hc5 hc6 hr0 hq
         have hB:=HB.out
         have hsz:=HSZ.out
         have hs:=HS.out
         have hco:=HCO.out
         obtain ⟨hc1,hc2,hc3,hc4,hc5,hc6⟩:=hco
         by_cases hr:M < e∧e < b
         ·have T2:Hid (SortedIn lt M e d1∧SortedIn lt e b d1∧AheadOf PartV.tag M e b d1):=by
           have t:=TU.out
           exact ⟨SortedIn.perm_out t.2.2.2.1 P12.out (.inl (Nat.le_refl _)),SortedIn.perm_out t.2.2.2.2.1 P12.out (.inl (by omega)),AheadOf.perm t.2.2.2.2.2.1 P12.out (Nat.le_refl _)⟩
          have Hd1:Go.Aside (d1.size=d.size):=by have:=P12.out.1;have:=P01.out.1;show _=_;omega
          have h2:=Hd1.out
          have HCC:=Lib.hid (IH.out M e b d1 w7 (by omega) (by omega) S2.out hr.1 hr.2 (by omega) T2.out.1 T2.out.2.1 T2.out.2.2)
          rw [h2] at HCC
          have hr1:(M:Int) < (e:Int):=by omega
          have hr2:(e:Int) < (b:Int):=by omega
          clear h2 hr hB hsz hs hc1 hc2 hc3 hc4 hc5 hc6
          go_wp2_with fail
          refine HCC.out.mono ?_
          rintro e9 w9 ⟨rfl,d3,p3,s3,o3⟩
          have HFIN:Hid (∃ d',PermIn a b d d'∧SWK encV 5 w0 blk off d' w9∧SortedIn lt a b d'):=by
           have hc:=HCO.out
           have hB:=HB.out
           have z1:=P01.out.1
           have z2:=P12.out.1
           refine ⟨d3,permIn_trans _ _ _ _ _ (permIn_trans _ _ _ _ _ P01.out (perm_wide (Nat.le_refl _) (by omega) (by omega) (by omega) P12.out)) (perm_wide (by omega) (Nat.le_refl _) (by omega) (by omega) p3),s3,?_⟩
           exact halves (by omega) TU.out.2.2.2.2.2.2 P12.out O12.out p3 o3
          clear p3 s3 o3 HCC
          go_wp2
          go_end0
          exact ⟨rfl,HFIN.out⟩
         ·have hrz:¬((M:Int) < (e:Int)∧(e:Int) < (b:Int)):=by omega
          have HFIN:Hid (∃ d',PermIn a b d d'∧SWK encV 5 w0 blk off d' w7∧SortedIn lt a b d'):=by
           have z1:=P01.out.1
           have z2:=P12.out.1
           have t:=TU.out
           refine ⟨d1,permIn_trans _ _ _ _ _ P01.out (perm_wide (Nat.le_refl _) (by omega) (by omega) (by omega) P12.out),S2.out,?_⟩
           refine halves (by omega) t.2.2.2.2.2.2 P12.out O12.out (permIn_refl _ _ _) ?_
           by_cases hq:M < e
           ·obtain rfl:e=b:=by omega
            exact SortedIn.perm_out t.2.2.2.1 P12.out (.inl (Nat.le_refl _))
           ·obtain rfl:e=M:=by omega
            exact SortedIn.perm_out t.2.2.2.2.1 P12.out (.inl (Nat.le_refl _))
          by_cases hq:M < e
          ·have hq1:(M:Int) < (e:Int):=by omega
           have hq2:¬(e:Int) < (b:Int):=by omega
           clear hr hq hrz hB hsz hs hc1 hc2 hc3 hc4 hc5 hc6
           go_wp2
           go_end0
           exact ⟨rfl,HFIN.out⟩
          ·have hq1:¬(M:Int) < (e:Int):=by omega
           clear hr hq hrz hB hsz hs hc1 hc2 hc3 hc4 hc5 hc6
           go_wp2
           go_end0
           exact ⟨rfl,HFIN.out⟩
        ·have hs1:¬(a:Int) < (s:Int):=by omega
         clear hB hsz hs hc1 hc2 hc3 hc4 hc5 hc6 hr0 hq
         have hB:=HB.out
         have hsz:=HSZ.out
         have hs:=HS.out
         have hco:=HCO.out
         obtain ⟨hc1,hc2,hc3,hc4,hc5,hc6⟩:=hco
         by_cases hr:M < e∧e < b
         ·have T2:Hid (SortedIn lt M e d1∧SortedIn lt e b d1∧AheadOf PartV.tag M e b d1):=by
           have t:=TU.out
           exact ⟨SortedIn.perm_out t.2.2.2.1 P12.out (.inl (Nat.le_refl _)),SortedIn.perm_out t.2.2.2.2.1 P12.out (.inl (by omega)),AheadOf.perm t.2.2.2.2.2.1 P12.out (Nat.le_refl _)⟩
          have Hd1:Go.Aside (d1.size=d.size):=by have:=P12.out.1;have:=P01.out.1;show _=_;omega
          have h2:=Hd1.out
          have HCC:=Lib.hid (IH.out M e b d1 w7 (by omega) (by omega) S2.out hr.1 hr.2 (by omega) T2.out.1 T2.out.2.1 T2.out.2.2)
          rw [h2] at HCC
          have hr1:(M:Int) < (e:Int):=by omega
          have hr2:(e:Int) < (b:Int):=by omega
          clear h2 hr hB hsz hs hc1 hc2 hc3 hc4 hc5 hc6
          go_wp2_with fail
          refine HCC.out.mono ?_
          rintro e9 w9 ⟨rfl,d3,p3,s3,o3⟩
          have HFIN:Hid (∃ d',PermIn a b d d'∧SWK encV 5 w0 blk off d' w9∧SortedIn lt a b d'):=by
           have hc:=HCO.out
           have hB:=HB.out
           have z1:=P01.out.1
           have z2:=P12.out.1
           refine ⟨d3,permIn_trans _ _ _ _ _ (permIn_trans _ _ _ _ _ P01.out (perm_wide (Nat.le_refl _) (by omega) (by omega) (by omega) P12.out)) (perm_wide (by omega) (Nat.le_refl _) (by omega) (by omega) p3),s3,?_⟩
           exact halves (by omega) TU.out.2.2.2.2.2.2 P12.out O12.out p3 o3
          clear p3 s3 o3 HCC
          go_wp2
          go_end0
          exact ⟨rfl,HFIN.out⟩
         ·have hrz:¬((M:Int) < (e:Int)∧(e:Int) < (b:Int)):=by omega
          have HFIN:Hid (∃ d',PermIn a b d d'∧SWK encV 5 w0 blk off d' w7∧SortedIn lt a b d'):=by
           have z1:=P01.out.1
           have z2:=P12.out.1
           have t:=TU.out
           refine ⟨d1,permIn_trans _ _ _ _ _ P01.out (perm_wide (Nat.le_refl _) (by omega) (by omega) (by omega) P12.out),S2.out,?_⟩
           refine halves (by omega) t.2.2.2.2.2.2 P12.out O12.out (permIn_refl _ _ _) ?_
           by_cases hq:M < e
           ·obtain rfl:e=b:=by omega
            exact SortedIn.perm_out t.2.2.2.1 P12.out (.inl (Nat.le_refl _))
           ·obtain rfl:e=M:=by omega
            exact SortedIn.perm_out t.2.2.2.2.1 P12.out (.inl (Nat.le_refl _))
          by_cases hq:M < e
          ·have hq1:(M:Int) < (e:Int):=by omega
           have hq2:¬(e:Int) < (b:Int):=by omega
           clear hr hq hrz hB hsz hs hc1 hc2 hc3 hc4 hc5 hc6
           go_wp2
           go_end0
           exact ⟨rfl,HFIN.out⟩
          ·have hq1:¬(M:Int) < (e:Int):=by omega
           clear hr hq hrz hB hsz hs hc1 hc2 hc3 hc4 hc5 hc6
           go_wp2
           go_end0
           exact ⟨rfl,HFIN.out⟩
      ·have P01:Go.Aside (PermIn a b d d):=permIn_refl _ _ _
       have TU:=Lib.hid (Found.turned (tag:=PartV.tag) HSO.out FO.out HL.out HR.out HT.out (d1:=d) (by
        rw [←HME.out,←HCO.out.2.2.2.2.2.2.2]
        intro x
        by_cases hq:s < m
        ·obtain rfl:e=m:=by omega
         exact rotF_right s e _ x
        ·obtain rfl:s=m:=by omega
         exact rotF_left s e _ x))
       rw [←HME.out,←HCO.out.2.2.2.2.2.2.2] at TU
       by_cases hq:s < m
       ·have hr1:(s:Int) < (m:Int):=by omega
        have hr2:¬(m:Int) < (e:Int):=by omega
        clear hB hsz hs hc1 hc2 hc3 hc4 hc5 hc6 ee hro hq
        have hB:=HB.out
        have hsz:=HSZ.out
        have hs:=HS.out
        have hco:=HCO.out
        obtain ⟨hc1,hc2,hc3,hc4,hc5,hc6⟩:=hco
        by_cases hr0:a < s∧s < M
        ·have Hd:Go.Aside (d.size=d.size):=P01.out.1
         have h2:=Hd.out
         have HCC:=Lib.hid (IH.out a s M d wr (by omega) (by omega) S1.out hr0.1 hr0.2 (by omega) TU.out.1 TU.out.2.1 TU.out.2.2.1)
         rw [h2] at HCC
         have hs1:(a:Int) < (s:Int):=by omega
         have hs2:(s:Int) < (M:Int):=by omega
         have HDX:Go.Aside (d.size=d.size):=h2
         clear h2
         clear hB hsz hs hc1 hc2 hc3 hc4 hc5 hc6 hr0
         go_wp2_with fail
         refine HCC.out.mono ?_
         rintro e8 w8 ⟨rfl,d2,p2,s2,o2⟩
         have P12:Go.Aside (PermIn a M d d2):=p2
         have O12:Go.Aside (SortedIn lt a M d2):=o2
         have S2:Go.Aside (SWK encV 5 w0 blk off d2 w8):=s2
         clear p2 s2 o2 HCC hs1 hs2
         have hB:=HB.out
         have hsz:=HSZ.out
         have hs:=HS.out
         have hco:=HCO.out
         obtain ⟨hc1,hc2,hc3,hc4,hc5,hc6⟩:=hco
         by_cases hr:M < e∧e < b
         ·have T2:Hid (SortedIn lt M e d2∧SortedIn lt e b d2∧AheadOf PartV.tag M e b d2):=by
           have t:=TU.out
           exact ⟨SortedIn.perm_out t.2.2.2.1 P12.out (.inl (Nat.le_refl _)),SortedIn.perm_out t.2.2.2.2.1 P12.out (.inl (by omega)),AheadOf.perm t.2.2.2.2.2.1 P12.out (Nat.le_refl _)⟩
          have Hd2:Go.Aside (d2.size=d.size):=by have:=P12.out.1;have:=P01.out.1;show _=_;omega
          have h2:=Hd2.out
          have HCC:=Lib.hid (IH.out M e b d2 w8 (by omega) (by omega) S2.out hr.1 hr.2 (by omega) T2.out.1 T2.out.2.1 T2.out.2.2)
          rw [h2] at HCC
          have hr1:(M:Int) < (e:Int):=by omega
          have hr2:(e:Int) < (b:Int):=by omega
          clear h2 hr hB hsz hs hc1 hc2 hc3 hc4 hc5 hc6
          go_wp2_with fail
          refine HCC.out.mono ?_
          rintro e9 w9 ⟨rfl,d3,p3,s3,o3⟩
          have HFIN:Hid (∃ d',PermIn a b d d'∧SWK encV 5 w0 blk off d' w9∧SortedIn lt a b d'):=by
           have hc:=HCO.out
           have hB:=HB.out
           have z1:=P01.out.1
           have z2:=P12.out.1
           refine ⟨d3,permIn_trans _ _ _ _ _ (permIn_trans _ _ _ _ _ P01.out (perm_wide (Nat.le_refl _) (by omega) (by omega) (by omega) P12.out)) (perm_wide (by omega) (Nat.le_refl _) (by omega) (by omega) p3),s3,?_⟩
           exact halves (by omega) TU.out.2.2.2.2.2.2 P12.out O12.out p3 o3
          clear p3 s3 o3 HCC
          go_wp2
          go_end0
          exact ⟨rfl,HFIN.out⟩
         ·have hrz:¬((M:Int) < (e:Int)∧(e:Int) < (b:Int)):=by omega
          have HFIN:Hid (∃ d',PermIn a b d d'∧SWK encV 5 w0 blk off d' w8∧SortedIn lt a b d'):=by
           have z1:=P01.out.1
           have z2:=P12.out.1
           have t:=TU.out
           refine ⟨d2,permIn_trans _ _ _ _ _ P01.out (perm_wide (Nat.le_refl _) (by omega) (by omega) (by omega) P12.out),S2.out,?_⟩
           refine halves (by omega) t.2.2.2.2.2.2 P12.out O12.out (permIn_refl _ _ _) ?_
           by_cases hq:M < e
           ·obtain rfl:e=b:=by omega
            exact SortedIn.perm_out t.2.2.2.1 P12.out (.inl (Nat.le_refl _))
           ·obtain rfl:e=M:=by omega
            exact SortedIn.perm_out t.2.2.2.2.1 P12.out (.inl (Nat.le_refl _))
          by_cases hq:M < e
          ·have hq1:(M:Int) < (e:Int):=by omega
           have hq2:¬(e:Int) < (b:Int):=by omega
           clear hr hq hrz hB hsz hs hc1 hc2 hc3 hc4 hc5 hc6
           go_wp2
           go_end0
           exact ⟨rfl,HFIN.out⟩
          ·have hq1:¬(M:Int) < (e:Int):=by omega
           clear hr hq hrz hB hsz hs hc1 hc2 hc3 hc4 hc5 hc6
           go_wp2
           go_end0
           exact ⟨rfl,HFIN.out⟩
        ·have HDX:Go.Aside (d.size=d.size):=P01.out.1
         have P12:Go.Aside (PermIn a M d d):=permIn_refl _ _ _
         have O12:Go.Aside (SortedIn lt a M d):=by
          have t:=TU.out
          have hc:=HCO.out
          by_cases hq:a < s
          ·obtain rfl:s=M:=by omega
           exact t.1
          ·obtain rfl:s=a:=by omega
           exact t.2.1
         have S2:Go.Aside (SWK encV 5 w0 blk off d wr):=S1.out
         by_cases hq:a < s
         ·have hs1:(a:Int) < (s:Int):=by omega
          have hs2:¬(s:Int) < (M:Int):=by omega
          clear hB hsz hs hc1 hc2 hc3 hc4 hc5 hc6 hr0 hq
          have hB:=HB.out
          have hsz:=HSZ.out
          have hs:=HS.out
          have hco:=HCO.out
          obtain ⟨hc1,hc2,hc3,hc4,hc5,hc6⟩:=hco
          by_cases hr:M < e∧e < b
          ·have T2:Hid (SortedIn lt M e d∧SortedIn lt e b d∧AheadOf PartV.tag M e b d):=by
            have t:=TU.out
            exact ⟨SortedIn.perm_out t.2.2.2.1 P12.out (.inl (Nat.le_refl _)),SortedIn.perm_out t.2.2.2.2.1 P12.out (.inl (by omega)),AheadOf.perm t.2.2.2.2.2.1 P12.out (Nat.le_refl _)⟩
           have Hd:Go.Aside (d.size=d.size):=by have:=P12.out.1;have:=P01.out.1;show _=_;omega
           have h2:=Hd.out
           have HCC:=Lib.hid (IH.out M e b d wr (by omega) (by omega) S2.out hr.1 hr.2 (by omega) T2.out.1 T2.out.2.1 T2.out.2.2)
           rw [h2] at HCC
           have hr1:(M:Int) < (e:Int):=by omega
           have hr2:(e:Int) < (b:Int):=by omega
           clear h2 hr hB hsz hs hc1 hc2 hc3 hc4 hc5 hc6
           go_wp2_with fail
           refine HCC.out.mono ?_
           rintro e9 w9 ⟨rfl,d3,p3,s3,o3⟩
           have HFIN:Hid (∃ d',PermIn a b d d'∧SWK encV 5 w0 blk off d' w9∧SortedIn lt a b d'):=by
            have hc:=HCO.out
            have hB:=HB.out
            have z1:=P01.out.1
            have z2:=P12.out.1
            refine ⟨d3,permIn_trans _ _ _ _ _ (permIn_trans _ _ _ _ _ P01.out (perm_wide (Nat.le_refl _) (by omega) (by omega) (by omega) P12.out)) (perm_wide (by omega) (Nat.le_refl _) (by omega) (by omega) p3),s3,?_⟩
            exact halves (by omega) TU.out.2.2.2.2.2.2 P12.out O12.out p3 o3
           clear p3 s3 o3 HCC
           go_wp2
           go_end0
           exact ⟨rfl,HFIN.out⟩
          ·have hrz:¬((M:Int) < (e:Int)∧(e:Int) < (b:Int)):=by omega
           have HFIN:Hid (∃ d',PermIn a b d d'∧SWK encV 5 w0 blk off d' wr∧SortedIn lt a b d'):=by
            have z1:=P01.out.1
            have z2:=P12.out.1
            have t:=TU.out
            refine ⟨d,permIn_trans _ _ _ _ _ P01.out (perm_wide (Nat.le_refl _) (by omega) (by omega) (by omega) P12.out),S2.out,?_⟩
            refine halves (by omega) t.2.2.2.2.2.2 P12.out O12.out (permIn_refl _ _ _) ?_
            by_cases hq:M < e
            ·obtain rfl:e=b:=by omega
             exact SortedIn.perm_out t.2.2.2.1 P12.out (.inl (Nat.le_refl _))
            ·obtain rfl:e=M:=by omega
             exact SortedIn.perm_out t.2.2.2.2.1 P12.out (.inl (Nat.le_refl _))
           by_cases hq:M < e
           ·have hq1:(M:Int) < (e:Int):=by omega
            have hq2:¬(e:Int) < (b:Int):=by omega
            clear hr hq hrz hB hsz hs hc1 hc2 hc3 hc4 hc5 hc6
            go_wp2
            go_end0
            exact ⟨rfl,HFIN.out⟩
           ·have hq1:¬(M:Int) < (e:Int):=by omega
            clear hr hq hrz hB hsz hs hc1 hc2 hc3 hc4 hc5 hc6
            go_wp2
            go_end0
            exact ⟨rfl,HFIN.out⟩
         ·have hs1:¬(a:Int) < (s:Int):=by omega
          clear hB hsz hs hc1 hc2 hc3 hc4 hc5 hc6 hr0 hq
          have hB:=HB.out
          have hsz:=HSZ.out
          have hs:=HS.out
          have hco:=HCO.out
          obtain ⟨hc1,hc2,hc3,hc4,hc5,hc6⟩:=hco
          by_cases hr:M < e∧e < b
          ·have T2:Hid (SortedIn lt M e d∧SortedIn lt e b d∧AheadOf PartV.tag M e b d):=by
            have t:=TU.out
            exact ⟨SortedIn.perm_out t.2.2.2.1 P12.out (.inl (Nat.le_refl _)),SortedIn.perm_out t.2.2.2.2.1 P12.out (.inl (by omega)),AheadOf.perm t.2.2.2.2.2.1 P12.out (Nat.le_refl _)⟩
           have Hd:Go.Aside (d.size=d.size):=by have:=P12.out.1;have:=P01.out.1;show _=_;omega
           have h2:=Hd.out
           have HCC:=Lib.hid (IH.out M e b d wr (by omega) (by omega) S2.out hr.1 hr.2 (by omega) T2.out.1 T2.out.2.1 T2.out.2.2)
           rw [h2] at HCC
           have hr1:(M:Int) < (e:Int):=by omega
           have hr2:(e:Int) < (b:Int):=by omega
           clear h2 hr hB hsz hs hc1 hc2 hc3 hc4 hc5 hc6
           go_wp2_with fail
           refine HCC.out.mono ?_
           rintro e9 w9 ⟨rfl,d3,p3,s3,o3⟩
           have HFIN:Hid (∃ d',PermIn a b d d'∧SWK encV 5 w0 blk off d' w9∧SortedIn lt a b d'):=by
            have hc:=HCO.out
            have hB:=HB.out
            have z1:=P01.out.1
            have z2:=P12.out.1
            refine ⟨d3,permIn_trans _ _ _ _ _ (permIn_trans _ _ _ _ _ P01.out (perm_wide (Nat.le_refl _) (by omega) (by omega) (by omega) P12.out)) (perm_wide (by omega) (Nat.le_refl _) (by omega) (by omega) p3),s3,?_⟩
            exact halves (by omega) TU.out.2.2.2.2.2.2 P12.out O12.out p3 o3
           clear p3 s3 o3 HCC
           go_wp2
           go_end0
           exact ⟨rfl,HFIN.out⟩
          ·have hrz:¬((M:Int) < (e:Int)∧(e:Int) < (b:Int)):=by omega
           have HFIN:Hid (∃ d',PermIn a b d d'∧SWK encV 5 w0 blk off d' wr∧SortedIn lt a b d'):=by
            have z1:=P01.out.1
            have z2:=P12.out.1
            have t:=TU.out
            refine ⟨d,permIn_trans _ _ _ _ _ P01.out (perm_wide (Nat.le_refl _) (by omega) (by omega) (by omega) P12.out),S2.out,?_⟩
            refine halves (by omega) t.2.2.2.2.2.2 P12.out O12.out (permIn_refl _ _ _) ?_
            by_cases hq:M < e
            ·obtain rfl:e=b:=by omega
             exact SortedIn.perm_out t.2.2.2.1 P12.out (.inl (Nat.le_refl _))
            ·obtain rfl:e=M:=by omega
             exact SortedIn.perm_out t.2.2.2.2.1 P12.out (.inl (Nat.le_refl _))
           by_cases hq:M < e
           ·have hq1:(M:Int) < (e:Int):=by omega
            have hq2:¬(e:Int) < (b:Int):=by omega
            clear hr hq hrz hB hsz hs hc1 hc2 hc3 hc4 hc5 hc6
            go_wp2
            go_end0
            exact ⟨rfl,HFIN.out⟩
           ·have hq1:¬(M:Int) < (e:Int):=by omega
            clear hr hq hrz hB hsz hs hc1 hc2 hc3 hc4 hc5 hc6
            go_wp2
            go_end0
            exact ⟨rfl,HFIN.out⟩
       ·have hr1:¬(s:Int) < (m:Int):=by omega
        clear hB hsz hs hc1 hc2 hc3 hc4 hc5 hc6 ee hro hq
        have hB:=HB.out
        have hsz:=HSZ.out
        have hs:=HS.out
        have hco:=HCO.out
        obtain ⟨hc1,hc2,hc3,hc4,hc5,hc6⟩:=hco
        by_cases hr0:a < s∧s < M
        ·have Hd:Go.Aside (d.size=d.size):=P01.out.1
         have h2:=Hd.out
         have HCC:=Lib.hid (IH.out a s M d wr (by omega) (by omega) S1.out hr0.1 hr0.2 (by omega) TU.out.1 TU.out.2.1 TU.out.2.2.1)
         rw [h2] at HCC
         have hs1:(a:Int) < (s:Int):=by omega
         have hs2:(s:Int) < (M:Int):=by omega
         have HDX:Go.Aside (d.size=d.size):=h2
         clear h2
         clear hB hsz hs hc1 hc2 hc3 hc4 hc5 hc6 hr0
         go_wp2_with fail
         refine HCC.out.mono ?_
         rintro e8 w8 ⟨rfl,d2,p2,s2,o2⟩
         have P12:Go.Aside (PermIn a M d d2):=p2
         have O12:Go.Aside (SortedIn lt a M d2):=o2
         have S2:Go.Aside (SWK encV 5 w0 blk off d2 w8):=s2
         clear p2 s2 o2 HCC hs1 hs2
         have hB:=HB.out
         have hsz:=HSZ.out
         have hs:=HS.out
         have hco:=HCO.out
         obtain ⟨hc1,hc2,hc3,hc4,hc5,hc6⟩:=hco
         by_cases hr:M < e∧e < b
         ·have T2:Hid (SortedIn lt M e d2∧SortedIn lt e b d2∧AheadOf PartV.tag M e b d2):=by
           have t:=TU.out
           exact ⟨SortedIn.perm_out t.2.2.2.1 P12.out (.inl (Nat.le_refl _)),SortedIn.perm_out t.2.2.2.2.1 P12.out (.inl (by omega)),AheadOf.perm t.2.2.2.2.2.1 P12.out (Nat.le_refl _)⟩
          have Hd2:Go.Aside (d2.size=d.size):=by have:=P12.out.1;have:=P01.out.1;show _=_;omega
          have h2:=Hd2.out
          have HCC:=Lib.hid (IH.out M e b d2 w8 (by omega) (by omega) S2.out hr.1 hr.2 (by omega) T2.out.1 T2.out.2.1 T2.out.2.2)
          rw [h2] at HCC
          have hr1:(M:Int) < (e:Int):=by omega
          have hr2:(e:Int) < (b:Int):=by omega
          clear h2 hr hB hsz hs hc1 hc2 hc3 hc4 hc5 hc6
          go_wp2_with fail
          refine HCC.out.mono ?_
          rintro e9 w9 ⟨rfl,d3,p3,s3,o3⟩
          have HFIN:Hid (∃ d',PermIn a b d d'∧SWK encV 5 w0 blk off d' w9∧SortedIn lt a b d'):=by
           have hc:=HCO.out
           have hB:=HB.out
           have z1:=P01.out.1
           have z2:=P12.out.1
           refine ⟨d3,permIn_trans _ _ _ _ _ (permIn_trans _ _ _ _ _ P01.out (perm_wide (Nat.le_refl _) (by omega) (by omega) (by omega) P12.out)) (perm_wide (by omega) (Nat.le_refl _) (by omega) (by omega) p3),s3,?_⟩
           exact halves (by omega) TU.out.2.2.2.2.2.2 P12.out O12.out p3 o3
          clear p3 s3 o3 HCC
          go_wp2
          go_end0
          exact ⟨rfl,HFIN.out⟩
         ·have hrz:¬((M:Int) < (e:Int)∧(e:Int) < (b:Int)):=by omega
          have HFIN:Hid (∃ d',PermIn a b d d'∧SWK encV 5 w0 blk off d' w8∧SortedIn lt a b d'):=by
           have z1:=P01.out.1
           have z2:=P12.out.1
           have t:=TU.out
           refine ⟨d2,permIn_trans _ _ _ _ _ P01.out (perm_wide (Nat.le_refl _) (by omega) (by omega) (by omega) P12.out),S2.out,?_⟩
           refine halves (by omega) t.2.2.2.2.2.2 P12.out O12.out (permIn_refl _ _ _) ?_
           by_cases hq:M < e
           ·obtain rfl:e=b:=by omega
            exact SortedIn.perm_out t.2.2.2.1 P12.out (.inl (Nat.le_refl _))
           ·obtain rfl:e=M:=by omega
            exact SortedIn.perm_out t.2.2.2.2.1 P12.out (.inl (Nat.le_refl _))
          by_cases hq:M < e
          ·have hq1:(M:Int) < (e:Int):=by omega
           have hq2:¬(e:Int) < (b:Int):=by omega
           clear hr hq hrz hB hsz hs hc1 hc2 hc3 hc4 hc5 hc6
           go_wp2
           go_end0
           exact ⟨rfl,HFIN.out⟩
          ·have hq1:¬(M:Int) < (e:Int):=by omega
           clear hr hq hrz hB hsz hs hc1 hc2 hc3 hc4 hc5 hc6
           go_wp2
           go_end0
           exact ⟨rfl,HFIN.out⟩
        ·have HDX:Go.Aside (d.size=d.size):=P01.out.1
         have P12:Go.Aside (PermIn a M d d):=permIn_refl _ _ _
         have O12:Go.Aside (SortedIn lt a M d):=by
          have t:=TU.out
          have hc:=HCO.out
          by_cases hq:a < s
          ·obtain rfl:s=M:=by omega
           exact t.1
          ·obtain rfl:s=a:=by omega
           exact t.2.1
         have S2:Go.Aside (SWK encV 5 w0 blk off d wr):=S1.out
         by_cases hq:a < s
         ·have hs1:(a:Int) < (s:Int):=by omega
          have hs2:¬(s:Int) < (M:Int):=by omega
          clear hB hsz hs hc1 hc2 hc3 hc4 hc5 hc6 hr0 hq
          have hB:=HB.out
          have hsz:=HSZ.out
          have hs:=HS.out
          have hco:=HCO.out
          obtain ⟨hc1,hc2,hc3,hc4,hc5,hc6⟩:=hco
          by_cases hr:M < e∧e < b
          ·have T2:Hid (SortedIn lt M e d∧SortedIn lt e b d∧AheadOf PartV.tag M e b d):=by
            have t:=TU.out
            exact ⟨SortedIn.perm_out t.2.2.2.1 P12.out (.inl (Nat.le_refl _)),SortedIn.perm_out t.2.2.2.2.1 P12.out (.inl (by omega)),AheadOf.perm t.2.2.2.2.2.1 P12.out (Nat.le_refl _)⟩
           have Hd:Go.Aside (d.size=d.size):=by have:=P12.out.1;have:=P01.out.1;show _=_;omega
           have h2:=Hd.out
           have HCC:=Lib.hid (IH.out M e b d wr (by omega) (by omega) S2.out hr.1 hr.2 (by omega) T2.out.1 T2.out.2.1 T2.out.2.2)
           rw [h2] at HCC
           have hr1:(M:Int) < (e:Int):=by omega
           have hr2:(e:Int) < (b:Int):=by omega
           clear h2 hr hB hsz hs hc1 hc2 hc3 hc4 hc5 hc6
           go_wp2_with fail
           refine HCC.out.mono ?_
           rintro e9 w9 ⟨rfl,d3,p3,s3,o3⟩
           have HFIN:Hid (∃ d',PermIn a b d d'∧SWK encV 5 w0 blk off d' w9∧SortedIn lt a b d'):=by
            have hc:=HCO.out
            have hB:=HB.out
            have z1:=P01.out.1
            have z2:=P12.out.1
            refine ⟨d3,permIn_trans _ _ _ _ _ (permIn_trans _ _ _ _ _ P01.out (perm_wide (Nat.le_refl _) (by omega) (by omega) (by omega) P12.out)) (perm_wide (by omega) (Nat.le_refl _) (by omega) (by omega) p3),s3,?_⟩
            exact halves (by omega) TU.out.2.2.2.2.2.2 P12.out O12.out p3 o3
           clear p3 s3 o3 HCC
           go_wp2
           go_end0
           exact ⟨rfl,HFIN.out⟩
          ·have hrz:¬((M:Int) < (e:Int)∧(e:Int) < (b:Int)):=by omega
           have HFIN:Hid (∃ d',PermIn a b d d'∧SWK encV 5 w0 blk off d' wr∧SortedIn lt a b d'):=by
            have z1:=P01.out.1
            have z2:=P12.out.1
            have t:=TU.out
            refine ⟨d,permIn_trans _ _ _ _ _ P01.out (perm_wide (Nat.le_refl _) (by omega) (by omega) (by omega) P12.out),S2.out,?_⟩
            refine halves (by omega) t.2.2.2.2.2.2 P12.out O12.out (permIn_refl _ _ _) ?_
            by_cases hq:M < e
            ·obtain rfl:e=b:=by omega
             exact SortedIn.perm_out t.2.2.2.1 P12.out (.inl (Nat.le_refl _))
            ·obtain rfl:e=M:=by omega
             exact SortedIn.perm_out t.2.2.2.2.1 P12.out (.inl (Nat.le_refl _))
           by_cases hq:M < e
           ·have hq1:(M:Int) < (e:Int):=by omega
            have hq2:¬(e:Int) < (b:Int):=by omega
            clear hr hq hrz hB hsz hs hc1 hc2 hc3 hc4 hc5 hc6
            go_wp2
            go_end0
            exact ⟨rfl,HFIN.out⟩
           ·have hq1:¬(M:Int) < (e:Int):=by omega
            clear hr hq hrz hB hsz hs hc1 hc2 hc3 hc4 hc5 hc6
            go_wp2
            go_end0
            exact ⟨rfl,HFIN.out⟩
         ·have hs1:¬(a:Int) < (s:Int):=by omega
          clear hB hsz hs hc1 hc2 hc3 hc4 hc5 hc6 hr0 hq
          have hB:=HB.out
          have hsz:=HSZ.out
          have hs:=HS.out
          have hco:=HCO.out
          obtain ⟨hc1,hc2,hc3,hc4,hc5,hc6⟩:=hco
          by_cases hr:M < e∧e < b
          ·have T2:Hid (SortedIn lt M e d∧SortedIn lt e b d∧AheadOf PartV.tag M e b d):=by
            have t:=TU.out
            exact ⟨SortedIn.perm_out t.2.2.2.1 P12.out (.inl (Nat.le_refl _)),SortedIn.perm_out t.2.2.2.2.1 P12.out (.inl (by omega)),AheadOf.perm t.2.2.2.2.2.1 P12.out (Nat.le_refl _)⟩
           have Hd:Go.Aside (d.size=d.size):=by have:=P12.out.1;have:=P01.out.1;show _=_;omega
           have h2:=Hd.out
           have HCC:=Lib.hid (IH.out M e b d wr (by omega) (by omega) S2.out hr.1 hr.2 (by omega) T2.out.1 T2.out.2.1 T2.out.2.2)
           rw [h2] at HCC
           have hr1:(M:Int) < (e:Int):=by omega
           have hr2:(e:Int) < (b:Int):=by omega
           clear h2 hr hB hsz hs hc1 hc2 hc3 hc4 hc5 hc6
           go_wp2_with fail
           refine HCC.out.mono ?_
           rintro e9 w9 ⟨rfl,d3,p3,s3,o3⟩
           have HFIN:Hid (∃ d',PermIn a b d d'∧SWK encV 5 w0 blk off d' w9∧SortedIn lt a b d'):=by
            have hc:=HCO.out
            have hB:=HB.out
            have z1:=P01.out.1
            have z2:=P12.out.1
            refine ⟨d3,permIn_trans _ _ _ _ _ (permIn_trans _ _ _ _ _ P01.out (perm_wide (Nat.le_refl _) (by omega) (by omega) (by omega) P12.out)) (perm_wide (by omega) (Nat.le_refl _) (by omega) (by omega) p3),s3,?_⟩
            exact halves (by omega) TU.out.2.2.2.2.2.2 P12.out O12.out p3 o3
           clear p3 s3 o3 HCC
           go_wp2
           go_end0
           exact ⟨rfl,HFIN.out⟩
          ·have hrz:¬((M:Int) < (e:Int)∧(e:Int) < (b:Int)):=by omega
           have HFIN:Hid (∃ d',PermIn a b d d'∧SWK encV 5 w0 blk off d' wr∧SortedIn lt a b d'):=by
            have z1:=P01.out.1
            have z2:=P12.out.1
            have t:=TU.out
            refine ⟨d,permIn_trans _ _ _ _ _ P01.out (perm_wide (Nat.le_refl _) (by omega) (by omega) (by omega) P12.out),S2.out,?_⟩
            refine halves (by omega) t.2.2.2.2.2.2 P12.out O12.out (permIn_refl _ _ _) ?_
            by_cases hq:M < e
            ·obtain rfl:e=b:=by omega
             exact SortedIn.perm_out t.2.2.2.1 P12.out (.inl (Nat.le_refl _))
            ·obtain rfl:e=M:=by omega
             exact SortedIn.perm_out t.2.2.2.2.1 P12.out (.inl (Nat.le_refl _))
           by_cases hq:M < e
           ·have hq1:(M:Int) < (e:Int):=by omega
            have hq2:¬(e:Int) < (b:Int):=by omega
            clear hr hq hrz hB hsz hs hc1 hc2 hc3 hc4 hc5 hc6
            go_wp2
            go_end0
            exact ⟨rfl,HFIN.out⟩
           ·have hq1:¬(M:Int) < (e:Int):=by omega
            clear hr hq hrz hB hsz hs hc1 hc2 hc3 hc4 hc5 hc6
            go_wp2
            go_end0
            exact ⟨rfl,HFIN.out⟩
theorem sym_merge_calls (R:RowK encV 5 w0 blk off d0)(eg:∀ args w,(callFunc g args).run Try.prog w=.ok (.enter g args) w)(hC:CmpLays Try.prog g #[] encV 5 cf blk off d0.size w0)(hS:SWO lt)(hc:∀ x y,PartV.tag y < PartV.tag x→decide (cf x y < 0)=lt x y)
  (hsz:d0.size < 4611686018427387904):∀ n,SymAt lt g cap w0 blk off d0 n
 | 0=>fun a m b d w hn _ _ h1 h2=>absurd hn (by omega)
 | n+1=>sym_merge_step R eg hC hS hc hsz n (sym_merge_calls R eg hC hS hc hsz n)
end
end Go.Proofs.Ytnkhkkdmjabhnaa
