/- slices.swapRangeCmpFunc, rotateCmpFunc at parts of five cells. -/
import Derived.Test.YtnkhkkdmjabhnaaGZShelf
import Derived.Test.YtnkhkkdmjabhnaaGZStablePure
import Derived.Test.YtnkhkkdmjabhnaaGZTermBox
import Derived.Shelf.SlSortCmp.KitK
import Derived.Deep.LoopGhost
namespace Go.Proofs.Ytnkhkkdmjabhnaa
open Go Go.RowKit Go.Lib Go.Sort
structure PartV where
 tag:Nat
 t:Trm
 A:Option Addr
 n:Nat
 p:Nat
 pr:ByteArray
instance:Inhabited PartV:=⟨⟨0,.mk 0 0 ⟨#[]⟩ [],none,0,0,⟨#[]⟩⟩⟩
def encV (x:PartV):List Value:=[.int .u8 x.t.op,.int .i64 x.t.col,.string x.t.cell,.slice x.A x.n x.p,.string x.pr]
theorem encV_len (x:PartV):(encV x).length=5:=rfl
theorem encV_one (x:PartV):∀ v∈encV x,v.oneCell'=true:=by
 intro v hv
 simp only [encV,List.mem_cons,List.not_mem_nil,or_false] at hv
 rcases hv with rfl|rfl|rfl|rfl|rfl <;> rfl
def At5 (w:World)(b o:Nat)(x:PartV):Prop:=w.cell? ⟨b,o,none⟩=some (.int .u8 x.t.op)∧w.cell? ⟨b,o+1,none⟩=some (.int .i64 x.t.col)∧w.cell? ⟨b,o+2,none⟩=some (.string x.t.cell)∧w.cell? ⟨b,o+3,none⟩=some (.slice x.A x.n x.p)∧w.cell? ⟨b,o+4,none⟩=some (.string x.pr)
def Free5 (w:World)(b o:Nat):Prop:=w.frozen? ⟨b,o,none⟩=false∧w.frozen? ⟨b,o+1,none⟩=false∧w.frozen? ⟨b,o+2,none⟩=false∧w.frozen? ⟨b,o+3,none⟩=false∧w.frozen? ⟨b,o+4,none⟩=false
section
variable {blk off cap:Nat}{d0 dk:Array PartV}{w0 W:World}
theorem SWK.five (S:SWK encV 5 w0 blk off dk W)(R:RowK encV 5 w0 blk off d0)(hs:dk.size=d0.size){i:Nat}(hi:i < dk.size):At5 W blk (off+i*5) dk[i]! ∧ Free5 W blk (off+i*5):=by
 have hH:=S.holds R.hblk R.hH hs
 have g:∀ j,j < 5→W.cell? ⟨blk,off+i*5+j,none⟩=some (encV dk[i]!)[j]! ∧ W.frozen? ⟨blk,off+i*5+j,none⟩=false:=fun j hj=>by
  have h:=hH (i*5+j) (by rw [size_flatK];omega)
  rw [get_flatK _ _ _ _ (by omega),show (i*5+j) / 5=i by omega,show (i*5+j) % 5=j by omega,←Nat.add_assoc] at h
  exact h
 exact ⟨⟨(g 0 (by omega)).1,(g 1 (by omega)).1,(g 2 (by omega)).1,(g 3 (by omega)).1,(g 4 (by omega)).1⟩,⟨(g 0 (by omega)).2,(g 1 (by omega)).2,(g 2 (by omega)).2,(g 3 (by omega)).2,(g 4 (by omega)).2⟩⟩
end
section
variable {blk off cap:Nat}{d0:Array PartV}{w0:World}
set_option maxHeartbeats 4000000 in
set_option maxRecDepth 100000 in
theorem swap_range_calls (R:RowK encV 5 w0 blk off d0)(g:Nat)(cb:Array Value){a b n:Nat}{d:Array PartV}{w:World}(hs:d.size=d0.size)(S:SWK encV 5 w0 blk off d w)(hab:a+n≤b)(hb:b+n≤d.size)(hsz:d.size < 4611686018427387904) :
  Calls Try.prog 73 #[.slice (some ⟨blk,off,none⟩) d.size cap,.int .i64 a,.int .i64 b,.int .i64 n,.func (.func g) #[] cb] w fun e w' =>
   e=.returned (.tuple #[])∧∃ d',d'.size=d.size∧SWK encV 5 w0 blk off d' w'∧∀ x,d'[x]! = swF a b n (fun x=>d[x]!) x:=by
 have mixed:Try.prog.follows Departure.mixedOrders=true:=by kernel_rfl
 have HS:Go.Aside (d.size=d0.size):=hs
 have S0:Go.Aside (SWK encV 5 w0 blk off d w):=S
 clear hs
 go_enter Try.func73,Try.ntmps73
 go_wp2
 go_loopg [10] n (fun kx s wr=>∃ (i:Nat) (dk:Array PartV),s=.int .i64 i∧i≤n∧n-i≤kx∧Go.Aside (dk.size=d.size)∧Go.Aside (SWK encV 5 w0 blk off dk wr)∧Go.Aside (∀ x,dk[x]! = swF a b i (fun x=>d[x]!) x))
 case atStart=>exact ⟨0,d,rfl,Nat.zero_le _,Nat.le_refl _,rfl,S0,fun x=>(swF_zero a b _ x).symm⟩
 case round =>
  clear S0
  obtain ⟨i,dk,rfl,hin,hkx,HDS,S1,F1⟩:=hrel
  have hs:=HS.out
  have hds:=HDS.out
  by_cases hlt:i < n
  ·have hltz:(i:Int) < (n:Int):=by omega
   have ea:((a:Int)+(i:Int)).toNat=a+i:=by omega
   have eb:((b:Int)+(i:Int)).toNat=b+i:=by omega
   have pa:(0:Int)≤(a:Int)+(i:Int):=by omega
   have pb:(0:Int)≤(b:Int)+(i:Int):=by omega
   have ba:(a:Int)+(i:Int) < (d.size:Int):=by omega
   have bb:(b:Int)+(i:Int) < (d.size:Int):=by omega
   have ra:IntKind.i64.wrap ((a:Int)+(i:Int))=(a:Int)+(i:Int):=by rw [IntKind.wrap_i64];omega
   have rb:IntKind.i64.wrap ((b:Int)+(i:Int))=(b:Int)+(i:Int):=by rw [IntKind.wrap_i64];omega
   obtain ⟨xI,hxI⟩:∃ x,dk[a+i]! = x:=⟨_,rfl⟩
   obtain ⟨xJ,hxJ⟩:∃ x,dk[b+i]! = x:=⟨_,rfl⟩
   have S2:Go.Aside (SWK encV 5 w0 blk off (swp dk (a+i) (b+i)) ((wr.setCells blk (off+(a+i)*5) (encV dk[b+i]!)).setCells blk (off+(b+i)*5) (encV dk[a+i]!)).drew):=(S1.out.swap R.hk R.hblk (a+i) (b+i) (by omega) (by omega)).drew
   have fI:=SWK.five (i:=a+i) S1.out R (by omega) (by omega)
   have fJ:=SWK.five (i:=b+i) S1.out R (by omega) (by omega)
   rw [hxI] at fI
   rw [hxJ] at fJ
   rw [hxI,hxJ] at S2
   have hne:∀ u v,u < 5→v < 5→¬off+(b+i)*5+u=off+(a+i)*5+v:=fun u v _ _=>by omega
   obtain ⟨oI,hoI⟩:∃ o,off+(a+i)*5=o:=⟨_,rfl⟩
   obtain ⟨oJ,hoJ⟩:∃ o,off+(b+i)*5=o:=⟨_,rfl⟩
   rw [hoI] at fI
   rw [hoJ] at fJ
   rw [hoI,hoJ] at S2 hne
   simp only [encV,World.setCells] at S2
   have e0:∀ x,wr.drew.cell? x=wr.cell? x:=fun _=>rfl
   obtain ⟨⟨zi0,zi1,zi2,zi3,zi4⟩,⟨zk0,zk1,zk2,zk3,zk4⟩⟩:=fI
   obtain ⟨⟨zj0,zj1,zj2,zj3,zj4⟩,⟨zl0,zl1,zl2,zl3,zl4⟩⟩:=fJ
   have di0:=(e0 _).trans zi0
   have dj0:=(e0 _).trans zj0
   have di1:=(e0 _).trans zi1
   have dj1:=(e0 _).trans zj1
   have di2:=(e0 _).trans zi2
   have dj2:=(e0 _).trans zj2
   have di3:=(e0 _).trans zi3
   have dj3:=(e0 _).trans zj3
   have di4:=(e0 _).trans zi4
   have dj4:=(e0 _).trans zj4
   have n00:¬oJ=oI:=hne 0 0 (by decide) (by decide)
   have n01:¬oJ=oI+1:=hne 0 1 (by decide) (by decide)
   have n02:¬oJ=oI+2:=hne 0 2 (by decide) (by decide)
   have n03:¬oJ=oI+3:=hne 0 3 (by decide) (by decide)
   have n04:¬oJ=oI+4:=hne 0 4 (by decide) (by decide)
   have n10:¬oJ+1=oI:=hne 1 0 (by decide) (by decide)
   have n11:¬oJ+1=oI+1:=hne 1 1 (by decide) (by decide)
   have n12:¬oJ+1=oI+2:=hne 1 2 (by decide) (by decide)
   have n13:¬oJ+1=oI+3:=hne 1 3 (by decide) (by decide)
   have n14:¬oJ+1=oI+4:=hne 1 4 (by decide) (by decide)
   have n20:¬oJ+2=oI:=hne 2 0 (by decide) (by decide)
   have n21:¬oJ+2=oI+1:=hne 2 1 (by decide) (by decide)
   have n22:¬oJ+2=oI+2:=hne 2 2 (by decide) (by decide)
   have n23:¬oJ+2=oI+3:=hne 2 3 (by decide) (by decide)
   have n24:¬oJ+2=oI+4:=hne 2 4 (by decide) (by decide)
   have n30:¬oJ+3=oI:=hne 3 0 (by decide) (by decide)
   have n31:¬oJ+3=oI+1:=hne 3 1 (by decide) (by decide)
   have n32:¬oJ+3=oI+2:=hne 3 2 (by decide) (by decide)
   have n33:¬oJ+3=oI+3:=hne 3 3 (by decide) (by decide)
   have n34:¬oJ+3=oI+4:=hne 3 4 (by decide) (by decide)
   have n40:¬oJ+4=oI:=hne 4 0 (by decide) (by decide)
   have n41:¬oJ+4=oI+1:=hne 4 1 (by decide) (by decide)
   have n42:¬oJ+4=oI+2:=hne 4 2 (by decide) (by decide)
   have n43:¬oJ+4=oI+3:=hne 4 3 (by decide) (by decide)
   have n44:¬oJ+4=oI+4:=hne 4 4 (by decide) (by decide)
   clear S1 hne e0 hs hds
   go_wp2_with fail
   go_big_region_o
   go_wp2
   go_roundg (n-(i+1))
   case measure=>omega
   case rel =>
    have hds:=HDS.out
    exact ⟨i+1,swp dk (a+i) (b+i),by go_num,by omega,Nat.le_refl _,by rw [size_swp];exact HDS.out,S2,swF_step F1.out (by omega) (by omega)⟩
  ·obtain rfl:i=n:=by omega
   go_wp2
   go_end0
   exact ⟨rfl,dk,HDS.out,S1.out,F1.out⟩
theorem rot_perm {a m b:Nat}{d d':Array PartV}(hs:d'.size=d.size)(ham:a≤m)(hmb:m≤b)(hb:b≤d.size)(hd:∀ x,d'[x]! = rotF a m b (fun x=>d[x]!) x):PermIn a b d d':=by
 refine ⟨hs,fun i hi=>?_,?_⟩
 ·rw [hd];unfold rotF
  rw [if_neg (by omega),if_neg (by omega)]
 ·rw [extract_toList d' a b (by omega),extract_toList d a b hb]
  have e1:List.range' a (b-a)=List.range' a (b-m)++List.range' (a+(b-m)) (m-a):=by
   rw [List.range'_append_1];congr 1;omega
  have e2:List.range' a (b-a)=List.range' a (m-a)++List.range' m (b-m):=by
   have:=@List.range'_append_1 a (m-a) (b-m)
   rw [show a+(m-a)=m by omega,show (m-a)+(b-m)=b-a by omega] at this
   exact this.symm
  have g1:(List.range' a (b-m)).map (fun i=>d'[i]!)=(List.range' m (b-m)).map (fun i=>d[i]!):=by
   apply List.ext_getElem
   ·simp
   ·intro k h1 h2
    simp only [List.length_map,List.length_range'] at h1
    simp only [List.getElem_map,List.getElem_range',Nat.one_mul]
    rw [hd];unfold rotF
    rw [if_pos (by omega)]
    congr 1;omega
  have g2:(List.range' (a+(b-m)) (m-a)).map (fun i=>d'[i]!)=(List.range' a (m-a)).map (fun i=>d[i]!):=by
   apply List.ext_getElem
   ·simp
   ·intro k h1 h2
    simp only [List.length_map,List.length_range'] at h1
    simp only [List.getElem_map,List.getElem_range',Nat.one_mul]
    rw [hd];unfold rotF
    rw [if_neg (by omega),if_pos (by omega)]
    congr 1;omega
  conv=>lhs;rw [e1]
  rw [e2,List.map_append,List.map_append,g1,g2]
  exact List.perm_append_comm
set_option maxHeartbeats 4000000 in
set_option maxRecDepth 100000 in
theorem rotate_calls (R:RowK encV 5 w0 blk off d0)(g:Nat)(cb:Array Value){a m b:Nat}{d:Array PartV}{w:World}(hs:d.size=d0.size)(S:SWK encV 5 w0 blk off d w)(ham:a < m)(hmb:m < b)(hb:b≤d.size)(hsz:d.size < 4611686018427387904) :
  Calls Try.prog 66 #[.slice (some ⟨blk,off,none⟩) d.size cap,.int .i64 a,.int .i64 m,.int .i64 b,.func (.func g) #[] cb] w fun e w' =>
   e=.returned (.tuple #[])∧∃ d',d'.size=d.size∧SWK encV 5 w0 blk off d' w'∧∀ x,d'[x]! = rotF a m b (fun x=>d[x]!) x:=by
 have HS:Go.Aside (d.size=d0.size):=hs
 have S0:Go.Aside (SWK encV 5 w0 blk off d w):=S
 have HSZ:Go.Aside (d.size < 4611686018427387904):=hsz
 obtain ⟨i0,hi0⟩:∃ i:Nat,(m:Int)-(a:Int)=(i:Int):=⟨m-a,by omega⟩
 obtain ⟨j0,hj0⟩:∃ j:Nat,(b:Int)-(m:Int)=(j:Int):=⟨b-m,by omega⟩
 have ri:IntKind.i64.wrap (i0:Int)=(i0:Int):=by rw [IntKind.wrap_i64];omega
 have rj:IntKind.i64.wrap (j0:Int)=(j0:Int):=by rw [IntKind.wrap_i64];omega
 have HIJ:Go.Aside (i0=m-a∧j0=b-m):=by constructor <;> omega
 have HB:Go.Aside (a < m∧m < b∧b≤d.size):=⟨ham,hmb,hb⟩
 clear hs S ham hmb hb hsz
 go_enter Try.func66,Try.ntmps66
 go_wp2
 clear hi0 hj0 ri rj
 go_loopg [10,11] (b-a) (fun kx s t wr=>∃ (i j:Nat) (dk:Array PartV),s=.int .i64 i∧t=.int .i64 j∧Go.Aside (0 < i∧0 < j∧i≤m-a∧j≤b-m∧i+j≤kx)∧Go.Aside (dk.size=d.size)∧Go.Aside (SWK encV 5 w0 blk off dk wr) ∧
  Go.Aside (∀ x,rotF (m-i) m (m+j) (fun x=>dk[x]!) x=rotF a m b (fun x=>d[x]!) x))
 case atStart =>
  obtain ⟨rfl,rfl⟩:=HIJ.out
  have h:=HB.out
  refine ⟨m-a,b-m,d,rfl,rfl,(show _∧_ from by omega),rfl,S0,fun x=>?_⟩
  rw [show m-(m-a)=a by omega,show m+(b-m)=b by omega]
 case round =>
  clear S0 HIJ
  obtain ⟨i,j,dk,rfl,rfl,HI,HDS,S1,F1⟩:=hrel
  have hI:=HI.out
  have hH:=HB.out
  have hsz:=HSZ.out
  have hds:=HDS.out
  have hs:=HS.out
  obtain ⟨mi,hmi⟩:∃ i':Nat,(m:Int)-(i:Int)=(i':Int):=⟨m-i,by omega⟩
  have emi:mi=m-i:=by omega
  have rmi:IntKind.i64.wrap (mi:Int)=(mi:Int):=by rw [IntKind.wrap_i64];omega
  by_cases hlt:i=j
  ·subst hlt
   have HC:=Lib.hid (swap_range_calls (cap:=cap) R g cb (a:=mi) (b:=m) (n:=i) (d:=dk) (w:=wr) (by omega) S1.out (by omega) (by omega) (by omega))
   rw [hds] at HC
   clear hI hH hsz hds hs
   have HE:Go.Aside (mi=m-i):=emi
   clear emi S1
   go_wp2_with fail
   refine HC.out.mono ?_
   rintro e w2 ⟨rfl,d',hs',S',F'⟩
   have HR:Hid (∃ d',d'.size=d.size∧SWK encV 5 w0 blk off d' w2∧∀ x,d'[x]! = rotF a m b (fun x=>d[x]!) x):=by
    refine ⟨d',hs',S',fun x=>?_⟩
    rw [←F1.out,F',HE.out]
    have hI:=HI.out
    exact rot_same _ (by omega) x
   clear hs' S' F' HC
   go_wp2
   go_end0
   exact ⟨rfl,HR.out⟩
  ·by_cases hgt:j < i
   ·have hne:((i:Int)==(j:Int))=false:=by simp;omega
    have hne2:¬(i:Int)=(j:Int):=by omega
    have hgz:(j:Int) < (i:Int):=by omega
    obtain ⟨ij,hij⟩:∃ i':Nat,(i:Int)-(j:Int)=(i':Int):=⟨i-j,by omega⟩
    have eij:ij=i-j:=by omega
    have rij:IntKind.i64.wrap (ij:Int)=(ij:Int):=by rw [IntKind.wrap_i64];omega
    have HC:=Lib.hid (swap_range_calls (cap:=cap) R g cb (a:=mi) (b:=m) (n:=j) (d:=dk) (w:=wr) (by omega) S1.out (by omega) (by omega) (by omega))
    rw [hds] at HC
    have HE:Go.Aside (mi=m-i∧ij=i-j∧j < i):=⟨emi,eij,hgt⟩
    clear hI hH hsz hds hs emi eij S1 hgt hlt
    go_wp2_with fail
    refine HC.out.mono ?_
    rintro e w2 ⟨rfl,d',hs',S',F'⟩
    have S2:Go.Aside (SWK encV 5 w0 blk off d' w2):=S'
    have F2:Go.Aside (∀ x,rotF (m-ij) m (m+j) (fun x=>d'[x]!) x=rotF a m b (fun x=>d[x]!) x):=fun x=>by
     have hI:=HI.out
     have hE:=HE.out
     rw [←F1.out,hE.2.1,←rot_left (fun x=>dk[x]!) (by omega) hE.2.2 (by omega) x]
     have e:(fun x=>d'[x]!)=swF mi m j (fun x=>dk[x]!):=funext F'
     rw [e,hE.1]
    have HDS2:Go.Aside (d'.size=d.size):=hs'
    clear hs' S' F' HC
    go_wp2
    go_roundg (ij+j)
    case measure=>have hI:=HI.out;have hE:=HE.out;omega
    case rel =>
     have hI:=HI.out
     have hE:=HE.out
     exact ⟨ij,j,d',rfl,rfl,(show _∧_ from by omega),HDS2,S2,F2⟩
   ·have hne:((i:Int)==(j:Int))=false:=by simp;omega
    have hne2:¬(i:Int)=(j:Int):=by omega
    have hgz:¬(j:Int) < (i:Int):=by omega
    obtain ⟨ji,hji⟩:∃ i':Nat,(j:Int)-(i:Int)=(i':Int):=⟨j-i,by omega⟩
    obtain ⟨mj,hmj⟩:∃ i':Nat,(m:Int)+(j:Int)=(i':Int):=⟨m+j,by omega⟩
    obtain ⟨mji,hmji⟩:∃ i':Nat,(mj:Int)-(i:Int)=(i':Int):=⟨m+j-i,by omega⟩
    have rji:IntKind.i64.wrap (ji:Int)=(ji:Int):=by rw [IntKind.wrap_i64];omega
    have rmj:IntKind.i64.wrap (mj:Int)=(mj:Int):=by rw [IntKind.wrap_i64];omega
    have rmji:IntKind.i64.wrap (mji:Int)=(mji:Int):=by rw [IntKind.wrap_i64];omega
    have HC:=Lib.hid (swap_range_calls (cap:=cap) R g cb (a:=mi) (b:=mji) (n:=i) (d:=dk) (w:=wr) (by omega) S1.out (by omega) (by omega) (by omega))
    rw [hds] at HC
    have HE:Go.Aside (mi=m-i∧ji=j-i∧mji=m+j-i∧i < j):=⟨emi,by omega,by omega,by omega⟩
    clear hI hH hsz hds hs emi S1 hgt hlt
    go_wp2_with fail
    refine HC.out.mono ?_
    rintro e w2 ⟨rfl,d',hs',S',F'⟩
    have S2:Go.Aside (SWK encV 5 w0 blk off d' w2):=S'
    have F2:Go.Aside (∀ x,rotF (m-i) m (m+ji) (fun x=>d'[x]!) x=rotF a m b (fun x=>d[x]!) x):=fun x=>by
     have hI:=HI.out
     have hE:=HE.out
     rw [←F1.out,hE.2.1,←rot_right (fun x=>dk[x]!) (by omega) hE.2.2.2 (by omega) x]
     have e:(fun x=>d'[x]!)=swF mi mji i (fun x=>dk[x]!):=funext F'
     rw [e,hE.1,hE.2.2.1]
    have HDS2:Go.Aside (d'.size=d.size):=hs'
    clear hs' S' F' HC
    go_wp2
    go_roundg (i+ji)
    case measure=>have hI:=HI.out;have hE:=HE.out;omega
    case rel =>
     have hI:=HI.out
     have hE:=HE.out
     exact ⟨i,ji,d',rfl,rfl,(show _∧_ from by omega),HDS2,S2,F2⟩
end
end Go.Proofs.Ytnkhkkdmjabhnaa
