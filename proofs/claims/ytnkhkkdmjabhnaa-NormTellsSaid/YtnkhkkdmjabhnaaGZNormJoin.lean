/- Layer 17's own Join, and the answer's. -/
import Derived.Test.YtnkhkkdmjabhnaaGZNormPartsOwn
namespace Go.Proofs.Ytnkhkkdmjabhnaa
open Go Go.RowKit
def bx (b:Nat):Value:=.slice (some ⟨b,0,none⟩) 1 1
def JQ (B0 B3:Nat)(u:Value):Prop:=RowOff (bx B0) u∧RowOff (bx B3) u
theorem JQ.fresh {B0 B3 B:Nat}{u:Value}(h:Fresh B u)(h0:B0 < B)(h3:B3 < B):JQ B0 B3 u :=
 ⟨RowOff.of_fresh h fun k hk=>by simp only [bx,Value.ownBlock,Option.some.injEq] at hk;omega,RowOff.of_fresh h fun k hk=>by simp only [bx,Value.ownBlock,Option.some.injEq] at hk;omega⟩
theorem KidsQ.oldJ {w:World}{u:Value}{l:List Trm}{B0 B3:Nat}(h:KidsIn w u l)(h0:w.heap.size≤B0)(h3:w.heap.size≤B3):KidsQ (JQ B0 B3) w u l :=
 KidsQ.old h fun u n xs hs _=>by
  have hb:∀ b,w.heap.size≤b→RowOff (bx b) u:=fun b hb A m c k e hm hk e2=>by
   obtain ⟨A',c',e',hat⟩:=hs.at_
   rw [e] at e'
   injection e' with e1 e3 e4
   obtain ⟨g,o,ea,hg,_⟩:=hat (by omega)
   rw [e,e1,ea] at hk
   simp only [Value.ownBlock,Option.some.injEq] at hk
   simp only [bx,Value.ownBlock,Option.some.injEq] at e2
   omega
  exact ⟨hb _ h0,hb _ h3⟩
def JAt (B0 B3:Nat)(w:World)(t:Trm):Prop:=∃ kA kc,TrmBox w B3 t.op t.col t.cell (.slice kA t.kids.length kc)∧okT t∧KidsQ (JQ B0 B3) w (.slice kA t.kids.length kc) t.kids
theorem JAt.kept {B0 B3:Nat}{w w':World}{t:Trm}(h:JAt B0 B3 w t)(hb:Below w.heap.size w w'):JAt B0 B3 w' t:=by
 obtain ⟨A,c,h1,h2,h3⟩:=h
 exact ⟨A,c,h1.later hb,h2,h3.kept hb⟩
def AndP (B0 B3:Nat)(a b:Trm)(v:Value)(w:World):Prop:=∃ N,v=.slice (some ⟨N,0,none⟩) 2 2∧KidsQ (JQ B0 B3) w v [a,b]
theorem AndP.kept {B0 B3:Nat}{a b:Trm}(v:Value)(w w':World)(hb:Below w.heap.size w w')(h:AndP B0 B3 a b v w):AndP B0 B3 a b v w':=by
 obtain ⟨N,e,h1⟩:=h
 exact ⟨N,e,h1.kept hb⟩
def AndT17 (B0 B3:Nat)(a b:Trm)(v:Value)(w:World):Prop:=∃ N,v=.agg #[.int .u8 38,.int .i64 0,.string ⟨#[]⟩,.slice (some ⟨N,0,none⟩) 2 2]∧KidsQ (JQ B0 B3) w (.slice (some ⟨N,0,none⟩) 2 2) [a,b]
theorem AndT17.kept {B0 B3:Nat}{a b:Trm}(v:Value)(w w':World)(hb:Below w.heap.size w w')(h:AndT17 B0 B3 a b v w):AndT17 B0 B3 a b v w':=by
 obtain ⟨N,e,h1⟩:=h
 exact ⟨N,e,h1.kept hb⟩
theorem and_made {B0 B3:Nat}{w:World}(T:TypeId){a b:Trm}{oa ca ob cb:Int}{xa xb:ByteArray}{Aa Ab:Option Addr}{na pa nb pb:Nat}(ha:TermQ (JQ B0 B3) w (.agg #[.int .u8 oa,.int .i64 ca,.string xa,.slice Aa na pa]) a)(hb:TermQ (JQ B0 B3) w (.agg #[.int .u8 ob,.int .i64 cb,.string xb,.slice Ab nb pb]) b)(h0:B0 < w.heap.size)(h3:B3 < w.heap.size) :
  KidsQ (JQ B0 B3) (w.alloc (.cells #[.int .u8 oa,.int .i64 ca,.string xa,.slice Aa na pa,.int .u8 ob,.int .i64 cb,.string xb,.slice Ab nb pb] T)) (.slice (some ⟨w.heap.size,0,none⟩) 2 2) [a,b]:=by
 obtain ⟨ka,ea,hoa,hka⟩:=ha
 obtain ⟨kb,eb,hob,hkb⟩:=hb
 simp only [trmA,Value.agg.injEq,Array.mk.injEq,List.cons.injEq,Value.int.injEq,Value.string.injEq,true_and,and_true] at ea eb
 obtain ⟨rfl,rfl,rfl,rfl⟩:=ea
 obtain ⟨rfl,rfl,rfl,rfl⟩:=eb
 exact kids_litQ T [(.slice Aa na pa,a),(.slice Ab nb pb,b)] (fun t ht=>by
  rcases List.mem_cons.1 ht with rfl|ht
  ·exact ⟨hoa,hka⟩
  ·rw [List.mem_singleton.1 ht];exact ⟨hob,hkb⟩) (by show 2≤1000;decide) rfl rfl rfl _ rfl (JQ.fresh (B:=w.heap.size) (fun k hk=>by simp only [Value.ownBlock,Option.some.injEq] at hk;omega) h0 h3)
theorem and_ok (a b:Trm):okT (andT a b):=⟨by show (0:Int)≤38;decide,by show (38:Int)≤255;decide,by show (-9223372036854775808:Int)≤0;decide,by show (0:Int)≤9223372036854775807;decide⟩
theorem JAt.store {B0 B3 N:Nat}{w:World}{t a b:Trm}(h:JAt B0 B3 w t)(hk:KidsQ (JQ B0 B3) w (.slice (some ⟨N,0,none⟩) 2 2) [a,b]) :
  JAt B0 B3 ((((w.setCell ⟨B3,0,none⟩ (.int .u8 38)).setCell ⟨B3,1,none⟩ (.int .i64 0)).setCell ⟨B3,2,none⟩ (.string ⟨#[]⟩)).setCell ⟨B3,3,none⟩ (.slice (some ⟨N,0,none⟩) 2 2)) (andT a b) ∧
  w.grownBy ((((w.setCell ⟨B3,0,none⟩ (.int .u8 38)).setCell ⟨B3,1,none⟩ (.int .i64 0)).setCell ⟨B3,2,none⟩ (.string ⟨#[]⟩)).setCell ⟨B3,3,none⟩ (.slice (some ⟨N,0,none⟩) 2 2)) (some B3):=by
 obtain ⟨A,c,h1,h2,h3⟩:=h
 have hg:=setCells_grown B3 [.int .u8 38,.int .i64 0,.string ⟨#[]⟩,.slice (some ⟨N,0,none⟩) 2 2] 0 w
 simp only [World.setCells,Nat.zero_add,Nat.reduceAdd] at hg
 exact ⟨⟨some ⟨N,0,none⟩,2,h1.putAll 38 0 ⟨#[]⟩ (.slice (some ⟨N,0,none⟩) 2 2),and_ok a b,hk.off (v:=bx B3) (fun u hu=>hu.2) hg⟩,hg⟩
theorem kids_back {w:World}{A:Option Addr}{n cap:Nat}{l:List Trm}(h:KidsIn w (.slice A n cap) l)(h0:0 < l.length):KidsIn w (.slice (if cap=1 then A else A.map (·.add 4)) (n-1) (cap-1)) (l.drop 1):=by
 obtain ⟨tv,rfl,_,h2,h3⟩:=h.parts
 obtain ⟨k1,k2,A',c',e,hr,h4⟩:=h2
 simp only [Value.slice.injEq] at e
 obtain ⟨rfl,rfl,rfl⟩:=e
 rw [List.length_map] at *
 refine KidsQ.of (tv.drop 1) (by rw [List.map_drop]) trivial ?_ fun t ht=>h3 t (List.mem_of_mem_drop ht)
 have hl:(((tv.map Prod.snd).drop 1)).length=tv.length-1:=by rw [List.length_drop,List.length_map]
 rw [hl]
 refine ⟨by rw [trmsV_length,List.length_drop],by omega,_,cap-1,rfl,by omega,fun h5=>?_⟩
 obtain ⟨b,o,rfl,hb,hc⟩:=h4 h0
 refine ⟨b,o+4,by rw [if_neg (by omega)];rfl,hb,fun j u hu=>?_⟩
 have hd:trmsV (tv.drop 1)=(trmsV tv).drop 4:=by
  cases tv with
  | nil=>rfl
  | cons t tv=>rfl
 rw [hd,List.getElem?_drop] at hu
 rw [Nat.add_assoc]
 exact hc _ u hu
theorem terms_back (W:World)(A:Option Addr)(n cap:Nat)(hk:1≤n):(Instr.sliceAt 22 (.slice A n cap) (some (.int .i64 1)) none none).run Try.prog W=.ok (.slice (if cap=1 then A else A.map (·.add 4)) (n-1) (cap-1)) W:=by
 have hu:Try.prog.underlying 22=some (.slice (Try.prog.elem 22)):=by kernel_rfl
 have he:Try.prog.elem 22=24:=by kernel_rfl
 rw [run_sliceAt_slice _ _ _ _ _ _ hu,run_slice_l _ _ _ _ _ hu _ _ (by omega) (by omega),he,Try.sizeOf24]
 simp [Result.andThen,sliced]
theorem join_take {l:List Trm}{i:Nat}(h:i+1 < l.length):joinT (l.take (i+1+1))=andT (joinT (l.take (i+1))) l[i+1]:=by
 cases l with
 | nil=>simp at h
 | cons x l =>
  have h':i < l.length:=by simpa using h
  rw [List.take_succ_cons,List.take_succ_cons,List.take_add_one,List.getElem?_eq_getElem h',List.getElem_cons_succ]
  exact join_snoc x (l.take i) l[i]
theorem join_one {l:List Trm}(h:0 < l.length):joinT (l.take 1)=l[0]:=by
 cases l with
 | nil=>simp at h
 | cons x l=>simp [joinT]
set_option maxHeartbeats 8000000 in
set_option maxRecDepth 100000 in
theorem norm_join_calls {w:World}{v:Value}{l:List Trm}(h:KidsIn w v l)(hs:∀ x∈l,Sm17 x)(hl:l.length≤1000000):Calls Try.prog 16 #[v] w (TermEnd w (joinT l)):=by
 obtain ⟨A,cap,rfl,-⟩:=kids_at h
 obtain ⟨n,hn⟩:∃ n,l.length=n:=⟨_,rfl⟩
 have HN:Hid (l.length=n):=hn
 rw [hn] at h hl ⊢
 have HK:=Lib.hid h
 have HL:Hid (n≤1000000):=hl
 clear h hl hn
 have ha1:=Below.alloc (.refl w.heap.size w) (Nat.le_refl _) (.cells #[.int .u8 0,.int .i64 0,.string ⟨#[]⟩,.slice none 0 0] 24)
 have hr:=trmbox_lit w 24 0 0 ⟨#[]⟩ (.slice none 0 0)
 have HR:=Lib.hid hr
 have HB:=Lib.hid ha1
 have HS1:Hid ((w.alloc (.cells #[.int .u8 0,.int .i64 0,.string ⟨#[]⟩,.slice none 0 0] 24)).heap.size=w.heap.size+1):=by show _=_;simp
 clear ha1 hr
 unfold TermEnd TermEndQ
 by_cases h0:n=0
 ·subst h0
  have HE:Hid (l=[]):=List.eq_nil_of_length_eq_zero HN.out
  go_enter Try.func16,Try.ntmps16
  go_wp2_with fail
  generalize World.alloc w _=w1 at *
  refine (true_gives w1).stepB (w0:=w1) (B:=w1.heap.size) (.refl _ _) (Nat.le_refl _) ?_
  intro w2 _ _ hq
  have hr2:=HR.out.later hq
  obtain ⟨c0,c1,c2,c3,-⟩:=hr2.cells
  obtain ⟨f0,f1,f2,f3⟩:=hr2.free
  have HP:=Lib.hid (hr2.putAll 107 0 yesC (.slice none 0 0))
  have hb2:=HB.out.trans (hq.mono HB.out.size)
  have HBE:=Lib.hid ((((hb2.setCell (p:=⟨w.heap.size,0,none⟩) (Nat.le_refl _) (.int .u8 107)).setCell (p:=⟨w.heap.size,1,none⟩) (Nat.le_refl _) (.int .i64 0)).setCell (p:=⟨w.heap.size,2,none⟩) (Nat.le_refl _) (.string yesC)).setCell (p:=⟨w.heap.size,3,none⟩) (Nat.le_refl _) (.slice none 0 0))
  clear hr2 hb2 hq HR HB HS1
  go_wp2
  clear c0 c1 c2 c3 f0 f1 f2 f3
  obtain ⟨g0,g1,g2,g3,_⟩:=HP.out.cells
  refine ⟨rfl,trmA (.slice none 0 0,trueT),?_,_,rfl,?_,HBE.out⟩
  ·simp [results,Try.results16,go_sem,trmA,trueT,Trm.op,Trm.col,Trm.cell,g0,g1,g2,g3]
  ·rw [HE.out]
   exact ⟨_,rfl,true_ok.ok,KidsIn.nil_ _ _ _⟩
 ·have hn0:0 < l.length:=by rw [HN.out];omega
  have nz:¬(n:Int)=0:=by omega
  have nb:((n:Int)==0)=false:=by simp;omega
  obtain ⟨b0,o0,A3,p3,ea,hb0,hc0,ht0⟩:=kid_cells HK.out hn0
  subst ea
  simp only [Nat.zero_mul,Nat.add_zero] at hc0
  have HJ1:=Lib.hid (join_one hn0)
  have HC0:=Lib.hid hc0
  have n0:(0:Int) < (n:Int):=by omega
  have HN0:Hid (0 < n):=by show 0 < n;omega
  obtain ⟨k0,k1,k2,k3⟩:=HC0.out.kept hb0 HB.out
  have HCP:=Lib.hid (own_copied_calls l[0] (hs _ (List.getElem_mem hn0)) _ _ (ht0.kept HB.out))
  have HS:=Lib.hid hs
  have HBK:=Lib.hid (kids_back HK.out hn0)
  have hbk:∀ W,(Instr.sliceAt 22 (.slice (some ⟨b0,o0,none⟩) n cap) (some (.int .i64 1)) none none).run Try.prog W=.ok (.slice (if cap=1 then (some ⟨b0,o0,none⟩:Option Addr) else (some ⟨b0,o0,none⟩:Option Addr).map (·.add 4)) (n-1) (cap-1)) W:=fun W=>terms_back W _ n cap (by omega)
  generalize (if cap=1 then (some ⟨b0,o0,none⟩:Option Addr) else (some ⟨b0,o0,none⟩:Option Addr).map (·.add 4))=A2 at *
  obtain ⟨nm,hnm⟩:∃ nm,n-1=nm:=⟨_,rfl⟩
  rw [hnm] at hbk HBK
  have HNM:Hid (n=nm+1):=by show _=_;omega
  generalize cap-1=cm at *
  clear hc0 ht0 hs hnm h0
  generalize l[0].kids.length=n3 at *
  generalize l[0].op=o3 at *
  generalize l[0].col=c3 at *
  generalize l[0].cell=x3 at *
  go_enter Try.func16,Try.ntmps16
  go_wp2_with fail
  generalize World.alloc w _=w1 at *
  clear k0 k1 k2 k3
  refine HCP.out.mono ?_
  rintro e w2 h2
  obtain ⟨A7,c7,rfl,ht7,hq7⟩:=TermEndQ.out h2
  rw [←HJ1.out] at ht7 ⊢
  have ha3:=Below.alloc (.refl w2.heap.size w2) (Nat.le_refl _) (.cells #[.int .u8 (joinT (l.take 1)).op,.int .i64 (joinT (l.take 1)).col,.string (joinT (l.take 1)).cell,.slice A7 (joinT (l.take 1)).kids.length c7] 24)
  have hb3:=trmbox_lit w2 24 (joinT (l.take 1)).op (joinT (l.take 1)).col (joinT (l.take 1)).cell (.slice A7 (joinT (l.take 1)).kids.length c7)
  have HSZ2:Hid (w.heap.size < w2.heap.size):=by have:=HS1.out;have:=hq7.size;show _ < _;omega
  have HJ3:Hid (JAt w.heap.size w2.heap.size (w2.alloc (.cells #[.int .u8 (joinT (l.take 1)).op,.int .i64 (joinT (l.take 1)).col,.string (joinT (l.take 1)).cell,.slice A7 (joinT (l.take 1)).kids.length c7] 24)) (joinT (l.take 1))):=by
   obtain ⟨kv,ekv,hok,hk7⟩:=ht7
   have e7:kv=.slice A7 (joinT (l.take 1)).kids.length c7:=by
    unfold trmA at ekv
    simp only [Value.agg.injEq,Array.mk.injEq,List.cons.injEq,and_true,true_and] at ekv
    exact ekv.symm
   subst e7
   refine ⟨A7,c7,hb3,hok,?_⟩
   have hko:=KidsQ.old (Q':=JQ w.heap.size w2.heap.size) hk7 fun u m xs hs hu=>by
    refine ⟨RowOff.of_fresh hu fun k hk=>by simp only [bx,Value.ownBlock,Option.some.injEq] at hk;have:=HS1.out;omega,fun A m' c' k e hm hk e2=>?_⟩
    obtain ⟨A',c'',e',hat⟩:=hs.at_
    rw [e] at e'
    injection e' with e1 e3 e4
    obtain ⟨g,o,ea,hg,_⟩:=hat (by omega)
    rw [e,e1,ea] at hk
    simp only [Value.ownBlock,Option.some.injEq] at hk
    simp only [bx,Value.ownBlock,Option.some.injEq] at e2
    omega
   exact hko.kept ha3
  have HR3:=Lib.hid ((HR.out.later hq7).later ha3)
  have hbw:=HB.out.trans (hq7.mono HB.out.size)
  have HB3:=Lib.hid (hbw.trans (ha3.mono hbw.size))
  have HSZ3:Hid (w2.heap.size < (w2.alloc (.cells #[.int .u8 (joinT (l.take 1)).op,.int .i64 (joinT (l.take 1)).col,.string (joinT (l.take 1)).cell,.slice A7 (joinT (l.take 1)).kids.length c7] 24)).heap.size):=by show _ < _;simp
  clear h2 ht7 hq7 ha3 hb3 hbw HCP HR HB HJ1 HC0
  obtain ⟨jt,hjt⟩:∃ jt,Hid (jt=joinT (l.take 1)):=⟨_,rfl⟩
  rw [←hjt.out] at HJ3 HR3 HB3 HSZ3 ⊢
  go_wp2
  generalize World.alloc w2 _=w3 at *
  have HNE:Hid (w.heap.size < w2.heap.size):=HSZ2.out
  generalize w2.heap.size=B3 at *
  rw [hjt.out] at HJ3
  clear hjt
  go_loopw [17] (fun ix wr=>∃ i:Nat,ix=.int .i64 i∧i≤nm∧Hid (JAt w.heap.size B3 wr (joinT (l.take (i+1))))∧Hid (TrmBox wr w.heap.size 0 0 ⟨#[]⟩ (.slice none 0 0))∧Hid (Below w.heap.size w wr)∧Hid (B3 < wr.heap.size)) (fun ix _=>nm-(intOf ix).toNat)
  case atStart=>exact ⟨0,rfl,Nat.zero_le _,HJ3,HR3,HB3,HSZ3⟩
  case round =>
   clear HJ3 HR3 HB3 HSZ3
   obtain ⟨i,rfl,hi,HJ,HR,HB,HSZ⟩:=hrel
   have hnl:=HL.out
   have hnm:=HNM.out
   by_cases hlt:i < nm
   ·have hid:i < (l.drop 1).length:=by rw [List.length_drop,HN.out];omega
    have hil:i+1 < l.length:=by rw [HN.out];omega
    obtain ⟨b1,o1,A1,p1,ea,hb1,hc1,ht1⟩:=kid_cells HBK.out hid
    subst ea
    have hgi:(l.drop 1)[i]=l[i+1]:=by rw [List.getElem_drop];congr 1;omega
    rw [hgi] at hc1 ht1
    have HJT:=Lib.hid (join_take hil)
    have HCP:=Lib.hid fun W (hW:Below w.heap.size w W)=>own_copied_calls l[i+1] (HS.out _ (List.getElem_mem hil)) W _ (ht1.kept hW)
    obtain ⟨k0,k1,k2,k3⟩:=hc1.kept hb1 HB.out
    have i1:(i:Int) < (nm:Int):=by omega
    have q1:IntKind.i64.wrap ((i:Int)+1)=(i:Int)+1:=by rw [IntKind.wrap_i64];omega
    have HLT:Hid (i < nm):=hlt
    clear hc1 ht1 hgi hid hnl hnm
    generalize l[i+1]=y at *
    clear hil
    have ha4:=Below.alloc (.refl wr.heap.size wr) (Nat.le_refl _) (.cells #[.int .u8 y.op,.int .i64 y.col,.string y.cell,.slice A1 y.kids.length p1] 24)
    have hb4:=trmbox_lit wr 24 y.op y.col y.cell (.slice A1 y.kids.length p1)
    have HB4:=Lib.hid hb4
    have HJ4:=Lib.hid (HJ.out.kept ha4)
    have HR4:=Lib.hid (HR.out.later ha4)
    have HBW:=Lib.hid (HB.out.trans (ha4.mono HB.out.size))
    have HSZ4:Hid (B3 < (wr.alloc (.cells #[.int .u8 y.op,.int .i64 y.col,.string y.cell,.slice A1 y.kids.length p1] 24)).heap.size∧w.heap.size < (wr.alloc (.cells #[.int .u8 y.op,.int .i64 y.col,.string y.cell,.slice A1 y.kids.length p1] 24)).heap.size):=⟨Nat.lt_of_lt_of_le HSZ.out ha4.size,HR4.out.cells.2.2.2.2⟩
    clear ha4 hb4 HJ HR HB HSZ hlt
    generalize y.kids.length=n4 at *
    generalize y.op=o4 at *
    generalize y.col=c4 at *
    generalize y.cell=x4 at *
    go_wp2_with fail
    clear k0 k1 k2 k3
    generalize World.alloc wr _=w4 at *
    generalize wr.heap.size=B5 at HB4 ⊢
    obtain ⟨kA,kc,hbj,hoj,hkj⟩:=HJ4.out
    have HBJ:=Lib.hid hbj
    have HTJ:Hid (TermQ (JQ w.heap.size B3) w4 (.agg #[.int .u8 (joinT (l.take (i+1))).op,.int .i64 (joinT (l.take (i+1))).col,.string (joinT (l.take (i+1))).cell,.slice kA (joinT (l.take (i+1))).kids.length kc]) (joinT (l.take (i+1)))):=⟨_,rfl,hoj,hkj⟩
    clear hbj hoj hkj
    generalize joinT (l.take (i+1))=ja at *
    unfold TermEndQ at HCP
    refine wp_region_calm (offC w4) (fun k=>k==5) (fun _=>false) anyE true (by kernel_rfl) (by kernel_rfl) (by kernel_rfl) (by kernel_rfl) (by intro m hm;revert hm;simp;try omega) (offC_stable _) (offC_start _) ?_
    refine calm_fixA rfl rfl ?_
    apply Exists.intro
    refine ⟨fun a wz hc hk hf K hK=>?_,?_⟩
    ·have hb:Below w4.heap.size w4 wz:=hc rfl
     have h3:=hk 3 (by kernel_rfl)
     clear hk hf hc
     obtain ⟨z0,z1,z2,z3,-⟩:=(HBJ.out.later hb).cells
     go_simp
     exact hK _ _ (Below.refl _ _) rfl
    refine calm_fixA rfl rfl ?_
    apply Exists.intro
    refine ⟨fun a wz hc hk hf K hK=>?_,?_⟩
    ·have hb:Below w4.heap.size w4 wz:=hc rfl
     have h5:=hk 5 (by kernel_rfl)
     clear hk hf hc
     obtain ⟨x0,x1,x2,x3,-⟩:=(HB4.out.later hb).cells
     go_simp
     exact hK _ _ (Below.refl _ _) rfl
    refine calm_varA (fun u wx=>TermQ (Fresh w4.heap.size) wx u y) rfl rfl (fun _ _ _ h k=>TermQ.kept k h) (fun a wz hc hk hf K hK=>?_) ?_
    ·have hb:Below w4.heap.size w4 wz:=hc rfl
     have h22:=held_isV hf 0 rfl (by kernel_rfl)
     clear hk hf hc
     go_simp
     refine Calls.mono (HCP.out wz (HBW.out.trans (hb.mono HBW.out.size))) ?_
     rintro e w1 ⟨u,rfl,h1,hq⟩
     exact hK _ _ hq (fun _=>h1.mono fun _ hu=>hu.mono hb.size)
    refine calm_varA (AndP w.heap.size B3 ja y) rfl rfl AndP.kept (fun a wz hc hk hf K hK=>?_) ?_
    ·have hb:Below w4.heap.size w4 wz:=hc rfl
     have h21:=held_isV hf 2 rfl (by kernel_rfl)
     obtain ⟨v23,h23,S23⟩:=held_at hf 0 rfl (by kernel_rfl)
     clear hk hf hc
     obtain ⟨kv,rfl,hoy,hky⟩:=S23 rfl
     obtain ⟨yA,yp,rfl,-⟩:=kids_at hky
     have HM:=Lib.hid (and_made 24 (HTJ.out.kept hb) (b:=y) (Ab:=yA) (nb:=y.kids.length) (pb:=yp) ⟨_,rfl,hoy,hky.mono fun u hu=>JQ.fresh hu HSZ4.out.2 HSZ4.out.1⟩ (Nat.lt_of_lt_of_le HSZ4.out.2 hb.size) (Nat.lt_of_lt_of_le HSZ4.out.1 hb.size))
     clear hoy hky S23
     dsimp only [trmA] at h23
     go_simp
     exact hK _ _ (Below.alloc (.refl _ _) (Nat.le_refl _) _) (fun _=>⟨_,rfl,HM.out⟩)
    refine calm_varA (AndT17 w.heap.size B3 ja y) rfl rfl AndT17.kept (fun a wz hc hk hf K hK=>?_) ?_
    ·have hb:Below w4.heap.size w4 wz:=hc rfl
     obtain ⟨v24,h24,S24⟩:=held_at hf 0 rfl (by kernel_rfl)
     clear hk hf hc
     obtain ⟨N,rfl,hkn⟩:=S24 rfl
     go_simp
     exact hK _ _ (Below.refl _ _) (fun _=>⟨N,rfl,hkn⟩)
    refine calm_storeA (fun wx=>JAt w.heap.size B3 wx (andT ja y)∧TrmBox wx w.heap.size 0 0 ⟨#[]⟩ (.slice none 0 0)∧Below w.heap.size w wx∧B3 < wx.heap.size) rfl (fun m h=>by simpa using h) (fun a wz hb hk hf K hK=>?_) ?_
    ·have h3:=hk 3 (by kernel_rfl)
     obtain ⟨v25,h25,S25⟩:=held_at hf 0 rfl (by kernel_rfl)
     clear hk hf
     obtain ⟨N,rfl,hkn⟩:=S25 rfl
     have hst:=(HJ4.out.kept hb).store hkn
     obtain ⟨y0,y1,y2,y3,hlb⟩:=(HBJ.out.later hb).cells
     obtain ⟨f0,f1,f2,f3⟩:=(HBJ.out.later hb).free
     have hrr:=(HR4.out.later hb).other hst.2 (by have:=HNE.out;simp only [ne_eq,Option.some.injEq];omega)
     have hbb:=HBW.out.trans (hb.mono HBW.out.size)
     have HE:=Lib.hid (show _∧_∧_∧_ from ⟨hst.1,hrr,hbb.grown hst.2 hbb.size (fun q hq=>by have:=HNE.out;simp only [Option.some.injEq] at hq;omega),Nat.lt_of_lt_of_le hlb hst.2.size⟩)
     clear hst hrr hbb hlb hkn S25
     go_simp
     exact hK undef _ HE.out
    refine calm_nil ?_
    refine ⟨keeps_one (m:=5) (fun k h=>by simpa using h) ⟨.inr (loose_isV _),.inr (loose_isV _),.inr (loose_ahead _),.inr (loose_ahead _),.inr (loose_ahead _),.inl rfl,trivial⟩,?_⟩
    intro w5 hc
    simp only [lexL,calmEnd]
    rintro _ rfl _ rfl v23 S23 v24 S24 v25 S25 _ hst5
    obtain ⟨wx,⟨h1,h2,h3,h4⟩,hq⟩:=hst5 rfl
    rw [←HJT.out] at h1
    have HJN:=Lib.hid (h1.kept hq)
    have HRN:=Lib.hid (h2.later hq)
    have HBN:=Lib.hid (h3.trans (hq.mono h3.size))
    have HSN:Hid (B3 < w5.heap.size):=Nat.lt_of_lt_of_le h4 hq.size
    clear hst5 h1 h2 h3 h4 hq hc S23 S24 S25 HCP HTJ HBJ HJ4 HR4 HBW HSZ4 HB4 HJT
    simp only [Act.put,List.setIfInBounds_toArray,List.set_cons_zero,List.set_cons_succ]
    go_wp2
    go_roundw
    case rel=>exact ⟨i+1,by go_num,HLT.out,HJN,HRN,HBN,HSN⟩
    case measure=>have:=HLT.out;simp [intOf];omega
   ·obtain rfl:i=nm:=by omega
    rw [←HNM.out] at HJ
    clear hnl hnm hlt
    obtain ⟨kA,kc,hbx,hoj,hkj⟩:=HJ.out
    obtain ⟨z0,z1,z2,z3,_⟩:=hbx.cells
    obtain ⟨r0,r1,r2,r3,_⟩:=HR.out.cells
    obtain ⟨f0,f1,f2,f3⟩:=HR.out.free
    have HRES:Hid (joinT (l.take n)=joinT l):=by
     show _=_
     rw [List.take_of_length_le (by rw [HN.out];exact Nat.le_refl _)]
    obtain ⟨jt,hjt⟩:∃ x,Hid (joinT l=x):=⟨_,rfl⟩
    rw [HRES.out,hjt.out] at hbx hoj hkj z0 z1 z2 z3
    have HOJ:=Lib.hid hoj
    have HKJ:=Lib.hid hkj
    clear hbx hoj hkj HJ
    obtain ⟨jo,jc,jb,jk⟩:=jt
    dsimp only [Trm.op,Trm.col,Trm.cell,Trm.kids] at *
    have HP:=Lib.hid (HR.out.putAll jo jc jb (.slice kA jk.length kc))
    have hg:=setCells_grown w.heap.size [.int .u8 jo,.int .i64 jc,.string jb,.slice kA jk.length kc] 0 wr
    simp only [World.setCells,Nat.zero_add,Nat.reduceAdd] at hg
    have HK9:=Lib.hid ((HKJ.out.off (v:=bx w.heap.size) (fun u hu=>hu.1) hg).any)
    have HBE:=Lib.hid ((((HB.out.setCell (p:=⟨w.heap.size,0,none⟩) (Nat.le_refl _) (.int .u8 jo)).setCell (p:=⟨w.heap.size,1,none⟩) (Nat.le_refl _) (.int .i64 jc)).setCell (p:=⟨w.heap.size,2,none⟩) (Nat.le_refl _) (.string jb)).setCell (p:=⟨w.heap.size,3,none⟩) (Nat.le_refl _) (.slice kA jk.length kc))
    clear hg HR HKJ
    generalize jk.length=jn at *
    go_wp2
    clear z0 z1 z2 z3 r0 r1 r2 r3 f0 f1 f2 f3
    obtain ⟨g0,g1,g2,g3,_⟩:=HP.out.cells
    refine ⟨rfl,.agg #[.int .u8 jo,.int .i64 jc,.string jb,.slice kA jn kc],?_,_,rfl,by rw [hjt.out];exact ⟨_,rfl,HOJ.out,HK9.out⟩,HBE.out⟩
    simp [results,Try.results16,go_sem,g0,g1,g2,g3]
theorem ref_true_gives (w:World):GivesAt Try.prog 19 #[] w (.agg #[.int .u8 107,.int .i64 0,.string yesC,.slice none 0 0]):=(ref_true_calls w).mono fun _ _ ⟨v,he,⟨kv,hv,_,hk⟩,hb⟩=>by
 obtain ⟨_,_,hq,_⟩:=hk.parts
 subst hq
 exact ⟨by rw [he,hv];rfl,hb⟩
set_option maxHeartbeats 8000000 in
set_option maxRecDepth 100000 in
theorem ref_join_calls {w:World}{v:Value}{l:List Trm}(h:KidsIn w v l)(hl:l.length≤1000000):Calls Try.prog 17 #[v] w (TermEnd w (joinT l)):=by
 obtain ⟨A,cap,rfl,-⟩:=kids_at h
 obtain ⟨n,hn⟩:∃ n,l.length=n:=⟨_,rfl⟩
 have HN:Hid (l.length=n):=hn
 rw [hn] at h hl ⊢
 have HK:=Lib.hid h
 have HL:Hid (n≤1000000):=hl
 clear h hl hn
 have ha1:=Below.alloc (.refl w.heap.size w) (Nat.le_refl _) (.cells #[.int .u8 0,.int .i64 0,.string ⟨#[]⟩,.slice none 0 0] 24)
 have hr:=trmbox_lit w 24 0 0 ⟨#[]⟩ (.slice none 0 0)
 have HR:=Lib.hid hr
 have HB:=Lib.hid ha1
 have HS1:Hid ((w.alloc (.cells #[.int .u8 0,.int .i64 0,.string ⟨#[]⟩,.slice none 0 0] 24)).heap.size=w.heap.size+1):=by show _=_;simp
 clear ha1 hr
 unfold TermEnd TermEndQ
 by_cases h0:n=0
 ·subst h0
  have HE:Hid (l=[]):=List.eq_nil_of_length_eq_zero HN.out
  go_enter Try.func17,Try.ntmps17
  go_wp2_with fail
  generalize World.alloc w _=w1 at *
  refine (ref_true_gives w1).stepB (w0:=w1) (B:=w1.heap.size) (.refl _ _) (Nat.le_refl _) ?_
  intro w2 _ _ hq
  have hr2:=HR.out.later hq
  obtain ⟨c0,c1,c2,c3,-⟩:=hr2.cells
  obtain ⟨f0,f1,f2,f3⟩:=hr2.free
  have HP:=Lib.hid (hr2.putAll 107 0 yesC (.slice none 0 0))
  have hb2:=HB.out.trans (hq.mono HB.out.size)
  have HBE:=Lib.hid ((((hb2.setCell (p:=⟨w.heap.size,0,none⟩) (Nat.le_refl _) (.int .u8 107)).setCell (p:=⟨w.heap.size,1,none⟩) (Nat.le_refl _) (.int .i64 0)).setCell (p:=⟨w.heap.size,2,none⟩) (Nat.le_refl _) (.string yesC)).setCell (p:=⟨w.heap.size,3,none⟩) (Nat.le_refl _) (.slice none 0 0))
  clear hr2 hb2 hq HR HB HS1
  go_wp2
  clear c0 c1 c2 c3 f0 f1 f2 f3
  obtain ⟨g0,g1,g2,g3,_⟩:=HP.out.cells
  refine ⟨rfl,trmA (.slice none 0 0,trueT),?_,_,rfl,?_,HBE.out⟩
  ·simp [results,Try.results17,go_sem,trmA,trueT,Trm.op,Trm.col,Trm.cell,g0,g1,g2,g3]
  ·rw [HE.out]
   exact ⟨_,rfl,true_ok.ok,KidsIn.nil_ _ _ _⟩
 ·have hn0:0 < l.length:=by rw [HN.out];omega
  have nz:¬(n:Int)=0:=by omega
  have nb:((n:Int)==0)=false:=by simp;omega
  obtain ⟨b0,o0,A3,p3,ea,hb0,hc0,ht0⟩:=kid_cells HK.out hn0
  subst ea
  simp only [Nat.zero_mul,Nat.add_zero] at hc0
  have HJ1:=Lib.hid (join_one hn0)
  have HC0:=Lib.hid hc0
  have n0:(0:Int) < (n:Int):=by omega
  have HN0:Hid (0 < n):=by show 0 < n;omega
  have hold:KidsIn w (.slice A3 l[0].kids.length p3) l[0].kids∧okT l[0]:=by
   obtain ⟨kv,ekv,hok,hk7⟩:=ht0
   have e7:kv=.slice A3 l[0].kids.length p3:=by
    unfold trmA at ekv
    simp only [Value.agg.injEq,Array.mk.injEq,List.cons.injEq,and_true,true_and] at ekv
    exact ekv.symm
   subst e7
   exact ⟨hk7,hok⟩
  obtain ⟨k0,k1,k2,k3⟩:=HC0.out.kept hb0 HB.out
  rw [←HJ1.out] at hold k0 k1 k2 k3
  have ha3:=Below.alloc (.refl _ (w.alloc (.cells #[.int .u8 0,.int .i64 0,.string ⟨#[]⟩,.slice none 0 0] 24))) (Nat.le_refl _) (.cells #[.int .u8 (joinT (l.take 1)).op,.int .i64 (joinT (l.take 1)).col,.string (joinT (l.take 1)).cell,.slice A3 (joinT (l.take 1)).kids.length p3] 24)
  have hb3:=trmbox_lit (w.alloc (.cells #[.int .u8 0,.int .i64 0,.string ⟨#[]⟩,.slice none 0 0] 24)) 24 (joinT (l.take 1)).op (joinT (l.take 1)).col (joinT (l.take 1)).cell (.slice A3 (joinT (l.take 1)).kids.length p3)
  rw [HS1.out] at hb3
  have HJ3:Hid (JAt w.heap.size (w.heap.size+1) ((w.alloc (.cells #[.int .u8 0,.int .i64 0,.string ⟨#[]⟩,.slice none 0 0] 24)).alloc (.cells #[.int .u8 (joinT (l.take 1)).op,.int .i64 (joinT (l.take 1)).col,.string (joinT (l.take 1)).cell,.slice A3 (joinT (l.take 1)).kids.length p3] 24)) (joinT (l.take 1))) :=
   ⟨A3,p3,hb3,hold.2,(hold.1.oldJ (Nat.le_refl _) (by omega)).kept (HB.out.trans (ha3.mono HB.out.size))⟩
  have HR3:=Lib.hid (HR.out.later ha3)
  have HB3:=Lib.hid (HB.out.trans (ha3.mono HB.out.size))
  clear hold ha3 hb3 HR HB HJ1 HC0 HS1 hc0 ht0 h0
  obtain ⟨jt,hjt⟩:∃ jt,Hid (jt=joinT (l.take 1)):=⟨_,rfl⟩
  rw [←hjt.out] at HJ3 HR3 HB3 k0 k1 k2 k3
  go_enter Try.func17,Try.ntmps17
  go_wp2
  clear k0 k1 k2 k3
  generalize World.alloc (World.alloc w _) _=w3 at *
  rw [hjt.out] at HJ3
  clear hjt
  go_loopw [4] (fun ix wr=>∃ i:Nat,ix=.int .i64 i∧1≤i∧i≤n∧Hid (JAt w.heap.size (w.heap.size+1) wr (joinT (l.take i)))∧Hid (TrmBox wr w.heap.size 0 0 ⟨#[]⟩ (.slice none 0 0))∧Hid (Below w.heap.size w wr)) (fun ix _=>n-(intOf ix).toNat)
  case atStart=>exact ⟨1,rfl,Nat.le_refl _,HN0.out,HJ3,HR3,HB3⟩
  case round =>
   clear HJ3 HR3 HB3
   obtain ⟨i1,rfl,hi1,hi,HJ,HR,HB⟩:=hrel
   obtain ⟨i,rfl⟩:∃ i,i1=i+1:=⟨i1-1,by omega⟩
   have hnl:=HL.out
   by_cases hlt:i+1 < n
   ·have hil:i+1 < l.length:=by rw [HN.out];exact hlt
    obtain ⟨b1,o1,A1,p1,ea,hb1,hc1,ht1⟩:=kid_cells HK.out hil
    simp only [Option.some.injEq,Addr.mk.injEq,and_true] at ea
    obtain ⟨rfl,rfl⟩:=ea
    have HJT:=Lib.hid (join_take hil)
    have HC1:=Lib.hid hc1
    have HT1:=Lib.hid ht1
    have ci:((i+1:Nat):Int)=(i:Int)+1:=by omega
    have j0:(0:Int)≤(i:Int)+1:=by omega
    have j1:(i:Int)+1 < (n:Int):=by omega
    have j2:((i:Int)+1).toNat=i+1:=by omega
    have q1:IntKind.i64.wrap ((i:Int)+1+1)=(i:Int)+1+1:=by rw [IntKind.wrap_i64];omega
    have HLT:Hid (i+1 < n):=hlt
    clear hc1 ht1 hnl hlt
    generalize l[i+1]=y at *
    clear hil
    obtain ⟨kA,kc,hbj,hoj,hkj⟩:=HJ.out
    have HBJ:=Lib.hid hbj
    have HTJ:Hid (TermQ (JQ w.heap.size (w.heap.size+1)) wr (.agg #[.int .u8 (joinT (l.take (i+1))).op,.int .i64 (joinT (l.take (i+1))).col,.string (joinT (l.take (i+1))).cell,.slice kA (joinT (l.take (i+1))).kids.length kc]) (joinT (l.take (i+1)))):=⟨_,rfl,hoj,hkj⟩
    have HTY:Hid (TermQ (JQ w.heap.size (w.heap.size+1)) wr (.agg #[.int .u8 y.op,.int .i64 y.col,.string y.cell,.slice A1 y.kids.length p1]) y):=by
     obtain ⟨kv,ekv,hok,hk7⟩:=HT1.out
     exact ⟨kv,ekv,hok,(KidsQ.oldJ hk7 (Nat.le_refl _) (by omega)).kept HB.out⟩
    clear hbj hoj hkj HT1
    generalize joinT (l.take (i+1))=ja at *
    generalize y.kids.length=n4 at *
    generalize y.op=o4 at *
    generalize y.col=c4 at *
    generalize y.cell=x4 at *
    go_wp2_with fail
    refine wp_region_calm (offC wr) (fun k=>k==7) (fun _=>false) anyE true (by kernel_rfl) (by kernel_rfl) (by kernel_rfl) (by kernel_rfl) (by intro m hm;revert hm;simp;try omega) (offC_stable _) (offC_start _) ?_
    refine calm_fixA rfl rfl ?_
    apply Exists.intro
    refine ⟨fun a wz hc hk hf K hK=>?_,?_⟩
    ·have hb:Below wr.heap.size wr wz:=hc rfl
     have h3:=hk 3 (by kernel_rfl)
     clear hk hf hc
     obtain ⟨z0,z1,z2,z3,-⟩:=(HBJ.out.later hb).cells
     go_simp
     exact hK _ _ (Below.refl _ _) rfl
    refine calm_fixA rfl rfl ?_
    apply Exists.intro
    refine ⟨fun a wz hc hk hf K hK=>?_,?_⟩
    ·have h0:=hk 0 (by kernel_rfl)
     clear hk hf hc
     go_simp
     exact hK _ _ (Below.refl _ _) rfl
    refine calm_fixA rfl rfl ?_
    apply Exists.intro
    refine ⟨fun a wz hc hk hf K hK=>?_,?_⟩
    ·have h4:=hk 4 (by kernel_rfl)
     clear hk hf hc
     go_simp
     exact hK _ _ (Below.refl _ _) rfl
    refine calm_fixA rfl rfl ?_
    apply Exists.intro
    refine ⟨fun a wz hc hk hf K hK=>?_,?_⟩
    ·have h19:=held_isV hf 1 rfl (by kernel_rfl)
     have h20:=held_isV hf 0 rfl (by kernel_rfl)
     clear hk hf hc
     go_simp
     exact hK _ _ (Below.refl _ _) rfl
    refine calm_fixA rfl rfl ?_
    apply Exists.intro
    refine ⟨fun a wz hc hk hf K hK=>?_,?_⟩
    ·have hb:Below wr.heap.size wr wz:=hc rfl
     have h21:=held_isV hf 0 rfl (by kernel_rfl)
     clear hk hf hc
     obtain ⟨k0,k1,k2,k3⟩:=HC1.out.kept hb1 (HB.out.trans (hb.mono HB.out.size))
     go_simp
     exact hK _ _ (Below.refl _ _) rfl
    refine calm_varA (AndP w.heap.size (w.heap.size+1) ja y) rfl rfl AndP.kept (fun a wz hc hk hf K hK=>?_) ?_
    ·have hb:Below wr.heap.size wr wz:=hc rfl
     have h18:=held_isV hf 4 rfl (by kernel_rfl)
     have h22:=held_isV hf 0 rfl (by kernel_rfl)
     clear hk hf hc
     have HM:=Lib.hid (and_made 24 (HTJ.out.kept hb) (HTY.out.kept hb) (Nat.lt_of_lt_of_le HR.out.cells.2.2.2.2 hb.size) (Nat.lt_of_lt_of_le HBJ.out.cells.2.2.2.2 hb.size))
     go_simp
     exact hK _ _ (Below.alloc (.refl _ _) (Nat.le_refl _) _) (fun _=>⟨_,rfl,HM.out⟩)
    refine calm_varA (AndT17 w.heap.size (w.heap.size+1) ja y) rfl rfl AndT17.kept (fun a wz hc hk hf K hK=>?_) ?_
    ·have hb:Below wr.heap.size wr wz:=hc rfl
     obtain ⟨v23,h23,S23⟩:=held_at hf 0 rfl (by kernel_rfl)
     clear hk hf hc
     obtain ⟨N,rfl,hkn⟩:=S23 rfl
     go_simp
     exact hK _ _ (Below.refl _ _) (fun _=>⟨N,rfl,hkn⟩)
    refine calm_storeA (fun wx=>JAt w.heap.size (w.heap.size+1) wx (andT ja y)∧TrmBox wx w.heap.size 0 0 ⟨#[]⟩ (.slice none 0 0)∧Below w.heap.size w wx) rfl (fun m h=>by simpa using h) (fun a wz hb hk hf K hK=>?_) ?_
    ·have h3:=hk 3 (by kernel_rfl)
     obtain ⟨v24,h24,S24⟩:=held_at hf 0 rfl (by kernel_rfl)
     clear hk hf
     obtain ⟨N,rfl,hkn⟩:=S24 rfl
     have hst:=(HJ.out.kept hb).store hkn
     obtain ⟨y0,y1,y2,y3,hlb⟩:=(HBJ.out.later hb).cells
     obtain ⟨f0,f1,f2,f3⟩:=(HBJ.out.later hb).free
     have hrr:=(HR.out.later hb).other hst.2 (by simp only [ne_eq,Option.some.injEq];omega)
     have hbb:=HB.out.trans (hb.mono HB.out.size)
     have HE:=Lib.hid (show _∧_∧_ from ⟨hst.1,hrr,hbb.grown hst.2 hbb.size (fun q hq=>by simp only [Option.some.injEq] at hq;omega)⟩)
     clear hst hrr hbb hlb hkn S24
     go_simp
     exact hK undef _ HE.out
    refine calm_nil ?_
    refine ⟨keeps_one (m:=7) (fun k h=>by simpa using h) ⟨.inr (loose_isV _),.inr (loose_isV _),.inr (loose_isV _),.inr (loose_isV _),.inr (loose_isV _),.inr (loose_ahead _),.inr (loose_ahead _),.inl rfl,trivial⟩,?_⟩
    intro w5 hc
    simp only [lexL,calmEnd]
    rintro _ rfl _ rfl _ rfl _ rfl _ rfl v23 S23 v24 S24 _ hst7
    obtain ⟨wx,⟨h1,h2,h3⟩,hq⟩:=hst7 rfl
    rw [←HJT.out] at h1
    have HJN:=Lib.hid (h1.kept hq)
    have HRN:=Lib.hid (h2.later hq)
    have HBN:=Lib.hid (h3.trans (hq.mono h3.size))
    clear hst7 h1 h2 h3 hq hc S23 S24 HTJ HTY HBJ HJ HR HB HJT HC1
    simp only [Act.put,List.setIfInBounds_toArray,List.set_cons_zero,List.set_cons_succ]
    go_wp2
    go_roundw
    case rel=>exact ⟨i+1+1,by go_num,by omega,HLT.out,HJN,HRN,HBN⟩
    case measure=>have:=HLT.out;simp [intOf];omega
   ·have hie:i+1=n:=by omega
    rw [hie] at HJ
    have j1:¬((i+1:Nat):Int) < (n:Int):=by omega
    clear hnl hlt hie
    obtain ⟨kA,kc,hbx,hoj,hkj⟩:=HJ.out
    obtain ⟨z0,z1,z2,z3,_⟩:=hbx.cells
    obtain ⟨r0,r1,r2,r3,_⟩:=HR.out.cells
    obtain ⟨f0,f1,f2,f3⟩:=HR.out.free
    have HRES:Hid (joinT (l.take n)=joinT l):=by
     show _=_
     rw [List.take_of_length_le (by rw [HN.out];exact Nat.le_refl _)]
    obtain ⟨jt,hjt⟩:∃ x,Hid (joinT l=x):=⟨_,rfl⟩
    rw [HRES.out,hjt.out] at hbx hoj hkj z0 z1 z2 z3
    have HOJ:=Lib.hid hoj
    have HKJ:=Lib.hid hkj
    clear hbx hoj hkj HJ
    obtain ⟨jo,jc,jb,jk⟩:=jt
    dsimp only [Trm.op,Trm.col,Trm.cell,Trm.kids] at *
    have HP:=Lib.hid (HR.out.putAll jo jc jb (.slice kA jk.length kc))
    have hg:=setCells_grown w.heap.size [.int .u8 jo,.int .i64 jc,.string jb,.slice kA jk.length kc] 0 wr
    simp only [World.setCells,Nat.zero_add,Nat.reduceAdd] at hg
    have HK9:=Lib.hid ((HKJ.out.off (v:=bx w.heap.size) (fun u hu=>hu.1) hg).any)
    have HBE:=Lib.hid ((((HB.out.setCell (p:=⟨w.heap.size,0,none⟩) (Nat.le_refl _) (.int .u8 jo)).setCell (p:=⟨w.heap.size,1,none⟩) (Nat.le_refl _) (.int .i64 jc)).setCell (p:=⟨w.heap.size,2,none⟩) (Nat.le_refl _) (.string jb)).setCell (p:=⟨w.heap.size,3,none⟩) (Nat.le_refl _) (.slice kA jk.length kc))
    clear hg HR HKJ
    generalize jk.length=jn at *
    go_wp2
    clear z0 z1 z2 z3 r0 r1 r2 r3 f0 f1 f2 f3
    obtain ⟨g0,g1,g2,g3,_⟩:=HP.out.cells
    refine ⟨rfl,.agg #[.int .u8 jo,.int .i64 jc,.string jb,.slice kA jn kc],?_,_,rfl,by rw [hjt.out];exact ⟨_,rfl,HOJ.out,HK9.out⟩,HBE.out⟩
    simp [results,Try.results17,go_sem,g0,g1,g2,g3]
end Go.Proofs.Ytnkhkkdmjabhnaa
